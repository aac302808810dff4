import PyProof.Rows.All
import Wide.All
import OpenK.AllK
import Wide.FinOn
import Lean
import PyProof.EqAt
import PyProof.EqKinds
import PyProof.TupleCall
import PyProof.NeKinds
import KE.KUnpack
import PySem.Challenge.RW_latticeworks_k51_all_answers
set_option Elab.async false
set_option linter.all false
set_option maxRecDepth 100000
def Rw:=@List.length_map
def Rx:=@List.getElem?_eq_some_iff
def Ry:=@Nat.le_refl
def Rz:=@PySem.wpAny_bind
def RB:=@List.getElem?_set_ne
def RC:=@List.getD_eq_getElem?_getD
def RD:=@Nat.le_trans
def RE:=@if_neg
def RF:=@if_pos
def RG:=@PySem.Heap.get?_push_of_some
def RH:=@List.getElem?_append_left
def RI:=@List.size_toArray
def RJ:=@List.getElem?_eq_getElem
def RK:=@List.getElem?_set_self
def RL:=@List.mem_append_right
def RN:=@Nat.le_of_ble_eq_true
def RO:=@Ne.symm
def RP:=@PySem.wpAny_pure
def RQ:=@List.mem_iff_getElem
def RT:=@PySem.Heap.lt_size
def RU:=@List.mem_cons
def RV:=@List.getElem?_map
def RW:=@Nat.lt_of_lt_of_le
def RX:=@List.mem_append
def RY:=@List.length_set
def RZ:=@List.mem_map
def R0:=@List.getElem_mem
def R6:=@Int.toNat_natCast
def R7:=@List.mem_cons_self
def R8:=@List.mem_cons_of_mem
def R9:=@Nat.pow_le_pow_right
def R_:=@List.mem_append_left
def Sa:=@PySem.Heap.get?_push_size
def Sb:=@List.mem_of_getElem?
def Sd:=@Nat.not_lt_zero
def Se:=@List.map_map
def Sf:=@Int.mul_zero
def Sg:=@Nat.zero_le
def Sh:=@List.getElem?_append_right
def Si:=@Nat.lt_succ_self
def Sj:=@Nat.ne_of_lt
def Sk:=@Nat.lt_succ_of_lt
def Sl:=@List.length_cons
def Sm:=@List.mem_singleton
def Sn:=@List.not_mem_nil
def So:=@Int.mul_assoc
def Sq:=@Nat.mul_le_mul
def Ss:=@Int.natAbs_mul
def Su:=@decide_eq_false
def Sv:=@List.mem_filter
def Sw:=@Int.fmod_nonneg_of_pos
def Sy:=@List.mem_or_eq_of_mem_set
def Sz:=@List.lookup_cons
def SA:=@List.all_eq_true
def SD:=@Option.some.inj
def SE:=@PySem.W.mg_none_of
def SF:=@PySem.mem_of_lookup
def SG:=@List.length_take
def SH:=@Int.zero_mul
def SI:=@Int.mul_comm
def SJ:=@Bool.false_ne_true
def SM:=@List.map_cons
def SN:=@Int.sub_eq_add_neg
def SO:=@Int.fmod_lt_of_pos
def SQ:=@List.drop_eq_getElem_cons
def SS:=@List.length_drop
def SV:=@Bool.and_eq_true
def SW:=@List.length_append
def SX:=@decide_eq_true
def SY:=@List.map_append
def S0:=@Nat.lt_irrefl
def S7:=@PyProof.Rows.wpS_bind
def S8:=@Nat.mul_le_mul_right
def S9:=@List.range_succ_eq_map
def S_:=@PySem.Heap.size_push
def Ta:=@Nat.le_of_lt
def Tb:=@Nat.mul_le_mul_left
def Tc:=@Int.mul_fdiv_add_fmod
def Td:=@not_false_eq_true
def Te:=@PyProof.Rows.slot_tuple_getitem
def Tf:=@Bool.false_eq_true
def Tg:=@PySem.wpAny_field
def Th:=@List.getElem_map
def Ti:=@Array.length_toList
def Tj:=@congrArg
def To:=@PySem.W.kia_one
def Tp:=@List.append_nil
def Tq:=@PySem.wpAny_callSpecial?_slot
def Tr:=@List.length_eq_zero_iff
def Ts:=@Int.eq_ofNat_of_zero_le
def Tt:=@Int.add_zero
def Tu:=@Nat.pow_succ
def Tv:=@List.drop_eq_nil_of_le
def Tw:=@List.append_assoc
def Tx:=@List.replicate_succ
def Tz:=@List.map_congr_left
def TC:=@Nat.mul_comm
def TF:=@Nat.lt_trans
def TH:=@PySem.sizeLine_eq
def TJ:=@Int.neg_mul
def TK:=@PyProof.Rows.wpS_pure
def TL:=@Int.mul_nonpos_of_nonneg_of_nonpos
def TM:=@PyProof.Rows.callWith_type1
def TN:=@List.length_nil
def TQ:=@beq_eq_false_iff_ne
def TR:=@PySem.Heap.SameBut.update
def TU:=@Nat.sub_self
def TV:=@Int.zero_add
def TX:=@Nat.pow_add
def TY:=@PySem.wpAny_mono
def TZ:=@Nat.le_of_not_lt
def T3:=@Int.lt_of_not_ge
def T4:=@List.mem_range
def T5:=@Classical.byContradiction
def T6:=@List.getElem?_take_of_lt
def T7:=@Int.le_of_lt
def T8:=@List.mem_of_mem_take
def T9:=@List.flatten_cons
def T_:=@List.all_cons
def Ua:=@Nat.le_mul_of_pos_right
def Ub:=@if_false
def Uc:=@PySem.wpAny_call_entry
def Ud:=@PySem.wpAny_seqItems
def Ue:=@Int.natAbs_neg
def Ug:=@PySem.W.cellsFrom_some
def Uh:=@PySem.wpAny_setField_rec
def Ui:=@Nat.lt_or_ge
def Uj:=@PySem.wpAny_passesOwn
def Uk:=@List.nodup_cons
def Ul:=@if_true
def Um:=@PySem.F.slot_tuple_iterator_next
def Uo:=@PySem.wpAny_newObj_type
def Up:=@PySem.wpAny_pyIter_list
def Uq:=@Nat.lt_trichotomy
def Ur:=@Int.mul_nonpos_of_nonpos_of_nonneg
def Us:=@beq_iff_eq
def Ut:=@Nat.le_succ
def Uu:=@Nat.mul_one
def Uv:=@Nat.ne_of_gt
def Uw:=@Option.isSome_iff_exists
def Ux:=@List.mem_of_mem_eraseIdx
def Uy:=@PySem.wpAny_holding
def UA:=@List.cons.inj
def UB:=@PySem.wpAny_Call_Name_kw
def UC:=@PySem.call_meets
def UD:=@Option.map_some
def UE:=@PySem.wpAny_pyIter_tuple
def UG:=@List.pairwise_cons
def UH:=@Int.lt_or_gt_of_ne
def UI:=@List.range_succ
def UJ:=@or_false
def UK:=@and_true
def UL:=@Nat.one_mul
def UM:=@Nat.le_mul_of_pos_left
def UN:=@PySem.wpAny_truthy_bool
def UO:=@Int.ne_of_gt
def UP:=@List.getElem?_concat_length
def UQ:=@PySem.F.slot_tuple_mul
def UR:=@List.mem_of_mem_drop
def US:=@Nat.mul_assoc
def UT:=@List.filterMap_cons
def UU:=@List.getElem?_range
def UW:=@Int.eq_zero_of_dvd_of_natAbs_lt_natAbs
def UX:=@List.filter_eq_self
def UY:=@List.cons.injEq
def UZ:=@PyProof.Rows.get?_update_seq
def U0:=@List.mem_filterMap
def U8:=@PySem.F.args_tuple_add_2
def U9:=@not_or
def U_:=@Nat.zero_add
def Va:=@Nat.one_le_two_pow
def Vb:=@Nat.lt_or_gt_of_ne
def Vc:=@List.filter_append
def Vd:=@PySem.wpAny_rule
def Ve:=@PySem.F.entry_tuple_add
def Vf:=@PySem.F.plainAttrs_list
def Vg:=@List.getElem?_cons_succ
def Vh:=@List.filter_cons_of_pos
def Vi:=@List.filter_cons_of_neg
def Vj:=@PySem.W.kitx_list
def Vk:=@PySem.W.kitx_dict
def Vl:=@List.pairwise_map
def Vm:=@Nat.mul_left_comm
def Vn:=@Int.mul_nonneg_of_nonpos_of_nonpos
def Vo:=@Int.mul_one
def Vp:=@PySem.F.slot_tuple_add
def Vq:=@List.take_of_length_le
def Vr:=@Int.one_mul
def Vs:=@Int.sub_mul
def Vt:=@Nat.add_mul
def Vu:=@Bool.and_true
def Vv:=@List.map_take
def Vw:=@beq_self_eq_true
def Vx:=@Array.getElem?_toList
def Vy:=@List.lookup_cons_self
def VA:=@Classical.choose_spec
def VB:=@PySem.wpAny_execs_nil
def VC:=@Bool.eq_iff_iff
def VD:=@Nat.le_of_eq
def VE:=@List.of_mem_zip
def VF:=@PySem.F.slot_int_rmul
def VG:=@PySem.wpAny_ite_false
def VH:=@PySem.wpAny_updateSeq_pair
def VI:=@PySem.F.slot_zip_next
def VJ:=@PyProof.Rows.wpS_forRange
def VL:=@Int.mul_ne_zero
def VM:=@Nat.min_eq_left
def VN:=@List.length_eraseIdx
def VO:=@Int.mul_le_mul_of_nonneg_left
def VP:=@PySem.W.plainGet_of
def VQ:=@List.mem_map_of_mem
def VR:=@Nat.pow_le_pow_left
def VT:=@PySem.F.args_tuple_iterator_next_1
def VU:=@Int.le_refl
def VV:=@Int.mul_add
def VW:=@Int.add_mul
def VX:=@PySem.W.callWith_K
def VY:=@PySem.F.args_tuple_mul_2
def VZ:=@PySem.F.entry_tuple_iterator_next
def V0:=@PySem.Calls.Name_function_global
def V1:=@PySem.wpAny_standAt
def V2:=@PySem.wpAny_onRaise
def V3:=@PySem.wpAny_attempt
def V4:=@PyProof.Rows.listUpdate_at
def V5:=@Nat.le_of_succ_le
def V6:=@PySem.F.entry_tuple_mul
def V7:=@PySem.typeIs_int
def V8:=@PySem.wpAny_binaryOp_repeat_ref
def V9:=@bne_iff_ne
def V_:=@List.getElem?_eq_none_iff
def Wa:=@List.pairwise_iff_getElem
def Wb:=@Int.mul_pos_of_neg_of_neg
def Wc:=@PySem.codeAny_mono
def Wd:=@PySem.noFill_tuple_add
def We:=@Nat.succ_mul
def Wh:=@List.cons_append
def Wi:=@PySem.wpAny_comprehension_free
def Wj:=@Nat.min_self
def Wk:=@decide_eq_decide
def Wl:=@decide_false
def Wm:=@List.ext_getElem
def Wn:=@Nat.zero_mul
def Wo:=@Int.sub_self
def Wq:=@Nat.succ_lt_succ
def Wr:=@List.getElem?_replicate
def Ws:=@List.forIn_cons
def Wt:=@List.nil_append
def Wu:=@Bool.or_eq_true
def Wv:=@List.length_zip
def Ww:=@beq_false_of_ne
def Wx:=@Int.mul_eq_zero
def Wy:=@Nat.le_antisymm
def Wz:=@PySem.Heap.get?_update_other
def WA:=@Option.map_eq_some_iff
def WB:=@Prod.mk.inj
def WC:=@PySem.wpAny_letGo
def WD:=@decide_true
def WE:=@PyProof.Rows.wpS_reverse
def WG:=@PyProof.Rows.mirror_perm
def WH:=@Nat.pow_pos
def WI:=@List.zipWith_cons_cons
def WJ:=@List.drop_of_length_le
def WK:=@List.length_replicate
def WL:=@List.length_singleton
def WM:=@List.forIn_nil
def WN:=@Bool.and_false
def WO:=@List.getElem?_eq_none
def WQ:=@Int.mul_nonneg
def WR:=@Int.eq_of_sub_eq_zero
def WS:=@List.set_append_right
def WT:=@List.filterMap_append
def WU:=@List.take_append_drop
def WV:=@List.eq_replicate_iff
def WW:=@PySem.Walks.list
def WX:=@PySem.seq_tuple_add
def WY:=@PySem.wpAny_newList
def WZ:=@Prod.mk.injEq
def W0:=@PySem.concat_meets
def W2:=@PySem.wpAny_typeOf
def W3:=@List.map_set
def W4:=@List.all_nil
namespace L2
open PySem PySem.Spec PyProof.Rows
abbrev Key:=Sum Int Str
def Jl:Key->Value->Bool
 | .inl k,v=>Value.isInt k v
 | .inr x,v=>Value.isStrOf x v
def QT(w:World):Key->Int
 | .inl k=>hashInt k
 | .inr x=>hashStr w x
def fQ:∀ {k:Key} {v:Value},Jl k v=true->(∃i t,k=Sum.inl i/\v=Value.int i t)\/(∃x t,k=Sum.inr x/\v=Value.str x t)
 | .inl i,v,h=>by
   obtain⟨t,e⟩:=Value.isInt_shape (k:=i) (v:=v) h;exact .inl ⟨i,t,rfl,e⟩
 | .inr x,v,h=>by
   obtain⟨t,e⟩:=Value.isStrOf_shape (x:=x) (v:=v) h;exact .inr ⟨x,t,rfl,e⟩
def Mm(a b:Int):decide ((Sum.inl a:Key)=Sum.inl b)=(a==b):=by
 by_cases e:a=b
 . subst e;simp
 . have h:¬(Sum.inl a:Key)=Sum.inl b:=λ q=>e (Sum.inl.inj q);rw[Su h];exact(TQ.mpr e).symm
def Nz(a b:Str):decide ((Sum.inr a:Key)=Sum.inr b)=decide (a=b):=by
 by_cases e:a=b
 . subst e;simp
 . have h:¬(Sum.inr a:Key)=Sum.inr b:=λ q=>e (Sum.inr.inj q);rw[Su h,Su e]
def Lz(a:Int)(b:Str):decide ((Sum.inl a:Key)=Sum.inr b)=false:=Su (λ q=>nomatch q)
def L8(a:Str)(b:Int):decide ((Sum.inr a:Key)=Sum.inl b)=false:=Su (λ q=>nomatch q)
def Cp(prog:Program)(w:World):PySem.KeyKind prog w Key where
 is:=Jl
 hash:=QT w
 inj:=λ v a b ha hb=>by
  rcases fQ ha with⟨i,t,rfl,rfl⟩|⟨x,t,rfl,rfl⟩
  . rcases fQ hb with⟨j,u,rfl,e⟩|⟨y,u,rfl,e⟩
    . injection e with e1 _;rw[e1]
    . exact nomatch e
  . rcases fQ hb with⟨j,u,rfl,e⟩|⟨y,u,rfl,e⟩
    . exact nomatch e
    . injection e with e1 _;rw[e1]
 byValue:=λ k v h=>by
  rcases fQ h with⟨i,t,rfl,rfl⟩|⟨x,t,rfl,rfl⟩<;>rfl
 pyHash:=λ hv h=>by
  rcases fQ hv with⟨i,t,rfl,rfl⟩|⟨x,t,rfl,rfl⟩
  . exact wpAny_pyHash_int h
  . exact wpAny_pyHash_str h
 eqBool:=λ hu hv h=>by
  rcases fQ hu with⟨i,t,rfl,rfl⟩|⟨x,t,rfl,rfl⟩
  . rcases fQ hv with⟨j,u,rfl,rfl⟩|⟨y,u,rfl,rfl⟩
    . rw[Mm]at h;exact wpAny_eqBool_int h
    . rw[Lz]at h;exact SeqAt.EqAt.int_str i t y u _ _ _ _ h
  . rcases fQ hv with⟨j,u,rfl,rfl⟩|⟨y,u,rfl,rfl⟩
    . rw[L8]at h;exact SeqAt.EqAt.str_int x t j u _ _ _ _ h
    . rw[Nz]at h;exact wpAny_eqBool_str h
 «strs» :=λ k x t v h=>by
  rcases fQ h with⟨i,u,rfl,e⟩|⟨y,u,rfl,e⟩
  . exact nomatch e
  . injection e with e1 _;subst e1;cases v<;>rfl
inductive V where
 |aF|bl (b:Bool)|int (i:Int)|str (x:Str)|vn (b:Array UInt8)|vq (b:UInt64)|ref (a:Addr)|ty (n:String)
 deriving DecidableEq
def RelV:V->Value->Prop
 | .aF,u=>u=Value.none
 | .bl b,u=>u=Value.bool b
 | .int i,u=>∃t,u=Value.int i t
 | .str x,u=>∃t,u=Value.str x t
 | .vn b,u=>∃t,u=Value.bytes b t
 | .vq b,u=>∃t,u=Value.float b t
 | .ref a,u=>u=Value.ref a
 | .ty n,u=>u=Value.type n
abbrev Vals:List V->List Value->Prop:=Paired RelV
def Vals.length{xs:List V}{us:List Value}(r:Vals xs us):xs.length=us.length:=Paired.length r
def Vals.get:∀ {xs:List V} {us:List Value} {i:Nat} {x:V},Vals xs us->xs[i]?=some x->∃u,us[i]?=some u/\RelV x u
 |_,_,_,_,.nil,e=>by simp at e
 |_,_,0,_,.cons r _,e=>by simp at e;subst e;exact⟨_,rfl,r⟩
 |_,_,i+1,x,.cons _ t,e=>by
  obtain⟨u,h1,h2⟩:=Vals.get (i:=i) (x:=x) t (by simpa using e);exact⟨u,by simpa using h1,h2⟩
def Vals.set{x:V}{u:Value}(r:RelV x u):∀ {xs:List V} {us:List Value} (i:Nat),Vals xs us->Vals (xs.set i x) (us.set i u)
 |_,_,_,.nil=> .nil
 |_,_,0,.cons _ t=> .cons r t
 |_,_,i+1,.cons q t=> .cons q (Vals.set r i t)
def Vals.append:∀ {xs ys:List V} {us ws:List Value},Vals xs us->Vals ys ws->Vals (xs++ys) (us++ws)
 |_,_,_,_,.nil,s=>s
 |_,_,_,_,.cons r t,s=> .cons r (Vals.append t s)
def Vals.take:∀ {xs:List V} {us:List Value} (n:Nat),Vals xs us->Vals (xs.take n) (us.take n)
 |_,_,0,_=> .nil
 |_,_,_+1,.nil=> .nil
 |_,_,n+1,.cons r t=> .cons r (Vals.take n t)
def Vals.drop:∀ {xs:List V} {us:List Value} (n:Nat),Vals xs us->Vals (xs.drop n) (us.drop n)
 |_,_,0,r=>r
 |_,_,_+1,.nil=> .nil
 |_,_,n+1,.cons _ t=>Vals.drop n t
def qU:Option V->Option Value->Prop
 |some v,some u=>RelV v u
 |none,none=>True
 |_,_=>False
def KV{κ:Type}:List (κ×V)->List (κ×Value)->Prop:=Paired λ(p:κ×V) (q:κ×Value)=>p.1=q.1/\RelV p.2 q.2
def kV:Key->V
 | .inl i=> .int i
 | .inr x=> .str x
inductive HO where
 |lst (xs:List V)
 |tup (xs:List V)
 |dK (kvs:List (Key×V))|dT (kvs:List (List Key×V))
 |set (S:Int->Bool) (n:Nat)
 |ins (C dx:Addr) (fs:List (Str×V))
 |own (x:Addr)
 |xd (fs:List (Str×V))
 |met (f x:Addr)
 |LQ (lo hi:Int)
 |fz (o:Obj) (u:HO)
 |l6 (ps:Array Value)
 |ext (φ:Heap->Prop)
abbrev Hp:=Addr->Option HO
def upd(H:Hp)(a:Addr)(o:HO):Hp:=λ b=>if b=a then some o else H b
def aW{H:Hp}{a:Addr}{o:HO}:upd H a o a=some o:=by unfold upd;rw[RF rfl]
def aB{H:Hp}{a b:Addr}{o:HO}(h:b≠a):upd H a o b=H b:=by unfold upd;rw[RE h]
def J0{H:Hp}{a:Addr}{o u:HO}:upd (upd H a o) a u=upd H a u:=by
 funext b;unfold upd;split<;>rfl
def eL{H:Hp}{a b:Addr}{o:HO}(h:H a=some o)(h':H b=none):a≠b:=by
 intro e;subst e;rw[h]at h';cases h'
section
variable (P:Program)(w:World)
def eN(H:Hp)(h:Heap)(a:Addr):HO->Prop
 | .lst xs=>xs.length<=sizeLine/\∃(its:List Value) (n:Nat),Vals xs its/\h.get? a=some {cls:= .type "list",data:= .seq its.toArray n}
 | .tup xs=>xs.length<=sizeLine/\∃its:List Value,Vals xs its/\IsTup h a its.toArray
 | .dK kvs=>kvs.length<=sizeLine/\(a==sysModules)=false/\∃vs,KV kvs vs/\h.DictOf (Cp P w) a vs
 | .dT kvs=>kvs.length<=sizeLine/\(a==sysModules)=false/\∃xs:List (List Key×Addr×Value),
    Paired (λ(p:List Key×V) (q:List Key×Addr×Value)=>p.1=q.1/\H q.2.1=some (.tup (p.1.map kV))/\RelV p.2 q.2.2) kvs xs/\
    ∃o es ep,h.get? a=some o/\o.ExactDict/\o.data= .dict es ep/\es.toList=xs.map (entryOfKey (tupleKind (Cp P w)))/\(xs.map (·.1)).Nodup
 | .set S n=>h.SetOf (intKind P w) a S n
 | .ins C dx fs=>H dx=some (.own a)/\fs.length<=1000/\dx≠a/\h.get? a=some (PySem.W.instObj C dx)/\
    ∃mA,h.Ns1 dx mA/\(∀f,qU (fs.lookup f) (mA f))/\PySem.Within mA (fs.map (·.1))
 | .own _=>∃o,h.get? a=some o
 | .xd fs=>∃mA,h.Ns1 a mA/\∀f,qU (fs.lookup f) (mA f)
 | .LQ lo hi=>∃t u v,h.get? a=some {cls:= .type "range",data:= .fields #[.int lo t,.int hi u,.int 1 v]}
 | .fz o u=>h.get? a=some o/\eN H h a u
 | .l6 ps=>h.get? a=some {cls:= .none,data:= .fields ps}
 | .met f x=>h.get? a=some (PySem.W.methodObj (.ref f) (.ref x))
 | .ext φ=>φ h/\(∃o,h.get? a=some o)/\∀h1 h2:Heap,φ h1->(∀o,h1.get? a=some o->h2.get? a=some o)->φ h2
def jd(H:Hp)(h:Heap):Prop:=∀a o,H a=some o->eN P w H h a o
end
section
variable {P:Program}{w:World}{H H':Hp}{h h':Heap}{a:Addr}{o:HO}
def eN.lt(x:eN P w H h a o):a<h.objs.size:=by
 cases o with
 |lst xs=>obtain⟨_,_,_,_,e⟩:=x;exact RT e
 |tup xs=>obtain⟨_,_,_,p⟩:=x;exact p.lt
 |dK kvs=>obtain⟨_,_,_,_,o,_,_,e,_⟩:=x;exact RT e
 |dT kvs=>obtain⟨_,_,_,_,o,_,_,e,_⟩:=x;exact RT e
 |set S n=>obtain⟨o,_,_,_,e,_⟩:=x;exact RT e
 |ins C dx fs=>obtain⟨_,_,_,e,_⟩:=x;exact RT e
 |own y=>obtain⟨_,e⟩:=x;exact RT e
 |xd fs=>obtain⟨_,⟨_,_,_,e,_⟩,_⟩:=x;exact RT e
 |LQ lo hi=>obtain⟨_,_,_,e⟩:=x;exact RT e
 |fz ob u=>obtain⟨e,_⟩:=x;exact RT e
 |l6 ps=>exact RT (show h.get? a=some _ from x)
 |met f y=>exact RT (show h.get? a=some _ from x)
 |ext φ=>obtain⟨_,⟨_,e⟩,_⟩:=x;exact RT e
def Paired.He{α β:Type}{F G:α->β->Prop}:∀ {l₁:List α} {l₂:List β},Paired F l₁ l₂->(∀a b,F a b->G a b)->Paired G l₁ l₂
 |_,_,.nil,_=> .nil
 |_,_,.cons r t,f=> .cons (f _ _ r) (Paired.He t f)
def eN.qO(x:eN P w H h a o)(k:∀b u,(b=a\/H b=some (.own a))->h.get? b=some u->h'.get? b=some u)
 (ho:∀b,H b=some (.own a)->H' b=some (.own a)) (ht:∀b xs,H b=some (.tup xs)->H' b=some (.tup xs)):eN P w H' h' a o:=by
 induction o with
 |lst xs=>obtain⟨z,its,n,r,e⟩:=x;exact⟨z,its,n,r,k _ _ (.inl rfl) e⟩
 |tup xs=>obtain⟨z,its,r,ob,e,c⟩:=x;exact⟨z,its,r,ob,k _ _ (.inl rfl) e,c⟩
 |dK kvs=>obtain⟨z,y,vs,r,ob,es,ep,e,c⟩:=x;exact⟨z,y,vs,r,ob,es,ep,k _ _ (.inl rfl) e,c⟩
 |dT kvs=>
  obtain⟨z,y,xs,r,ob,es,ep,e,c⟩:=x;exact⟨z,y,xs,Paired.He r λ p q z=>⟨z.1,ht _ _ z.2.1,z.2.2⟩,ob,es,ep,k _ _ (.inl rfl) e,c⟩
 |set S n=>obtain⟨ob,es,ep,t,e,c⟩:=x;exact⟨ob,es,ep,t,k _ _ (.inl rfl) e,c⟩
 |ins C dx fs=>
  obtain⟨d,z,ne,e,mA,⟨od,es,ep,e2,c⟩,r⟩:=x;exact⟨ho _ d,z,ne,k _ _ (.inl rfl) e,mA,⟨od,es,ep,k _ _ (.inr d) e2,c⟩,r⟩
 |own y=>obtain⟨ob,e⟩:=x;exact⟨ob,k _ _ (.inl rfl) e⟩
 |xd fs=>obtain⟨mA,⟨od,es,ep,e,c⟩,r⟩:=x;exact⟨mA,⟨od,es,ep,k _ _ (.inl rfl) e,c⟩,r⟩
 |LQ lo hi=>obtain⟨t,u,v,e⟩:=x;exact⟨t,u,v,k _ _ (.inl rfl) e⟩
 |fz ob u ih=>obtain⟨e,q⟩:=x;exact⟨k _ _ (.inl rfl) e,ih q⟩
 |l6 ps=>
  have e:h.get? a=some {cls:= .none,data:= .fields ps}:=x;show h'.get? a=some {cls:= .none,data:= .fields ps};exact k a _ (.inl rfl) e
 |met f y=>
  have e:h.get? a=some (PySem.W.methodObj (.ref f) (.ref y)):=x;show h'.get? a=some (PySem.W.methodObj (.ref f) (.ref y));exact k a _ (.inl rfl) e
 |ext φ=>obtain⟨p,⟨o,e⟩,st⟩:=x;exact⟨st _ _ p λ o q=>k _ _ (.inl rfl) q,⟨o,k _ _ (.inl rfl) e⟩,st⟩
def jd.lt(x:jd P w H h)(e:H a=some o):a<h.objs.size:=(x a o e).lt
def jd.fresh(x:jd P w H h)(e:h.objs.size<=a):H a=none:=by
 cases q:H a with
 |none=>rfl
 |some u=>exact absurd (RW (x.lt q) e) (S0 _)
def jd.kept(x:jd P w H h)(k:∀b u,h.get? b=some u->h'.get? b=some u):jd P w H h':=λ a o e=>
 (x a o e).qO (λ b u _ q=>k b u q) (λ _ q=>q) λ _ _ q=>q
def jd.laid(x:jd P w H h)(k:∀b u,h.get? b=some u->h'.get? b=some u)(hp:h.objs.size<=a)(new:eN P w (upd H a o) h' a o):jd P w (upd H a o) h':=λ b u e=>by
 have hn:=x.fresh hp;by_cases hb:b=a
 . subst hb;rw[aW]at e;cases e;exact new
 . rw[aB hb]at e;exact(x b u e).qO (λ c v _ q=>k c v q) (λ c q=>by rw[aB (eL q hn)];exact q) λ c xs q=>by rw[aB (eL q hn)];exact q
end
def Rd(H:Hp)(a:Addr)(u:HO):Prop:=H a=some u\/∃o,H a=some (.fz o u)
def Rd.of{H:Hp}{a:Addr}{u:HO}(h:H a=some u):Rd H a u:= .inl h
def Rd.ok{P:Program}{w:World}{H:Hp}{h:Heap}{a:Addr}{u:HO}(r:Rd H a u)(x:jd P w H h):eN P w H h a u:=by
 rcases r with r|⟨o,r⟩
 . exact x a u r
 . obtain⟨_,q⟩:=x a _ r;exact q
def Jt:Option HO->Prop
 |some (.lst _)=>True
 |some (.dK _)=>True
 |some (.dT _)=>True
 |some (.set _ _)=>True
 |some (.ins _ _ _)=>True
 |some (.ext _)=>True
 |_=>False
section
variable {P:Program}{w:World}{H:Hp}{h h':Heap}{x e:Addr}{o':HO}
def jd.write(ok:jd P w H h)(mu:Jt (H x))(he:e=x\/H e=some (.own x))(k:∀b u,b≠e->h.get? b=some u->h'.get? b=some u)(heo:∃u,h'.get? e=some u)
 (new:eN P w (upd H x o') h' x o'):jd P w (upd H x o') h':=λ b u q=>by
 have nown:∀c y,H c=some (.own y)->c≠x:=λ c y r z=>by subst z;rw[r]at mu;exact mu
 have ntup:∀c xs,H c=some (.tup xs)->c≠x:=λ c xs r z=>by subst z;rw[r]at mu;exact mu
 by_cases hb:b=x
 . subst hb;rw[aW]at q;cases q;exact new
 . rw[aB hb]at q;by_cases hbe:b=e
   . have q':H b=some (.own x):=by
      rcases he with z|z
      . exact absurd (hbe.trans z) hb
      . rw[hbe];exact z
     rw[q]at q';cases q';obtain⟨v,hv⟩:=heo;exact⟨v,by rw[hbe];exact hv⟩
   . refine(ok b u q).qO (λ c v hc r=>k c v ?_ r) (λ c r=>by rw[aB (nown c b r)];exact r) λ c xs r=>by rw[aB (ntup c xs r)];exact r
     rcases hc with rfl|hc
     . exact hbe
     . rintro rfl;rcases he with z|z
       . exact nown c b hc z
       . rw[hc]at z;cases z;exact hb rfl
end
structure Un(fs ex:List Addr)(H H':Hp)(h h':Heap):Prop where
 keep:∀b o,h.get? b=some o->H b=none->b∉fs->b∉ex->h'.get? b=some o
 slot:∀b o,h.get? b=some o->H b=none->b∈fs->b∉ex->∃sl,h'.get? b=some {o with slots:=sl}
 free:∀b o,h.get? b=some o->H b=none->b∉ex->H' b=none
 there:∀b o,h.get? b=some o->b∉ex->∃o',h'.get? b=some o'
 qL:∀b xs,H b=some (.tup xs)->H' b=some (.tup xs)
 pN:∀b o u,H b=some (.fz o u)->H' b=some (.fz o u)
 pP:∀b ps,H b=some (.l6 ps)->∃more,H' b=some (.l6 (ps++more))
section
variable {fs fs' ex ex':List Addr}{H H1 H2:Hp}{h h1 h2 h':Heap}{a x e:Addr}{o:HO}
def Un.any(u:Un fs ex H H1 h h1){b:Addr}{ob:Obj}(q:h.get? b=some ob)(n:H b=none)(hx:b∉ex):∃sl,h1.get? b=some {ob with slots:=sl}:=by
 by_cases hb:b∈fs
 . exact u.slot b ob q n hb hx
 . exact⟨ob.slots,u.keep b ob q n hb hx⟩
def Un.kept(k:∀b u,h.get? b=some u->h'.get? b=some u):Un fs ex H H h h':=
 ⟨λ b ob q _ _ _=>k b ob q,λ b ob q _ _ _=>⟨ob.slots,k b ob q⟩,λ _ _ _ n _=>n,λ b ob q _=>⟨ob,k b ob q⟩,λ _ _ q=>q,λ _ _ _ q=>q,λ _ ps q=>⟨#[],by rw[q];simp⟩⟩
def Un.refl:Un fs ex H H h h:=Un.kept λ _ _ q=>q
def Un.laid(k:∀b u,h.get? b=some u->h'.get? b=some u)(hp:h.objs.size<=a)(hn:H a=none):Un fs ex H (upd H a o) h h' where
 keep:=λ b u q _ _ _=>k b u q
 slot:=λ b u q _ _ _=>⟨u.slots,k b u q⟩
 free:=λ b u q n _=>by rw[aB (Sj (RW (RT q) hp))];exact n
 there:=λ b u q _=>⟨u,k b u q⟩
 qL:=λ b xs q=>by rw[aB (eL q hn)];exact q
 pN:=λ b u xs q=>by rw[aB (eL q hn)];exact q
 pP:=λ b ps q=>⟨#[],by rw[aB (eL q hn),q];simp⟩
def Un.write(mu:Jt (H x))(he:e=x\/H e=some (.own x))(k:∀b u,b≠e->h.get? b=some u->h'.get? b=some u)(heo:∃u,h'.get? e=some u):Un fs ex H (upd H x o) h h':=by
 have hx:∀b,H b=none->b≠x:=λ b n z=>by subst z;rw[n]at mu;exact mu
 have hb:∀b,H b=none->b≠e:=λ b n z=>by
  subst z;rcases he with r|r
  . exact hx b n r
  . rw[n]at r;cases r
 have hm:∀b u,H b=some u->¬Jt (some u)->b≠x:=λ b u q nm z=>by subst z;rw[q]at mu;exact nm mu
 refine⟨λ b u q n _ _=>k b u (hb b n) q,λ b u q n _ _=>⟨u.slots,k b u (hb b n) q⟩,λ b u q n _=>by rw[aB (hx b n)];exact n,λ b u q _=>?_,
  λ b xs q=>by rw[aB (hm b _ q λ z=>z)];exact q,λ b u xs q=>by rw[aB (hm b _ q λ z=>z)];exact q,λ b ps q=>⟨#[],by rw[aB (hm b _ q λ z=>z),q];simp⟩⟩
 by_cases hbe:b=e
 . subst hbe;exact heo
 . exact⟨u,k b u hbe q⟩
end
def IJ(h:Heap)(H:Hp):List Addr:=(List.range h.objs.size).filter λ a=>(H a).isSome
def qK(h:Heap)(H:Hp):Heap:=PySem.W.hideAll h (IJ h H)
def Ge(h:Heap)(H:Hp):(qK h H).objs.size=h.objs.size:=PySem.W.hideAll_size _ _
def si{h:Heap}{H:Hp}{b:Addr}{o:Obj}(e:h.get? b=some o)(n:H b=none):(qK h H).get? b=some o:=
 PySem.W.hideAll_get _ e λ hm=>by
  have q:(H b).isSome=true:=(Sv.mp hm).2;rw[n]at q;simp at q
def Kt{h:Heap}{H:Hp}{b:Addr}{o:Obj}(e:(qK h H).get? b=some o):h.get? b=some o/\H b=none:=by
 have e':h.get? b=some o:=PySem.W.of_hideAll (IJ h H) e;refine⟨e',?_⟩;cases q:H b with
 |none=>rfl
 |some x=>
  have hm:b∈IJ h H:=Sv.mpr ⟨T4.mpr (RT e'),by simp[q]⟩;have z:(qK h H).get? b=none:=PySem.W.hideAll_none (IJ h H) hm;rw[z]at e;cases e
def Ll(g h:Heap)(L:Addr):List (Addr×Obj):=(List.range h.objs.size).filterMap λ a=>if a=L\/(g.get? a).isSome=true then none else(h.get? a).map λ o=>(a,o)
def rest(g h:Heap)(L d:Addr):List (Addr×Obj):=(Ll g h L).filter λ p=>decide (p.1≠d)
structure Mod(K:PySem.W.Frag)(mg:Str->Option Value)(base:Heap):Prop where
 EG:K.In base
 glob:base.Ns mainGlobals mg
 blt:∃mb,base.Ns builtinsNs mb/\∀x:Str,x≠"__name__"->mb x=bootBuiltins x
 nolimit:base.NoLimit
 seer:base.NoSeer
 bmain:∃bm ob,mg "__builtins__"=some (.ref bm)/\bm≠builtinsNs/\base.get? bm=some ob/\ob.cls= .type "module"/\ob.dict=some builtinsNs/\ob.data= .plain
structure Cx where
 prog:Program
 w:World
 K:PySem.W.Frag
 mg:Str->Option Value
 base:Heap
 A:Around
 N:List Str
 s₀:Shared
 H₀:Hp
 env:Env
 outer:List Env
 stack:List Env
 ex:List Addr
 fn:Str->Bool
 calm:Bool
 pn:List (Addr×Obj)
 xe:Value->Shared->Prop
def rD(l:List Env):List Addr:=l.filterMap (·.frame)
abbrev Cx.fs(X:Cx):List Addr:=rD X.outer
def AJ(sc:Scope)(x:Str):Prop:=sc.names.lookup x=some .local\/sc.names.lookup x=some .cell\/sc.names.lookup x=some .free
def Loc(sc:Scope)(x:Str):Prop:=sc.names.lookup x=some .local\/sc.names.lookup x=some .cell
def Look(env:Env)(h:Heap)(m:Str->Option Value)(x:Str)(u:Value):Prop:=
 (env.kindOf x=some .local/\m x=some u)\/((env.kindOf x=some .cell\/env.kindOf x=some .free)/\∃c,env.cells.lookup x=some c/\h.IsCell c (some u))
structure Cx.Ok(X:Cx):Prop where
 mod:Mod X.K X.mg X.base
 kind:X.env.scope.kind= .function
 glob:X.env.globals=mainGlobals
 blt:X.env.builtins=builtinsNs
 above:X.s₀.heap.objs.size<=X.env.locals
 inj:∀x y c,X.env.cells.lookup x=some c->X.env.cells.lookup y=some c->x=y
 has:∀x,(X.env.kindOf x=some .cell\/X.env.kindOf x=some .free)->∃c,X.env.cells.lookup x=some c
 Ao:∀x c,X.fn x=true->X.env.cells.lookup x=some c->X.s₀.heap.objs.size<=c
 hd:X.calm=true->X.A.handled=none
 frames:X.A.frames=some X.stack
 CC:X.stack=X.outer\/(X.stack=X.env::X.outer/\X.env.frame=some X.env.locals)
 GG:∀b∈X.ex,b≠X.env.locals/\∀x c,X.env.cells.lookup x=some c->c≠b
 bs:∀b o,X.base.get? b=some o->X.s₀.heap.get? b=some o/\X.H₀ b=none
 tR:X.base.objs.size<=X.s₀.heap.objs.size
 vV:∀b o,X.base.get? b=some o->b∉X.ex
 vW:∀b∈X.ex,b∉X.fs
 mW:X.s₀.heap.FunFrames X.base X.outer
 xB:∀b∈X.fs,X.H₀ b=none
 gt:X.prog.given.tree=none
structure Inv(X:Cx)(pins:List (Addr×Obj))(σ:List (Option V))(H:Hp)(s:Shared):Prop where
 ok:X.Ok
 os:s.os=X.s₀.os
 bare:AllBare s.gens
 base:Un X.fs X.ex X.H₀ H X.s₀.heap s.heap
 loc:∃m,s.heap.Ns X.env.locals m/\∀(i:Nat) (x:Str) (v:V),X.N[i]?=some x->σ[i]?=some (some v)->AJ X.env.scope x->∃u,RelV v u/\Look X.env s.heap m x u
 cell:∀x c,X.env.cells.lookup x=some c->∃v,s.heap.IsCell c v
 free:H X.env.locals=none
 jC:∀x c,X.env.cells.lookup x=some c->H c=none
 pin:∀p∈X.pn++pins,s.heap.get? p.1=some p.2/\H p.1=none/\p.1≠X.env.locals/\p.1∉X.fs/\∀v,p.2.data≠ .cell v
 aL:jd X.prog X.w H s.heap
 len:σ.length=X.N.length
section
variable {X:Cx}{pins:List (Addr×Obj)}{σ:List (Option V)}{H H':Hp}{s:Shared}{h':Heap}
def Cx.Ok.Ql(ok:X.Ok){b:Addr}{o:Obj}(e:X.base.get? b=some o):b∉X.fs:=λ hb=>by
 have:=(ok.mW.mem hb).1;rw[e]at this;cases this
def Inv.bs(I:Inv X pins σ H s):∀b o,X.base.get? b=some o->s.heap.get? b=some o/\H b=none:=λ b o e=>
 ⟨I.base.keep b o (I.ok.bs b o e).1 (I.ok.bs b o e).2 (I.ok.Ql e) (I.ok.vV b o e),I.base.free b o (I.ok.bs b o e).1 (I.ok.bs b o e).2 (I.ok.vV b o e)⟩
def Inv.bk(I:Inv X pins σ H s):∀b o,X.base.get? b=some o->s.heap.get? b=some o:=λ b o e=>(I.bs b o e).1
def Inv.mod(I:Inv X pins σ H s):Mod X.K X.mg X.base:=I.ok.mod
def Inv.iN(I:Inv X pins σ H s):X.K.In s.heap:=I.ok.mod.EG.keeps I.bk
def Inv.nolimit(I:Inv X pins σ H s):s.heap.NoLimit:=I.ok.mod.nolimit.keeps I.bk
def Inv.lt(I:Inv X pins σ H s):X.env.locals<s.heap.objs.size:=let⟨_,hn,_⟩:=I.loc;hn.lt
def Inv.sz(I:Inv X pins σ H s):X.s₀.heap.objs.size<=s.heap.objs.size:=RD I.ok.above (Ta I.lt)
def Inv.NR(I:Inv X pins σ H s){a:Addr}(h:s.heap.objs.size<=a):a∉X.fs:=λ hb=>by
 obtain⟨_,o,ho,_⟩:=I.ok.mW.mem hb;exact absurd (RW (RT ho) (RD I.sz h)) (S0 _)
def Inv.BF(I:Inv X pins σ H s):∀x c,X.env.cells.lookup x=some c->c≠X.env.locals:=λ x c e z=>by
 obtain⟨v,o,ho,hd⟩:=I.cell x c e;obtain⟨m,⟨o',es,ep,ho',hd',_⟩,_⟩:=I.loc;rw[z,ho']at ho;cases ho;rw[hd']at hd;cases hd
def Inv.mW(I:Inv X pins σ H s):s.heap.FunFrames X.base X.outer:=by
 have all:∀(l:List Env),(∀b∈rD l,b∈X.fs)->X.s₀.heap.FunFrames X.base l->s.heap.FunFrames X.base l:=by
  intro l;induction l with
  |nil=>intro _ _;trivial
  |cons env r ih=>
   intro hs hl;obtain⟨hk,⟨L,o,hf,hn,ho,hd⟩,hr⟩:=hl;have hL:L∈X.fs:=hs L (by unfold rD;rw[UT,hf];exact R7);obtain⟨sl,e⟩:=I.base.slot L o ho (I.ok.xB L hL) hL λ z=>I.ok.vW L z hL;exact⟨hk,⟨L,_,hf,hn,e,hd⟩,ih (λ b hb=>hs b (by unfold rD;rw[UT,hf];exact R8 _ hb)) hr⟩
 exact all X.outer (λ _ hb=>hb) I.ok.mW
def Inv.stack(I:Inv X pins σ H s):s.heap.FunFrames X.base X.stack:=by
 rcases I.ok.CC with e|⟨e,hf⟩
 . rw[e];exact I.mW
 . rw[e];obtain⟨m,hn,_⟩:=I.loc;refine .cons (by rw[I.ok.kind];decide) hf hn ?_ I.mW;exact Heap.get?_none_of_le (RD I.ok.tR I.ok.above)
def Inv.AF(I:Inv X pins σ H s):∀b∈rD X.stack,b∈X.env.locals::X.fs:=λ b hb=>by
 rcases I.ok.CC with e|⟨e,hf⟩
 . rw[e]at hb;exact R8 _ hb
 . rw[e]at hb;unfold rD at hb;rw[UT,hf]at hb;exact hb
def Inv.xQ(I:Inv X pins σ H s):∀b∈rD X.stack,H b=none:=λ b hb=>by
 rcases RU.mp (I.AF b hb)with e|hb
 . rw[e];exact I.free
 . obtain⟨_,o,ho,_⟩:=I.ok.mW.mem hb;exact I.base.free b o ho (I.ok.xB b hb) λ z=>I.ok.vW b z hb
def Inv.step{g':Array GenState}{t':Nat}{d':Drawn}{ch:List Addr}(I:Inv X pins σ H s)
 (hch:∀b∈ch,(b∈X.ex\/X.s₀.heap.objs.size<=b)/\b≠X.env.locals/\(∀x c,X.env.cells.lookup x=some c->c≠b)/\∀p∈X.pn++pins,p.1≠b)
 (keep:∀b o,b≠X.env.locals->b∉X.fs->b∉ch->s.heap.get? b=some o->H b=none->h'.get? b=some o)
 (slot:∀b o,b≠X.env.locals->b∈X.fs->b∉ch->s.heap.get? b=some o->H b=none->∃sl,h'.get? b=some {o with slots:=sl}) (free:∀b o,b∉ch->s.heap.get? b=some o->H b=none->H' b=none)
 (there:∀b o,b∉ch->s.heap.get? b=some o->∃o',h'.get? b=some o')
 (qL:∀b xs,H b=some (.tup xs)->H' b=some (.tup xs)) (pN:∀b o u,H b=some (.fz o u)->H' b=some (.fz o u)) (pP:∀b ps,H b=some (.l6 ps)->∃more,H' b=some (.l6 (ps++more)))
 (ns:∀m,s.heap.Ns X.env.locals m->h'.Ns X.env.locals m) (aL:jd X.prog X.w H' h') (hg:AllBare g'):
 Inv X pins σ H' {s with heap:=h',gens:=g',drawn:=d',toks:=t'}:=by
 have neL:∀b o,X.s₀.heap.get? b=some o->b≠X.env.locals:=λ b o e=>Sj (RW (RT e) I.ok.above)
 have neC:∀b o,X.s₀.heap.get? b=some o->b∉X.ex->b∉ch:=λ b o e hx hb=>by
  rcases(hch b hb).1 with z|z
  . exact hx z
  . exact absurd (RW (RT e) z) (S0 _)
 have cellK:∀x c,X.env.cells.lookup x=some c->∀v,s.heap.IsCell c v->h'.IsCell c v:=λ x c e v ⟨o,ho,hd⟩=>by
  have nch:c∉ch:=λ z=>(hch c z).2.2.1 x c e rfl;by_cases hc:c∈X.fs
  . obtain⟨sl,q⟩:=slot c o (I.BF x c e) hc nch ho (I.jC x c e);exact⟨_,q,hd⟩
  . exact⟨o,keep c o (I.BF x c e) hc nch ho (I.jC x c e),hd⟩
 refine⟨I.ok,I.os,hg,⟨λ b o e n hb hx=>?_,λ b o e n hb hx=>?_,λ b o e n hx=>?_,λ b o e hx=>?_,λ b xs e=>qL b xs (I.base.qL b xs e),λ b o xs e=>pN b o xs (I.base.pN b o xs e),λ b ps e=>?_⟩,?_,λ x c e=>?_,?_,λ x c e=>?_,λ p hp=>?_,aL,I.len⟩
 . exact keep b o (neL b o e) hb (neC b o e hx) (I.base.keep b o e n hb hx) (I.base.free b o e n hx)
 . obtain⟨sl,e1⟩:=I.base.slot b o e n hb hx;obtain⟨sl',e2⟩:=slot b _ (neL b o e) hb (neC b o e hx) e1 (I.base.free b o e n hx);exact⟨sl',e2⟩
 . obtain⟨o',e1⟩:=I.base.there b o e hx;exact free b o' (neC b o e hx) e1 (I.base.free b o e n hx)
 . obtain⟨o',e1⟩:=I.base.there b o e hx;exact there b o' (neC b o e hx) e1
 . obtain⟨m1,e1⟩:=I.base.pP b ps e;obtain⟨m2,e2⟩:=pP b _ e1;exact⟨m1++m2,by rw[e2,Array.append_assoc]⟩
 . obtain⟨m,hn,hl⟩:=I.loc;refine⟨m,ns m hn,λ i x v e1 e2 e3=>?_⟩;obtain⟨u,r,l⟩:=hl i x v e1 e2 e3;refine⟨u,r,?_⟩;rcases l with l|⟨k,c,e,z⟩
   . exact .inl l
   . exact .inr ⟨k,c,e,cellK x c e _ z⟩
 . obtain⟨v,z⟩:=I.cell x c e;exact⟨v,cellK x c e v z⟩
 . obtain⟨m,⟨o,_,_,ho,_⟩,_⟩:=I.loc;exact free _ o (λ z=>(hch _ z).2.1 rfl) ho I.free
 . obtain⟨v,o,ho,hd⟩:=I.cell x c e;exact free c o (λ z=>(hch c z).2.2.1 x c e rfl) ho (I.jC x c e)
 . obtain⟨e,n,ne,nf,d⟩:=I.pin p hp;have nch:p.1∉ch:=λ z=>(hch p.1 z).2.2.2 p hp rfl;exact⟨keep p.1 p.2 ne nf nch e n,free p.1 p.2 nch e n,ne,nf,d⟩
def Inv.un{t':Nat}(I:Inv X pins σ H s)(u:Un X.fs [] H H' s.heap h')(aL:jd X.prog X.w H' h'):Inv X pins σ H' {s with heap:=h',toks:=t'}:=by
 obtain⟨m,⟨o,es,ep,ho,r⟩,_⟩:=id I.loc;obtain⟨sl,hL⟩:=u.any ho I.free (by simp)
 exact I.step (g':=s.gens) (d':=s.drawn) (ch:=[]) (λ _ z=>nomatch z) (λ b o _ hb _ e n=>u.keep b o e n hb (by simp)) (λ b o _ hb _ e n=>u.slot b o e n hb (by simp)) (λ b o _ e n=>u.free b o e n (by simp)) (λ b o _ e=>u.there b o e (by simp)) u.qL u.pN u.pP (λ m' hm=>by
  obtain⟨o',es',ep',ho',r'⟩:=hm;rw[ho]at ho';cases ho';exact⟨_,es',ep',hL,r'⟩) aL I.bare
def Inv.call{g':Array GenState}{t':Nat}{d':Drawn}{ch:List Addr}(I:Inv X pins σ H s)(u:Un (rD X.stack) ch H H' s.heap h')(aL:jd X.prog X.w H' h')(hg:AllBare g')
 (hch:∀b∈ch,(b∈X.ex\/X.s₀.heap.objs.size<=b)/\b≠X.env.locals/\(∀x c,X.env.cells.lookup x=some c->c≠b)/\∀p∈X.pn++pins,p.1≠b):
 Inv X pins σ H' {s with heap:=h',gens:=g',drawn:=d',toks:=t'}:=by
 obtain⟨m,⟨o,es,ep,ho,r⟩,_⟩:=id I.loc;obtain⟨sl,hL⟩:=u.any ho I.free λ z=>(hch _ z).2.1 rfl
 exact I.step (ch:=ch) hch (λ b o hL hb hc e n=>u.keep b o e n (λ z=>(RU.mp (I.AF b z)).elim hL hb) hc) (λ b o _ _ hc e n=>u.any e n hc) (λ b o hc e n=>u.free b o e n hc) (λ b o hc e=>u.there b o e hc) u.qL u.pN u.pP (λ m' hm=>by
  obtain⟨o',es',ep',ho',r'⟩:=hm;rw[ho]at ho';cases ho';exact⟨_,es',ep',hL,r'⟩) aL hg
def Inv.turned{t':Nat}{it:Addr}(I:Inv X pins σ H s)(k:∀b o,b≠it->s.heap.get? b=some o->h'.get? b=some o)(hn:H it=none)(hL:it≠X.env.locals)
 (h1:it∈X.ex\/X.s₀.heap.objs.size<=it) (h2:∀x c,X.env.cells.lookup x=some c->c≠it) (h3:∀p∈X.pn++pins,p.1≠it):Inv X pins σ H {s with heap:=h',toks:=t'}:=by
 have nit:∀b u,H b=some u->b≠it:=λ b u e z=>by rw[z,hn]at e;cases e
 refine I.step (g':=s.gens) (d':=s.drawn) (ch:=[it]) (λ b hb=>?_) (λ b o _ _ hc e _=>k b o (λ z=>hc (by simp[z])) e) (λ b o _ _ hc e _=>⟨o.slots,k b o (λ z=>hc (by simp[z])) e⟩) (λ _ _ _ _ n=>n)
  (λ b o hc e=>⟨o,k b o (λ z=>hc (by simp[z])) e⟩) (λ _ _ e=>e) (λ _ _ _ e=>e) (λ b ps e=>⟨#[],by rw[e];simp⟩) (λ m hm=>?_) (λ b u e=>?_) I.bare
 . have e:b=it:=by simpa using hb
   subst e;exact⟨h1,hL,h2,h3⟩
 . obtain⟨o,es,ep,ho,r⟩:=hm;exact⟨o,es,ep,k _ o (RO hL) ho,r⟩
 . refine(I.aL b u e).qO (λ c v hc q=>k c v ?_ q) (λ _ q=>q) λ _ _ q=>q;rcases hc with z|z
   . rw[z];exact nit b u e
   . exact nit c _ z
def Inv.tok(I:Inv X pins σ H s)(t:Nat):Inv X pins σ H {s with toks:=t}:=I.un (h':=s.heap) (t':=t) Un.refl I.aL
def Inv.kept{t':Nat}(I:Inv X pins σ H s)(k:∀b u,s.heap.get? b=some u->h'.get? b=some u):Inv X pins σ H {s with heap:=h',toks:=t'}:=I.un (Un.kept k) (I.aL.kept k)
def Inv.laid{a:Addr}{o:HO}{t':Nat}(I:Inv X pins σ H s)(k:∀b u,s.heap.get? b=some u->h'.get? b=some u)(hp:s.heap.objs.size<=a)(new:eN X.prog X.w (upd H a o) h' a o):
 Inv X pins σ (upd H a o) {s with heap:=h',toks:=t'}:=I.un (Un.laid k hp (I.aL.fresh hp)) (I.aL.laid k hp new)
def Inv.write{x e:Addr}{o:HO}{t':Nat}(I:Inv X pins σ H s)(mu:Jt (H x))(he:e=x\/H e=some (.own x))(k:∀b u,b≠e->s.heap.get? b=some u->h'.get? b=some u)(heo:∃u,h'.get? e=some u)
 (new:eN X.prog X.w (upd H x o) h' x o):Inv X pins σ (upd H x o) {s with heap:=h',toks:=t'}:=I.un (Un.write mu he k heo) (I.aL.write mu he k heo new)
def Inv.uP{pins':List (Addr×Obj)}(I:Inv X pins σ H s)(h:∀p∈pins',s.heap.get? p.1=some p.2/\H p.1=none/\p.1≠X.env.locals/\p.1∉X.fs/\∀v,p.2.data≠ .cell v):Inv X pins' σ H s:=
 ⟨I.ok,I.os,I.bare,I.base,I.loc,I.cell,I.free,I.jC,λ p hp=>(RX.mp hp).elim (λ z=>I.pin p (R_ _ z)) (h p),I.aL,I.len⟩
def Av{N:List Str}(hN:N.Nodup){i j:Nat}{x:Str}(a:N[i]?=some x)(b:N[j]?=some x):i=j:=by
 obtain⟨h1,e1⟩:=Rx.mp a;obtain⟨h2,e2⟩:=Rx.mp b;exact(List.getElem_inj hN).mp (e1.trans e2.symm)
def yM{M:Model}{A:Around}{E:Value->Shared->Prop}{i:Nat}{x:Str}{v:V}{u:Value}{Q:Unit->Shared->Prop}(I:Inv X pins σ H s)(hN:X.N.Nodup)(hi:X.N[i]?=some x)(hx:Loc X.env.scope x)(r:RelV v u)
 (h:∀s',Inv X pins (σ.set i (some v)) H s'->(∃a,Heap.SameBut a s.heap s'.heap/\(a=X.env.locals\/X.env.cells.lookup x=some a))->Q () s') (hf:X.fn x=true\/X.env.scope.names.lookup x=some .local:=by first|exact .inl rfl|exact .inr rfl|assumption):wpAny M A (storeName X.env x u) Q E s:=by
 obtain⟨m,hn,hl⟩:=id I.loc;have hcls:(X.env.scope.kind== .class||(X.env.scope.kind== .module&&X.env.locals != X.env.globals))=false:=by rw[I.ok.kind];rfl
 have hiσ:i<σ.length:=by rw[I.len];exact(Rx.mp hi).1
 have BF:=I.BF
 have tracked:∀ {a:Addr} {h':Heap},(∃o,s.heap.get? a=some o/\H a=none)->Heap.SameBut a s.heap h'->jd X.prog X.w H h':=λ{a h'} ha hs b ob e=>by
  obtain⟨_,_,hfree⟩:=ha;refine(I.aL b ob e).qO (λ c w' hc q=>(hs.2 c ?_).trans q) (λ _ q=>q) λ _ _ q=>q;rintro rfl;rcases hc with rfl|hc
  . rw[hfree]at e;cases e
  . rw[hfree]at hc;cases hc
 rcases hx with hk|hk
 . refine wpAny_storeName_local hk hn (λ h' hn' hs=>?_) hcls;obtain⟨oL,_,_,hoL,_⟩:=id hn;refine h _ ⟨I.ok,I.os,I.bare,⟨λ b o e n hb hx=>?_,λ b o e n hb hx=>?_,I.base.free,λ b o e hx=>?_,I.base.qL,I.base.pN,I.base.pP⟩,⟨_,hn',λ j y v' e1 e2 e3=>?_⟩,λ y c e=>?_,I.free,I.jC,λ p hp=>?_,tracked ⟨oL,hoL,I.free⟩ hs,by simpa using I.len⟩ ⟨_,hs,.inl rfl⟩
   . exact(hs.2 b (Sj (RW (RT e) I.ok.above))).trans (I.base.keep b o e n hb hx)
   . obtain⟨sl,e1⟩:=I.base.slot b o e n hb hx;exact⟨sl,(hs.2 b (Sj (RW (RT e) I.ok.above))).trans e1⟩
   . obtain⟨o',e1⟩:=I.base.there b o e hx;exact⟨o',(hs.2 b (Sj (RW (RT e) I.ok.above))).trans e1⟩
   . by_cases hj:j=i
     . subst hj;rw[hi]at e1;cases e1;rw[RK hiσ]at e2;cases e2;exact⟨u,r,.inl ⟨hk,by simp⟩⟩
     . rw[RB (RO hj)]at e2;obtain⟨u',r',q⟩:=hl j y v' e1 e2 e3;refine⟨u',r',?_⟩;rcases q with⟨k,e⟩|⟨k,c,e,z⟩
       . refine .inl ⟨k,?_⟩;have:y≠x:=λ e=>hj (Av hN e1 (e▸hi));simp[this,e]
       . exact .inr ⟨k,c,e,z.sameBut hs (BF y c e)⟩
   . obtain⟨w',z⟩:=I.cell y c e;exact⟨w',z.sameBut hs (BF y c e)⟩
   . obtain⟨e,n,ne,nf,d⟩:=I.pin p hp;exact⟨(hs.2 p.1 ne).trans e,n,ne,nf,d⟩
 . have hfn:X.fn x=true:=by
    rcases hf with z|z
    . exact z
    . rw[z]at hk;cases hk
   obtain⟨c,hc⟩:=I.ok.has x (.inl hk);obtain⟨w',z⟩:=I.cell x c hc;refine wpAny_storeName_cell I.ok.kind hk hc z (λ h' hc' hs=>?_);obtain⟨oc,hoc,hocd⟩:=id z;refine h {s with heap:=h'} ⟨I.ok,I.os,I.bare,⟨λ b o e n hb hx=>?_,λ b o e n hb hx=>?_,I.base.free,λ b o e hx=>?_,I.base.qL,I.base.pN,I.base.pP⟩,⟨m,hn.sameBut hs (RO (BF x c hc)),λ j y v' e1 e2 e3=>?_⟩,λ y c' e=>?_,I.free,I.jC,λ p hp=>?_,tracked ⟨oc,hoc,I.jC x c hc⟩ hs,by simpa using I.len⟩ ⟨c,hs,.inr hc⟩
   . exact(hs.2 b (Sj (RW (RT e) (I.ok.Ao x c hfn hc)))).trans (I.base.keep b o e n hb hx)
   . obtain⟨sl,e1⟩:=I.base.slot b o e n hb hx;exact⟨sl,(hs.2 b (Sj (RW (RT e) (I.ok.Ao x c hfn hc)))).trans e1⟩
   . obtain⟨o',e1⟩:=I.base.there b o e hx;exact⟨o',(hs.2 b (Sj (RW (RT e) (I.ok.Ao x c hfn hc)))).trans e1⟩
   . by_cases hj:j=i
     . subst hj;rw[hi]at e1;cases e1;rw[RK hiσ]at e2;cases e2;exact⟨u,r,.inr ⟨.inl hk,c,hc,hc'⟩⟩
     . rw[RB (RO hj)]at e2;obtain⟨u',r',q⟩:=hl j y v' e1 e2 e3;refine⟨u',r',?_⟩;rcases q with q|⟨k,c',e,z'⟩
       . exact .inl q
       . refine .inr ⟨k,c',e,z'.sameBut hs ?_⟩;rintro rfl;exact hj (Av hN e1 (I.ok.inj _ _ _ e hc▸hi))
   . by_cases hcc:c'=c
     . subst hcc;exact⟨_,hc'⟩
     . obtain⟨w2,z2⟩:=I.cell y c' e;exact⟨w2,z2.sameBut hs hcc⟩
   . obtain⟨e,n,ne,nf,d⟩:=I.pin p hp;refine⟨(hs.2 p.1 ?_).trans e,n,ne,nf,d⟩;intro q;rw[q,hoc]at e;have q':oc=p.2:=SD e;exact d w' (by rw[<-q'];exact hocd)
def wa{M:Model}{A:Around}{E:Value->Shared->Prop}{i:Nat}{x:Str}{v:V}{u:Value}{Q:Unit->Shared->Prop}(I:Inv X pins σ H s)(hN:X.N.Nodup)(hi:X.N[i]?=some x)(hx:Loc X.env.scope x)(r:RelV v u)
 (h:∀s',Inv X pins (σ.set i (some v)) H s'->Q () s') (hf:X.fn x=true\/X.env.scope.names.lookup x=some .local:=by first|exact .inl rfl|exact .inr rfl|assumption):wpAny M A (storeName X.env x u) Q E s:=
 yM I hN hi hx r (λ s' I' _=>h s' I') hf
def Inv.D6{s':Shared}{ch:List Addr}(I:Inv X pins σ H s)(ho:s'.os=s.os)(u:Un (rD X.stack) ch H H' s.heap s'.heap)(aL:jd X.prog X.w H' s'.heap)(hg:AllBare s'.gens)
 (hch:∀b∈ch,(b∈X.ex\/X.s₀.heap.objs.size<=b)/\b≠X.env.locals/\(∀x c,X.env.cells.lookup x=some c->c≠b)/\∀p∈X.pn++pins,p.1≠b):Inv X pins σ H' s':=by
 obtain⟨h',g',d',t',o'⟩:=s';have e:o'=s.os:=ho;subst e;exact I.call (g':=g') (t':=t') (d':=d') u aL hg hch
end
abbrev XK:=Value->Option Addr->Hp->Prop
abbrev St:=List (Option V)
abbrev VK:=V->Hp->Prop
abbrev TE:=St->Hp->VK->Prop
abbrev TT:=St->Hp->(Bool->Hp->Prop)->Prop
abbrev TA:=St->Hp->(List V->Hp->Prop)->Prop
structure Ends where
 nx:St->Hp->Prop
 rt:VK
 bk:St->Hp->Prop:=λ _ _=>False
 ct:St->Hp->Prop:=λ _ _=>False
abbrev TS:=Ends->St->Hp->Prop
def EP(X:Cx)(pins:List (Addr×Obj))(σ:St)(Q:VK)(u:Value)(s':Shared):Prop:=∃v H',Inv X pins σ H' s'/\RelV v u/\Q v H'
def TP(X:Cx)(pins:List (Addr×Obj))(σ:St)(Q:Bool->Hp->Prop)(b:Bool)(s':Shared):Prop:=∃H',Inv X pins σ H' s'/\Q b H'
def AP(X:Cx)(pins:List (Addr×Obj))(σ:St)(Q:List V->Hp->Prop)(us:List Value)(s':Shared):Prop:=∃vs H',Inv X pins σ H' s'/\Vals vs us/\Q vs H'
def SP(X:Cx)(pins:List (Addr×Obj))(D:Ends)(f:Flow)(s':Shared):Prop:=
 match f with
 | .next=>∃σ' H',Inv X pins σ' H' s'/\D.nx σ' H'
 | .brk=>∃σ' H',Inv X pins σ' H' s'/\D.bk σ' H'
 | .cont=>∃σ' H',Inv X pins σ' H' s'/\D.ct σ' H'
 | .ret u=>∃v σ' H',Inv X pins σ' H' s'/\RelV v u/\D.rt v H'
def PE(X:Cx)(e:Expr)(t:TE):Prop:=
 ∀(pins:List (Addr×Obj)) (s:Shared) (σ:St) (H:Hp) (Q:VK),Inv X pins σ H s->t σ H Q->wpAny (model X.prog X.w) X.A (eval e X.env) (EP X pins σ Q) X.xe s
def PT(X:Cx)(e:Expr)(t:TT):Prop:=
 ∀(pins:List (Addr×Obj)) (s:Shared) (σ:St) (H:Hp) (Q:Bool->Hp->Prop),Inv X pins σ H s->t σ H Q->wpAny (model X.prog X.w) X.A (isTrue e X.env (eval e X.env)) (TP X pins σ Q) X.xe s
def PW(X:Cx)(e:Expr)(t:TT):Prop:=
 ∀(whole:Sem Value) (pins:List (Addr×Obj)) (s:Shared) (σ:St) (H:Hp) (Q:Bool->Hp->Prop),Inv X pins σ H s->t σ H Q->wpAny (model X.prog X.w) X.A (isTrue e X.env whole) (TP X pins σ Q) X.xe s
def PW.pt{X:Cx}{e:Expr}{t:TT}(h:PW X e t):PT X e t:=h _
def PA(X:Cx)(es:List Expr)(t:TA):Prop:=
 ∀(pos:Pos) (pins:List (Addr×Obj)) (s:Shared) (σ:St) (H:Hp) (Q:List V->Hp->Prop),Inv X pins σ H s->t σ H Q->wpAny (model X.prog X.w) X.A (spliced (backTo pos (starEach es X.env))) (AP X pins σ Q) X.xe s
def PS(X:Cx)(st:Stmt)(t:TS):Prop:=
 ∀(pins:List (Addr×Obj)) (s:Shared) (σ:St) (H:Hp) (D:Ends),Inv X pins σ H s->t D σ H->wpAny (model X.prog X.w) X.A (exec st X.env) (SP X pins D) X.xe s
def iO(X:Cx)(st:List Stmt)(t:TS):Prop:=
 ∀(pins:List (Addr×Obj)) (s:Shared) (σ:St) (H:Hp) (D:Ends),Inv X pins σ H s->t D σ H->wpAny (model X.prog X.w) X.A (execs st X.env) (SP X pins D) X.xe s
def cR{α:Type}{t:Sem α}{Q Q':α->Shared->Prop}{M:Model}{A:Around}{E:Value->Shared->Prop}{s:Shared}(h:wpAny M A t Q E s)(hQ:∀a s,Q a s->Q' a s):wpAny M A t Q' E s:=TY h hQ λ _ _ x=>x
section
variable {X:Cx}
def NN(i:Nat):TE:=λ σ H Q=>∃v,σ[i]?=some (some v)/\Q v H
def tC(v:V):TE:=λ _ H Q=>Q v H
def Nr{i:Nat}{x:Str}{pos:Pos}(hN:X.N[i]?=some x)(hv:AJ X.env.scope x)(hd:(x==("__debug__":Str))=false:=by decide)(hcd:(x==("__classdict__":Str))=false:=by decide):PE X (.Name x pos) (NN i):=by
 intro pins s σ H Q I h;obtain⟨v,e,h⟩:=h;obtain⟨m,hn,hl⟩:=I.loc;obtain⟨u,r,l⟩:=hl i x v hN e hv;have fin:EP X pins σ Q u s:=⟨v,H,I,r,h⟩
 rcases l with⟨hk,hm⟩|⟨hk,c,hc,hcell⟩
 . exact wpAny_Name (wpAny_loadName_local I.ok.kind hk hn hm fin) hd
 . rcases hk with hk|hk
   . exact wpAny_Name (wpAny_loadName_cell I.ok.kind hk hc hcell fin) hd
   . exact wpAny_Name (wpAny_loadName_free I.ok.kind hk hc hcell fin hcd) hd
def Mh{i j pos}:PE X (.Constant (.int i) j pos) (tC (.int i)):=λ _ _ _ H _ I h=>wpAny_Constant_int ⟨.int i,H,I.tok _,⟨_,rfl⟩,h⟩
def O3{b j pos}:PE X (.Constant (.bool b) j pos) (tC (.bl b)):=λ _ _ _ H _ I h=>Constant_bool ⟨.bl b,H,I,rfl,h⟩
def L4{j pos}:PE X (.Constant .none j pos) (tC .aF):=λ _ _ _ H _ I h=>Constant_none ⟨.aF,H,I,rfl,h⟩
def M4{x j pos}:PE X (.Constant (.str x) j pos) (tC (.str x)):=λ _ _ _ H _ I h=>Calls.Constant_str ⟨.str x,H,I.tok _,⟨_,rfl⟩,h⟩
def Gl(X:Cx)(x:Str):Prop:=X.env.kindOf x=some .globalImplicit
def CH{E:Value->Shared->Prop}{pins:List (Addr×Obj)}{s:Shared}{σ:St}{H:Hp}{x:Str}{u:Value}{pos:Pos}{Q:Value->Shared->Prop}(I:Inv X pins σ H s)(hg:Gl X x)(hm:X.mg x=some u)(h:Q u s)
 (hd:(x==("__debug__":Str))=false:=by decide):wpAny (model X.prog X.w) X.A (eval (.Name x pos) X.env) Q E s:=
 V0 I.ok.kind hg (Calls.loadGlobal_global (by rw[I.ok.glob];exact I.mod.glob.keeps I.bk) hm h) hd
def ow{E:Value->Shared->Prop}{pins:List (Addr×Obj)}{s:Shared}{σ:St}{H:Hp}{x:Str}{u:Value}{pos:Pos}{Q:Value->Shared->Prop}(I:Inv X pins σ H s)(hg:Gl X x)(hm:X.mg x=none)(hv:bootBuiltins x=some u)(h:Q u s)
 (hn:x≠"__name__":=by decide) (hd:(x==("__debug__":Str))=false:=by decide):wpAny (model X.prog X.w) X.A (eval (.Name x pos) X.env) Q E s:=by
 obtain⟨mb,h1,h2⟩:=I.mod.blt;exact V0 I.ok.kind hg (Calls.loadGlobal_builtin (by rw[I.ok.glob];exact I.mod.glob.keeps I.bk) hm (by rw[I.ok.blt];exact h1.keeps I.bk) ((h2 x hn).trans hv) h) hd
def Kx{x:Str}{v:V}{u:Value}{pos:Pos}(hg:Gl X x)(hm:X.mg x=none)(hv:bootBuiltins x=some u)(r:RelV v u)(hn:x≠"__name__":=by decide)(hd:(x==("__debug__":Str))=false:=by decide):PE X (.Name x pos) (tC v):=
 λ _ _ _ H _ I h=>ow I hg hm hv ⟨v,H,I,r,h⟩ hn hd
variable {a b:Expr}{ta tb:TE}{pos:Pos}
def tB(t:TE):TT:=λ σ H Q=>t σ H λ x H1=>∃c,x= .bl c/\Q c H1
def Lu{e:Expr}{t:TE}(h:PE X e t)(he:∀whole,isTrue e X.env whole=(do let v <-whole;standAt e.pos;holding [v] (truthy v)):=by intro _;rfl):PT X e (tB t):=by
 intro pins s σ H Q I hw;refine isTrue_plain (cR (h pins s σ H _ I hw) λ v s1 ⟨x,H1,I1,r1,q1⟩=>?_) (he _);obtain⟨d,rfl,q⟩:=q1;cases r1;exact UN ⟨H1,I1,q⟩
variable {tA tB':TT}{rest:List Expr}
def Mj(t u:TT):TT:=λ σ H Q=>t σ H λ c H1=>if c=true then u σ H1 Q else Q false H1
def PY(t u:TT):TT:=λ σ H Q=>t σ H λ c H1=>if c=true then Q true H1 else u σ H1 Q
def Qp(t:TT):TT:=λ σ H Q=>t σ H λ c H1=>Q (!c) H1
def pw_and1(ha:PT X a tA):PW X (.BoolOp .And [a] pos) tA:=by
 intro wh pins s σ H Q I h;refine isTrue_and (cR (ha pins s σ H Q I h) λ c s1 e=>?_);cases c with
 |true=>exact isTrue_and_nil e
 |false=>exact e
def pw_or1(ha:PT X a tA):PW X (.BoolOp .Or [a] pos) tA:=by
 intro wh pins s σ H Q I h;refine isTrue_or (cR (ha pins s σ H Q I h) λ c s1 e=>?_);cases c with
 |false=>exact isTrue_or_nil e
 |true=>exact e
def pw_and(ha:PT X a tA)(hb:PW X (.BoolOp .And (b::rest) pos) tB'):PW X (.BoolOp .And (a::b::rest) pos) (Mj tA tB'):=by
 intro wh pins s σ H Q I h;refine isTrue_and (cR (ha pins s σ H _ I h) λ c s1 ⟨H1,I1,q1⟩=>?_);cases c with
 |true=>exact hb wh pins s1 σ H1 Q I1 q1
 |false=>exact⟨H1,I1,q1⟩
def pw_or(ha:PT X a tA)(hb:PW X (.BoolOp .Or (b::rest) pos) tB'):PW X (.BoolOp .Or (a::b::rest) pos) (PY tA tB'):=by
 intro wh pins s σ H Q I h;refine isTrue_or (cR (ha pins s σ H _ I h) λ c s1 ⟨H1,I1,q1⟩=>?_);cases c with
 |true=>exact⟨H1,I1,q1⟩
 |false=>exact hb wh pins s1 σ H1 Q I1 q1
def Mf(ha:PT X a tA):PT X (.UnaryOp .Not a pos) (Qp tA):=by
 intro pins s σ H Q I h;exact isTrue_not (ha pins s σ H (λ c H1=>Q (!c) H1) I h)
def OQ(ta tb:TE):TE:=λ σ H Q=>ta σ H λ x H1=>∃c,x= .bl c/\if c=true then tb σ H1 Q else Q (.bl false) H1
def ON(ta:TE):TE:=λ σ H Q=>ta σ H λ x H1=>∃c,x= .bl c/\Q (.bl (!c)) H1
def LX{op}{t:TE}(h:PE X a t):PE X (.BoolOp op [a] pos) t:=λ pins s σ H Q I hw=>BoolOp_one (h pins s σ H Q I hw)
def Ma(ha:PE X a ta)(hb:PE X (.BoolOp .And (b::rest) pos) tb):PE X (.BoolOp .And (a::b::rest) pos) (OQ ta tb):=by
 intro pins s σ H Q I h;refine BoolOp_and (cR (ha pins s σ H _ I h) λ v s1 ⟨x,H1,I1,r1,q1⟩=>?_);obtain⟨c,rfl,q1⟩:=q1;cases r1;refine UN ?_;cases c with
 |true=>exact hb pins s1 σ H1 Q I1 q1
 |false=>exact⟨.bl false,H1,I1,rfl,q1⟩
def L7(ha:PE X a ta):PE X (.UnaryOp .Not a pos) (ON ta):=by
 intro pins s σ H Q I h;refine UnaryOp_ (cR (ha pins s σ H _ I h) λ v s1 ⟨x,H1,I1,r1,q1⟩=>?_);obtain⟨c,rfl,q1⟩:=q1;cases r1;exact not_of (UN ⟨.bl (!c),H1,I1,rfl,q1⟩)
def Rb(t:TT)(ta tb:TE):TE:=λ σ H Q=>t σ H λ c H1=>if c=true then ta σ H1 Q else tb σ H1 Q
def G0{c:Expr}(hc:PT X c tA)(ha:PE X a ta)(hb:PE X b tb):PE X (.IfExp c a b pos) (Rb tA ta tb):=by
 intro pins s σ H Q I h;refine wpAny_IfExp (cR (hc pins s σ H _ I h) λ d s1 ⟨H1,I1,q1⟩=>?_);cases d with
 |true=>exact ha pins s1 σ H1 Q I1 q1
 |false=>exact hb pins s1 σ H1 Q I1 q1
end
def oh(K:PySem.W.Frag)(H:Hp)(a:Addr)(xs:List V):Prop:=
 Rd H a (.lst xs)\/
  ∃(o:Obj) (its:Array Value) (n:Nat),K.lookup a=some o/\o.cls= .type "list"/\o.dict=none/\o.data= .seq its n/\its.size<=sizeLine/\Vals xs its.toList
def jJ(K:PySem.W.Frag)(H:Hp)(a:Addr)(xs:List V):Prop:=
 Rd H a (.tup xs)\/
  ∃(o:Obj) (its:Array Value) (n:Nat),K.lookup a=some o/\o.cls= .type "tuple"/\o.data= .seq its n/\its.size<=sizeLine/\Vals xs its.toList
def QQ:Value->Option V
 | .none=>some .aF
 | .bool b=>some (.bl b)
 | .int i _=>some (.int i)
 | .str x _=>some (.str x)
 | .bytes b _=>some (.vn b)
 | .float b _=>some (.vq b)
 | .ref a=>some (.ref a)
 | .type n=>some (.ty n)
 |_=>none
def RelV.abs{x:V}{u:Value}(r:RelV x u):QQ u=some x:=by
 cases x with
 |aF=>cases r;rfl
 |bl _=>cases r;rfl
 |int _=>obtain⟨t,rfl⟩:=r;rfl
 |str _=>obtain⟨t,rfl⟩:=r;rfl
 |vn _=>obtain⟨t,rfl⟩:=r;rfl
 |vq _=>obtain⟨t,rfl⟩:=r;rfl
 |ref _=>cases r;rfl
 |ty _=>cases r;rfl
def RelV.inj{x y:V}{u:Value}(r:RelV x u)(q:RelV y u):x=y:=SD (r.abs.symm.trans q.abs)
def Vals.inj:∀ {xs ys:List V} {us:List Value},Vals xs us->Vals ys us->xs=ys
 |_,_,_,.nil,.nil=>rfl
 |_,_,_,.cons r t,.cons r' t'=>by rw[r.inj r',Vals.inj t t']
section
variable {X:Cx}{pins:List (Addr×Obj)}{σ:St}{H:Hp}{s:Shared}{a:Addr}{xs ys:List V}
def oh.of{K:PySem.W.Frag}(h:H a=some (.lst xs)):oh K H a xs:= .inl (.inl h)
def jJ.of{K:PySem.W.Frag}(h:H a=some (.tup xs)):jJ K H a xs:= .inl (.inl h)
def Inv.list(I:Inv X pins σ H s)(h:oh X.K H a xs):∃its:List Value,Vals xs its/\PlainL s.heap a its.toArray/\xs.length<=sizeLine:=by
 rcases h with h|⟨o,its,n,hk,hc,hd,hs,hz,r⟩
 . obtain⟨z,its,n,r,e⟩:=h.ok I.aL;exact⟨its,r,⟨_,n,e,rfl,rfl,rfl⟩,z⟩
 . refine⟨its.toList,r,⟨o,n,I.iN a o hk,hc,hd,by simpa using hs⟩,?_⟩;have e:=r.length;simp only[Ti]at e;omega
def Inv.tuple(I:Inv X pins σ H s)(h:jJ X.K H a xs):∃its:List Value,Vals xs its/\IsTup s.heap a its.toArray/\xs.length<=sizeLine:=by
 rcases h with h|⟨o,its,n,hk,hc,hs,hz,r⟩
 . obtain⟨z,its,r,p⟩:=h.ok I.aL;exact⟨its,r,p,z⟩
 . refine⟨its.toList,r,⟨o,I.iN a o hk,hc,n,by simpa using hs⟩,?_⟩;have e:=r.length;simp only[Ti]at e;omega
def Inv.An(I:Inv X pins σ H s)(h:oh X.K H a xs)(h':oh X.K H a ys):xs=ys:=by
 obtain⟨its,r,⟨o,n,e,_,_,d⟩,_⟩:=I.list h;obtain⟨its',r',⟨o',n',e',_,_,d'⟩,_⟩:=I.list h';rw[e]at e';cases e';rw[d]at d';injection d' with d1 _;have:its=its':=by simpa using Tj Array.toList d1
 subst this;exact r.inj r'
def Inv.yP(I:Inv X pins σ H s)(h:jJ X.K H a xs)(h':jJ X.K H a ys):xs=ys:=by
 obtain⟨its,r,⟨o,e,_,n,d⟩,_⟩:=I.tuple h;obtain⟨its',r',⟨o',e',_,n',d'⟩,_⟩:=I.tuple h';rw[e]at e';cases e';rw[d]at d';injection d' with d1 _;have:its=its':=by simpa using Tj Array.toList d1
 subst this;exact r.inj r'
end
abbrev Cx.qW(X:Cx)(E:Value->Shared->Prop):Cx:={X with xe:=E}
abbrev Cx.wG(X:Cx):Cx:=X.qW λ _ _=>False
def Cx.Ok.qW{X:Cx}(ok:X.Ok)(E:Value->Shared->Prop):(X.qW E).Ok:=
 ⟨ok.mod,ok.kind,ok.glob,ok.blt,ok.above,ok.inj,ok.has,ok.Ao,ok.hd,ok.frames,ok.CC,ok.GG,ok.bs,ok.tR,ok.vV,ok.vW,ok.mW,ok.xB,ok.gt⟩
def Cx.Ok.om{X:Cx}{E:Value->Shared->Prop}(ok:(X.qW E).Ok):X.Ok:=
 ⟨ok.mod,ok.kind,ok.glob,ok.blt,ok.above,ok.inj,ok.has,ok.Ao,ok.hd,ok.frames,ok.CC,ok.GG,ok.bs,ok.tR,ok.vV,ok.vW,ok.mW,ok.xB,ok.gt⟩
section
variable {X:Cx}{pins:List (Addr×Obj)}{σ:St}{H:Hp}{s:Shared}{E:Value->Shared->Prop}
def Inv.qW(I:Inv X pins σ H s)(E:Value->Shared->Prop):Inv (X.qW E) pins σ H s:=⟨I.ok.qW E,I.os,I.bare,I.base,I.loc,I.cell,I.free,I.jC,I.pin,I.aL,I.len⟩
def Inv.om(I:Inv (X.qW E) pins σ H s):Inv X pins σ H s:=⟨I.ok.om,I.os,I.bare,I.base,I.loc,I.cell,I.free,I.jC,I.pin,I.aL,I.len⟩
def SP.om{D:Ends}{f:Flow}{s':Shared}(h:SP (X.qW E) pins D f s'):SP X pins D f s':=by
 cases f with
 |next=>obtain⟨σ',H',I,q⟩:=h;exact⟨σ',H',I.om,q⟩
 |brk=>obtain⟨σ',H',I,q⟩:=h;exact⟨σ',H',I.om,q⟩
 |cont=>obtain⟨σ',H',I,q⟩:=h;exact⟨σ',H',I.om,q⟩
 |ret u=>obtain⟨v,σ',H',I,r,q⟩:=h;exact⟨v,σ',H',I.om,r,q⟩
def iO.wG{st:List Stmt}{t:TS}(h:iO X.wG st t):iO X st t:=λ pins s σ H D I hw=>
 TY (h pins s σ H D (I.qW _) hw) (λ _ _ q=>q.om) λ _ _ z=>False.elim z
end
section
variable {X:Cx}{st:Stmt}{rest:List Stmt}{t u:TS}{e:Expr}{te:TE}{pos:Pos}
def OA:TS:=λ D σ H=>D.nx σ H
def QF(t u:TS):TS:=λ D σ H=>t {D with nx:=u D} σ H
def KQ:iO X [] OA:=λ _ _ σ H _ I h=>VB ⟨σ,H,I,h⟩
def GU(h1:PS X st t)(h2:iO X rest u):iO X (st::rest) (QF t u):=by
 intro pins s σ H D I h;refine wpAny_execs_cons (cR (h1 pins s σ H {D with nx:=u D} I h) λ f s1 q=>?_);cases f with
 |next=>
  obtain⟨σ',H',I',q⟩:=q;exact h2 pins s1 σ' H' D I' q
 |ret v=>exact q
 |brk=>exact q
 |cont=>exact q
def JD(h1:PS X st t):iO X [st] t:=by
 intro pins s σ H D I h;refine wpAny_execs_cons (cR (h1 pins s σ H D I h) λ f s1 q=>?_);cases f with
 |next=>exact VB q
 |ret v=>exact q
 |brk=>exact q
 |cont=>exact q
def Inv.quiet{pins:List (Addr×Obj)}{σ:St}{H:Hp}{s:Shared}(I:Inv X pins σ H s):interactive X.env=false:=by simp[interactive,I.ok.kind]
def OF(te:TE):TS:=λ D σ H=>te σ H λ _ H1=>D.nx σ H1
def KI(he:PE X e te)(hs:swapsWith e none pos.line X.env=pure false:=by rfl):PS X (.Expr e pos) (OF te):=by
 intro pins s σ H D I h;exact wpAny_Expr_any (cR (he pins s σ H _ I h) λ v s1 ⟨x,H1,I1,r1,q1⟩=>⟨σ,H1,I1,q1⟩) I.quiet hs
def QA(te:TE):TS:=λ D σ H=>te σ H D.rt
def MJ(he:PE X e te):PS X (.Return (some e) pos) (QA te):=by
 intro pins s σ H D I h;exact wpAny_Return_some (cR (he pins s σ H _ I h) λ v s1 ⟨x,H1,I1,r1,q1⟩=>⟨x,σ,H1,I1,r1,q1⟩)
def QP(c:TT)(t u:TS):TS:=λ D σ H=>c σ H λ b H1=>if b=true then t D σ H1 else u D σ H1
def Oa{c:Expr}{a b:List Stmt}{tc:TT}(hc:PT X c tc)(ha:iO X a t)(hb:iO X b u):PS X (.If c a b pos) (QP tc t u):=by
 intro pins s σ H D I h;refine wpAny_If (cR (hc pins s σ H _ I h) λ d s1 ⟨H1,I1,q1⟩=>?_);cases d with
 |true=>exact ha pins s1 σ H1 D I1 q1
 |false=>exact hb pins s1 σ H1 D I1 q1
end
abbrev TG:=V->St->Hp->(St->Hp->Prop)->Prop
abbrev A8:=List V->St->Hp->(St->Hp->Prop)->Prop
def PG(X:Cx)(target:Expr)(t:TG):Prop:=
 ∀(pins:List (Addr×Obj)) (s:Shared) (σ:St) (H:Hp) (v:V) (u:Value) (Q:St->Hp->Prop),Inv X pins σ H s->RelV v u->t v σ H Q->
  wpAny (model X.prog X.w) X.A (assign target X.env u) (λ _ s'=>∃σ' H',Inv X pins σ' H' s'/\Q σ' H') X.xe s
def Jh(X:Cx)(ts:List Expr)(t:A8):Prop:=
 ∀(pins:List (Addr×Obj)) (s:Shared) (σ:St) (H:Hp) (vs:List V) (us:List Value) (Q:St->Hp->Prop),Inv X pins σ H s->Vals vs us->t vs σ H Q->
  wpAny (model X.prog X.w) X.A (assignInOrder ((assignEach ts X.env).map (·.2)) us) (λ _ s'=>∃σ' H',Inv X pins σ' H' s'/\Q σ' H') X.xe s
abbrev Hb:=V->V->V->Hp->(Hp->Prop)->Prop
def Nw(X:Cx)(t:Hb):Prop:=
 ∀(pins:List (Addr×Obj)) (s:Shared) (σ:St) (H:Hp) (o i v:V) (ov iv u:Value) (Q:Hp->Prop),Inv X pins σ H s->RelV o ov->RelV i iv->RelV v u->t o i v H Q->
  wpAny (model X.prog X.w) X.A (setItem ov iv u) (λ _ s'=>∃H',Inv X pins σ H' s'/\Q H') X.xe s
abbrev Jd:=V->V->Hp->VK->Prop
def Mw(X:Cx)(op:Operator)(t:Jd):Prop:=
 ∀(pins:List (Addr×Obj)) (s:Shared) (σ:St) (H:Hp) (x y:V) (v u:Value) (Q:VK),Inv X pins σ H s->RelV x v->RelV y u->t x y H Q->
  wpAny (model X.prog X.w) X.A (inplaceOp op v u) (EP X pins σ Q) X.xe s
section
variable {X:Cx}{pos:Pos}
def kB(i:Nat):TG:=λ v σ H Q=>Q (σ.set i (some v)) H
def pv{i:Nat}{x:Str}(hN:X.N.Nodup)(hi:X.N[i]?=some x)(hx:Loc X.env.scope x)(hf:X.fn x=true\/X.env.scope.names.lookup x=some .local:=by first|exact .inl rfl|exact .inr rfl|assumption):PG X (.Name x pos) (kB i):=by
 intro pins s σ H v u Q I r h;exact wpAny_assign_Name (wa I hN hi hx r (λ s' I'=>⟨_,H,I',h⟩) hf)
def HS:A8:=λ vs σ H Q=>vs=[]/\Q σ H
def u6(t:TG)(u:A8):A8:=λ vs σ H Q=>∃v r,vs=v::r/\t v σ H λ σ' H'=>u r σ' H' Q
def CQ:Jh X [] HS:=by
 intro pins s σ H vs us Q I r h;obtain⟨e,h⟩:=h;subst e;cases r;exact assignInOrder_nil ⟨σ,H,I,h⟩
def pU{e:Expr}{es:List Expr}{t:TG}{u:A8}(h1:PG X e t)(h2:Jh X es u)
 (hs:(assignEach (e::es) X.env).map (·.2)=assign e X.env::(assignEach es X.env).map (·.2):=by rfl):Jh X (e::es) (u6 t u):=by
 intro pins s σ H vs us Q I r h;obtain⟨v,vr,e1,h⟩:=h;subst e1;cases r with
 |cons r rr=>
  rw[hs];refine assignInOrder_cons (cR (h1 pins s σ H _ _ _ I r h) λ _ s1 ⟨σ1,H1,I1,q1⟩=>?_);exact h2 pins s1 σ1 H1 _ _ Q I1 rr q1
def GQ(K:PySem.W.Frag)(n:Nat)(t:A8):TG:=λ v σ H Q=>∃a xs,v= .ref a/\jJ K H a xs/\xs.length=n/\t xs σ H Q
def FV{es:List Expr}{k:Nat}{t:A8}{n:Nat}(hc:X.calm=true)(h:Jh X es t)
 (hn:(assignEach es X.env).length=n:=by rfl) (hst:(assignEach es X.env).findIdx? (·.1)=none:=by rfl):PG X (.Tuple es k pos) (GQ X.K n t):=by
 intro pins s σ H v u Q I r hw;obtain⟨a,xs,e1,hq,hl,hw⟩:=hw;subst e1;cases r;obtain⟨its,rv,ht,hz⟩:=I.tuple hq;refine assign_Tuple_tuple (I.ok.hd hc) ht (by simp[hn,<-hl,rv.length]) hst λ h' hx=>?_;have I1:Inv X pins σ H {s with heap:=h'}:=I.kept (t':=s.toks) λ b o e=>hx b o (Sj (RT e)) e;exact h pins _ σ H xs _ Q I1 (by simpa using rv) hw
def AZ(to ti:TE)(t:Hb):TG:=λ v σ H Q=>to σ H λ o H1=>ti σ H1 λ i H2=>t o i v H2 λ H3=>Q σ H3
def EZ{o i:Expr}{to ti:TE}{t:Hb}(ho:PE X o to)(hi:PE X i ti)(hs:Nw X t)
 (ha:∀v,assign (.Subscript o i pos) X.env v=(do
   let ov <-holding [v] (eval o X.env)
   let iv <-holding [v,ov] (eval i X.env)
   standAt pos
   holding [v,ov,iv] (setItem ov iv v)
   release [v,ov,iv] []):=by intro _;rfl):PG X (.Subscript o i pos) (AZ to ti t):=by
 intro pins s σ H v u Q I r h;rw[ha];refine Rz (Uy (cR (ho pins s σ H _ I h) λ ov s1 ⟨x,H1,I1,r1,q1⟩=>?_));refine Rz (Uy (cR (hi pins s1 σ H1 _ I1 q1) λ iv s2 ⟨y,H2,I2,r2,q2⟩=>?_));refine Rz (V1 (Rz (Uy (cR (hs pins s2 σ H2 x y v ov iv u _ I2 r1 r2 r q2) λ _ s3 ⟨H3,I3,q3⟩=>?_))));exact wpAny_release ⟨σ,H3,I3,q3⟩
def oF(te:TE)(g:TG):TS:=λ D σ H=>te σ H λ x H1=>g x σ H1 D.nx
def BJ{tg e:Expr}{te:TE}{g:TG}(he:PE X e te)(hg:PG X tg g)(hs:swapsWithSole [tg] e pos.line X.env=pure false:=by rfl)(hw:swappedStores [tg] e X.env=pure none:=by rfl)
 (h1:(assignEach [tg] X.env).map (·.2)=[assign tg X.env]:=by rfl):PS X (.Assign [tg] e pos) (oF te g):=by
 intro pins s σ H D I h;refine wpAny_Assign_stores (cR (he pins s σ H _ I h) λ v s1 ⟨x,H1,I1,r1,q1⟩=>?_) hs hw;rw[h1];exact cR (hg pins s1 σ H1 x v _ I1 r1 q1) λ _ s2 q=>q
def FR{i:Nat}{x:Str}{e:Expr}{te:TE}{pos':Pos}(hN:X.N.Nodup)(hi:X.N[i]?=some x)(hx:Loc X.env.scope x)(he:PE X e te)(hs:swapsWith e (some (.Name x pos')) pos.line X.env=pure false:=by rfl)(hf:X.fn x=true\/X.env.scope.names.lookup x=some .local:=by first|exact .inl rfl|exact .inr rfl|assumption):
 PS X (.Assign [.Name x pos'] e pos) (oF te (kB i)):=by
 intro pins s σ H D I h;refine wpAny_Assign_Name (cR (he pins s σ H _ I h) λ v s1 ⟨y,H1,I1,r1,q1⟩=>?_) hs;exact wa I1 hN hi hx r1 (λ s2 I2=>⟨_,H1,I2,q1⟩) hf
def Nl(i:Nat)(te:TE)(ti:Jd):TS:=λ D σ H=>∃x,σ[i]?=some (some x)/\te σ H λ y H1=>ti x y H1 λ z H2=>D.nx (σ.set i (some z)) H2
def Mq{i:Nat}{x:Str}{e:Expr}{te:TE}{op:Operator}{ti:Jd}{pos':Pos}(hN:X.N.Nodup)(hi:X.N[i]?=some x)(hx:Loc X.env.scope x)(he:PE X e te)(ho:Mw X op ti)(hf:X.fn x=true\/X.env.scope.names.lookup x=some .local:=by first|exact .inl rfl|exact .inr rfl|assumption):
 PS X (.AugAssign (.Name x pos') op e pos) (Nl i te ti):=by
 intro pins s σ H D I h;obtain⟨v,e1,h⟩:=h;obtain⟨m,hn,hl⟩:=I.loc;have vis:AJ X.env.scope x:=by rcases hx with k|k;exact .inl k;exact .inr (.inl k)
 obtain⟨u,r,l⟩:=hl i x v hi e1 vis;refine wpAny_AugAssign_Name ?_
 have go:wpAny (model X.prog X.w) X.A (eval e X.env) (λ w s₂=>wpAny (model X.prog X.w) X.A (inplaceOp op u w) (λ r s₃=>wpAny (model X.prog X.w) X.A (storeName X.env x r) (λ _=>SP X pins D .next) X.xe s₃) X.xe s₂) X.xe s:=by
  refine cR (he pins s σ H _ I h) λ w s1 ⟨y,H1,I1,r1,q1⟩=>?_;refine cR (ho pins s1 σ H1 v y u w _ I1 r r1 q1) λ z s2 ⟨zv,H2,I2,r2,q2⟩=>?_;exact wa I2 hN hi hx r2 (λ s3 I3=>⟨_,H2,I3,q2⟩) hf
 rcases l with⟨hk,hm⟩|⟨hk,c,hc,hcell⟩
 . exact wpAny_loadName_local I.ok.kind hk hn hm go
 . rcases hk with hk|hk
   . exact wpAny_loadName_cell I.ok.kind hk hc hcell go
   . rcases hx with k|k
     . have:X.env.scope.names.lookup x=some .free:=hk;rw[k]at this;cases this
     . have:X.env.scope.names.lookup x=some .free:=hk;rw[k]at this;cases this
def NG(f:Int->Int->Int):Jd:=λ x y H Q=>∃i j,x= .int i/\y= .int j/\Q (.int (f i j)) H
def L5:Mw X .Add (NG λ i j=>i+j):=by
 intro pins s σ H x y v u Q I r1 r2 h;obtain⟨i,j,e1,e2,q⟩:=h;subst e1;subst e2;obtain⟨t,rfl⟩:=r1;obtain⟨t',rfl⟩:=r2;exact iadd_int ⟨.int _,H,I.tok _,⟨_,rfl⟩,q⟩
def EM(c:TT)(tb:TS):TS:=λ D σ H=>∃W:Nat->St->Hp->Prop,(∃m,W m σ H)/\∀m σ H,W m σ H->
 c σ H λ b H1=>if b=true then∃N:St->Hp->Prop,(∀σ' H',N σ' H'->∃m',m'<m/\W m' σ' H')/\tb {D with nx:=N,ct:=N,bk:=D.nx} σ H1 else D.nx σ H1
def HC{c:Expr}{body:List Stmt}{tc:TT}{tb:TS}(hp:PassesOwn (model X.prog X.w) X.A X.env X.xe)(hc:PT X c tc)(hb:iO X body tb):PS X (.While c body [] pos) (EM tc tb):=by
 intro pins s σ H D I h;obtain⟨W,⟨m0,w0⟩,turn⟩:=h;refine wpAny_While (codeAny_whileLoop (λ n s'=>∃σ' H',Inv X pins σ' H' s'/\W n σ' H') ?_ m0 ⟨σ,H,I,w0⟩);rintro n s1 ⟨σ1,H1,I1,w1⟩;refine Uj hp (cR (hc pins s1 σ1 H1 _ I1 (turn n σ1 H1 w1)) λ b s2 ⟨H2,I2,q2⟩=>?_);cases b with
 |true=>
  obtain⟨N,hN,q2⟩:=q2;rw[RF rfl];refine Uj hp (cR (hb pins s2 σ1 H2 _ I2 q2) λ f s3 q3=>?_);cases f with
  |next=>
   obtain⟨σ3,H3,I3,n3⟩:=q3;obtain⟨m',hm,w3⟩:=hN σ3 H3 n3;exact⟨m',hm,σ3,H3,I3,w3⟩
  |cont=>
   obtain⟨σ3,H3,I3,n3⟩:=q3;obtain⟨m',hm,w3⟩:=hN σ3 H3 n3;exact⟨m',hm,σ3,H3,I3,w3⟩
  |brk=>exact q3
  |ret v=>exact q3
 |false=>
  rw[RE SJ];exact VB ⟨σ1,H2,I2,q2⟩
end
structure It where
 go:Nat->Hp->Prop
 rh:Nat->Hp->V->Hp->Prop
 stop:Nat->Hp->Prop
def nE(X:Cx)(pins:List (Addr×Obj))(H:Hp)(b:Addr):Prop:=
 H b=none/\b≠X.env.locals/\b∉X.fs/\(b∈X.ex\/X.s₀.heap.objs.size<=b)/\(∀x c,X.env.cells.lookup x=some c->c≠b)/\∀p∈X.pn++pins,p.1≠b
def Inv.x6{X:Cx}{pins:List (Addr×Obj)}{σ:St}{H H':Hp}{s:Shared}{b:Addr}(I:Inv X pins σ H s)(hb:s.heap.objs.size<=b)(hn:H' b=none):nE X pins H' b:=by
 refine⟨hn,Uv (RW I.lt hb),I.NR hb,.inr (RD I.sz hb),λ x c e z=>?_,λ p hp z=>?_⟩
 . obtain⟨v,q⟩:=I.cell x c e;exact absurd (RW q.lt (by rw[z];exact hb)) (S0 _)
 . exact absurd (RW (RT (I.pin p hp).1) (by rw[z];exact hb)) (S0 _)
structure Turn(P:Program)(w:World)(K:PySem.W.Frag)(tg:Expr)(J:It)(fp:List Addr)(it:Addr)(tn:Nat->Heap->Prop):Prop where
 mem:it∈fp
 obj:∀i h,tn i h->∀b∈fp,∃o,h.get? b=some o/\∀v,o.data≠ .cell v
 keep:∀i h h',tn i h->(∀b∈fp,∀o,h.get? b=some o->h'.get? b=some o)->tn i h'
 item:∀(X:Cx),X.prog=P->X.w=w->X.K=K->X.calm=true->∀(i:Nat) (pins:List (Addr×Obj)) (s:Shared) (σ:St) (H:Hp) (E:Value->Shared->Prop),Inv X pins σ H s->(∀b∈fp,nE X pins H b)->tn i s.heap->J.go i H->
  wpAny (model P w) X.A (pyNext (.ref it)) (λ r s1=>∃u,r=some u/\
   wpAny (model P w) X.A (letOwnedTupleGo tg (.ref it) u) (λ _ s2=>∃x H',Inv X pins σ H' s2/\RelV x u/\J.rh i H x H'/\tn (i+1) s2.heap/\∀b∈fp,H' b=none) E s1) E s
 done:∀(X:Cx),X.prog=P->X.w=w->X.K=K->X.calm=true->∀(i:Nat) (pins:List (Addr×Obj)) (s:Shared) (σ:St) (H:Hp) (E:Value->Shared->Prop),Inv X pins σ H s->(∀b∈fp,nE X pins H b)->tn i s.heap->J.stop i H->
  wpAny (model P w) X.A (pyNext (.ref it)) (λ r s1=>r=none/\Inv X pins σ H s1) E s
 self:∀(A:Around) (i:Nat) (s:Shared) (Q:Value->Shared->Prop) (E:Value->Shared->Prop),tn i s.heap->Q (.ref it) s->wpAny (model P w) A (pyIter (.ref it)) Q E s
abbrev TI:=St->Hp->(It->Hp->Prop)->Prop
def Jc(X:Cx)(pins:List (Addr×Obj))(σ:St)(tg:Expr)(R:It->Hp->Prop)(itv:Value)(s2:Shared):Prop:=
 ∃(it:Addr) (fp:List Addr) (tn:Nat->Heap->Prop) (J:It) (H':Hp),itv= .ref it/\Inv X pins σ H' s2/\Turn X.prog X.w X.K tg J fp it tn/\tn 0 s2.heap/\(∀b∈fp,nE X pins H' b)/\R J H'
def PI(X:Cx)(tg iter:Expr)(wi:TI):Prop:=
 ∀(pins:List (Addr×Obj)) (s:Shared) (σ:St) (H:Hp) (R:It->Hp->Prop),Inv X pins σ H s->wi σ H R->
  wpAny (model X.prog X.w) X.A (eval iter X.env) (λ v s1=>wpAny (model X.prog X.w) X.A (pyIter v) (Jc X pins σ tg R) X.xe s1) X.xe s
def Dm{M:Model}{A:Around}{E:Value->Shared->Prop}{s:Shared}{tg:Expr}{it:Addr}{u:Value}{o:Obj}{n:String}{vs:Array Value}{Q:Unit->Shared->Prop}(ho:s.heap.get? it=some o)(hc:o.cls= .type n)(hd:o.data= .fields vs)
 (hn: ["enumerate","zip","dict_itemiterator","dict_reverseitemiterator","odict_iterator","itertools.zip_longest","itertools.pairwise"].contains n=false) (hQ:Q () s):wpAny M A (letOwnedTupleGo tg (.ref it) u) Q E s:=by
 unfold letOwnedTupleGo
 cases tg<;>first
  |exact RP hQ
  |(cases u<;>first
     |exact RP hQ
     |(refine Rz (wpAny_load ho ?_)
       rw[hc,hd];show wpAny M A (if(["enumerate","zip","dict_itemiterator","dict_reverseitemiterator","odict_iterator","itertools.zip_longest","itertools.pairwise"].contains n&&vs[0]?==some (rawInt _))=true then _ else _) Q E s;rw[RE (by intro h;rw[hn,Bool.false_and]at h;cases h)];exact RP hQ))
def Np(K:PySem.W.Frag)(a:Addr):It:=
 ⟨λ i H=>∃xs x,oh K H a xs/\xs[i]?=some x,λ i H x H'=>H'=H/\∀xs,oh K H a xs->xs[i]?=some x,λ i H=>∃xs,oh K H a xs/\xs.length<=i⟩
def Lw(K:PySem.W.Frag)(a:Addr):It:=
 ⟨λ i H=>∃xs x,jJ K H a xs/\xs[i]?=some x,λ i H x H'=>H'=H/\∀xs,jJ K H a xs->xs[i]?=some x,λ i H=>∃xs,jJ K H a xs/\xs.length<=i⟩
def y6(lo:Int)(n:Nat):It:=⟨λ i _=>i<n,λ i H x H'=>H'=H/\x= .int (lo+i),λ i _=>n<=i⟩
def EI{P:Program}{w:World}{K:PySem.W.Frag}{tg:Expr}(a it:Addr):Turn P w K tg (Np K a) [it] it (λ i h=>h.IsListIter it a i) where
 mem:=by simp
 obj:=λ i h st b hb=>by
  have e:b=it:=by simpa using hb
  subst e;obtain⟨o,e,c,d⟩:=st;exact⟨o,e,λ v z=>by rw[d]at z;cases z⟩
 keep:=λ i h h' st k=>st.at λ o e=>k it (by simp) o e
 item:=by
  intro X hP hw hK hc i pins s σ H E I hf st hg;subst hP hw hK;obtain⟨xs,x,hq,hx⟩:=hg;obtain⟨its,rv,p,hz⟩:=I.list hq;obtain⟨u,hu,ru⟩:=rv.get hx;obtain⟨f0,f1,f2,f3,f4,f5⟩:=hf it (by simp);refine wpAny_pyNext_list_item st p.isList (x:=u) (by simpa using hu) λ h' st' sb=>?_;have I1:Inv X pins σ H {s with heap:=h'}:=I.turned (t':=s.toks) (λ b o hb e=>(sb.2 b hb).trans e) f0 f1 f3 f4 f5;obtain⟨o,e,c,d⟩:=id st';exact⟨u,rfl,Dm (s:={s with heap:=h'}) e c d (by decide) ⟨x,H,I1,ru,⟨rfl,λ ys hy=>by rw[I.An hy hq];exact hx⟩,st',λ b hb=>(hf b hb).1⟩⟩
 done:=by
  intro X hP hw hK hc i pins s σ H E I hf st hg;subst hP hw hK;obtain⟨xs,hq,hx⟩:=hg;obtain⟨its,rv,p,hz⟩:=I.list hq;obtain⟨f0,f1,f2,f3,f4,f5⟩:=hf it (by simp);have hl:=rv.length;exact wpAny_pyNext_list_end (I.ok.hd hc) st p.isList (by simp;omega) λ h' eb=>⟨rfl,I.turned (t':=s.toks) (λ b o hb e=>eb b o hb e) f0 f1 f3 f4 f5⟩
 self:=λ _ _ _ _ _ st h=>wpAny_pyIter_listiter st h
def Es{P:Program}{w:World}{K:PySem.W.Frag}{tg:Expr}(a it:Addr):Turn P w K tg (Lw K a) [it] it (λ i h=>h.IsTupleIter it a i) where
 mem:=by simp
 obj:=λ i h st b hb=>by
  have e:b=it:=by simpa using hb
  subst e;obtain⟨o,e,c,d⟩:=st;exact⟨o,e,λ v z=>by rw[d]at z;cases z⟩
 keep:=λ i h h' st k=>st.at λ o e=>k it (by simp) o e
 item:=by
  intro X hP hw hK hc i pins s σ H E I hf st hg;subst hP hw hK;obtain⟨xs,x,hq,hx⟩:=hg;obtain⟨its,rv,p,hz⟩:=I.tuple hq;obtain⟨u,hu,ru⟩:=rv.get hx;obtain⟨f0,f1,f2,f3,f4,f5⟩:=hf it (by simp);refine wpAny_pyNext_tuple_item st (show s.heap.IsTuple a its.toArray from p) (x:=u) (by simpa using hu) λ h' st' sb=>?_;have I1:Inv X pins σ H {s with heap:=h'}:=I.turned (t':=s.toks) (λ b o hb e=>(sb.2 b hb).trans e) f0 f1 f3 f4 f5;obtain⟨o,e,c,d⟩:=id st';exact⟨u,rfl,Dm (s:={s with heap:=h'}) e c d (by decide) ⟨x,H,I1,ru,⟨rfl,λ ys hy=>by rw[I.yP hy hq];exact hx⟩,st',λ b hb=>(hf b hb).1⟩⟩
 done:=by
  intro X hP hw hK hc i pins s σ H E I hf st hg;subst hP hw hK;obtain⟨xs,hq,hx⟩:=hg;obtain⟨its,rv,p,hz⟩:=I.tuple hq;obtain⟨f0,f1,f2,f3,f4,f5⟩:=hf it (by simp);have hl:=rv.length;exact wpAny_pyNext_tuple_end (I.ok.hd hc) st (show s.heap.IsTuple a its.toArray from p) (by simp;omega) λ h' eb=>⟨rfl,I.turned (t':=s.toks) (λ b o hb e=>eb b o hb e) f0 f1 f3 f4 f5⟩
 self:=λ _ _ _ _ _ st h=>wpAny_pyIter_tupleiter st h
def Ea{P:Program}{w:World}{K:PySem.W.Frag}{tg:Expr}(it:Addr)(lo:Int)(n:Nat):Turn P w K tg (y6 lo n) [it] it (λ i h=>IsRangeIter h it (lo+(i:Nat)*1) ((n:Int)-(i:Nat)) 1) where
 mem:=by simp
 obj:=λ i h st b hb=>by
  have e:b=it:=by simpa using hb
  subst e
  exact⟨_,st,λ v z=>by
   have z':Data.fields _=Data.cell v:=z;cases z'⟩
 keep:=λ i h h' st k=>k it (by simp) _ st
 item:=by
  intro X hP hw hK hc i pins s σ H E I hf st hg;subst hP hw hK;obtain⟨f0,f1,f2,f3,f4,f5⟩:=hf it (by simp);have W:=Walks.range (prog:=X.prog) (w:=X.w) (I.ok.hd hc) it lo 1 n;refine W.item i s _ _ hg st λ v h' tk hv st' kk=>?_;obtain⟨t,rfl⟩:=hv;have I1:Inv X pins σ H {s with heap:=h',toks:=tk}:=I.turned (λ b o hb e=>kk b o (by simpa using hb) e) f0 f1 f3 f4 f5;refine⟨_,rfl,Dm (s:={s with heap:=h',toks:=tk}) (n:="range_iterator") st' rfl rfl (by decide) ⟨.int (lo+i),H,I1,⟨t,?_⟩,⟨rfl,rfl⟩,st',λ b hb=>(hf b hb).1⟩⟩;rw[Vo]
 done:=by
  intro X hP hw hK hc i pins s σ H E I hf st hg;subst hP hw hK;obtain⟨f0,f1,f2,f3,f4,f5⟩:=hf it (by simp);exact wpAny_pyNext_range_end (I.ok.hd hc) st (by have:n<=i:=hg;omega) λ h' eb=>⟨rfl,I.turned (t':=s.toks) (λ b o hb e=>eb b o hb e) f0 f1 f3 f4 f5⟩
 self:=λ _ _ _ _ _ st h=>wpAny_pyIter_rangeiter st h
section
variable {X:Cx}{tg:Expr}
def AA{pins:List (Addr×Obj)}{σ:St}{H:Hp}{s:Shared}{R:It->Hp->Prop}{E:Value->Shared->Prop}{lo hi:Int}{t u v:Tok}{tk:Nat}(I:Inv X pins σ H s)(h1: -(2^62)<=lo)(h2:lo<2^62)(h3: -(2^62)<=hi)(h4:hi<2^62)
 (q:R (y6 lo (hi-lo).toNat) H):wpAny (model X.prog X.w) X.A (pyIter (.ref s.heap.objs.size)) (Jc X pins σ tg R) E {s with heap:=s.heap.push {cls:= .type "range",data:= .fields #[.int lo t,.int hi u,.int 1 v]},toks:=tk}:=by
 refine wpAny_pyIter_range (IsRange.new ..) (small_one h1 h2 h3 h4) ?_;have I1:Inv X pins σ H {s with heap:=s.heap.push {cls:= .type "range",data:= .fields #[.int lo t,.int hi u,.int 1 v]},toks:=tk}:=I.kept λ b o e=>RG _ e
 refine⟨(s.heap.push {cls:= .type "range",data:= .fields #[.int lo t,.int hi u,.int 1 v]}).objs.size,[(s.heap.push {cls:= .type "range",data:= .fields #[.int lo t,.int hi u,.int 1 v]}).objs.size],_,_,H,rfl,
  I1.kept (t':=tk) λ b o e=>RG _ e,Ea _ lo (hi-lo).toNat,?_,λ b hb=>?_,q⟩
 . have e1:lo+((0:Nat):Int)*1=lo:=by simp
   have e2:(((hi-lo).toNat:Nat):Int)-((0:Nat):Int)=Builtin.Range.rangeSize lo hi 1:=by rw[rangeSize_one];split<;>omega
   show IsRangeIter _ _ (lo+((0:Nat):Int)*1) ((((hi-lo).toNat:Nat):Int)-((0:Nat):Int)) 1;rw[e1,e2];exact Sa _ rfl
 . have e:b=(s.heap.push {cls:= .type "range",data:= .fields #[.int lo t,.int hi u,.int 1 v]}).objs.size:=by simpa using hb
   subst e;exact I1.x6 (Ry _) (I1.aL.fresh (Ry _))
def DP(ta:TA):TI:=λ σ H R=>ta σ H λ vs H1=>∃j:Int,vs=[.int j]/\ -(2^62)<=j/\j<2^62/\R (y6 0 j.toNat) H1
def Dp(ta:TA):TI:=λ σ H R=>ta σ H λ vs H1=>∃i j:Int,vs=[.int i,.int j]/\(-(2^62)<=i/\i<2^62/\ -(2^62)<=j/\j<2^62)/\R (y6 i (j-i).toNat) H1
def F5{a:Expr}{ta:TA}{p pos:Pos}(hg:Gl X "range")(hm:X.mg "range"=none)(ha:PA X [a] ta)(hs:starEach [a] X.env=[(false,eval a X.env)]:=by rfl):PI X tg (.Call (.Name "range" p) [a] [] pos) (DP ta):=by
 intro pins s σ H R I h;refine Call_ (ow I hg hm boot_range (TM (cR (ha pos pins s σ H _ I h) λ us s1 ⟨vs,H1,I1,r1,q1⟩=>?_) hs rfl));obtain⟨j,e,q1,q2,q⟩:=q1;subst e;cases r1 with
 |cons r rr=>
  cases rr;obtain⟨t,rfl⟩:=r;exact call_range_1 (AA I1 (by omega) (by omega) q1 q2 (by simpa using q))
def FL{a b:Expr}{ta:TA}{p pos:Pos}(hg:Gl X "range")(hm:X.mg "range"=none)(ha:PA X [a,b] ta)(hs:starEach [a,b] X.env=[(false,eval a X.env),(false,eval b X.env)]:=by rfl)(hs2:starEach [b] X.env=[(false,eval b X.env)]:=by rfl):
 PI X tg (.Call (.Name "range" p) [a,b] [] pos) (Dp ta):=by
 intro pins s σ H R I h;refine Call_ (ow I hg hm boot_range (TM (cR (ha pos pins s σ H _ I h) λ us s1 ⟨vs,H1,I1,r1,q1⟩=>?_) (by rw[hs,hs2]) (by rw[hs2];rfl)));obtain⟨i,j,e,⟨q1,q2,q3,q4⟩,q⟩:=q1;subst e;cases r1 with
 |cons r rr=>
  cases rr with
  |cons r' rr=>
   cases rr;obtain⟨t,rfl⟩:=r;obtain⟨t',rfl⟩:=r';exact call_range_2 (AA I1 q1 q2 q3 q4 q)
def Mo(wi:TI)(g:TG)(tb:TS):TS:=λ D σ H=>wi σ H λ J H1=>∃W:Nat->Nat->St->Hp->Prop,(∃m,W 0 m σ H1)/\∀i m σ H,W i m σ H->
 (J.stop i H/\D.nx σ H)\/(J.go i H/\∃N:St->Hp->Prop,(∀σ' H',N σ' H'->∃m',m'<m/\W (i+1) m' σ' H')/\∀x H',J.rh i H x H'->g x σ H' λ σ2 H2=>tb {D with nx:=N,ct:=N,bk:=D.nx} σ2 H2)
def uH(fp:List Addr)(h:Heap):List (Addr×Obj):=fp.filterMap λ b=>(h.get? b).map λ o=>(b,o)
def oR{fp:List Addr}{h:Heap}{b:Addr}{o:Obj}(hb:b∈fp)(e:h.get? b=some o):(b,o)∈uH fp h:=U0.mpr ⟨b,hb,by rw[e];rfl⟩
def EX{fp:List Addr}{h:Heap}{p:Addr×Obj}(hp:p∈uH fp h):p.1∈fp/\h.get? p.1=some p.2:=by
 obtain⟨b,hb,e⟩:=U0.mp hp;cases q:h.get? b with
 |none=>rw[q]at e;cases e
 |some o=>
  rw[q]at e;have e':(b,o)=p:=SD e;subst e';exact⟨hb,q⟩
def Inv.pinned{pins:List (Addr×Obj)}{σ:St}{H:Hp}{s:Shared}{fp:List Addr}(I:Inv X pins σ H s)(hf:∀b∈fp,nE X pins H b)(ho:∀b∈fp,∃o,s.heap.get? b=some o/\∀v,o.data≠ .cell v):Inv X (pins++uH fp s.heap) σ H s:=
 I.uP λ p hp=>(RX.mp hp).elim (λ z=>I.pin p (RL _ z)) λ z=>by
  obtain⟨hb,e⟩:=EX z;obtain⟨f0,f1,f2,_⟩:=hf p.1 hb;obtain⟨o,e',d⟩:=ho p.1 hb;rw[e]at e';cases e';exact⟨e,f0,f1,f2,d⟩
def Inv.iZ{pins pl:List (Addr×Obj)}{σ:St}{H:Hp}{s:Shared}(I:Inv X (pins++pl) σ H s):Inv X pins σ H s:=I.uP λ p hp=>I.pin p (RL _ (R_ _ hp))
def Nt{iter:Expr}{body:List Stmt}{wi:TI}{g:TG}{tb:TS}{pos:Pos}(hp:PassesOwn (model X.prog X.w) X.A X.env X.xe)(hc:X.calm=true)(hi:PI X tg iter wi)(hg:PG X tg g)(hb:iO X body tb)
 (hs:∀x,foldedSetIterable iter X.env x=pure x:=by intro _;rfl):PS X (.For tg iter body [] pos) (Mo wi g tb):=by
 intro pins s σ H D I h;refine wpAny_For (cR (hi pins s σ H _ I h) λ v s1 h1=>cR h1 λ itv s2 h2=>?_) hs;obtain⟨it,fp,tn,J,H2,e,I2,T,st2,f2,W,⟨m0,w0⟩,turn⟩:=h2;subst e;have stat:∀ {H':Hp},(∀b∈fp,H' b=none)->∀b∈fp,nE X pins H' b:=λ hn b hb=>⟨hn b hb,(f2 b hb).2⟩
 refine codeAny_forLoop_any (λ n s'=>∃i σ' H',Inv X pins σ' H' s'/\tn i s'.heap/\(∀b∈fp,H' b=none)/\W i n σ' H') ?_ m0 ⟨0,σ,H2,I2,st2,λ b hb=>(f2 b hb).1,w0⟩;rintro n s3 ⟨i,σ3,H3,I3,st3,fr3,w3⟩;rcases turn i n σ3 H3 w3 with⟨stop,qn⟩|⟨go,N,hN,step⟩
 . refine Uj hp (cR (T.done X rfl rfl rfl hc i pins s3 σ3 H3 X.xe I3 (stat fr3) st3 stop) λ r s4 ⟨hr,I4⟩=>?_);subst hr;exact VB ⟨σ3,H3,I4,qn⟩
 . refine Uj hp (cR (T.item X rfl rfl rfl hc i pins s3 σ3 H3 X.xe I3 (stat fr3) st3 go) λ r s4 ⟨u,hr,h4⟩=>?_);subst hr;refine Uj hp (cR h4 λ _ s5 ⟨x,H5,I5,r5,y5,st5,fr5⟩=>?_);have I5':=I5.pinned (stat fr5) (T.obj _ _ st5);refine Uj hp (cR (hg _ s5 σ3 H5 x u _ I5' r5 (step x H5 y5)) λ _ s6 ⟨σ6,H6,I6,q6⟩=>?_);refine Uj hp (cR (hb _ s6 σ6 H6 _ I6 q6) λ f s7 q7=>?_)
   have again:∀ {σ7:St} {H7:Hp},Inv X (pins++uH fp s5.heap) σ7 H7 s7->N σ7 H7->∃m,m<n/\∃i σ' H',Inv X pins σ' H' s7/\tn i s7.heap/\(∀b∈fp,H' b=none)/\W i m σ' H':=λ{σ7 H7} I7 n7=>by
    obtain⟨m',hm,w7⟩:=hN σ7 H7 n7;refine⟨m',hm,i+1,σ7,H7,I7.iZ,T.keep _ _ _ st5 λ b hb o e=>(I7.pin (b,o) (RL _ (RL _ (oR hb e)))).1,λ b hb=>?_,w7⟩;obtain⟨o,e,d⟩:=T.obj _ _ st5 b hb;exact(I7.pin (b,o) (RL _ (RL _ (oR hb e)))).2.1
   cases f with
   |next=>obtain⟨σ7,H7,I7,n7⟩:=q7;exact again I7 n7
   |cont=>obtain⟨σ7,H7,I7,n7⟩:=q7;exact again I7 n7
   |brk=>obtain⟨σ7,H7,I7,q7⟩:=q7;exact⟨σ7,H7,I7.iZ,q7⟩
   |ret v=>obtain⟨x7,σ7,H7,I7,r7,q7⟩:=q7;exact⟨x7,σ7,H7,I7.iZ,r7,q7⟩
end
def lZ{lo:Int}{n:Nat}{g:TG}{tb:TS}{D:Ends}{σ:St}{H:Hp}(Pv:Nat->St->Hp->Prop)(h0:Pv 0 σ H)
 (hs:∀i σ H,i<n->Pv i σ H->g (.int (lo+i)) σ H λ σ2 H2=>tb {D with nx:=Pv (i+1),ct:=Pv (i+1),bk:=D.nx} σ2 H2) (hd:∀σ H,Pv n σ H->D.nx σ H):
 ∃W:Nat->Nat->St->Hp->Prop,(∃m,W 0 m σ H)/\∀i m σ H,W i m σ H->
  ((y6 lo n).stop i H/\D.nx σ H)\/((y6 lo n).go i H/\∃N:St->Hp->Prop,(∀σ' H',N σ' H'->∃m',m'<m/\W (i+1) m' σ' H')/\∀x H',(y6 lo n).rh i H x H'->g x σ H' λ σ2 H2=>tb {D with nx:=N,ct:=N,bk:=D.nx} σ2 H2):=by
 refine⟨λ i m σ H=>m=n-i/\i<=n/\Pv i σ H,⟨n,by simp,Sg _,h0⟩,?_⟩;rintro i m σ H ⟨rfl,hi,p⟩;by_cases hlt:i<n
 . refine .inr ⟨hlt,Pv (i+1),λ σ' H' p'=>⟨n-(i+1),by omega,rfl,hlt,p'⟩,λ x H' y=>?_⟩;obtain⟨e,y⟩:=y;subst e y;exact hs i σ _ hlt p
 . have e:i=n:=by omega
   subst e;exact .inl ⟨Ry _,hd σ H p⟩
abbrev R2:=V->V->Hp->VK->Prop
def cE(X:Cx)(f:Value->Value->Sem Value)(r:R2):Prop:=
 ∀(pins:List (Addr×Obj)) (s:Shared) (σ:St) (H:Hp) (x y:V) (v u:Value) (Q:VK),Inv X pins σ H s->RelV x v->RelV y u->r x y H Q->
  wpAny (model X.prog X.w) X.A (f v u) (EP X pins σ Q) X.xe s
def CB(X:Cx)(f:Value->Sem Value)(r:V->Hp->VK->Prop):Prop:=
 ∀(pins:List (Addr×Obj)) (s:Shared) (σ:St) (H:Hp) (x:V) (v:Value) (Q:VK),Inv X pins σ H s->RelV x v->r x H Q->
  wpAny (model X.prog X.w) X.A (f v) (EP X pins σ Q) X.xe s
def cj(X:Cx)(f:Value)(r:List V->Hp->VK->Prop):Prop:=
 ∀(pins:List (Addr×Obj)) (s:Shared) (σ:St) (H:Hp) (xs:List V) (us:List Value) (Q:VK),Inv X pins σ H s->Vals xs us->r xs H Q->
  wpAny (model X.prog X.w) X.A (call f us) (EP X pins σ Q) X.xe s
def E4(r:R2)(ta tb:TE):TE:=λ σ H Q=>ta σ H λ x H1=>tb σ H1 λ y H2=>r x y H2 Q
def PD(r:V->Hp->VK->Prop)(ta:TE):TE:=λ σ H Q=>ta σ H λ x H1=>r x H1 Q
def rI(C:Int->Int->Prop)(g:Int->Int->V):R2:=λ x y H Q=>∃i j,x= .int i/\y= .int j/\C i j/\Q (g i j) H
def yZ(g:Int->Int->V):R2:=λ x y H Q=>∃i j,x= .int i/\y= .int j/\Q (g i j) H
def rU(g:Int->V):V->Hp->VK->Prop:=λ x H Q=>∃i,x= .int i/\Q (g i) H
section
variable {X:Cx}{a b c:Expr}{ta tb tc:TE}{pos:Pos}
def Hm(ha:PE X a ta)(hb:PE X b tb){pins:List (Addr×Obj)}{s:Shared}{σ:St}{H:Hp}{R:V->V->Hp->Prop}(I:Inv X pins σ H s)
 (h:ta σ H λ x H1=>tb σ H1 λ y H2=>R x y H2) {Q:Value->Shared->Prop} {f:Value->Value->Sem Value}
 (hf:∀v u s2 x y H2,Inv X pins σ H2 s2->RelV x v->RelV y u->R x y H2->wpAny (model X.prog X.w) X.A (f v u) Q X.xe s2):
 wpAny (model X.prog X.w) X.A (eval a X.env) (λ v s₁=>wpAny (model X.prog X.w) X.A (eval b X.env) (λ u s₂=>wpAny (model X.prog X.w) X.A (f v u) Q X.xe s₂) X.xe s₁) X.xe s:=by
 refine cR (ha pins s σ H _ I h) λ v s1 ⟨x,H1,I1,r1,q1⟩=>?_;refine cR (hb pins s1 σ H1 _ I1 q1) λ u s2 ⟨y,H2,I2,r2,q2⟩=>?_;exact hf v u s2 x y H2 I2 r1 r2 q2
def Pc{op:Operator}{r:R2}(ho:cE X (binaryOp op) r)(ha:PE X a ta)(hb:PE X b tb):PE X (.BinOp a op b pos) (E4 r ta tb):=by
 intro pins s σ H Q I h;exact wpAny_BinOp (Hm ha hb I h λ v u s2 x y H2 I2 rx ry q=>ho pins s2 σ H2 x y v u Q I2 rx ry q)
def OC{op:UnaryOp}{r:V->Hp->VK->Prop}(ho:CB X (unaryOp op) r)(ha:PE X a ta):PE X (.UnaryOp op a pos) (PD r ta):=by
 intro pins s σ H Q I h;exact UnaryOp_ (cR (ha pins s σ H _ I h) λ v s1 ⟨x,H1,I1,r1,q1⟩=>ho pins s1 σ H1 x v Q I1 r1 q1)
def IW{f:Value->Value->Sem Value}{C:Int->Int->Prop}{g:Int->Int->Int}
 (rule:∀(i j:Int) (t u:Tok) (s:Shared) (Q:Value->Shared->Prop) (E:Value->Shared->Prop),C i j->Q (.int (g i j) s.toks) {s with toks:=s.toks+1}->wpAny (model X.prog X.w) X.A (f (.int i t) (.int j u)) Q E s):
 cE X f (rI C λ i j=> .int (g i j)):=by
 intro pins s σ H x y v u Q I rx ry h;obtain⟨i,j,rfl,rfl,hc,q⟩:=h;obtain⟨t,rfl⟩:=rx;obtain⟨t',rfl⟩:=ry;exact rule i j t t' s _ _ hc ⟨.int (g i j),H,I.tok _,⟨_,rfl⟩,q⟩
def N0{f:Value->Value->Sem Value}{g:Int->Int->Int}
 (rule:∀(i j:Int) (t u:Tok) (s:Shared) (Q:Value->Shared->Prop) (E:Value->Shared->Prop),Q (.int (g i j) s.toks) {s with toks:=s.toks+1}->wpAny (model X.prog X.w) X.A (f (.int i t) (.int j u)) Q E s):
 cE X f (yZ λ i j=> .int (g i j)):=by
 intro pins s σ H x y v u Q I rx ry h;obtain⟨i,j,rfl,rfl,q⟩:=h;obtain⟨t,rfl⟩:=rx;obtain⟨t',rfl⟩:=ry;exact rule i j t t' s _ _ ⟨.int (g i j),H,I.tok _,⟨_,rfl⟩,q⟩
def GL{f:Value->Value->Sem Value}{g:Int->Int->Bool}
 (rule:∀(i j:Int) (t u:Tok) (s:Shared) (Q:Value->Shared->Prop) (E:Value->Shared->Prop),Q (.bool (g i j)) s->wpAny (model X.prog X.w) X.A (f (.int i t) (.int j u)) Q E s):
 cE X f (yZ λ i j=> .bl (g i j)):=by
 intro pins s σ H x y v u Q I rx ry h;obtain⟨i,j,rfl,rfl,q⟩:=h;obtain⟨t,rfl⟩:=rx;obtain⟨t',rfl⟩:=ry;exact rule i j t t' s _ _ ⟨.bl (g i j),H,I,rfl,q⟩
def Ho(i j:Int):Prop:=0<=j/\j<=1000000/\i.natAbs<2^64
def N3:cE X (binaryOp .Add) (yZ λ i j=> .int (i+j)):=N0 λ _ _ _ _ _ _ _ q=>add_int q
def Mz:cE X (binaryOp .Sub) (yZ λ i j=> .int (i-j)):=N0 λ _ _ _ _ _ _ _ q=>sub_int q
def K0:cE X (binaryOp .Mod) (rI (λ _ j=>j≠0) λ i j=> .int (i.fmod j)):=IW λ _ _ _ _ _ _ _ hc q=>mod_int' hc q
def Mb:cE X (binaryOp .Pow) (rI Ho λ i j=> .int (i^j.toNat)):=IW λ _ _ _ _ _ _ _ hc q=>pow_int_small hc.1 hc.2.1 hc.2.2 q
def Q4{f:Value->Sem Value}{g:Int->Int}
 (rule:∀(i:Int) (t:Tok) (s:Shared) (Q:Value->Shared->Prop) (E:Value->Shared->Prop),Q (.int (g i) s.toks) {s with toks:=s.toks+1}->wpAny (model X.prog X.w) X.A (f (.int i t)) Q E s):
 CB X f (rU λ i=> .int (g i)):=by
 intro pins s σ H x v Q I rx h;obtain⟨i,rfl,q⟩:=h;obtain⟨t,rfl⟩:=rx;exact rule i t s _ _ ⟨.int (g i),H,I.tok _,⟨_,rfl⟩,q⟩
def NL:CB X (unaryOp .USub) (rU λ i=> .int (-i)):=Q4 λ _ _ _ _ _ q=>neg_int q
end
def QG:V->V->Bool
 | .aF,.aF=>true| .aF,.int _=>true| .int _,.aF=>true| .aF,.bl _=>true| .bl _,.aF=>true| .aF,.str _=>true| .str _,.aF=>true
 | .int _,.int _=>true| .bl _,.bl _=>true| .str _,.str _=>true| .vn _,.vn _=>true
 | .int _,.str _=>true| .str _,.int _=>true| .bl _,.str _=>true| .str _,.bl _=>true
 |_,_=>false
def Rf:R2:=λ x y H Q=>QG x y=true/\Q (.bl (!decide (x=y))) H
def Kn{i j:Int}:decide (V.int i=V.int j)=(i==j):=by
 rw[VC];simp
def M3{i j:Bool}:decide (V.bl i=V.bl j)=(i==j):=by
 rw[VC];simp
def Ky{i j:Str}:decide (V.str i=V.str j)=(i==j):=by
 rw[VC];simp
def Kv{i j:Array UInt8}:decide (V.vn i=V.vn j)=(i.toList==j.toList):=by
 rw[VC];cases i;cases j;simp
section
variable {X:Cx}{a b c:Expr}{ta tb tc:TE}{pos:Pos}
def f9{pins:List (Addr×Obj)}{σ:St}{H:Hp}{s:Shared}{Q:VK}{k k':Bool}(I:Inv X pins σ H s)(q:Q (.bl k) H)(e:k=k'):EP X pins σ Q (.bool k') s:=by
 subst e;exact⟨.bl k,H,I,rfl,q⟩
def O7:cE X (compareOp .NotEq) Rf:=by
 intro pins s σ H x y v u Q I rx ry h;obtain⟨hs,q⟩:=h;cases x with
 |aF=>
  cases rx;cases y with
  |aF=>cases ry;exact PySem.EqNone.ne_none_none (f9 I q (by simp))
  |bl j=>cases ry;exact PySem.EqNone.ne_none_bool (f9 I q (by simp))
  |int j=>obtain⟨t',rfl⟩:=ry;exact PySem.EqNone.ne_none_int (f9 I q (by simp))
  |str j=>obtain⟨t',rfl⟩:=ry;exact PySem.EqNone.ne_none_str (f9 I q (by simp))
  |_=>exact absurd (show false=true from hs) SJ
 |bl i=>
  cases rx;cases y with
  |aF=>cases ry;exact PySem.EqNone.ne_bool_none (f9 I q (by simp))
  |bl j=>cases ry;exact ne_bool (f9 I q (Tj not M3))
  |str j=>obtain⟨t',rfl⟩:=ry;exact PySem.EqMixed.ne_bool_str (f9 I q (by simp))
  |_=>exact absurd (show false=true from hs) SJ
 |int i=>
  obtain⟨t,rfl⟩:=rx;cases y with
  |aF=>cases ry;exact PySem.EqNone.ne_int_none (f9 I q (by simp))
  |int j=>obtain⟨t',rfl⟩:=ry;exact ne_int (f9 I q (Tj not Kn))
  |str j=>obtain⟨t',rfl⟩:=ry;exact PySem.EqMixed.ne_int_str (f9 I q (by simp))
  |_=>exact absurd (show false=true from hs) SJ
 |str i=>
  obtain⟨t,rfl⟩:=rx;cases y with
  |aF=>cases ry;exact PySem.EqNone.ne_str_none (f9 I q (by simp))
  |bl j=>cases ry;exact PySem.EqMixed.ne_str_bool (f9 I q (by simp))
  |int j=>obtain⟨t',rfl⟩:=ry;exact PySem.EqMixed.ne_str_int (f9 I q (by simp))
  |str j=>obtain⟨t',rfl⟩:=ry;exact ne_str (f9 I q (Tj not Ky))
  |_=>exact absurd (show false=true from hs) SJ
 |vn i=>
  obtain⟨t,rfl⟩:=rx;cases y with
  |vn j=>obtain⟨t',rfl⟩:=ry;exact PySem.W.ne_bytes (f9 I q (Tj not Kv))
  |_=>exact absurd (show false=true from hs) SJ
 |_=>cases y<;>exact absurd (show false=true from hs) SJ
def Oh:cE X (compareOp .Lt) (yZ λ i j=> .bl (decide (i<j))):=GL λ _ _ _ _ _ _ _ q=>lt_int q
def N5:cE X (compareOp .Gt) (yZ λ i j=> .bl (decide (j<i))):=GL λ _ _ _ _ _ _ _ q=>gt_int q
def Pw:cE X (compareOp .GtE) (yZ λ i j=> .bl (decide (j<=i))):=GL λ _ _ _ _ _ _ _ q=>ge_int q
def Kf:cE X (compareOp .IsNot) (λ x y H Q=>y= .aF/\Q (.bl (!decide (x= .aF))) H):=by
 intro pins s σ H x y v u Q I rx ry h;obtain⟨rfl,q⟩:=h;cases ry;refine isnot_none_gen (f9 I q ?_)
 cases x<;>first
  |(cases rx;rfl)
  |(obtain⟨t,rfl⟩:=rx;rfl)
def cp(b:Expr){op:CmpOp}(h:op≠ .In:=by decide)(h2:op≠ .NotIn:=by decide):behindInMarks op b=false:=by
 have e1:(op==CmpOp.In)=false:=by cases op<;>first|rfl|exact absurd rfl h
 have e2:(op==CmpOp.NotIn)=false:=by cases op<;>first|rfl|exact absurd rfl h2
 cases b<;>simp[behindInMarks,e1,e2]
def JH{op:CmpOp}{r:R2}(ho:cE X (compareOp op) r)(ha:PE X a ta)(hb:PE X b tb)(hm:behindInMarks op b=false):PE X (.Compare a [op] [b] pos) (E4 r ta tb):=by
 intro pins s σ H Q I h;exact wpAny_Compare1 (Hm ha hb I h λ v u s2 x y H2 I2 rx ry q=>ho pins s2 σ H2 x y v u Q I2 rx ry q) hm
def Pn(t:TE):TT:=λ σ H Q=>t σ H λ x H'=>∃k,x= .bl k/\Q k H'
def La{op:CmpOp}{r:R2}(ho:cE X (compareOp op) r)(ha:PE X a ta)(hb:PE X b tb)(hm:behindInMarks op b=false):PT X (.Compare a [op] [b] pos) (Pn (E4 r ta tb)):=by
 intro pins s σ H Q I h
 refine wpAny_isTrue_Compare1 (cR (ha pins s σ H _ I h) λ v s1 ⟨x,H1,I1,r1,q1⟩=>cR (hb pins s1 σ H1 _ I1 q1) λ u s2 ⟨y,H2,I2,r2,q2⟩=>
  cR (ho pins s2 σ H2 x y v u _ I2 r1 r2 q2) λ c s3 ⟨z,H3,I3,r3,k,e,q3⟩=>?_) hm
 subst e;cases r3;exact UN ⟨H3,I3,q3⟩
def uF:(sizeLine:Nat)<2^63:=by rw[TH];decide
def Er:cE X (binaryOp .Add) (λ x y H Q=>∃i j,x= .str i/\y= .str j/\i.length+j.length<=sizeLine/\Q (.str (i++j)) H):=by
 intro pins s σ H x y v u Q I rx ry h;obtain⟨i,j,rfl,rfl,hz,q⟩:=h;obtain⟨t,rfl⟩:=rx;obtain⟨t',rfl⟩:=ry;exact add_str (λ t' tk=>⟨.str (i++j),H,I.tok _,⟨_,rfl⟩,q⟩) hz
def vals1{x:V}{us:List Value}(r:Vals [x] us):∃u,us=[u]/\RelV x u:=by
 cases r with
 |cons r1 r2=>cases r2;exact⟨_,rfl,r1⟩
def vals2{x y:V}{us:List Value}(r:Vals [x,y] us):∃u w',us=[u,w']/\RelV x u/\RelV y w':=by
 cases r with
 |cons r1 r2=>
  cases r2 with
  |cons r3 r4=>cases r4;exact⟨_,_,rfl,r1,r3⟩
def Hw:cj X (.builtin "abs") (λ xs H Q=>∃i,xs=[.int i]/\Q (.int (if i<0 then-i else i)) H):=by
 intro pins s σ H xs us Q I r h;obtain⟨i,rfl,q⟩:=h;obtain⟨u,rfl,t,rfl⟩:=vals1 r;exact call_abs_int λ u tk=>⟨.int (if i<0 then-i else i),H,I.tok _,⟨_,rfl⟩,q⟩
def E8(hc:X.calm=true):cj X (.builtin "max") (λ xs H Q=>∃i j,xs=[.int i,.int j]/\Q (.int (if j>i then j else i)) H):=by
 intro pins s σ H xs us Q I r h;obtain⟨i,j,rfl,q⟩:=h;obtain⟨u,w',rfl,⟨t,rfl⟩,⟨t',rfl⟩⟩:=vals2 r;refine max_two_ints (I.ok.hd hc) λ h' tk k=>⟨_,H,I.kept k,?_,q⟩
 by_cases hj:j>i
 . rw[RF hj,RF hj];exact⟨_,rfl⟩
 . rw[RE hj,RE hj];exact⟨_,rfl⟩
def FT(hc:X.calm=true):cj X (.builtin "min") (λ xs H Q=>∃i j,xs=[.int i,.int j]/\Q (.int (if j<i then j else i)) H):=by
 intro pins s σ H xs us Q I r h;obtain⟨i,j,rfl,q⟩:=h;obtain⟨u,w',rfl,⟨t,rfl⟩,⟨t',rfl⟩⟩:=vals2 r;refine min_two_ints (I.ok.hd hc) λ h' tk k=>⟨_,H,I.kept k,?_,q⟩
 by_cases hj:j<i
 . rw[RF hj,RF hj];exact⟨_,rfl⟩
 . rw[RE hj,RE hj];exact⟨_,rfl⟩
def E_:cj X (.type "int") (λ xs H Q=>(∃i,xs=[.int i]/\Q (.int i) H)\/∃k,xs=[.bl k]/\Q (.int (if k then 1 else 0)) H):=by
 intro pins s σ H xs us Q I r h;rcases h with⟨i,rfl,q⟩|⟨k,rfl,q⟩
 . obtain⟨u,rfl,t,rfl⟩:=vals1 r;exact call_int_int ⟨.int i,H,I,⟨_,rfl⟩,q⟩
 . obtain⟨u,rfl,r1⟩:=vals1 r;cases r1;exact call_int_bool ⟨.int (if k then 1 else 0),H,I.tok _,⟨_,rfl⟩,q⟩
end
structure vH(h:Heap)(x dx C:Addr)(mA:Str->Option Value):Prop where
 obj:h.get? x=some (PySem.W.instObj C dx)
 ns:h.Ns1 dx mA
 ne:dx≠x
def Fq{h:Heap}{dx:Addr}{mA:Str->Option Value}(n:h.Ns1 dx mA):∃od,h.get? dx=some od/\∀name,PySem.W.lookIn name od=some (mA name):=by
 obtain⟨o,es,ep,ho,hd,hk,_,hm⟩:=n;refine⟨o,ho,λ name=>?_⟩;have e:=hm name;unfold nsFind findBy at e;rw[<-Array.find?_toList]at e;unfold PySem.W.lookIn;rw[hd];dsimp only;split
 . rename_i y q;rw[q]at e;exact Tj some e
 . rename_i q;rw[q]at e
   have a:es.toList.any (·.refKey)=false:=by
    rw[List.any_eq_false];intro y hy;obtain⟨z,t,hkey⟩:=hk y (Array.mem_toList_iff.mp hy);simp[DictEntry.refKey,hkey]
   have a':¬es.toList.any (·.refKey)=true:=by rw[a];exact SJ
   rw[RE a'];exact Tj some e
def vH.look{h:Heap}{x dx C:Addr}{mA:Str->Option Value}(I:vH h x dx C mA):∃od,PySem.W.InstAt h x (PySem.W.instObj C dx) C (some od)/\∀name,PySem.W.lookIn name od=some (mA name):=
 let⟨od,ho,hl⟩:=Fq I.ns
 ⟨od,⟨I.obj,rfl,rfl,ho⟩,hl⟩
section
variable {prog:Program}{w:World}{A:Around}{E:Value->Shared->Prop}{s:Shared}{K:PySem.W.Frag}{x dx C f:Addr}{mA:Str->Option Value}{name:Str}{v:Value}
def get_map{expr:Bool}{Q:Value->Shared->Prop}(X:K.In s.heap)(I:vH s.heap x dx C mA)(hg:PySem.W.plainGet K C name=true)(hh:PySem.W.hasDictIn K C=true)
 (ha:PySem.W.findIn K (.ref C) name=some none) (hv:mA name=some v) (hv':PySem.W.handedIn v=true) (h:Q v {s with toks:=s.toks+1}):
 wpAny (model prog w) A (getAttr (.ref x) name expr) Q E s:=by
 obtain⟨od,J,hl⟩:=I.look;exact PySem.W.get_value X J (VP hg).1 (PySem.W.findObj_own hh ha rfl (by rw[hl,hv])) hv' h
def GJ{pl:Sem Bool}{Q:Value×List Value->Shared->Prop}(X:K.In s.heap)(I:vH s.heap x dx C mA)(hg:PySem.W.plainGet K C name=true)
 (hf:PySem.W.findIn K (.ref C) name=some (some (.ref f))) (ht:PySem.W.isFn K (.ref f)=true) (hv:mA name=none) (h:Q (.ref f,[.ref x]) s):
 wpAny (model prog w) A (getMethod (.ref x) name pl) Q E s:=by
 obtain⟨od,J,hl⟩:=I.look;exact PySem.W.method_fn X J (VP hg).1 (VP hg).2 hf (Us.mp ht) (by show(PySem.W.lookIn name od).map (·.isSome)=some false;rw[hl,hv];rfl) h
def js{ns:List Str}{Q:Unit->Shared->Prop}(X:K.In s.heap)(I:vH s.heap x dx C mA)
 (hs:PySem.W.findIn K (.ref C) "__setattr__"=some (some (.builtin "object.__setattr__"))) (hp:PySem.W.plainOver K C=true) (ht:PySem.W.takerIn K C name=some none) (hh:PySem.W.hasDictIn K C=true)
 (hw:PySem.Within mA ns) (hsz:ns.length<=sizeLine)
 (h:∀h',vH h' x dx C (λ y=>if y=name then some v else mA y)->Heap.SameBut dx s.heap h'->Q () {s with heap:=h',toks:=s.toks+2}):
 wpAny (model prog w) A (setAttr (.ref x) name v) Q E s:=by
 obtain⟨od,J,hl⟩:=I.look;refine PySem.W.set_plain X J hs (PySem.W.osa_open (s:={s with toks:=s.toks+1}) (r:=none) X J hp ht λ b=>?_);obtain⟨cd,hc,hd'⟩:=PySem.W.any_some hh;have hx:s.heap.get? x=some ⟨.ref C,some dx,.plain,#[]⟩:=I.obj;refine Rz (RP (Rz (Rz (wpAny_loadPart hx (Rz (PySem.W.Looks.here (s:={s with toks:=s.toks+1}) (PySem.W.looks_clsIn X hc) ?_))))));rw[hd'];refine RP (a:=some dx) (Rz (RP (Rz ?_)));refine wpAny_nsSet1 (s:={s with toks:=s.toks+1}) I.ns λ h' hn2 hs2=>?_;obtain⟨oD,esD,epD,hoD,hdD,hcD⟩:=hn2.count (PySem.Within.cons name v hw);refine Rz (wpAny_lookBehind hoD (by rw[hdD];exact pastItsLine_dict (RD hcD (by rw[Sl];omega))) ?_);exact RP (h _ ⟨(hs2.2 _ (RO I.ne)).trans I.obj,hn2,I.ne⟩ hs2)
def HN{R:Result->Shared->Prop}{vs:List Value}{kw:List (Str×Value)}(X:K.In s.heap)(hm:PySem.W.makesIn K C=true)
 (hi:PySem.W.findIn K (.ref C) "__init__"=some (some (.ref f))) (hf:PySem.W.typeIn K (.ref f)=some (.type "function"))
 (h:codeAny (model prog w) (A.under (.builtin "type.__call__" ⟨.ref C::vs,kw⟩)) (.call (.ref f) ⟨.ref (s.heap.objs.size+1)::vs,kw⟩) (PySem.W.InitBack (s.heap.objs.size+1) R)
   {s with heap:=(s.heap.push PySem.W.emptyDict).push (PySem.W.instObj C s.heap.objs.size)}):
 codeAny (model prog w) A (.call (.ref C) ⟨vs,kw⟩) R s:=by
 obtain⟨hh,g,d,t,os⟩:=s;exact PySem.W.make_core (PySem.W.makes_of X hm) (PySem.W.looks_findIn X hi) (λ self=>PySem.W.bind_fn X self hf) (.inl rfl) h
end
def iz(f:Str)(v:V):List (Str×V)->List (Str×V)
 | []=>[(f,v)]
 |(g,x)::r=>if g=f then(g,v)::r else(g,x)::iz f v r
def vm(f g:Str)(v:V):∀fs:List (Str×V),(iz f v fs).lookup g=if g=f then some v else fs.lookup g
 | []=>by
   show List.lookup g [(f,v)]=_;by_cases h:g=f
   . have hb:(g==f)=true:=Us.mpr h;simp only[List.lookup,hb,RF h]
   . have hb:(g==f)=false:=TQ.mpr h;simp only[List.lookup,hb,RE h]
 |(k,x)::r=>by
  have ih:=vm f g v r;rw[show iz f v ((k,x)::r)=(if k=f then(k,v)::r else(k,x)::iz f v r)from rfl];by_cases hk:k=f
  . rw[RF hk];by_cases h:g=k
    . have hb:(g==k)=true:=Us.mpr h;simp only[List.lookup,hb,RF (h.trans hk)]
    . have hb:(g==k)=false:=TQ.mpr h;simp only[List.lookup,hb,RE (λ e:g=f=>h (e.trans hk.symm))]
  . rw[RE hk];by_cases h:g=k
    . have hb:(g==k)=true:=Us.mpr h;simp only[List.lookup,hb,RE (λ e:g=f=>hk (h.symm.trans e))]
    . have hb:(g==k)=false:=TQ.mpr h;simp only[List.lookup,hb];exact ih
def tS(f:Str)(v:V):∀fs:List (Str×V),f∈(iz f v fs).map (·.1)/\∀g,g∈fs.map (·.1)->g∈(iz f v fs).map (·.1)
 | []=>⟨by simp[iz],λ g h=>by simp at h⟩
 |(k,x)::r=>by
  obtain⟨i1,i2⟩:=tS f v r;rw[show iz f v ((k,x)::r)=(if k=f then(k,v)::r else(k,x)::iz f v r)from rfl];by_cases hk:k=f
  . rw[RF hk];subst hk;exact⟨by simp,λ g h=>by simpa using h⟩
  . rw[RE hk];refine⟨?_,λ g h=>?_⟩
    . rw[SM];exact R8 _ i1
    . rw[SM]at h⊢;rcases RU.mp h with e|e
      . exact RU.mpr (.inl e)
      . exact R8 _ (i2 g e)
def vx(f:Str)(v:V):∀fs:List (Str×V),(iz f v fs).length<=fs.length+1
 | []=>by simp[iz]
 |(k,x)::r=>by
  have ih:=vx f v r;rw[show iz f v ((k,x)::r)=(if k=f then(k,v)::r else(k,x)::iz f v r)from rfl];by_cases hk:k=f
  . rw[RF hk,Sl,Sl];omega
  . rw[RE hk,Sl,Sl];omega
def qU.some_of{v:V}{o:Option Value}(r:qU (some v) o):∃u,o=some u/\RelV v u:=by
 cases o with
 |none=>exact(show False from r).elim
 |some u=>exact⟨u,rfl,r⟩
def qU.none_of{o:Option Value}(r:qU none o):o=none:=by
 cases o with
 |none=>rfl
 |some u=>exact(show False from r).elim
def FW{v:V}{u:Value}(r:RelV v u):PySem.W.handedIn u=true:=by
 cases v with
 |aF=>cases (show u=Value.none from r);rfl
 |bl b=>cases (show u=Value.bool b from r);rfl
 |int i=>obtain⟨t,e⟩:=(show∃t,u=Value.int i t from r);cases e;rfl
 |str x=>obtain⟨t,e⟩:=(show∃t,u=Value.str x t from r);cases e;rfl
 |vn b=>obtain⟨t,e⟩:=(show∃t,u=Value.bytes b t from r);cases e;rfl
 |vq b=>obtain⟨t,e⟩:=(show∃t,u=Value.float b t from r);cases e;rfl
 |ref a=>cases (show u=Value.ref a from r);rfl
 |ty n=>cases (show u=Value.type n from r);rfl
section
variable {P:Program}{w:World}{H H':Hp}{h h':Heap}{a C dx:Addr}{fs fs':List (Str×V)}
def rg(aL:jd P w H h)(e:H a=some (.ins C dx fs)):∃mA,vH h a dx C mA/\(∀f,qU (fs.lookup f) (mA f))/\PySem.Within mA (fs.map (·.1))/\fs.length<=1000/\H dx=some (.own a):=by
 obtain⟨d,z,ne,ob,mA,n,r,q⟩:=(show eN P w H h a (.ins C dx fs)from aL a _ e)
 exact⟨mA,⟨ob,n,ne⟩,r,q,z,d⟩
end
structure pS(K:PySem.W.Frag)(C:Addr):Prop where
 pg:PySem.W.plainGet K C Str.empty=true
 hd:PySem.W.hasDictIn K C=true
 po:PySem.W.plainOver K C=true
 sa:PySem.W.findIn K (.ref C) "__setattr__"=some (some (.builtin "object.__setattr__"))
def pS.get{K:PySem.W.Frag}{C:Addr}(c:pS K C)(f:Str):PySem.W.plainGet K C f=true:=c.pg
def g4(K:PySem.W.Frag)(C:Addr)(f:Str):Prop:=PySem.W.findIn K (.ref C) f=some none
def g4.Py{K:PySem.W.Frag}{C:Addr}{f:Str}(n:g4 K C f):PySem.W.takerIn K C f=some none:=by
 unfold PySem.W.takerIn;rw[show PySem.W.findIn K (.ref C) f=some none from n];rfl
structure Meth(K:PySem.W.Frag)(C:Addr)(m:Str)(f:Addr):Prop where
 at_:PySem.W.findIn K (.ref C) m=some (some (.ref f))
 fn:PySem.W.isFn K (.ref f)=true
 kp:PySem.W.keepIn K (.ref f)=true
section
variable {X:Cx}{pins:List (Addr×Obj)}{σ:St}{H:Hp}{s:Shared}{a C dx:Addr}{fs:List (Str×V)}{f:Str}{v:V}{A:Around}{E:Value->Shared->Prop}
def Dz{b:Bool}{Q:Value->Shared->Prop}(I:Inv X pins σ H s)(e:H a=some (.ins C dx fs))(c:pS X.K C)(n:g4 X.K C f)(l:fs.lookup f=some v)
 (h:∀u s',Inv X pins σ H s'->RelV v u->Q u s'):wpAny (model X.prog X.w) A (getAttr (.ref a) f b) Q E s:=by
 obtain⟨mA,O,r,_,_,_⟩:=rg I.aL e;obtain⟨u,hu,ru⟩:=qU.some_of (v:=v) (o:=mA f) (by rw[<-l];exact r f);exact get_map I.iN O (c.get f) c.hd n hu (FW ru) (h u _ (I.tok _) ru)
def Ds{m:Str}{g:Addr}{pl:Sem Bool}{Q:Value×List Value->Shared->Prop}(I:Inv X pins σ H s)(e:H a=some (.ins C dx fs))(c:pS X.K C)(k:Meth X.K C m g)(l:fs.lookup m=none)
 (h:Q (.ref g,[.ref a]) s):wpAny (model X.prog X.w) A (getMethod (.ref a) m pl) Q E s:=by
 obtain⟨mA,O,r,_,_,_⟩:=rg I.aL e;have hn:mA m=none:=qU.none_of (by rw[<-l];exact r m);exact GJ I.iN O (c.get m) k.at_ k.fn hn h
def Dq{y:V}{u:Value}{Q:Unit->Shared->Prop}(I:Inv X pins σ H s)(e:H a=some (.ins C dx fs))(c:pS X.K C)(n:g4 X.K C f)(hl:fs.length<1000)(ry:RelV y u)
 (h:∀s',Inv X pins σ (upd H a (.ins C dx (iz f y fs))) s'->Q () s'):wpAny (model X.prog X.w) A (setAttr (.ref a) f u) Q E s:=by
 obtain⟨mA,O,r,wi,_,ho⟩:=rg I.aL e;have hz:(fs.map (·.1)).length<=sizeLine:=by rw[Rw,TH];omega
 refine js I.iN O c.sa c.po n.Py c.hd wi hz λ h' O' sb=>h _ ?_;have hd:∃o,h'.get? dx=some o:=let⟨o,_,_,e',_⟩:=O'.ns;⟨o,e'⟩
 refine I.write (x:=a) (e:=dx) (by rw[e];exact True.intro) (.inr ho) (λ b q hb z=>(sb.2 b hb).trans z) hd ?_;refine⟨by rw[aB O.ne];exact ho,?_,O.ne,O'.obj,_,O'.ns,λ g=>?_,λ g hg=>?_⟩
 . have:=vx f y fs;omega
 . show qU ((iz f y fs).lookup g) (if g=f then some u else mA g);rw[vm];by_cases q:g=f
   . rw[RF q,RF q];exact ry
   . rw[RE q,RE q];exact r g
 . by_cases q:g=f
   . rw[q];exact(tS f y fs).1
   . refine(tS f y fs).2 g (wi g λ z=>hg ?_);show(if g=f then some u else mA g)=none;rw[RE q];exact z
def Inv.made(I:Inv X pins σ H s):Inv X pins σ (upd (upd H s.heap.objs.size (.own (s.heap.objs.size+1))) (s.heap.objs.size+1) (.ins C s.heap.objs.size []))
 {s with heap:=(s.heap.push PySem.W.emptyDict).push (PySem.W.instObj C s.heap.objs.size)}:=by
 have e1:(s.heap.push PySem.W.emptyDict).get? s.heap.objs.size=some PySem.W.emptyDict:=Sa s.heap rfl
 have e2:((s.heap.push PySem.W.emptyDict).push (PySem.W.instObj C s.heap.objs.size)).get? (s.heap.objs.size+1)=some (PySem.W.instObj C s.heap.objs.size):=by
  have:=Sa (s.heap.push PySem.W.emptyDict) (o:=PySem.W.instObj C s.heap.objs.size) rfl;rwa [S_]at this
 have e3:(s.heap.push PySem.W.emptyDict).Ns s.heap.objs.size (λ _=>none):=⟨PySem.W.emptyDict,#[],_,e1,rfl,(λ e he=>absurd he (by simp)),λ _=>rfl⟩
 have I1:=I.laid (a:=s.heap.objs.size) (o:= .own (s.heap.objs.size+1)) (h':=s.heap.push PySem.W.emptyDict) (t':=s.toks) (λ b u q=>RG _ q) (Ry _) ⟨_,e1⟩;refine I1.laid (a:=s.heap.objs.size+1) (o:= .ins C s.heap.objs.size []) (t':=s.toks) (λ b u q=>RG _ q) (VD (S_ _ _)) ?_;have ne:s.heap.objs.size≠s.heap.objs.size+1:=Sj (Si _);refine⟨by rw[aB ne,aW],Sg _,ne,e2,λ _=>none,(Heap.Ns1.of_empty e3).at λ o q=>RG _ q,λ _=>True.intro,λ y hy=>absurd rfl hy⟩
def Lg{prog:Program}{w:World}{env:Env}{e:Expr}{f:Str}{pos:Pos}{s:Shared}{Q:Value->Shared->Prop}(hb:attributeBase e f env (eval e env)=eval e env)
 (h:wpAny (model prog w) A (eval e env) (λ o s₁=>wpAny (model prog w) A (getAttr o f true) Q E s₁) E s):wpAny (model prog w) A (eval (.Attribute e f pos) env) Q E s:=
 Attribute_any_ h (by rw[arm_eval_Attribute,hb])
end
def QC(K:PySem.W.Frag)(ta:TE)(f:Str):TE:=λ σ H Q=>ta σ H λ x H1=>∃a C dx fs v,x= .ref a/\H1 a=some (.ins C dx fs)/\pS K C/\g4 K C f/\fs.lookup f=some v/\Q v H1
def Qw(K:PySem.W.Frag)(ta tv:TE)(f:Str):TS:=λ D σ H=>tv σ H λ y H1=>ta σ H1 λ x H2=>∃a C dx fs,x= .ref a/\H2 a=some (.ins C dx fs)/\pS K C/\g4 K C f/\fs.length<1000/\
 D.nx σ (upd H2 a (.ins C dx (iz f y fs)))
section
variable {X:Cx}{o e value:Expr}{f:Str}{pos pos' tpos:Pos}{ta tv:TE}
def NZ(he:PE X e ta)(hb:attributeBase e f X.env (eval e X.env)=eval e X.env):PE X (.Attribute e f pos) (QC X.K ta f):=by
 intro pins s σ H Q I h;refine Lg hb (cR (he pins s σ H _ I h) λ u s1 ⟨x,H1,I1,rx,a,C,dx,fs,v,ex,ea,c,n,l,q⟩=>?_);subst ex;obtain rfl:u=Value.ref a:=rx;exact Dz I1 ea c n l λ u' s2 I2 ru=>⟨v,H1,I2,ru,q⟩
def Ny(ha:PE X o ta)(hv:PE X value tv)(hs:swapsWith value (some (.Attribute o f pos')) pos.line X.env=pure false):PS X (.Assign [.Attribute o f pos'] value pos) (Qw X.K ta tv f):=by
 intro pins s σ H D I h;refine plainObj_wpAny_Assign_Attribute (cR (hv pins s σ H _ I h) λ u s1 ⟨y,H1,I1,ry,q⟩=>cR (ha pins s1 σ H1 _ I1 q) λ ov s2 ⟨x,H2,I2,rx,a,C,dx,fs,ex,ea,c,n,l,q2⟩=>?_) hs;subst ex;obtain rfl:ov=Value.ref a:=rx;exact Dq I2 ea c n l ry λ s3 I3=>⟨σ,_,I3,q2⟩
end
section
variable {X:Cx}{pins:List (Addr×Obj)}{σ:St}{H:Hp}{s:Shared}{A:Around}{E:Value->Shared->Prop}{Q:Value->Shared->Prop}{c:Value}{b:Bool}
inductive kI(K:PySem.W.Frag)(H:Hp):V->Value->Prop where
 |aF:kI K H .aF (.type "NoneType")
 |bl (x:Bool):kI K H (.bl x) (.type "bool")
 |int (i:Int):kI K H (.int i) (.type "int")
 |str (x:Str):kI K H (.str x) (.type "str")
 |vq (x:UInt64):kI K H (.vq x) (.type "float")
 |lst {a:Addr} {xs:List V} (e:H a=some (.lst xs)):kI K H (.ref a) (.type "list")
 |fz {a:Addr} {o:Obj} {xs:List V} (e:H a=some (.fz o (.lst xs))):kI K H (.ref a) (.type "list")
 |tup {a:Addr} {xs:List V} (e:H a=some (.tup xs)):kI K H (.ref a) (.type "tuple")
 |dK {a:Addr} {kvs:List (Key×V)} (e:H a=some (.dK kvs)):kI K H (.ref a) (.type "dict")
 |dT {a:Addr} {kvs:List (List Key×V)} (e:H a=some (.dT kvs)):kI K H (.ref a) (.type "dict")
 |ins {a C dx:Addr} {fs:List (Str×V)} (e:H a=some (.ins C dx fs)) (cl:pS K C) (ha:PySem.W.findIn K (.ref C) "__class__"=some (some (.builtin "object.__class__")))
   (hn:PySem.W.specialIn K (.builtin "object.__class__") "__get__"=some (some (.builtin "getset_descriptor.__get__"))) (htk:PySem.W.takesIn K (.builtin "object.__class__")=some true)
   (hm:PySem.W.mroIn K C (.type "object")=some true):kI K H (.ref a) (.ref C)
def FF{x:V}{u t:Value}(I:Inv X pins σ H s)(rx:RelV x u)(ty:kI X.K H x t)(e:PySem.W.kitOne X.K t c=some b)(h:∀tk,Q (.bool b) {s with toks:=tk}):
 wpAny (model X.prog X.w) A (call (.builtin "isinstance") [u,c]) Q E s:=by
 cases ty with
 |aF=>cases (show u=Value.none from rx);exact To PySem.W.kitx_none I.iN True.intro e (λ z=>nomatch z) h
 |bl y=>cases (show u=Value.bool y from rx);exact To PySem.W.kitx_bool I.iN True.intro e (λ z=>nomatch z) h
 |int i=>obtain⟨t,q⟩:=(show∃t,u=Value.int i t from rx);cases q;exact To PySem.W.kitx_int I.iN True.intro e (λ z=>nomatch z) h
 |str y=>obtain⟨t,q⟩:=(show∃t,u=Value.str y t from rx);cases q;exact To PySem.W.kitx_str I.iN True.intro e (λ z=>nomatch z) h
 |vq y=>obtain⟨t,q⟩:=(show∃t,u=Value.float y t from rx);cases q;exact To PySem.W.kitx_float I.iN True.intro e (λ z=>nomatch z) h
 | @lst a xs ea=>
   cases (show u=Value.ref a from rx);obtain⟨_,_,n,_,h1⟩:=(show eN X.prog X.w H s.heap a (.lst xs)from I.aL a _ ea)
   exact To Vj I.iN ⟨_,h1,rfl⟩ e (λ z=>nomatch z) h
 | @fz a ob xs ea=>
   cases (show u=Value.ref a from rx);obtain⟨_,_,_,n,_,h1⟩:=(show eN X.prog X.w H s.heap a (.fz ob (.lst xs))from I.aL a _ ea)
   exact To Vj I.iN ⟨_,h1,rfl⟩ e (λ z=>nomatch z) h
 | @tup a xs ea=>
   cases (show u=Value.ref a from rx);obtain⟨_,_,_,p⟩:=(show eN X.prog X.w H s.heap a (.tup xs)from I.aL a _ ea)
   obtain⟨o,h1,h2,_⟩:=p;exact To PySem.W.kitx_tuple I.iN ⟨o,h1,h2⟩ e (λ z=>nomatch z) h
 | @dK a kvs ea=>
   cases (show u=Value.ref a from rx);obtain⟨_,_,vs,_,p⟩:=(show eN X.prog X.w H s.heap a (.dK kvs)from I.aL a _ ea)
   obtain⟨o,es,ep,h1,h2,_⟩:=p;exact To Vk I.iN ⟨o,h1,h2.1⟩ e (λ z=>nomatch z) h
 | @dT a kvs ea=>
   cases (show u=Value.ref a from rx);obtain⟨_,_,xs,_,o,es,ep,h1,h2,_⟩:=(show eN X.prog X.w H s.heap a (.dT kvs)from I.aL a _ ea)
   exact To Vk I.iN ⟨o,h1,h2.1⟩ e (λ z=>nomatch z) h
 | @ins a C dx fs ea cl ha hn htk hm=>
   cases (show u=Value.ref a from rx);obtain⟨mA,O,_⟩:=rg I.aL ea;obtain⟨od,J,_⟩:=O.look;exact To (PySem.W.kitx_own (cl.get _) cl.hd ha hn htk hm) I.iN J e (λ z=>nomatch z) h
end
structure du(k:Nat)(A:Around):Prop where
 hd:A.handled=none
 dp:A.depth+3*k+105<recursionLimit
 un:A.units+16*k+200<cLine
def du.mono{j k:Nat}{A:Around}(r:du k A)(h:j<=k):du j A:=⟨r.hd,by have:=r.dp;omega,by have:=r.un;omega⟩
def du.deeper{k:Nat}{A:Around}(r:du (k+1) A)(env:Env):du k (A.deeper env):=
 ⟨r.hd,by have:=r.dp;show A.depth+1+3*k+105<_;omega,by have:=r.un;show A.units+3+16*k+200<_;omega⟩
def Dr{A:Around}{C:Addr}{us:List Value}{kw:List (Str×Value)}:(A.under (.builtin "type.__call__" ⟨.ref C::us,kw⟩)).depth=A.depth+1:=by
 first|rfl|simp[Around.under,Code.weight,Code.isCreation,Code.isGuard,Code.isCaller,Code.frames,Code.isFrame,guardIds]
def Ep{A:Around}{C:Addr}{us:List Value}{kw:List (Str×Value)}:(A.under (.builtin "type.__call__" ⟨.ref C::us,kw⟩)).units=A.units+1:=by
 first|rfl|simp[Around.under,Code.cUnits,Code.frames,Code.isFrame]
def du.make{k:Nat}{A:Around}(r:du (k+1) A)(C:Addr)(us:List Value)(kw:List (Str×Value)):du k (A.under (.builtin "type.__call__" ⟨.ref C::us,kw⟩)):=
 ⟨r.hd,by have:=r.dp;rw[Dr];omega,by have:=r.un;rw[Ep];omega⟩
def du.depth{k:Nat}{A:Around}(r:du k A):A.depth<recursionLimit:=by have:=r.dp;omega
def du.units{k:Nat}{A:Around}(r:du k A):A.units+64<cLine:=by have:=r.un;omega
def Qy:TA:=λ _ H Q=>Q [] H
def Ob(ta:TE)(tr:TA):TA:=λ σ H Q=>ta σ H λ x H1=>tr σ H1 λ xs H2=>Q (x::xs) H2
section
variable {X:Cx}{e:Expr}{es:List Expr}{te:TE}{t:TA}{pos:Pos}
def LN:PA X [] Qy:=λ _ _ _ _ H Q I h=>Calls.spliced_nil ⟨[],H,I,.nil,h⟩
def JZ(ha:PE X e te)(hr:PA X es t)(hs:starEach (e::es) X.env=(false,eval e X.env)::starEach es X.env:=by rfl):PA X (e::es) (Ob te t):=by
 intro pos pins s σ H Q I h;rw[hs];show wpAny _ _ (spliced ((false,eval e X.env)::backTo pos (starEach es X.env))) _ _ s;refine Calls.spliced_cons (cR (ha pins s σ H _ I h) λ u s1 ⟨x,H1,I1,r1,q1⟩=>?_);exact cR (hr pos pins s1 σ H1 _ I1 q1) λ us s2 ⟨xs,H2,I2,r2,q2⟩=>⟨x::xs,H2,I2,.cons r1 r2,q2⟩
def Qz(t:TA):TE:=λ σ H Q=>t σ H λ xs H1=>xs.length<=sizeLine/\∀p,H1 p=none->Q (.ref p) (upd H1 p (.tup xs))
def QB(t:TA):TE:=λ σ H Q=>t σ H λ xs H1=>xs.length<=sizeLine/\∀p,H1 p=none->Q (.ref p) (upd H1 p (.lst xs))
def MH{x1}(h:PA X es t):PE X (.Tuple es x1 pos) (Qz t):=by
 intro pins s σ H Q I hq;refine wpAny_Tuple_spliced (cR (h pos pins s σ H _ I hq) λ us s1 ⟨xs,H1,I1,r,z,q⟩=>⟨by rw[<-r.length];exact z,?_⟩);have hf:H1 s1.heap.objs.size=none:=I1.aL.fresh (Ry _);refine⟨.ref s1.heap.objs.size,upd H1 s1.heap.objs.size (.tup xs),I1.laid (t':=s1.toks) (λ b u e=>RG _ e) (Ry _) ?_,rfl,q _ hf⟩;exact⟨z,us,r,⟨_,Sa _ rfl,rfl,_,rfl⟩⟩
def Fw(h:PA X es t):PE X (.List es pos) (QB t):=by
 intro pins s σ H Q I hq;refine wpAny_List_spliced (cR (h pos pins s σ H _ I hq) λ us s1 ⟨xs,H1,I1,r,z,q⟩=>⟨by rw[<-r.length];exact z,?_⟩);have hf:H1 s1.heap.objs.size=none:=I1.aL.fresh (Ry _);refine⟨.ref s1.heap.objs.size,upd H1 s1.heap.objs.size (.lst xs),I1.laid (t':=s1.toks) (λ b u e=>RG _ e) (Ry _) ?_,rfl,q _ hf⟩;exact⟨z,us,0,r,Sa _ rfl⟩
end
abbrev Sp:=List V->Hp->VK->XK->Prop
abbrev vz:=List Env->Hp->Shared->XK->Value->Shared->Prop
structure vE(P:Program)(w:World)(K:PySem.W.Frag)(mg:Str->Option Value)(base:Heap)(A:Around)(outer:List Env)(s:Shared)(H:Hp):Prop where
 frames:A.frames=some outer
 mod:Mod K mg base
 bs:∀b o,base.get? b=some o->s.heap.get? b=some o/\H b=none
 tR:base.objs.size<=s.heap.objs.size
 mW:s.heap.FunFrames base outer
 xB:∀b∈rD outer,H b=none
 aL:jd P w H s.heap
 bare:AllBare s.gens
 gt:P.given.tree=none
def CE(outer:List Env)(P:Program)(w:World)(H:Hp)(s:Shared)(Q:VK)(u:Value)(s':Shared):Prop:=
 ∃v H',s'.os=s.os/\AllBare s'.gens/\Un (rD outer) [] H H' s.heap s'.heap/\jd P w H' s'.heap/\RelV v u/\Q v H'
def CR(CX:vz)(outer:List Env)(P:Program)(w:World)(H:Hp)(s:Shared)(Q:VK)(E:XK)(r:Result)(s':Shared):Prop:=
 match r with
 | .ok (.ret u)=>CE outer P w H s Q u s'
 | .ok _=>False
 | .error e=>CX outer H s E e s'
structure cm(P:Program)(w:World)(K:PySem.W.Frag)(mg:Str->Option Value)(base:Heap)(CX:vz)(k:Nat)(f:Addr)(fd:FuncData)(ps:List Str)(sp:Sp):Prop where
 len:∀vs H Q E,sp vs H Q E->vs.length=ps.length
 run:∀(A:Around) (outer:List Env) (s:Shared) (H:Hp) (args:Args) (us:List Value) (vs:List V) (Q:VK) (E:XK),du k A->vE P w K mg base A outer s H->BindsTo s fd args (ps.zip us)->Vals vs us->sp vs H Q E->
  codeAny (model P w) A (.call (.ref f) args) (CR CX outer P w H s Q E) s
def cm.imp{P:Program}{w:World}{K:PySem.W.Frag}{mg:Str->Option Value}{base:Heap}{CX:vz}{k:Nat}{f:Addr}{fd:FuncData}{ps:List Str}{sp sp':Sp}(F:cm P w K mg base CX k f fd ps sp)
 (h:∀vs H Q E,sp' vs H Q E->sp vs H Q E):cm P w K mg base CX k f fd ps sp':=
 ⟨λ vs H Q E q=>F.len vs H Q E (h _ _ _ _ q),λ A outer s H args us vs Q E hr he hb hv hs=>F.run A outer s H args us vs Q E hr he hb hv (h _ _ _ _ hs)⟩
def vE.make{P:Program}{w:World}{K:PySem.W.Frag}{mg:Str->Option Value}{base:Heap}{A:Around}{outer:List Env}{s:Shared}{H:Hp}(e:vE P w K mg base A outer s H)(C:Addr)(us:List Value)(kw:List (Str×Value)):
 vE P w K mg base (A.under (.builtin "type.__call__" ⟨.ref C::us,kw⟩)) outer s H:=⟨by first|exact e.frames|(simpa[Around.under,Code.envs,Code.isFrame,pushEnvs]using e.frames),e.mod,e.bs,e.tR,e.mW,e.xB,e.aL,e.bare,e.gt⟩
section
variable {X:Cx}{pins:List (Addr×Obj)}{σ:St}{H:Hp}{s s':Shared}
def Inv.Mc(I:Inv X pins σ H s):vE X.prog X.w X.K X.mg X.base X.A X.stack s H:=
 ⟨I.ok.frames,I.ok.mod,I.bs,RD I.ok.tR I.sz,I.stack,I.xQ,I.aL,I.bare,I.ok.gt⟩
def Inv.after{Q:VK}{u:Value}(I:Inv X pins σ H s)(h:CE X.stack X.prog X.w H s Q u s'):EP X pins σ Q u s':=by
 obtain⟨v,H',os,bare,un,aL,r,q⟩:=h;obtain⟨hh,g,d,t,os'⟩:=s';obtain rfl:os'=s.os:=os;exact⟨v,H',I.call (h':=hh) (g':=g) (d':=d) (t':=t) (ch:=[]) un aL bare (λ b z=>absurd z (by simp)),r,q⟩
end
def IA(sp:Sp)(dvs:List V)(E:XK)(t:TA):TE:=λ σ H Q=>t σ H λ vs H1=>sp (vs++dvs) H1 Q E
def Js(C:Addr)(m:Str)(sp:Sp)(dvs:List V)(E:XK)(ta:TE)(t:TA):TE:=λ σ H Q=>ta σ H λ x H1=>∃a dx fs,x= .ref a/\H1 a=some (.ins C dx fs)/\fs.lookup m=none/\
 t σ H1 λ vs H2=>sp (x::(vs++dvs)) H2 Q E
def Jb(C:Addr)(sp:Sp)(dvs:List V)(E:XK)(t:TA):TE:=λ σ H Q=>t σ H λ vs H1=>∀x dx,H1 x=none->H1 dx=none->dx≠x->
 sp (.ref x::(vs++dvs)) (upd (upd H1 dx (.own x)) x (.ins C dx [])) (λ v H2=>v= .aF/\Q (.ref x) H2) E
def Binds(K:PySem.W.Frag)(fd:FuncData)(ps:List Str)(ds:List Value):Prop:=
 ∀(s:Shared) (us:List Value),K.In s.heap->(us++ds).length=ps.length->BindsTo s fd ⟨us,[]⟩ (ps.zip (us++ds))
def Binds.all{K:PySem.W.Frag}{fd:FuncData}{ps:List Str}(h:∀us:List Value,us.length=ps.length->bindArgs fd ⟨us,[]⟩=pure (ps.zip us)):Binds K fd ps []:=λ s us _ hl=>by
 rw[Tp]at hl⊢;exact .of_eq (h us hl)
def Passes(CX:vz)(X:Cx)(E:XK):Prop:=∀(pins:List (Addr×Obj)) (σ:St) (H:Hp) (s:Shared) (e:Value) (s':Shared),Inv X pins σ H s->CX X.stack H s E e s'->X.xe e s'
section
variable {X:Cx}{CX:vz}{k:Nat}{f C:Addr}{fd:FuncData}{ps:List Str}{sp:Sp}{dvs:List V}{ds:List Value}{E:XK}{x m:Str}{p pos apos:Pos}{e o:Expr}{es:List Expr}{ta:TE}{t:TA}
def FX{pins:List (Addr×Obj)}{σ:St}{H:Hp}{s:Shared}{Q:VK}{us:List Value}{vs:List V}(F:cm X.prog X.w X.K X.mg X.base CX k f fd ps sp)(hr:du k X.A)(hb:Binds X.K fd ps ds)(hd:Vals dvs ds)(hx:Passes CX X E)
 (I:Inv X pins σ H s) (r:Vals vs us) (h:sp (vs++dvs) H Q E):wpAny (model X.prog X.w) X.A (call (.ref f) us) (EP X pins σ Q) X.xe s:=by
 have r2:Vals (vs++dvs) (us++ds):=r.append hd;have hl:(us++ds).length=ps.length:=by rw[<-r2.length];exact F.len _ _ _ _ h
 refine wpAny_call (Wc (F.run X.A X.stack s H ⟨us,[]⟩ (us++ds) (vs++dvs) Q E hr I.Mc (hb s us I.iN hl) r2 h) λ r s' hq=>?_);cases r with
 |error e=>exact hx pins σ H s e s' I hq
 |ok fl=>
  cases fl with
  |ret u=>exact I.after hq
  |next=>exact False.elim hq
  |brk=>exact False.elim hq
  |cont=>exact False.elim hq
def Kj(F:cm X.prog X.w X.K X.mg X.base CX k f fd ps sp)(hr:du k X.A)(hg:Gl X x)(hm:X.mg x=some (.ref f))(hk:PySem.W.keepIn X.K (.ref f)=true)(hb:Binds X.K fd ps ds)(hd:Vals dvs ds)(hx:Passes CX X E)
 (ha:PA X (e::es) t) (hdb:(x==("__debug__":Str))=false:=by decide) (he:starEach (e::es) X.env=(false,eval e X.env)::starEach es X.env:=by rfl) (hpl:(backTo pos (starEach es X.env)).any (·.1)=false:=by rfl):
 PE X (.Call (.Name x p) (e::es) [] pos) (IA sp dvs E t):=by
 intro pins s σ H Q I h;refine UB (CH I hg hm ?_ hdb);refine VX (h₀:=X.base) I.ok.mod.EG hk (cR (ha pos pins s σ H _ I h) λ us s1 ⟨vs,H1,I1,r,q⟩=>⟨I1.iN,?_⟩) he hpl;exact FX F hr hb hd hx I1 r q
def Kw{pl:Sem Bool}(he:PE X o ta)(c:pS X.K C)(hm:Meth X.K C m f)(F:cm X.prog X.w X.K X.mg X.base CX k f fd ps sp)(hr:du k X.A)(hb:Binds X.K fd ps ds)(hd:Vals dvs ds)(hx:Passes CX X E)(ha:PA X (e::es) t)
 (hst:starEach (e::es) X.env=(false,eval e X.env)::starEach es X.env:=by rfl) (hpl:(backTo pos (starEach es X.env)).any (·.1)=false:=by rfl)
 (ht:eval (.Call (.Attribute o m apos) (e::es) [] pos) X.env=(do
   let ov <-eval o X.env
   standAt apos.atName
   let(f,first) <-holding [ov] (getMethod ov m pl)
   callWith pos f first (backTo pos (starEach (e::es) X.env)) (backToKw pos (keywordEach [] X.env))):=by rfl):
 PE X (.Call (.Attribute o m apos) (e::es) [] pos) (Js C m sp dvs E ta t):=by
 intro pins s σ H Q I h;refine PySem.W.methodCall_KW (pl:=pl) (cR (he pins s σ H _ I h) λ u s1 ⟨x,H1,I1,rx,a,dx,fs,ex,ea,l,q⟩=>?_) ht;subst ex;obtain rfl:u=Value.ref a:=rx;refine Ds I1 ea c hm l ?_;refine VX (first:=[.ref a]) (h₀:=X.base) I.ok.mod.EG hm.kp (cR (ha pos pins s1 σ H1 _ I1 q) λ us s2 ⟨vs,H2,I2,r,q2⟩=>⟨I2.iN,?_⟩) hst hpl;exact FX (us:= .ref a::us) (vs:= .ref a::vs) F hr hb hd hx I2 (.cons rfl r) q2
structure Mk(K:PySem.W.Frag)(C f:Addr):Prop where
 makes:PySem.W.makesIn K C=true
 init:PySem.W.findIn K (.ref C) "__init__"=some (some (.ref f))
 fn:PySem.W.isFn K (.ref f)=true
 kp:PySem.W.keepIn K (.ref C)=true
def GP{pins:List (Addr×Obj)}{σ:St}{H:Hp}{s:Shared}{Q:VK}{us:List Value}{vs:List V}(M:Mk X.K C f)(F:cm X.prog X.w X.K X.mg X.base CX k f fd ps sp)(hr:du (k+1) X.A)(hb:Binds X.K fd ps ds)(hd:Vals dvs ds)
 (hx:Passes CX X E) (I:Inv X pins σ H s) (r:Vals vs us)
 (h:∀x dx,H x=none->H dx=none->dx≠x->sp (.ref x::(vs++dvs)) (upd (upd H dx (.own x)) x (.ins C dx [])) (λ v H2=>v= .aF/\Q (.ref x) H2) E):
 wpAny (model X.prog X.w) X.A (call (.ref C) us) (EP X pins σ Q) X.xe s:=by
 have hq:=h (s.heap.objs.size+1) s.heap.objs.size (I.aL.fresh (Ut _)) (I.aL.fresh (Ry _)) (Sj (Si _));have I2:=Inv.made (C:=C) I;have r2:Vals (V.ref (s.heap.objs.size+1)::(vs++dvs)) (Value.ref (s.heap.objs.size+1)::(us++ds)):= .cons rfl (r.append hd)
 have hl:(Value.ref (s.heap.objs.size+1)::us++ds).length=ps.length:=by
  have e:=r2.length;rw[F.len _ _ _ _ hq]at e;exact e.symm
 refine wpAny_call (HN (f:=f) I.iN M.makes M.init (Us.mp M.fn) (Wc (F.run _ X.stack _ _ ⟨Value.ref (s.heap.objs.size+1)::us,[]⟩ (Value.ref (s.heap.objs.size+1)::(us++ds)) _ _ E (hr.make C us [])
  (I2.Mc.make C us []) (hb _ (Value.ref (s.heap.objs.size+1)::us) I2.iN hl) r2 hq) λ r s' hq'=>?_))
 cases r with
 |error e=>exact hx pins σ _ _ e s' I2 hq'
 |ok fl=>
  cases fl with
  |ret u=>
   obtain⟨v,H',I3,rv,ev,q3⟩:=I2.after hq';subst ev;exact⟨rv,⟨V.ref (s.heap.objs.size+1),H',I3,rfl,q3⟩⟩
  |next=>exact False.elim hq'
  |brk=>exact False.elim hq'
  |cont=>exact False.elim hq'
def Kc(M:Mk X.K C f)(F:cm X.prog X.w X.K X.mg X.base CX k f fd ps sp)(hr:du (k+1) X.A)(hg:Gl X x)(hm:X.mg x=some (.ref C))(hb:Binds X.K fd ps ds)(hd:Vals dvs ds)(hx:Passes CX X E)
 (ha:PA X (e::es) t) (hdb:(x==("__debug__":Str))=false:=by decide) (he:starEach (e::es) X.env=(false,eval e X.env)::starEach es X.env:=by rfl) (hpl:(backTo pos (starEach es X.env)).any (·.1)=false:=by rfl):
 PE X (.Call (.Name x p) (e::es) [] pos) (Jb C sp dvs E t):=by
 intro pins s σ H Q I h;refine UB (CH I hg hm ?_ hdb);refine VX (h₀:=X.base) I.ok.mod.EG M.kp (cR (ha pos pins s σ H _ I h) λ us s1 ⟨vs,H1,I1,r,q⟩=>⟨I1.iN,?_⟩) he hpl;exact GP M F hr hb hd hx I1 r q
end
section
variable {X:Cx}{CX:vz}{k:Nat}{f C:Addr}{fd:FuncData}{ps ks:List Str}{sp:Sp}{E:XK}{x m:Str}{p pos apos kpos:Pos}{e o:Expr}{es:List Expr}{kws:List Keyword}{te ta:TE}{t tk:TA}{nm:Option Str}
variable {g:List Value->List Value->List Value}{gV:List V->List V->List V}
end
structure aT(N P:List Str)(sc:Scope):Prop where
 kind:sc.kind= .function
 co:sc.isCoroutine=false
 gen:sc.isGenerator=false
 nd:N.Nodup
 pre:N.take P.length=P
 par:∀x∈P,sc.names.lookup x=some .local\/sc.names.lookup x=some .cell
 NY:∀y∈sc.names,y.2≠ .free
def yD{kindOf:Str->Option NameKind}{x:Str}:∀ {binds:List (Str×Value)} {m:Str->Option Value},(∀v,(x,v)∉binds)->bindL kindOf binds m x=m x
 | [],_,_=>rfl
 |(n,v)::r,m,h=>by
  unfold bindL;rw[yD λ w hw=>h w (R8 _ hw)];split
  . have:x≠n:=by rintro rfl;exact h v R7
    simp[this]
  . rfl
def yF{kindOf:Str->Option NameKind}{x:Str}:∀ {binds:List (Str×Value)} {m:Str->Option Value},(∀v,(x,v)∉binds)->bindC kindOf binds m x=m x
 | [],_,_=>rfl
 |(n,v)::r,m,h=>by
  unfold bindC;rw[yF λ w hw=>h w (R8 _ hw)];split
  . rfl
  . have:x≠n:=by rintro rfl;exact h v R7
    simp[this]
def yY{kindOf:Str->Option NameKind}{x:Str}{v:Value}:∀ {P:List Str} {vs:List Value} {i:Nat} {m:Str->Option Value},P.Nodup->P[i]?=some x->vs[i]?=some v->kindOf x=some .local->
 bindL kindOf (P.zip vs) m x=some v
 | [],_,_,_,_,h,_,_=>by simp at h
 |_::_,[],_,_,_,_,h,_=>by simp at h
 |p::P,w::vs,0,m,nd,h1,h2,hk=>by
  simp at h1 h2;subst h1;subst h2;show bindL kindOf ((p,w)::P.zip vs) m p=_;unfold bindL;rw[yD λ v hv=>(Uk.mp nd).1 (VE hv).1,RF hk];simp
 |p::P,w::vs,i+1,m,nd,h1,h2,hk=>by
  show bindL kindOf ((p,w)::P.zip vs) m x=_;unfold bindL;exact yY (i:=i) (Uk.mp nd).2 (by simpa using h1) (by simpa using h2) hk
def yK{kindOf:Str->Option NameKind}{x:Str}{v:Value}:∀ {P:List Str} {vs:List Value} {i:Nat} {m:Str->Option Value},P.Nodup->P[i]?=some x->vs[i]?=some v->kindOf x≠some .local->
 bindC kindOf (P.zip vs) m x=some v
 | [],_,_,_,_,h,_,_=>by simp at h
 |_::_,[],_,_,_,_,h,_=>by simp at h
 |p::P,w::vs,0,m,nd,h1,h2,hk=>by
  simp at h1 h2;subst h1;subst h2;show bindC kindOf ((p,w)::P.zip vs) m p=_;unfold bindC;rw[yF λ v hv=>(Uk.mp nd).1 (VE hv).1,RE hk];simp
 |p::P,w::vs,i+1,m,nd,h1,h2,hk=>by
  show bindC kindOf ((p,w)::P.zip vs) m x=_;unfold bindC;exact yK (i:=i) (Uk.mp nd).2 (by simpa using h1) (by simpa using h2) hk
def start(N:List Str)(vs:List V):St:=vs.map some++List.replicate (N.length-vs.length) none
def sT(CX:vz)(P:Program)(w:World)(K:PySem.W.Frag)(mg:Str->Option Value)(base:Heap)(N:List Str)(qual:Str)(scope:Scope)(f:Addr)(cd:Value)(A:Around)(outer:List Env)(s:Shared)(H:Hp)(E:XK):Cx where
 prog:=P
 w:=w
 K:=K
 mg:=mg
 base:=base
 A:=A.deeper (envOfC qual scope s.heap.objs.size f cd)
 N:=N
 s₀:=s
 H₀:=H
 env:=envOfC qual scope s.heap.objs.size f cd
 outer:=outer
 stack:=envOfC qual scope s.heap.objs.size f cd::outer
 ex:=[]
 calm:=true
 fn:=λ _=>true
 pn:=[]
 xe:=λ e s'=>wpAny (model P w) (A.deeper (envOfC qual scope s.heap.objs.size f cd)) (leaving (envOfC qual scope s.heap.objs.size f cd) e) (λ _ s''=>CX outer H s E e s'') (λ e' s''=>CX outer H s E e' s'') s'
def AH{sc:Scope}{n:Nat}{x:Str}(h:sc.names.lookup x=some .cell):∃c,(cellsFrom n sc.names []).lookup x=some c:=by
 have q:=Ug sc.names n [] (.inl h);exact Uw.mp q
def Gi{CX:vz}{P:Program}{w:World}{K:PySem.W.Frag}{mg:Str->Option Value}{base:Heap}{N ps:List Str}{qual:Str}{scope:Scope}{f:Addr}{cd:Value}{A:Around}{outer:List Env}{s s1:Shared}{H:Hp}{E:XK}{us:List Value}{vs:List V}
 (S:aT N ps scope) (hd:A.handled=none) (e0:vE P w K mg base A outer s H) (hl:vs.length=ps.length) (r:Vals vs us)
 (x:InCallC s s.heap.objs.size (bindL (envOfC qual scope s.heap.objs.size f cd).kindOf (ps.zip us) λ _=>none) (cellsFrom (s.heap.objs.size+1) scope.names []) (bindC (envOfC qual scope s.heap.objs.size f cd).kindOf (ps.zip us) λ _=>none) s1):
 Inv (sT CX P w K mg base N qual scope f cd A outer s H E) [] (start N vs) H s1:=by
 have hpl:ps.length<=N.length:=by have:=Tj List.length S.pre;rw[SG]at this;omega
 obtain⟨h1,tk,rfl,hk⟩:=x.done;have noA:∀b:Addr,b∉(sT CX P w K mg base N qual scope f cd A outer s H E).ex:=λ b z=>absurd (show b∈([]:List Addr)from z) (by simp)
 refine⟨⟨e0.mod,S.kind,rfl,rfl,Ry _,λ y z c h1 h2=>?_,λ y hy=>?_,λ y c _ h=>?_,λ _=>hd,Around.frames_deeper e0.frames,.inr ⟨rfl,rfl⟩,λ b z=>absurd z (noA b),e0.bs,e0.tR,λ b _ _=>noA b,λ b z=>absurd z (noA b),e0.mW,e0.xB,e0.gt⟩,
  rfl,e0.bare,Un.kept hk,⟨_,x.toInCall.ns,λ i y v h1 h2 h3=>?_⟩,λ y c h=>⟨_,x.cell y c h⟩,e0.aL.fresh (Ry _),λ y c h=>?_,λ p hp=>absurd (show p∈([]:List (Addr×Obj))from hp) (by simp),e0.aL.kept hk,?_⟩
 . exact name_of_addr x.apart (SF h1) (SF h2)
 . have hy:scope.names.lookup y=some .cell\/scope.names.lookup y=some .free:=hy;rcases hy with hy|hy
   . exact AH hy
   . exact absurd rfl (S.NY _ (SF hy))
 . exact Ta (x.above y c (SF h))
 . have hi:i<vs.length:=by
    unfold start at h2;by_cases hi:i<vs.length
    . exact hi
    . rw[Sh (by simpa using hi)]at h2;rw[Wr]at h2;split at h2<;>cases h2
   have ha:vs[i]?=some v:=by
    unfold start at h2;rw[RH (by simpa using hi),RV]at h2;cases e:vs[i]? with
    |none=>rw[e]at h2;cases h2
    |some a=>rw[e]at h2;cases h2;rfl
   obtain⟨u,hu,rv⟩:=r.get ha
   have hp:ps[i]?=some y:=by
    rw[<-S.pre,T6 (by omega)];exact h1
   have ndP:ps.Nodup:=by rw[<-S.pre];exact S.nd.sublist (List.take_sublist _ _)
   refine⟨u,rv,?_⟩;rcases S.par y (Sb hp)with k|k
   . exact .inl ⟨k,yY ndP hp hu k⟩
   . obtain⟨c,e⟩:=AH (n:=s.heap.objs.size+1) k;refine .inr ⟨.inl k,c,e,?_⟩;have q:=x.cell y c e;rw[yK ndP hp hu (by show scope.names.lookup y≠_;rw[k];decide)]at q;exact q
 . exact e0.aL.fresh (Ta (x.above y c (SF h)))
 . unfold start;show _=N.length;rw[SW,Rw,WK];omega
def IS{CX:vz}{P:Program}{w:World}{K:PySem.W.Frag}{mg:Str->Option Value}{base:Heap}{k:Nat}{f:Addr}{name qual:Str}{params:Arguments}{body:List Stmt}{scope:Scope}{dV kV doc pm cdv ct oc:Value}{an od:Option Addr}
 {osl:Array (Option Value)} {N ps:List Str} {sp:Sp} (lk:K.lookup f=some ⟨oc,od,.func (PySem.W.fnOf name qual params body scope dV kV doc pm an cdv ct),osl⟩) (hcd:PySem.W.codeIn K cdv qual=true) (S:aT N ps scope)
 (len:∀vs H Q E,sp vs H Q E->vs.length=ps.length)
 (hbody:∀(A:Around) (outer:List Env) (s:Shared) (H:Hp) (vs:List V) (Q:VK) (E:XK),du k (A.deeper (envOfC qual scope s.heap.objs.size f cdv))->sp vs H Q E->
   ∃t,iO (sT CX P w K mg base N qual scope f cdv A outer s H E) body t/\t {nx:=λ _ H'=>Q .aF H',rt:=Q} (start N vs) H):
 cm P w K mg base CX (k+1) f (PySem.W.fnOf name qual params body scope dV kV doc pm an cdv ct) ps sp:=by
 refine⟨len,λ A outer s H args us vs Q E hr e0 hb r hsp=>?_⟩;have hl:=len _ _ _ _ hsp;have KX:K.In s.heap:=e0.mod.EG.keeps λ b o e=>(e0.bs b o e).1;have lim:s.heap.NoLimit:=e0.mod.nolimit.keeps λ b o e=>(e0.bs b o e).1
 have hkind:∀y∈ps.zip us,scope.names.lookup y.1=some .local\/(scope.names.lookup y.1=some .cell/\((cellsFrom (s.heap.objs.size+1) scope.names []).lookup y.1).isSome=true):=λ⟨n,v⟩ hy=>by
  rcases S.par n (VE hy).1 with q|q
  . exact .inl q
  . exact .inr ⟨q,Ug _ _ _ (.inl q)⟩
 refine codeAny_call_function hr.depth (KX _ _ lk) rfl S.co S.gen rfl (PySem.W.codeRec_of KX hcd) (hb _ _ _ _ ?_);refine wpAny_newFunctionEnv_cells S.kind hkind λ env he s1 x=>?_;subst he;refine⟨lim.keeps x.toInCall.keep,codeAny_func ?_⟩;obtain⟨t,ht,hq⟩:=hbody A outer s H vs Q E (hr.deeper _) hsp;have I:Inv (sT CX P w K mg base N qual scope f cdv A outer s H E) [] (start N vs) H s1:=Gi S hr.hd e0 hl r x;refine TY (ht [] s1 (start N vs) H _ I hq) (λ fl s' hs=>?_) λ e s' hs=>hs
 have fin:∀ {σ':St} {H':Hp} {v:V} {u:Value},Inv (sT CX P w K mg base N qual scope f cdv A outer s H E) [] σ' H' s'->RelV v u->Q v H'->CE outer P w H s Q u s':=
  λ{σ' H' v u} J rv q=>⟨v,H',J.os,J.bare,J.base,J.aL,rv,q⟩
 cases fl with
 |ret u=>
  obtain⟨v,σ',H',J,rv,q⟩:=hs;exact fin J rv q
 |next=>
  obtain⟨σ',H',J,q⟩:=hs;exact fin (v:=V.aF) (u:=Value.none) J rfl q
 |brk=>
  obtain⟨_,_,_,q⟩:=hs;exact False.elim q
 |cont=>
  obtain⟨_,_,_,q⟩:=hs;exact False.elim q
section
variable {X:Cx}{x:Str}{p pos:Pos}{e:Expr}{es:List Expr}{t:TA}{id T:String}{r:List V->Hp->VK->Prop}
def M5(r:List V->Hp->VK->Prop)(t:TA):TE:=λ σ H Q=>t σ H λ vs H1=>r vs H1 Q
def HG(hc:cj X (.builtin id) r)(hg:Gl X x)(hm:X.mg x=none)(hv:bootBuiltins x=some (.builtin id))(ha:PA X (e::es) t)(hn:x≠"__name__":=by decide)(hdb:(x==("__debug__":Str))=false:=by decide)
 (he:starEach (e::es) X.env=(false,eval e X.env)::starEach es X.env:=by rfl) (hpl:(backTo pos (starEach es X.env)).any (·.1)=false:=by rfl):PE X (.Call (.Name x p) (e::es) [] pos) (M5 r t):=by
 intro pins s σ H Q I h;refine UB (ow I hg hm hv ?_ hn hdb);exact PyProof.Rows.callWith_builtin1 (cR (ha pos pins s σ H _ I h) λ us s1 ⟨vs,H1,I1,r1,q1⟩=>hc pins s1 σ H1 vs us Q I1 r1 q1) he hpl
def EF(hc:cj X (.type T) r)(hg:Gl X x)(hm:X.mg x=none)(hv:bootBuiltins x=some (.type T))(ha:PA X (e::es) t)(hn:x≠"__name__":=by decide)(hdb:(x==("__debug__":Str))=false:=by decide)
 (he:starEach (e::es) X.env=(false,eval e X.env)::starEach es X.env:=by rfl) (hpl:(backTo pos (starEach es X.env)).any (·.1)=false:=by rfl):PE X (.Call (.Name x p) (e::es) [] pos) (M5 r t):=by
 intro pins s σ H Q I h;refine UB (ow I hg hm hv ?_ hn hdb);exact TM (cR (ha pos pins s σ H _ I h) λ us s1 ⟨vs,H1,I1,r1,q1⟩=>hc pins s1 σ H1 vs us Q I1 r1 q1) he hpl
end
end L2
namespace HT
open PySem PyProof.Rows
section
open PySem.SeqAt
open PySem.AutoSeq1 (wpAny_loadPart')
open PySem.MeetsSeq PySem.MeetsSeq2 PySem.MeetsSeq3
end
section
variable {prog:Program}{w:World}{A:Around}{E:Value->Shared->Prop}{s:Shared}
def Lc{t b:Addr}{vs ws:List Value}{Q:Value->Shared->Prop}(ht:IsTup s.heap t vs.toArray)(hb:IsTup s.heap b ws.toArray)(hv:vs≠ [])
 (h1:ws=[]->Q (.ref t) s) (h2:ws≠ []->Q (.ref s.heap.objs.size) {s with heap:=s.heap.push {cls:= .type "tuple",data:= .seq (vs++ws).toArray}})
 (hsz:vs.length+ws.length<=sizeLine):wpAny (model prog w) A (binaryOp .Add (.ref t) (.ref b)) Q E s:=by
 obtain⟨⟨cls,dd,data,sl⟩,ho,hc,n,hd⟩:=id ht;obtain⟨⟨cls2,dd2,data2,sl2⟩,ho2,hc2,n2,hd2⟩:=id hb;simp only at hc hd hc2 hd2;subst hc hd hc2 hd2;have e:vs.toArray++ws.toArray=(vs++ws).toArray:=by simp
 by_cases hw:ws=[]
 . exact W0 ⟨_,ho,rfl⟩ ⟨_,ho2,rfl⟩ Wd WX Vp Ve (U8 _ _)
    (tuple_addW1 t b vs.toArray ws.toArray n n2 dd dd2 sl sl2 (by simpa using hv) (by simp[hw])) ⟨ho,ho2,h1 hw⟩
 . refine W0 ⟨_,ho,rfl⟩ ⟨_,ho2,rfl⟩ Wd WX Vp Ve (U8 _ _)
    (tuple_addW2 t b vs.toArray ws.toArray n n2 dd dd2 sl sl2 (by simpa using hv) (by simpa using hw) (by rw[RI,RI];exact hsz)) ⟨ho,ho2,?_⟩
   rw[e];exact h2 hw
def cL(n d:Nat):Option Int->Nat
 |none=>d
 |some v=>if v<0 then(v+(n:Int)).toNat else min v.toNat n
def Bu(n d:Nat):cL n d none=d:=rfl
def Dc(n d k:Nat):cL n d (some (k:Int))=min k n:=by
 show(if(k:Int)<0 then((k:Int)+(n:Int)).toNat else min (k:Int).toNat n)=min k n;rw[RE (by omega),R6]
def MF(n d:Nat)(hd:d<=n)(o:Option Int):cL n d o<=n:=by
 cases o with
 |none=>exact hd
 |some v=>
  show(if v<0 then(v+(n:Int)).toNat else min v.toNat n)<=n;by_cases hv:v<0
  . rw[RF hv];omega
  . rw[RE hv];exact Nat.min_le_right _ _
def CL(v:Int)(n d:Nat):(if v<0 then max (v+(n:Int)) 0 else min v (n:Int))=((cL n d (some v):Nat):Int):=by
 show(if v<0 then max (v+(n:Int)) 0 else min v (n:Int))=(((if v<0 then(v+(n:Int)).toNat else min v.toNat n):Nat):Int)
 by_cases hv:v<0
 . simp only[RF hv];omega
 . simp only[RE hv];omega
def Ef(lo hi:Option Int)(n:Nat):Builtin.Slice.sliceAdjust lo hi 1 (n:Int)=(((cL n 0 lo:Nat):Int),((cL n n hi:Nat):Int)):=by
 have h1:¬((1:Int)<0):=by omega
 unfold Builtin.Slice.sliceAdjust;simp only[h1,Ub];refine Prod.ext ?_ ?_
 . cases lo with
   |none=>rfl
   |some v=>exact CL v n 0
 . cases hi with
   |none=>rfl
   |some v=>exact CL v n n
def DY(i j:Nat):Builtin.Slice.slicePlaces (i:Int) (j:Int) 1=j-i:=by
 unfold Builtin.Slice.slicePlaces;have h1:(1:Int)>0:=by omega
 simp only[h1,Ul,Int.ediv_one];split<;>omega
def wm{v:Value}{o:Option Int}{Q:Option Int->Shared->Prop}(p:IsPart v o)(h:Q o s):wpAny (model prog w) A (Builtin.Slice.slicePartIndex v) Q E s:=by
 cases p with
 |none=>exact slicePart_none h
 |int i t=>exact slicePart_int h
def pL{sl:Addr}{vl vu:Value}{lo hi:Option Int}{n:Nat}{Q:Int×Int×Nat->Shared->Prop}(hs:s.heap.IsSliceOf sl vl vu .none)(pl:IsPart vl lo)(pu:IsPart vu hi)
 (h:Q (((cL n 0 lo:Nat):Int),1,cL n n hi-cL n 0 lo) s):wpAny (model prog w) A (Builtin.Slice.sliceApplied (.ref sl) (pure (n:Int))) Q E s:=by
 obtain⟨os,hos,hcs,hds⟩:=id hs;unfold Builtin.Slice.sliceApplied Builtin.Slice.sliceFields;refine Rz (Rz (Tg hos hds (x:=vl) rfl (Rz (Tg hos hds (x:=vu) rfl (Rz (Tg hos hds (x:= .none) rfl (RP ?_)))))));refine Rz (slicePart_none ?_);show wpAny _ _ (if((1:Int)==0)=true then _ else _) _ _ s;rw[RE (by decide)];refine Rz (wm pl (Rz (wm pu (Rz (RP ?_)))));show wpAny _ _ (match Builtin.Slice.sliceAdjust lo hi 1 (n:Int)with|(lo,hi)=>pure (lo,(1:Int),Builtin.Slice.slicePlaces lo hi 1)) _ _ s;rw[Ef lo hi n];show wpAny _ _ (pure (((cL n 0 lo:Nat):Int),(1:Int),Builtin.Slice.slicePlaces ((cL n 0 lo:Nat):Int) ((cL n n hi:Nat):Int) 1)) _ _ s;rw[DY];exact RP h
def Hq(xs:Array Value)(i k:Nat):((List.range k).filterMap λ(m:Nat)=>xs[((i:Int)+(m:Int)*1).toNat]?).toArray=((xs.toList.drop i).take k).toArray:=by
 have e:(λ(m:Nat)=>xs[((i:Int)+(m:Int)*1).toNat]?)=λ m=>xs[i+m]?:=by
  funext m;have:((i:Int)+(m:Int)*1).toNat=i+m:=by omega
  rw[this]
 rw[e];have:=pick_run xs i k;rw[List.filterMap_map]at this;have e2:((λ x=>xs[x]?)∘λ x=>i+x)=λ m=>xs[i+m]?:=rfl;rw[e2]at this;rw[this]
def vc{t sl:Addr}{items:Array Value}{vl vu:Value}{lo hi:Option Int}{Q:Value->Shared->Prop}(ht:IsTup s.heap t items)(hs:s.heap.IsSliceOf sl vl vu .none)(pl:IsPart vl lo)(pu:IsPart vu hi)
 (hw:¬(cL items.size 0 lo=0/\cL items.size items.size hi=items.size))
 (h:Q (.ref s.heap.objs.size) {s with heap:=s.heap.push {cls:= .type "tuple",data:= .seq ((items.toList.drop (cL items.size 0 lo)).take (cL items.size items.size hi-cL items.size 0 lo)).toArray}})
 (hsz:items.size<=sizeLine):wpAny (model prog w) A (getItem (.ref t) (.ref sl)) Q E s:=by
 have htake:sizeOk (.seq ((items.toList.drop (cL items.size 0 lo)).take (cL items.size items.size hi-cL items.size 0 lo)).toArray):=by
  show((items.toList.drop (cL items.size 0 lo)).take (cL items.size items.size hi-cL items.size 0 lo)).toArray.size<=sizeLine;rw[RI,SG,SS,Ti];omega
 have hj:cL items.size items.size hi<=items.size:=MF _ _ (Ry _) hi;obtain⟨os,hos,hcs,hds⟩:=id hs;have hTs:s.TypeIs (.ref sl) "slice":=⟨os,hos,hcs⟩
 unfold getItem;try with_reducible refine Uy ?_
 first|refine Rz (RP ?_)|skip
 refine Rz (wpAny_sequenceKey ht.typeIs (by decide) ?_)
 refine Rz (Tq (name:=Str.ofString "__getitem__") ht.typeIs Te
  (Uc Te ht.typeIs entry_tuple_getitem ?_ (args_tuple_getitem _ _)))
 show wpAny _ _ (Builtin.Tuple.tupleItemsOf (.ref t) >>= _) _ _ s;refine Rz (tupleItemsOf_ ht ?_);refine Rz (W2 hTs ?_);rw[RF (by decide)];refine Rz (pL hs pl pu ?_)
 have hno:¬((((cL items.size 0 lo:Nat):Int)==0&&(1:Int)==1&&(cL items.size items.size hi-cL items.size 0 lo)==items.size)=true):=by
  intro q;rw[SV,SV]at q;have q1:((cL items.size 0 lo:Nat):Int)=0:=eq_of_beq q.1.1;have q2:cL items.size items.size hi-cL items.size 0 lo=items.size:=eq_of_beq q.2;exact hw ⟨by omega,by omega⟩
 show wpAny _ _ (if(((cL items.size 0 lo:Nat):Int)==0&&(1:Int)==1&&(cL items.size items.size hi-cL items.size 0 lo)==items.size)=true then _ else _) _ _ s;rw[RE hno,Hq]
 first
  |exact Rz (m:=Builtin.Tuple.tupleExact _) (Uo (RP ⟨_,rfl,RP h⟩) htake)
  |exact Rz (m:=Builtin.Tuple.tupleExact _) (Uo (Rz (RP (RP ⟨_,rfl,RP h⟩))) htake)
  |exact Rz (Rz (m:=Builtin.Tuple.tupleExact _) (Uo (RP (RP ⟨_,rfl,RP h⟩)) htake))
  |exact Rz (Rz (m:=Builtin.Tuple.tupleExact _) (Uo (RP ⟨_,rfl,RP h⟩) htake))
end
end HT
namespace L2
open PySem PySem.Spec PyProof.Rows
abbrev TO:=St->Hp->(Option Int->Hp->Prop)->Prop
def PO(X:Cx)(e:Option Expr)(t:TO):Prop:=
 ∀(pins:List (Addr×Obj)) (s:Shared) (σ:St) (H:Hp) (Q:Option Int->Hp->Prop),Inv X pins σ H s->t σ H Q->
  wpAny (model X.prog X.w) X.A (evalPart e X.env) (λ u s'=>∃o H',Inv X pins σ H' s'/\IsPart u o/\Q o H') X.xe s
def Ku:TO:=λ _ H Q=>Q none H
def Oq(t:TE):TO:=λ σ H Q=>t σ H λ x H1=>∃i,x= .int i/\Q (some i) H1
section
variable {X:Cx}{e:Expr}{te:TE}{lo hi:Option Expr}{tl th:TO}{pos p2:Pos}
def KJ:PO X none Ku:=by
 intro pins s σ H Q I h;rw[evalPart_none];exact RP ⟨none,H,I,.none,h⟩
def KR(h:PE X e te):PO X (some e) (Oq te):=by
 intro pins s σ H Q I hw;rw[evalPart_some];refine cR (h pins s σ H _ I hw) λ u s1 ⟨x,H1,I1,r1,q1⟩=>?_;obtain⟨i,rfl,q⟩:=q1;obtain⟨t,rfl⟩:=r1;exact⟨some i,H1,I1,.int i t,q⟩
def FK(X:Cx)(r:V->Option Int->Option Int->Hp->VK->Prop):Prop:=
 ∀(pins:List (Addr×Obj)) (s:Shared) (σ:St) (H:Hp) (x:V) (v vl vu:Value) (lo hi:Option Int) (sl:Addr) (Q:VK),Inv X pins σ H s->RelV x v->s.heap.IsSliceOf sl vl vu .none->IsPart vl lo->IsPart vu hi->r x lo hi H Q->
  ∃T id,typeLookup (.type T) "__getitem__"=pure (some (.builtin id))/\s.TypeIs v T/\wpAny (model X.prog X.w) X.A (getItem v (.ref sl)) (EP X pins σ Q) X.xe s
def Q2(r:V->Option Int->Option Int->Hp->VK->Prop)(te:TE)(tl th:TO):TE:=λ σ H Q=>te σ H λ x H1=>tl σ H1 λ l H2=>th σ H2 λ u H3=>r x l u H3 Q
def Ig{r:V->Option Int->Option Int->Hp->VK->Prop}(hr:FK X r)(he:PE X e te)(hl:PO X lo tl)(hu:PO X hi th):PE X (.Subscript e (.Slice lo hi none p2) pos) (Q2 r te tl th):=by
 intro pins s σ H Q I h;refine Subscript_ (cR (he pins s σ H _ I h) λ v s1 ⟨x,H1,I1,r1,q1⟩=>?_);refine wpAny_Slice (cR (hl pins s1 σ H1 _ I1 q1) λ vl s2 ⟨l,H2,I2,pl,q2⟩=>cR (hu pins s2 σ H2 _ I2 q2) λ vu s3 ⟨u,H3,I3,pu,q3⟩=>?_);rw[evalPart_none];refine RP ?_;have I4:Inv X pins σ H3 {s3 with heap:=s3.heap.push {cls:= .type "slice",data:= .fields #[vl,vu,.none]}}:=I3.kept (t':=s3.toks) λ b ob q=>RG _ q;obtain⟨T,id,hT,ht,hg⟩:=hr pins {s3 with heap:=s3.heap.push {cls:= .type "slice",data:= .fields #[vl,vu,.none]}} σ H3 x v vl vu l u s3.heap.objs.size Q I4 r1 (Heap.IsSliceOf.new ..) pl pu q3;show wpAny (model X.prog X.w) X.A (subscriptTail e (.Slice lo hi none p2) v (.ref s3.heap.objs.size)) (EP X pins σ Q) X.xe {s3 with heap:=s3.heap.push {cls:= .type "slice",data:= .fields #[vl,vu,.none]}};exact tail_any (ops:=[.ref s3.heap.objs.size,v]) ht hT hg (by with_unfolding_all rfl)
def sO(xs:List V)(lo hi:Option Int):List V:=(xs.drop (HT.cL xs.length 0 lo)).take (HT.cL xs.length xs.length hi-HT.cL xs.length 0 lo)
def vk(xs:List V)(lo hi:Option Int):(sO xs lo hi).length<=xs.length:=by
 unfold sO;rw[SG,SS];omega
def QU(K:PySem.W.Frag):V->Option Int->Option Int->Hp->VK->Prop:=λ x lo hi H Q=>∃a xs,x= .ref a/\jJ K H a xs/\
 ¬(HT.cL xs.length 0 lo=0/\HT.cL xs.length xs.length hi=xs.length)/\∀p,H p=none->Q (.ref p) (upd H p (.tup (sO xs lo hi)))
def Mg:FK X (QU X.K):=by
 intro pins s σ H x v vl vu lo hi sl Q I rx hs pl pu h;obtain⟨a,xs,rfl,hx,hw,q⟩:=h;cases rx;obtain⟨its,r,ht,hz⟩:=I.tuple hx;have hlen:its.toArray.size=xs.length:=by rw[RI];exact r.length.symm
 refine⟨"tuple",_,Te.lookup,ht.typeIs,?_⟩;refine HT.vc ht hs pl pu (by rw[hlen];exact hw) ?_ (by rw[hlen];exact hz);rw[hlen];refine⟨.ref s.heap.objs.size,_,I.laid (t':=s.toks) (o:= .tup (sO xs lo hi)) (λ b ob q=>RG _ q) (Ry _) ?_,rfl,q _ (I.aL.fresh (Ry _))⟩;exact⟨RD (vk xs lo hi) hz,_,(r.drop (HT.cL xs.length 0 lo)).take (HT.cL xs.length xs.length hi-HT.cL xs.length 0 lo),IsTup.new _ _⟩
def Ou(K:PySem.W.Frag):R2:=λ x y H Q=>∃a b xs ys,x= .ref a/\y= .ref b/\jJ K H a xs/\jJ K H b ys/\xs≠ []/\xs.length+ys.length<=sizeLine/\
 (ys=[]->Q (.ref a) H)/\(ys≠ []->∀p,H p=none->Q (.ref p) (upd H p (.tup (xs++ys))))
def Vals.uV{xs:List V}{us:List Value}(r:Vals xs us):us=[]↔xs=[]:=by
 cases r with
 |nil=>simp
 |cons _ _=>simp
def Ki:cE X (binaryOp .Add) (Ou X.K):=by
 intro pins s σ H x y v u Q I rx ry h;obtain⟨a,b,xs,ys,rfl,rfl,ha,hb,hx,hz,q1,q2⟩:=h;cases rx;cases ry;obtain⟨its,r1,p1,_⟩:=I.tuple ha;obtain⟨its2,r2,p2,_⟩:=I.tuple hb;refine HT.Lc p1 p2 (λ z=>hx (r1.uV.mp z)) (λ z=>⟨.ref a,H,I,rfl,q1 (r2.uV.mp z)⟩) (λ z=>?_) (by rw[<-r1.length,<-r2.length];exact hz);refine⟨.ref s.heap.objs.size,_,I.laid (t':=s.toks) (o:= .tup (xs++ys)) (λ b ob q=>RG _ q) (Ry _) ?_,rfl,q2 (λ w=>z (r2.uV.mpr w)) _ (I.aL.fresh (Ry _))⟩;exact⟨by rw[SW];exact hz,_,r1.append r2,IsTup.new _ _⟩
end
def lV(n:Nat)(i:Int):Option Nat:=if 0<=i then(if i<n then some i.toNat else none)else if-(n:Int)<=i then some (i+n).toNat else none
def fP{α:Type}(xs:List α)(i:Int):Option α:=(lV xs.length i).bind λ j=>xs[j]?
def yv{n:Nat}{i:Int}{j:Nat}(h:lV n i=some j):seqIndex? i n=some j/\j<n/\ -(n:Int)<=i/\i<n:=by
 unfold lV at h;by_cases h0:0<=i
 . rw[RF h0]at h;by_cases h1:i<n
   . rw[RF h1]at h;have e:i.toNat=j:=SD h;exact⟨by rw[seqIndex_of h0 h1,e],by omega,by omega,h1⟩
   . rw[RE h1]at h;cases h
 . rw[RE h0]at h;by_cases h1: -(n:Int)<=i
   . rw[RF h1]at h;have e:(i+n).toNat=j:=SD h;exact⟨by rw[seqIndex_neg (by omega) h1,e],by omega,h1,by omega⟩
   . rw[RE h1]at h;cases h
def xX{α:Type}{xs:List α}{i:Int}{v:α}(h:fP xs i=some v):∃j,seqIndex? i xs.length=some j/\xs[j]?=some v/\j<xs.length/\ -(xs.length:Int)<=i/\i<xs.length:=by
 unfold fP at h;cases e:lV xs.length i with
 |none=>rw[e]at h;cases h
 |some j=>
  rw[e]at h;obtain⟨h1,h2,h3,h4⟩:=yv e;exact⟨j,h1,h,h2,h3,h4⟩
def j7{α:Type}{xs:List α}{j:Nat}{v:α}(h:xs[j]?=some v):fP xs (j:Int)=some v:=by
 have hj:j<xs.length:=(Rx.mp h).1
 have e:lV xs.length (j:Int)=some j:=by
  unfold lV;rw[RF (by omega),RF (by omega)];simp
 unfold fP;rw[e];exact h
def u4(b:Expr):Prop:=∀o i,subscripted b false o i=operate [o,i] (getItem o i)
def IT(X:Cx)(r:R2):Prop:=
 ∀(value slice:Expr) (pins:List (Addr×Obj)) (s:Shared) (σ:St) (H:Hp) (x y:V) (v u:Value) (Q:VK),Inv X pins σ H s->RelV x v->RelV y u->r x y H Q->
  subscripted slice false v u=operate [v,u] (getItem v u)->wpAny (model X.prog X.w) X.A (subscriptTail value slice v u) (EP X pins σ Q) X.xe s
def Nm(X:Cx)(id:String)(r:V->List V->Hp->VK->Prop):Prop:=
 ∀(pins:List (Addr×Obj)) (s:Shared) (σ:St) (H:Hp) (x:V) (xs:List V) (v:Value) (us:List Value) (Q:VK),Inv X pins σ H s->RelV x v->Vals xs us->r x xs H Q->
  wpAny (model X.prog X.w) X.A (call (.builtin id) (v::us)) (EP X pins σ Q) X.xe s
section
variable {X:Cx}{a b:Expr}{ta tb:TE}{pos:Pos}
def OP{r:R2}(hr:IT X r)(ha:PE X a ta)(hb:PE X b tb)(hs:u4 b):PE X (.Subscript a b pos) (E4 r ta tb):=by
 intro pins s σ H Q I h;exact Subscript_ (Hm ha hb I h λ v u s2 x y H2 I2 rx ry q=>hr a b pins s2 σ H2 x y v u Q I2 rx ry q (hs _ _))
def QM(K:PySem.W.Frag):R2:=λ x y H Q=>∃p xs i v,x= .ref p/\y= .int i/\oh K H p xs/\fP xs i=some v/\Q v H
def Qm(K:PySem.W.Frag):R2:=λ x y H Q=>∃p xs i v,x= .ref p/\y= .int i/\jJ K H p xs/\fP xs i=some v/\Q v H
def CG:IT X (QM X.K):=by
 intro value slice pins s σ H x y v u Q I rx ry h hs;obtain⟨p,xs,i,z,rfl,rfl,hq,he,q⟩:=h;cases rx;obtain⟨t,rfl⟩:=ry;obtain⟨its,r,pl,hz⟩:=I.list hq;obtain⟨j,h1,h2,h3,h4,h5⟩:=xX he;obtain⟨w,ew,rw'⟩:=r.get h2;have hl:=r.length;have hn:=uF;have fin:EP X pins σ Q w s:=⟨z,H,I,rw',q⟩
 by_cases h0:0<=i
 . have hj:i.toNat=j:=by
    rw[seqIndex_of h0 h5]at h1;exact SD h1
   exact item_listR pl.isList h0 (by omega) (by rw[hj];simpa using ew) fin hs
 . have hj:(i+(its.toArray.size:Int)).toNat=j:=by
    rw[seqIndex_neg (by omega) h4]at h1;rw[RI,<-hl];exact SD h1
   exact subscriptTail_builtinR (x:=w) pl.isList.typeIs slot_list_getitem.lookup
    (wpAny_getItem_list_neg (Q:=λ r s'=>r=w/\EP X pins σ Q r s') pl.isList (by omega) (by rw[RI]<;>omega) (by omega) (by rw[hj];simpa using ew) ⟨rfl,fin⟩) hs
def Ly:IT X (Qm X.K):=by
 intro value slice pins s σ H x y v u Q I rx ry h hs;obtain⟨p,xs,i,z,rfl,rfl,hq,he,q⟩:=h;cases rx;obtain⟨t,rfl⟩:=ry;obtain⟨its,r,pl,hz⟩:=I.tuple hq;obtain⟨j,h1,h2,h3,h4,h5⟩:=xX he;obtain⟨w,ew,rw'⟩:=r.get h2;have hl:=r.length;have hn:=uF;have fin:EP X pins σ Q w s:=⟨z,H,I,rw',q⟩
 exact subscriptTail_builtinR (x:=w) pl.typeIs slot_tuple_getitem.lookup
  (getItem_tuple (j:=j) (Q:=λ r s'=>r=w/\EP X pins σ Q r s') pl (by omega) (by omega) (by rw[RI,<-hl];exact h1) (by simpa using ew) ⟨rfl,fin⟩) hs
def DG(its:List Value)(n j:Nat)(u:Value):Obj.mapSeq (·.setIfInBounds j u) {cls:= .type "list",data:= .seq its.toArray n}= {cls:= .type "list",data:= .seq (its.set j u).toArray n}:=by
 simp[Obj.mapSeq]
def Inv.lst{pins:List (Addr×Obj)}{σ:St}{H:Hp}{s:Shared}{p:Addr}{xs:List V}(I:Inv X pins σ H s)(h:H p=some (.lst xs)):
 ∃(its:List Value) (n:Nat),Vals xs its/\s.heap.get? p=some {cls:= .type "list",data:= .seq its.toArray n}/\xs.length<=sizeLine:=by
 obtain⟨z,its,n,r,e⟩:=I.aL p _ h;exact⟨its,n,r,e,z⟩
def Inv.N2{pins:List (Addr×Obj)}{σ:St}{H:Hp}{s:Shared}{p:Addr}{xs ys:List V}{its its':List Value}{n n':Nat}{f:Obj->Obj}(I:Inv X pins σ H s)(h:H p=some (.lst xs))
 (ho:s.heap.get? p=some {cls:= .type "list",data:= .seq its.toArray n}) (hf:f {cls:= .type "list",data:= .seq its.toArray n}= {cls:= .type "list",data:= .seq its'.toArray n'}) (r:Vals ys its') (hz:ys.length<=sizeLine) (t:Nat):
 Inv X pins σ (upd H p (.lst ys)) {s with heap:=s.heap.update p f,toks:=t}:=by
 have e:(s.heap.update p f).get? p=some {cls:= .type "list",data:= .seq its'.toArray n'}:=by
  rw[Heap.get?_update_self f ho (by rw[hf]<;>rfl),hf]
 refine I.write (x:=p) (e:=p) (by rw[h];trivial) (.inl rfl) (λ b u hb q=>(Wz _ _ (RO hb)).trans q) ⟨_,e⟩ ?_;exact⟨hz,its',n',r,e⟩
def wK:V->V->V->Hp->(Hp->Prop)->Prop:=λ o i v H Q=>∃p xs k j,o= .ref p/\i= .int k/\H p=some (.lst xs)/\lV xs.length k=some j/\Q (upd H p (.lst (xs.set j v)))
def set_list:Nw X wK:=by
 intro pins s σ H o i v ov iv u Q I ro ri rv h;obtain⟨p,xs,k,j,rfl,rfl,hp,hj,q⟩:=h;cases ro;obtain⟨t,rfl⟩:=ri;obtain⟨its,n,r,ho,hz⟩:=I.lst hp;obtain⟨h1,h2,h3,h4⟩:=yv hj;have hl:=r.length;have hn:=uF
 have I':Inv X pins σ (upd H p (.lst (xs.set j v))) {s with heap:=s.heap.update p (Obj.mapSeq (·.setIfInBounds j u))}:=
  I.N2 hp ho (DG its n j u) (r.set rv j) (by rw[RY];exact hz) s.toks
 by_cases h0:0<=k
 . have hk:k.toNat=j:=by
    rw[seqIndex_of h0 h4]at h1;exact SD h1
   exact PySem.W.ki_setAt ho h0 (by omega) (by rw[RI,<-hl];exact h4) (by rw[hk];exact⟨_,I',q⟩)
 . have hk:(k+(its.toArray.size:Int)).toNat=j:=by
    rw[seqIndex_neg (by omega) h3]at h1;rw[RI,<-hl];exact SD h1
   exact PySem.W.ki_setBack ho (by omega) (by rw[RI,<-hl];exact h3) (by omega) (by rw[hk];exact⟨_,I',q⟩)
def Az(lo hi:Option Int)(n:Nat):(sliceBounds lo hi none n).1=((HT.cL n 0 lo:Nat):Int)/\(sliceBounds lo hi none n).2.1=((HT.cL n n hi:Nat):Int)/\(sliceBounds lo hi none n).2.2=1:=by
 refine⟨?_,?_,rfl⟩
 . cases lo with
   |none=>simp[sliceBounds,HT.cL]
   |some i=>
    simp only[sliceBounds,HT.cL,Option.getD_none,show(1:Int)>0 by decide,Ul];by_cases h:i<0
    . simp only[h,Ul]<;>omega
    . simp only[h,Ub]<;>omega
 . cases hi with
   |none=>simp[sliceBounds,HT.cL]
   |some i=>
    simp only[sliceBounds,HT.cL,Option.getD_none,show(1:Int)>0 by decide,Ul];by_cases h:i<0
    . simp only[h,Ul]<;>omega
    . simp only[h,Ub]<;>omega
def zy(its:List Value)(lo hi:Option Int):slicePick its.toArray lo hi none=((its.drop (HT.cL its.length 0 lo)).take (HT.cL its.length its.length hi-HT.cL its.length 0 lo)).toArray:=by
 obtain⟨h1,h2,h3⟩:=Az lo hi its.toArray.size;unfold slicePick;rw[h1,h2,h3];simp only[sliceRange_one,pick_run,RI]<;>rfl
def Qj(K:PySem.W.Frag):V->Option Int->Option Int->Hp->VK->Prop:=λ x lo hi H Q=>∃a xs,x= .ref a/\oh K H a xs/\∀p,H p=none->Q (.ref p) (upd H p (.lst (sO xs lo hi)))
def C6:FK X (Qj X.K):=by
 intro pins s σ H x v vl vu lo hi sl Q I rx hs pl pu h;obtain⟨a,xs,rfl,hx,q⟩:=h;cases rx;obtain⟨its,r,ht,hz⟩:=I.list hx;have hlen:=r.length;refine⟨"list",_,slot_list_getitem.lookup,ht.isList.typeIs,?_⟩;refine wpAny_getItem_list_slice ht.isList hs pl pu .none (by simp) ?_ (by rw[RI]<;>omega);rw[zy,<-hlen];refine⟨.ref s.heap.objs.size,_,I.laid (t':=s.toks) (o:= .lst (sO xs lo hi)) (λ b ob q=>RG _ q) (Ry _) ?_,rfl,q _ (I.aL.fresh (Ry _))⟩;exact⟨RD (vk xs lo hi) hz,_,0,(r.drop (HT.cL xs.length 0 lo)).take (HT.cL xs.length xs.length hi-HT.cL xs.length 0 lo),Sa _ rfl⟩
def Ad:cj X (.builtin "len") (λ xs H Q=>∃p ys,xs=[.ref p]/\(oh X.K H p ys\/jJ X.K H p ys)/\Q (.int ys.length) H):=by
 intro pins s σ H xs us Q I r h;obtain⟨p,ys,rfl,hq,q⟩:=h;obtain⟨u,rfl,rx⟩:=vals1 r;cases rx;have hn:=uF;rcases hq with hq|hq
 . obtain⟨its,r',pl,hz⟩:=I.list hq;have hlen:=r'.length;exact Calls.call_len_list pl.isList (by simp only[RI]<;>omega) ⟨.int ys.length,H,I.tok _,⟨s.toks+1,by rw[RI,hlen]⟩,q⟩
 . obtain⟨its,r',pl,hz⟩:=I.tuple hq;have hlen:=r'.length;exact len_tuple pl (by simp only[RI]<;>omega) ⟨.int ys.length,H,I.tok _,⟨s.toks+1,by rw[RI,hlen]⟩,q⟩
def Af:cj X (.builtin "len") (λ xs H Q=>∃z,xs=[.str z]/\z.length<=sizeLine/\Q (.int z.length) H):=by
 intro pins s σ H xs us Q I r h;obtain⟨z,rfl,hz,q⟩:=h;obtain⟨u,rfl,t,rfl⟩:=vals1 r;have hn:=uF;exact len_str (by omega) ⟨.int z.length,H,I.tok _,⟨_,rfl⟩,q⟩
def ui:cj X (.type "list") (λ xs H Q=>∃p ys,xs=[.ref p]/\(oh X.K H p ys\/jJ X.K H p ys)/\∀l,H l=none->Q (.ref l) (upd H l (.lst ys))):=by
 intro pins s σ H xs us Q I r h;obtain⟨p,ys,rfl,hq,q⟩:=h;obtain⟨u,rfl,rx⟩:=vals1 r;cases rx
 have fin:∀(its:List Value),Vals ys its->ys.length<=sizeLine->∀(h':Heap) (c':Nat),(∀b o',s.heap.get? b=some o'->h'.get? b=some o')->
  h'.get? s.heap.objs.size=some {cls:= .type "list",dict:=none,data:= .seq its.toArray c',slots:= #[]}->EP X pins σ Q (.ref s.heap.objs.size) {s with heap:=h'}:=λ its r' hz h' c' kp e=>
  ⟨.ref s.heap.objs.size,_,I.laid (t':=s.toks) kp (Ry _) (show eN X.prog X.w _ h' _ (.lst ys)from⟨hz,its,c',r',e⟩),rfl,q _ (I.aL.fresh (Ry _))⟩
 rcases hq with hq|hq
 . obtain⟨its,r',pl,hz⟩:=I.list hq;have hlen:=r'.length;obtain⟨o,ho,hc,n,hd⟩:=pl.isList;exact call_list_seq p (.inl rfl) ho hc hd (λ h' c' kp e=>fin its r' hz h' c' kp e) (by simp only[RI]<;>omega)
 . obtain⟨its,r',pl,hz⟩:=I.tuple hq;have hlen:=r'.length;obtain⟨o,ho,hc,n,hd⟩:=pl;exact call_list_seq p (.inr rfl) ho hc hd (λ h' c' kp e=>fin its r' hz h' c' kp e) (by simp only[RI]<;>omega)
def zj:cj X (.type "tuple") (λ xs H Q=>∃p ys,xs=[.ref p]/\((oh X.K H p ys/\∀l,H l=none->Q (.ref l) (upd H l (.tup ys)))\/(jJ X.K H p ys/\Q (.ref p) H))):=by
 intro pins s σ H xs us Q I r h;obtain⟨p,ys,rfl,h⟩:=h;obtain⟨u,rfl,rx⟩:=vals1 r;cases rx;rcases h with⟨hq,q⟩|⟨hq,q⟩
 . obtain⟨its,r',pl,hz⟩:=I.list hq;have hlen:=r'.length;refine call_tuple_list pl.isList (λ h' kp=>?_) (by simp only[RI]<;>omega);have I1:Inv X pins σ H {s with heap:=h'}:=I.kept (t':=s.toks) kp
   have I2:Inv X pins σ (upd H h'.objs.size (.tup ys)) {s with heap:=h'.push {cls:= .type "tuple",data:= .seq its.toArray}}:=
    I1.laid (t':=s.toks) (λ b o e=>RG _ e) (Ry _) (show eN X.prog X.w _ _ _ (.tup ys)from⟨hz,its,r',IsTup.new _ _⟩)
   exact⟨.ref h'.objs.size,_,I2,rfl,q _ (I1.aL.fresh (Ry _))⟩
 . obtain⟨its,r',pl,hz⟩:=I.tuple hq;exact call_tuple_same pl ⟨.ref p,H,I,rfl,q⟩
def PL(K:PySem.W.Frag)(T:String)(x:V)(H:Hp):Prop:=match x with
 | .str _=>T="str"
 | .int _=>T="int"
 | .ref p=>(T="list"/\∃xs,oh K H p xs)\/(T="tuple"/\∃o,K.lookup p=some o/\o.cls= .type "tuple"/\o.dict=none)\/
    (T="dict"/\((∃kvs,H p=some (.dK kvs))\/∃kvs,H p=some (.dT kvs)))\/(T="set"/\∃S n,H p=some (.set S n))
 |_=>False
def MC{pins:List (Addr×Obj)}{σ:St}{H:Hp}{s:Shared}{T:String}{x:V}{v:Value}(I:Inv X pins σ H s)(r:RelV x v)(ty:PL X.K T x H):
 s.TypeIs v T/\∀a,v= .ref a->∃ob,s.heap.get? a=some ob/\ob.dict=none:=by
 cases x with
 |str z=>
  obtain⟨t,rfl⟩:=r;cases (show T="str" from ty);exact⟨typeIs_str s z t,λ _ e=>nomatch e⟩
 |int i=>
  obtain⟨t,rfl⟩:=r;cases (show T="int" from ty);exact⟨V7 s i t,λ _ e=>nomatch e⟩
 |ref p=>
  cases r;rcases ty with⟨rfl,xs,hq⟩|⟨rfl,o,hk,hc,hd⟩|⟨rfl,hk⟩|⟨rfl,S,n,hk⟩
  . obtain⟨its,_,pl,_⟩:=I.list hq;refine⟨pl.isList.typeIs,λ a e=>?_⟩;cases e;obtain⟨o,n,e,c,hd,_⟩:=pl;exact⟨o,e,hd⟩
  . refine⟨⟨o,I.iN p o hk,hc⟩,λ a e=>?_⟩;cases e;exact⟨o,I.iN _ o hk,hd⟩
  . have z:∃o,s.heap.get? p=some o/\o.ExactDict:=by
     rcases hk with⟨kvs,hk⟩|⟨kvs,hk⟩
     . obtain⟨_,_,_,_,o,_,_,e,ex,_⟩:=I.aL p _ hk;exact⟨o,e,ex⟩
     . obtain⟨_,_,_,_,o,_,_,e,ex,_⟩:=I.aL p _ hk;exact⟨o,e,ex⟩
    obtain⟨o,e,ex⟩:=z;refine⟨⟨o,e,ex.1⟩,λ a e2=>?_⟩;cases e2;exact⟨o,e,ex.2.1⟩
  . obtain⟨o,_,_,_,e,ex,_⟩:=I.aL p _ hk;refine⟨⟨o,e,ex.1⟩,λ a e2=>?_⟩;cases e2;exact⟨o,e,ex.2.1⟩
 |_=>exact False.elim ty
def Jg(K:PySem.W.Frag)(T:String)(r:V->List V->Hp->VK->Prop)(to:TE)(t:TA):TE:=λ σ H Q=>to σ H λ x H1=>PL K T x H1/\t σ H1 λ xs H2=>r x xs H2 Q
variable {o e:Expr}{es:List Expr}{to:TE}{t:TA}{name:Str}{apos cpos:Pos}{T id:String}{r:V->List V->Hp->VK->Prop}
def Dk(pa:PlainAttrs T)(slot:Slot T name id)(hty:typeOf (.builtin id)=pure (.type "method_descriptor"))(hm:Nm X id r)(ho:PE X o to)(ha:PA X (e::es) t)
 (hbase:attributeBase o name X.env (eval o X.env)=eval o X.env:=by rfl)
 (hfew:((backTo cpos (starEach (e::es) X.env)).all (λ x=> !x.1)&&(backToKw cpos (keywordEach [] X.env)).all (λ x=>x.1.isSome)
   &&decide ((e::es).length+([]:List Keyword).length+(if([]:List Keyword).isEmpty then 0 else 1)<30))=true:=by rfl)
 (hline:(apos.endLine==cpos.line)=true:=by rfl) (hs:starEach (e::es) X.env=(false,eval e X.env)::starEach es X.env:=by rfl) (hplain:(backTo cpos (starEach es X.env)).any (·.1)=false:=by rfl):
 PE X (.Call (.Attribute o name apos) (e::es) [] cpos) (Jg X.K T r to t):=by
 intro pins s σ H Q I h;refine wpAny_Call_method_late hbase hfew hline rfl (cR (ho pins s σ H _ I h) λ v s1 ⟨x,H1,I1,r1,ty,q1⟩=>?_);obtain⟨h1,h2⟩:=MC I1 r1 ty;refine⟨T,id,pa,slot,hty,h1,h2,?_⟩;have hA:=ha cpos pins s1 σ H1 _ I1 q1;rw[hs]at hA⊢;refine Calls.callWith_builtin (by show(false||(backTo cpos (starEach es X.env)).any (·.1))=false;rw[hplain]<;>rfl) (Calls.evalArgs_plain ?_);exact cR hA λ us s2 ⟨vs,H2,I2,r2,q2⟩=>hm pins s2 σ H2 x vs v us Q I2 r1 r2 q2
/-xs.append(e),list.index on a module's tuple .. are Nm facts of 06m-/
end
def NP(X:Cx)(id:String)(r:V->List V->Hp->VK->Prop):Prop:=
 ∀(pins:List (Addr×Obj)) (s:Shared) (σ:St) (H:Hp) (x:V) (xs:List V) (v:Value) (us:List Value) (Q:VK),Inv X pins σ H s->RelV x v->Vals xs us->r x xs H Q->
  wpAny (model X.prog X.w) X.A (call (.builtin id) (v::us)) (EP X pins σ Q) X.xe s
def Vals.one:∀ {x:V} {us:List Value},Vals [x] us->∃u,us=[u]/\RelV x u
 |_,_,.cons r .nil=>⟨_,rfl,r⟩
def Vals.eraseIdx:∀ {xs:List V} {us:List Value} (i:Nat),Vals xs us->Vals (xs.eraseIdx i) (us.eraseIdx i)
 |_,_,_,.nil=> .nil
 |_,_,0,.cons _ t=>t
 |_,_,i+1,.cons r t=> .cons r (Vals.eraseIdx i t)
def Vals.rep{xs:List V}{us:List Value}(h:Vals xs us):∀k:Nat,Vals (List.replicate k xs).flatten (List.replicate k us).flatten
 |0=> .nil
 |k+1=>by
  rw[Tx,Tx,T9,T9];exact Vals.append h (Vals.rep h k)
def zd{α:Type}:∀(l:List α) (i:Nat),(l.eraseIdx i).length<=l.length
 | [],_=>Ry _
 |_::_,0=>Ut _
 |_::r,i+1=>Nat.succ_le_succ (zd r i)
def foldl_rep(its:List Value):∀(k:Nat) (acc:List Value),
 List.foldl (λ x1 x2=>x1++x2) acc.toArray (List.replicate k its.toArray)=(acc++(List.replicate k its).flatten).toArray
 |0,acc=>by simp
 |k+1,acc=>by
  have e:acc.toArray++its.toArray=(acc++its).toArray:=by simp
  have e2:(acc++its)++(List.replicate k its).flatten=acc++(List.replicate (k+1) its).flatten:=by
   rw[Tx,T9,Tw]
  rw[<-e2,<-foldl_rep its k (acc++its),<-e,Tx,List.foldl_cons]
section
variable {X:Cx}{pins:List (Addr×Obj)}{σ:St}{H:Hp}{s:Shared}{l b:Addr}{xs ys zs:List V}
def Inv.MY{its its':List Value}{n:Nat}{f:Array Value->Array Value}{t':Nat}(I:Inv X pins σ H s)(hH:H l=some (.lst xs))
 (e:s.heap.get? l=some {cls:= .type "list",data:= .seq its.toArray n}) (hf:f its.toArray=its'.toArray) (hv:Vals ys its') (hz:ys.length<=sizeLine):
 Inv X pins σ (upd H l (.lst ys)) {s with heap:=s.heap.update l (Obj.mapSeq f),toks:=t'}:=by
 have q:=PySem.IsL.update e f;rw[hf]at q;refine I.write (x:=l) (e:=l) (by rw[hH];exact trivial) (.inl rfl) (λ b' u hb hu=>(Wz s.heap (Obj.mapSeq f) (RO hb)).trans hu) ⟨_,q⟩ ?_;exact⟨hz,its',_,hv,q⟩
def Inv.HF{its:List Value}{t':Nat}(I:Inv X pins σ H s)(hv:Vals ys its)(hz:ys.length<=sizeLine):
 Inv X pins σ (upd H s.heap.objs.size (.lst ys)) {s with heap:=s.heap.push {cls:= .type "list",data:= .seq its.toArray},toks:=t'}:=
 I.laid (λ _ _ q=>RG _ q) (Ry _) ⟨hz,its,0,hv,Sa _ rfl⟩
def Inv.fresh(I:Inv X pins σ H s):H s.heap.objs.size=none:=I.aL.fresh (Ry _)
def Inv.NX(I:Inv X pins σ H s)(hH:H l=some (.lst xs)):xs.length<=sizeLine/\∃(its:List Value) (n:Nat),Vals xs its/\xs.length=its.length/\s.heap.get? l=some {cls:= .type "list",data:= .seq its.toArray n}:=by
 obtain⟨z,its,n,r,e⟩:=I.aL l _ hH;exact⟨z,its,n,r,r.length,e⟩
def HU{n:Nat}(h:n<=sizeLine):Builtin.List.listTooLong n=false:=by
 unfold Builtin.List.listTooLong;exact Su (by omega)
end
section
variable {X:Cx}
def CT:V->List V->Hp->VK->Prop:=λ x vs H Q=>∃l xs y,x= .ref l/\vs=[y]/\H l=some (.lst xs)/\xs.length<sizeLine/\Q .aF (upd H l (.lst (xs++[y])))
def yH:NP X "list.append" CT:=by
 intro pins s σ H x vs v us Q I rx rv h;obtain⟨l,xs,y,rfl,rfl,hH,hz,q⟩:=h;cases rx;obtain⟨u,rfl,ru⟩:=rv.one;obtain⟨z,its,n,r,hl,e⟩:=I.NX hH;refine UC F.slot_list_append ⟨_,e,rfl⟩ F.entry_list_append (F.args_list_append_2 _ _) (PySem.list_append l its.toArray n u (by rw[RI];omega)) ⟨e,?_⟩;refine⟨.aF,_,I.MY (its':=its++[u]) hH e (by simp) (r.append (.cons ru .nil)) ?_,rfl,q⟩;rw[SW,WL];omega
def GF:V->List V->Hp->VK->Prop:=λ x vs H Q=>∃l xs i k y,x= .ref l/\vs=[.int i]/\H l=some (.lst xs)/\ -(2^63)<=i/\i<2^63/\seqIndex? i xs.length=some k/\xs[k]?=some y/\Q y (upd H l (.lst (xs.eraseIdx k)))
def HX:NP X "list.pop" GF:=by
 intro pins s σ H x vs v us Q I rx rv h;obtain⟨l,xs,i,k,y,rfl,rfl,hH,h1,h2,hk,hy,q⟩:=h;cases rx;obtain⟨u,rfl,ru⟩:=rv.one;obtain⟨t,rfl⟩:=ru;obtain⟨z,its,n,r,hl,e⟩:=I.NX hH;obtain⟨w,hw,rw'⟩:=r.get hy
 refine UC F.slot_list_pop ⟨_,e,rfl⟩ F.entry_list_pop (F.args_list_pop_2 _ _)
  (MeetsSeq.list_pop_at l its.toArray n i t k w (fitsIndex_both h1 h2) (by rw[RI,<-hl];exact hk) (by rw[<-Vx];exact hw) (by rw[RI];omega)) ⟨e,?_⟩
 refine⟨y,_,I.MY (its':=its.eraseIdx k) hH e ?_ (r.eraseIdx k) ?_,rw',q⟩
 . show its.toArray.eraseIdxIfInBounds k=(its.eraseIdx k).toArray;rw[List.eraseIdxIfInBounds_toArray]
 . have:=zd xs k;omega
def len_rep{α:Type}(xs:List α)(k:Nat):(List.replicate k xs).flatten.length=k*xs.length:=by
 induction k with
 |zero=>simp
 |succ k ih=>rw[Tx,T9,SW,ih,We,Nat.add_comm]
end
section
variable {prog:Program}{w:World}{A:Around}{E:Value->Shared->Prop}{s:Shared}
set_option maxRecDepth 100000 in
end
section
variable {X:Cx}
end
end L2
namespace Att
open PySem PySem.W PySem.Calls PyProof.Rows
def xC{P:Params}{h:Heap}:∀(ns:List Int) (vs:List Value),WellAll P h vs (ns.map WData.int)->IntsAre vs ns:=by
 intro ns;induction ns with
 |nil=>
  intro vs w;rw[List.map_nil]at w;cases w;exact .nil
 |cons n ns ih=>
  intro vs w;rw[SM]at w;cases w with
  |cons a b=>
   cases a;exact .cons _ _ (ih _ b)
def GA{l:OpenLaw}{n:Nat}(hn:l.most=some n){P:Params}{h:Heap}{args:List WData}{vals:List Value}
 (hpre:l.row.toRowW.claim.pre args=true) (hwl:WellAll P h vals args):
 ∃a vs ns,vals=[Value.ref a]/\args=[WData.list (ns.map WData.int)]/\h.get? a=some {cls:= .type "list",data:= .seq vs.toArray}/\IntsAre vs ns/\ns.length<=n:=by
 have hsh:WShape.hasAll [] args [.list .int]=true:=(pre_splitW hpre).1;have hc:l.pre.holds [] {args:=args}=true:=(pre_splitW hpre).2;obtain⟨d,r,rfl,h1,h2⟩:=hasAllW_cons hsh;obtain rfl:=hasAllW_nil h2;obtain⟨xs,rfl,h3⟩:=hasW_list h1;obtain⟨ns,rfl⟩:=items_int h3
 have hlen:ns.length<=n:=by
  unfold OpenLaw.pre at hc
  have h4:(WTm.not (.lt (.lit (.int (n:Int))) (.len (.arg 0)))).holds [] {args:=[.list (ns.map .int)]}=true:=by
   have h4:=(holds_andW hc).1;rw[hn]at h4;exact h4
  have h5:=condW_of h4 (w_not (w_lt w_lit (w_len_list (w_arg rfl))));rw[Rw]at h5;refine TZ λ q=>?_;have q':(n:Int)<((ns.length:Nat):Int):=by omega
  first
   |(rw[SX q']at h5;exact absurd h5 (by decide))
   |(simp at h5;omega)
 cases hwl with
 |cons w1 w2=>
  cases w2;cases w1 with
  |list ho hall=>exact⟨_,_,ns,rfl,rfl,ho,xC ns _ hall,hlen⟩
def Fg(l:OpenLaw)(args:List WData):l.row.toRowW.claim.post args (.bool true) args=true:=
 postW_of (r:=l.row.toRowW) (X:=(true==true))
  (show WShape.has [] (.bool true) .bool=true by first|rfl|decide|simp[WShape.has,WShape.arms,WShape.armsAll])
  (show(WTm.eq .res (.lit (.bool true))).value [] {args:=args,res:=some (.bool true),after:=args}=some (.bool (true==true))from w_eq_bool (w_res rfl) w_lit) rfl
def BU{l:OpenLaw}{n:Nat}{q:Program}{loose:List Str}{XP:(Str->Option Value)->Heap->Prop}{YP:World->Heap->Prop}{d:DefRec}
 (hn:l.most=some n) (hdf:d.params.defaults=[])
 (call:∀(w:World) (s₀ s₁:Shared) (mg mb:Str->Option Value) (fa:Addr) (o:Obj) (pm cd doc:Value) (a:Addr) (vs:List Value) (ns:List Int),
   Ground q loose [] XP w s₀ mg mb s₁.heap->YP w s₁.heap->
   s₁.heap.get? fa=some o->o.data= .func (docDef d.name d.params d.body d.scope pm cd doc)->s₁.heap.CodeRec cd d.name->mg d.name=some (.ref fa)->
   s₁.heap.get? a=some {cls:= .type "list",data:= .seq vs.toArray}->IntsAre vs ns->ns.length<=n->s₁.gens= #[]->
   codeAny (model l.prog w) callerA (.call (.ref fa) ⟨[.ref a],[]⟩) (λ r s'=>r= .ok (.ret (.bool true))/\OldK s₁.heap s'.heap/\s'.os=s₁.os/\AllBare s'.gens) s₁):
 WalkO q loose XP YP l.row.toRowW d [] (λ f vs=>PySem.call f vs):=by
 intro w s₀ s₁ mg mb G Y fa o pm cd doc dV kV ho hd hcd hD hmg hg args vals as hpre hlay hrd hwl hlo;obtain rfl:dV= .none:=Dflts.none hD hdf;obtain rfl:kV= .none:=Dflts.noKw hD;obtain⟨a,vs,ns,rfl,rfl,hobj,hints,hlen⟩:=GA hn hpre hwl;refine enter_call (Wc (call w s₀ s₁ mg mb fa o pm cd doc a vs ns G Y ho (fd_plain hd) hcd hmg hobj hints hlen hg) λ r s' hq=>?_);obtain⟨rfl,h2,h3,h4⟩:=hq;exact⟨.inl ⟨.bool true,.bool true,[],rfl,λ _=>rfl,.bool true,Fg l _,λ _=>⟨List.Pairwise.nil,λ _ hm=>(nomatch hm)⟩⟩,h2,h3,h4⟩
section
variable {prog:Program}{w:World}{A:Around}{E:Value->Shared->Prop}{s:Shared}{K:Frag}
end
end Att
namespace L2
open PySem PySem.Spec PyProof.Rows
def jK:∀ {vs:List Value} {ns:List Int},IntsAre vs ns->Vals (ns.map V.int) vs
 |_,_,.nil=> .nil
 |_,_,.cons n t h=> .cons ⟨t,rfl⟩ (jK h)
end L2
/-THE LAST THEOREM (shape;LID,My.*are yours):
 My.Adr:a structure of the addresses that your layer names (classes,functions);My.Txt K t:a structure (Prop) of the equations over K;
 My.txt_mk:{K} {implicit addresses ..} (e1:nsIn K mainGlobals "law"=some (some (.ref f))) (e2:K.lookup f=some ⟨oc,od,.func (fnOf "law" "law" params body scope dV kV doc pm an cdv ct),sl⟩) (e3:codeIn K cdv "law"=true) .. :∃t,My.Txt K t
set_option maxRecDepth 100000 in
set_option maxHeartbeats 0 in
(the tactic k_is has no namespace:write k_is)-/
namespace L2
open PySem PySem.Spec PyProof.Rows
def inClass(s:Stmt)(j:Nat):Stmt:=match s with
 | .ClassDef _ _ _ body _ _ _ _ _ _ _=>body.getD j (.Pass ⟨0,0,0,0⟩)
 |_=> .Pass ⟨0,0,0,0⟩
def lS(s:Stmt):Arguments:=match s with
 | .FunctionDef _ a _ _ _ _ _ _ _ _=>a
 |_=>{posonlyargs:=[],args:=[],vararg:=none,kwonlyargs:=[],kw_defaults:=[],kwarg:=none,defaults:=[]}
def ir(s:Stmt):List Stmt:=match s with
 | .FunctionDef _ _ b _ _ _ _ _ _ _=>b
 |_=>[]
def ai(s:Stmt):Scope:=match s with
 | .FunctionDef _ _ _ _ _ _ sc _ _ _=>sc
 |_=>{kind:= .function,names:=[],isGenerator:=false,isCoroutine:=false}
abbrev di:vz:=λ _ _ _ _ _ _=>False
abbrev E0:XK:=λ _ _ _=>False
def EC{X:Cx}:Passes di X E0:=λ _ _ _ _ _ _ _ h=>h.elim
structure pG(K:PySem.W.Frag)(x qual:Str)(st:Stmt)(f:Addr)(fd:FuncData):Prop where
 ex:∃(oc:Value) (od:Option Addr) (kV doc pm:Value) (an:Option Addr) (cdv ct:Value) (osl:Array (Option Value)),
  fd=PySem.W.fnOf x qual (lS st) (ir st) (ai st) .none kV doc pm an cdv ct/\K.lookup f=some ⟨oc,od,.func fd,osl⟩/\PySem.W.codeIn K cdv qual=true
 kp:PySem.W.keepIn K (.ref f)=true
section
variable {P:Program}{w:World}{K:PySem.W.Frag}{mg:Str->Option Value}{base:Heap}
def pG.ok{x qual:Str}{st:Stmt}{f:Addr}{fd:FuncData}{N ps:List Str}{k:Nat}{sp:Sp}(F:pG K x qual st f fd)(S:aT N ps (ai st))(len:∀vs H Q E,sp vs H Q E->vs.length=ps.length)
 (hbody:∀(cdv:Value) (A:Around) (outer:List Env) (s:Shared) (H:Hp) (vs:List V) (Q:VK) (E:XK),du k (A.deeper (envOfC qual (ai st) s.heap.objs.size f cdv))->sp vs H Q E->
   ∃t,iO (sT di P w K mg base N qual (ai st) f cdv A outer s H E).wG (ir st) t/\t {nx:=λ _ H'=>Q .aF H',rt:=Q} (start N vs) H):cm P w K mg base di (k+1) f fd ps sp:=by
 obtain⟨oc,od,kV,doc,pm,an,cdv,ct,osl,rfl,lk,hcd⟩:=F.ex;refine IS lk hcd S len λ A outer s H vs Q E hr hsp=>?_;obtain⟨t,h,q⟩:=hbody cdv A outer s H vs Q E hr hsp;exact⟨t,h.wG,q⟩
def pG.binds{x qual:Str}{st:Stmt}{f:Addr}{fd:FuncData}{ps:List Str}(F:pG K x qual st f fd)
 (h:∀(kV doc pm:Value) (an:Option Addr) (cdv ct:Value) (us:List Value),us.length=ps.length->bindArgs (PySem.W.fnOf x qual (lS st) (ir st) (ai st) .none kV doc pm an cdv ct) ⟨us,[]⟩=pure (ps.zip us)):Binds K fd ps []:=by
 obtain⟨oc,od,kV,doc,pm,an,cdv,ct,osl,rfl,lk,hcd⟩:=F.ex;exact .all (h kV doc pm an cdv ct)
def Gb{x qual:Str}{st:Stmt}{f:Addr}{oc:Value}{od an:Option Addr}{osl:Array (Option Value)}{kV doc pm cdv ct:Value}(l:K.lookup f=some ⟨oc,od,.func (PySem.W.fnOf x qual (lS st) (ir st) (ai st) .none kV doc pm an cdv ct),osl⟩)
 (c:PySem.W.codeIn K cdv qual=true) (k:PySem.W.keepIn K (.ref f)=true):pG K x qual st f (PySem.W.fnOf x qual (lS st) (ir st) (ai st) .none kV doc pm an cdv ct):=⟨⟨oc,od,kV,doc,pm,an,cdv,ct,osl,rfl,l,c⟩,k⟩
end
section
variable {X:Cx}
end
def ik{A B:Prop}(h:A):if true=true then A else B:=by
 rw[RF rfl];exact h
def G_(H H':Hp):Prop:=∀b o,H b=some o->H' b=some o
end L2
set_option maxHeartbeats 4000000
namespace Hd
open PySem PySem.W PySem.Calls PyProof.Rows
noncomputable def bt (P:Params):BT:=(.node (boot_o_0 P) (.node (boot_o_1 P) (.node (boot_o_3 P) (.node (boot_o_7 P) .nil .nil) .nil) (.node (boot_o_5 P) (.node (boot_o_9 P) .nil .nil) .nil)) (.node (boot_o_2 P) (.node (boot_o_4 P) (.node (boot_o_8 P) .nil .nil) .nil) (.node (boot_o_6 P) (.node (boot_o_10 P) .nil .nil) .nil)))
def Ms(P:Params):absHeap (bt P) 11 (boot_heap P).life=boot_heap P:=by kernel_rfl
noncomputable def run (p:Program) (w:World) (n:Nat) (ann:Option Value):Nat->SharedT->Thread->Option SharedT
 |0,_,_=>none
 |k+1,s,t=>match through t with
  |true=>some s
  |false=>match Fast.tw6613529449190102663 n ann t with
   |false=>none
   |true=>match Fast.tw10156331382660048174 (Fast.tw11892475500146522536 Fast.tw14364793385576792824) p w s t with
    |some (s',t')=>run p w n ann k s' t'
    |none=>none
def F_{p:Program}{w:World}{n:Nat}{ann:Option Value}:∀ {k:Nat} {s s':SharedT} {t:Thread},run p w n ann k s t=some s'->topRun treeTable p w n ann k s.abs t=some s'.abs
 |0,_,_,_,h=>by cases h
 |k+1,s,s',t,h=>by
  unfold run at h;unfold topRun;cases he:through t with
  |true=>rw[he]at h;cases h;rfl
  |false=>
   rw[he]at h;rw[<-Fast.te6613529449190102663,<-Fast.te10156331382660048174,<-Fast.te11892475500146522536,<-Fast.te14364793385576792824]at h;cases hk:stepOk n ann t with
   |false=>simp only[hk]at h;cases h
   |true=>
    simp only[hk]at h;cases hs:stepT (denote treeTable) p w s t with
    |none=>rw[hs]at h;cases h
    |some r=>obtain⟨s2,t2⟩:=r;rw[hs]at h;rw[stepT_spec hs];exact F_ h
noncomputable def b0 (w:World) (os:OsState):SharedT:=⟨bt w.params,11,(boot_heap w.params).life,⟨[]⟩,boot_drawn,boot_toks,os⟩
def M1(w:World)(os:OsState):(b0 w os).abs=⟨boot_heap w.params,⟨[]⟩,boot_drawn,boot_toks,os⟩:=by
 unfold b0 SharedT.abs;dsimp only;rw[Ms]
def left{p q:Program}{loose:List Str}{α:Type}{Yf:Shared->α}{Ya:World->α}{N:Nat}
 (e:opening p=plainProg p.main.scope.names) (f:∀s,fenceModules? p s=some s) (hN:Nat.ble 600 N=true)
 (h:∀(w:World) (os:OsState),(run p w 11 (some (.ref 6)) N (b0 w os) (topStub p)).bind (λ s=>match staticsOk (importedModules p.main.body) (boot_heap w.params) s.abs.heap&&namesBound p s.abs.heap&&gensDone s.abs&&laidKept (boot_heap w.params) s.abs.heap with
   |true=>some (Fast.tw4187177175401517315 q loose (importedModules p.main.body) (λ _=>true) true s.abs,Yf s.abs)
   |false=>none)=some (openGood q loose,Ya w)):LeftO p q loose (λ _=>true) Yf Ya N:=λ w=>by
 obtain⟨⟨hp,gs,d,k,os⟩,e1,e2⟩:=WA.mp (boot_open e hN f w);obtain⟨rfl,rfl,rfl,rfl⟩:hp=boot_heap w.params/\gs=⟨[]⟩/\d=boot_drawn/\k=boot_toks:=by simpa using e2
 obtain⟨s,r1,r2⟩:=Option.bind_eq_some_iff.mp (h w os);have r3:=F_ r1;rw[M1]at r3;rw[<-Fast.te4187177175401517315]at r2;unfold openEnds;rw[e1];show(topFrom treeTable p w N _).map _=_;unfold topFrom;rw[show((boot_heap w.params).isNs mainGlobals&&(⟨[]⟩:Array GenState).size==0)=true from by kernel_rfl];dsimp only;rw[show(boot_heap w.params).objs.size=11 from by kernel_rfl,show(boot_heap w.params).nsMap mainGlobals "__annotations__"=some (.ref 6)from by kernel_rfl,r3];show((match staticsOk (importedModules p.main.body) (boot_heap w.params) s.abs.heap&&namesBound p s.abs.heap&&gensDone s.abs&&laidKept (boot_heap w.params) s.abs.heap with|true=>some s.abs|false=>none):Option Shared).map _=_;cases z:(staticsOk (importedModules p.main.body) (boot_heap w.params) s.abs.heap&&namesBound p s.abs.heap&&gensDone s.abs&&laidKept (boot_heap w.params) s.abs.heap)with
 |false=>rw[z]at r2;cases r2
 |true=>rw[z]at r2;exact r2
abbrev e(x:Str)(t:Nat)(v:Value):Str×Nat×Value:=(x,t,v)
abbrev k(a:Addr)(o:Obj):Addr×Obj:=(a,o)
def no(P:Params)(n:Nat)(l:List (Str×Nat×Value)):Obj:=⟨.type "dict",none,.dict (l.map λ e=>⟨PyData.keyHash P e.1,.str e.1 e.2.1,e.2.2⟩).toArray n,#[]⟩
def fd(st:Stmt)(x q:Str)(pm:Value)(c:Addr):FuncData:=fnOf x q (L2.lS st) (L2.ir st) (L2.ai st) .none .none .none pm none (.ref c) .none
def fq(st:Stmt)(x q:Str)(pm:Value)(c:Addr):Obj:=⟨.type "function",none,.func (fd st x q pm c),#[]⟩
def co(x q:Str)(t:Nat)(line argc:Int)(a b:Addr)(u v:Value)(d:Addr)(i:Int)(z:Nat):Obj:=⟨.type "code",none,.fields #[.str x t,.str q (t+1),.str "/claim/cut.py" (t+2),.int line 0,.int argc 0,.int 0 0,.int 0 0,.int 3 0,.ref a,.bool true,.int 181 0,.ref b,.none,u,v,.ref d,.int i 0,.int line 0,.str "/claim/cut.py" z],#[]⟩
end Hd
namespace Row
open PySem L2
open PySem.Spec hiding items?
open PyProof.Rows hiding St
def top(i:Nat):Stmt:=PySem.Challenge.pw_latticeworks_k51_all_answers.main.body.getD i (.Pass ⟨0,0,0,0⟩)
abbrev PW:Program:=PySem.Challenge.pw_latticeworks_k51_all_answers
abbrev jN:Stmt:=top 9
abbrev nj:Stmt:=top 10
abbrev nF:Stmt:=top 11
abbrev lI:Stmt:=top 12
abbrev fZ:Stmt:=top 13
abbrev i7:Stmt:=top 14
abbrev g_:Stmt:=top 15
abbrev lO:Stmt:=top 17
abbrev fo:Stmt:=top 18
abbrev jw:Stmt:=top 19
abbrev jO:Stmt:=top 20
abbrev dG:Stmt:=inClass (top 21) 0
abbrev iK:Stmt:=inClass (top 21) 1
abbrev fO:Stmt:=inClass (top 21) 2
abbrev eZ:Stmt:=inClass (top 21) 3
abbrev dU:Stmt:=inClass (top 21) 4
abbrev gv:Stmt:=inClass (top 21) 5
abbrev e_:Stmt:=inClass (top 21) 6
abbrev j8:Stmt:=top 22
abbrev lJ:Stmt:=top 23
abbrev pD:Stmt:=top 24
abbrev gw:Stmt:=top 30
abbrev lP:Stmt:=top 31
abbrev ku:Stmt:=top 33
abbrev ka:Stmt:=top 34
abbrev jY:Stmt:=top 35
abbrev iY:Stmt:=top 36
abbrev fH:Stmt:=top 37
abbrev dQ:Stmt:=top 38
abbrev i6:Stmt:=top 39
abbrev ju:Stmt:=top 40
abbrev fM:Stmt:=top 41
abbrev i3:Stmt:=top 43
abbrev fX:Stmt:=top 42
abbrev gj:Stmt:=top 44
abbrev iF:Stmt:=top 45
abbrev gF:Stmt:=top 46
abbrev gy:Stmt:=top 47
abbrev ie:Stmt:=top 48
abbrev dY:Stmt:=top 49
abbrev fY:Stmt:=top 50
abbrev jq:Stmt:=top 51
abbrev jE:Stmt:=top 52
def kR:Value:=(.str "latticeworks.rows" 248)
def fh:Value:=(.str "latticeworks.standing" 298)
def CK:Value:=(.str "latticeworks.answers" 485)
def c6:Value:=(.str "law_latticeworks_k51_all_answers" 510)
def KX(P:Params):PySem.W.Frag:=[Hd.k 3 (Hd.no P 56 [Hd.e "__name__" 165 (.str "law_latticeworks_k51_all_answers" 510),Hd.e "__doc__" 166 .none,Hd.e "__package__" 167 .none,Hd.e "__loader__" 168 (.builtin "__main__.__loader__#opaque"),Hd.e "__spec__" 169 .none,Hd.e "__annotations__" 170 (.ref 6),Hd.e "__builtins__" 171 (.ref 4),Hd.e "__file__" 173 (.str "/claim/cut.py" 172),Hd.e "__cached__" 174 .none,Hd.e "common" 199 (.ref 21),Hd.e "part" 208 (.ref 28),Hd.e "plus" 216 (.ref 35),Hd.e "minus" 224 (.ref 42),Hd.e "times" 232 (.ref 49),Hd.e "over" 240 (.ref 56),Hd.e "whole" 247 (.ref 63),Hd.e "as_rows" 255 (.ref 68),Hd.e "added" 261 (.ref 73),Hd.e "sum_by" 273 (.ref 80),Hd.e "column" 279 (.ref 85),Hd.e "turned_over" 285 (.ref 90),Hd.e "unit_row" 291 (.ref 95),Hd.e "unit_rows" 297 (.ref 100),Hd.e "lead_of" 308 (.ref 107),Hd.e "nearest_quotient" 316 (.ref 114),Hd.e "exchanged" 326 (.ref 121),Hd.e "negated" 332 (.ref 126),Hd.e "Bench" 416 (.ref 181),Hd.e "standing" 427 (.ref 192),Hd.e "weighed" 440 (.ref 199),Hd.e "falls" 448 (.ref 206),Hd.e "parts_dot" 461 (.ref 213),Hd.e "bottom_at" 471 (.ref 220),Hd.e "parts_against" 484 (.ref 227),Hd.e "steps_behind" 494 (.ref 234),Hd.e "answers" 509 (.ref 241),Hd.e "_law_hand" 520 (.ref 248),Hd.e "_law_take" 531 (.ref 255),Hd.e "_law_dot" 537 (.ref 260),Hd.e "_law_less" 543 (.ref 265),Hd.e "_law_led" 549 (.ref 270),Hd.e "_law_standing" 555 (.ref 275),Hd.e "_law_rest" 561 (.ref 280),Hd.e "_law_whole" 568 (.ref 287),Hd.e "_law_are_rows" 574 (.ref 292),Hd.e "_law_product" 580 (.ref 297),Hd.e "_law_over" 586 (.ref 302),Hd.e "_law_turn" 592 (.ref 307),Hd.e "_law_bounds" 601 (.ref 314),Hd.e "_law_fixing" 607 (.ref 319),Hd.e "_law_shuffled" 617 (.ref 326),Hd.e "_law_number" 625 (.ref 333),Hd.e "_law_equations" 631 (.ref 338),Hd.e "_law_is_turn" 637 (.ref 343),Hd.e "_law_right" 650 (.ref 350),Hd.e "law" 656 (.ref 355)]),
 Hd.k 67 (Hd.co "as_rows" "as_rows" 250 26 1 64 65 .none .none 66 253 254),
 Hd.k 68 (Hd.fq jN "as_rows" "as_rows" kR 67),
 Hd.k 72 (Hd.co "added" "added" 256 28 3 69 70 .none .none 71 259 260),
 Hd.k 73 (Hd.fq nj "added" "added" kR 72),
 Hd.k 79 (Hd.co "sum_by" "sum_by" 262 30 3 74 75 (.ref 76) (.ref 77) 78 271 272),
 Hd.k 80 (Hd.fq nF "sum_by" "sum_by" kR 79),
 Hd.k 84 (Hd.co "column" "column" 274 35 2 81 82 .none .none 83 277 278),
 Hd.k 85 (Hd.fq lI "column" "column" kR 84),
 Hd.k 89 (Hd.co "turned_over" "turned_over" 280 37 2 86 87 .none .none 88 283 284),
 Hd.k 90 (Hd.fq fZ "turned_over" "turned_over" kR 89),
 Hd.k 94 (Hd.co "unit_row" "unit_row" 286 39 2 91 92 .none .none 93 289 290),
 Hd.k 95 (Hd.fq i7 "unit_row" "unit_row" kR 94),
 Hd.k 99 (Hd.co "unit_rows" "unit_rows" 292 41 1 96 97 .none .none 98 295 296),
 Hd.k 100 (Hd.fq g_ "unit_rows" "unit_rows" kR 99),
 Hd.k 106 (Hd.co "lead_of" "lead_of" 300 44 1 101 102 (.ref 103) (.ref 104) 105 306 307),
 Hd.k 107 (Hd.fq lO "lead_of" "lead_of" fh 106),
 Hd.k 113 (Hd.co "nearest_quotient" "nearest_quotient" 309 49 2 108 109 (.ref 110) (.ref 111) 112 314 315),
 Hd.k 114 (Hd.fq fo "nearest_quotient" "nearest_quotient" fh 113),
 Hd.k 120 (Hd.co "exchanged" "exchanged" 317 51 3 115 116 (.ref 117) (.ref 118) 119 324 325),
 Hd.k 121 (Hd.fq jw "exchanged" "exchanged" fh 120),
 Hd.k 125 (Hd.co "negated" "negated" 327 56 1 122 123 .none .none 124 330 331),
 Hd.k 126 (Hd.fq jO "negated" "negated" fh 125),
 Hd.k 137 (Hd.co "__init__" "Bench.__init__" 345 60 2 134 135 .none .none 136 348 349),
 Hd.k 138 (Hd.fq dG "__init__" "Bench.__init__" fh 137),
 Hd.k 144 (Hd.co "take" "Bench.take" 351 65 4 139 140 (.ref 141) (.ref 142) 143 358 359),
 Hd.k 145 (Hd.fq iK "take" "Bench.take" fh 144),
 Hd.k 151 (Hd.co "exchange" "Bench.exchange" 361 70 3 146 147 (.ref 148) (.ref 149) 150 367 368),
 Hd.k 152 (Hd.fq fO "exchange" "Bench.exchange" fh 151),
 Hd.k 158 (Hd.co "change_sign" "Bench.change_sign" 370 75 2 153 154 (.ref 155) (.ref 156) 157 375 376),
 Hd.k 159 (Hd.fq eZ "change_sign" "Bench.change_sign" fh 158),
 Hd.k 163 (Hd.co "live_rows" "Bench.live_rows" 378 80 3 160 161 .none .none 162 381 382),
 Hd.k 164 (Hd.fq dU "live_rows" "Bench.live_rows" fh 163),
 Hd.k 170 (Hd.co "gather" "Bench.gather" 384 84 3 165 166 (.ref 167) (.ref 168) 169 393 394),
 Hd.k 171 (Hd.fq gv "gather" "Bench.gather" fh 170),
 Hd.k 177 (Hd.co "lower_above" "Bench.lower_above" 396 98 3 172 173 (.ref 174) (.ref 175) 176 403 404),
 Hd.k 178 (Hd.fq e_ "lower_above" "Bench.lower_above" fh 177),
 Hd.k 180 (Hd.no P 4 [Hd.e "__module__" 340 (.str "latticeworks.standing" 298),Hd.e "__firstlineno__" 344 (.int (58) 343),Hd.e "__init__" 350 (.ref 138),Hd.e "take" 360 (.ref 145),Hd.e "exchange" 369 (.ref 152),Hd.e "change_sign" 377 (.ref 159),Hd.e "live_rows" 383 (.ref 164),Hd.e "gather" 395 (.ref 171),Hd.e "lower_above" 405 (.ref 178),Hd.e "__static_attributes__" 409 (.ref 179),Hd.e "__dict__" 411 (.ref 182),Hd.e "__weakref__" 413 (.ref 183),Hd.e "__doc__" 414 .none]),
 Hd.k 181 (⟨(.type "type"),none,.cls {name:="Bench",bases:=[(.type "object")],mro:=[(.ref 181),(.type "object")],ns:=180,qualname:="Bench",hasDict:=true,subclasses:=[],abstract:=false,hasDel:=false},#[none,none,(some (.str "Bench" 333)),(some (.str "Bench" 341)),(some (.builtin "object.__new__")),(some (.bool true))]⟩),
 Hd.k 191 (Hd.co "standing" "standing" 417 101 1 186 187 (.ref 188) (.ref 189) 190 425 426),
 Hd.k 192 (Hd.fq j8 "standing" "standing" fh 191),
 Hd.k 198 (Hd.co "weighed" "weighed" 428 110 2 193 194 (.ref 195) (.ref 196) 197 438 439),
 Hd.k 199 (Hd.fq lJ "weighed" "weighed" fh 198),
 Hd.k 205 (Hd.co "falls" "falls" 441 119 2 200 201 (.ref 202) (.ref 203) 204 446 447),
 Hd.k 206 (Hd.fq pD "falls" "falls" fh 205),
 Hd.k 233 (Hd.co "steps_behind" "steps_behind" 487 143 2 228 229 (.ref 230) (.ref 231) 232 492 493),
 Hd.k 234 (Hd.fq gw "steps_behind" "steps_behind" CK 233),
 Hd.k 240 (Hd.co "answers" "answers" 495 145 2 235 236 (.ref 237) (.ref 238) 239 507 508),
 Hd.k 241 (Hd.fq lP "answers" "answers" CK 240),
 Hd.k 247 (Hd.co "_law_hand" "_law_hand" 512 157 1 242 243 (.ref 244) (.ref 245) 246 518 519),
 Hd.k 248 (Hd.fq ku "_law_hand" "_law_hand" c6 247),
 Hd.k 254 (Hd.co "_law_take" "_law_take" 521 161 2 249 250 (.ref 251) (.ref 252) 253 529 530),
 Hd.k 255 (Hd.fq ka "_law_take" "_law_take" c6 254),
 Hd.k 259 (Hd.co "_law_dot" "_law_dot" 532 170 2 256 257 .none .none 258 535 536),
 Hd.k 260 (Hd.fq jY "_law_dot" "_law_dot" c6 259),
 Hd.k 264 (Hd.co "_law_less" "_law_less" 538 172 3 261 262 .none .none 263 541 542),
 Hd.k 265 (Hd.fq iY "_law_less" "_law_less" c6 264),
 Hd.k 269 (Hd.co "_law_led" "_law_led" 544 174 2 266 267 .none .none 268 547 548),
 Hd.k 270 (Hd.fq fH "_law_led" "_law_led" c6 269),
 Hd.k 274 (Hd.co "_law_standing" "_law_standing" 550 184 2 271 272 .none .none 273 553 554),
 Hd.k 275 (Hd.fq dQ "_law_standing" "_law_standing" c6 274),
 Hd.k 279 (Hd.co "_law_rest" "_law_rest" 556 194 2 276 277 .none .none 278 559 560),
 Hd.k 280 (Hd.fq i6 "_law_rest" "_law_rest" c6 279),
 Hd.k 286 (Hd.co "_law_whole" "_law_whole" 562 200 1 281 282 (.ref 283) (.ref 284) 285 566 567),
 Hd.k 287 (Hd.fq ju "_law_whole" "_law_whole" c6 286),
 Hd.k 291 (Hd.co "_law_are_rows" "_law_are_rows" 569 202 3 288 289 .none .none 290 572 573),
 Hd.k 292 (Hd.fq fM "_law_are_rows" "_law_are_rows" c6 291),
 Hd.k 296 (Hd.co "_law_product" "_law_product" 575 209 2 293 294 .none .none 295 578 579),
 Hd.k 297 (Hd.fq fX "_law_product" "_law_product" c6 296),
 Hd.k 301 (Hd.co "_law_over" "_law_over" 581 211 1 298 299 .none .none 300 584 585),
 Hd.k 302 (Hd.fq i3 "_law_over" "_law_over" c6 301),
 Hd.k 306 (Hd.co "_law_turn" "_law_turn" 587 213 2 303 304 .none .none 305 590 591),
 Hd.k 307 (Hd.fq gj "_law_turn" "_law_turn" c6 306),
 Hd.k 313 (Hd.co "_law_bounds" "_law_bounds" 593 224 1 308 309 (.ref 310) (.ref 311) 312 599 600),
 Hd.k 314 (Hd.fq iF "_law_bounds" "_law_bounds" c6 313),
 Hd.k 318 (Hd.co "_law_fixing" "_law_fixing" 602 228 3 315 316 .none .none 317 605 606),
 Hd.k 319 (Hd.fq gF "_law_fixing" "_law_fixing" c6 318),
 Hd.k 325 (Hd.co "_law_shuffled" "_law_shuffled" 608 236 2 320 321 (.ref 322) (.ref 323) 324 615 616),
 Hd.k 326 (Hd.fq gy "_law_shuffled" "_law_shuffled" c6 325),
 Hd.k 332 (Hd.co "_law_number" "_law_number" 618 242 1 327 328 (.ref 329) (.ref 330) 331 623 624),
 Hd.k 333 (Hd.fq ie "_law_number" "_law_number" c6 332),
 Hd.k 337 (Hd.co "_law_equations" "_law_equations" 626 247 1 334 335 .none .none 336 629 630),
 Hd.k 338 (Hd.fq dY "_law_equations" "_law_equations" c6 337),
 Hd.k 342 (Hd.co "_law_is_turn" "_law_is_turn" 632 256 3 339 340 .none .none 341 635 636),
 Hd.k 343 (Hd.fq fY "_law_is_turn" "_law_is_turn" c6 342),
 Hd.k 349 (Hd.co "_law_right" "_law_right" 638 260 4 344 345 (.ref 346) (.ref 347) 348 648 649),
 Hd.k 350 (Hd.fq jq "_law_right" "_law_right" c6 349),
 Hd.k 354 (Hd.co "law" "law" 651 271 1 351 352 .none .none 353 654 655),
 Hd.k 355 (Hd.fq jE "law" "law" c6 354)]
def KA:List Addr:=[3,67,68,72,73,79,80,84,85,89,90,94,95,99,100,106,107,113,114,120,121,125,126,137,138,144,145,151,152,158,159,163,164,170,171,177,178,180,181,191,192,198,199,205,206,233,234,240,241,247,248,254,255,259,260,264,265,269,270,274,275,279,280,286,287,291,292,296,297,301,302,306,307,313,314,318,319,325,326,332,333,337,338,342,343,349,350,354,355]
set_option maxHeartbeats 0 in
def left:PySem.W.LeftO PW (PySem.W.view PW [1,2,3,4,5,6,7,9,10,11,12,13,14,15,17,18,19,20,21,22,23,24,26,27,28,30,31,33,34,35,36,37,38,39,40,41,42,43,44,45,46,47,48,49,50,51,52]) [] (λ _=>true) (PySem.W.kmHook Row.KX Row.KA (λ _=>rfl) [161]).obs (PySem.W.kmHook Row.KX Row.KA (λ _=>rfl) [161]).val 3760:=
 Hd.left (by kernel_rfl) (λ s=>by kernel_rfl) rfl λ w os=>by kernel_rfl
end Row
namespace L3
open PySem PySem.Spec PyProof.Rows L2
section
variable {prog:Program}{w:World}{A:Around}{R:Result->Shared->Prop}{s:Shared}
def Cf{elt target iter:Expr}{ifs:List Expr}{scope:Scope}{pos:Pos}{it acc:Value}{env:Env}(I:Nat->Shared->Prop)
 (turn:∀n s,I n s->wpAny (model prog w) A (pyNext it) (λ r s₁=>match r with
   |none=>R (.ok .next) s₁
   |some v=>wpAny (model prog w) A (letOwnedTupleGo target it v) (λ _ s₀=>wpAny (model prog w) A (assign target env v) (λ _ s₂=>
     wpAny (model prog w) A (forIn ifs true λ c r=>if r=true then do let ok <-isTrue c env (eval c env);pure (ForInStep.yield ok)else pure (ForInStep.yield r)) (λ ok s₃=>
      if ok=true then wpAny (model prog w) A (eval elt env) (λ x s₄=>
       wpAny (model prog w) A (call (.builtin "list.append") [acc,x]) (λ _ s₅=>∃m,m<n/\I m s₅) (λ _ _=>False) s₄) (λ _ _=>False) s₃
      else∃m,m<n/\I m s₃) (λ _ _=>False) s₂) (λ _ _=>False) s₀) (λ _ _=>False) s₁) (λ _ _=>False) s)
 (n:Nat) (h:I n s):
 codeAny (model prog w) A (.compLoop (.ListComp elt [⟨target,iter,ifs,0⟩] scope pos) 0 it acc env) R s:=by
 refine codeAny_loop rfl I (λ n s hI=>?_) n h;show wpAny _ A ((compTurn (.ListComp elt [⟨target,iter,ifs,0⟩] scope pos) 0 it acc env).onRaise (λ x=>do noteFrame x env;theTreesLotGoes x)) _ _ s;refine wpAny_noted ?_;rw[compTurn_list];refine Rz (V1 (Rz (TY (turn n s hI) (λ r s₁ h₁=>?_) λ _ _ h'=>h'.elim)));cases r with
 |none=>exact RP h₁
 |some v=>
  refine Rz (TY h₁ (λ _ s₀ h₀=>?_) λ _ _ h'=>h'.elim);refine Rz (TY h₀ (λ _ s₂ h₂=>Rz (TY h₂ (λ ok s₃ h₃=>?_) λ _ _ h'=>h'.elim)) λ _ _ h'=>h'.elim);cases ok with
  |false=>exact RP ⟨rfl,h₃⟩
  |true=>
   exact Rz (Rz (TY h₃ (λ x s₄ h₄=>Rz (TY h₄ (λ _ s₅ h₅=>RP (RP ⟨rfl,h₅⟩)) λ _ _ h'=>h'.elim)) λ _ _ h'=>h'.elim))
end
def eh(cells:List (Str×Addr)):List (Str×NameKind)->List (Str×Addr)->List (Str×Addr)
 | [],acc=>acc
 |(n,k)::r,acc=>if k== .free then(match cells.lookup n with|some c=>eh cells r ((n,c)::acc)|none=>eh cells r acc)else eh cells r acc
def dH{cells:List (Str×Addr)}:∀(names:List (Str×NameKind)) (acc:List (Str×Addr)),(∀x c,acc.lookup x=some c->cells.lookup x=some c)->
 ∀x c,(eh cells names acc).lookup x=some c->cells.lookup x=some c
 | [],acc,h,x,c,e=>h x c e
 |(n,k)::r,acc,h,x,c,e=>by
  unfold eh at e;split at e
  . split at e
    . rename_i d q;refine dH r _ (λ y b e'=>?_) x c e;rw[Sz]at e';split at e'
      . rename_i z;cases e';have z':y=n:=by simpa using z
        rw[z'];exact q
      . exact h y b e'
    . exact dH r _ h x c e
  . exact dH r _ h x c e
def jI{cells:List (Str×Addr)}{x:Str}:∀(names:List (Str×NameKind)) (acc:List (Str×Addr)),(∃c,cells.lookup x=some c)->((x,NameKind.free)∈names\/∃c,acc.lookup x=some c)->
 ∃c,(eh cells names acc).lookup x=some c
 | [],acc,_,h=>by
   rcases h with h|h
   . simp at h
   . exact h
 |(n,k)::r,acc,hc,h=>by
  unfold eh;split
  . rename_i hk;split
    . rename_i d q;refine jI r _ hc ?_;rcases h with h|⟨c,h⟩
      . rcases RU.mp h with e|e
        . cases e;exact .inr ⟨d,by simp[Sz]⟩
        . exact .inl e
      . refine .inr ?_;rw[Sz];split
        . exact⟨_,rfl⟩
        . exact⟨c,h⟩
    . rename_i q;refine jI r _ hc ?_;rcases h with h|h
      . rcases RU.mp h with e|e
        . cases e;obtain⟨c,hc⟩:=hc;rw[hc]at q;cases q
        . exact .inl e
      . exact .inr h
  . rename_i hk;refine jI r _ hc ?_;rcases h with h|h
    . rcases RU.mp h with e|e
      . cases e;exact absurd rfl hk
      . exact .inl e
    . exact .inr h
def oB{scope:Scope}{env:Env}(h:∀x∈scope.names,x.2= .free->∃c,env.cells.lookup x.1=some c):closureFor scope env=pure (eh env.cells scope.names []):=by
 have key:∀(names:List (Str×NameKind)) (acc:List (Str×Addr)),(∀x∈names,x.2= .free->∃c,env.cells.lookup x.1=some c)->
  (forIn names acc (λ(x:Str×NameKind) (cs:List (Str×Addr))=>if(x.2==NameKind.free)=true then(do let a <-cellOf env x.1;pure (ForInStep.yield ((x.1,a)::cs)):Sem (ForInStep (List (Str×Addr))))else pure (ForInStep.yield cs)))=(pure (eh env.cells names acc):Sem (List (Str×Addr))):=by
  intro names;induction names with
  |nil=>intro acc _;rfl
  |cons p r ih=>
   intro acc hh;obtain⟨n,k⟩:=p;rw[Ws];have ih':=ih;by_cases hk:(k==NameKind.free)=true
   . obtain⟨c,e⟩:=hh (n,k) R7 (by simpa using hk);simp only[hk,Ul]
     have e1:cellOf env n=pure c:=by
      unfold cellOf;rw[e]
     rw[e1];simp only[pure_bind];rw[ih _ λ x hx=>hh x (R8 _ hx)];conv=>rhs;unfold eh
     simp only[hk,Ul];rw[show env.cells.lookup n=some c from e]
   . have hk':(k==NameKind.free)=false:=by simpa using hk
     simp only[hk',Tf,Ub,pure_bind];rw[ih _ λ x hx=>hh x (R8 _ hx)];conv=>rhs;unfold eh
     simp only[hk',Tf,Ub]
 unfold closureFor;have:=key scope.names [] h;rw[bind_pure]
 first
  |exact this
  |(simp only[bind_pure]at this⊢;exact this)
end L3
namespace L3
open PySem PySem.Spec L2
open PyProof.Rows hiding St
def j4(env:Env):∀(names:List (Str×NameKind)) (x:Str),
 (names.map λ(n,k)=>if(k==NameKind.free&&env.scope.kind== .function&&env.kindOf n==some .cell)then(n,NameKind.cell)else(n,k)).lookup x=
   (names.lookup x).map λ k=>if(k==NameKind.free&&env.scope.kind== .function&&env.kindOf x==some .cell)then NameKind.cell else k
 | [],_=>rfl
 |(n,k)::r,x=>by
  show List.lookup x ((if(k==NameKind.free&&env.scope.kind== .function&&env.kindOf n==some .cell)=true then(n,NameKind.cell)else(n,k))::_)=_;cases hx:x==n with
  |true=>
   have e:x=n:=by simpa using hx
   subst e;by_cases hc:(k==NameKind.free&&env.scope.kind== .function&&env.kindOf x==some .cell)=true
   . rw[RF hc];simp only[Sz,Vw,UD];rw[RF hc]
   . rw[RE hc];simp only[Sz,Vw,UD];rw[RE hc]
  |false=>
   by_cases hc:(k==NameKind.free&&env.scope.kind== .function&&env.kindOf n==some .cell)=true
   . rw[RF hc];simp only[Sz,hx];exact j4 env r x
   . rw[RE hc];simp only[Sz,hx];exact j4 env r x
def BH{env:Env}{scope:Scope}{x:Str}(h:scope.names.lookup x=some .free):(relabel scope env).names.lookup x=some .cell\/(relabel scope env).names.lookup x=some .free:=by
 have e:(relabel scope env).names.lookup x=_:=j4 env scope.names x;rw[e,h];simp only[UD];split
 . exact .inl rfl
 . exact .inr rfl
def AV{env:Env}{scope:Scope}{x:Str}(h:(relabel scope env).names.lookup x=some .cell\/(relabel scope env).names.lookup x=some .free):(x,NameKind.free)∈scope.names\/scope.names.lookup x=some .cell:=by
 have e:(relabel scope env).names.lookup x=_:=j4 env scope.names x;rw[e]at h;cases q:scope.names.lookup x with
 |none=>rw[q]at h;rcases h with h|h<;>cases h
 |some k=>
  rw[q]at h;simp only[UD]at h;have m:=SF q;by_cases hc:(k==NameKind.free&&env.scope.kind== .function&&env.kindOf x==some .cell)=true
  . have:k= .free:=by
     simp only[SV]at hc;simpa using hc.1.1
    subst this;exact .inl m
  . rw[RE hc]at h;rcases h with h|h
    . cases h;exact .inr rfl
    . cases h;exact .inl m
def g5:∀(names:List (Str×NameKind)) (L:Nat) (acc:List (Str×Addr)),cellsFrom L names acc=cellsFrom L names []++acc
 | [],_,_=>rfl
 |(n,k)::r,L,acc=>by
  unfold cellsFrom;by_cases hk:(k==NameKind.cell)=true
  . rw[RF hk,RF hk,g5 r (L+1) ((n,L)::acc),g5 r (L+1) [(n,L)],Tw];rfl
  . rw[RE hk,RE hk];exact g5 r L acc
def tP:∀ {names:List (Str×NameKind)} {L:Nat} {x:Str} {c:Addr},(x,c)∈cellsFrom L names []->(x,NameKind.cell)∈names
 | [],_,_,_,h=>by unfold cellsFrom at h;cases h
 |(n,k)::r,L,x,c,h=>by
  unfold cellsFrom at h;by_cases hk:(k==NameKind.cell)=true
  . rw[RF hk,g5]at h;have hk':k= .cell:=by simpa using hk
    subst hk';rcases RX.mp h with h|h
    . exact R8 _ (tP h)
    . have:(x,c)=(n,L):=by simpa using h
      cases this;exact R7
  . rw[RE hk]at h;exact R8 _ (tP h)
def sI:∀ {l1 l2:List (Str×Addr)} {x:Str} {c:Addr},(l1++l2).lookup x=some c->l1.lookup x=some c\/(l1.lookup x=none/\l2.lookup x=some c)
 | [],_,_,_,h=> .inr ⟨rfl,h⟩
 |(n,d)::l1,l2,x,c,h=>by
  rw[Wh,Sz]at h;rw[Sz];cases hx:x==n with
  |true=>rw[hx]at h;exact .inl h
  |false=>rw[hx]at h;exact sI h
def vt:∀ {l1 l2:List (Str×Addr)} {x:Str},l1.lookup x=none->(l1++l2).lookup x=l2.lookup x
 | [],_,_,_=>rfl
 |(n,d)::l1,l2,x,h=>by
  rw[Sz]at h;rw[Wh,Sz];cases hx:x==n with
  |true=>rw[hx]at h;cases h
  |false=>rw[hx]at h;exact vt h
def oq(scope:Scope)(C:Addr)(cl:List (Str×Addr)):List (Str×Addr):=cellsFrom (C+1) scope.names cl
def jM{scope:Scope}{C:Addr}{cl:List (Str×Addr)}{x:Str}{c:Addr}(h:(oq scope C cl).lookup x=some c):(x,c)∈cellsFrom (C+1) scope.names []\/cl.lookup x=some c:=by
 unfold oq at h;rw[g5]at h;rcases sI h with h|h
 . exact .inl (SF h)
 . exact .inr h.2
def MI(names:List (Str×NameKind))(h:Heap){C:Addr}(e:h.objs.size=C+1):CellsOk (pushCells h names) (C+1) (cellsFrom (C+1) names []):=by
 have:=cellsFrom_ok names h (C+1) [] ⟨λ _ _ hm=>(nomatch hm),List.Pairwise.nil⟩ (by rw[e];exact Ry _);rw[e]at this;exact this
def pX{names:List (Str×NameKind)}{C:Addr}{x:Str}{c:Addr}:∀ {L:Nat},C<=L->(x,c)∈cellsFrom L names []->C<=c:=by
 induction names with
 |nil=>intro L _ h;unfold cellsFrom at h;cases h
 |cons p r ih=>
  obtain⟨n,k⟩:=p;intro L hL h;unfold cellsFrom at h;by_cases hk:(k==NameKind.cell)=true
  . rw[RF hk,g5]at h;rcases RX.mp h with h|h
    . exact ih (RD hL (Ut L)) h
    . have:(x,c)=(n,L):=by simpa using h
      cases this;exact hL
  . rw[RE hk]at h;exact ih hL h
def own_apart{names:List (Str×NameKind)}{x y:Str}{c:Addr}:∀ {L:Nat},(x,c)∈cellsFrom L names []->(y,c)∈cellsFrom L names []->x=y:=by
 induction names with
 |nil=>intro L h;unfold cellsFrom at h;cases h
 |cons p r ih=>
  obtain⟨n,k⟩:=p;intro L h1 h2;unfold cellsFrom at h1 h2;by_cases hk:(k==NameKind.cell)=true
  . rw[RF hk,g5]at h1 h2;rcases RX.mp h1 with g1|g1<;>rcases RX.mp h2 with g2|g2
    . exact ih g1 g2
    . have e2:(y,c)=(n,L):=by simpa using g2
      have ec:c=L:=(WB e2).2;have:=pX (C:=L+1) (Ry _) g1;rw[ec]at this;exact absurd this (Nat.not_succ_le_self _)
    . have e1:(x,c)=(n,L):=by simpa using g1
      have ec:c=L:=(WB e1).2;have:=pX (C:=L+1) (Ry _) g2;rw[ec]at this;exact absurd this (Nat.not_succ_le_self _)
    . have e1:(x,c)=(n,L):=by simpa using g1
      have e2:(y,c)=(n,L):=by simpa using g2
      exact(WB e1).1.trans (WB e2).1.symm
  . rw[RE hk]at h1 h2;exact ih h1 h2
def vZ{M:Model}{A:Around}{E:Value->Shared->Prop}{s:Shared}{scope:Scope}{globals:Addr}{cl:List (Str×Addr)}{qual:Str}{env:Env}{Q:Env->Shared->Prop}
 (hQ:Q (newEnv scope s.heap.objs.size globals (oq scope s.heap.objs.size cl) qual none .none (some env) builtinsNs) {s with heap:=pushCells (s.heap.push {cls:= .type "dict",data:= .dict #[]}) scope.names}):
 wpAny M A (newFunctionEnv scope globals cl [] qual none .none (some env)) Q E s:=by
 simp only[newFunctionEnv,Option.isSome_some,Ul];refine Rz (wpAny_alloc ?_);refine Rz (wpAny_layCells _ (λ name kind cells=>by cases hkc:kind==NameKind.cell<;>simp[hkc]) _ _ _ _ ?_);rw[show({s with heap:=s.heap.push {cls:= .type "dict",data:= .dict #[]}}:Shared).heap.objs.size=s.heap.objs.size+1 from S_ ..];rw[WM];exact Rz (RP (RP hQ))
structure aO(X:Cx)(scope:Scope)(Nc:List Str)(fr:List (Option Nat)):Prop where
 kind:scope.kind= .function
 cells:∀x∈scope.names,x.2= .cell->scope.names.lookup x.1=some .cell
 names:∀x∈scope.names,x.2= .local->scope.names.lookup x.1=some .local
 free:∀x∈scope.names,x.2= .free->X.env.kindOf x.1=some .cell\/X.env.kindOf x.1=some .free
 len:fr.length=Nc.length
 map:∀(i j:Nat) (x:Str),Nc[i]?=some x->fr[i]?=some (some j)->X.N[j]?=some x/\scope.names.lookup x=some .free/\(X.env.kindOf x=some .cell\/X.env.kindOf x=some .free)
def σC(fr:List (Option Nat))(σ:St):St:=fr.map λ o=>o.bind λ j=>(σ[j]?).join
def fT(X:Cx)(scope:Scope)(Nc:List Str)(C:Addr)(s:Shared)(H:Hp)(ex:List Addr):Cx:=
 {X with N:=Nc,s₀:=s,H₀:=H,env:=compEnvC scope (oq scope C (eh X.env.cells scope.names [])) C X.env,outer:=X.stack,stack:=X.stack,ex:=ex,fn:=λ x=>scope.names.lookup x==some .cell,pn:=[],xe:=λ _ _=>False}
def uW(wi:TI)(fr:List (Option Nat))(g:TG)(c:TT)(te:TE):TE:=λ σ H Q=>wi σ H λ J H1=>∀l,H1 l=none->
 ∃W:Nat->Nat->L2.St->Hp->Prop,(∃m,W 0 m (σC fr σ) (upd H1 l (.lst [])))/\∀i m σ H,W i m σ H->
  (J.stop i H/\Q (.ref l) H)\/(J.go i H/\∃N:L2.St->Hp->Prop,(∀σ' H',N σ' H'->∃m',m'<m/\W (i+1) m' σ' H')/\∀x H',J.rh i H x H'->
    g x σ H' λ σ2 H2=>c σ2 H2 λ b H3=>if b=true then te σ2 H3 λ y H4=>∃ys,H4 l=some (.lst ys)/\ys.length<sizeLine/\N σ2 (upd H4 l (.lst (ys++[y])))else N σ2 H3)
def uE(X:Cx)(ifs:List Expr)(t:TT):Prop:=
 ∀(pins:List (Addr×Obj)) (s:Shared) (σ:St) (H:Hp) (Q:Bool->Hp->Prop),Inv X pins σ H s->t σ H Q->
  wpAny (model X.prog X.w) X.A (forIn ifs true λ c r=>if r=true then do let ok <-isTrue c X.env (eval c X.env);pure (ForInStep.yield ok)else pure (ForInStep.yield r)) (TP X pins σ Q) X.xe s
def OE:TT:=λ _ H Q=>Q true H
def KS{X:Cx}:uE X [] OE:=λ _ _ _ H _ I h=>wpAny_tests_nil ⟨H,I,h⟩
def JU{X:Cx}{c:Expr}{t:TT}(h:PT X c t):uE X [c] t:=λ pins s σ H Q I q=>wpAny_tests_one (h pins s σ H Q I q)
section
variable {X:Cx}{scope:Scope}{Nc:List Str}{fr:List (Option Nat)}{pins:List (Addr×Obj)}{σ:St}{H:Hp}{s:Shared}
def Nv{C:Addr}{fp:List Addr}(S:aO X scope Nc fr)(I:Inv X pins σ H s)(hC:C=s.heap.objs.size)(hf:∀b∈fp,nE X pins H b)(hlt:∀b∈fp,b<s.heap.objs.size)(hnc:∀b∈fp,∀x c,X.env.cells.lookup x=some c->c≠b):
 (fT X scope Nc C s H fp).Ok where
 mod:=I.ok.mod
 kind:=S.kind
 glob:=I.ok.glob
 blt:=I.ok.blt
 above:=VD hC.symm
 inj:=λ x y c h1 h2=>by
  have low:∀ {z},(eh X.env.cells scope.names []).lookup z=some c->c<s.heap.objs.size:=λ{z} hz=>by
   obtain⟨v,q⟩:=I.cell z c (dH _ [] (λ _ _ e=>by cases e) z c hz);exact q.lt
  rcases jM h1 with h1|h1<;>rcases jM h2 with h2|h2
  . exact own_apart h1 h2
  . have a:=pX (C:=C+1) (Ry _) h1;have b:c<C:=by rw[hC];exact low h2
    exact absurd a (Nat.not_le_of_gt (Sk b))
  . have a:=pX (C:=C+1) (Ry _) h2;have b:c<C:=by rw[hC];exact low h1
    exact absurd a (Nat.not_le_of_gt (Sk b))
  . exact I.ok.inj x y c (dH _ [] (λ _ _ e=>by cases e) x c h1) (dH _ [] (λ _ _ e=>by cases e) y c h2)
 has:=λ x hx=>by
  rcases AV hx with m|m
  . obtain⟨c,e⟩:=jI scope.names [] (I.ok.has x (S.free _ m rfl)) (.inl m);exact Uw.mp (Ug _ _ _ (.inr (by rw[e];rfl)))
  . exact Uw.mp (Ug _ _ _ (.inl m))
 Ao:=λ x c hf h=>by
  have hl:scope.names.lookup x=some .cell:=by
   have:(scope.names.lookup x==some .cell)=true:=hf;simpa using this
  obtain⟨c',e⟩:=Uw.mp (Ug (x:=x) scope.names (C+1) [] (.inl hl))
  have h':(cellsFrom (C+1) scope.names []++eh X.env.cells scope.names []).lookup x=some c:=by
   rw[<-g5];exact h
  rcases sI h' with q|q
  . have:=pX (C:=C+1) (Ry _) (SF q);show s.heap.objs.size<=c;rw[<-hC];exact V5 this
  . rw[q.1]at e;cases e
 hd:=I.ok.hd
 frames:=I.ok.frames
 CC:= .inl rfl
 GG:=λ b hb=>⟨by rw[show(fT X scope Nc C s H fp).env.locals=s.heap.objs.size from hC];exact Sj (hlt b hb),λ x c h=>by
  rcases jM h with h|h
  . have a:=pX (C:=C+1) (Ry _) h;have b':b<C:=by rw[hC];exact hlt b hb
    exact Uv (RW b' (V5 a))
  . exact hnc b hb x c (dH _ [] (λ _ _ e=>by cases e) x c h)⟩
 bs:=I.bs
 tR:=RD I.ok.tR I.sz
 vV:=λ b o e hb=>by
  have hn:=(hf b hb).2.2.2.1;rcases hn with hn|hn
  . exact I.ok.vV b o e hn
  . exact absurd (RT (I.ok.bs b o e).1) (Nat.not_lt.mpr hn)
 vW:=λ b hb z=>by
  have q:=I.AF b z;rcases RU.mp q with q|q
  . exact(hf b hb).2.1 q
  . exact(hf b hb).2.2.1 q
 mW:=I.stack
 xB:=λ b hb=>I.xQ b hb
 gt:=I.ok.gt
def Cv{i:Nat}{v:V}(h:(σC fr σ)[i]?=some (some v)):∃j,fr[i]?=some (some j)/\σ[j]?=some (some v):=by
 unfold σC at h;rw[RV]at h;cases q:fr[i]? with
 |none=>rw[q]at h;cases h
 |some o=>
  rw[q]at h;cases o with
  |none=>simp at h
  |some j=>
   simp only[UD,Option.some.injEq,Option.bind_some]at h;refine⟨j,rfl,?_⟩;cases r:σ[j]? with
   |none=>rw[r]at h;cases h
   |some u=>rw[r]at h;simp at h;rw[h]
def Hj{s':Shared}{h':Heap}{C:Addr}{fp:List Addr}{t':Nat}(S:aO X scope Nc fr)(I:Inv X pins σ H s)(hC:C=s.heap.objs.size)(ok:(fT X scope Nc C s H fp).Ok)(hfr:∀b∈fp,H b=none)
 (k:∀b o,s.heap.get? b=some o->h'.get? b=some o) (hn:h'.Ns C (λ _=>none)) (hcs:∀x c,(x,c)∈cellsFrom (C+1) scope.names []->h'.IsCell c none):Inv (fT X scope Nc C s H fp) [] (σC fr σ) H {s with heap:=h',toks:=t'} where
 ok:=ok
 os:=rfl
 bare:=I.bare
 base:=Un.kept k
 loc:=⟨_,hn,λ i x v h1 h2 h3=>by
  obtain⟨j,q1,q2⟩:=Cv h2;obtain⟨n1,n2,n3⟩:=S.map i j x h1 q1;obtain⟨m,hm,hl⟩:=I.loc
  have vis:AJ X.env.scope x:=by
   rcases n3 with z|z
   . exact .inr (.inl z)
   . exact .inr (.inr z)
  obtain⟨u,r,lk⟩:=hl j x v n1 q2 vis;refine⟨u,r,?_⟩;rcases lk with⟨z,_⟩|⟨z,c,e,ic⟩
  . rcases n3 with y|y
    . rw[y]at z;cases z
    . rw[y]at z;cases z
  . refine .inr ⟨BH n2,?_⟩;obtain⟨c',e'⟩:=jI scope.names [] ⟨c,e⟩ (.inl (SF n2));have e2:=dH _ [] (λ _ _ e=>by cases e) x c' e';rw[e]at e2;cases e2;refine⟨c,?_,ic.keeps k⟩;show(oq scope C (eh X.env.cells scope.names [])).lookup x=some c;unfold oq;rw[g5,vt ?_]
    . exact e'
    . cases q:(cellsFrom (C+1) scope.names []).lookup x with
      |none=>rfl
      |some c2=>
       have:=S.cells _ (tP (SF q)) rfl;rw[n2]at this;cases this⟩
 cell:=λ x c h=>by
  rcases jM h with h|h
  . exact⟨_,hcs x c h⟩
  obtain⟨v,q⟩:=I.cell x c (dH _ [] (λ _ _ e=>by cases e) x c h);exact⟨v,q.keeps k⟩
 free:=by show H C=none;rw[hC];exact I.aL.fresh (Ry _)
 jC:=λ x c h=>by
  rcases jM h with h|h
  . have a:=pX (C:=C+1) (Ry _) h;exact I.aL.fresh (by rw[<-hC];exact V5 a)
  . exact I.jC x c (dH _ [] (λ _ _ e=>by cases e) x c h)
 pin:=λ p hp=>by cases hp
 aL:=I.aL.kept k
 len:=by unfold σC;rw[Rw];exact S.len
def Inv.forget{C:Addr}{h':Heap}(I:Inv X pins σ H s)(f:nE X pins H C)(hs:Heap.SameBut C s.heap h'):Inv X pins σ H {s with heap:=h'}:=by
 refine I.D6 (s':={s with heap:=h'}) (ch:=[C]) rfl ?_ ?_ I.bare λ b hb=>?_
 . have ne:∀b,b∉[C]->b≠C:=λ b hb z=>hb (by simp[z]);exact{keep:=λ b o q _ _ hx=>(hs.2 b (ne b hx)).trans q,slot:=λ b o q _ _ hx=>⟨o.slots,(hs.2 b (ne b hx)).trans q⟩,free:=λ b o q n _=>n,there:=λ b o q hx=>⟨o,(hs.2 b (ne b hx)).trans q⟩,qL:=λ _ _ e=>e,pN:=λ _ _ _ e=>e,pP:=λ b ps e=>⟨#[],by rw[e];simp⟩}
 . intro a o q;have na:∀b u,H b=some u->b≠C:=λ b u q z=>by rw[z,f.1]at q;cases q
   refine(I.aL a o q).qO (λ b u hb e=>?_) (λ _ q=>q) λ _ _ q=>q;rw[hs.2 b ?_]
   . exact e
   . rcases hb with rfl|hb
     . exact na _ _ q
     . exact na _ _ hb
 . have:b=C:=by simpa using hb
   subst this;exact⟨f.2.2.2.1,f.2.1,f.2.2.2.2.1,f.2.2.2.2.2⟩
def wW{elt tg iter:Expr}{ifs:List Expr}{wi:TI}{g:TG}{c:TT}{te:TE}{pos:Pos}{Q:VK}{RR:Value->Addr->Result->Shared->Prop}(hx:X.xe=λ _ _=>False)(hc:X.calm=true)(S:aO X scope Nc fr)(hi:PI X tg iter wi)
 (hg:∀C s H ex,PG (fT X scope Nc C s H ex) tg g) (ht:∀C s H ex,uE (fT X scope Nc C s H ex) ifs c) (he:∀C s H ex,PE (fT X scope Nc C s H ex) elt te) (I:Inv X pins σ H s) (h:uW wi fr g c te σ H Q)
 (fin:∀(l C:Addr) (s6:Shared) (H5:Hp) (m:Str->Option Value),s6.heap.Ns C m->nE X pins H5 C->Inv X pins σ H5 s6->Q (.ref l) H5->RR (.ref l) C (.ok .next) s6):
 wpAny (model X.prog X.w) X.A (eval iter X.env) (λ x s₁=>wpAny (model X.prog X.w) X.A (pyIter x) (λ it s₂=>wpAny (model X.prog X.w) X.A (newList []) (λ acc s₃=>
  wpAny (model X.prog X.w) X.A (newFunctionEnv scope X.env.globals (eh X.env.cells scope.names []) [] X.env.qual none .none (some X.env)) (λ cenv s₄=>
   codeAny (model X.prog X.w) X.A (.compStart (.ListComp elt [⟨tg,iter,ifs,0⟩] scope pos) 0 it acc {cenv with scope:=relabel scope X.env}) (RR acc cenv.locals) s₄) X.xe s₃) X.xe s₂) X.xe s₁) X.xe s:=by
 refine cR (hi pins s σ H _ I h) λ v s1 h1=>cR h1 λ itv s2 h2=>?_;obtain⟨it,fp,tn,J,H2,e,I2,T,st2,f2,hR⟩:=h2;subst e;refine WY ?_ (Sg _);have I3:=I2.HF (t':=s2.toks) (its:=[]) (ys:=[]) .nil (Sg _);generalize e3:({s2 with heap:=s2.heap.push {cls:= .type "list",data:= .seq ([]:List Value).toArray}}:Shared)=s3;have I3:Inv X pins σ (upd H2 s2.heap.objs.size (.lst [])) s3:=by rw[<-e3];exact I3
 have ml:s2.heap.objs.size<s3.heap.objs.size:=by rw[<-e3];show _<(s2.heap.push _).objs.size;rw[S_];omega
 have k3:∀b o,s2.heap.get? b=some o->s3.heap.get? b=some o:=λ b o q=>by rw[<-e3];exact RG _ q
 obtain⟨W,⟨m0,w0⟩,turn⟩:=hR s2.heap.objs.size (I2.aL.fresh (Ry _));refine vZ ?_;have hn:(pushCells (s3.heap.push {cls:= .type "dict",data:= .dict #[]}) scope.names).Ns s3.heap.objs.size (λ _=>none):=(Heap.Ns.new s3.heap (.type "dict")).keeps (pushCells_keeps _ _);have hcs:∀x c,(x,c)∈cellsFrom (s3.heap.objs.size+1) scope.names []->(pushCells (s3.heap.push {cls:= .type "dict",data:= .dict #[]}) scope.names).IsCell c none:=λ x c h=>((MI scope.names _ (S_ ..)).empty x c h).1;have k4:∀b o,s3.heap.get? b=some o->(pushCells (s3.heap.push {cls:= .type "dict",data:= .dict #[]}) scope.names).get? b=some o:=λ b o q=>pushCells_keeps _ _ b o (RG _ q);generalize(pushCells (s3.heap.push {cls:= .type "dict",data:= .dict #[]}) scope.names)=h' at hn hcs k4⊢;have hobj:∀b∈fp,∃o,s2.heap.get? b=some o/\∀v,o.data≠ .cell v:=T.obj _ _ st2;have hlt2:∀b∈fp,b<s3.heap.objs.size:=λ b hb=>let⟨o,q,_⟩:=hobj b hb;RT (k3 b o q)
 have hnl:∀b∈fp,b≠s2.heap.objs.size:=λ b hb=>by
  obtain⟨o,q,_⟩:=hobj b hb;exact Sj (RT q)
 have f3:∀b∈fp,nE X pins (upd H2 s2.heap.objs.size (.lst [])) b:=λ b hb=>⟨by rw[aB (hnl b hb)];exact(f2 b hb).1,(f2 b hb).2⟩
 have ok:=Nv (C:=s3.heap.objs.size) (fp:=fp) S I3 rfl f3 hlt2 λ b hb=>(f2 b hb).2.2.2.2.1
 have I4:Inv (fT X scope Nc s3.heap.objs.size s3 (upd H2 s2.heap.objs.size (.lst [])) fp) [] (σC fr σ) (upd H2 s2.heap.objs.size (.lst [])) {s3 with heap:=h',toks:=s3.toks}:=
  Hj (s':=s3) S I3 rfl ok (λ b hb=>(f3 b hb).1) k4 hn hcs
 have st4:tn 0 h':=T.keep _ _ _ st2 λ b _ o q=>k4 b o (k3 b o q);generalize hXc:fT X scope Nc s3.heap.objs.size s3 (upd H2 s2.heap.objs.size (.lst [])) fp=Xc at I4;have hgc:PG Xc tg g:=by rw[<-hXc];exact hg _ _ _ _
 have htc:uE Xc ifs c:=by rw[<-hXc];exact ht _ _ _ _
 have hec:PE Xc elt te:=by rw[<-hXc];exact he _ _ _ _
 have xP:Xc.prog=X.prog:=by rw[<-hXc];rfl
 have xW:Xc.w=X.w:=by rw[<-hXc];rfl
 have xK:Xc.K=X.K:=by rw[<-hXc];rfl
 have xc:Xc.calm=true:=by rw[<-hXc];exact hc
 have xA:Xc.A=X.A:=by rw[<-hXc];rfl
 have xE:Xc.env=compEnvC scope (oq scope s3.heap.objs.size (eh X.env.cells scope.names [])) s3.heap.objs.size X.env:=by rw[<-hXc];rfl
 have xx:Xc.xe=λ _ _=>False:=by rw[<-hXc];rfl
 have fpc:∀ {H':Hp},(∀b∈fp,H' b=none)->∀b∈fp,nE Xc [] H' b:=λ{H'} hn b hb=>by
  rw[<-hXc];refine⟨hn b hb,Sj (hlt2 b hb),ok.vW b hb,.inl hb,(ok.GG b hb).2,λ p hp=>by cases hp⟩
 have loop:codeAny (model X.prog X.w) X.A (.compLoop (.ListComp elt [⟨tg,iter,ifs,0⟩] scope pos) 0 (.ref it) (.ref s2.heap.objs.size) (compEnvC scope (oq scope s3.heap.objs.size (eh X.env.cells scope.names [])) s3.heap.objs.size X.env))
  (RR (.ref s2.heap.objs.size) s3.heap.objs.size) {s3 with heap:=h',toks:=s3.toks}:=by
  refine Cf (λ n s'=>∃i σ' H',Inv Xc [] σ' H' s'/\tn i s'.heap/\(∀b∈fp,H' b=none)/\W i n σ' H') ?_ m0 ⟨0,_,_,I4,st4,λ b hb=>(f3 b hb).1,w0⟩;rintro n s5 ⟨i,σ5,H5,I5,st5,fr5,w5⟩;rcases turn i n σ5 H5 w5 with⟨stop,qn⟩|⟨go,N,hN,step⟩
  . have q:=T.done Xc xP xW xK xc i [] s5 σ5 H5 (λ _ _=>False) I5 (fpc fr5) st5 stop;rw[xA]at q;refine cR q λ r s6 ⟨hr,I6⟩=>?_;subst hr;obtain⟨m,hm,_⟩:=I6.loc;rw[xE]at hm;have free6:H5 s3.heap.objs.size=none:=by have:=I6.free;rw[xE]at this;exact this
    have un6:Un (rD X.stack) fp (upd H2 s2.heap.objs.size (.lst [])) H5 s3.heap s6.heap:=by have:=I6.base;rw[<-hXc]at this;exact this
    have os6:s6.os=s3.os:=by have:=I6.os;rw[<-hXc]at this;exact this
    have hok6:jd X.prog X.w H5 s6.heap:=by have:=I6.aL;rw[xP,xW]at this;exact this
    have J:=I3.D6 (s':=s6) (ch:=fp) os6 un6 hok6 I6.bare λ b hb=>⟨(f3 b hb).2.2.2.1,(f3 b hb).2.1,(f3 b hb).2.2.2.2.1,(f3 b hb).2.2.2.2.2⟩
    exact fin _ _ s6 H5 m hm (I3.x6 (Ry _) free6) J qn
  . have q:=T.item Xc xP xW xK xc i [] s5 σ5 H5 (λ _ _=>False) I5 (fpc fr5) st5 go;rw[xA]at q;refine cR q λ r s6 ⟨u,hr,h6⟩=>?_;subst hr;refine cR h6 λ _ s7 ⟨x,H7,I7,r7,y7,st7,fr7⟩=>?_;have I7':=I7.pinned (fpc fr7) (T.obj _ _ st7);have q8:=hgc _ s7 σ5 H7 x u _ I7' r7 (step x H7 y7);rw[xP,xW,xA,xE,xx]at q8;refine cR q8 λ _ s8 ⟨σ8,H8,I8,q8⟩=>?_;have q9:=htc _ s8 σ8 H8 _ I8 q8;rw[xP,xW,xA,xE,xx]at q9;refine cR q9 λ b s9 ⟨H9,I9,q9⟩=>?_
    have again:∀ {H':Hp} {s':Shared},Inv Xc ([]++uH fp s7.heap) σ8 H' s'->N σ8 H'->∃m,m<n/\∃i σ' H',Inv Xc [] σ' H' s'/\tn i s'.heap/\(∀b∈fp,H' b=none)/\W i m σ' H':=λ{H' s'} J nn=>by
     obtain⟨m',hm,w7⟩:=hN σ8 H' nn;refine⟨m',hm,i+1,σ8,H',J.iZ,T.keep _ _ _ st7 λ b hb o e=>(J.pin (b,o) (RL _ (RL _ (oR hb e)))).1,λ b hb=>?_,w7⟩;obtain⟨o,e,d⟩:=T.obj _ _ st7 b hb;exact(J.pin (b,o) (RL _ (RL _ (oR hb e)))).2.1
    cases b with
    |false=>exact again I9 q9
    |true=>
     have qe:=hec _ s9 σ8 H9 _ I9 q9;rw[xP,xW,xA,xE,xx]at qe;refine cR qe λ y s10 ⟨vy,H10,I10,ry,ys,hy,hlt,qN⟩=>?_;have qa:=yH (X:=Xc) _ s10 σ8 H10 (.ref s2.heap.objs.size) [vy] (.ref s2.heap.objs.size) [y] (λ _ H'=>N σ8 H') I10 rfl (.cons ry .nil) ⟨_,ys,vy,rfl,rfl,hy,hlt,qN⟩;rw[xP,xW,xA,xx]at qa;exact cR qa λ _ s11 ⟨_,H11,I11,_,q11⟩=>again I11 q11
 refine codeAny_compStart_list ?_ ?_
 . exact loop
 . exact T.self _ 0 _ _ _ st4 loop
def CM{elt tg iter:Expr}{ifs:List Expr}{wi:TI}{g:TG}{c:TT}{te:TE}{pos:Pos}(hx:X.xe=λ _ _=>False)(hc:X.calm=true)(S:aO X scope Nc fr)(hi:PI X tg iter wi)
 (hg:∀C s H ex,PG (fT X scope Nc C s H ex) tg g) (ht:∀C s H ex,uE (fT X scope Nc C s H ex) ifs c) (he:∀C s H ex,PE (fT X scope Nc C s H ex) elt te)
 (hs:∀x,foldedSetIterable iter X.env x=pure x:=by intro _;rfl):PE X (.ListComp elt [⟨tg,iter,ifs,0⟩] scope pos) (uW wi fr g c te):=by
 intro pins s σ H Q I h;rw[eval_ListComp];have hcl:closureFor scope X.env=pure (eh X.env.cells scope.names []):=oB λ x hx hk=>I.ok.has x.1 (S.free x hx hk);refine Wi rfl hs hcl S.kind S.names ?_;exact wW (RR:=λ acc C=>compPost (model X.prog X.w) X.A X.xe none (EP X pins σ Q) acc C) hx hc S hi hg ht he I h λ l C s6 H5 m hm f J q=>⟨m,hm,λ h'' hs''=>⟨.ref l,H5,Inv.forget J f hs'',rfl,q⟩⟩
def CO{elt tg iter:Expr}{ifs:List Expr}{wi:TI}{g:TG}{c:TT}{te:TE}{pos pos' spos:Pos}{i:Nat}{x:Str}(hx:X.xe=λ _ _=>False)(hc:X.calm=true)(S:aO X scope Nc fr)(hi:PI X tg iter wi)
 (hg:∀C s H ex,PG (fT X scope Nc C s H ex) tg g) (ht:∀C s H ex,uE (fT X scope Nc C s H ex) ifs c) (he:∀C s H ex,PE (fT X scope Nc C s H ex) elt te) (hN:X.N.Nodup) (hni:X.N[i]?=some x) (hl:Loc X.env.scope x) (hf:X.fn x=true\/X.env.scope.names.lookup x=some .local)
 (hsw:swapsWith (.ListComp elt [⟨tg,iter,ifs,0⟩] scope pos) (some (.Name x pos')) spos.line X.env=pure true)
 (hs:∀x,foldedSetIterable iter X.env x=pure x:=by intro _;rfl):PS X (.Assign [.Name x pos'] (.ListComp elt [⟨tg,iter,ifs,0⟩] scope pos) spos) (oF (uW wi fr g c te) (kB i)):=by
 intro pins s σ H D I h;have hcl:closureFor scope X.env=pure (eh X.env.cells scope.names []):=oB λ x hx hk=>I.ok.has x.1 (S.free x hx hk);rw[exec_Assign_Name_used _ _ _ _ hsw];refine Rz (V1 (Rz ?_));show wpAny _ X.A (do let _ <-comprehension (.ListComp elt [⟨tg,iter,ifs,0⟩] scope pos) scope X.env _ (newList []) false (eval iter X.env) (some (assign (.Name x pos') X.env))) _ _ s
 refine Rz (TY (Wi (use:=some (assign (.Name x pos') X.env)) (Q:=λ _ s'=>SP X pins D .next s') rfl hs hcl S.kind S.names
  (wW (RR:=λ acc C=>compPost (model X.prog X.w) X.A X.xe (some (assign (.Name x pos') X.env)) (λ _ s'=>SP X pins D .next s') acc C) hx hc S hi hg ht he I h λ l C s6 H5 m hm f J q=>?_)) (λ _ s' hq=>RP (RP hq)) λ _ _ e=>e)
 show wpAny _ X.A (assign (.Name x pos') X.env (.ref l)) _ _ _;refine wpAny_assign_Name (yM J hN hni hl (show RelV (.ref l) (.ref l)from rfl) (λ s7 J7 hch=>?_) hf);obtain⟨a,hsame,ha⟩:=hch
 have hCa:C≠a:=by
  rcases ha with rfl|ha
  . exact f.2.1
  . exact λ z=>f.2.2.2.2.1 x a ha z.symm
 refine⟨m,hm.sameBut hsame hCa,λ h'' hs''=>⟨σ.set i (some (.ref l)),H5,Inv.forget J7 f hs'',q⟩⟩
end
inductive D where
 |aF|bl (b:Bool)|int (i:Int)|str (x:Str)|ty (n:String)|ref (n:Nat)|lst (xs:List D)|tup (xs:List D)
inductive Cell where
 |lst (xs:List D)|ins (C:Addr) (fs:List (Str×D))|dead
  |tab (P:Addr) (pos:Pos) (qual:Str) (b:Bool)
abbrev ag:=List Cell
abbrev ck:=List (Option D)
mutual
def Rep(α:List (Option Addr))(H:Hp):D->V->Prop
 | .aF,v=>v= .aF
 | .bl b,v=>v= .bl b
 | .int i,v=>v= .int i
 | .str x,v=>v= .str x
 | .ty n,v=>v= .ty n
 | .ref n,v=>α[n]?=some none\/∃a,α[n]?=some (some a)/\v= .ref a
 | .lst xs,v=>∃a vs,v= .ref a/\some a∉α/\Rd H a (.lst vs)/\aG α H xs vs
 | .tup xs,v=>∃a vs,v= .ref a/\some a∉α/\H a=some (.tup vs)/\aG α H xs vs
def aG(α:List (Option Addr))(H:Hp):List D->List V->Prop
 | [],vs=>vs=[]
 |d::ds,vs=>∃v r,vs=v::r/\Rep α H d v/\aG α H ds r
end
def aY{α:List (Option Addr)}{H:Hp}:∀ {ds:List D} {vs:List V},aG α H ds vs↔Paired (Rep α H) ds vs
 | [],vs=>by
   unfold aG;constructor
   . rintro rfl;exact .nil
   . intro h;cases h;rfl
 |d::ds,vs=>by
  unfold aG;constructor
  . rintro⟨v,r,rfl,h1,h2⟩;exact .cons h1 (aY.mp h2)
  . intro h;cases h with|cons h1 h2=>exact⟨_,_,rfl,h1,aY.mpr h2⟩
section
variable {α:List (Option Addr)}{H:Hp}
def aG.length{ds:List D}{vs:List V}(h:aG α H ds vs):ds.length=vs.length:=Paired.length (aY.mp h)
def wk{A B:Type}{F:A->B->Prop}:∀ {xs:List A} {ys:List B} {i:Nat} {x:A},Paired F xs ys->xs[i]?=some x->∃y,ys[i]?=some y/\F x y
 |_,_,_,_,.nil,e=>by simp at e
 |_,_,0,_,.cons r _,e=>by simp at e;subst e;exact⟨_,rfl,r⟩
 |_,_,i+1,x,.cons _ t,e=>by
  obtain⟨u,h1,h2⟩:=wk (i:=i) (x:=x) t (by simpa using e);exact⟨u,by simpa using h1,h2⟩
def fG{A B:Type}{F:A->B->Prop}:∀ {xs xs':List A} {ys ys':List B},Paired F xs ys->Paired F xs' ys'->Paired F (xs++xs') (ys++ys')
 |_,_,_,_,.nil,s=>s
 |_,_,_,_,.cons r t,s=> .cons r (fG t s)
def vA{A B:Type}{F:A->B->Prop}:∀ {xs:List A} {ys:List B} (n:Nat),Paired F xs ys->Paired F (xs.take n) (ys.take n)
 |_,_,0,_=> .nil
 |_,_,_+1,.nil=> .nil
 |_,_,n+1,.cons r t=> .cons r (vA n t)
def vi{A B:Type}{F:A->B->Prop}:∀ {xs:List A} {ys:List B} (n:Nat),Paired F xs ys->Paired F (xs.drop n) (ys.drop n)
 |_,_,0,r=>r
 |_,_,_+1,.nil=> .nil
 |_,_,n+1,.cons _ t=>vi n t
def wM{A B:Type}{F:A->B->Prop}{x:A}{y:B}(r:F x y):∀ {xs:List A} {ys:List B} (i:Nat),Paired F xs ys->Paired F (xs.set i x) (ys.set i y)
 |_,_,_,.nil=> .nil
 |_,_,0,.cons _ t=> .cons r t
 |_,_,i+1,.cons q t=> .cons q (wM r i t)
def qP{A B:Type}{F:A->B->Prop}{xs:List A}{ys:List B}(h:Paired F xs ys):∀k:Nat,Paired F (List.replicate k xs).flatten (List.replicate k ys).flatten
 |0=> .nil
 |k+1=>by
  rw[Tx,Tx,T9,T9];exact fG h (qP h k)
def aG.get{ds:List D}{vs:List V}{i:Nat}{d:D}(h:aG α H ds vs)(e:ds[i]?=some d):∃v,vs[i]?=some v/\Rep α H d v:=wk (aY.mp h) e
end
structure Step(α:List (Option Addr))(H:Hp)(α':List (Option Addr))(H':Hp):Prop where
 ext:∀b o,some b∉α->H b=some o->H' b=some o
 pre:∀(n:Nat) (x:Option Addr),α[n]?=some x->α'[n]?=some x\/α'[n]?=some none
 new:∀b,some b∈α'->some b∉α->H b=none
def Step.refl{α:List (Option Addr)}{H:Hp}:Step α H α H:=⟨λ _ _ _ h=>h,λ _ _ h=> .inl h,λ _ h n=>absurd h n⟩
def Step.trans{α α1 α2:List (Option Addr)}{H H1 H2:Hp}(a:Step α H α1 H1)(b:Step α1 H1 α2 H2):Step α H α2 H2 where
 ext:=λ c o hc e=>b.ext c o (λ z=>by rw[a.new c z hc]at e;cases e) (a.ext c o hc e)
 pre:=λ n x e=>by
  rcases a.pre n x e with h|h
  . exact b.pre n x h
  . rcases b.pre n none h with h'|h'
    . exact .inr h'
    . exact .inr h'
 new:=λ c hc n=>by
  by_cases h1:some c∈α1
  . exact a.new c h1 n
  . have:=b.new c hc h1;cases q:H c with
    |none=>rfl
    |some o=>rw[a.ext c o n q]at this;cases this
def Step.laid{α:List (Option Addr)}{H:Hp}{p:Addr}{o:HO}(h:H p=none):Step α H α (upd H p o):=
 ⟨λ b u _ e=>by rw[aB (eL e h)];exact e,λ _ _ h=> .inl h,λ _ h n=>absurd h n⟩
def Step.cell{α:List (Option Addr)}{H:Hp}{p:Addr}{o:HO}(h:H p=none):Step α H (α++[some p]) (upd H p o):=
 ⟨λ b u _ e=>by rw[aB (eL e h)];exact e,λ n x e=> .inl (by rw[RH (Rx.mp e).1];exact e),λ b hb n=>by
  rcases RX.mp hb with z|z
  . exact absurd z n
  . have:b=p:=by simpa using z
    subst this;exact h⟩
def Step.write{α:List (Option Addr)}{H:Hp}{p:Addr}{o:HO}(h:some p∈α):Step α H α (upd H p o):=
 ⟨λ b u n e=>by rw[aB (λ z=>by subst z;exact n h)];exact e,λ _ _ h=> .inl h,λ _ h n=>absurd h n⟩
def Step.fz{α:List (Option Addr)}{H:Hp}{n:Nat}:Step α H (α.set n none) H:=
 ⟨λ _ _ _ h=>h,λ m x e=>by
  by_cases hm:n=m
  . subst hm;exact .inr (RK (Rx.mp e).1)
  . exact .inl (by rw[RB hm];exact e),λ b hb hn=>by
  rcases Sy hb with z|z
  . exact absurd z hn
  . cases z⟩
mutual
def Rep.step{α α':List (Option Addr)}{H H':Hp}(s:Step α H α' H'):∀ {d:D} {v:V},Rep α H d v->Rep α' H' d v
 | .aF,_,h=>by unfold Rep at h⊢;exact h
 | .bl _,_,h=>by unfold Rep at h⊢;exact h
 | .int _,_,h=>by unfold Rep at h⊢;exact h
 | .str _,_,h=>by unfold Rep at h⊢;exact h
 | .ty _,_,h=>by unfold Rep at h⊢;exact h
 | .ref n,_,h=>by
   unfold Rep at h⊢;rcases h with h|⟨a,e,r⟩
   . rcases s.pre _ _ h with z|z<;>exact .inl z
   . rcases s.pre _ _ e with z|z
     . exact .inr ⟨a,z,r⟩
     . exact .inl z
 | .lst xs,_,h=>by
   unfold Rep at h⊢;obtain⟨a,vs,e,n,r,q⟩:=h;refine⟨a,vs,e,λ z=>?_,?_,aG.step s q⟩
   . have:=s.new a z n;rcases r with r|⟨o,r⟩<;>(rw[this]at r;cases r)
   . rcases r with r|⟨o,r⟩
     . exact .inl (s.ext _ _ n r)
     . exact .inr ⟨o,s.ext _ _ n r⟩
 | .tup xs,_,h=>by
   unfold Rep at h⊢;obtain⟨a,vs,e,n,r,q⟩:=h;exact⟨a,vs,e,(λ z=>by rw[s.new a z n]at r;exact nomatch r),s.ext _ _ n r,aG.step s q⟩
def aG.step{α α':List (Option Addr)}{H H':Hp}(s:Step α H α' H'):∀ {ds:List D} {vs:List V},aG α H ds vs->aG α' H' ds vs
 | [],_,h=>by unfold aG at h⊢;exact h
 |d::ds,_,h=>by
  unfold aG at h⊢;obtain⟨v,r,e,h1,h2⟩:=h;exact⟨v,r,e,Rep.step s h1,aG.step s h2⟩
end
structure cO(G F H:Hp):Prop where
 eq:∀b,H b=(G b).or (F b)
 Aw:∀b o,G b=some o->F b=none
section
variable {G F H:Hp}
def cO.get(P:cO G F H){b:Addr}{o:HO}(h:G b=some o):H b=some o:=by rw[P.eq b,h];rfl
def cO.same(P:cO G F H):G_ G H:=λ _ _ h=>P.get h
def cO.none(P:cO G F H){b:Addr}(h:H b=none):G b=none/\F b=none:=by
 have e:=P.eq b;rw[h]at e;cases q:G b with
 |none=>rw[q]at e;exact⟨rfl,e.symm⟩
 |some o=>rw[q]at e;cases e
def cO.frame(P:cO G F H){b:Addr}{o:HO}(h:F b=some o):H b=some o/\G b=Option.none:=by
 have hn:G b=Option.none:=by
  cases q:G b with
  |none=>rfl
  |some u=>rw[P.Aw b u q]at h;cases h
 exact⟨by rw[P.eq b,hn,h];rfl,hn⟩
def cO.laid(P:cO G F H){p:Addr}{o:HO}(h:H p=Option.none):cO (upd G p o) F (upd H p o):=by
 obtain⟨h1,h2⟩:=P.none h;refine⟨λ b=>?_,λ b u e=>?_⟩
 . by_cases hb:b=p
   . subst hb;rw[aW,aW];rfl
   . rw[aB hb,aB hb];exact P.eq b
 . by_cases hb:b=p
   . subst hb;exact h2
   . rw[aB hb]at e;exact P.Aw b u e
def cO.write(P:cO G F H){p:Addr}{o o':HO}(h:G p=some o):cO (upd G p o') F (upd H p o'):=by
 refine⟨λ b=>?_,λ b u e=>?_⟩
 . by_cases hb:b=p
   . subst hb;rw[aW,aW];rfl
   . rw[aB hb,aB hb];exact P.eq b
 . by_cases hb:b=p
   . subst hb;exact P.Aw b o h
   . rw[aB hb]at e;exact P.Aw b u e
def cO.hide(P:cO G F H){p:Addr}{o:HO}(h:H p=Option.none):cO G (upd F p o) (upd H p o):=by
 obtain⟨h1,h2⟩:=P.none h;refine⟨λ b=>?_,λ b u e=>?_⟩
 . by_cases hb:b=p
   . subst hb;rw[aW,aW,h1];rfl
   . rw[aB hb,aB hb];exact P.eq b
 . by_cases hb:b=p
   . subst hb;rw[h1]at e;cases e
   . rw[aB hb];exact P.Aw b u e
def cO.IH(P:cO G F H){p:Addr}{o o':HO}(h:F p=some o):cO G (upd F p o') (upd H p o'):=by
 have h1:=(P.frame h).2;refine⟨λ b=>?_,λ b u e=>?_⟩
 . by_cases hb:b=p
   . subst hb;rw[aW,aW,h1];rfl
   . rw[aB hb,aB hb];exact P.eq b
 . by_cases hb:b=p
   . subst hb;rw[h1]at e;cases e
   . rw[aB hb];exact P.Aw b u e
def cO.show{p:Addr}{o:HO}(P:cO G (upd F p o) H)(h:F p=Option.none):cO (upd G p o) F H:=by
 have h1:=(P.frame (b:=p) aW)
 refine⟨λ b=>?_,λ b u e=>?_⟩
 . by_cases hb:b=p
   . subst hb;rw[aW,h1.1];rfl
   . rw[aB hb,P.eq b,aB hb]
 . by_cases hb:b=p
   . subst hb;exact h
   . rw[aB hb]at e;have:=P.Aw b u e;rw[aB hb]at this;exact this
end
mutual
def Rep.mono{α:List (Option Addr)}{G H:Hp}(s:G_ G H):∀ {d:D} {v:V},Rep α G d v->Rep α H d v
 | .aF,_,h=>by unfold Rep at h⊢;exact h
 | .bl _,_,h=>by unfold Rep at h⊢;exact h
 | .int _,_,h=>by unfold Rep at h⊢;exact h
 | .str _,_,h=>by unfold Rep at h⊢;exact h
 | .ty _,_,h=>by unfold Rep at h⊢;exact h
 | .ref n,_,h=>by unfold Rep at h⊢;exact h
 | .lst xs,_,h=>by
   unfold Rep at h⊢;obtain⟨a,vs,e,n,r,q⟩:=h;refine⟨a,vs,e,n,?_,aG.mono s q⟩;rcases r with r|⟨o,r⟩
   . exact .inl (s _ _ r)
   . exact .inr ⟨o,s _ _ r⟩
 | .tup xs,_,h=>by
   unfold Rep at h⊢;obtain⟨a,vs,e,n,r,q⟩:=h;exact⟨a,vs,e,n,s _ _ r,aG.mono s q⟩
def aG.mono{α:List (Option Addr)}{G H:Hp}(s:G_ G H):∀ {ds:List D} {vs:List V},aG α G ds vs->aG α H ds vs
 | [],_,h=>by unfold aG at h⊢;exact h
 |d::ds,_,h=>by
  unfold aG at h⊢;obtain⟨v,r,e,h1,h2⟩:=h;exact⟨v,r,e,Rep.mono s h1,aG.mono s h2⟩
end
def lh(α:List (Option Addr))(H:Hp):List (Str×D)->List (Str×V)->Prop:=Paired λ p q=>p.1=q.1/\Rep α H p.2 q.2
def mZ(α:List (Option Addr))(H:Hp)(a:Addr):Cell->Prop
 | .lst xs=>∃vs,H a=some (.lst vs)/\aG α H xs vs
 | .ins C fs=>∃dx vs,H a=some (.ins C dx vs)/\lh α H fs vs
 | .dead=>False
 | .tab P pos qual b=>a=P/\∃ps:Array Value,H a=some (.l6 ps)/\TriplesOk ps.toList/\
    ((b=false/\codeAmong pos ps.toList=none)\/(b=true/\∃c o vs t,codeAmong pos ps.toList=some (.ref c)/\some c∉α/\H c=some (.fz o (.own c))/\o.data= .fields vs/\vs[1]?=some (.str qual t)))
structure aP(α:List (Option Addr))(st:ag)(H:Hp):Prop where
 len:α.length=st.length
 nd:∀(i j:Nat) (a:Addr),α[i]?=some (some a)->α[j]?=some (some a)->i=j
 at':∀(n:Nat) (c:Cell),st[n]?=some c->(c= .dead/\α[n]?=some none)\/∃a,α[n]?=some (some a)/\mZ α H a c
def lh.step{α α':List (Option Addr)}{H H':Hp}(s:Step α H α' H'){ds:List (Str×D)}{vs:List (Str×V)}(h:lh α H ds vs):lh α' H' ds vs:=Paired.He h λ _ _ z=>⟨z.1,z.2.step s⟩
def mZ.same{α α':List (Option Addr)}{H H':Hp}{a:Addr}{c:Cell}(s:Step α H α' H')(e:H' a=H a)(h:mZ α H a c):mZ α' H' a c:=by
 cases c with
 |lst xs=>obtain⟨vs,h1,h2⟩:=h;exact⟨vs,e.trans h1,h2.step s⟩
 |ins C fs=>obtain⟨dx,vs,h1,h2⟩:=h;exact⟨dx,vs,e.trans h1,h2.step s⟩
 |dead=>exact h.elim
 |tab P pos qual b=>
  obtain⟨z,ps,h1,h2,h3⟩:=h;refine⟨z,ps,e.trans h1,h2,?_⟩;rcases h3 with h3|⟨hb,c,o,vs,t,q1,q2,q3,q4⟩
  . exact .inl h3
  . exact .inr ⟨hb,c,o,vs,t,q1,(λ y=>by rw[s.new c y q2]at q3;cases q3),s.ext c _ q2 q3,q4⟩
def mZ.some{α:List (Option Addr)}{H:Hp}{a:Addr}{c:Cell}(h:mZ α H a c):∃o,H a=some o:=by
 cases c with
 |lst xs=>obtain⟨vs,h1,h2⟩:=h;exact⟨_,h1⟩
 |ins C fs=>obtain⟨dx,vs,h1,h2⟩:=h;exact⟨_,h1⟩
 |dead=>exact h.elim
 |tab P pos qual b=>obtain⟨_,ps,h1,_⟩:=h;exact⟨_,h1⟩
def eA{α:List (Option Addr)}{H:Hp}{n:Nat}{v:V}{a:Addr}(e:α[n]?=Option.some (Option.some a))(r:Rep α H (.ref n) v):v= .ref a:=by
 unfold Rep at r;rcases r with r|⟨b,eb,rfl⟩
 . rw[e]at r;cases r
 . rw[e]at eb;cases eb;rfl
section
variable {α:List (Option Addr)}{st:ag}{H:Hp}
def aP.gI(S:aP α st H){n:Nat}{xs:List D}(e:st[n]?=Option.some (.lst xs)):∃a,α[n]?=Option.some (Option.some a)/\∃vs,H a=Option.some (.lst vs)/\aG α H xs vs:=by
 rcases S.at' n _ e with⟨z,_⟩|z
 . cases z
 . exact z
def aP.zW(S:aP α st H){n:Nat}{C:Addr}{fs:List (Str×D)}(e:st[n]?=Option.some (.ins C fs)):∃a,α[n]?=Option.some (Option.some a)/\∃dx vs,H a=Option.some (.ins C dx vs)/\lh α H fs vs:=by
 rcases S.at' n _ e with⟨z,_⟩|z
 . cases z
 . exact z
def aP.mem(S:aP α st H){a:Addr}(h:Option.some a∈α):∃(n:Nat) (c:Cell),α[n]?=Option.some (Option.some a)/\st[n]?=Option.some c/\mZ α H a c:=by
 obtain⟨n,hn,e⟩:=RQ.mp h;have hl:n<st.length:=by rw[<-S.len];exact hn
 have e':α[n]?=Option.some (Option.some a):=by rw[RJ hn,e]
 rcases S.at' n st[n] (by simp[hl])with⟨_,q⟩|⟨a',q,ca⟩
 . rw[e']at q;cases q
 . rw[e']at q;cases q;exact⟨n,_,e',by simp[hl],ca⟩
def aP.mE(S:aP α st H){p:Addr}(h:H p=none):Option.some p∉α:=λ z=>by
 obtain⟨n,c,_,_,ca⟩:=S.mem z;obtain⟨o,e⟩:=ca.some;rw[h]at e;cases e
def aP.laid(S:aP α st H){p:Addr}{o:HO}(h:H p=none):aP α st (upd H p o):=
 ⟨S.len,S.nd,λ n c e=>by
  rcases S.at' n c e with z|⟨a,q,ca⟩
  . exact .inl z
  . exact .inr ⟨a,q,ca.same (Step.laid h) (aB (by obtain⟨u,z⟩:=ca.some;exact eL z h))⟩⟩
def aP.cell(S:aP α st H){p:Addr}{o:HO}{c:Cell}(h:H p=none)(hc:mZ (α++[Option.some p]) (upd H p o) p c):aP (α++[Option.some p]) (st++[c]) (upd H p o) where
 len:=by rw[SW,SW,S.len];rfl
 nd:=λ i j a ei ej=>by
  have key:∀(i:Nat) (a:Addr),(α++[Option.some p])[i]?=Option.some (Option.some a)->(i<α.length/\α[i]?=Option.some (Option.some a))\/(i=α.length/\a=p):=by
   intro i a e;by_cases hi:i<α.length
   . rw[RH hi]at e;exact .inl ⟨hi,e⟩
   . rw[Sh (TZ hi)]at e
     have h0:i-α.length=0:=by
      cases q:i-α.length with
      |zero=>rfl
      |succ k=>rw[q]at e;simp at e
     rw[h0]at e;have:p=a:=by simpa using e
     exact .inr ⟨by omega,this.symm⟩
  rcases key i a ei with⟨h1,e1⟩|⟨h1,e1⟩<;>rcases key j a ej with⟨h2,e2⟩|⟨h2,e2⟩
  . exact S.nd i j a e1 e2
  . subst e2;exact absurd (Sb e1) (S.mE h)
  . subst e1;exact absurd (Sb e2) (S.mE h)
  . omega
 at':=λ n d e=>by
  by_cases hn:n<st.length
  . rw[RH hn]at e;have hl:n<α.length:=by rw[S.len];exact hn
    rcases S.at' n d e with⟨z,q⟩|⟨a,q,ca⟩
    . exact .inl ⟨z,by rw[RH hl];exact q⟩
    . exact .inr ⟨a,by rw[RH hl];exact q,ca.same (Step.cell h) (aB (by obtain⟨u,z⟩:=ca.some;exact eL z h))⟩
  . rw[Sh (TZ hn)]at e
    have h0:n-st.length=0:=by
     cases q:n-st.length with
     |zero=>rfl
     |succ k=>rw[q]at e;simp at e
    rw[h0]at e;have hd:c=d:=by simpa using e
    subst hd;refine .inr ⟨p,?_,hc⟩;rw[Sh (by rw[S.len];exact TZ hn),S.len,h0];rfl
def aP.write(S:aP α st H){p:Addr}{o:HO}{c:Cell}{n:Nat}(e:α[n]?=Option.some (Option.some p))(hc:mZ α (upd H p o) p c):aP α (st.set n c) (upd H p o) where
 len:=by rw[RY];exact S.len
 nd:=S.nd
 at':=λ m d q=>by
  have hp:Option.some p∈α:=Sb e;by_cases hm:m=n
  . subst hm
    have hl:m<st.length:=by
     have:=(Rx.mp q).1;rw[RY]at this;exact this
    rw[RK hl]at q;cases q;exact .inr ⟨p,e,hc⟩
  . rw[RB (RO hm)]at q;rcases S.at' m d q with z|⟨a,r,ca⟩
    . exact .inl z
    . refine .inr ⟨a,r,ca.same (Step.write hp) (aB λ z=>?_)⟩;subst z;exact hm (S.nd m n _ r e)
def aP.fz(S:aP α st H){n:Nat}(hn:n<st.length):aP (α.set n none) (st.set n .dead) H where
 len:=by rw[RY,RY];exact S.len
 nd:=λ i j a ei ej=>by
  have key:∀(i:Nat),(α.set n none)[i]?=Option.some (Option.some a)->α[i]?=Option.some (Option.some a):=by
   intro i e;by_cases hi:n=i
   . subst hi;rw[RK (by rw[S.len];exact hn)]at e;cases e
   . rw[RB hi]at e;exact e
  exact S.nd i j a (key i ei) (key j ej)
 at':=λ m d q=>by
  by_cases hm:n=m
  . subst hm;rw[RK hn]at q;cases q;exact .inl ⟨rfl,RK (by rw[S.len];exact hn)⟩
  . rw[RB hm]at q;rcases S.at' m d q with⟨z,r⟩|⟨a,r,ca⟩
    . exact .inl ⟨z,by rw[RB hm];exact r⟩
    . exact .inr ⟨a,by rw[RB hm];exact r,ca.same Step.fz rfl⟩
def aP.xT(S:aP α st H){n:Nat}{xs:List D}{v:V}(e:st[n]?=Option.some (.lst xs))(r:Rep α H (.ref n) v):Rep (α.set n none) H (.lst xs) v:=by
 obtain⟨a,ea,vs,h1,h2⟩:=S.gI e;have:=eA ea r;subst this;unfold Rep;refine⟨a,vs,rfl,λ z=>?_,.inl h1,h2.step Step.fz⟩;obtain⟨m,hm,em⟩:=RQ.mp z;have em':(α.set n none)[m]?=Option.some (Option.some a):=by rw[RJ hm,em]
 by_cases hx:n=m
 . subst hx;rw[RK (Rx.mp ea).1]at em';cases em'
 . rw[RB hx]at em';exact hx (S.nd n m a ea em')
end
abbrev DK:=D->ag->Prop
abbrev DE:=ck->ag->DK->Prop
abbrev DT:=ck->ag->(Bool->ag->Prop)->Prop
abbrev DA:=ck->ag->(List D->ag->Prop)->Prop
structure kg where
 nx:ck->ag->Prop
 rt:DK
 bk:ck->ag->Prop:=λ _ _=>False
 ct:ck->ag->Prop:=λ _ _=>False
abbrev DS:=kg->ck->ag->Prop
structure ff(α:List (Option Addr))(H:Hp)(σd:ck)(σ:L2.St):Prop where
 len:σd.length=σ.length
 at':∀(i:Nat) (d:D),σd[i]?=some (some d)->∃v,σ[i]?=some (some v)/\Rep α H d v
def ff.step{α α':List (Option Addr)}{H H':Hp}{σd:ck}{σ:L2.St}(s:Step α H α' H')(h:ff α H σd σ):ff α' H' σd σ:=
 ⟨h.len,λ i d e=>let⟨v,q,r⟩:=h.at' i d e;⟨v,q,r.step s⟩⟩
def ff.set{α:List (Option Addr)}{H:Hp}{σd:ck}{σ:L2.St}(h:ff α H σd σ)(i:Nat){d:D}{v:V}(r:Rep α H d v):ff α H (σd.set i (some d)) (σ.set i (some v)):=by
 refine⟨by rw[RY,RY,h.len],λ j e q=>?_⟩;have hl:=h.len;by_cases hj:j=i
 . subst hj
   have hlt:j<σd.length:=by
    have:=(Rx.mp q).1;rw[RY]at this;exact this
   rw[RK hlt]at q;cases q;exact⟨v,RK (by omega),r⟩
 . rw[RB (RO hj)]at q;rw[RB (RO hj)];exact h.at' j e q
def LK(α:List (Option Addr))(G F:Hp)(K:DK)(Q:VK):Prop:=∀d st',K d st'->∀α' G' H' v,Step α G α' G'->cO G' F H'->aP α' st' G'->Rep α' G' d v->Q v H'
def Ji(α:List (Option Addr))(G F:Hp)(K:Bool->ag->Prop)(Q:Bool->Hp->Prop):Prop:=∀b st',K b st'->∀α' G' H',Step α G α' G'->cO G' F H'->aP α' st' G'->Q b H'
def QZ(α:List (Option Addr))(G F:Hp)(K:List D->ag->Prop)(Q:List V->Hp->Prop):Prop:=∀ds st',K ds st'->∀α' G' H' vs,Step α G α' G'->cO G' F H'->aP α' st' G'->aG α' G' ds vs->Q vs H'
inductive Qb(t:DE)(σ:L2.St)(H:Hp)(Q:VK):Prop
 |mk (α:List (Option Addr)) (σd:ck) (st:ag) (K:DK) (G F:Hp) (P:cO G F H) (R:ff α G σd σ) (S:aP α st G) (h:t σd st K) (k:LK α G F K Q):Qb t σ H Q
def LE(t:DE):TE:=Qb t
inductive PU(t:DT)(σ:L2.St)(H:Hp)(Q:Bool->Hp->Prop):Prop
 |mk (α:List (Option Addr)) (σd:ck) (st:ag) (K:Bool->ag->Prop) (G F:Hp) (P:cO G F H) (R:ff α G σd σ) (S:aP α st G) (h:t σd st K) (k:Ji α G F K Q):PU t σ H Q
def LT(t:DT):TT:=PU t
inductive PH(t:DA)(σ:L2.St)(H:Hp)(Q:List V->Hp->Prop):Prop
 |mk (α:List (Option Addr)) (σd:ck) (st:ag) (K:List D->ag->Prop) (G F:Hp) (P:cO G F H) (R:ff α G σd σ) (S:aP α st G) (h:t σd st K) (k:QZ α G F K Q):PH t σ H Q
def LA(t:DA):TA:=PH t
def LK.here{α:List (Option Addr)}{G F H:Hp}{K:DK}{Q:VK}(h:LK α G F K Q)(P:cO G F H){d:D}{st:ag}{v:V}(k:K d st)(S:aP α st G)(r:Rep α G d v):Q v H:=h d st k α G H v Step.refl P S r
def LK.at{α α1:List (Option Addr)}{G F G1:Hp}{K:DK}{Q:VK}(h:LK α G F K Q)(s:Step α G α1 G1):LK α1 G1 F K Q:=λ d st' k α' G' H' v s' P S r=>h d st' k α' G' H' v (s.trans s') P S r
def Ji.at{α α1:List (Option Addr)}{G F G1:Hp}{K:Bool->ag->Prop}{Q:Bool->Hp->Prop}(h:Ji α G F K Q)(s:Step α G α1 G1):Ji α1 G1 F K Q:=λ d st' k α' G' H' s' P S=>h d st' k α' G' H' (s.trans s') P S
section
variable {X:Cx}{a b c e:Expr}{es:List Expr}{ta tb tc te:DE}{pos:Pos}
def PE.imp{t t':TE}(h:PE X e t)(f:∀σ H Q,t' σ H Q->t σ H Q):PE X e t':=λ pins s σ H Q I q=>h pins s σ H Q I (f σ H Q q)
def PT.imp{t t':TT}(h:PT X e t)(f:∀σ H Q,t' σ H Q->t σ H Q):PT X e t':=λ pins s σ H Q I q=>h pins s σ H Q I (f σ H Q q)
def PW.imp{t t':TT}(h:PW X e t)(f:∀σ H Q,t' σ H Q->t σ H Q):PW X e t':=λ w pins s σ H Q I q=>h w pins s σ H Q I (f σ H Q q)
def PA.imp{t t':TA}(h:PA X es t)(f:∀σ H Q,t' σ H Q->t σ H Q):PA X es t':=λ p pins s σ H Q I q=>h p pins s σ H Q I (f σ H Q q)
def ae(i:Nat):DE:=λ σ st K=>match σ[i]? with|some (some d)=>K d st|_=>False
def dC(d:D):DE:=λ _ st K=>K d st
def OH{i:Nat}{x:Str}(h:PE X (.Name x pos) (NN i)):PE X (.Name x pos) (LE (ae i)):=PE.imp h λ σ H Q ⟨α,σd,st,K,G,F,P,R,S,t,k⟩=>by
 unfold ae at t;split at t
 . rename_i d q;obtain⟨v,e,r⟩:=R.at' i d q;exact⟨v,e,k.here P t S r⟩
 . exact t.elim
def rB{v:V}{d:D}(h:PE X e (tC v))(r:∀α H,Rep α H d v):PE X e (LE (dC d)):=PE.imp h λ σ H Q ⟨α,σd,st,K,G,F,P,R,S,t,k⟩=>k.here P t S (r α G)
def Od{i:Int}{j:Nat}:PE X (.Constant (.int i) j pos) (LE (dC (.int i))):=rB Mh λ _ _=>by unfold Rep;rfl
def Qu{i:Bool}{j:Nat}:PE X (.Constant (.bool i) j pos) (LE (dC (.bl i))):=rB O3 λ _ _=>by unfold Rep;rfl
def OM{i:Str}{j:Nat}:PE X (.Constant (.str i) j pos) (LE (dC (.str i))):=rB M4 λ _ _=>by unfold Rep;rfl
def Pl{j:Nat}:PE X (.Constant .none j pos) (LE (dC .aF)):=rB L4 λ _ _=>by unfold Rep;rfl
abbrev d9:=D->D->ag->DK->Prop
abbrev AI:=D->ag->DK->Prop
abbrev fI:=List D->ag->DK->Prop
inductive PC(r:d9)(x y:V)(H:Hp)(Q:VK):Prop
 |mk (α:List (Option Addr)) (d e:D) (st:ag) (K:DK) (G F:Hp) (P:cO G F H) (rx:Rep α G d x) (ry:Rep α G e y) (S:aP α st G) (h:r d e st K) (k:LK α G F K Q):PC r x y H Q
def LR(r:d9):R2:=PC r
inductive NI(r:AI)(x:V)(H:Hp)(Q:VK):Prop
 |mk (α:List (Option Addr)) (d:D) (st:ag) (K:DK) (G F:Hp) (P:cO G F H) (rx:Rep α G d x) (S:aP α st G) (h:r d st K) (k:LK α G F K Q):NI r x H Q
def IM(r:AI):V->Hp->VK->Prop:=NI r
inductive NQ(r:fI)(xs:List V)(H:Hp)(Q:VK):Prop
 |mk (α:List (Option Addr)) (ds:List D) (st:ag) (K:DK) (G F:Hp) (P:cO G F H) (rx:aG α G ds xs) (S:aP α st G) (h:r ds st K) (k:LK α G F K Q):NQ r xs H Q
def gc(r:fI):List V->Hp->VK->Prop:=NQ r
def aw(r:d9)(ta tb:DE):DE:=λ σ st K=>ta σ st λ x st1=>tb σ st1 λ y st2=>r x y st2 K
def td(r:AI)(ta:DE):DE:=λ σ st K=>ta σ st λ x st1=>r x st1 K
def LE.op{r:d9}{σ:L2.St}{H:Hp}{Q:VK}(h:LE (aw r ta tb) σ H Q):E4 (LR r) (LE ta) (LE tb) σ H Q:=by
 obtain⟨α,σd,st,K,G,F,P,R,S,t,k⟩:=h;refine⟨α,σd,st,_,G,F,P,R,S,t,λ d st1 q α1 G1 H1 v s1 P1 S1 r1=>?_⟩;refine⟨α1,σd,st1,_,G1,F,P1,R.step s1,S1,q,λ d2 st2 q2 α2 G2 H2 v2 s2 P2 S2 r2=>?_⟩;exact⟨α2,d,d2,st2,K,G2,F,P2,r1.step s2,r2,S2,q2,(k.at s1).at s2⟩
def LE.un{r:AI}{σ:L2.St}{H:Hp}{Q:VK}(h:LE (td r ta) σ H Q):PD (IM r) (LE ta) σ H Q:=by
 obtain⟨α,σd,st,K,G,F,P,R,S,t,k⟩:=h;refine⟨α,σd,st,_,G,F,P,R,S,t,λ d st1 q α1 G1 H1 v s1 P1 S1 r1=>?_⟩;exact⟨α1,d,st1,K,G1,F,P1,r1,S1,q,k.at s1⟩
def Qv{op:Operator}{r:d9}(ho:cE X (binaryOp op) (LR r))(ha:PE X a (LE ta))(hb:PE X b (LE tb)):PE X (.BinOp a op b pos) (LE (aw r ta tb)):=PE.imp (Pc ho ha hb) λ _ _ _ h=>LE.op h
def Qq{op:UnaryOp}{r:AI}(ho:CB X (unaryOp op) (IM r))(ha:PE X a (LE ta)):PE X (.UnaryOp op a pos) (LE (td r ta)):=PE.imp (OC ho ha) λ _ _ _ h=>LE.un h
def Pk{op:CmpOp}{r:d9}(ho:cE X (compareOp op) (LR r))(ha:PE X a (LE ta))(hb:PE X b (LE tb))(hm:behindInMarks op b=false:=by first|exact cp _|rfl):PE X (.Compare a [op] [b] pos) (LE (aw r ta tb)):=PE.imp (JH ho ha hb hm) λ _ _ _ h=>LE.op h
def cu(t:DE):DT:=λ σ st K=>t σ st λ d st1=>match d with| .bl b=>K b st1|_=>False
def LT.test{σ:L2.St}{H:Hp}{Q:Bool->Hp->Prop}(h:LT (cu te) σ H Q):LE te σ H λ x H'=>∃k,x= .bl k/\Q k H':=by
 obtain⟨α,σd,st,K,G,F,P,R,S,t,k⟩:=h;refine⟨α,σd,st,_,G,F,P,R,S,t,λ d st1 q α1 G1 H1 v s1 P1 S1 r1=>?_⟩;cases d with
 |bl b=>
  unfold Rep at r1;exact⟨b,r1,k b st1 q α1 G1 H1 s1 P1 S1⟩
 |_=>exact q.elim
def MU{op:CmpOp}{r:d9}(ho:cE X (compareOp op) (LR r))(ha:PE X a (LE ta))(hb:PE X b (LE tb))(hm:behindInMarks op b=false:=by first|exact cp _|rfl):PT X (.Compare a [op] [b] pos) (LT (cu (aw r ta tb))):=PT.imp (La ho ha hb hm) λ σ H Q h=>by
 have q:=LT.test h;exact LE.op (Q:=λ x H'=>∃k,x= .bl k/\Q k H') q
def Md(he:PE X e (LE te))(hv:∀whole,isTrue e X.env whole=(do let v <-whole;standAt e.pos;holding [v] (truthy v)):=by intro _;rfl):PT X e (LT (cu te)):=PT.imp (Lu he hv) λ σ H Q h=>LT.test h
def kY(t:DT):DT:=λ σ st K=>t σ st λ b st1=>K (!b) st1
def zG(t u:DT):DT:=λ σ st K=>t σ st λ b st1=>if b=true then u σ st1 K else K false st1
def oy(t u:DT):DT:=λ σ st K=>t σ st λ b st1=>if b=true then K true st1 else u σ st1 K
def LY{t:DT}(ha:PT X a (LT t)):PT X (.UnaryOp .Not a pos) (LT (kY t)):=PT.imp (Mf ha) λ σ H Q ⟨α,σd,st,K,G,F,P,R,S,t,k⟩=>
 ⟨α,σd,st,_,G,F,P,R,S,t,λ b st1 q α1 G1 H1 s1 P1 S1=>k _ st1 q α1 G1 H1 s1 P1 S1⟩
def LT.and{t u:DT}{σ:L2.St}{H:Hp}{Q:Bool->Hp->Prop}(h:LT (zG t u) σ H Q):Mj (LT t) (LT u) σ H Q:=by
 obtain⟨α,σd,st,K,G,F,P,R,S,t,k⟩:=h;refine⟨α,σd,st,_,G,F,P,R,S,t,λ b st1 q α1 G1 H1 s1 P1 S1=>?_⟩;cases b with
 |true=>exact⟨α1,σd,st1,K,G1,F,P1,R.step s1,S1,q,k.at s1⟩
 |false=>exact k _ st1 q α1 G1 H1 s1 P1 S1
def LT.or{t u:DT}{σ:L2.St}{H:Hp}{Q:Bool->Hp->Prop}(h:LT (oy t u) σ H Q):PY (LT t) (LT u) σ H Q:=by
 obtain⟨α,σd,st,K,G,F,P,R,S,t,k⟩:=h;refine⟨α,σd,st,_,G,F,P,R,S,t,λ b st1 q α1 G1 H1 s1 P1 S1=>?_⟩;cases b with
 |false=>exact⟨α1,σd,st1,K,G1,F,P1,R.step s1,S1,q,k.at s1⟩
 |true=>exact k _ st1 q α1 G1 H1 s1 P1 S1
def KL{t:DT}(ha:PT X a (LT t)):PW X (.BoolOp .And [a] pos) (LT t):=pw_and1 ha
def Mn{t:DT}(ha:PT X a (LT t)):PW X (.BoolOp .Or [a] pos) (LT t):=pw_or1 ha
def LJ{t u:DT}(ha:PT X a (LT t))(hb:PW X (.BoolOp .And (b::es) pos) (LT u)):PW X (.BoolOp .And (a::b::es) pos) (LT (zG t u)):=PW.imp (pw_and ha hb) λ _ _ _ h=>LT.and h
def OT{t u:DT}(ha:PT X a (LT t))(hb:PW X (.BoolOp .Or (b::es) pos) (LT u)):PW X (.BoolOp .Or (a::b::es) pos) (LT (oy t u)):=PW.imp (pw_or ha hb) λ _ _ _ h=>LT.or h
def xI(ta tb:DE):DE:=λ σ st K=>ta σ st λ d st1=>match d with| .bl b=>if b=true then tb σ st1 K else K (.bl false) st1|_=>False
def DF(t:DT):DE:=λ σ st K=>t σ st λ b st1=>K (.bl (!b)) st1
def OL{op:BoolOp}(ha:PE X a (LE ta)):PE X (.BoolOp op [a] pos) (LE ta):=LX ha
def OU(ha:PE X a (LE ta))(hb:PE X (.BoolOp .And (b::es) pos) (LE tb)):PE X (.BoolOp .And (a::b::es) pos) (LE (xI ta tb)):=PE.imp (Ma ha hb) λ σ H Q ⟨α,σd,st,K,G,F,P,R,S,t,k⟩=>by
 refine⟨α,σd,st,_,G,F,P,R,S,t,λ d st1 q α1 G1 H1 v s1 P1 S1 r1=>?_⟩;cases d with
 |bl b=>
  unfold Rep at r1;refine⟨b,r1,?_⟩;cases b with
  |true=>exact⟨α1,σd,st1,K,G1,F,P1,R.step s1,S1,q,k.at s1⟩
  |false=>exact k _ st1 q α1 G1 H1 _ s1 P1 S1 (by unfold Rep;rfl)
 |_=>exact q.elim
def OY(ha:PE X a (LE ta)):PE X (.UnaryOp .Not a pos) (LE (DF (cu ta))):=PE.imp (L7 ha) λ σ H Q ⟨α,σd,st,K,G,F,P,R,S,t,k⟩=>by
 refine⟨α,σd,st,_,G,F,P,R,S,t,λ d st1 q α1 G1 H1 v s1 P1 S1 r1=>?_⟩;cases d with
 |bl b=>
  unfold Rep at r1;exact⟨b,r1,k _ st1 q α1 G1 H1 _ s1 P1 S1 (by unfold Rep;rfl)⟩
 |_=>exact q.elim
def Je(t:DT)(ta tb:DE):DE:=λ σ st K=>t σ st λ b st1=>if b=true then ta σ st1 K else tb σ st1 K
def OX{t:DT}(hc:PT X c (LT t))(ha:PE X a (LE ta))(hb:PE X b (LE tb)):PE X (.IfExp c a b pos) (LE (Je t ta tb)):=PE.imp (G0 hc ha hb) λ σ H Q ⟨α,σd,st,K,G,F,P,R,S,t,k⟩=>by
 refine⟨α,σd,st,_,G,F,P,R,S,t,λ b st1 q α1 G1 H1 s1 P1 S1=>?_⟩;cases b with
 |true=>exact⟨α1,σd,st1,K,G1,F,P1,R.step s1,S1,q,k.at s1⟩
 |false=>exact⟨α1,σd,st1,K,G1,F,P1,R.step s1,S1,q,k.at s1⟩
def ak:DA:=λ _ st K=>K [] st
def af(ta:DE)(tr:DA):DA:=λ σ st K=>ta σ st λ x st1=>tr σ st1 λ xs st2=>K (x::xs) st2
def ur:PA X [] (LA ak):=PA.imp LN λ σ H Q ⟨α,σd,st,K,G,F,P,R,S,t,k⟩=>k [] st t α G H [] Step.refl P S (by unfold aG;rfl)
def rR{tr:DA}(ha:PE X e (LE te))(hr:PA X es (LA tr))(hs:starEach (e::es) X.env=(false,eval e X.env)::starEach es X.env:=by rfl):PA X (e::es) (LA (af te tr)):=PA.imp (JZ ha hr hs) λ σ H Q ⟨α,σd,st,K,G,F,P,R,S,t,k⟩=>by
 refine⟨α,σd,st,_,G,F,P,R,S,t,λ d st1 q α1 G1 H1 v s1 P1 S1 r1=>?_⟩;refine⟨α1,σd,st1,_,G1,F,P1,R.step s1,S1,q,λ ds st2 q2 α2 G2 H2 vs s2 P2 S2 r2=>?_⟩;exact k _ st2 q2 α2 G2 H2 (v::vs) (s1.trans s2) P2 S2 (by unfold aG;exact⟨v,vs,rfl,r1.step s2,r2⟩)
def mF(t:DA):DE:=λ σ st K=>t σ st λ ds st1=>ds.length<=sizeLine/\K (.tup ds) st1
def jR(t:DA):DE:=λ σ st K=>t σ st λ ds st1=>ds.length<=sizeLine/\K (.lst ds) st1
def vY(t:DA):DE:=λ σ st K=>t σ st λ ds st1=>ds.length<=sizeLine/\K (.ref st1.length) (st1++[.lst ds])
def LK.tup{α:List (Option Addr)}{G F H:Hp}{K:DK}{Q:VK}{ds:List D}{vs:List V}{st:ag}{p:Addr}(k:LK α G F K Q)(P:cO G F H)(q:K (.tup ds) st)(S:aP α st G)(r:aG α G ds vs)(hp:H p=none):Q (.ref p) (upd H p (.tup vs)):=
 have hg:=(P.none hp).1
 k _ st q α _ _ _ (Step.laid hg) (P.laid hp) (S.laid hg) (by unfold Rep;exact⟨p,vs,rfl,S.mE hg,aW,r.step (Step.laid hg)⟩)
def LK.lst{α:List (Option Addr)}{G F H:Hp}{K:DK}{Q:VK}{ds:List D}{vs:List V}{st:ag}{p:Addr}(k:LK α G F K Q)(P:cO G F H)(q:K (.lst ds) st)(S:aP α st G)(r:aG α G ds vs)(hp:H p=none):Q (.ref p) (upd H p (.lst vs)):=
 have hg:=(P.none hp).1
 k _ st q α _ _ _ (Step.laid hg) (P.laid hp) (S.laid hg) (by unfold Rep;exact⟨p,vs,rfl,S.mE hg,.of aW,r.step (Step.laid hg)⟩)
def LK.new{α:List (Option Addr)}{G F H:Hp}{K:DK}{Q:VK}{ds:List D}{vs:List V}{st:ag}{p:Addr}(k:LK α G F K Q)(P:cO G F H)(q:K (.ref st.length) (st++[.lst ds]))(S:aP α st G)(r:aG α G ds vs)(hp:H p=none):Q (.ref p) (upd H p (.lst vs)):=
 have hg:=(P.none hp).1
 k _ _ q (α++[some p]) _ _ _ (Step.cell hg) (P.laid hp) (S.cell hg ⟨vs,aW,r.step (Step.cell hg)⟩) (by
  unfold Rep;refine .inr ⟨p,?_,rfl⟩;rw[Sh (by rw[S.len];exact Ry _),S.len,TU];rfl)
def Oe{n:Nat}{t:DA}(h:PA X es (LA t)):PE X (.Tuple es n pos) (LE (mF t)):=PE.imp (MH h) λ σ H Q ⟨α,σd,st,K,G,F,P,R,S,t,k⟩=>
 ⟨α,σd,st,_,G,F,P,R,S,t,λ ds st1 q α1 G1 H1 vs s1 P1 S1 r1=>⟨by rw[<-r1.length];exact q.1,λ p hp=>(k.at s1).tup P1 q.2 S1 r1 hp⟩⟩
def OI{t:DA}(h:PA X es (LA t)):PE X (.List es pos) (LE (jR t)):=PE.imp (Fw h) λ σ H Q ⟨α,σd,st,K,G,F,P,R,S,t,k⟩=>
 ⟨α,σd,st,_,G,F,P,R,S,t,λ ds st1 q α1 G1 H1 vs s1 P1 S1 r1=>⟨by rw[<-r1.length];exact q.1,λ p hp=>(k.at s1).lst P1 q.2 S1 r1 hp⟩⟩
def Ol{t:DA}(h:PA X es (LA t)):PE X (.List es pos) (LE (vY t)):=PE.imp (Fw h) λ σ H Q ⟨α,σd,st,K,G,F,P,R,S,t,k⟩=>
 ⟨α,σd,st,_,G,F,P,R,S,t,λ ds st1 q α1 G1 H1 vs s1 P1 S1 r1=>⟨by rw[<-r1.length];exact q.1,λ p hp=>(k.at s1).new P1 q.2 S1 r1 hp⟩⟩
abbrev c_:=List D->ag->DK->Prop
inductive NK(T:c_)(vs:List V)(H:Hp)(Q:VK):Prop
 |mk (α:List (Option Addr)) (ds:List D) (st:ag) (K:DK) (G F:Hp) (P:cO G F H) (rx:aG α G ds vs) (S:aP α st G) (h:T ds st K) (k:LK α G F K Q):NK T vs H Q
def dq(S:c_):Sp:=λ vs H Q _=>NK S vs H Q
def aK(S:c_)(t:DA):DE:=λ σ st K=>t σ st λ ds st1=>S ds st1 K
def LE.call{S:c_}{t:DA}{σ:L2.St}{H:Hp}{Q:VK}(h:LE (aK S t) σ H Q):IA (dq S) [] E0 (LA t) σ H Q:=by
 obtain⟨α,σd,st,K,G,F,P,R,S,t,k⟩:=h;refine⟨α,σd,st,_,G,F,P,R,S,t,λ ds st1 q α1 G1 H1 vs s1 P1 S1 r1=>?_⟩;try dsimp only
 rw[Tp];exact⟨α1,ds,st1,K,G1,F,P1,r1,S1,q,k.at s1⟩
def Nk{S:c_}{k:Nat}{f:Addr}{fd:FuncData}{ps:List Str}{x:Str}{p:Pos}{t:DA}(F:cm X.prog X.w X.K X.mg X.base di k f fd ps (dq S))(hr:du k X.A)(hg:Gl X x)(hm:X.mg x=some (.ref f))(hk:PySem.W.keepIn X.K (.ref f)=true)(hb:Binds X.K fd ps [])
 (ha:PA X (e::es) (LA t)) (hdb:(x==("__debug__":Str))=false:=by decide) (he:starEach (e::es) X.env=(false,eval e X.env)::starEach es X.env:=by rfl) (hpl:(backTo pos (starEach es X.env)).any (·.1)=false:=by rfl):
 PE X (.Call (.Name x p) (e::es) [] pos) (LE (aK S t)):=PE.imp (Kj F hr hg hm hk hb .nil EC ha hdb he hpl) λ _ _ _ h=>LE.call h
def bV(r:fI)(t:DA):DE:=λ σ st K=>t σ st λ ds st1=>r ds st1 K
def LE.cb{r:fI}{t:DA}{σ:L2.St}{H:Hp}{Q:VK}(h:LE (bV r t) σ H Q):M5 (gc r) (LA t) σ H Q:=by
 obtain⟨α,σd,st,K,G,F,P,R,S,t,k⟩:=h;refine⟨α,σd,st,_,G,F,P,R,S,t,λ ds st1 q α1 G1 H1 vs s1 P1 S1 r1=>?_⟩;exact⟨α1,ds,st1,K,G1,F,P1,r1,S1,q,k.at s1⟩
end
section
variable {X:Cx}
def cE.imp{f:Value->Value->Sem Value}{r r':R2}(h:cE X f r)(k:∀x y H Q,r' x y H Q->r x y H Q):cE X f r':=λ pins s σ H x y v u Q I rx ry q=>h pins s σ H x y v u Q I rx ry (k x y H Q q)
def cj.imp{f:Value}{r r':List V->Hp->VK->Prop}(h:cj X f r)(k:∀xs H Q,r' xs H Q->r xs H Q):cj X f r':=λ pins s σ H xs us Q I rs q=>h pins s σ H xs us Q I rs (k xs H Q q)
def wx(C:Int->Int->Prop)(g:Int->Int->D):d9:=λ x y st K=>match x,y with| .int i,.int j=>C i j/\K (g i j) st|_,_=>False
def mN{f:Value->Value->Sem Value}{C:Int->Int->Prop}{g:Int->Int->D}{g':Int->Int->V}(hg:∀i j α H,Rep α H (g i j) (g' i j))(h:cE X f (rI C g')):cE X f (LR (wx C g)):=cE.imp h λ x y H Q ⟨α,d,e,st,K,G,F',P,r1,r2,S,q,k⟩=>by
 cases d<;>cases e<;>first
  |exact q.elim
  |(unfold Rep at r1 r2;exact⟨_,_,r1,r2,q.1,k.here P q.2 S (hg _ _ _ _)⟩)
abbrev T2:Int->Int->Prop:=λ _ _=>True
def zT{g:Int->Int->V}{f:Value->Value->Sem Value}(h:cE X f (yZ g)):cE X f (rI T2 g):=cE.imp h λ x y H Q ⟨i,j,e1,e2,_,q⟩=>⟨i,j,e1,e2,q⟩
abbrev IE:d9:=wx T2 λ i j=> .int (i-j)
abbrev Fm:d9:=wx (λ _ j=>j≠0/\j.natAbs.log2<9000) λ i j=> .int (i.fdiv j)
abbrev Il:d9:=wx (λ _ j=>j≠0) λ i j=> .int (i.fmod j)
abbrev Iq:d9:=wx Ho λ i j=> .int (i^j.toNat)
abbrev Nx:d9:=wx T2 λ i j=> .bl (decide (i<j))
abbrev L9:d9:=wx T2 λ i j=> .bl (decide (j<i))
abbrev NC:d9:=wx T2 λ i j=> .bl (decide (j<=i))
def OK:cE X (binaryOp .Sub) (LR IE):=mN (λ _ _ _ _=>by unfold Rep;rfl) (zT Mz)
def LV:cE X (binaryOp .FloorDiv) (LR Fm):=mN (λ _ _ _ _=>by unfold Rep;rfl) (IW λ i j _ _ _ _ _ hc q=>floordiv_int hc.1 q (.inl (PyProof.noPylong_of_log2 hc.2)))
def N9:cE X (binaryOp .Mod) (LR Il):=mN (λ _ _ _ _=>by unfold Rep;rfl) K0
def Pm:cE X (binaryOp .Pow) (LR Iq):=mN (λ _ _ _ _=>by unfold Rep;rfl) Mb
def QH:cE X (compareOp .Lt) (LR Nx):=mN (λ _ _ _ _=>by unfold Rep;rfl) (zT Oh)
def QK:cE X (compareOp .Gt) (LR L9):=mN (λ _ _ _ _=>by unfold Rep;rfl) (zT N5)
def QD:cE X (compareOp .GtE) (LR NC):=mN (λ _ _ _ _=>by unfold Rep;rfl) (zT Pw)
def Ir:AI:=λ x st K=>match x with| .int i=>K (.int (-i)) st|_=>False
def Pe:CB X (unaryOp .USub) (IM Ir):=λ pins s σ H x v Q I rx ⟨α,d,st,K,G,F',P,r,S,q,k⟩=>by
 cases d<;>first
  |exact q.elim
  |(unfold Rep at r;exact NL pins s σ H x v Q I rx ⟨_,r,k.here P q S (by unfold Rep;rfl)⟩)
def Inv.se{pins:List (Addr×Obj)}{σ:L2.St}{H:Hp}{s:Shared}{l:Addr}{xs:List V}(I:Inv X pins σ H s)(h:Rd H l (.lst xs)):
 xs.length<=sizeLine/\∃(its:List Value) (n:Nat),Vals xs its/\xs.length=its.length/\s.heap.get? l=some {cls:= .type "list",data:= .seq its.toArray n}:=by
 obtain⟨z,its,n,r,e⟩:=h.ok I.aL;exact⟨z,its,n,r,r.length,e⟩
def fK{G F H:Hp}(P:cO G F H){a:Addr}{u:HO}(h:Rd G a u):Rd H a u:=by
 rcases h with h|⟨o,h⟩
 . exact .inl (P.get h)
 . exact .inr ⟨o,P.get h⟩
def yj:cE X (binaryOp .Add) (λ x y H Q=>∃l b xs zs,x= .ref l/\y= .ref b/\Rd H l (.lst xs)/\Rd H b (.lst zs)/\xs.length+zs.length<=sizeLine/\∀p,H p=none->Q (.ref p) (upd H p (.lst (xs++zs)))):=by
 intro pins s σ H x y v u Q I rx ry h;obtain⟨l,b,xs,zs,rfl,rfl,hH,hB,hz,q⟩:=h;cases rx;cases ry;obtain⟨z,its,n,r,hl,e⟩:=Inv.se I hH;obtain⟨z2,its2,n2,r2,hl2,e2⟩:=Inv.se I hB;refine PySem.P.add_list e e2 ?_ (by rw[RI,RI];omega);have ea:its.toArray++its2.toArray=(its++its2).toArray:=by simp
 rw[ea];exact⟨.ref _,_,I.HF (t':=s.toks) (r.append r2) (by rw[SW];omega),rfl,q _ I.fresh⟩
def KY:cE X (binaryOp .Mult) (λ x y H Q=>∃l k xs,x= .ref l/\y= .int k/\Rd H l (.lst xs)/\ -(2^63)<=k/\k<2^63/\xs.length*k.toNat<=sizeLine/\
 ∀p,H p=none->Q (.ref p) (upd H p (.lst (List.replicate k.toNat xs).flatten))):=by
 intro pins s σ H x y v u Q I rx ry h;obtain⟨l,k,xs,rfl,rfl,hH,h1,h2,hz,q⟩:=h;cases rx;obtain⟨t,rfl⟩:=ry;obtain⟨z,its,n,r,hl,e⟩:=Inv.se I hH;have hlen:its.toArray.size*k.toNat<=sizeLine:=by rw[RI,<-hl];exact hz
 have hcap:¬its.toArray.size*k.toNat>(2^63-1)/8:=by
  have:(sizeLine:Nat)<=(2^63-1)/8:=by decide
  omega
 have hfit:¬(!Builtin.List.listFitsIndex k)=true:=by
  rw[fitsIndex_both h1 h2];exact SJ
 have hlong:¬Builtin.List.listTooLong (its.toArray.size*k.toNat)=true:=by
  rw[HU hlen];exact SJ
 have hnew:List.foldl (λ x1 x2=>x1++x2) #[] (List.replicate (if its.toArray.isEmpty=true then 0 else k.toNat) its.toArray)=(List.replicate k.toNat its).flatten.toArray:=by
  have f0:∀m:Nat,List.foldl (λ x1 x2=>x1++x2) #[] (List.replicate m its.toArray)=(List.replicate m its).flatten.toArray:=λ m=>by
   have:=foldl_rep its m [];rw[Wt]at this;exact this
  rw[f0];cases its with
  |nil=>simp
  |cons a r'=>rw[RE (by simp)]
 refine V8 (T:="list") (U:="int") (by decide) ⟨_,e,rfl⟩ (λ s'=>V7 s' k t) noFill_list_mul F.fills_int_mul VF repeat_list F.slot_int_index.lookup
  (UC VF (V7 s k t) F.entry_int_rmul (F.args_int_rmul_2 _ _) (int___rmul___int_list k t l its.toArray n)
    ⟨e,rfl,⟨_,e,rfl⟩,UC F.slot_list_mul ⟨_,e,rfl⟩ F.entry_list_mul (F.args_list_mul_2 _ _) (AutoListH.list___mul___list_int_3 l its.toArray n k t hfit hcap hlong) ⟨e,?_⟩⟩)
 rw[hnew];exact⟨.ref _,_,I.HF (t':=s.toks) (r.rep k.toNat) (by rw[len_rep,TC];exact hz),rfl,q _ I.fresh⟩
def Hi:cE X (binaryOp .Add) (λ x y H Q=>∃a b xs ys,x= .ref a/\y= .ref b/\H a=some (.tup xs)/\H b=some (.tup ys)/\xs.length+ys.length<=sizeLine/\
 (xs=[]->Q (.ref b) H)/\(xs≠ []->ys=[]->Q (.ref a) H)/\(xs≠ []->ys≠ []->∀p,H p=none->Q (.ref p) (upd H p (.tup (xs++ys))))):=by
 intro pins s σ H x y v u Q I rx ry h;obtain⟨a,b,xs,ys,rfl,rfl,ha,hb,hz,q0,q1,q2⟩:=h;by_cases hx:xs=[]
 . cases rx;cases ry;obtain⟨its,r1,p1,_⟩:=I.tuple (.of ha);obtain⟨its2,r2,p2,_⟩:=I.tuple (.of hb);obtain⟨⟨cls,dd,data,sl⟩,ho,hc,n,hd⟩:=id p1;obtain⟨⟨cls2,dd2,data2,sl2⟩,ho2,hc2,n2,hd2⟩:=id p2;simp only at hc hd hc2 hd2;subst hc hd hc2 hd2;have hi:its=[]:=(L2.Vals.uV r1).mpr hx
   exact W0 ⟨_,ho,rfl⟩ ⟨_,ho2,rfl⟩ Wd WX Vp Ve (U8 _ _)
    (tuple_addW0 a b its.toArray its2.toArray n n2 dd dd2 sl sl2 (by simp[hi])) ⟨ho,ho2,⟨.ref b,H,I,rfl,q0 hx⟩⟩
 . exact Ki pins s σ H _ _ v u Q I rx ry ⟨a,b,xs,ys,rfl,rfl,.of ha,.of hb,hx,hz,q1 hx,q2 hx⟩
def yd:fillsNumberSlot (.type "tuple") "mul"=pure false:=
 PySem.fillsNumberSlot_seq (id:="tuple.__mul__") (r:=some (.builtin "tuple.__rmul__")) UQ.lookup (by decide+kernel) F.slot_tuple_rmul.lookup (by decide+kernel)
def Dl:seqRepeat? (.type "tuple")=pure (some (.builtin "tuple.__mul__")):=by
 unfold seqRepeat?;rw[PySem.seqSlot_of (T:="tuple") (name:="__mul__") (id:="tuple.__mul__") UQ.lookup (by decide+kernel),PySem.seqSlot_of (T:="tuple") (name:="__rmul__") (id:="tuple.__rmul__") F.slot_tuple_rmul.lookup (by decide+kernel)];rfl
def Bx(a:Int)(t:Tok)(l:Addr)(its:Array Value)(n:Nat)(dd:Option Addr)(sl:Array (Option Value)):Meets (Builtin.«int.__rmul__» ⟨[.int a t,.ref l],[]⟩) (λ _ R s=>s.heap.get? l=some {cls:= .type "tuple",dict:=dd,data:= .seq its n,slots:=sl}/\R (.ok (.ret Value.notImplemented)) s):=
 .of_wp λ P w A R s h=>by
  obtain⟨hp,g,d,tk,os⟩:=s;obtain⟨hl,h⟩:=h
  wp_walk
  exact⟨_,rfl,h⟩
def Ay(l:Addr)(its:Array Value)(n:Nat)(dd:Option Addr)(sl:Array (Option Value))(x:Int)(u:Tok)(h0:(decide (x< -(2^63))||decide (x>=2^63))=false)(h1:(its.isEmpty||x==1)=true):
 Meets (Builtin.«tuple.__mul__» ⟨[.ref l,.int x u],[]⟩) (λ _ R s=>s.heap.get? l=some {cls:= .type "tuple",dict:=dd,data:= .seq its n,slots:=sl}/\R (.ok (.ret (.ref l))) s):=
 .of_wp λ P w A R s h=>by
  obtain⟨hp,g,d,tk,os⟩:=s;obtain⟨hl,h⟩:=h
  wp_walk
  refine VG (by rw[h0];rfl) ?_
  wp_walk
  exact⟨_,rfl,h⟩
def Ap(l:Addr)(its:Array Value)(n:Nat)(dd:Option Addr)(sl:Array (Option Value))(x:Int)(u:Tok)(h0:(decide (x< -(2^63))||decide (x>=2^63))=false)(h1:(its.isEmpty||x==1)=false)(h2:(decide (x<=0)||its.isEmpty)=true):
 Meets (Builtin.«tuple.__mul__» ⟨[.ref l,.int x u],[]⟩) (λ _ R s=>s.heap.get? l=some {cls:= .type "tuple",dict:=dd,data:= .seq its n,slots:=sl}/\R (.ok (.ret (.ref s.heap.objs.size))) {s with heap:=s.heap.push {cls:= .type "tuple",data:= .seq #[]}}):=
 .of_wp λ P w A R s h=>by
  obtain⟨hp,g,d,tk,os⟩:=s;obtain⟨hl,h⟩:=h
  wp_walk
  refine VG (by rw[h0];rfl) ?_
  wp_walk
  exact⟨_,rfl,h⟩
def AK(l:Addr)(its:Array Value)(n:Nat)(dd:Option Addr)(sl:Array (Option Value))(x:Int)(u:Tok)(h0:(decide (x< -(2^63))||decide (x>=2^63))=false)(h1:(its.isEmpty||x==1)=false)(h2:(decide (x<=0)||its.isEmpty)=false)(h3:¬((its.size:Int)*x>(2^63-1)/8))(h4:Builtin.Tuple.tupleTooMany (its.size*x)=false)
 (hz:(List.foldl (λ x1 x2=>x1++x2) #[] (List.replicate x.toNat its)).size<=sizeLine):
 Meets (Builtin.«tuple.__mul__» ⟨[.ref l,.int x u],[]⟩) (λ _ R s=>s.heap.get? l=some {cls:= .type "tuple",dict:=dd,data:= .seq its n,slots:=sl}/\R (.ok (.ret (.ref s.heap.objs.size))) {s with heap:=s.heap.push {cls:= .type "tuple",data:= .seq (List.foldl (λ x1 x2=>x1++x2) #[] (List.replicate x.toNat its))}}):=
 .of_wp λ P w A R s h=>by
  obtain⟨hp,g,d,tk,os⟩:=s;obtain⟨hl,h⟩:=h
  wp_walk
  refine VG (by rw[h0];rfl) ?_
  wp_walk
  refine VG (Su h3) ?_
  wp_walk
  exact⟨_,rfl,h⟩
def JL:cE X (binaryOp .Mult) (λ x y H Q=>∃l k xs,x= .ref l/\y= .int k/\H l=some (.tup xs)/\ -(2^63)<=k/\k<2^63/\xs.length*k.toNat<=sizeLine/\
 ((xs=[]\/k=1)->Q (.ref l) H)/\(¬(xs=[]\/k=1)->∀p,H p=none->Q (.ref p) (upd H p (.tup (List.replicate k.toNat xs).flatten)))):=by
 intro pins s σ H x y v u Q I rx ry h;obtain⟨l,k,xs,rfl,rfl,hH,h1,h2,hz,q1,q2⟩:=h;cases rx;obtain⟨t,rfl⟩:=ry;obtain⟨its,r,p1,_⟩:=I.tuple (.of hH);obtain⟨⟨cls,dd,data,sl⟩,ho,hc,n,hd⟩:=id p1;simp only at hc hd;subst hc hd;have hl:xs.length=its.length:=r.length
 have f0:(decide (k< -(2^63))||decide (k>=2^63))=false:=by
  rw[Su (by omega),Su (by omega)];rfl
 refine V8 (T:="tuple") (U:="int") (by decide) ⟨_,ho,rfl⟩ (λ s'=>V7 s' k t) yd F.fills_int_mul VF Dl F.slot_int_index.lookup
  (UC VF (V7 s k t) F.entry_int_rmul (F.args_int_rmul_2 _ _) (Bx k t l its.toArray n dd sl) ⟨ho,rfl,⟨_,ho,rfl⟩,?_⟩)
 by_cases hs:xs=[]\/k=1
 . have f1:(its.toArray.isEmpty||k==1)=true:=by
    rcases hs with z|z
    . have:its=[]:=Tr.mp (by rw[<-hl,z];rfl);rw[this];rfl
    . rw[z];simp
   exact UC UQ ⟨_,ho,rfl⟩ V6 (VY _ _) (Ay l its.toArray n dd sl k t f0 f1) ⟨ho,⟨.ref l,H,I,rfl,q1 hs⟩⟩
 . have hne:its≠ []:=λ z=>hs (.inl (Tr.mp (by rw[hl,z];rfl)));have hk1:k≠1:=λ z=>hs (.inr z);have e1:its.toArray.isEmpty=false:=by simpa using hne
   have f1:(its.toArray.isEmpty||k==1)=false:=by rw[e1];simpa using hk1
   have new:∀(us:List Value) (ys:List V),Vals ys us->ys.length<=sizeLine->Inv X pins σ (upd H s.heap.objs.size (.tup ys)) {s with heap:=s.heap.push {cls:= .type "tuple",data:= .seq us.toArray}}:=λ us ys hv hy=>
    I.laid (t':=s.toks) (λ _ _ q=>RG _ q) (Ry _) ⟨hy,us,hv,⟨_,Sa _ rfl,rfl,_,rfl⟩⟩
   by_cases h0:k<=0
   . have f2:(decide (k<=0)||its.toArray.isEmpty)=true:=by rw[SX h0];rfl
     refine UC UQ ⟨_,ho,rfl⟩ V6 (VY _ _) (Ap l its.toArray n dd sl k t f0 f1 f2) ⟨ho,?_⟩;have ez:k.toNat=0:=by omega
     rw[ez]at q2;exact⟨.ref _,_,new [] [] .nil (Sg _),rfl,q2 hs _ I.fresh⟩
   . have f2:(decide (k<=0)||its.toArray.isEmpty)=false:=by rw[Su h0,e1];rfl
     have hk:(k.toNat:Int)=k:=by omega
     have hlen:its.toArray.size*k.toNat<=sizeLine:=by rw[RI,<-hl];exact hz
     have hsz:((its.toArray.size:Nat):Int)*k<=(sizeLine:Int):=by
      rw[<-hk]
      exact_mod_cast hlen
     have f3:¬(((its.toArray.size:Nat):Int)*k>(2^63-1)/8):=by
      have:((sizeLine:Nat):Int)<=(2^63-1)/8:=by decide
      omega
     have f4:Builtin.Tuple.tupleTooMany (((its.toArray.size:Nat):Int)*k)=false:=by
      unfold Builtin.Tuple.tupleTooMany;exact Su (by omega)
     have hnew:List.foldl (λ x1 x2=>x1++x2) #[] (List.replicate k.toNat its.toArray)=(List.replicate k.toNat its).flatten.toArray:=by
      have:=foldl_rep its k.toNat [];rw[Wt]at this;exact this
     have hfl:(List.replicate k.toNat its).flatten.length=its.length*k.toNat:=by rw[len_rep,TC]
     refine UC UQ ⟨_,ho,rfl⟩ V6 (VY _ _) (AK l its.toArray n dd sl k t f0 f1 f2 f3 f4 (by rw[hnew,RI,hfl];exact hlen)) ⟨ho,?_⟩;rw[hnew];exact⟨.ref _,_,new _ _ (r.rep k.toNat) (by rw[len_rep,TC];exact hz),rfl,q2 hs _ I.fresh⟩
def Im:d9:=λ x y st K=>match x,y with
 | .int i,.int j=>K (.int (i+j)) st
 | .tup xs,.tup ys=>xs.length+ys.length<=sizeLine/\K (.tup (xs++ys)) st
 | .lst xs,.lst ys=>xs.length+ys.length<=sizeLine/\K (.lst (xs++ys)) st
 | .str x,.str y=>x.length+y.length<=sizeLine/\K (.str (x++y)) st
 |_,_=>False
def OB:cE X (binaryOp .Add) (LR Im):=λ pins s σ H x y v u Q I rx ry ⟨α,d,e,st,K,G,F',P,r1,r2,S,q,k⟩=>by
 cases d<;>cases e<;>try exact q.elim
 . unfold Rep at r1 r2;exact N3 pins s σ H x y v u Q I rx ry ⟨_,_,r1,r2,k.here P q S (by unfold Rep;rfl)⟩
 . unfold Rep at r1 r2;exact Er pins s σ H x y v u Q I rx ry ⟨_,_,r1,r2,q.1,k.here P q.2 S (by unfold Rep;rfl)⟩
 . unfold Rep at r1 r2;obtain⟨a,vs,rfl,na,ha,ra⟩:=r1;obtain⟨b,ws,rfl,nb,hb,rb⟩:=r2;refine yj pins s σ H _ _ v u Q I rx ry ⟨a,b,vs,ws,rfl,rfl,fK P ha,fK P hb,by rw[<-ra.length,<-rb.length];exact q.1,λ p hp=>?_⟩;exact k.lst P q.2 S (aY.mpr (fG (aY.mp ra) (aY.mp rb))) hp
 . rename_i xs ys;unfold Rep at r1 r2;obtain⟨a,vs,rfl,na,ha,ra⟩:=r1;obtain⟨b,ws,rfl,nb,hb,rb⟩:=r2;have hl1:=ra.length;have hl2:=rb.length;refine Hi pins s σ H _ _ v u Q I rx ry ⟨a,b,vs,ws,rfl,rfl,P.get ha,P.get hb,by rw[<-hl1,<-hl2];exact q.1,λ z=>?_,λ _ z=>?_,λ _ _ p hp=>?_⟩
   . refine k.here P q.2 S ?_;unfold Rep;have:xs=[]:=by rw[z]at hl1;exact Tr.mp hl1
     subst this;exact⟨b,ws,rfl,nb,hb,rb⟩
   . refine k.here P q.2 S ?_;unfold Rep;have:ys=[]:=by rw[z]at hl2;exact Tr.mp hl2
     subst this;rw[Tp];exact⟨a,vs,rfl,na,ha,ra⟩
   . exact k.tup P q.2 S (aY.mpr (fG (aY.mp ra) (aY.mp rb))) hp
def IC:d9:=λ x y st K=>match x,y with
 | .int i,.int j=>IntMulOk i j/\K (.int (i*j)) st
 | .lst xs,.int k=>(-(2^63)<=k/\k<2^63/\xs.length*k.toNat<=sizeLine)/\K (.lst (List.replicate k.toNat xs).flatten) st
 | .tup xs,.int k=>(-(2^63)<=k/\k<2^63/\xs.length*k.toNat<=sizeLine)/\K (.tup (List.replicate k.toNat xs).flatten) st
 |_,_=>False
def Px:cE X (binaryOp .Mult) (LR IC):=λ pins s σ H x y v u Q I rx ry ⟨α,d,e,st,K,G,F',P,r1,r2,S,q,k⟩=>by
 cases d<;>cases e<;>try exact q.elim
 . unfold Rep at r1 r2;have h:cE X (binaryOp .Mult) (rI IntMulOk λ i j=> .int (i*j)):=IW λ _ _ _ _ _ _ _ hc q=>mul_int q hc;exact h pins s σ H x y v u Q I rx ry ⟨_,_,r1,r2,q.1,k.here P q.2 S (by unfold Rep;rfl)⟩
 . unfold Rep at r1 r2;obtain⟨a,vs,rfl,na,ha,ra⟩:=r1;refine KY pins s σ H _ _ v u Q I rx ry ⟨a,_,vs,rfl,r2,fK P ha,q.1.1,q.1.2.1,by rw[<-ra.length];exact q.1.2.2,λ p hp=>?_⟩;exact k.lst P q.2 S (aY.mpr (qP (aY.mp ra) _)) hp
 . rename_i xs m;have r1':=r1;unfold Rep at r1 r2;obtain⟨a,vs,rfl,na,ha,ra⟩:=r1;refine JL pins s σ H _ _ v u Q I rx ry ⟨a,_,vs,rfl,r2,P.get ha,q.1.1,q.1.2.1,by rw[<-ra.length];exact q.1.2.2,λ hs=>?_,λ _ p hp=>k.tup P q.2 S (aY.mpr (qP (aY.mp ra) _)) hp⟩
   have e:(List.replicate m.toNat xs).flatten=xs:=by
    rcases hs with z|z
    . have:xs=[]:=Tr.mp (by rw[ra.length,z];rfl);rw[this];simp
    . rw[z];simp
   have q2:=q.2;rw[e]at q2;exact k.here P q2 S r1'
def live(st:ag):D->Bool
 | .ref n=>(match st[n]? with|some (.lst _)=>true|some (.ins _ _)=>true|_=>false)
 |_=>true
def Au{α:List (Option Addr)}{H:Hp}{st:ag}{n:Nat}{v:V}(S:aP α st H)(h:live st (.ref n)=true)(r:Rep α H (.ref n) v):∃a,v= .ref a:=by
 unfold live at h;simp only at h;split at h
 . rename_i e;obtain⟨a,ea,_⟩:=S.gI e;exact⟨a,eA ea r⟩
 . rename_i e;obtain⟨a,ea,_⟩:=S.zW e;exact⟨a,eA ea r⟩
 . cases h
def JQ:d9:=λ x y st K=>match y with| .aF=>live st x=true/\K (.bl (match x with| .aF=>false|_=>true)) st|_=>False
def Lf:cE X (compareOp .IsNot) (LR JQ):=cE.imp Kf λ x y H Q ⟨α,d,e,st,K,G,F',P,r1,r2,S,q,k⟩=>by
 cases e<;>try exact q.elim
 unfold Rep at r2;refine⟨r2,k.here P q.2 S ?_⟩;unfold Rep;cases d
 case ref n=>
  obtain⟨a,rfl⟩:=Au S q.1 r1;rfl
 all_goals(unfold Rep at r1;first|(rw[r1];rfl)|(obtain⟨a,vs,rfl,_⟩:=r1;rfl))
def sf:d9:=λ x y st K=>match y with
 | .int i=>(match x with
   | .lst xs=>(match fP xs i with|some d=>K d st|none=>False)
   | .tup xs=>(match fP xs i with|some d=>K d st|none=>False)
   | .ref n=>(match st[n]? with|some (.lst xs)=>(match fP xs i with|some d=>K d st|none=>False)|_=>False)
   |_=>False)
 |_=>False
def aG.fP{α:List (Option Addr)}{H:Hp}{ds:List D}{vs:List V}{i:Int}{d:D}(h:aG α H ds vs)(e:L2.fP ds i=some d):∃v,L2.fP vs i=some v/\Rep α H d v:=by
 unfold L2.fP at e⊢;rw[<-h.length];cases q:lV ds.length i with
 |none=>rw[q]at e;cases e
 |some j=>rw[q]at e;exact h.get e
def QW:IT X (LR sf):=λ value slice pins s σ H x y v u Q I rx ry ⟨α,d,e,st,K,G,F',P,r1,r2,S,q,k⟩ hs=>by
 cases e<;>try exact q.elim
 unfold Rep at r2;cases d<;>try exact q.elim
 . rename_i i n;unfold sf at q;simp only at q;split at q
   . split at q
     . rename_i xs e1 _ d' e2;obtain⟨a,ea,vs,hv,rv⟩:=S.gI e1;have r1':=eA ea r1;subst r1';obtain⟨z,ez,rz⟩:=rv.fP e2;exact CG value slice pins s σ H _ _ v u Q I rx ry ⟨a,vs,_,z,rfl,r2,.of (P.get hv),ez,k.here P q S rz⟩ hs
     . exact q.elim
   . exact q.elim
 . unfold sf at q;simp only at q;split at q
   . rename_i xs d' e2;unfold Rep at r1;obtain⟨a,vs,rfl,na,ha,ra⟩:=r1;obtain⟨z,ez,rz⟩:=ra.fP e2;exact CG value slice pins s σ H _ _ v u Q I rx ry ⟨a,vs,_,z,rfl,r2,.inl (fK P ha),ez,k.here P q S rz⟩ hs
   . exact q.elim
 . unfold sf at q;simp only at q;split at q
   . rename_i xs d' e2;unfold Rep at r1;obtain⟨a,vs,rfl,na,ha,ra⟩:=r1;obtain⟨z,ez,rz⟩:=ra.fP e2;exact Ly value slice pins s σ H _ _ v u Q I rx ry ⟨a,vs,_,z,rfl,r2,.of (P.get ha),ez,k.here P q S rz⟩ hs
   . exact q.elim
def QV{a b:Expr}{ta tb:DE}{pos:Pos}(ha:PE X a (LE ta))(hb:PE X b (LE tb))(hs:u4 b:=by intro _ _;rfl):PE X (.Subscript a b pos) (LE (aw sf ta tb)):=PE.imp (OP QW ha hb hs) λ _ _ _ h=>LE.op h
def items?(st:ag):D->Option (List D)
 | .lst xs=>some xs
 | .tup xs=>some xs
 | .ref n=>(match st[n]? with|some (.lst xs)=>some xs|_=>none)
 |_=>none
@[simp] theorem PV(st:ag)(xs:List D):items? st (.lst xs)=some xs:=rfl
@[simp] theorem PM(st:ag)(xs:List D):items? st (.tup xs)=some xs:=rfl
@[simp] theorem items_int(st:ag)(i:Int):items? st (.int i)=none:=rfl
@[simp] theorem QX(st:ag)(i:Bool):items? st (.bl i)=none:=rfl
@[simp] theorem items_str(st:ag)(i:Str):items? st (.str i)=none:=rfl
@[simp] theorem P7(st:ag):items? st .aF=none:=rfl
def aJ{st:ag}{n:Nat}{xs:List D}(h:st[n]?=some (.lst xs)):items? st (.ref n)=some xs:=by unfold items?;simp only[h]
def qv{α:List (Option Addr)}{H:Hp}{st:ag}{d:D}{v:V}{xs:List D}(S:aP α st H)(r:Rep α H d v)(e:items? st d=some xs):
 ∃p vs,v= .ref p/\aG α H xs vs/\(Rd H p (.lst vs)\/H p=some (.tup vs)):=by
 cases d<;>try(cases e;done)
 . unfold items? at e;simp only at e;split at e
   . rename_i ys q;cases e;obtain⟨a,ea,vs,h1,h2⟩:=S.gI q;have r':=eA ea r;subst r';exact⟨a,vs,rfl,h2,.inl (.of h1)⟩
   . cases e
 . cases e;unfold Rep at r;obtain⟨a,vs,rfl,_,h1,h2⟩:=r;exact⟨a,vs,rfl,h2,.inl h1⟩
 . cases e;unfold Rep at r;obtain⟨a,vs,rfl,_,h1,h2⟩:=r;exact⟨a,vs,rfl,h2,.inr h1⟩
def Ek{K:PySem.W.Frag}{G F H:Hp}(P:cO G F H){p:Addr}{vs:List V}(h:Rd G p (.lst vs)\/G p=some (.tup vs)):oh K H p vs\/jJ K H p vs:=h.elim (λ z=> .inl (.inl (fK P z))) λ z=> .inr (.of (P.get z))
def gL{α:List (Option Addr)}{H:Hp}{ds:List D}{xs:List V}{d:D}(r:aG α H ds xs)(e:ds=[d]):∃v,xs=[v]/\Rep α H d v:=by
 subst e;unfold aG at r;obtain⟨v,q,rfl,h1,h2⟩:=r;unfold aG at h2;subst h2;exact⟨v,rfl,h1⟩
def qd{α:List (Option Addr)}{H:Hp}{ds:List D}{xs:List V}{d e:D}(r:aG α H ds xs)(q:ds=[d,e]):∃v u,xs=[v,u]/\Rep α H d v/\Rep α H e u:=by
 subst q;unfold aG at r;obtain⟨v,q,rfl,h1,h2⟩:=r;obtain⟨u,rfl,h3⟩:=gL h2 rfl;exact⟨v,u,rfl,h1,h3⟩
def zC:fI:=λ ds st K=>match ds with
 | [.str x]=>x.length<=sizeLine/\K (.int x.length) st
 | [d]=>(match items? st d with|some xs=>K (.int xs.length) st|none=>False)
 |_=>False
def O4:cj X (.builtin "len") (gc zC):=λ pins s σ H xs us Q I rs ⟨α,ds,st,K,G,F',P,r,S,q,k⟩=>by
 unfold zC at q;split at q
 . rename_i x;obtain⟨v,rfl,r1⟩:=gL r rfl;unfold Rep at r1;subst r1;exact Af pins s σ H _ us Q I rs ⟨x,rfl,q.1,k.here P q.2 S (by unfold Rep;rfl)⟩
 . rename_i d _;split at q
   . rename_i ys e;obtain⟨v,rfl,r1⟩:=gL r rfl;obtain⟨p,vs,rfl,r2,h⟩:=qv S r1 e;refine Ad pins s σ H _ us Q I rs ⟨p,vs,rfl,Ek P h,k.here P q S (by unfold Rep;rw[r2.length])⟩
   . exact q.elim
 . exact q.elim
def P_(g:Int->Int):fI:=λ ds st K=>match ds with| [.int i]=>K (.int (g i)) st|_=>False
abbrev DH:fI:=P_ λ i=>if i<0 then-i else i
def OJ:cj X (.builtin "abs") (gc DH):=cj.imp Hw λ xs H Q ⟨α,ds,st,K,G,F',P,r,S,q,k⟩=>by
 unfold DH P_ at q;split at q
 . obtain⟨v,rfl,r1⟩:=gL r rfl;unfold Rep at r1;subst r1;exact⟨_,rfl,k.here P q S (by unfold Rep;rfl)⟩
 . exact q.elim
def Eh(g:Int->Int->Int):fI:=λ ds st K=>match ds with| [.int i,.int j]=>K (.int (g i j)) st|_=>False
abbrev D8:fI:=Eh λ i j=>if j>i then j else i
abbrev Eg:fI:=Eh λ i j=>if j<i then j else i
def Pq(hc:X.calm=true):cj X (.builtin "max") (gc D8):=cj.imp (E8 hc) λ xs H Q ⟨α,ds,st,K,G,F',P,r,S,q,k⟩=>by
 unfold D8 Eh at q;split at q
 . obtain⟨v,u,rfl,r1,r2⟩:=qd r rfl;unfold Rep at r1 r2;subst r1 r2;exact⟨_,_,rfl,k.here P q S (by unfold Rep;rfl)⟩
 . exact q.elim
def Of(hc:X.calm=true):cj X (.builtin "min") (gc Eg):=cj.imp (FT hc) λ xs H Q ⟨α,ds,st,K,G,F',P,r,S,q,k⟩=>by
 unfold Eg Eh at q;split at q
 . obtain⟨v,u,rfl,r1,r2⟩:=qd r rfl;unfold Rep at r1 r2;subst r1 r2;exact⟨_,_,rfl,k.here P q S (by unfold Rep;rfl)⟩
 . exact q.elim
def Df:fI:=λ ds st K=>match ds with| [.int i]=>K (.int i) st| [.bl b]=>K (.int (if b then 1 else 0)) st|_=>False
def OS:cj X (.type "int") (gc Df):=cj.imp E_ λ xs H Q ⟨α,ds,st,K,G,F',P,r,S,q,k⟩=>by
 unfold Df at q;split at q
 . obtain⟨v,rfl,r1⟩:=gL r rfl;unfold Rep at r1;subst r1;exact .inl ⟨_,rfl,k.here P q S (by unfold Rep;rfl)⟩
 . obtain⟨v,rfl,r1⟩:=gL r rfl;unfold Rep at r1;subst r1;exact .inr ⟨_,rfl,k.here P q S (by unfold Rep;rfl)⟩
 . exact q.elim
def uL:fI:=λ ds st K=>match ds with| [d]=>(match items? st d with|some xs=>K (.tup xs) st|none=>False)|_=>False
def Ks:cj X (.type "tuple") (gc uL):=cj.imp zj λ xs H Q ⟨α,ds,st,K,G,F',P,r,S,q,k⟩=>by
 unfold uL at q;split at q
 . rename_i d;split at q
   . rename_i ys e;obtain⟨v,rfl,r1⟩:=gL r rfl;cases d with
     |tup zs=>
      cases e;have r0:=r1;unfold Rep at r1;obtain⟨a,vs,rfl,na,h1,h2⟩:=r1;exact⟨a,vs,rfl,.inr ⟨.of (P.get h1),k.here P q S r0⟩⟩
     |_=>
      obtain⟨p,vs,rfl,r2,h⟩:=qv S r1 e;refine⟨p,vs,rfl,?_⟩;rcases h with h|h
      . exact .inl ⟨.inl (fK P h),λ l hl=>k.tup P q S r2 hl⟩
      . first
         |(cases e;done)
         |(exfalso
           unfold items? at e;simp only at e
           first
            |(split at e
              . rename_i z;obtain⟨a,ea,vs',h1,h2⟩:=S.gI z;have e':=eA ea r1;cases e';rw[h]at h1;cases h1
              . cases e)
            |(unfold Rep at r1
              obtain⟨a,vs',e',_,h1,_⟩:=r1;cases e';rcases h1 with h1|⟨o,h1⟩<;>(rw[h]at h1;cases h1)))
   . exact q.elim
 . exact q.elim
def xG:fI:=λ ds st K=>match ds with| [d]=>(match items? st d with|some xs=>K (.lst xs) st|none=>False)|_=>False
def MD:cj X (.type "list") (gc xG):=cj.imp ui λ xs H Q ⟨α,ds,st,K,G,F',P,r,S,q,k⟩=>by
 unfold xG at q;split at q
 . split at q
   . rename_i ys e;obtain⟨v,rfl,r1⟩:=gL r rfl;obtain⟨p,vs,rfl,r2,h⟩:=qv S r1 e;exact⟨p,vs,rfl,Ek P h,λ l hl=>k.lst P q S r2 hl⟩
   . exact q.elim
 . exact q.elim
def uK:fI:=λ ds st K=>match ds with| [d]=>(match items? st d with|some xs=>K (.ref st.length) (st++[.lst xs])|none=>False)|_=>False
def JX:cj X (.type "list") (gc uK):=cj.imp ui λ xs H Q ⟨α,ds,st,K,G,F',P,r,S,q,k⟩=>by
 unfold uK at q;split at q
 . split at q
   . rename_i ys e;obtain⟨v,rfl,r1⟩:=gL r rfl;obtain⟨p,vs,rfl,r2,h⟩:=qv S r1 e;exact⟨p,vs,rfl,Ek P h,λ l hl=>k.new P q S r2 hl⟩
   . exact q.elim
 . exact q.elim
def oa:List D->Option (List Bool)
 | []=>some []
 | .bl b::r=>(oa r).map (b:: ·)
 |_::_=>none
def i5:List D->Option (List Int)
 | []=>some []
 | .int b::r=>(i5 r).map (b:: ·)
 |_::_=>none
def xo{α:List (Option Addr)}{H:Hp}:∀ {ds:List D} {vs:List V} {bs:List Bool},aG α H ds vs->oa ds=some bs->vs=bs.map V.bl
 | [],vs,bs,r,e=>by
   unfold aG at r;cases e;exact r
 |d::ds,vs,bs,r,e=>by
  unfold aG at r;obtain⟨v,q,rfl,h1,h2⟩:=r;cases d<;>try(cases e;done)
  unfold oa at e;cases z:oa ds with
  |none=>rw[z]at e;cases e
  |some cs=>
   rw[z]at e;cases e;unfold Rep at h1;rw[h1,xo h2 z];rfl
def nZ{α:List (Option Addr)}{H:Hp}:∀ {ds:List D} {vs:List V} {bs:List Int},aG α H ds vs->i5 ds=some bs->vs=bs.map V.int
 | [],vs,bs,r,e=>by
   unfold aG at r;cases e;exact r
 |d::ds,vs,bs,r,e=>by
  unfold aG at r;obtain⟨v,q,rfl,h1,h2⟩:=r;cases d<;>try(cases e;done)
  unfold i5 at e;cases z:i5 ds with
  |none=>rw[z]at e;cases e
  |some cs=>
   rw[z]at e;cases e;unfold Rep at h1;rw[h1,nZ h2 z];rfl
def wA:∀ {bs:List Bool} {us:List Value},Vals (bs.map V.bl) us->us=bs.map Value.bool
 | [],_,.nil=>rfl
 |b::bs,_,.cons h t=>by
  have h:_=Value.bool b:=h;rw[h,wA t];rfl
def zI:fI:=λ ds st K=>match ds with| [.lst xs]=>(match oa xs with|some bs=>K (.bl (bs.all id)) st|none=>False)|_=>False
def range_all{α:Type}(l:List α)(f:α->Bool)(tr:Nat->Bool)(h:∀i x,l[i]?=some x->tr i=f x):(List.range l.length).all tr=l.all f:=by
 induction l generalizing tr with
 |nil=>rfl
 |cons a l ih=>
  rw[Sl,S9,T_,T_,List.all_map,h 0 a rfl];congr 1;exact ih (tr∘Nat.succ) λ i x e=>h (i+1) x (by simpa using e)
def Pu(hc:X.calm=true):cj X (.builtin "all") (gc zI):=λ pins s σ H xs us Q I rs ⟨α,ds,st,K,G,F',P,r,S,q,k⟩=>by
 unfold zI at q;split at q
 . rename_i ys;split at q
   . rename_i bs e;obtain⟨v,rfl,r1⟩:=gL r rfl;unfold Rep at r1;obtain⟨a,vs,rfl,na,h1,h2⟩:=r1;obtain⟨u,rfl,ru⟩:=vals1 rs;cases ru;have hv:=xo h2 e;subst hv;obtain⟨z,its,n,rv,hl,eo⟩:=Inv.se I (fK P h1);have hits:=wA rv;subst hits;have isL:s.heap.IsList a (bs.map Value.bool).toArray:=⟨_,eo,rfl,n,rfl⟩
     refine call_all_walk (Up isL ?_);have hne:a≠s.heap.objs.size:=Sj (RT eo);refine⟨s.heap.objs.size,_,_,_,_,_,λ i=>(bs[i]?).getD true,rfl,WW (A:=X.A.in1) (I.ok.hd hc) _ a hne (bs.map Value.bool).toArray,⟨⟨_,Sa _ rfl,rfl,rfl⟩,⟨_,RG _ eo,rfl,n,rfl⟩⟩,?_,?_⟩
     . intro i w s' Q' E' hP hQ;rw[List.getElem?_toArray,RV]at hP;cases zb:bs[i]? with
       |none=>rw[zb]at hP;cases hP
       |some b=>
        rw[zb]at hP;cases hP;simp only[zb]at hQ;exact UN hQ
     . intro h' tk hk
       have kp:∀b o,s.heap.get? b=some o->h'.get? b=some o:=λ b o q=>hk b o (by
        intro hb;have:b=s.heap.objs.size:=by simpa using hb
        exact absurd (RT q) (by rw[this];exact S0 _)) (RG _ q)
       have ea:(List.range (bs.map Value.bool).toArray.size).all (λ i=>(bs[i]?).getD true)=bs.all id:=by
        rw[RI,Rw];exact range_all bs id _ λ i x e=>by rw[e];rfl
       rw[ea];exact⟨.bl (bs.all id),H,I.kept (t':=tk) kp,rfl,k.here P q S (by unfold Rep;rfl)⟩
   . exact q.elim
 . exact q.elim
def kq(st:ag):D->Option String
 | .aF=>some "NoneType"
 | .bl _=>some "bool"
 | .int _=>some "int"
 | .str _=>some "str"
 | .lst _=>some "list"
 | .tup _=>some "tuple"
 | .ref n=>(match st[n]? with|some (.lst _)=>some "list"|_=>none)
 | .ty _=>none
@[simp] theorem Rh(st:ag)(xs:List D):kq st (.lst xs)=some "list":=rfl
@[simp] theorem Ri(st:ag)(xs:List D):kq st (.tup xs)=some "tuple":=rfl
@[simp] theorem ty_int(st:ag)(i:Int):kq st (.int i)=some "int":=rfl
@[simp] theorem Ru(st:ag)(i:Bool):kq st (.bl i)=some "bool":=rfl
@[simp] theorem ty_str(st:ag)(i:Str):kq st (.str i)=some "str":=rfl
@[simp] theorem Q6(st:ag):kq st .aF=some "NoneType":=rfl
def vG(t c:String):Bool:=t==c||(t=="bool"&&c=="int")
def Aq{α:List (Option Addr)}{H:Hp}{st:ag}{K:PySem.W.Frag}{d:D}{v:V}{t:String}(S:aP α st H)(r:Rep α H d v)(e:kq st d=some t):kI K H v (.type t):=by
 cases d<;>unfold kq at e<;>try(cases e;done)
 . unfold Rep at r;cases e;subst r;exact .aF
 . unfold Rep at r;cases e;subst r;exact .bl _
 . unfold Rep at r;cases e;subst r;exact .int _
 . unfold Rep at r;cases e;subst r;exact .str _
 . simp only at e;split at e
   . rename_i z;cases e;obtain⟨a,ea,vs',h1,h2⟩:=S.gI z;have r':=eA ea r;subst r';exact .lst h1
   . cases e
 . cases e;unfold Rep at r;obtain⟨a,vs,rfl,na,h1,h2⟩:=r;rcases h1 with h1|⟨o,h1⟩
   . exact .lst h1
   . exact .fz h1
 . cases e;unfold Rep at r;obtain⟨a,vs,rfl,na,h1,h2⟩:=r;exact .tup h1
def CV{G F H:Hp}{K:PySem.W.Frag}(P:cO G F H){x:V}{t:Value}(h:kI K G x t):kI K H x t:=by
 cases h with
 |aF=>exact .aF
 |bl x=>exact .bl x
 |int x=>exact .int x
 |str x=>exact .str x
 |vq x=>exact .vq x
 |lst e=>exact .lst (P.get e)
 |fz e=>exact .fz (P.get e)
 |tup e=>exact .tup (P.get e)
 |dK e=>exact .dK (P.get e)
 |dT e=>exact .dT (P.get e)
 |ins e a b c d f=>exact .ins (P.get e) a b c d f
def u5:List String:=["NoneType","bool","int","str","list","tuple"]
def pC:List String:=["bool","int","str","list","tuple"]
def Cq(K:PySem.W.Frag){t c:String}(ht:t∈u5)(hc:c∈pC):PySem.W.kitOne K (.type t) (.type c)=some (vG t c):=by
 simp only[u5,pC,RU,Sn,UJ]at ht hc;rcases ht with rfl|rfl|rfl|rfl|rfl|rfl<;>rcases hc with rfl|rfl|rfl|rfl|rfl<;>with_unfolding_all rfl
def BE{st:ag}{d:D}{t:String}(e:kq st d=some t):t∈u5:=by
 cases d<;>unfold kq at e<;>first
  |(cases e;done)
  |(cases e;decide)
  |(simp only at e;split at e<;>cases e;decide)
def kitx_of{pins:List (Addr×Obj)}{σ:L2.St}{H:Hp}{s:Shared}{x:V}{u:Value}{t:String}(I:Inv X pins σ H s)(rx:RelV x u)(ty:kI X.K H x (.type t)):
 ∃Hh:Heap->Prop,PySem.W.KitX X.K u (.type t) Hh/\Hh s.heap/\u≠ .builtin "__main__.__loader__#opaque":=by
 cases ty with
 |aF=>cases (show u=Value.none from rx);exact⟨_,PySem.W.kitx_none,True.intro,λ z=>nomatch z⟩
 |bl y=>cases (show u=Value.bool y from rx);exact⟨_,PySem.W.kitx_bool,True.intro,λ z=>nomatch z⟩
 |int i=>obtain⟨t,q⟩:=(show∃t,u=Value.int i t from rx);cases q;exact⟨_,PySem.W.kitx_int,True.intro,λ z=>nomatch z⟩
 |str y=>obtain⟨t,q⟩:=(show∃t,u=Value.str y t from rx);cases q;exact⟨_,PySem.W.kitx_str,True.intro,λ z=>nomatch z⟩
 |vq y=>obtain⟨t,q⟩:=(show∃t,u=Value.float y t from rx);cases q;exact⟨_,PySem.W.kitx_float,True.intro,λ z=>nomatch z⟩
 | @lst a xs ea=>
   cases (show u=Value.ref a from rx);obtain⟨_,_,n,_,h1⟩:=(show eN X.prog X.w H s.heap a (.lst xs)from I.aL a _ ea)
   exact⟨_,Vj,⟨_,h1,rfl⟩,λ z=>nomatch z⟩
 | @fz a ob xs ea=>
   cases (show u=Value.ref a from rx);obtain⟨_,_,_,n,_,h1⟩:=(show eN X.prog X.w H s.heap a (.fz ob (.lst xs))from I.aL a _ ea)
   exact⟨_,Vj,⟨_,h1,rfl⟩,λ z=>nomatch z⟩
 | @tup a xs ea=>
   cases (show u=Value.ref a from rx);obtain⟨_,_,_,p⟩:=(show eN X.prog X.w H s.heap a (.tup xs)from I.aL a _ ea)
   obtain⟨o,h1,h2,_⟩:=p;exact⟨_,PySem.W.kitx_tuple,⟨o,h1,h2⟩,λ z=>nomatch z⟩
 | @dK a kvs ea=>
   cases (show u=Value.ref a from rx);obtain⟨_,_,vs,_,p⟩:=(show eN X.prog X.w H s.heap a (.dK kvs)from I.aL a _ ea)
   obtain⟨o,es,ep,h1,h2,_⟩:=p;exact⟨_,Vk,⟨o,h1,h2.1⟩,λ z=>nomatch z⟩
 | @dT a kvs ea=>
   cases (show u=Value.ref a from rx);obtain⟨_,_,xs,_,o,es,ep,h1,h2,_⟩:=(show eN X.prog X.w H s.heap a (.dT kvs)from I.aL a _ ea)
   exact⟨_,Vk,⟨o,h1,h2.1⟩,λ z=>nomatch z⟩
def rO:List D->Option (List String)
 | []=>some []
 | .ty b::r=>(rO r).map (b:: ·)
 |_::_=>none
def AX{α:List (Option Addr)}{H:Hp}:∀ {ds:List D} {vs:List V} {bs:List String},aG α H ds vs->rO ds=some bs->vs=bs.map V.ty
 | [],vs,bs,r,e=>by
   unfold aG at r;cases e;exact r
 |d::ds,vs,bs,r,e=>by
  unfold aG at r;obtain⟨v,q,rfl,h1,h2⟩:=r;cases d<;>try(cases e;done)
  unfold rO at e;cases z:rO ds with
  |none=>rw[z]at e;cases e
  |some cs=>
   rw[z]at e;cases e;unfold Rep at h1;rw[h1,AX h2 z];rfl
def Be:∀ {bs:List String} {us:List Value},Vals (bs.map V.ty) us->us=bs.map Value.type
 | [],_,.nil=>rfl
 |b::bs,_,.cons h t=>by
  have h:_=Value.type b:=h;rw[h,Be t];rfl
def C1(K:PySem.W.Frag){t:String}(ht:t∈u5):∀cs:List String,(∀c∈cs,c∈pC)->PySem.W.kitAny K (.type t) (cs.map Value.type)=some (cs.any (vG t))
 | [],_=>rfl
 |c::cs,h=>by
  show(match PySem.W.kitOne K (.type t) (.type c)with|some true=>some true|some false=>PySem.W.kitAny K (.type t) (cs.map Value.type)|none=>none)=_;rw[Cq K ht (h c R7),List.any_cons];cases vG t c with
  |true=>rfl
  |false=>exact C1 K ht cs λ c hc=>h c (R8 _ hc)
def zL:fI:=λ ds st K=>match ds with
 | [d,.ty c]=>(match kq st d with|some t=>c∈pC/\K (.bl (vG t c)) st|none=>False)
 | [d,.tup cs]=>(match kq st d,rO cs with|some t,some cl=>(∀c∈cl,c∈pC)/\K (.bl (cl.any (vG t))) st|_,_=>False)
 |_=>False
def Pb:cj X (.builtin "isinstance") (gc zL):=λ pins s σ H xs us Q I rs ⟨α,ds,st,K,G,F',P,r,S,q,k⟩=>by
 unfold zL at q;split at q
 . rename_i d c;split at q
   . rename_i t e;obtain⟨v,v2,rfl,r1,r2⟩:=qd r rfl;obtain⟨u,u2,rfl,ru,ru2⟩:=vals2 rs;unfold Rep at r2;subst r2;cases (show u2=Value.type c from ru2);exact FF I ru (CV P (Aq S r1 e)) (Cq _ (BE e) q.1) λ tk=>⟨.bl (vG t c),H,I.tok tk,rfl,k.here P q.2 S (by unfold Rep;rfl)⟩
   . exact q.elim
 . rename_i d cs;split at q
   . rename_i t cl e ec;obtain⟨v,v2,rfl,r1,r2⟩:=qd r rfl;obtain⟨u,u2,rfl,ru,ru2⟩:=vals2 rs;unfold Rep at r2;obtain⟨a,vs,rfl,na,h1,h2⟩:=r2;cases (show u2=Value.ref a from ru2);have hv:=AX h2 ec;subst hv;obtain⟨Hh,Z,hh,hne⟩:=kitx_of I ru (CV P (Aq S r1 e));obtain⟨its,r',pl,hz⟩:=I.tuple (jJ.of (P.get h1));have hi:=Be r';subst hi;obtain⟨⟨cls,dd,data,sl⟩,ho,hc,n,hd⟩:=pl;simp only at hc hd;subst hc hd;exact PySem.W.kia_tup Z I.iN hh ho (C1 _ (BE e) cl q.1) hne λ tk=>⟨.bl _,H,I.tok tk,rfl,k.here P q.2 S (by unfold Rep;rfl)⟩
   . exact q.elim
 . exact q.elim
end
end L3
namespace L3
open PySem PySem.Spec L2 PySem.SeqAt
open PyProof.Rows hiding St
mutual
def de:D->D->Bool
 | .aF,.aF=>true
 | .bl a,.bl b=>a==b
 | .bl a,.int b=>(if a then 1 else 0)==b
 | .int a,.bl b=>a==(if b then 1 else 0)
 | .int a,.int b=>a==b
 | .str a,.str b=>a==b
 | .lst xs,.lst ys=>lg xs ys
 | .tup xs,.tup ys=>lg xs ys
 |_,_=>false
def lg:List D->List D->Bool
 | [],[]=>true
 |x::xs,y::ys=>de x y&&lg xs ys
 |_,_=>false
end
def pl:Nat->D->Bool
 |_,.aF=>true
 |_,.bl _=>true
 |_,.int _=>true
 |_,.str _=>true
 |n+1,.lst xs=>xs.all (pl n)
 |n+1,.tup xs=>xs.all (pl n)
 |_,_=>false
mutual
def sv:∀(n:Nat) (d:D),pl n d=true->de d d=true
 |_,.aF,_=>rfl
 |_,.bl _,_=>by simp[de]
 |_,.int _,_=>by simp[de]
 |_,.str _,_=>by simp[de]
 |n+1,.lst xs,h=>by unfold de;exact tZ n xs (by unfold pl at h;exact h)
 |n+1,.tup xs,h=>by unfold de;exact tZ n xs (by unfold pl at h;exact h)
 |0,.lst xs,h=>by cases h
 |0,.tup xs,h=>by cases h
 |_,.ref _,h=>by unfold pl at h;cases h
 |_,.ty _,h=>by unfold pl at h;cases h
def tZ:∀(n:Nat) (xs:List D),xs.all (pl n)=true->lg xs xs=true
 |_,[],_=>by unfold lg;rfl
 |n,x::xs,h=>by
  rw[T_,SV]at h;unfold lg;rw[sv n x h.1,tZ n xs h.2];rfl
end
mutual
def Rep.inj{α:List (Option Addr)}{H:Hp}:∀ {d e:D} {v:V} (n:Nat),pl n d=true->pl n e=true->Rep α H d v->Rep α H e v->d=e
 | .aF,e,v,n,_,he,h1,h2=>by
   unfold Rep at h1;subst h1;cases e<;>first|(unfold pl at he;cases he;done)|(unfold Rep at h2;cases h2;rfl)|(unfold Rep at h2;cases h2;done)|(unfold Rep at h2;obtain⟨_,_,h2,_⟩:=h2;cases h2)|rfl|(cases h2;done)|(obtain⟨_,_,h2,_⟩:=h2;cases h2)|(obtain⟨_,_,h2⟩:=h2;cases h2)
 | .bl b,e,v,n,_,he,h1,h2=>by
   unfold Rep at h1;subst h1;cases e<;>first|(unfold pl at he;cases he;done)|(unfold Rep at h2;cases h2;rfl)|(unfold Rep at h2;cases h2;done)|(unfold Rep at h2;obtain⟨_,_,h2,_⟩:=h2;cases h2)|(cases h2;rfl)|(cases h2;done)|(obtain⟨_,_,h2,_⟩:=h2;cases h2)|(obtain⟨_,_,h2⟩:=h2;cases h2)
 | .int b,e,v,n,_,he,h1,h2=>by
   unfold Rep at h1;subst h1;cases e<;>first|(unfold pl at he;cases he;done)|(unfold Rep at h2;cases h2;rfl)|(unfold Rep at h2;cases h2;done)|(unfold Rep at h2;obtain⟨_,_,h2,_⟩:=h2;cases h2)|(cases h2;rfl)|(cases h2;done)|(obtain⟨_,_,h2,_⟩:=h2;cases h2)|(obtain⟨_,_,h2⟩:=h2;cases h2)
 | .str b,e,v,n,_,he,h1,h2=>by
   unfold Rep at h1;subst h1;cases e<;>first|(unfold pl at he;cases he;done)|(unfold Rep at h2;cases h2;rfl)|(unfold Rep at h2;cases h2;done)|(unfold Rep at h2;obtain⟨_,_,h2,_⟩:=h2;cases h2)|(cases h2;rfl)|(cases h2;done)|(obtain⟨_,_,h2,_⟩:=h2;cases h2)|(obtain⟨_,_,h2⟩:=h2;cases h2)
 | .ty b,e,v,n,hd,he,h1,h2=>by unfold pl at hd;cases hd
 | .ref b,e,v,n,hd,he,h1,h2=>by unfold pl at hd;cases hd
 | .lst xs,e,v,0,hd,he,h1,h2=>by cases hd
 | .tup xs,e,v,0,hd,he,h1,h2=>by cases hd
 | .lst xs,e,v,n+1,hd,he,h1,h2=>by
   unfold Rep at h1;obtain⟨a,vs,rfl,na,ha,ra⟩:=h1;cases e<;>unfold Rep at h2<;>try(cases h2;done)
   . unfold pl at he;cases he
   . obtain⟨a',vs',e',na',ha',ra'⟩:=h2;cases e'
     have:vs=vs':=by
      rcases ha with ha|⟨o,ha⟩<;>rcases ha' with ha'|⟨o',ha'⟩<;>(rw[ha]at ha';first|(cases ha';rfl)|(cases ha';done))
     subst this;rw[aG.inj n (by unfold pl at hd;exact hd) (by unfold pl at he;exact he) ra ra']
   . obtain⟨a',vs',e',na',ha',ra'⟩:=h2;cases e';rcases ha with ha|⟨o,ha⟩<;>(rw[ha]at ha';cases ha')
 | .tup xs,e,v,n+1,hd,he,h1,h2=>by
   unfold Rep at h1;obtain⟨a,vs,rfl,na,ha,ra⟩:=h1;cases e<;>unfold Rep at h2<;>try(cases h2;done)
   . unfold pl at he;cases he
   . obtain⟨a',vs',e',na',ha',ra'⟩:=h2;cases e';rcases ha' with ha'|⟨o,ha'⟩<;>(rw[ha]at ha';cases ha')
   . obtain⟨a',vs',e',na',ha',ra'⟩:=h2;cases e';rw[ha]at ha';cases ha';rw[aG.inj n (by unfold pl at hd;exact hd) (by unfold pl at he;exact he) ra ra']
def aG.inj{α:List (Option Addr)}{H:Hp}:∀ {ds es:List D} {vs:List V} (n:Nat),ds.all (pl n)=true->es.all (pl n)=true->aG α H ds vs->aG α H es vs->ds=es
 | [],es,vs,n,_,_,h1,h2=>by
   unfold aG at h1;subst h1;cases es with
   |nil=>rfl
   |cons e es=>unfold aG at h2;obtain⟨_,_,h,_⟩:=h2;cases h
 |d::ds,es,vs,n,hd,he,h1,h2=>by
  unfold aG at h1;obtain⟨v,r,rfl,r1,r2⟩:=h1;cases es with
  |nil=>unfold aG at h2;cases h2
  |cons e es=>
   unfold aG at h2;obtain⟨v',r',h,q1,q2⟩:=h2;cases h;rw[T_,SV]at hd he;rw[Rep.inj n hd.1 he.1 r1 q1,aG.inj n hd.2 he.2 r2 q2]
end
def pZ:∀ {xs ys:List D},xs.length≠ys.length->lg xs ys=false
 | [],[],h=>absurd rfl h
 | [],_::_,_=>by unfold lg;rfl
 |_::_,[],_=>by unfold lg;rfl
 |x::xs,y::ys,h=>by
  unfold lg;rw[pZ (by simpa using h),WN]
def pY:∀ {xs ys:List D},xs.length=ys.length->lg xs ys=(List.range xs.length).all λ j=>de (xs.getD j .aF) (ys.getD j .aF)
 | [],[],_=>by unfold lg;rfl
 | [],_::_,h=>by cases h
 |_::_,[],h=>by cases h
 |x::xs,y::ys,h=>by
  unfold lg;rw[Sl,S9,T_,List.all_map,pY (by simpa using h)];rfl
section
variable {X:Cx}{pins:List (Addr×Obj)}{σ:L2.St}{H:Hp}{s:Shared}{α:List (Option Addr)}
def ma{xs:List D}{vs:List V}{its:List Value}(r:aG α H xs vs)(v:Vals vs its)(j:Nat)(hj:j<its.length):∃x,xs[j]?=some (xs.getD j .aF)/\Rep α H (xs.getD j .aF) x/\RelV x its[j]:=by
 have h1:=r.length;have h2:=v.length;have hx:j<xs.length:=by omega
 have e:xs[j]?=some (xs.getD j .aF):=by rw[RJ hx,RC,RJ hx];rfl
 obtain⟨x,q,rr⟩:=r.get e;obtain⟨u,q2,rv⟩:=v.get q;rw[RJ hj]at q2;cases q2;exact⟨x,e,rr,rv⟩
def jQ{xs:List D}{n:Nat}(h:xs.all (pl n)=true)(j:Nat):pl n (xs.getD j .aF)=true:=by
 rw[RC];cases e:xs[j]? with
 |none=>cases n<;>rfl
 |some d=>exact SA.mp h d (Sb e)
def yS:D->Bool
 | .aF=>true
 | .bl _=>true
 | .int _=>true
 | .str _=>true
 |_=>false
def C2{A:Around}{d e:D}{x y:V}{u v:Value}(hd:yS d=true)(he:yS e=true)(rd:Rep α H d x)(re:Rep α H e y)(rx:RelV x u)(ry:RelV y v):RcAt A s u v (de d e)/\EqAt A s u v (de d e):=by
 cases d<;>cases e<;>try(first|(cases hd;done)|(cases he;done))
 all_goals(unfold Rep at rd re;subst rd re)
 all_goals(first|(obtain⟨t,rfl⟩:=rx;obtain⟨t',rfl⟩:=ry)|(obtain⟨t,rfl⟩:=rx;cases ry)|(cases rx;obtain⟨t,rfl⟩:=ry)|(cases rx;cases ry))
 all_goals unfold de
 . exact⟨RcAt.none_none,EqAt.same _⟩
 . exact⟨RcAt.none_bool _,EqAt.none_bool _⟩
 . exact⟨RcAt.none_int _ _,EqAt.none_int _ _⟩
 . exact⟨RcAt.none_str _ _,EqAt.none_str _ _⟩
 . exact⟨RcAt.bool_none _,EqAt.bool_none _⟩
 . exact⟨RcAt.bool_bool _ _,EqAt.bool_bool _ _⟩
 . exact⟨RcAt.bool_int _ _ _,EqAt.bool_int _ _ _⟩
 . exact⟨RcAt.bool_str _ _ _,EqAt.bool_str _ _ _⟩
 . exact⟨RcAt.int_none _ _,EqAt.int_none _ _⟩
 . exact⟨RcAt.int_bool _ _ _,EqAt.int_bool _ _ _⟩
 . exact⟨RcAt.int_int _ _ _ _,EqAt.int_int _ _ _ _⟩
 . exact⟨RcAt.int_str _ _ _ _,EqAt.int_str _ _ _ _⟩
 . exact⟨RcAt.str_none _ _,EqAt.str_none _ _⟩
 . exact⟨RcAt.str_bool _ _ _,EqAt.str_bool _ _ _⟩
 . exact⟨RcAt.str_int _ _ _ _,EqAt.str_int _ _ _ _⟩
 . exact⟨RcAt.str_str _ _ _ _,EqAt.str_str _ _ _ _⟩
def lst_is(I:Inv X pins σ H s){xs:List D}{x:V}{u:Value}(r:Rep α H (.lst xs) x)(rx:RelV x u):∃a vs its,u= .ref a/\aG α H xs vs/\Vals vs its/\s.heap.IsList a its.toArray:=by
 unfold Rep at r;obtain⟨a,vs,rfl,na,ha,ra⟩:=r;cases rx;obtain⟨z,its,n,rv,hl,eo⟩:=Inv.se I ha;exact⟨a,vs,its,rfl,ra,rv,⟨_,eo,rfl,n,rfl⟩⟩
def tup_is(I:Inv X pins σ H s){xs:List D}{x:V}{u:Value}(r:Rep α H (.tup xs) x)(rx:RelV x u):∃a vs its,u= .ref a/\aG α H xs vs/\Vals vs its/\s.heap.IsTuple a its.toArray:=by
 unfold Rep at r;obtain⟨a,vs,rfl,na,ha,ra⟩:=r;cases rx;obtain⟨its,r',p,hz⟩:=I.tuple (jJ.of ha);exact⟨a,vs,its,rfl,ra,r',p⟩
def y9(I:Inv X pins σ H s){A:Around}{xs:List D}{e:D}{x y:V}{u v:Value}(he:yS e=true)(rd:Rep α H (.lst xs) x)(re:Rep α H e y)(rx:RelV x u)(ry:RelV y v)(hu:A.units<cLine):
 (RcAt A s u v (de (.lst xs) e)/\EqAt A s u v (de (.lst xs) e))/\RcAt A s v u (de e (.lst xs))/\EqAt A s v u (de e (.lst xs)):=by
 obtain⟨a,vs,its,rfl,_,_,hl⟩:=lst_is I rd rx;cases e<;>try(cases he;done)
 all_goals(unfold Rep at re;subst re)
 all_goals(first|(obtain⟨t,rfl⟩:=ry)|(cases ry))
 all_goals unfold de
 . exact⟨⟨RcAt.list_none hl hu,EqAt.list_none hl hu⟩,RcAt.none_list hl hu,EqAt.none_list hl hu⟩
 . exact⟨⟨RcAt.list_bool _ hl hu,EqAt.list_bool _ hl hu⟩,RcAt.bool_list _ hl hu,EqAt.bool_list _ hl hu⟩
 . exact⟨⟨RcAt.list_int _ _ hl hu,EqAt.list_int _ _ hl hu⟩,RcAt.int_list _ _ hl hu,EqAt.int_list _ _ hl hu⟩
 . exact⟨⟨RcAt.list_str _ _ hl hu,EqAt.list_str _ _ hl hu⟩,RcAt.str_list _ _ hl hu,EqAt.str_list _ _ hl hu⟩
def yW(I:Inv X pins σ H s){A:Around}{xs:List D}{e:D}{x y:V}{u v:Value}(he:yS e=true)(rd:Rep α H (.tup xs) x)(re:Rep α H e y)(rx:RelV x u)(ry:RelV y v)(hu:A.units<cLine):
 (RcAt A s u v (de (.tup xs) e)/\EqAt A s u v (de (.tup xs) e))/\RcAt A s v u (de e (.tup xs))/\EqAt A s v u (de e (.tup xs)):=by
 obtain⟨a,vs,its,rfl,_,_,hl⟩:=tup_is I rd rx;cases e<;>try(cases he;done)
 all_goals(unfold Rep at re;subst re)
 all_goals(first|(obtain⟨t,rfl⟩:=ry)|(cases ry))
 all_goals unfold de
 . exact⟨⟨RcAt.tuple_none hl hu,EqAt.tuple_none hl hu⟩,RcAt.none_tuple hl hu,EqAt.none_tuple hl hu⟩
 . exact⟨⟨RcAt.tuple_bool _ hl hu,EqAt.tuple_bool _ hl hu⟩,RcAt.bool_tuple _ hl hu,EqAt.bool_tuple _ hl hu⟩
 . exact⟨⟨RcAt.tuple_int _ _ hl hu,EqAt.tuple_int _ _ hl hu⟩,RcAt.int_tuple _ _ hl hu,EqAt.int_tuple _ _ hl hu⟩
 . exact⟨⟨RcAt.tuple_str _ _ hl hu,EqAt.tuple_str _ _ hl hu⟩,RcAt.str_tuple _ _ hl hu,EqAt.str_tuple _ _ hl hu⟩
def C3{A:Around}{n:Nat}{d e:D}{x y:V}{a b:Addr}(hd:pl n d=true)(he:pl n e=true)(rd:Rep α H d x)(re:Rep α H e y)(rx:RelV x (.ref a))(ry:RelV y (.ref b))(h:RcAt A s (.ref a) (.ref b) (de d e)):
 RcAt A s (.ref a) (.ref b) (de d e)/\EqAt A s (.ref a) (.ref b) (de d e):=by
 refine⟨h,?_⟩;by_cases hab:a=b
 . subst hab;have hx:x=y:=RelV.inj rx ry;subst hx;have:=Rep.inj n hd he rd re;subst this;rw[sv n d hd];exact EqAt.same _
 . exact EqAt.of_refs hab h
def DC(I:Inv X pins σ H s):∀(n:Nat) (A:Around) (d e:D) (x y:V) (u v:Value),pl n d=true->pl n e=true->Rep α H d x->Rep α H e y->RelV x u->RelV y v->A.units+n<cLine->
 RcAt A s u v (de d e)/\EqAt A s u v (de d e):=by
 intro n;induction n with
 |zero=>
  intro A d e x y u v hd he rd re rx ry hu;refine C2 ?_ ?_ rd re rx ry
  . cases d<;>first|rfl|(cases hd)
  . cases e<;>first|rfl|(cases he)
 |succ n ih=>
  intro A d e x y u v hd he rd re rx ry hu;have hu0:A.units<cLine:=by omega
  have hin:A.in1.units+n<cLine:=by rw[Around.in1_units];omega
  cases d<;>try(cases hd;done)
  case lst xs=>
   cases e<;>try(cases he;done)
   case lst ys=>
    have rd0:=rd;have re0:=re;have rx0:=rx;have ry0:=ry;obtain⟨a,vs,its,rfl,r1,v1,l1⟩:=lst_is I rd rx;obtain⟨b,ws,jts,rfl,r2,v2,l2⟩:=lst_is I re ry;have e1:=r1.length;have e2:=v1.length;have e3:=r2.length;have e4:=v2.length;refine C3 hd he rd0 re0 rx0 ry0 ?_;unfold de;by_cases hlen:xs.length=ys.length
    . rw[pY hlen];have hsz:its.toArray.size=jts.toArray.size:=by simp only[RI];omega
      have hx:xs.length=its.toArray.size:=by simp only[RI];omega
      rw[hx];refine RcAt.lists l1 l2 hsz hu0 λ j h1 h2=>?_;have h1':j<its.length:=by simpa using h1
      have h2':j<jts.length:=by simpa using h2
      obtain⟨p,_,q1,q2⟩:=ma r1 v1 j h1';obtain⟨p',_,q1',q2'⟩:=ma r2 v2 j h2';exact(ih A.in1 _ _ p p' _ _ (jQ (by unfold pl at hd;exact hd) j) (jQ (by unfold pl at he;exact he) j) q1 q1' (by simpa using q2) (by simpa using q2') hin).2
    . rw[pZ hlen];exact RcAt.lists_lengths l1 l2 (by simp only[RI,V9,ne_eq];omega) hu0
   case tup ys=>
    obtain⟨a,vs,its,rfl,r1,v1,l1⟩:=lst_is I rd rx;obtain⟨b,ws,jts,rfl,r2,v2,l2⟩:=tup_is I re ry;unfold de;exact⟨RcAt.list_tuple l1 l2 hu0,EqAt.list_tuple l1 l2 hu0⟩
   all_goals exact(y9 I rfl rd re rx ry hu0).1
  case tup xs=>
   cases e<;>try(cases he;done)
   case tup ys=>
    have rd0:=rd;have re0:=re;have rx0:=rx;have ry0:=ry;obtain⟨a,vs,its,rfl,r1,v1,l1⟩:=tup_is I rd rx;obtain⟨b,ws,jts,rfl,r2,v2,l2⟩:=tup_is I re ry;have e1:=r1.length;have e2:=v1.length;have e3:=r2.length;have e4:=v2.length;refine C3 hd he rd0 re0 rx0 ry0 ?_;unfold de
    have key:=RcAt.tuples (e:=λ j=>de (xs.getD j .aF) (ys.getD j .aF)) l1 l2 hu0 λ j h1 h2=>by
     have h1':j<its.length:=by simpa using h1
     have h2':j<jts.length:=by simpa using h2
     obtain⟨p,_,q1,q2⟩:=ma r1 v1 j h1';obtain⟨p',_,q1',q2'⟩:=ma r2 v2 j h2';exact(ih A.in1 _ _ p p' _ _ (jQ (by unfold pl at hd;exact hd) j) (jQ (by unfold pl at he;exact he) j) q1 q1' (by simpa using q2) (by simpa using q2') hin).2
    by_cases hlen:xs.length=ys.length
    . rw[pY hlen];have hsz:its.toArray.size=jts.toArray.size:=by simp only[RI];omega
      have hx:xs.length=its.toArray.size:=by simp only[RI];omega
      rw[hsz,Wj,Vw,Vu,<-hsz,<-hx]at key;exact key
    . rw[pZ hlen];have hne:(its.toArray.size==jts.toArray.size)=false:=by simp only[RI,TQ,ne_eq];omega
      rw[hne,WN]at key;exact key
   case lst ys=>
    obtain⟨a,vs,its,rfl,r1,v1,l1⟩:=tup_is I rd rx;obtain⟨b,ws,jts,rfl,r2,v2,l2⟩:=lst_is I re ry;unfold de;exact⟨RcAt.tuple_list l1 l2 hu0,EqAt.tuple_list l1 l2 hu0⟩
   all_goals exact(yW I rfl rd re rx ry hu0).1
  all_goals
   cases e<;>try(cases he;done)
   case lst ys=>exact(y9 I rfl re rd ry rx hu0).2
   case tup ys=>exact(yW I rfl re rd ry rx hu0).2
   all_goals exact C2 rfl rfl rd re rx ry
def NJ:d9:=λ x y st K=>pl 40 x=true/\pl 40 y=true/\K (.bl (de x y)) st
def QR{k:Nat}(hr:du k X.A):cE X (compareOp .Eq) (LR NJ):=λ pins s σ H x y v u Q I rx ry ⟨α,d,e,st,K,G,F',P,r1,r2,S,q,k⟩=>by
 have hu:=hr.units;exact(DC I 40 X.A d e x y v u q.1 q.2.1 (r1.mono P.same) (r2.mono P.same) rx ry (by omega)).1 _ _ _ _ ⟨.bl (de d e),H,I,rfl,k.here P q.2.2 S (by unfold Rep;rfl)⟩
def Mu:d9:=λ x y st K=>match x,y with
 | .int i,.int j=>K (.bl (!decide (i=j))) st
 | .bl i,.bl j=>K (.bl (!decide (i=j))) st
 | .str i,.str j=>K (.bl (!decide (i=j))) st
 |_,_=>False
def Qg:cE X (compareOp .NotEq) (LR Mu):=cE.imp O7 λ x y H Q ⟨α,d,e,st,K,G,F',P,r1,r2,S,q,k⟩=>by
 cases d<;>cases e<;>try exact q.elim
 all_goals(unfold Rep at r1 r2;subst r1 r2)
 . exact⟨rfl,k.here P q S (by unfold Rep;congr 2;exact Wk.mpr ⟨λ h=>by cases h;rfl,λ h=>by rw[h]⟩)⟩
 . exact⟨rfl,k.here P q S (by unfold Rep;congr 2;exact Wk.mpr ⟨λ h=>by cases h;rfl,λ h=>by rw[h]⟩)⟩
 . exact⟨rfl,k.here P q S (by unfold Rep;congr 2;exact Wk.mpr ⟨λ h=>by cases h;rfl,λ h=>by rw[h]⟩)⟩
end
end L3
namespace L3
open PySem PySem.Spec L2
open PyProof.Rows hiding St
def LC(α:List (Option Addr))(G F:Hp)(K:ck->ag->Prop)(Q:L2.St->Hp->Prop):Prop:=∀σd' st',K σd' st'->∀α' G' H' σ',Step α G α' G'->cO G' F H'->ff α' G' σd' σ'->aP α' st' G'->Q σ' H'
structure zN(α:List (Option Addr))(G F:Hp)(DD:kg)(D:Ends):Prop where
 nx:LC α G F DD.nx D.nx
 rt:LK α G F DD.rt D.rt
 bk:LC α G F DD.bk D.bk
 ct:LC α G F DD.ct D.ct
inductive P8(t:DS)(D:Ends)(σ:L2.St)(H:Hp):Prop
 |mk (α:List (Option Addr)) (σd:ck) (st:ag) (DD:kg) (G F:Hp) (P:cO G F H) (R:ff α G σd σ) (S:aP α st G) (h:t DD σd st) (k:zN α G F DD D):P8 t D σ H
def LS(t:DS):TS:=P8 t
def LC.at{α α1:List (Option Addr)}{G F G1:Hp}{K:ck->ag->Prop}{Q:L2.St->Hp->Prop}(h:LC α G F K Q)(s:Step α G α1 G1):LC α1 G1 F K Q:=λ d st' k α' G' H' v s' P R S=>h d st' k α' G' H' v (s.trans s') P R S
def LC.here{α:List (Option Addr)}{G F H:Hp}{K:ck->ag->Prop}{Q:L2.St->Hp->Prop}(h:LC α G F K Q)(P:cO G F H){σd:ck}{st:ag}{σ:L2.St}(k:K σd st)(R:ff α G σd σ)(S:aP α st G):Q σ H:=h σd st k α G H σ Step.refl P R S
def zN.at{α α1:List (Option Addr)}{G F G1:Hp}{DD:kg}{D:Ends}(h:zN α G F DD D)(s:Step α G α1 G1):zN α1 G1 F DD D:=⟨h.nx.at s,h.rt.at s,h.bk.at s,h.ct.at s⟩
section
variable {X:Cx}{a b c e o i:Expr}{es:List Expr}{ta tb tc te:DE}{pos:Pos}{st:Stmt}{sts:List Stmt}{t u:DS}
def PS.imp{t t':TS}(h:PS X st t)(f:∀D σ H,t' D σ H->t D σ H):PS X st t':=λ pins s σ H D I q=>h pins s σ H D I (f D σ H q)
def iO.imp{t t':TS}(h:iO X sts t)(f:∀D σ H,t' D σ H->t D σ H):iO X sts t':=λ pins s σ H D I q=>h pins s σ H D I (f D σ H q)
def fR:DS:=λ D σ st=>D.nx σ st
def aI(t u:DS):DS:=λ D σ st=>t {D with nx:=u D} σ st
def J6:iO X [] (LS fR):=iO.imp KQ λ D σ H ⟨α,σd,st,DD,G,F,P,R,S,t,k⟩=>k.nx.here P t R S
def JN(h:PS X st (LS t)):iO X [st] (LS t):=JD h
def HD(h:PS X st (LS t))(h2:iO X sts (LS u)):iO X (st::sts) (LS (aI t u)):=iO.imp (GU h h2) λ D σ H ⟨α,σd,st,DD,G,F,P,R,S,t,k⟩=>
 ⟨α,σd,st,_,G,F,P,R,S,t,λ σd' st' q α' G' H' σ' s' P' R' S'=>⟨α',σd',st',DD,G',F,P',R',S',q,k.at s'⟩,k.rt,k.bk,k.ct⟩
def cP(te:DE):DS:=λ D σ st=>te σ st D.rt
def Mr(h:PE X e (LE te)):PS X (.Return (some e) pos) (LS (cP te)):=PS.imp (MJ h) λ D σ H ⟨α,σd,st,DD,G,F,P,R,S,t,k⟩=>⟨α,σd,st,_,G,F,P,R,S,t,k.rt⟩
def kX(te:DE):DS:=λ D σ st=>te σ st λ _ st1=>D.nx σ st1
def Kz(h:PE X e (LE te))(hs:swapsWith e none pos.line X.env=pure false:=by rfl):PS X (.Expr e pos) (LS (kX te)):=PS.imp (KI h hs) λ D σ H ⟨α,σd,st,DD,G,F,P,R,S,t,k⟩=>
 ⟨α,σd,st,_,G,F,P,R,S,t,λ d st1 q α1 G1 H1 v s1 P1 S1 r1=>(k.nx.at s1).here P1 q (R.step s1) S1⟩
def gn(c:DT)(t u:DS):DS:=λ D σ st=>c σ st λ b st1=>if b=true then t D σ st1 else u D σ st1
def OD{x y:List Stmt}{tc:DT}(hc:PT X c (LT tc))(ha:iO X x (LS t))(hb:iO X y (LS u)):PS X (.If c x y pos) (LS (gn tc t u)):=PS.imp (Oa hc ha hb) λ D σ H ⟨α,σd,st,DD,G,F,P,R,S,t,k⟩=>by
 refine⟨α,σd,st,_,G,F,P,R,S,t,λ b st1 q α1 G1 H1 s1 P1 S1=>?_⟩;cases b with
 |true=>exact⟨α1,σd,st1,DD,G1,F,P1,R.step s1,S1,q,k.at s1⟩
 |false=>exact⟨α1,σd,st1,DD,G1,F,P1,R.step s1,S1,q,k.at s1⟩
abbrev fV:=D->ck->Option ck
def aQ(i:Nat):fV:=λ d σ=>some (σ.set i (some d))
def kr(i j:Nat):fV:=λ d σ=>match d with| .tup [x,y]=>some ((σ.set i (some x)).set j (some y))|_=>none
inductive Qa(t:fV)(v:V)(σ:L2.St)(H:Hp)(Q:L2.St->Hp->Prop):Prop
 |mk (α:List (Option Addr)) (σd:ck) (st:ag) (d:D) (K:ck->ag->Prop) (G F:Hp) (P:cO G F H) (R:ff α G σd σ) (S:aP α st G) (r:Rep α G d v) (h:∃σ',t d σd=some σ'/\K σ' st) (k:LC α G F K Q):Qa t v σ H Q
def LG(t:fV):TG:=Qa t
def PG.imp{tg:Expr}{t t':TG}(h:PG X tg t)(f:∀v σ H Q,t' v σ H Q->t v σ H Q):PG X tg t':=λ pins s σ H v u Q I r q=>h pins s σ H v u Q I r (f v σ H Q q)
def J_{tg:Expr}{i:Nat}(h:PG X tg (kB i)):PG X tg (LG (aQ i)):=PG.imp h λ v σ H Q ⟨α,σd,st,d,K,G,F,P,R,S,r,⟨σ',e,q⟩,k⟩=>by
 cases e;exact k.here P q (R.set i r) S
def ML{tg:Expr}{i j:Nat}(h:PG X tg (GQ X.K 2 (u6 (kB i) (u6 (kB j) HS)))):PG X tg (LG (kr i j)):=PG.imp h λ v σ H Q ⟨α,σd,st,d,K,G,F,P,R,S,r,⟨σ',e,q⟩,k⟩=>by
 unfold kr at e;split at e
 . rename_i x y;cases e;unfold Rep at r;obtain⟨a,vs,rfl,na,h1,h2⟩:=r;obtain⟨v1,v2,rfl,r1,r2⟩:=qd h2 rfl;exact⟨a,_,rfl,.of (P.get h1),rfl,v1,_,rfl,v2,_,rfl,rfl,k.here P q ((R.set i r1).set j r2) S⟩
 . cases e
def bc(i:Nat)(te:DE):DS:=λ D σ st=>te σ st λ d st1=>D.nx (σ.set i (some d)) st1
def EY{i:Nat}(h:PS X st (oF (LE te) (kB i))):PS X st (LS (bc i te)):=PS.imp h λ D σ H ⟨α,σd,st,DD,G,F,P,R,S,t,k⟩=>
 ⟨α,σd,st,_,G,F,P,R,S,t,λ d st1 q α1 G1 H1 v s1 P1 S1 r1=>(k.nx.at s1).here P1 q ((R.step s1).set i r1) S1⟩
def yB(tg:fV)(te:DE):DS:=λ D σ st=>te σ st λ d st1=>∃σ',tg d σ=some σ'/\D.nx σ' st1
def NO{tg:fV}(h:PS X st (oF (LE te) (LG tg))):PS X st (LS (yB tg te)):=PS.imp h λ D σ H ⟨α,σd,st,DD,G,F,P,R,S,t,k⟩=>
 ⟨α,σd,st,_,G,F,P,R,S,t,λ d st1 q α1 G1 H1 v s1 P1 S1 r1=>⟨α1,σd,st1,d,DD.nx,G1,F,P1,R.step s1,S1,r1,q,k.nx.at s1⟩⟩
def DL(i:Nat)(r:d9)(te:DE):DS:=λ D σ st=>match σ[i]? with|some (some x)=>te σ st λ y st1=>r x y st1 λ z st2=>D.nx (σ.set i (some z)) st2|_=>False
def Bd(f:Int->Int->Int):d9:=λ x y st K=>match x,y with| .int i,.int j=>K (.int (f i j)) st|_,_=>False
def MV{i:Nat}{f:Int->Int->Int}(h:PS X st (Nl i (LE te) (NG f))):PS X st (LS (DL i (Bd f) te)):=PS.imp h λ D σ H ⟨α,σd,st,DD,G,F,P,R,S,t,k⟩=>by
 unfold DL at t;split at t
 . rename_i x e;obtain⟨v,ev,rv⟩:=R.at' i x e;refine⟨v,ev,α,σd,st,_,G,F,P,R,S,t,λ y st1 q α1 G1 H1 w s1 P1 S1 r1=>?_⟩;cases x<;>cases y<;>try exact q.elim
   have rv':=rv;unfold Rep at rv r1;exact⟨_,_,rv,r1,(k.nx.at s1).here P1 q ((R.step s1).set i (by unfold Rep;rfl)) S1⟩
 . exact t.elim
def DV(x y d:D)(st:ag)(K:ag->Prop):Prop:=match x,y with
 | .ref n,.int k=>(match st[n]? with
   |some (.lst xs)=>(match lV xs.length k with|some j=>K (st.set n (.lst (xs.set j d)))|none=>False)
   |_=>False)
 |_,_=>False
def NS(to ti te:DE):DS:=λ D σ st=>te σ st λ d st1=>to σ st1 λ x st2=>ti σ st2 λ y st3=>DV x y d st3 λ st4=>D.nx σ st4
def HQ{to ti:DE}(h:PS X st (oF (LE te) (AZ (LE to) (LE ti) wK))):PS X st (LS (NS to ti te)):=PS.imp h λ D σ H ⟨α,σd,st,DD,G,F,P,R,S,t,k⟩=>by
 refine⟨α,σd,st,_,G,F,P,R,S,t,λ d st1 q α1 G1 H1 v s1 P1 S1 r1=>?_⟩;refine⟨α1,σd,st1,_,G1,F,P1,R.step s1,S1,q,λ x st2 q2 α2 G2 H2 v2 s2 P2 S2 r2=>?_⟩;refine⟨α2,σd,st2,_,G2,F,P2,(R.step s1).step s2,S2,q2,λ y st3 q3 α3 G3 H3 v3 s3 P3 S3 r3=>?_⟩;cases x<;>cases y<;>try exact q3.elim
 rename_i n kk;unfold DV at q3;simp only at q3;split at q3
 . rename_i xs e;split at q3
   . rename_i j ej;obtain⟨p,ep,vs,hv,rv⟩:=S3.gI e;have r2':=eA ep (r2.step s3);subst r2';unfold Rep at r3;have hm:some p∈α3:=Sb ep;have rd:=(r1.step s2).step s3;refine⟨p,vs,kk,j,rfl,r3,P3.get hv,by rw[<-rv.length];exact ej,?_⟩;refine(((k.nx.at s1).at s2).at s3) σd _ q3 α3 (upd G3 p (.lst (vs.set j v))) _ σ (Step.write hm) (P3.write hv) ((((R.step s1).step s2).step s3).step (Step.write hm)) ?_;exact S3.write ep ⟨vs.set j v,aW,(aY.mpr (wM rd j (aY.mp rv))).step (Step.write hm)⟩
   . exact q3.elim
 . exact q3.elim
def uf(c:DT)(tb:DS):DS:=λ D σ st=>∃W:Nat->ck->ag->Prop,(∃m,W m σ st)/\∀m σ st,W m σ st->
 c σ st λ b st1=>if b=true then tb {D with nx:=λ σ' st'=>∃m',m'<m/\W m' σ' st',ct:=λ σ' st'=>∃m',m'<m/\W m' σ' st',bk:=D.nx} σ st1 else D.nx σ st1
def G7{tc:DT}(h:PS X st (EM (LT tc) (LS t))):PS X st (LS (uf tc t)):=PS.imp h λ D σ H ⟨α,σd,st,DD,G,F,P,R,S,⟨W,⟨m0,w0⟩,turn⟩,k⟩=>by
 refine⟨λ m σ' H'=>∃α' σd' st' G',Step α G α' G'/\cO G' F H'/\ff α' G' σd' σ'/\aP α' st' G'/\W m σd' st',⟨m0,α,σd,st,G,Step.refl,P,R,S,w0⟩,?_⟩;rintro m σ1 H1 ⟨α1,σd1,st1,G1,s1,P1,R1,S1,w1⟩;refine⟨α1,σd1,st1,_,G1,F,P1,R1,S1,turn m σd1 st1 w1,λ b st2 q α2 G2 H2 s2 P2 S2=>?_⟩;cases b with
 |false=>exact((k.nx.at s1).at s2).here P2 q (R1.step s2) S2
 |true=>
  refine⟨λ σ' H'=>∃m',m'<m/\∃α' σd' st' G',Step α G α' G'/\cO G' F H'/\ff α' G' σd' σ'/\aP α' st' G'/\W m' σd' st',λ σ' H' z=>z,?_⟩;refine⟨α2,σd1,st2,_,G2,F,P2,R1.step s2,S2,q,?_⟩;refine⟨?_,(k.rt.at s1).at s2,(k.nx.at s1).at s2,?_⟩
  . rintro σd3 st3 ⟨m',hm,w3⟩ α3 G3 H3 σ3 s3 P3 R3 S3;exact⟨m',hm,α3,σd3,st3,G3,(s1.trans s2).trans s3,P3,R3,S3,w3⟩
  . rintro σd3 st3 ⟨m',hm,w3⟩ α3 G3 H3 σ3 s3 P3 R3 S3;exact⟨m',hm,α3,σd3,st3,G3,(s1.trans s2).trans s3,P3,R3,S3,w3⟩
abbrev DI:=ck->ag->(List D->(ag->Prop)->ag->Prop)->Prop
structure x_(J:It)(α:List (Option Addr))(G:Hp)(ok:ag->Prop)(xs:List D):Prop where
 stop:∀(n:Nat) α' G' F' H' st',Step α G α' G'->cO G' F' H'->aP α' st' G'->ok st'->xs.length<=n->J.stop n H'
 go:∀(n:Nat) d α' G' F' H' st',Step α G α' G'->cO G' F' H'->aP α' st' G'->ok st'->xs[n]?=some d->J.go n H'
 rh:∀(n:Nat) d α' G' F' H' st' x H'',Step α G α' G'->cO G' F' H'->aP α' st' G'->ok st'->xs[n]?=some d->J.rh n H' x H''->∃G'',Step α' G' α' G''/\cO G'' F' H''/\aP α' st' G''/\Rep α' G'' d x
def LI(t:DI):TI:=λ σ H R=>∃α σd st K G F,cO G F H/\ff α G σd σ/\aP α st G/\t σd st K/\∀xs ok st1,K xs ok st1->∀J α1 G1 H1,Step α G α1 G1->cO G1 F H1->aP α1 st1 G1->x_ J α1 G1 ok xs->R J H1
def yh(d:D)(st1:ag)(K:List D->(ag->Prop)->ag->Prop):Prop:=match d with
 | .lst xs=>K xs (λ _=>True) st1
 | .tup xs=>K xs (λ _=>True) st1
 | .ref n=>(match st1[n]? with|some (.lst xs)=>K xs (λ st'=>st'[n]?=some (.lst xs)) st1|_=>False)
 |_=>False
def Om(t:DE):DI:=λ σ st K=>t σ st λ d st1=>yh d st1 K
def C8{K:PySem.W.Frag}{a:Addr}{α:List (Option Addr)}{G:Hp}{ok:ag->Prop}{xs:List D}
 (h:∀α' G' st',Step α G α' G'->aP α' st' G'->ok st'->∃vs,Rd G' a (.lst vs)/\aG α' G' xs vs):x_ (Np K a) α G ok xs where
 stop:=λ n α' G' F' H' st' s P S o hn=>by
  obtain⟨vs,h1,h2⟩:=h α' G' st' s S o;exact⟨vs,.inl (fK P h1),by rw[<-h2.length];exact hn⟩
 go:=λ n d α' G' F' H' st' s P S o hn=>by
  obtain⟨vs,h1,h2⟩:=h α' G' st' s S o;obtain⟨v,e,_⟩:=h2.get hn;exact⟨vs,v,.inl (fK P h1),e⟩
 rh:=λ n d α' G' F' H' st' x H'' s P S o hn y=>by
  obtain⟨vs,h1,h2⟩:=h α' G' st' s S o;obtain⟨v,e,r⟩:=h2.get hn;obtain⟨rfl,y⟩:=y;have:=y vs (.inl (fK P h1));rw[e]at this;cases this;exact⟨G',Step.refl,P,S,r⟩
def LH{K:PySem.W.Frag}{a:Addr}{α:List (Option Addr)}{G:Hp}{ok:ag->Prop}{xs:List D}
 (h:∀α' G' st',Step α G α' G'->aP α' st' G'->ok st'->∃vs,G' a=some (.tup vs)/\aG α' G' xs vs):x_ (Lw K a) α G ok xs where
 stop:=λ n α' G' F' H' st' s P S o hn=>by
  obtain⟨vs,h1,h2⟩:=h α' G' st' s S o;exact⟨vs,.of (P.get h1),by rw[<-h2.length];exact hn⟩
 go:=λ n d α' G' F' H' st' s P S o hn=>by
  obtain⟨vs,h1,h2⟩:=h α' G' st' s S o;obtain⟨v,e,_⟩:=h2.get hn;exact⟨vs,v,.of (P.get h1),e⟩
 rh:=λ n d α' G' F' H' st' x H'' s P S o hn y=>by
  obtain⟨vs,h1,h2⟩:=h α' G' st' s S o;obtain⟨v,e,r⟩:=h2.get hn;obtain⟨rfl,y⟩:=y;have:=y vs (.of (P.get h1));rw[e]at this;cases this;exact⟨G',Step.refl,P,S,r⟩
def Hu{α α':List (Option Addr)}{G G':Hp}{a:Addr}{vs:List V}{xs:List D}(s:Step α G α' G')(na:some a∉α)(h1:Rd G a (.lst vs))(h2:aG α G xs vs):Rd G' a (.lst vs)/\aG α' G' xs vs:=by
 refine⟨?_,h2.step s⟩;rcases h1 with h|⟨o,h⟩
 . exact .inl (s.ext _ _ na h)
 . exact .inr ⟨o,s.ext _ _ na h⟩
def NT{l tg:Expr}{tl:DE}(hl:PE X l (LE tl)):PI X tg l (LI (Om tl)):=by
 intro pins s σ H R I h;obtain⟨α,σd,st,K,G,F,P,RS,S,t,k⟩:=h;refine cR (hl pins s σ H (λ x H1=>∃d α1 G1 st1,Step α G α1 G1/\cO G1 F H1/\aP α1 st1 G1/\Rep α1 G1 d x/\yh d st1 K) I ⟨α,σd,st,_,G,F,P,RS,S,t,λ d st1 q α1 G1 H1 v s1 P1 S1 r1=>⟨d,α1,G1,st1,s1,P1,S1,r1,q⟩⟩) λ v s1 ⟨x,H1,I1,rx,d,α1,G1,st1,s1',P1,S1,r1,q⟩=>?_;unfold yh at q
 have viaL:∀ {a:Addr} {vs:List V},x= .ref a->Rd H1 a (.lst vs)->R (Np X.K a) H1->wpAny (model X.prog X.w) X.A (pyIter v) (Jc X pins σ tg R) X.xe s1:=by
  intro a vs ex hr hR;subst ex;cases rx;obtain⟨its,rv,p,hz⟩:=I1.list (.inl hr);refine Up p.isList ?_;refine⟨s1.heap.objs.size,[s1.heap.objs.size],_,_,H1,rfl,I1.kept (t':=s1.toks) λ b o e=>RG _ e,EI a _,⟨_,Sa _ rfl,rfl,rfl⟩,λ b hb=>?_,hR⟩;have e:b=s1.heap.objs.size:=by simpa using hb
  subst e;exact I1.x6 (Ry _) (I1.aL.fresh (Ry _))
 have viaT:∀ {a:Addr} {vs:List V},x= .ref a->H1 a=some (.tup vs)->R (Lw X.K a) H1->wpAny (model X.prog X.w) X.A (pyIter v) (Jc X pins σ tg R) X.xe s1:=by
  intro a vs ex hr hR;subst ex;cases rx;obtain⟨its,rv,p,hz⟩:=I1.tuple (jJ.of hr);refine UE (show s1.heap.IsTuple a its.toArray from p) ?_;refine⟨s1.heap.objs.size,[s1.heap.objs.size],_,_,H1,rfl,I1.kept (t':=s1.toks) λ b o e=>RG _ e,Es a _,⟨_,Sa _ rfl,rfl,rfl⟩,λ b hb=>?_,hR⟩;have e:b=s1.heap.objs.size:=by simpa using hb
  subst e;exact I1.x6 (Ry _) (I1.aL.fresh (Ry _))
 cases d<;>try exact q.elim
 . rename_i n;simp only at q;split at q
   . rename_i xs e;obtain⟨a,ea,vs,h1,h2⟩:=S1.gI e;have r1':=eA ea r1;subst r1';refine viaL rfl (fK P1 (.of h1)) (k _ _ st1 q _ α1 G1 H1 s1' P1 S1 (C8 λ α' G' st' s S o=>?_));obtain⟨b,eb,ws,g1,g2⟩:=S.gI o
     have hb:b=a:=by
      rcases s.pre _ _ ea with z|z<;>(rw[z]at eb;cases eb)
      rfl
     subst hb;exact⟨ws,.of g1,g2⟩
   . exact q.elim
 . unfold Rep at r1;obtain⟨a,vs,rfl,na,ha,ra⟩:=r1;exact viaL rfl (fK P1 ha) (k _ _ st1 q _ α1 G1 H1 s1' P1 S1 (C8 λ α' G' st' s S o=>⟨vs,Hu s na ha ra⟩))
 . unfold Rep at r1;obtain⟨a,vs,rfl,na,ha,ra⟩:=r1;exact viaT rfl (P1.get ha) (k _ _ st1 q _ α1 G1 H1 s1' P1 S1 (LH λ α' G' st' s S o=>⟨vs,s.ext _ _ na ha,ra.step s⟩))
def dM(lo:Int)(n:Nat):List D:=(List.range n).map λ(k:Nat)=>D.int (lo+(k:Int))
def sM{lo:Int}{n k:Nat}:(dM lo n)[k]?=if k<n then some (.int (lo+(k:Int)))else none:=by
 unfold dM;rw[RV];by_cases h:k<n
 . rw[UU h,RF h];rfl
 . rw[WO (by simpa using h),RE h];rfl
def cK{lo:Int}{n:Nat}:(dM lo n).length=n:=by unfold dM;simp
def A4{α:List (Option Addr)}{G:Hp}{lo:Int}{n:Nat}:x_ (y6 lo n) α G (λ _=>True) (dM lo n) where
 stop:=λ m α' G' F' H' st' s P S o hn=>by rw[cK]at hn;exact hn
 go:=λ m d α' G' F' H' st' s P S o hn=>by
  rw[sM]at hn;split at hn
  . assumption
  . cases hn
 rh:=λ m d α' G' F' H' st' x H'' s P S o hn y=>by
  obtain⟨rfl,rfl⟩:=y;rw[sM]at hn;split at hn
  . cases hn;exact⟨G',Step.refl,P,S,by unfold Rep;rfl⟩
  . cases hn
def PI.imp{tg iter:Expr}{t t':TI}(h:PI X tg iter t)(f:∀σ H R,t' σ H R->t σ H R):PI X tg iter t':=λ pins s σ H R I q=>h pins s σ H R I (f σ H R q)
def I_(ds:List D)(st1:ag)(K:List D->(ag->Prop)->ag->Prop):Prop:=match ds with
 | [.int j]=>(-(2^62)<=j/\j<2^62)/\K (dM 0 j.toNat) (λ _=>True) st1
 |_=>False
def Ip(ds:List D)(st1:ag)(K:List D->(ag->Prop)->ag->Prop):Prop:=match ds with
 | [.int i,.int j]=>(-(2^62)<=i/\i<2^62/\ -(2^62)<=j/\j<2^62)/\K (dM i (j-i).toNat) (λ _=>True) st1
 |_=>False
def Kk(t:DA):DI:=λ σ st K=>t σ st λ ds st1=>I_ ds st1 K
def JJ(t:DA):DI:=λ σ st K=>t σ st λ ds st1=>Ip ds st1 K
def FZ{tg iter:Expr}{t:DA}(h:PI X tg iter (DP (LA t))):PI X tg iter (LI (Kk t)):=PI.imp h λ σ H R ⟨α,σd,st,K,G,F,P,RS,S,t,k⟩=>by
 refine⟨α,σd,st,_,G,F,P,RS,S,t,λ ds st1 q α1 G1 H1 vs s1 P1 S1 r1=>?_⟩;match ds,q,r1 with
 | [.int j],q,r1=>
   obtain⟨v,rfl,r2⟩:=gL r1 rfl;unfold Rep at r2;subst r2;exact⟨j,rfl,q.1.1,q.1.2,k _ _ st1 q.2 _ α1 G1 H1 s1 P1 S1 A4⟩
def Gm{tg iter:Expr}{t:DA}(h:PI X tg iter (Dp (LA t))):PI X tg iter (LI (JJ t)):=PI.imp h λ σ H R ⟨α,σd,st,K,G,F,P,RS,S,t,k⟩=>by
 refine⟨α,σd,st,_,G,F,P,RS,S,t,λ ds st1 q α1 G1 H1 vs s1 P1 S1 r1=>?_⟩;match ds,q,r1 with
 | [.int i,.int j],q,r1=>
   obtain⟨v,u,rfl,r2,r3⟩:=qd r1 rfl;unfold Rep at r2 r3;subst r2 r3;exact⟨i,j,rfl,q.1,k _ _ st1 q.2 _ α1 G1 H1 s1 P1 S1 A4⟩
def jb(tg:fV)(body:DS)(ok:ag->Prop)(E:kg):List D->ck->ag->Prop
 | [],σ,st=>ok st/\E.nx σ st
 |x::xs,σ,st=>ok st/\∃σ1,tg x σ=some σ1/\body {E with nx:=jb tg body ok E xs,ct:=jb tg body ok E xs,bk:=E.nx} σ1 st
def kH(src:DI)(tg:fV)(body:DS):DS:=λ D σ st=>src σ st λ xs ok st1=>jb tg body ok D xs σ st1
def LL{src:DI}{tg:fV}(h:PS X st (Mo (LI src) (LG tg) (LS t))):PS X st (LS (kH src tg t)):=PS.imp h λ D σ H ⟨α,σd,st,DD,G,F,P,R,S,tt,k⟩=>by
 refine⟨α,σd,st,_,G,F,P,R,S,tt,λ xs ok st1 q J α1 G1 H1 s1 P1 S1 it=>?_⟩;refine⟨λ i m σ' H'=>∃α' σd' st' G',Step α1 G1 α' G'/\cO G' F H'/\ff α' G' σd' σ'/\aP α' st' G'/\jb tg t ok DD (xs.drop i) σd' st'/\m=xs.length-i,⟨xs.length,α1,σd,st1,G1,Step.refl,P1,R.step s1,S1,q,rfl⟩,?_⟩;rintro i m σ2 H2 ⟨α2,σd2,st2,G2,s2,P2,R2,S2,q2,rfl⟩;cases e:xs[i]? with
 |none=>
  have hl:xs.length<=i:=V_.mp e;rw[Tv hl]at q2;unfold jb at q2;exact .inl ⟨it.stop i α2 G2 F H2 st2 s2 P2 S2 q2.1 hl,((k.nx.at s1).at s2).here P2 q2.2 R2 S2⟩
 |some d=>
  have hl:i<xs.length:=(Rx.mp e).1
  have ed:xs.drop i=d::xs.drop (i+1):=by
   rw[SQ hl];congr 1;rw[RJ hl]at e;exact SD e
  rw[ed]at q2;unfold jb at q2;obtain⟨aL,σ3,e3,q3⟩:=q2;refine .inr ⟨it.go i d α2 G2 F H2 st2 s2 P2 S2 aL e,λ σ' H'=>∃α' σd' st' G',Step α1 G1 α' G'/\cO G' F H'/\ff α' G' σd' σ'/\aP α' st' G'/\jb tg t ok DD (xs.drop (i+1)) σd' st',?_,?_⟩
  . rintro σ' H' ⟨α',σd',st',G',z1,z2,z3,z4,z5⟩;exact⟨xs.length-(i+1),by omega,α',σd',st',G',z1,z2,z3,z4,z5,rfl⟩
  . intro x H' y;obtain⟨G3,s3,P3,S3,r3⟩:=it.rh i d α2 G2 F H2 st2 x H' s2 P2 S2 aL e y;refine⟨α2,σd2,st2,d,λ σ' st'=>σ'=σ3/\st'=st2,G3,F,P3,R2.step s3,S3,r3,⟨σ3,e3,rfl,rfl⟩,?_⟩;rintro σ' st' ⟨rfl,rfl⟩ α4 G4 H4 σ4 s4 P4 R4 S4;have s24:=(s2.trans s3).trans s4;refine⟨α4,σ',st',_,G4,F,P4,R4,S4,q3,?_,((k.rt.at s1).at s24),(k.nx.at s1).at s24,?_⟩
    . intro σd5 st5 q5 α5 G5 H5 σ5 s5 P5 R5 S5;exact⟨α5,σd5,st5,G5,s24.trans s5,P5,R5,S5,q5⟩
    . intro σd5 st5 q5 α5 G5 H5 σ5 s5 P5 R5 S5;exact⟨α5,σd5,st5,G5,s24.trans s5,P5,R5,S5,q5⟩
end
def iw(fr:List (Option Nat))(σ:ck):ck:=fr.map λ o=>o.bind λ j=>(σ[j]?).join
def ff.comp{α:List (Option Addr)}{G:Hp}{σd:ck}{σ:L2.St}{fr:List (Option Nat)}(h:ff α G σd σ):ff α G (iw fr σd) (σC fr σ):=by
 refine⟨by unfold iw σC;simp,λ i d e=>?_⟩;unfold iw at e;rw[RV]at e;cases q:fr[i]? with
 |none=>rw[q]at e;cases e
 |some o=>
  rw[q]at e;cases o with
  |none=>simp at e
  |some j=>
   simp only[UD,Option.some.injEq,Option.bind_some]at e
   have ej:σd[j]?=some (some d):=by
    cases r:σd[j]? with
    |none=>rw[r]at e;cases e
    |some u=>rw[r]at e;simp at e;rw[e]
   obtain⟨v,ev,rv⟩:=h.at' j d ej;refine⟨v,?_,rv⟩;unfold σC;rw[RV,q];simp[ev]
def dP(tg:fV)(c:DT)(te:DE)(ok:ag->Prop)(σc:ck):List D->List D->ag->(List D->ag->Prop)->Prop
 | [],acc,st,K=>ok st/\K acc st
 |x::xs,acc,st,K=>ok st/\∃σ2,tg x σc=some σ2/\c σ2 st λ b st1=>if b=true then te σ2 st1 λ y st2=>dP tg c te ok σc xs (acc++[y]) st2 K else dP tg c te ok σc xs acc st1 K
def cC(src:DI)(fr:List (Option Nat))(tg:fV)(c:DT)(te:DE):DE:=λ σ st K=>src σ st λ xs ok st1=>xs.length<=sizeLine/\dP tg c te ok (iw fr σ) xs [] st1 λ ys st2=>K (.lst ys) st2
def je(src:DI)(fr:List (Option Nat))(tg:fV)(c:DT)(te:DE):DE:=λ σ st K=>src σ st λ xs ok st1=>xs.length<=sizeLine/\dP tg c te ok (iw fr σ) xs [] st1 λ ys st2=>K (.ref st2.length) (st2++[.lst ys])
def b_:DT:=λ _ st K=>K true st
def tu(fr:List (Option Nat))(tg:fV):Prop:=∀(σ:ck) (d:D) (σ2:ck),tg d (iw fr σ)=some σ2->σ2.length=(iw fr σ).length/\∀(i:Nat) (e:D),(iw fr σ)[i]?=some (some e)->σ2[i]?=some (some e)
def uh{fr:List (Option Nat)}{σ:ck}{k:Nat}(h:fr[k]?=some none){e:D}(q:(iw fr σ)[k]?=some (some e)):False:=by
 unfold iw at q;rw[RV,h]at q;simp at q
def aS{fr:List (Option Nat)}{k:Nat}(h:fr[k]?=some none:=by rfl):tu fr (aQ k):=λ σ d σ2 e=>by
 cases e;refine⟨RY,λ i x q=>?_⟩;by_cases hi:i=k
 . subst hi;exact(uh h q).elim
 . rw[RB (RO hi)];exact q
def uY{fr:List (Option Nat)}{k j:Nat}(h:fr[k]?=some none:=by rfl)(h':fr[j]?=some none:=by rfl):tu fr (kr k j):=λ σ d σ2 e=>by
 unfold kr at e;split at e
 . cases e;refine⟨by rw[RY,RY],λ i x q=>?_⟩;by_cases hi:i=k
   . subst hi;exact(uh h q).elim
   . by_cases hj:i=j
     . subst hj;exact(uh h' q).elim
     . rw[RB (RO hj),RB (RO hi)];exact q
 . cases e
section
variable {X:Cx}
def Ng{c:Expr}{t:DT}(h:PT X c (LT t)):uE X [c] (LT t):=JU h
def HM:uE X [] (LT b_):=λ pins s σ H Q I ⟨α,σd,st,K,G,F,P,R,S,t,k⟩=>KS pins s σ H Q I (k true st t α G H Step.refl P S)
def LE.comp{src:DI}{fr:List (Option Nat)}{tg:fV}{c:DT}{te:DE}(fit:tu fr tg){σ:L2.St}{H:Hp}{Q:VK}{α:List (Option Addr)}{σd:ck}{st:ag}{KE:List D->ag->Prop}{G F:Hp}(P:cO G F H)(R:ff α G σd σ)(S:aP α st G)
 (t:src σd st λ xs ok st1=>xs.length<=sizeLine/\dP tg c te ok (iw fr σd) xs [] st1 KE)
 (fin:∀ys st2 α2 G2 H2 l vs,KE ys st2->Step α G α2 G2->cO G2 (upd F l (.lst vs)) H2->F l=none->aP α2 st2 G2->aG α2 G2 ys vs->Q (.ref l) H2):
 uW (LI src) fr (LG tg) (LT c) (LE te) σ H Q:=by
 refine⟨α,σd,st,_,G,F,P,R,S,t,λ xs ok st1 q J α1 G1 H1 s1 P1 S1 it l hl=>?_⟩;obtain⟨hsz,q⟩:=q;obtain⟨hG,hF⟩:=P1.none hl
 refine⟨λ i m σ' H'=>∃α' st' G' acc vs,Step α1 G1 α' G'/\cO G' (upd F l (.lst vs)) H'/\ff α' G' (iw fr σd) σ'/\aP α' st' G'/\aG α' G' acc vs/\acc.length<=i/\i<=xs.length/\dP tg c te ok (iw fr σd) (xs.drop i) acc st' KE/\m=xs.length-i,
  ⟨xs.length,α1,st1,G1,[],[],Step.refl,P1.hide hl,(R.step s1).comp,S1,by unfold aG;rfl,Ry _,Sg _,q,rfl⟩,?_⟩
 rintro i m σ2 H2 ⟨α2,st2,G2,acc,vs,s2,P2,R2,S2,ra,hacc,hi,q2,rfl⟩;cases e:xs[i]? with
 |none=>
  have hl2:xs.length<=i:=V_.mp e;rw[Tv hl2]at q2;unfold dP at q2;exact .inl ⟨it.stop i α2 G2 _ H2 st2 s2 P2 S2 q2.1 hl2,fin acc st2 α2 G2 H2 l vs q2.2 (s1.trans s2) P2 hF S2 ra⟩
 |some d=>
  have hl2:i<xs.length:=(Rx.mp e).1
  have ed:xs.drop i=d::xs.drop (i+1):=by
   rw[SQ hl2];congr 1;rw[RJ hl2]at e;exact SD e
  rw[ed]at q2;unfold dP at q2;obtain⟨aL,σ3,e3,q3⟩:=q2;refine .inr ⟨it.go i d α2 G2 _ H2 st2 s2 P2 S2 aL e,λ σ' H'=>∃α' st' G' acc vs,Step α1 G1 α' G'/\cO G' (upd F l (.lst vs)) H'/\ff α' G' (iw fr σd) σ'/\aP α' st' G'/\aG α' G' acc vs/\acc.length<=i+1/\dP tg c te ok (iw fr σd) (xs.drop (i+1)) acc st' KE,?_,?_⟩
  . rintro σ' H' ⟨α',st',G',acc',vs',z1,z2,z3,z4,z5,z6,z7⟩;exact⟨xs.length-(i+1),by omega,α',st',G',acc',vs',z1,z2,z3,z4,z5,z6,hl2,z7,rfl⟩
  . intro x H' y;obtain⟨G3,s3,P3,S3,r3⟩:=it.rh i d α2 G2 _ H2 st2 x H' s2 P2 S2 aL e y;refine⟨α2,iw fr σd,st2,d,λ σ' st'=>σ'=σ3/\st'=st2,G3,_,P3,R2.step s3,S3,r3,⟨σ3,e3,rfl,rfl⟩,?_⟩;rintro σ' st' ⟨rfl,rfl⟩ α4 G4 H4 σ4 s4 P4 R4 S4;have s24:=(s2.trans s3).trans s4;have Rc:ff α4 G4 (iw fr σd) σ4:=⟨by rw[<-(fit σd d σ' e3).1];exact R4.len,λ j z hz=>R4.at' j z ((fit σd d σ' e3).2 j z hz)⟩
    refine⟨α4,σ',st',_,G4,_,P4,R4,S4,q3,λ b st5 q5 α5 G5 H5 s5 P5 S5=>?_⟩;cases b with
    |false=>exact⟨α5,st5,G5,acc,vs,s24.trans s5,P5,Rc.step s5,S5,((ra.step s3).step s4).step s5,by omega,q5⟩
    |true=>
     refine⟨α5,σ',st5,_,G5,_,P5,R4.step s5,S5,q5,λ z st6 q6 α6 G6 H6 v6 s6 P6 S6 r6=>?_⟩;have hr:=(((ra.step s3).step s4).step s5).step s6;refine⟨vs,(P6.frame aW).1,by rw[<-hr.length];omega,α6,st6,G6,acc++[z],vs++[v6],(s24.trans s5).trans s6,?_,(Rc.step s5).step s6,S6,aY.mpr (fG (aY.mp hr) (.cons r6 .nil)),by rw[SW,WL];omega,q6⟩;have:=P6.IH (p:=l) (o':= .lst (vs++[v6])) aW;rw[J0]at this;exact this
def MA{scope:Scope}{Nc:List Str}{elt tg iter:Expr}{ifs:List Expr}{pos:Pos}{src:DI}{fr:List (Option Nat)}{dtg:fV}{c:DT}{te:DE}(S:aO X scope Nc fr)(hi:PI X tg iter (LI src))
 (hg:∀C s H ex,PG (fT X scope Nc C s H ex) tg (LG dtg)) (ht:∀C s H ex,uE (fT X scope Nc C s H ex) ifs (LT c)) (he:∀C s H ex,PE (fT X scope Nc C s H ex) elt (LE te)) (fit:tu fr dtg)
 (hx:X.xe=λ _ _=>False:=by rfl) (hc:X.calm=true:=by rfl) (hs:∀x,foldedSetIterable iter X.env x=pure x:=by intro _;rfl):PE X (.ListComp elt [⟨tg,iter,ifs,0⟩] scope pos) (LE (cC src fr dtg c te)):=
 PE.imp (CM hx hc S hi hg ht he hs) λ σ H Q ⟨α,σd,st,K,G,F,P,R,S,t,k⟩=>LE.comp fit P R S t λ ys st2 α2 G2 H2 l vs q s2 P2 hl S2 r=>by
  have hg:G2 l=none:=(P2.frame aW).2;refine k _ st2 q α2 (upd G2 l (.lst vs)) H2 (.ref l) (s2.trans (Step.laid hg)) (P2.show hl) (S2.laid hg) ?_;unfold Rep;exact⟨l,vs,rfl,S2.mE hg,.of aW,r.step (Step.laid hg)⟩
def KP{scope:Scope}{Nc:List Str}{elt tg iter:Expr}{ifs:List Expr}{pos:Pos}{src:DI}{fr:List (Option Nat)}{dtg:fV}{c:DT}{te:DE}(S:aO X scope Nc fr)(hi:PI X tg iter (LI src))
 (hg:∀C s H ex,PG (fT X scope Nc C s H ex) tg (LG dtg)) (ht:∀C s H ex,uE (fT X scope Nc C s H ex) ifs (LT c)) (he:∀C s H ex,PE (fT X scope Nc C s H ex) elt (LE te)) (fit:tu fr dtg)
 (hx:X.xe=λ _ _=>False:=by rfl) (hc:X.calm=true:=by rfl) (hs:∀x,foldedSetIterable iter X.env x=pure x:=by intro _;rfl):PE X (.ListComp elt [⟨tg,iter,ifs,0⟩] scope pos) (LE (je src fr dtg c te)):=
 PE.imp (CM hx hc S hi hg ht he hs) λ σ H Q ⟨α,σd,st,K,G,F,P,R,S,t,k⟩=>LE.comp fit P R S t λ ys st2 α2 G2 H2 l vs q s2 P2 hl S2 r=>by
  have hg:G2 l=none:=(P2.frame aW).2;refine k _ _ q (α2++[some l]) (upd G2 l (.lst vs)) H2 (.ref l) (s2.trans (Step.cell hg)) (P2.show hl) (S2.cell hg ⟨vs,aW,r.step (Step.cell hg)⟩) ?_;unfold Rep;refine .inr ⟨l,?_,rfl⟩;rw[Sh (by rw[S2.len];exact Ry _),S2.len,TU];rfl
def JK{st:Stmt}{k:Nat}{src:DI}{fr:List (Option Nat)}{dtg:fV}{c:DT}{te:DE}(fit:tu fr dtg)(h:PS X st (oF (uW (LI src) fr (LG dtg) (LT c) (LE te)) (kB k))):PS X st (LS (bc k (cC src fr dtg c te))):=
 PS.imp h λ D σ H ⟨α,σd,st,DD,G,F,P,R,S,t,q⟩=>LE.comp fit P R S t λ ys st2 α2 G2 H2 l vs qq s2 P2 hl S2 r=>by
  have hg:G2 l=none:=(P2.frame aW).2;have s3:=s2.trans (Step.laid (o:= .lst vs) hg);refine q.nx _ st2 qq α2 (upd G2 l (.lst vs)) H2 _ s3 (P2.show hl) ((R.step s3).set k ?_) (S2.laid hg);unfold Rep;exact⟨l,vs,rfl,S2.mE hg,.of aW,r.step (Step.laid hg)⟩
def Hr{st:Stmt}{k:Nat}{src:DI}{fr:List (Option Nat)}{dtg:fV}{c:DT}{te:DE}(fit:tu fr dtg)(h:PS X st (oF (uW (LI src) fr (LG dtg) (LT c) (LE te)) (kB k))):PS X st (LS (bc k (je src fr dtg c te))):=
 PS.imp h λ D σ H ⟨α,σd,st,DD,G,F,P,R,S,t,q⟩=>LE.comp fit P R S t λ ys st2 α2 G2 H2 l vs qq s2 P2 hl S2 r=>by
  have hg:G2 l=none:=(P2.frame aW).2;have s3:=s2.trans (Step.cell (o:= .lst vs) hg);refine q.nx _ _ qq (α2++[some l]) (upd G2 l (.lst vs)) H2 _ s3 (P2.show hl) ((R.step s3).set k ?_) (S2.cell hg ⟨vs,aW,r.step (Step.cell hg)⟩);unfold Rep;refine .inr ⟨l,?_,rfl⟩;rw[Sh (by rw[S2.len];exact Ry _),S2.len,TU];rfl
def bh(N:List Str)(ds:List D):ck:=ds.map some++List.replicate (N.length-ds.length) none
def ff.start{α:List (Option Addr)}{G:Hp}{N:List Str}{ds:List D}{vs:List V}(r:aG α G ds vs):ff α G (bh N ds) (L2.start N vs):=by
 have hl:=r.length;refine⟨by unfold bh L2.start;simp[hl],λ i d e=>?_⟩;unfold bh at e;by_cases hi:i<ds.length
 . rw[RH (by simpa using hi),RV]at e;cases q:ds[i]? with
   |none=>rw[q]at e;cases e
   |some x=>
    rw[q]at e;cases e;obtain⟨v,ev,rv⟩:=r.get q;refine⟨v,?_,rv⟩;unfold L2.start;rw[RH (by rw[Rw];omega),RV,ev];rfl
 . rw[Sh (by simpa using hi),Wr]at e;split at e<;>cases e
def Oy{P:Program}{w:World}{K:PySem.W.Frag}{mg:Str->Option Value}{base:Heap}{x qual:Str}{st:Stmt}{f:Addr}{fd:FuncData}{N ps:List Str}{k:Nat}{sp:c_}{t:DS}(F:pG K x qual st f fd)(S:aT N ps (ai st))
 (hbody:∀(cdv:Value) (A:Around) (outer:List Env) (s:Shared) (H:Hp) (E:XK),du k (A.deeper (envOfC qual (ai st) s.heap.objs.size f cdv))->iO (sT di P w K mg base N qual (ai st) f cdv A outer s H E).wG (ir st) (LS t))
 (hsp:∀ds st K,sp ds st K->ds.length=ps.length/\t {nx:=λ _ st'=>K .aF st',rt:=K} (bh N ds) st):cm P w K mg base di (k+1) f fd ps (dq sp):=by
 refine F.ok S (λ vs H Q E h=>?_) λ cdv A outer s H vs Q E hr h=>⟨_,hbody cdv A outer s H E hr,?_⟩
 . obtain⟨α,ds,st,K,G,F,P,r,S,q,k⟩:=h;rw[<-r.length];exact(hsp ds st K q).1
 . obtain⟨α,ds,st,K,G,F,P,r,S,q,k⟩:=h;refine⟨α,bh N ds,st,_,G,F,P,ff.start r,S,(hsp ds st K q).2,?_,k,?_,?_⟩
   . intro σd' st' kk α' G' H' σ' s' P' R' S';exact k .aF st' kk α' G' H' .aF s' P' S' (by unfold Rep;rfl)
   . intro σd' st' kk;exact kk.elim
   . intro σd' st' kk;exact kk.elim
def qZ(to te:DE):DE:=λ σ st K=>to σ st λ x st1=>match x with
 | .ref n=>(match st1[n]? with
   |some (.lst _)=>te σ st1 λ y st2=>∃y',[y]=[y']/\(match st2[n]? with|some (.lst xs)=>xs.length<sizeLine/\K .aF (st2.set n (.lst (xs++[y'])))|_=>False)
   |_=>False)
 |_=>False
end
structure cH(K:PySem.W.Frag)(mg:Str->Option Value)(x qual:Str)(st:Stmt)(ps:List Str)(f:Addr)(fd:FuncData):Prop where
 fn:pG K x qual st f fd
 mg:mg x=some (.ref f)
 bd:Binds K fd ps []
def xn(sc:Scope)(N:List Str)(scope:Scope)(Nc:List Str)(fr:List (Option Nat)):Bool:=
 (scope.kind== .function)&&scope.names.all (λ x=>x.2 != .cell||scope.names.lookup x.1==some .cell)&&scope.names.all (λ x=>x.2 != .local||scope.names.lookup x.1==some .local)&&
 scope.names.all (λ x=>x.2 != .free||sc.names.lookup x.1==some .cell||sc.names.lookup x.1==some .free)&&(fr.length==Nc.length)&&
 (List.range fr.length).all λ i=>match fr[i]?,Nc[i]? with
   |some (some j),some x=>(N[j]?==some x)&&(scope.names.lookup x==some .free)&&(sc.names.lookup x==some .cell||sc.names.lookup x==some .free)
   |_,_=>true
def aO.look{X:Cx}{scope:Scope}{Nc:List Str}{fr:List (Option Nat)}(sc:Scope)(N:List Str)(h:xn sc N scope Nc fr=true)(hsc:X.env.scope=sc:=by rfl)(hN:X.N=N:=by rfl):aO X scope Nc fr:=by
 unfold xn at h;simp only[SV]at h;obtain⟨⟨⟨⟨⟨h1,h2⟩,h3⟩,h4⟩,h5⟩,h6⟩:=h;subst hsc hN;refine⟨by simpa using h1,λ x hx hk=>?_,λ x hx hk=>?_,λ x hx hk=>?_,by simpa using h5,λ i j x e1 e2=>?_⟩
 . have:=SA.mp h2 x hx;rw[hk]at this;simpa using this
 . have:=SA.mp h3 x hx;rw[hk]at this;simpa using this
 . have:=SA.mp h4 x hx;rw[hk]at this;have z:X.env.scope.names.lookup x.1=some .cell\/X.env.scope.names.lookup x.1=some .free:=by simpa using this
   exact z
 . have hi:i<fr.length:=(Rx.mp e2).1;have:=SA.mp h6 i (T4.mpr hi);rw[e1,e2]at this;simp only[SV,Wu,Us]at this;exact⟨this.1.1,this.1.2,this.2⟩
section
variable {X:Cx}
def Qx{e:Expr}{es:List Expr}{pos p:Pos}{x:Str}{id:String}{r:fI}{t:DA}(hc:cj X (.builtin id) (gc r))(ha:PA X (e::es) (LA t))(hm:X.mg x=none)(hv:bootBuiltins x=some (.builtin id))(hg:Gl X x:=by rfl)(hn:x≠"__name__":=by decide)(hdb:(x==("__debug__":Str))=false:=by decide)
 (he:starEach (e::es) X.env=(false,eval e X.env)::starEach es X.env:=by rfl) (hpl:(backTo pos (starEach es X.env)).any (·.1)=false:=by rfl):PE X (.Call (.Name x p) (e::es) [] pos) (LE (bV r t)):=PE.imp (HG hc hg hm hv ha hn hdb he hpl) λ _ _ _ h=>LE.cb h
def Qe{e:Expr}{es:List Expr}{pos p:Pos}{x:Str}{T:String}{r:fI}{t:DA}(hc:cj X (.type T) (gc r))(ha:PA X (e::es) (LA t))(hm:X.mg x=none)(hv:bootBuiltins x=some (.type T))(hg:Gl X x:=by rfl)(hn:x≠"__name__":=by decide)(hdb:(x==("__debug__":Str))=false:=by decide)
 (he:starEach (e::es) X.env=(false,eval e X.env)::starEach es X.env:=by rfl) (hpl:(backTo pos (starEach es X.env)).any (·.1)=false:=by rfl):PE X (.Call (.Name x p) (e::es) [] pos) (LE (bV r t)):=PE.imp (EF hc hg hm hv ha hn hdb he hpl) λ _ _ _ h=>LE.cb h
def QY{pos:Pos}{x:Str}{T:String}(hm:X.mg x=none)(hv:bootBuiltins x=some (.type T))(hg:Gl X x:=by rfl)(hn:x≠"__name__":=by decide)(hdb:(x==("__debug__":Str))=false:=by decide):PE X (.Name x pos) (LE (dC (.ty T))):=
 rB (v:= .ty T) (Kx hg hm hv rfl hn hdb) λ _ _=>by unfold Rep;rfl
def Qr{e:Expr}{es:List Expr}{pos p:Pos}{x qual:Str}{st:Stmt}{ps:List Str}{f:Addr}{fd:FuncData}{k:Nat}{S:c_}{t:DA}(A:cH X.K X.mg x qual st ps f fd)(F:cm X.prog X.w X.K X.mg X.base di k f fd ps (dq S))(hr:du k X.A)
 (ha:PA X (e::es) (LA t)) (hg:Gl X x:=by rfl) (hdb:(x==("__debug__":Str))=false:=by decide) (he:starEach (e::es) X.env=(false,eval e X.env)::starEach es X.env:=by rfl) (hpl:(backTo pos (starEach es X.env)).any (·.1)=false:=by rfl):
 PE X (.Call (.Name x p) (e::es) [] pos) (LE (aK S t)):=Nk F hr hg A.mg A.fn.kp A.bd ha hdb he hpl
def NA(d:D)(b:Bool):Bool:=match d with| .bl c=>c==b|_=>false
def PN(d:D):Bool:=match d with| .aF=>true|_=>false
def Le{α:List (Option Addr)}{H:Hp}{st:ag}{d:D}{v:V}{u:Value}{b:Bool}(S:aP α st H)(hl:live st d=true)(r:Rep α H d v)(ru:RelV v u):(u==Value.bool b)=NA d b:=by
 cases d
 case ref n=>
  obtain⟨a,rfl⟩:=Au S hl r;cases ru;rfl
 all_goals unfold Rep at r
 case bl c=>
  subst r;cases ru;cases c<;>cases b<;>rfl
 all_goals first
  |(subst r;first|(cases ru;rfl)|(obtain⟨t,rfl⟩:=ru;rfl))
  |(obtain⟨a,vs,rfl,_⟩:=r;cases ru;rfl)
def LE.append{to te:DE}{σ:L2.St}{H:Hp}{Q:VK}(h:LE (qZ to te) σ H Q):Jg X.K "list" CT (LE to) (LA (af te ak)) σ H Q:=by
 obtain⟨α,σd,st,K,G,F,P,R,S,t,k⟩:=h;refine⟨α,σd,st,_,G,F,P,R,S,t,λ x st1 q α1 G1 H1 v s1 P1 S1 r1=>?_⟩;cases x<;>try exact q.elim
 rename_i n;simp only at q;split at q
 . rename_i ys e;obtain⟨p,ep,vs,h1,h2⟩:=S1.gI e;have r1':=eA ep r1;subst r1';refine⟨.inl ⟨rfl,vs,.inl (.of (P1.get h1))⟩,α1,σd,st1,λ ds st2=>∃y,ds=[y]/\(match st2[n]? with|some (.lst xs)=>xs.length<sizeLine/\K .aF (st2.set n (.lst (xs++[y])))|_=>False),G1,F,P1,R.step s1,S1,?_,?_⟩
   . refine Eq.mp ?_ q;rfl
   . rintro ds st2 ⟨y,rfl,q2⟩ α2 G2 H2 ws s2 P2 S2 r2;obtain⟨w,rfl,rw'⟩:=gL r2 rfl;split at q2
     . rename_i xs e2;obtain⟨p2,ep2,us,g1,g2⟩:=S2.gI e2
       have:p2=p:=by
        rcases s2.pre _ _ ep with z|z<;>(rw[z]at ep2;cases ep2)
        rfl
       subst this;have hm:some p2∈α2:=Sb ep2;refine⟨p2,us,w,rfl,rfl,P2.get g1,by rw[<-g2.length];exact q2.1,?_⟩;refine((k.at s1).at s2) _ _ q2.2 α2 (upd G2 p2 (.lst (us++[w]))) _ .aF (Step.write hm) (P2.write g1) ?_ (by unfold Rep;rfl);exact S2.write ep2 ⟨us++[w],aW,(aY.mpr (fG (aY.mp g2) (.cons rw' .nil))).step (Step.write hm)⟩
     . exact q2.elim
 . exact q.elim
def GO{o e:Expr}{to te:DE}{apos cpos:Pos}(ho:PE X o (LE to))(he:PE X e (LE te))(hbase:attributeBase o "append" X.env (eval o X.env)=eval o X.env:=by rfl)
 (hfew:((backTo cpos (starEach [e] X.env)).all (λ x=> !x.1)&&(backToKw cpos (keywordEach [] X.env)).all (λ x=>x.1.isSome)
   &&decide (([e]:List Expr).length+([]:List Keyword).length+(if([]:List Keyword).isEmpty then 0 else 1)<30))=true:=by rfl)
 (hline:(apos.endLine==cpos.line)=true:=by rfl) (hs:starEach [e] X.env=(false,eval e X.env)::starEach [] X.env:=by rfl) (hplain:(backTo cpos (starEach [] X.env)).any (·.1)=false:=by rfl):PE X (.Call (.Attribute o "append" apos) [e] [] cpos) (LE (qZ to te)):=
 PE.imp (Dk Vf PySem.F.slot_list_append PySem.F.type_list_append yH ho (rR he ur hs) hbase hfew hline hs hplain) λ _ _ _ h=>LE.append h
end
end L3
namespace L3
open PySem L2
open PySem.Spec hiding items?
open PyProof.Rows hiding St
section
variable {X:Cx}
@[irreducible] def dz:d9:=Im
def fL:cE X (binaryOp .Add) (LR dz):=by unfold dz;exact OB
@[irreducible] def mx:d9:=IE
def nM:cE X (binaryOp .Sub) (LR mx):=by unfold mx;exact OK
@[irreducible] def fy:d9:=IC
def gg:cE X (binaryOp .Mult) (LR fy):=by unfold fy;exact Px
@[irreducible] def uN:d9:=Fm
def ES:cE X (binaryOp .FloorDiv) (LR uN):=by unfold uN;exact LV
@[irreducible] def i4:d9:=Il
def qE:cE X (binaryOp .Mod) (LR i4):=by unfold i4;exact N9
@[irreducible] def tY:d9:=Iq
def zZ:cE X (binaryOp .Pow) (LR tY):=by unfold tY;exact Pm
@[irreducible] def tx:d9:=Nx
def BC:cE X (compareOp .Lt) (LR tx):=by unfold tx;exact QH
@[irreducible] def uu:d9:=L9
def DU:cE X (compareOp .Gt) (LR uu):=by unfold uu;exact QK
@[irreducible] def AM:d9:=NC
def QE:cE X (compareOp .GtE) (LR AM):=by unfold AM;exact QD
@[irreducible] def oK:d9:=Mu
def uy:cE X (compareOp .NotEq) (LR oK):=by unfold oK;exact Qg
@[irreducible] def iL:d9:=NJ
def lu{k:Nat}(hr:du k X.A):cE X (compareOp .Eq) (LR iL):=by unfold iL;exact QR hr
@[irreducible] def mn:AI:=Ir
def O8:CB X (unaryOp .USub) (IM mn):=by unfold mn;exact Pe
@[irreducible] def bI:d9:=sf
def QO{a b:Expr}{ta tb:DE}{pos:Pos}(ha:PE X a (LE ta))(hb:PE X b (LE tb))(hs:u4 b:=by intro _ _;rfl):PE X (.Subscript a b pos) (LE (aw bI ta tb)):=by unfold bI;exact QV ha hb hs
@[irreducible] def fJ:fI:=zC
def fw:cj X (.builtin "len") (gc fJ):=by unfold fJ;exact O4
@[irreducible] def ud:fI:=DH
def zQ:cj X (.builtin "abs") (gc ud):=by unfold ud;exact OJ
@[irreducible] def yg:fI:=D8
def Po(hc:X.calm=true):cj X (.builtin "max") (gc yg):=by unfold yg;exact Pq hc
@[irreducible] def xR:fI:=Eg
def Pz(hc:X.calm=true):cj X (.builtin "min") (gc xR):=by unfold xR;exact Of hc
@[irreducible] def pH:fI:=Df
def uI:cj X (.type "int") (gc pH):=by unfold pH;exact OS
@[irreducible] def dB:fI:=uL
def dD:cj X (.type "tuple") (gc dB):=by unfold dB;exact Ks
@[irreducible] def iW:fI:=xG
def jT:cj X (.type "list") (gc iW):=by unfold iW;exact MD
@[irreducible] def q_:fI:=uK
def CW:cj X (.type "list") (gc q_):=by unfold q_;exact JX
@[irreducible] def BM:fI:=zI
def Pf(hc:X.calm=true):cj X (.builtin "all") (gc BM):=by unfold BM;exact Pu hc
@[irreducible] def sd:fI:=zL
def xH:cj X (.builtin "isinstance") (gc sd):=by unfold sd;exact Pb
@[irreducible] def qR:D->ag->(List D->(ag->Prop)->ag->Prop)->Prop:=yh
def c5(t:DE):DI:=λ σ st K=>t σ st λ d st1=>qR d st1 K
def L0{l tg:Expr}{tl:DE}(hl:PE X l (LE tl)):PI X tg l (LI (c5 tl)):=by unfold c5 qR;exact NT hl
@[irreducible] def z8:List D->ag->(List D->(ag->Prop)->ag->Prop)->Prop:=I_
@[irreducible] def zF:List D->ag->(List D->(ag->Prop)->ag->Prop)->Prop:=Ip
def dF(t:DA):DI:=λ σ st K=>t σ st λ ds st1=>z8 ds st1 K
def uT(t:DA):DI:=λ σ st K=>t σ st λ ds st1=>zF ds st1 K
def GH{tg iter:Expr}{t:DA}(h:PI X tg iter (DP (LA t))):PI X tg iter (LI (dF t)):=by unfold dF z8;exact FZ h
def ER{tg iter:Expr}{t:DA}(h:PI X tg iter (Dp (LA t))):PI X tg iter (LI (uT t)):=by unfold uT zF;exact Gm h
@[irreducible] def Bz:D->D->D->ag->(ag->Prop)->Prop:=DV
def f_(to ti te:DE):DS:=λ D σ st=>te σ st λ d st1=>to σ st1 λ x st2=>ti σ st2 λ y st3=>Bz x y d st3 λ st4=>D.nx σ st4
def A9{st:Stmt}{to ti te:DE}(h:PS X st (oF (LE te) (AZ (LE to) (LE ti) wK))):PS X st (LS (f_ to ti te)):=by unfold f_ Bz;exact HQ h
end
section
variable {st:ag}{K:DK}{i j:Int}{b c:Bool}{xs ys:List D}{d e:D}{n:Nat}
def gG(k:K (.int (i+j)) st):dz (.int i) (.int j) st K:=by unfold dz;exact k
def Lr(h:xs.length+ys.length<=sizeLine)(k:K (.tup (xs++ys)) st):dz (.tup xs) (.tup ys) st K:=by unfold dz;exact⟨h,k⟩
def pj(h:xs.length+ys.length<=sizeLine)(k:K (.lst (xs++ys)) st):dz (.lst xs) (.lst ys) st K:=by unfold dz;exact⟨h,k⟩
def kQ(k:K (.int (i-j)) st):mx (.int i) (.int j) st K:=by unfold mx;exact⟨trivial,k⟩
def f7(h:IntMulOk i j)(k:K (.int (i*j)) st):fy (.int i) (.int j) st K:=by unfold fy;exact⟨h,k⟩
def ym(h: -(2^63)<=i/\i<2^63/\xs.length*i.toNat<=sizeLine)(k:K (.lst (List.replicate i.toNat xs).flatten) st):fy (.lst xs) (.int i) st K:=by unfold fy;exact⟨h,k⟩
def KC(h: -(2^63)<=i/\i<2^63/\xs.length*i.toNat<=sizeLine)(k:K (.tup (List.replicate i.toNat xs).flatten) st):fy (.tup xs) (.int i) st K:=by unfold fy;exact⟨h,k⟩
def Cy(h0:j≠0)(h:j.natAbs.log2<9000)(k:K (.int (i.fdiv j)) st):uN (.int i) (.int j) st K:=by unfold uN;exact⟨⟨h0,h⟩,k⟩
def ot(h0:j≠0)(k:K (.int (i.fmod j)) st):i4 (.int i) (.int j) st K:=by unfold i4;exact⟨h0,k⟩
def xp(h:Ho i j)(k:K (.int (i^j.toNat)) st):tY (.int i) (.int j) st K:=by unfold tY;exact⟨h,k⟩
def IX(k:K (.bl (decide (i<j))) st):tx (.int i) (.int j) st K:=by unfold tx;exact⟨trivial,k⟩
def ED(k:K (.bl (decide (j<i))) st):uu (.int i) (.int j) st K:=by unfold uu;exact⟨trivial,k⟩
def IL(k:K (.bl (decide (j<=i))) st):AM (.int i) (.int j) st K:=by unfold AM;exact⟨trivial,k⟩
def Jq(k:K (.bl (!decide (i=j))) st):oK (.int i) (.int j) st K:=by unfold oK;exact k
def Jm(h1:pl 40 d=true)(h2:pl 40 e=true)(k:K (.bl (de d e)) st):iL d e st K:=by unfold iL;exact⟨h1,h2,k⟩
def KU(a b:Int):(a==b)=decide (a=b):=by
 by_cases h:a=b
 . subst h;simp
 . simp[h]
def FN(k:K (.bl (decide (i=j))) st):iL (.int i) (.int j) st K:=by
 refine Jm rfl rfl ?_;have:de (.int i) (.int j)=decide (i=j):=by unfold de;exact KU i j
 rw[this];exact k
def mr(k:K (.int (-i)) st):mn (.int i) st K:=by unfold mn;exact k
def Hc(h:items? st d=some xs)(a:fP xs i=some e)(k:K e st):sf d (.int i) st K:=by
 cases d<;>unfold items? at h<;>first
  |(cases h;done)
  |(cases h;simp only[sf,a];exact k)
  |(simp only at h
    split at h
    . rename_i q;cases h;simp only[sf,q,a];exact k
    . cases h)
def aM(h:items? st d=some xs)(a:fP xs i=some e)(k:K e st):bI d (.int i) st K:=by unfold bI;exact Hc h a k
def d6(h:items? st d=some xs)(k:K (.int xs.length) st):fJ [d] st K:=by
 unfold fJ zC;split
 . rename_i z;cases z;cases h
 . rename_i z;cases z;rw[h];exact k
 . rename_i z1 z2;exact absurd rfl (z2 d)
def KG(i:Int):(if i<0 then-i else i)=((i.natAbs:Nat):Int):=by split<;>omega
def xa(k:K (.int ((i.natAbs:Nat):Int)) st):ud [.int i] st K:=by unfold ud;show K (.int (if i<0 then-i else i)) st;rw[KG];exact k
def Mi(k:K (.int (if j>i then j else i)) st):yg [.int i,.int j] st K:=by unfold yg;exact k
def LF(k:K (.int (if j<i then j else i)) st):xR [.int i,.int j] st K:=by unfold xR;exact k
def ni(k:K (.int (if b then 1 else 0)) st):pH [.bl b] st K:=by unfold pH;exact k
def c8(h:items? st d=some xs)(k:K (.tup xs) st):dB [d] st K:=by unfold dB uL;simp only[h];exact k
def ip(h:items? st d=some xs)(k:K (.lst xs) st):iW [d] st K:=by unfold iW xG;simp only[h];exact k
def Bf(h:items? st d=some xs)(k:K (.ref st.length) (st++[.lst xs])):q_ [d] st K:=by unfold q_ uK;simp only[h];exact k
def LZ{bs:List Bool}(h:oa xs=some bs)(k:K (.bl (bs.all id)) st):BM [.lst xs] st K:=by unfold BM zI;simp only[h];exact k
def tN{t c:String}(h:kq st d=some t)(hc:c∈pC)(k:K (.bl (vG t c)) st):sd [d,.ty c] st K:=by unfold sd zL;simp only[h];exact⟨hc,k⟩
def p7{K:List D->(ag->Prop)->ag->Prop}(h:items? st d=some xs)(k:∀ok:ag->Prop,ok st->K xs ok st):qR d st K:=by
 unfold qR yh
 cases d<;>unfold items? at h<;>first
  |(cases h;done)
  |(cases h;exact k _ trivial)
  |(simp only at h
    split at h
    . rename_i q;cases h;simp only[q];exact k _ q
    . cases h)
def ke{K:List D->(ag->Prop)->ag->Prop}(k:K xs (λ _=>True) st):qR (.lst xs) st K:=by unfold qR;exact k
def fW{K:List D->(ag->Prop)->ag->Prop}(k:K xs (λ _=>True) st):qR (.tup xs) st K:=by unfold qR;exact k
def eK{K:List D->(ag->Prop)->ag->Prop}(h: -(2^62)<=j/\j<2^62)(k:K (dM 0 j.toNat) (λ _=>True) st):z8 [.int j] st K:=by unfold z8;exact⟨h,k⟩
def Lh{K:List D->(ag->Prop)->ag->Prop}(h: -(2^62)<=i/\i<2^62/\ -(2^62)<=j/\j<2^62)(k:K (dM i (j-i).toNat) (λ _=>True) st):zF [.int i,.int j] st K:=by unfold zF;exact⟨h,k⟩
def jP{K:ag->Prop}{m:Nat}(h:st[n]?=some (.lst xs))(e:lV xs.length i=some m)(k:K (st.set n (.lst (xs.set m d)))):Bz (.ref n) (.int i) d st K:=by unfold Bz DV;simp only[h,e];exact k
end
def Ff(K:PySem.W.Frag):Bool:=K.all λ p=>p.2.cls != .type "list"
def vp{a:Addr}{o:Obj}:∀ {l:List (Addr×Obj)},l.lookup a=some o->(a,o)∈l
 | [],h=>by cases h
 |(b,u)::r,h=>by
  rw[Sz]at h;split at h
  . rename_i z;cases h;have:a=b:=by simpa using z
    subst this;exact R7
  . exact R8 _ (vp h)
def zw{K:PySem.W.Frag}(h:Ff K=true){a:Addr}{o:Obj}(e:K.lookup a=some o):o.cls≠ .type "list":=by
 have:=SA.mp h (a,o) (vp e);simpa using this
def yN{α:List (Option Addr)}{G:Hp}:∀ns:List Int,aG α G (ns.map D.int) (ns.map V.int)
 | []=>by unfold aG;rfl
 |n::ns=>by
  rw[SM,SM];unfold aG;exact⟨_,_,rfl,by unfold Rep;rfl,yN ns⟩
def notStar:Expr->Bool
 | .Starred .. =>false
 |_=>true
def cQ{e:Expr}{es:List Expr}{env:Env}(h:notStar e=true):starEach (e::es) env=(false,eval e env)::starEach es env:=by
 cases e<;>first|rfl|cases h
def ib:List Expr->Bool
 | []=>true
 |e::es=>notStar e&&ib es
def nD{pos:Pos}{env:Env}:∀ {es:List Expr},ib es=true->(backTo pos (starEach es env)).any (·.1)=false
 | [],_=>rfl
 |e::es,h=>by
  unfold ib at h;rw[SV]at h;rw[cQ h.1];have ih:=nD (pos:=pos) (env:=env) h.2;unfold backTo at ih⊢;rw[SM,List.any_cons,ih];rfl
def lp:Expr->Bool
 | .Slice .. =>false
 |_=>true
def uk:Expr->Bool
 | .Name .. =>true
 | .Call .. =>true
 | .Subscript .. =>true
 | .Attribute .. =>true
 |_=>false
def nA:Expr->Bool
 | .ListComp .. =>false
 | .SetComp .. =>false
 | .DictComp .. =>false
 |_=>true
section
variable {X:Cx}
def Ic{b:Expr}(h:lp b=true):u4 b:=by
 intro o i;cases b<;>first|rfl|cases h
def D5{e:Expr}(h:uk e=true):∀whole,isTrue e X.env whole=(do let v <-whole;standAt e.pos;holding [v] (truthy v)):=by
 intro whole;cases e<;>first|(cases h;done)|rfl
def yc{e:Expr}{tg:Option Expr}{n:Nat}{env:Env}(h:nA e=true):swapsWith e tg n env=pure false:=by
 cases e<;>first|(cases h;done)|rfl
def HJ{e:Expr}{es:List Expr}{te:DE}{tr:DA}(ha:PE X e (LE te))(hr:PA X es (LA tr))(hs:notStar e=true:=by rfl):PA X (e::es) (LA (af te tr)):=rR ha hr (cQ hs)
def Oo{e:Expr}{es:List Expr}{pos p:Pos}{x:Str}{id:String}{r:fI}{t:DA}(hc:cj X (.builtin id) (gc r))(ha:PA X (e::es) (LA t))(hm:X.mg x=none)(hv:bootBuiltins x=some (.builtin id))(hn:x≠"__name__")(hdb:(x==("__debug__":Str))=false)(hg:Gl X x:=by rfl)(hs:notStar e=true:=by rfl)(hs2:ib es=true:=by rfl):
 PE X (.Call (.Name x p) (e::es) [] pos) (LE (bV r t)):=Qx hc ha hm hv hg hn hdb (cQ hs) (nD hs2)
def OO{e:Expr}{es:List Expr}{pos p:Pos}{x:Str}{T:String}{r:fI}{t:DA}(hc:cj X (.type T) (gc r))(ha:PA X (e::es) (LA t))(hm:X.mg x=none)(hv:bootBuiltins x=some (.type T))(hn:x≠"__name__")(hdb:(x==("__debug__":Str))=false)(hg:Gl X x:=by rfl)(hs:notStar e=true:=by rfl)(hs2:ib es=true:=by rfl):
 PE X (.Call (.Name x p) (e::es) [] pos) (LE (bV r t)):=Qe hc ha hm hv hg hn hdb (cQ hs) (nD hs2)
def O0{e:Expr}{es:List Expr}{pos p:Pos}{x qual:Str}{st:Stmt}{ps:List Str}{f:Addr}{fd:FuncData}{k:Nat}{S:c_}{t:DA}(A:cH X.K X.mg x qual st ps f fd)(F:cm X.prog X.w X.K X.mg X.base di k f fd ps (dq S))(hr:du k X.A)
 (ha:PA X (e::es) (LA t)) (hdb:(x==("__debug__":Str))=false) (hg:Gl X x:=by rfl) (hs:notStar e=true:=by rfl) (hs2:ib es=true:=by rfl):
 PE X (.Call (.Name x p) (e::es) [] pos) (LE (aK S t)):=Qr A F hr ha hg hdb (cQ hs) (nD hs2)
def Pg{a b:Expr}{ta tb:DE}{pos:Pos}(ha:PE X a (LE ta))(hb:PE X b (LE tb))(hs:lp b=true:=by rfl):PE X (.Subscript a b pos) (LE (aw bI ta tb)):=QO ha hb (Ic hs)
def JY{e:Expr}{te:DE}(he:PE X e (LE te))(h:uk e=true:=by rfl):PT X e (LT (cu te)):=Md he (D5 h)
def HL{e:Expr}{te:DE}{pos:Pos}(he:PE X e (LE te))(h:nA e=true:=by rfl):PS X (.Expr e pos) (LS (kX te)):=Kz he (yc h)
def Kh{i:Nat}{x:Str}{e:Expr}{te:TE}{pos pos':Pos}(hN:X.N.Nodup)(hi:X.N[i]?=some x)(hx:Loc X.env.scope x)(he:PE X e te)(hf:X.fn x=true\/X.env.scope.names.lookup x=some .local:=by first|exact .inl rfl|exact .inr rfl)(h:nA e=true:=by rfl):
 PS X (.Assign [.Name x pos'] e pos) (oF te (kB i)):=FR hN hi hx he (yc h) hf
def K2{i:Nat}{x:Str}{pos:Pos}(hd:(x==("__debug__":Str))=false)(hcd:(x==("__classdict__":Str))=false)(hv:AJ X.env.scope x)(hN:X.N[i]?=some x:=by rfl):PE X (.Name x pos) (LE (ae i)):=OH (Nr hN hv hd hcd)
def LP{o i e:Expr}{to ti te:TE}{pos pos':Pos}(he:PE X e te)(ho:PE X o to)(hi:PE X i ti)(h1:nA e=true:=by rfl)(h2:lp i=true:=by rfl):PS X (.Assign [.Subscript o i pos'] e pos) (oF te (AZ to ti wK)):=
 BJ he (EZ ho hi set_list (by intro v;cases i<;>first|rfl|cases h2)) (by unfold swapsWithSole;exact yc h1) (by cases e<;>rfl) rfl
end
@[irreducible] def JE(X:Cx)(e:Expr)(t:DE):Prop:=PE X e (LE t)
@[irreducible] def JT(X:Cx)(e:Expr)(t:DT):Prop:=PT X e (LT t)
@[irreducible] def JW(X:Cx)(e:Expr)(t:DT):Prop:=PW X e (LT t)
@[irreducible] def JA(X:Cx)(es:List Expr)(t:DA):Prop:=PA X es (LA t)
@[irreducible] def JS(X:Cx)(s:Stmt)(t:DS):Prop:=PS X s (LS t)
@[irreducible] def JB(X:Cx)(s:List Stmt)(t:DS):Prop:=iO X s (LS t)
@[irreducible] def JG(X:Cx)(e:Expr)(t:fV):Prop:=PG X e (LG t)
@[irreducible] def JI(X:Cx)(tg e:Expr)(t:DI):Prop:=PI X tg e (LI t)
@[irreducible] def JC(X:Cx)(es:List Expr)(t:DT):Prop:=uE X es (LT t)
section
variable {X:Cx}{a b c e o i:Expr}{es:List Expr}{ta tb tc te to ti:DE}{t u:DT}{ar:DA}{pos p pos':Pos}{s:Stmt}{ss:List Stmt}{T U:DS}
def FA{n:Nat}{x:Str}(hd:(x==("__debug__":Str))=false)(hcd:(x==("__classdict__":Str))=false)(hv:AJ X.env.scope x)(hN:X.N[n]?=some x:=by rfl):JE X (.Name x pos) (ae n):=by unfold JE;exact K2 hd hcd hv hN
def BA{x:Str}{T:String}(hm:X.mg x=none)(hv:bootBuiltins x=some (.type T))(hn:x≠"__name__")(hdb:(x==("__debug__":Str))=false)(hg:Gl X x):JE X (.Name x pos) (dC (.ty T)):=by unfold JE;exact QY hm hv hg hn hdb
def az{k:Int}{j:Nat}:JE X (.Constant (.int k) j pos) (dC (.int k)):=by unfold JE;exact Od
def pQ{k:Bool}{j:Nat}:JE X (.Constant (.bool k) j pos) (dC (.bl k)):=by unfold JE;exact Qu
def Ju{k:Str}{j:Nat}:JE X (.Constant (.str k) j pos) (dC (.str k)):=by unfold JE;exact OM
def zR{j:Nat}:JE X (.Constant .none j pos) (dC .aF):=by unfold JE;exact Pl
def bD{op:Operator}{r:d9}(ho:cE X (binaryOp op) (LR r))(ha:JE X a ta)(hb:JE X b tb):JE X (.BinOp a op b pos) (aw r ta tb):=by unfold JE at*;exact Qv ho ha hb
def oN(ha:JE X a ta):JE X (.UnaryOp .USub a pos) (td mn ta):=by unfold JE at*;exact Qq O8 ha
def N7(ha:JE X a ta):JE X (.UnaryOp .Not a pos) (DF (cu ta)):=by unfold JE at*;exact OY ha
def IK{op:BoolOp}(ha:JE X a ta):JE X (.BoolOp op [a] pos) ta:=by unfold JE at*;exact OL ha
def EA(ha:JE X a ta)(hb:JE X (.BoolOp .And (b::es) pos) tb):JE X (.BoolOp .And (a::b::es) pos) (xI ta tb):=by unfold JE at*;exact OU ha hb
def mV{op:CmpOp}{r:d9}(ho:cE X (compareOp op) (LR r))(hm:behindInMarks op b=false)(ha:JE X a ta)(hb:JE X b tb):JE X (.Compare a [op] [b] pos) (aw r ta tb):=by unfold JE at*;exact Pk ho ha hb hm
def Ik(hc:JT X c t)(ha:JE X a ta)(hb:JE X b tb):JE X (.IfExp c a b pos) (Je t ta tb):=by unfold JE at*;unfold JT at hc;exact OX hc ha hb
def mK{n:Nat}(h:JA X es ar):JE X (.Tuple es n pos) (mF ar):=by unfold JE;unfold JA at h;exact Oe h
def i_(h:JA X es ar):JE X (.List es pos) (jR ar):=by unfold JE;unfold JA at h;exact OI h
def xl(h:JA X es ar):JE X (.List es pos) (vY ar):=by unfold JE;unfold JA at h;exact Ol h
def aj:JA X [] ak:=by unfold JA;exact ur
def aa(ha:JE X e te)(hr:JA X es ar)(hs:notStar e=true:=by rfl):JA X (e::es) (af te ar):=by unfold JA at*;unfold JE at ha;exact HJ ha hr hs
def aV(ha:JE X a ta)(hb:JE X b tb)(hs:lp b=true:=by rfl):JE X (.Subscript a b pos) (aw bI ta tb):=by unfold JE at*;exact Pg ha hb hs
def dA{x:Str}{id:String}{r:fI}(hc:cj X (.builtin id) (gc r))(ha:JA X (e::es) ar)(hm:X.mg x=none)(hv:bootBuiltins x=some (.builtin id))(hn:x≠"__name__")(hdb:(x==("__debug__":Str))=false)(hg:Gl X x)(hs:notStar e=true:=by rfl)(hs2:ib es=true:=by rfl):JE X (.Call (.Name x p) (e::es) [] pos) (bV r ar):=by
 unfold JE;unfold JA at ha;exact Oo hc ha hm hv hn hdb hg hs hs2
def dw{x:Str}{T:String}{r:fI}(hc:cj X (.type T) (gc r))(ha:JA X (e::es) ar)(hm:X.mg x=none)(hv:bootBuiltins x=some (.type T))(hn:x≠"__name__")(hdb:(x==("__debug__":Str))=false)(hg:Gl X x)(hs:notStar e=true:=by rfl)(hs2:ib es=true:=by rfl):JE X (.Call (.Name x p) (e::es) [] pos) (bV r ar):=by
 unfold JE;unfold JA at ha;exact OO hc ha hm hv hn hdb hg hs hs2
def a8{x qual:Str}{st:Stmt}{ps:List Str}{f:Addr}{fd:FuncData}{k:Nat}{S:c_}(A:cH X.K X.mg x qual st ps f fd)(F:cm X.prog X.w X.K X.mg X.base di k f fd ps (dq S))(hr:du k X.A)(ha:JA X (e::es) ar)(hdb:(x==("__debug__":Str))=false)(hg:Gl X x)(hs:notStar e=true:=by rfl)(hs2:ib es=true:=by rfl):
 JE X (.Call (.Name x p) (e::es) [] pos) (aK S ar):=by unfold JE;unfold JA at ha;exact O0 A F hr ha hdb hg hs hs2
def GS{apos cpos:Pos}(ho:JE X o to)(he:JE X e te)(hbase:attributeBase o "append" X.env (eval o X.env)=eval o X.env:=by rfl)(hline:(apos.endLine==cpos.line)=true:=by rfl)(hs:notStar e=true:=by rfl):JE X (.Call (.Attribute o "append" apos) [e] [] cpos) (qZ to te):=by
 unfold JE at*;refine GO ho he hbase ?_ hline (cQ hs) rfl;rw[cQ hs];rfl
def dc{op:CmpOp}{r:d9}(ho:cE X (compareOp op) (LR r))(hm:behindInMarks op b=false)(ha:JE X a ta)(hb:JE X b tb):JT X (.Compare a [op] [b] pos) (cu (aw r ta tb)):=by unfold JE at*;unfold JT;exact MU ho ha hb hm
def kM(ha:JT X a t):JT X (.UnaryOp .Not a pos) (kY t):=by unfold JT at*;exact LY ha
def jH(he:JE X e te)(h:uk e=true:=by rfl):JT X e (cu te):=by unfold JT;unfold JE at he;exact JY he h
def Ka(ha:JT X a t):JW X (.BoolOp .And [a] pos) t:=by unfold JW;unfold JT at ha;exact KL ha
def rJ(ha:JT X a t):JW X (.BoolOp .Or [a] pos) t:=by unfold JW;unfold JT at ha;exact Mn ha
def NM(ha:JT X a t)(hb:JW X (.BoolOp .And (b::es) pos) u):JW X (.BoolOp .And (a::b::es) pos) (zG t u):=by unfold JW at*;unfold JT at ha;exact LJ ha hb
def o6(ha:JT X a t)(hb:JW X (.BoolOp .Or (b::es) pos) u):JW X (.BoolOp .Or (a::b::es) pos) (oy t u):=by unfold JW at*;unfold JT at ha;exact OT ha hb
def r_(h:JW X e t):JT X e t:=by unfold JT;unfold JW at h;exact PW.pt h
def dm{l tg:Expr}(hl:JE X l ta):JI X tg l (c5 ta):=by unfold JI;unfold JE at hl;exact L0 hl
def dJ{tg:Expr}(hg:Gl X "range")(hm:X.mg "range"=none)(ha:JA X [a] ar)(hs:notStar a=true:=by rfl):JI X tg (.Call (.Name "range" p) [a] [] pos) (dF ar):=by unfold JI;unfold JA at ha;exact GH (F5 hg hm ha (cQ hs))
def HE{tg:Expr}(hg:Gl X "range")(hm:X.mg "range"=none)(ha:JA X [a,b] ar)(hs:notStar a=true:=by rfl)(hs2:notStar b=true:=by rfl):JI X tg (.Call (.Name "range" p) [a,b] [] pos) (uT ar):=by unfold JI;unfold JA at ha;exact ER (FL hg hm ha (by rw[cQ hs,cQ hs2];rfl) (cQ hs2))
def cJ{k:Nat}{x:Str}(hN:X.N.Nodup)(hx:Loc X.env.scope x:=by first|exact Or.inl rfl|exact Or.inr rfl)(hf:X.fn x=true\/X.env.scope.names.lookup x=some .local:=by first|exact .inl rfl|exact .inr rfl)(hi:X.N[k]?=some x:=by rfl):JG X (.Name x pos) (aQ k):=by unfold JG;exact J_ (pv hN hi hx hf)
def qF{k j n:Nat}{x y:Str}{px py:Pos}(hc:X.calm=true)(hN:X.N.Nodup)(hx:Loc X.env.scope x:=by first|exact Or.inl rfl|exact Or.inr rfl)(hf:X.fn x=true\/X.env.scope.names.lookup x=some .local:=by first|exact .inl rfl|exact .inr rfl)(hy:Loc X.env.scope y:=by first|exact Or.inl rfl|exact Or.inr rfl)(hg:X.fn y=true\/X.env.scope.names.lookup y=some .local:=by first|exact .inl rfl|exact .inr rfl)(hi:X.N[k]?=some x:=by rfl)(hj:X.N[j]?=some y:=by rfl):
 JG X (.Tuple [.Name x px,.Name y py] n pos) (kr k j):=by unfold JG;exact ML (FV hc (pU (pv hN hi hx hf) (pU (pv hN hj hy hg) CQ)))
def bz:JC X [] b_:=by unfold JC;exact HM
def rT(h:JT X c t):JC X [c] t:=by unfold JC;unfold JT at h;exact Ng h
def cU{scope:Scope}{Nc:List Str}{elt tg iter:Expr}{ifs:List Expr}{src:DI}{fr:List (Option Nat)}{dtg:fV}(S:aO X scope Nc fr)(hi:JI X tg iter src)(hg:∀C s H ex,JG (fT X scope Nc C s H ex) tg dtg)(ht:∀C s H ex,JC (fT X scope Nc C s H ex) ifs t)(he:∀C s H ex,JE (fT X scope Nc C s H ex) elt te)(fit:tu fr dtg)
 (hx:X.xe=λ _ _=>False:=by rfl) (hc:X.calm=true:=by rfl) (hs:∀x,foldedSetIterable iter X.env x=pure x:=by intro _;rfl):JE X (.ListComp elt [⟨tg,iter,ifs,0⟩] scope pos) (cC src fr dtg t te):=by
 unfold JE JI JG JC at*;exact MA S hi hg ht he fit hx hc hs
def uO{scope:Scope}{Nc:List Str}{elt tg iter:Expr}{ifs:List Expr}{src:DI}{fr:List (Option Nat)}{dtg:fV}(S:aO X scope Nc fr)(hi:JI X tg iter src)(hg:∀C s H ex,JG (fT X scope Nc C s H ex) tg dtg)(ht:∀C s H ex,JC (fT X scope Nc C s H ex) ifs t)(he:∀C s H ex,JE (fT X scope Nc C s H ex) elt te)(fit:tu fr dtg)
 (hx:X.xe=λ _ _=>False:=by rfl) (hc:X.calm=true:=by rfl) (hs:∀x,foldedSetIterable iter X.env x=pure x:=by intro _;rfl):JE X (.ListComp elt [⟨tg,iter,ifs,0⟩] scope pos) (je src fr dtg t te):=by
 unfold JE JI JG JC at*;exact KP S hi hg ht he fit hx hc hs
def fC:JB X [] fR:=by unfold JB;exact J6
def aH(h:JS X s T):JB X [s] T:=by unfold JB;unfold JS at h;exact JN h
def ao(h:JS X s T)(h2:JB X ss U):JB X (s::ss) (aI T U):=by unfold JB at*;unfold JS at h;exact HD h h2
def bo(h:JE X e te):JS X (.Return (some e) pos) (cP te):=by unfold JS;unfold JE at h;exact Mr h
def kh(h:JE X e te)(hc:nA e=true:=by rfl):JS X (.Expr e pos) (kX te):=by unfold JS;unfold JE at h;exact HL h hc
def gh{x y:List Stmt}(hc:JT X c t)(ha:JB X x T)(hb:JB X y U):JS X (.If c x y pos) (gn t T U):=by unfold JS;unfold JB at*;unfold JT at hc;exact OD hc ha hb
def vI{x:List Stmt}(hc:JT X c t)(hb:JB X x T)(hx:X.xe=λ _ _=>False:=by rfl):JS X (.While c x [] pos) (uf t T):=by unfold JS;unfold JB at hb;unfold JT at hc;exact G7 (HC (by rw[hx];exact PassesOwn.never) hc hb)
def jn{tg iter:Expr}{x:List Stmt}{src:DI}{dtg:fV}(hi:JI X tg iter src)(hg:JG X tg dtg)(hb:JB X x T)(hx:X.xe=λ _ _=>False:=by rfl)(hc:X.calm=true:=by rfl)(hs:∀x,foldedSetIterable iter X.env x=pure x:=by intro _;rfl):JS X (.For tg iter x [] pos) (kH src dtg T):=by
 unfold JS;unfold JI at hi;unfold JG at hg;unfold JB at hb;exact LL (Nt (by rw[hx];exact PassesOwn.never) hc hi hg hb hs)
def aX{k:Nat}{x:Str}(hN:X.N.Nodup)(hx:Loc X.env.scope x)(he:JE X e te)(hf:X.fn x=true\/X.env.scope.names.lookup x=some .local:=by first|exact .inl rfl|exact .inr rfl)(h:nA e=true:=by rfl)(hi:X.N[k]?=some x:=by rfl):JS X (.Assign [.Name x pos'] e pos) (bc k te):=by
 unfold JS;unfold JE at he;exact EY (Kh hN hi hx he hf h)
def pw{scope:Scope}{Nc:List Str}{elt tg iter:Expr}{ifs:List Expr}{src:DI}{fr:List (Option Nat)}{dtg:fV}{k:Nat}{x:Str}(hN:X.N.Nodup)(hl:Loc X.env.scope x)(S:aO X scope Nc fr)(hi:JI X tg iter src)(hg:∀C s H ex,JG (fT X scope Nc C s H ex) tg dtg)(ht:∀C s H ex,JC (fT X scope Nc C s H ex) ifs t)(he:∀C s H ex,JE (fT X scope Nc C s H ex) elt te)(fit:tu fr dtg)
 (hf:X.fn x=true\/X.env.scope.names.lookup x=some .local:=by first|exact .inl rfl|exact .inr rfl) (hsw:swapsWith (.ListComp elt [⟨tg,iter,ifs,0⟩] scope p) (some (.Name x pos')) pos.line X.env=pure true:=by rfl) (hni:X.N[k]?=some x:=by rfl) (hx:X.xe=λ _ _=>False:=by rfl) (hc:X.calm=true:=by rfl) (hs:∀x,foldedSetIterable iter X.env x=pure x:=by intro _;rfl):
 JS X (.Assign [.Name x pos'] (.ListComp elt [⟨tg,iter,ifs,0⟩] scope p) pos) (bc k (cC src fr dtg t te)):=by
 unfold JS;unfold JE JI JG JC at*;exact JK fit (CO hx hc S hi hg ht he hN hni hl hf hsw hs)
def sE{scope:Scope}{Nc:List Str}{elt tg iter:Expr}{ifs:List Expr}{src:DI}{fr:List (Option Nat)}{dtg:fV}{k:Nat}{x:Str}(hN:X.N.Nodup)(hl:Loc X.env.scope x)(S:aO X scope Nc fr)(hi:JI X tg iter src)(hg:∀C s H ex,JG (fT X scope Nc C s H ex) tg dtg)(ht:∀C s H ex,JC (fT X scope Nc C s H ex) ifs t)(he:∀C s H ex,JE (fT X scope Nc C s H ex) elt te)(fit:tu fr dtg)
 (hf:X.fn x=true\/X.env.scope.names.lookup x=some .local:=by first|exact .inl rfl|exact .inr rfl) (hsw:swapsWith (.ListComp elt [⟨tg,iter,ifs,0⟩] scope p) (some (.Name x pos')) pos.line X.env=pure true:=by rfl) (hni:X.N[k]?=some x:=by rfl) (hx:X.xe=λ _ _=>False:=by rfl) (hc:X.calm=true:=by rfl) (hs:∀x,foldedSetIterable iter X.env x=pure x:=by intro _;rfl):
 JS X (.Assign [.Name x pos'] (.ListComp elt [⟨tg,iter,ifs,0⟩] scope p) pos) (bc k (je src fr dtg t te)):=by
 unfold JS;unfold JE JI JG JC at*;exact Hr fit (CO hx hc S hi hg ht he hN hni hl hf hsw hs)
def gE(he:JE X e te)(ho:JE X o to)(hi:JE X i ti)(h1:nA e=true:=by rfl)(h2:lp i=true:=by rfl):JS X (.Assign [.Subscript o i pos'] e pos) (f_ to ti te):=by unfold JS;unfold JE at*;exact A9 (LP he ho hi h1 h2)
def Nf{k:Nat}{x:Str}{op:Operator}{f:Int->Int->Int}(hN:X.N.Nodup)(hx:Loc X.env.scope x)(he:JE X e te)(ho:Mw X op (NG f))(hf:X.fn x=true\/X.env.scope.names.lookup x=some .local:=by first|exact .inl rfl|exact .inr rfl)(hi:X.N[k]?=some x:=by rfl):JS X (.AugAssign (.Name x pos') op e pos) (DL k (Bd f) te):=by
 unfold JS;unfold JE at he;exact MV (Mq hN hi hx he ho hf)
def w4{tg:Expr}{dtg:fV}(he:JE X e te)(hg:JG X tg dtg)(hs:swapsWithSole [tg] e pos.line X.env=pure false:=by rfl)(hw:swappedStores [tg] e X.env=pure none:=by rfl)(h1:(assignEach [tg] X.env).map (·.2)=[assign tg X.env]:=by rfl):JS X (.Assign [tg] e pos) (yB dtg te):=by
 unfold JS;unfold JE at he;unfold JG at hg;exact NO (BJ he hg hs hw h1)
end
def cS{P:Program}{w:World}{K:PySem.W.Frag}{mg:Str->Option Value}{base:Heap}{x qual:Str}{st:Stmt}{f:Addr}{fd:FuncData}{N ps:List Str}{k:Nat}{sp:c_}{t:DS}(F:pG K x qual st f fd)(S:aT N ps (ai st))
 (hbody:∀(cdv:Value) (A:Around) (outer:List Env) (s:Shared) (H:Hp) (E:XK),du k (A.deeper (envOfC qual (ai st) s.heap.objs.size f cdv))->JB (sT di P w K mg base N qual (ai st) f cdv A outer s H E).wG (ir st) t)
 (hsp:∀ds st K,sp ds st K->ds.length=ps.length/\t {nx:=λ _ st'=>K .aF st',rt:=K} (bh N ds) st):cm P w K mg base di (k+1) f fd ps (dq sp):=by
 unfold JB at hbody;exact Oy F S hbody hsp
end L3
namespace HT
open PySem PyProof.Rows
section
variable {prog:Program}{w:World}{A:Around}{E:Value->Shared->Prop}{s:Shared}
def tG{t sl:Addr}{items:Array Value}{vl vu:Value}{lo hi:Option Int}{Q:Value->Shared->Prop}(ht:IsTup s.heap t items)(hs:s.heap.IsSliceOf sl vl vu .none)(pl:IsPart vl lo)(pu:IsPart vu hi)
 (hw:cL items.size 0 lo=0/\cL items.size items.size hi=items.size) (h:Q (.ref t) s):wpAny (model prog w) A (getItem (.ref t) (.ref sl)) Q E s:=by
 obtain⟨os,hos,hcs,hds⟩:=id hs;have hTs:s.TypeIs (.ref sl) "slice":=⟨os,hos,hcs⟩
 unfold getItem;try with_reducible refine Uy ?_
 first|refine Rz (RP ?_)|skip
 refine Rz (wpAny_sequenceKey ht.typeIs (by decide) ?_)
 refine Rz (Tq (name:=Str.ofString "__getitem__") ht.typeIs Te
  (Uc Te ht.typeIs entry_tuple_getitem ?_ (args_tuple_getitem _ _)))
 show wpAny _ _ (Builtin.Tuple.tupleItemsOf (.ref t) >>= _) _ _ s;refine Rz (tupleItemsOf_ ht ?_);refine Rz (W2 hTs ?_);rw[RF (by decide)];refine Rz (pL hs pl pu ?_)
 have hyes:(((cL items.size 0 lo:Nat):Int)==0&&(1:Int)==1&&(cL items.size items.size hi-cL items.size 0 lo)==items.size)=true:=by
  rw[hw.1,hw.2];simp
 show wpAny _ _ (if(((cL items.size 0 lo:Nat):Int)==0&&(1:Int)==1&&(cL items.size items.size hi-cL items.size 0 lo)==items.size)=true then _ else _) _ _ s;rw[RF hyes];refine Rz ?_;unfold Builtin.Tuple.tupleIsExact;exact Rz (W2 ht.typeIs (RP (Rz (Vd (RP ⟨_,rfl,RP h⟩)))))
end
end HT
namespace L3
open PySem L2
open PySem.Spec hiding items?
open PyProof.Rows hiding St
abbrev DO:=ck->ag->(Option Int->ag->Prop)->Prop
def iI:DO:=λ _ st K=>K none st
def mY(t:DE):DO:=λ σ st K=>t σ st λ d st1=>match d with| .int i=>K (some i) st1|_=>False
def cutD(xs:List D)(lo hi:Option Int):List D:=(xs.drop (HT.cL xs.length 0 lo)).take (HT.cL xs.length xs.length hi-HT.cL xs.length 0 lo)
def Ax(d:D)(lo hi:Option Int)(st:ag)(K:DK):Prop:=match d with
 | .lst xs=>K (.lst (cutD xs lo hi)) st
 | .tup xs=>K (.tup (cutD xs lo hi)) st
 | .ref n=>(match st[n]? with|some (.lst xs)=>K (.lst (cutD xs lo hi)) st|_=>False)
 |_=>False
@[irreducible] def mG:D->Option Int->Option Int->ag->DK->Prop:=Ax
def jU(t:DE)(lo hi:DO):DE:=λ σ st K=>t σ st λ d st1=>lo σ st1 λ l st2=>hi σ st2 λ u st3=>mG d l u st3 K
def vR{α:List (Option Addr)}{G:Hp}{xs:List D}{vs:List V}{lo hi:Option Int}(r:aG α G xs vs):aG α G (cutD xs lo hi) (sO vs lo hi):=by
 unfold cutD sO;rw[<-r.length];exact aY.mpr (vA _ (vi _ (aY.mp r)))
def Ro(α:List (Option Addr))(G F:Hp)(K:Option Int->ag->Prop)(Q:Option Int->Hp->Prop):Prop:=∀o st',K o st'->∀α' G' H',Step α G α' G'->cO G' F H'->aP α' st' G'->Q o H'
inductive PF(t:DO)(σ:L2.St)(H:Hp)(Q:Option Int->Hp->Prop):Prop
 |mk (α:List (Option Addr)) (σd:ck) (st:ag) (K:Option Int->ag->Prop) (G F:Hp) (P:cO G F H) (R:ff α G σd σ) (S:aP α st G) (h:t σd st K) (k:Ro α G F K Q):PF t σ H Q
def LO(t:DO):TO:=PF t
section
variable {X:Cx}
def PO.imp{e:Option Expr}{t t':TO}(h:PO X e t)(f:∀σ H Q,t' σ H Q->t σ H Q):PO X e t':=λ pins s σ H Q I q=>h pins s σ H Q I (f σ H Q q)
def K4:PO X none (LO iI):=PO.imp KJ λ σ H Q ⟨α,σd,st,K,G,F,P,R,S,t,k⟩=>k none st t α G H Step.refl P S
def JM{e:Expr}{te:DE}(h:PE X e (LE te)):PO X (some e) (LO (mY te)):=PO.imp (KR h) λ σ H Q ⟨α,σd,st,K,G,F,P,R,S,t,k⟩=>by
 refine⟨α,σd,st,_,G,F,P,R,S,t,λ d st1 q α1 G1 H1 v s1 P1 S1 r1=>?_⟩;cases d<;>try exact q.elim
 unfold Rep at r1;exact⟨_,r1,k _ st1 q α1 G1 H1 s1 P1 S1⟩
def Rp(x:V)(lo hi:Option Int)(H:Hp)(Q:VK):Prop:=∃α d st K G F,cO G F H/\Rep α G d x/\aP α st G/\mG d lo hi st K/\LK α G F K Q
def Lq:FK X (λ x lo hi H Q=>∃a xs,x= .ref a/\H a=some (.tup xs)/\((HT.cL xs.length 0 lo=0/\HT.cL xs.length xs.length hi=xs.length)->Q (.ref a) H)/\(¬(HT.cL xs.length 0 lo=0/\HT.cL xs.length xs.length hi=xs.length)->∀p,H p=none->Q (.ref p) (upd H p (.tup (sO xs lo hi))))):=by
 intro pins s σ H x v vl vu lo hi sl Q I rx hs pl pu h;obtain⟨a,xs,rfl,hx,q1,q2⟩:=h;by_cases hw:HT.cL xs.length 0 lo=0/\HT.cL xs.length xs.length hi=xs.length
 . cases rx;obtain⟨its,r,ht,hz⟩:=I.tuple (jJ.of hx);have hlen:its.toArray.size=xs.length:=by rw[RI];exact r.length.symm
   exact⟨"tuple",_,Te.lookup,ht.typeIs,HT.tG ht hs pl pu (by rw[hlen];exact hw) ⟨.ref a,H,I,rfl,q1 hw⟩⟩
 . exact Mg pins s σ H _ v vl vu lo hi sl Q I rx hs pl pu ⟨a,xs,rfl,.of hx,hw,q2 hw⟩
def EU{xs:List D}{lo hi:Option Int}(hw:HT.cL xs.length 0 lo=0/\HT.cL xs.length xs.length hi=xs.length):cutD xs lo hi=xs:=by
 unfold cutD;rw[hw.1,hw.2];simp
def Lx:FK X Rp:=by
 intro pins s σ H x v vl vu lo hi sl Q I rx hs pl pu ⟨α,d,st,K,G,F',P,r1,S,q,k⟩;unfold mG Ax at q;cases d<;>try exact q.elim
 . rename_i n;simp only at q;split at q
   . rename_i xs e;obtain⟨a,ea,vs,h1,h2⟩:=S.gI e;have r1':=eA ea r1;subst r1';exact C6 pins s σ H _ v vl vu lo hi sl Q I rx hs pl pu ⟨a,vs,rfl,.inl (.of (P.get h1)),λ p hp=>k.lst P q S (vR h2) hp⟩
   . exact q.elim
 . unfold Rep at r1;obtain⟨a,vs,rfl,na,ha,ra⟩:=r1;exact C6 pins s σ H _ v vl vu lo hi sl Q I rx hs pl pu ⟨a,vs,rfl,.inl (fK P ha),λ p hp=>k.lst P q S (vR ra) hp⟩
 . rename_i xs;have r0:=r1;unfold Rep at r1;obtain⟨a,vs,rfl,na,ha,ra⟩:=r1;refine Lq pins s σ H _ v vl vu lo hi sl Q I rx hs pl pu ⟨a,vs,rfl,P.get ha,λ hw=>?_,λ _ p hp=>k.tup P q S (vR ra) hp⟩;rw[<-ra.length]at hw;simp only at q;rw[EU hw]at q;exact k.here P q S r0
def KO{e:Expr}{lo hi:Option Expr}{te:DE}{tl th:DO}{p2 pos:Pos}(he:PE X e (LE te))(hl:PO X lo (LO tl))(hh:PO X hi (LO th)):PE X (.Subscript e (.Slice lo hi none p2) pos) (LE (jU te tl th)):=PE.imp (Ig Lx he hl hh) λ σ H Q ⟨α,σd,st,K,G,F,P,R,S,t,k⟩=>by
 refine⟨α,σd,st,_,G,F,P,R,S,t,λ d st1 q α1 G1 H1 v s1 P1 S1 r1=>?_⟩;refine⟨α1,σd,st1,_,G1,F,P1,R.step s1,S1,q,λ l st2 q2 α2 G2 H2 s2 P2 S2=>?_⟩;refine⟨α2,σd,st2,_,G2,F,P2,(R.step s1).step s2,S2,q2,λ u st3 q3 α3 G3 H3 s3 P3 S3=>?_⟩;exact⟨α3,d,st3,K,G3,F,P3,(r1.step s2).step s3,S3,q3,((k.at s1).at s2).at s3⟩
@[irreducible] def JO(X:Cx)(e:Option Expr)(t:DO):Prop:=PO X e (LO t)
def ky:JO X none iI:=by unfold JO;exact K4
def kE{e:Expr}{te:DE}(h:JE X e te):JO X (some e) (mY te):=by unfold JO;unfold JE at h;exact JM h
def ki{e:Expr}{lo hi:Option Expr}{te:DE}{tl th:DO}{p2 pos:Pos}(he:JE X e te)(hl:JO X lo tl)(hh:JO X hi th):JE X (.Subscript e (.Slice lo hi none p2) pos) (jU te tl th):=by unfold JE at*;unfold JO at*;exact KO he hl hh
end
def qI{st:ag}{K:DK}{xs:List D}{lo hi:Option Int}(k:K (.lst (cutD xs lo hi)) st):mG (.lst xs) lo hi st K:=by unfold mG;exact k
def qr{st:ag}{K:DK}{xs:List D}{lo hi:Option Int}(k:K (.tup (cutD xs lo hi)) st):mG (.tup xs) lo hi st K:=by unfold mG;exact k
def E7{st:ag}{K:DK}{xs:List D}{lo hi:Option Int}{n:Nat}(h:st[n]?=some (.lst xs))(k:K (.lst (cutD xs lo hi)) st):mG (.ref n) lo hi st K:=by unfold mG Ax;simp only[h];exact k
section
variable {prog:Program}{w:World}{A:Around}{E:Value->Shared->Prop}{s:Shared}
def Dw{iT tp:Addr}{n:Nat}{its:Array Value}{v:Value}{Q:Value->Shared->Prop}(hI:s.heap.IsTupleIter iT tp n)(hT:s.heap.IsTuple tp its)(hv:its[n]?=some v)
 (q:∀g,g.IsTupleIter iT tp (n+1)->Heap.SameBut iT s.heap g->Q v {s with heap:=g}):wpAny (model prog w) A (Builtin.SmallTypes.nextOf (.ref iT)) Q E s:=by
 obtain⟨oI,eI,cI,dI⟩:=id hI;obtain⟨oT,eT,_,nT,dT⟩:=hT;unfold Builtin.SmallTypes.nextOf;refine Rz (Tq (name:=Str.ofString "__next__") hI.typeIs Um (Uc Um hI.typeIs VZ ?_ (VT _)));show wpAny _ _ (field (.ref iT) 0 >>= _) _ _ s;refine Rz (Tg eI dI (x:= .ref tp) rfl ?_);show wpAny _ _ (if(Value.ref tp==Value.none)=true then _ else _) _ _ s;rw[RE (show¬((Value.ref tp==Value.none)=true)from SJ)];show wpAny _ _ (field (.ref iT) 1 >>= _) _ _ s;refine Rz (Tg eI dI (x:= .int n 0) rfl ?_);show wpAny _ _ (seqItems? (.ref tp) >>= _) _ _ s;refine Rz (Ud eT dT ?_);simp only[R6,hv];refine Rz (wpAny_setField eI dI (by simp) (RP ⟨v,rfl,RP (q _ ?_ (TR ..))⟩));refine⟨_,Heap.get?_update_self _ eI (Obj.isFreed_of_fields (Obj.data_mapFields dI _)),(Obj.cls_mapFields ..).trans cI,?_⟩;rw[Obj.data_mapFields dI];simp[rawInt]
def Fd{iT tp:Addr}{n:Nat}{its:Array Value}{Q:Value->Shared->Prop}(hh:A.handled=none)(hI:s.heap.IsTupleIter iT tp n)(hT:s.heap.IsTuple tp its)(hv:its[n]?=none)
 (q:∀g e,Heap.ExtBut iT s.heap g->(∃o,g.get? e=some o/\o.cls= .type "StopIteration")->E (.ref e) {s with heap:=g}):wpAny (model prog w) A (Builtin.SmallTypes.nextOf (.ref iT)) Q E s:=by
 obtain⟨oI,eI,cI,dI⟩:=id hI;obtain⟨oT,eT,_,nT,dT⟩:=hT;unfold Builtin.SmallTypes.nextOf;refine Rz (Tq (name:=Str.ofString "__next__") hI.typeIs Um (Uc Um hI.typeIs VZ ?_ (VT _)));show wpAny _ _ (field (.ref iT) 0 >>= _) _ _ s;refine Rz (Tg eI dI (x:= .ref tp) rfl ?_);show wpAny _ _ (if(Value.ref tp==Value.none)=true then _ else _) _ _ s;rw[RE (show¬((Value.ref tp==Value.none)=true)from SJ)];show wpAny _ _ (field (.ref iT) 1 >>= _) _ _ s;refine Rz (Tg eI dI (x:= .int n 0) rfl ?_);show wpAny _ _ (seqItems? (.ref tp) >>= _) _ _ s;refine Rz (Ud eT dT ?_);simp only[R6,hv];refine Rz (Vd (Rz (wpAny_setField eI dI (by simp) ?_)));show wpAny _ _ (newExc (.type "StopIteration") [] >>= _) _ _ _;refine Rz ?_;simp only[newExc,newTuple];refine Rz (Uo ?_ (by size_fits));refine Rz (m:=firstArgMember _ _) (wpAny_of_eq (a:=Value.none) (by first|rfl|(simp only[firstArgMember];rfl)) ?_);refine Uo ?_ (by size_fits);simp only[raiseNew];refine Rz (wpAny_handled ?_);first|rw[show A.in1.handled=none from hh]|rw[hh]
 refine Rz (RP (wpAny_throw ?_));exact q _ _ (((TR ..).extBut.push _).push _) ⟨_,Sa _ rfl,rfl⟩
end
section
variable {st:ag}{K:DK}{i j:Int}{b c:Bool}{xs ys:List D}{d e:D}{n:Nat}
def eqT(h:i=j)(k:K (.bl true) st):iL (.int i) (.int j) st K:=FN (by rw[SX h];exact k)
def Rm(h:i≠j)(k:K (.bl false) st):iL (.int i) (.int j) st K:=FN (by rw[Su h];exact k)
def eq2(h1:i=j->K (.bl true) st)(h2:i≠j->K (.bl false) st):iL (.int i) (.int j) st K:=by
 by_cases h:i=j
 . exact eqT h (h1 h)
 . exact Rm h (h2 h)
def neT(h:i≠j)(k:K (.bl true) st):oK (.int i) (.int j) st K:=Jq (by rw[Su h];exact k)
def IZ(h:i=j)(k:K (.bl false) st):oK (.int i) (.int j) st K:=Jq (by rw[SX h];exact k)
def ne2(h1:i≠j->K (.bl true) st)(h2:i=j->K (.bl false) st):oK (.int i) (.int j) st K:=by
 by_cases h:i=j
 . exact IZ h (h2 h)
 . exact neT h (h1 h)
def Q3(h:i<j)(k:K (.bl true) st):tx (.int i) (.int j) st K:=IX (by rw[SX h];exact k)
def Q1(h:j<=i)(k:K (.bl false) st):tx (.int i) (.int j) st K:=IX (by rw[Su (by omega)];exact k)
def CI(h1:i<j->K (.bl true) st)(h2:j<=i->K (.bl false) st):tx (.int i) (.int j) st K:=by
 by_cases h:i<j
 . exact Q3 h (h1 h)
 . exact Q1 (by omega) (h2 (by omega))
def Q9(h:j<i)(k:K (.bl true) st):uu (.int i) (.int j) st K:=ED (by rw[SX h];exact k)
def Rl(h:i<=j)(k:K (.bl false) st):uu (.int i) (.int j) st K:=ED (by rw[Su (by omega)];exact k)
def MW(h1:j<i->K (.bl true) st)(h2:i<=j->K (.bl false) st):uu (.int i) (.int j) st K:=by
 by_cases h:j<i
 . exact Q9 h (h1 h)
 . exact Rl (by omega) (h2 (by omega))
def Q_(h:j<=i)(k:K (.bl true) st):AM (.int i) (.int j) st K:=IL (by rw[SX h];exact k)
def Q5(h:i<j)(k:K (.bl false) st):AM (.int i) (.int j) st K:=IL (by rw[Su (by omega)];exact k)
def PQ{P:Prop}(h:xs.length<=1000)(k:P):xs.length<=sizeLine/\P:=⟨by rw[TH];omega,k⟩
def aU{m:Nat}(h:m<=1000):m<=sizeLine:=by rw[TH];omega
def xX(h0:0<=i)(e:xs[i.toNat]?=some d):fP xs i=some d:=by
 have:=j7 e;rw[Int.toNat_of_nonneg h0]at this;exact this
def FH{m:Nat}(h0:0<=i)(h:i.toNat<m):lV m i=some i.toNat:=by
 unfold lV;have:i<(m:Int):=by omega
 simp[h0,this]
end
def ko{tg:fV}{body:DS}{ok:ag->Prop}{E:kg}(I:List D->ck->ag->Prop)(hend:∀σ st,I [] σ st->ok st/\E.nx σ st)
 (hstep:∀x xs σ st,I (x::xs) σ st->(∀σ' st',I xs σ' st'->jb tg body ok E xs σ' st')->ok st/\∃σ1,tg x σ=some σ1/\body {E with nx:=jb tg body ok E xs,ct:=jb tg body ok E xs,bk:=E.nx} σ1 st):
 ∀xs σ st,I xs σ st->jb tg body ok E xs σ st
 | [],σ,st,h=>by unfold jb;exact hend σ st h
 |x::xs,σ,st,h=>by unfold jb;exact hstep x xs σ st h λ σ' st' h'=>ko I hend hstep xs σ' st' h'
def gD{tg:fV}{c:DT}{te:DE}{ok:ag->Prop}{σc:ck}{K:List D->ag->Prop}(I:List D->List D->ag->Prop)(hend:∀acc st,I [] acc st->ok st/\K acc st)
 (hstep:∀x xs acc st,I (x::xs) acc st->(∀acc' st',I xs acc' st'->dP tg c te ok σc xs acc' st' K)->ok st/\∃σ2,tg x σc=some σ2/\c σ2 st λ b st1=>if b=true then te σ2 st1 λ y st2=>dP tg c te ok σc xs (acc++[y]) st2 K else dP tg c te ok σc xs acc st1 K):
 ∀xs acc st,I xs acc st->dP tg c te ok σc xs acc st K
 | [],acc,st,h=>by unfold dP;exact hend acc st h
 |x::xs,acc,st,h=>by unfold dP;exact hstep x xs acc st h λ acc' st' h'=>gD I hend hstep xs acc' st' h'
def comp_map{tg:fV}{te:DE}{ok:ag->Prop}{σc:ck}{st:ag}{K:List D->ag->Prop}{g:D->D}(aL:ok st)(xs:List D)(hx:∀x∈xs,∀K',K' (g x) st->∃σ2,tg x σc=some σ2/\te σ2 st K')(k:K (xs.map g) st):dP tg b_ te ok σc xs [] st K:=by
 refine gD (λ r acc st'=>st'=st/\(∀x∈r,x∈xs)/\acc++r.map g=xs.map g) (λ acc st' h=>?_) (λ x r acc st' h next=>?_) xs [] st ⟨rfl,λ _ h=>h,rfl⟩
 . obtain⟨rfl,_,e⟩:=h;rw[List.map_nil,Tp]at e;rw[e];exact⟨aL,k⟩
 . obtain⟨rfl,hm,e⟩:=h;obtain⟨σ2,e2,q⟩:=hx x (hm x R7) (λ y st2=>dP tg b_ te ok σc r (acc++[y]) st2 K) (next _ _ ⟨rfl,λ z hz=>hm z (R8 _ hz),by rw[<-e];simp⟩);exact⟨aL,σ2,e2,q⟩
def ny{A B:DS}{E:kg}{σ:ck}{st:ag}(J:ck->ag->Prop)(h:∀nx,(∀σ' st',J σ' st'->nx σ' st')->A {E with nx:=nx} σ st)(k:∀σ' st',J σ' st'->B E σ' st'):aI A B E σ st:=h (B E) k
def Nb(n:Nat)(K:DK)(y:D)(st2:ag):Prop:=∃y',[y]=[y']/\(match st2[n]? with|some (.lst xs)=>xs.length<sizeLine/\K .aF (st2.set n (.lst (xs++[y'])))|_=>False)
def u0{n:Nat}{K:DK}{y:D}{st:ag}{xs:List D}(e:st[n]?=some (.lst xs))(h:xs.length<sizeLine)(k:K .aF (st.set n (.lst (xs++[y])))):Nb n K y st:=by
 refine⟨y,rfl,?_⟩;simp only[e];exact⟨h,k⟩
@[irreducible] def lK(to te:DE):DE:=qZ to te
def wJ{σ:ck}{st:ag}{K:DK}{i n:Nat}{xs:List D}{te:DE}(ei:σ[i]?=some (some (.ref n)))(e:st[n]?=some (.lst xs))(h:te σ st (Nb n K)):lK (ae i) te σ st K:=by
 unfold lK qZ ae;simp only[ei,e];exact h
def qp{X:Cx}{o e:Expr}{to te:DE}{apos cpos:Pos}(ho:JE X o to)(he:JE X e te)(hbase:attributeBase o "append" X.env (eval o X.env)=eval o X.env:=by rfl)(hline:(apos.endLine==cpos.line)=true:=by rfl)(hs:notStar e=true:=by rfl):JE X (.Call (.Attribute o "append" apos) [e] [] cpos) (lK to te):=by
 unfold lK;exact GS ho he hbase hline hs
@[irreducible] def qH(i:Nat)(t:DS):DS:=λ D σ st=>match σ[i]? with
 |some (some (.ref n))=>(match st[n]? with|some (.lst xs)=>t D (σ.set i (some (.lst xs))) (st.set n .dead)|_=>False)
 |_=>False
section
variable {X:Cx}
def LD{s:Stmt}{i:Nat}{t:DS}(h:PS X s (LS t)):PS X s (LS (qH i t)):=PS.imp h λ D σ H ⟨α,σd,st,DD,G,F,P,R,S,q,k⟩=>by
 unfold qH at q;split at q
 . rename_i n e;split at q
   . rename_i xs e2;have hn:n<st.length:=(Rx.mp e2).1;obtain⟨v,ev,rv⟩:=R.at' i _ e;have R2:ff (α.set n none) G (σd.set i (some (.lst xs))) (σ.set i (some v)):=(R.step Step.fz).set i (S.xT e2 rv)
     have es:σ.set i (some v)=σ:=by
      refine List.ext_getElem? λ j=>?_;by_cases hj:i=j
      . subst hj;rw[RK (Rx.mp ev).1,ev]
      . rw[RB hj]
     rw[es]at R2;exact⟨α.set n none,_,_,DD,G,F,P,R2,S.fz hn,q,k.at Step.fz⟩
   . exact q.elim
 . exact q.elim
def Al{s:Stmt}{i:Nat}{t:DS}(h:JS X s t):JS X s (qH i t):=by unfold JS at*;exact LD h
end
def Ba{σ:ck}{st:ag}{E:kg}{i n:Nat}{t:DS}{xs:List L3.D}(e:σ[i]?=some (some (.ref n)))(e2:st[n]?=some (.lst xs))(k:t E (σ.set i (some (.lst xs))) (st.set n .dead)):qH i t E σ st:=by
 unfold qH;simp only[e,e2];exact k
structure Src(P:Program)(w:World)(t a:Addr)(J:Nat->Heap->Prop)(us:Array Value):Prop where
 fr:∀n g k,J n g->(∀b,b=t\/b=a->∀o,g.get? b=some o->k.get? b=some o)->J n k
 lv:∀n g,J n g->(∃o,g.get? t=some o)/\∃o,g.get? a=some o
 nx:∀n (A:Around) (s:Shared) (Q:Value->Shared->Prop) (E:Value->Shared->Prop) v,J n s.heap->us[n]?=some v->(∀k,J (n+1) k->Heap.SameBut t s.heap k->Q v {s with heap:=k})->wpAny (model P w) A (Builtin.SmallTypes.nextOf (.ref t)) Q E s
 en:∀n (A:Around) (s:Shared) (Q:Value->Shared->Prop) (E:Value->Shared->Prop),A.handled=none->J n s.heap->us[n]?=none->(∀k e,Heap.ExtBut t s.heap k->(∃o,k.get? e=some o/\o.cls= .type "StopIteration")->E (.ref e) {s with heap:=k})->wpAny (model P w) A (Builtin.SmallTypes.nextOf (.ref t)) Q E s
section
variable {P:Program}{w:World}
def src_list(t a:Addr)(hne:a≠t)(us:Array Value):Src P w t a (λ n g=>g.IsListIter t a n/\g.IsList a us) us where
 fr:=λ n g k j kp=>⟨j.1.at λ o e=>kp t (.inl rfl) o e,j.2.at λ o e=>kp a (.inr rfl) o e⟩
 lv:=λ n g j=>⟨let⟨o,e,_⟩:=j.1;⟨o,e⟩,let⟨o,e,_⟩:=j.2;⟨o,e⟩⟩
 nx:=λ n A s Q E v j hv q=>wpAny_nextOf_list_item j.1 j.2 hv λ k jk sb=>q k ⟨jk,j.2.extBut sb.extBut hne⟩ sb
 en:=λ n A s Q E hh j hv q=>wpAny_nextOf_list_end hh j.1 j.2 hv q
def Jz(t a:Addr)(hne:a≠t)(us:Array Value):Src P w t a (λ n g=>g.IsTupleIter t a n/\g.IsTuple a us) us where
 fr:=λ n g k j kp=>by
  obtain⟨⟨o,e,r⟩,⟨o2,e2,r2⟩⟩:=j;exact⟨⟨o,kp t (.inl rfl) o e,r⟩,⟨o2,kp a (.inr rfl) o2 e2,r2⟩⟩
 lv:=λ n g j=>⟨let⟨o,e,_⟩:=j.1;⟨o,e⟩,let⟨o,e,_⟩:=j.2;⟨o,e⟩⟩
 nx:=λ n A s Q E v j hv q=>Dw j.1 j.2 hv λ k jk sb=>q k ⟨jk,j.2.extBut sb.extBut hne⟩ sb
 en:=λ n A s Q E hh j hv q=>Fd hh j.1 j.2 hv q
def Src.ext{t a c:Addr}{J:Nat->Heap->Prop}{us:Array Value}(S:Src P w t a J us){n:Nat}{g k:Heap}(j:J n g)(x:Heap.ExtBut c g k)(h1:c≠t)(h2:c≠a):J n k:=
 S.fr n g k j λ b hb o e=>x b o (by rcases hb with rfl|rfl;exact RO h1;exact RO h2) e
structure CF(z ti to t1 t2 a1 a2:Addr):Prop where
 nd: [z,ti,to,t1,t2].Nodup
 a1:a1∉[z,ti,to,t1,t2]
 a2:a2∉[z,ti,to,t1,t2]
section
variable {z ti to t1 t2 a1 a2:Addr}
def CF.n(D:CF z ti to t1 t2 a1 a2):(ti≠z/\to≠z/\t1≠z/\t2≠z)/\(ti≠to/\ti≠t1/\ti≠t2)/\(to≠t1/\to≠t2)/\t1≠t2:=by
 have:=D.nd;simp only[Uk,RU,U9,Sn,Td,UK,List.nodup_nil]at this;obtain⟨⟨b1,b2,b3,b4⟩,⟨b5,b6,b7⟩,⟨b8,b9⟩,b10⟩:=this;exact⟨⟨RO b1,RO b2,RO b3,RO b4⟩,⟨b5,b6,b7⟩,⟨b8,b9⟩,b10⟩
def F4{A:Around}{s:Shared}{E:Value->Shared->Prop}{J1 J2:Nat->Heap->Prop}{us vs:Array Value}{n:Nat}{x y a b:Value}{Q:Value->Shared->Prop}(D:CF z ti to t1 t2 a1 a2)(S1:Src P w t1 a1 J1 us)(S2:Src P w t2 a2 J2 vs)
 (Z:IsZip s.heap z ti to .none) (pI:IsPair s.heap ti (.ref t1) (.ref t2)) (pO:IsPair s.heap to a b) (j1:J1 n s.heap) (j2:J2 n s.heap) (ex:us[n]?=some x) (ey:vs[n]?=some y)
 (q:∀k,IsZip k z ti to (rawInt s.heap.objs.size)->IsPair k to x y->J1 (n+1) k->J2 (n+1) k->IsPair k s.heap.objs.size x y->k.objs.size=s.heap.objs.size+1->
   (∀c o,c≠z->c≠to->c≠t1->c≠t2->s.heap.get? c=some o->k.get? c=some o)->Q (.ref s.heap.objs.size) {s with heap:=k}):
 wpAny (model P w) A (Builtin.«zip.__next__» ⟨[.ref z],[]⟩) (λ fin s'=>∃v,fin= .done (.ret v)/\Q v s') E s:=by
 obtain⟨⟨n1,n2,n3,n4⟩,⟨n5,n6,n7⟩,⟨n8,n9⟩,n10⟩:=D.n;have m1:=D.a1;have m2:=D.a2;simp only[RU,U9,Sn,Td,UK]at m1 m2;show wpAny _ _ (field (.ref z) 2 >>= _) _ _ _;refine Rz (Tg Z rfl (x:= .bool false) rfl ?_);show wpAny _ _ (field (.ref z) 3 >>= _) _ _ _;refine Rz (Tg Z rfl (x:= .ref ti) rfl ?_);refine Rz (Ud pI rfl ?_);show wpAny _ _ (Builtin.SmallTypes.ownedTupleIsFree (.ref z) >>= _) _ _ _;refine Rz ?_;unfold Builtin.SmallTypes.ownedTupleIsFree;refine Rz (Tg Z rfl (x:= .none) rfl (RP ?_));simp only[Ul];refine Rz (Vd ?_);refine Rz (Tg Z rfl (x:= .ref to) rfl ?_);refine Rz (Uh Z (by simp) λ k1 Z1 b1=>?_);replace Z1:IsZip k1 z ti to .ellipsis:=Z1;refine Rz ?_;simp only[List.zipIdx_cons,List.zipIdx_nil,Ws,WM];refine Rz (Rz (V2 ?_));show wpAny _ _ (Builtin.SmallTypes.nextOf (.ref t1) >>= _) _ _ _;refine Rz (S1.nx n _ _ _ _ x (S1.ext j1 b1.extBut (RO n3) (RO m1.1)) ex λ k2 j1b b2=>RP ?_);have pO2:IsPair k2 to a b:=b2.extBut _ _ n8 (b1.extBut _ _ n2 pO);refine Rz (Ud pO2 rfl ?_);refine Rz (VH pO2 λ k3 pO3 b3=>?_);replace pO3:IsPair k3 to x b:=pO3;refine Rz (WC (RP ?_));refine Rz (Rz (V2 ?_));show wpAny _ _ (Builtin.SmallTypes.nextOf (.ref t2) >>= _) _ _ _;have j2c:J2 n k3:=S2.ext (S2.ext (S2.ext j2 b1.extBut (RO n4) (RO m2.1)) b2.extBut n10 (RO m2.2.2.2.1)) b3.extBut n9 (RO m2.2.2.1);refine Rz (S2.nx n _ _ _ _ y j2c ey λ k4 j2d b4=>RP ?_);have pO4:IsPair k4 to x b:=b4.extBut _ _ n9 pO3;refine Rz (Ud pO4 rfl ?_);refine Rz (VH pO4 λ k5 pO5 b5=>?_);replace pO5:IsPair k5 to x y:=pO5;refine Rz (WC (RP (RP ?_)));refine Rz (Ud pO5 rfl ?_);refine Rz (wpAny_newTuple ?_);have sz:k5.objs.size=s.heap.objs.size:=by rw[b5.1,b4.1,b3.1,b2.1,b1.1]
 have Z5:IsZip k5 z ti to .ellipsis:=b5.extBut _ _ (RO n2) (b4.extBut _ _ (RO n4) (b3.extBut _ _ (RO n2) (b2.extBut _ _ (RO n3) Z1)));have kp5:∀c o,c≠z->c≠to->c≠t1->c≠t2->s.heap.get? c=some o->k5.get? c=some o:=λ c o c1 c2 c3 c4 e=>b5.extBut _ _ c2 (b4.extBut _ _ c4 (b3.extBut _ _ c2 (b2.extBut _ _ c3 (b1.extBut _ _ c1 e))));have j1e:J1 (n+1) k5:=S1.ext (S1.ext (S1.ext j1b b3.extBut n8 (RO m1.2.2.1)) b4.extBut (RO n10) (RO m1.2.2.2.2)) b5.extBut n8 (RO m1.2.2.1);have j2e:J2 (n+1) k5:=S2.ext j2d b5.extBut n9 (RO m2.2.2.1);have ltz:z<k5.objs.size:=RT Z5;show wpAny _ _ (Builtin.SmallTypes.ownedTupleHandOut (.ref z) (.ref k5.objs.size) >>= _) _ _ _;refine Rz ?_;unfold Builtin.SmallTypes.ownedTupleHandOut;have Z6:IsZip (k5.push {cls:= .type "tuple",data:= .seq #[x,y]}) z ti to .ellipsis:=RG _ Z5;refine Rz (Uh Z6 (by simp) λ k7 Z7 b7=>?_);replace Z7:IsZip k7 z ti to (rawInt k5.objs.size):=Z7;refine Uh Z7 (by simp) λ k8 Z8 b8=>?_;replace Z8:IsZip k8 z ti to (rawInt k5.objs.size):=Z8;have up:∀c o,c≠z->k5.get? c=some o->k8.get? c=some o:=λ c o c1 e=>b8.extBut _ _ c1 (b7.extBut _ _ c1 (RG _ e));have pT:IsPair k8 k5.objs.size x y:=b8.extBut _ _ (Uv ltz) (b7.extBut _ _ (Uv ltz) (Sa _ rfl));have sz8:k8.objs.size=k5.objs.size+1:=by rw[b8.1,b7.1,S_]
 rw[sz]at Z8 pT sz8;refine RP ⟨_,rfl,?_⟩;show Q (.ref k5.objs.size) _;rw[sz];refine q k8 Z8 (up _ _ n2 pO5) (S1.fr _ _ _ j1e λ b hb o e=>up b o ?_ e) (S2.fr _ _ _ j2e λ b hb o e=>up b o ?_ e) pT sz8 λ c o c1 c2 c3 c4 e=>up c o c1 (kp5 c o c1 c2 c3 c4 e)
 . rcases hb with rfl|rfl
   . exact n3
   . exact m1.1
 . rcases hb with rfl|rfl
   . exact n4
   . exact m2.1
def HR{A:Around}{s:Shared}{E:Value->Shared->Prop}{J1 J2:Nat->Heap->Prop}{us vs:Array Value}{n:Nat}{a b:Value}{Q:Fin->Shared->Prop}(hh:A.handled=none)(D:CF z ti to t1 t2 a1 a2)(S1:Src P w t1 a1 J1 us)(S2:Src P w t2 a2 J2 vs)
 (Z:IsZip s.heap z ti to .none) (pI:IsPair s.heap ti (.ref t1) (.ref t2)) (pO:IsPair s.heap to a b) (j1:J1 n s.heap) (j2:J2 n s.heap) (he:us[n]?=none\/vs[n]?=none)
 (q:∀k e,(∀c o,c≠z->c≠to->c≠t1->c≠t2->s.heap.get? c=some o->k.get? c=some o)->(∃o,k.get? e=some o/\o.cls= .type "StopIteration")->E (.ref e) {s with heap:=k}):
 wpAny (model P w) A (Builtin.«zip.__next__» ⟨[.ref z],[]⟩) Q E s:=by
 obtain⟨⟨n1,n2,n3,n4⟩,⟨n5,n6,n7⟩,⟨n8,n9⟩,n10⟩:=D.n;have m1:=D.a1;have m2:=D.a2;simp only[RU,U9,Sn,Td,UK]at m1 m2;show wpAny _ _ (field (.ref z) 2 >>= _) _ _ _;refine Rz (Tg Z rfl (x:= .bool false) rfl ?_);show wpAny _ _ (field (.ref z) 3 >>= _) _ _ _;refine Rz (Tg Z rfl (x:= .ref ti) rfl ?_);refine Rz (Ud pI rfl ?_);show wpAny _ _ (Builtin.SmallTypes.ownedTupleIsFree (.ref z) >>= _) _ _ _;refine Rz ?_;unfold Builtin.SmallTypes.ownedTupleIsFree;refine Rz (Tg Z rfl (x:= .none) rfl (RP ?_));simp only[Ul];refine Rz (Vd ?_);refine Rz (Tg Z rfl (x:= .ref to) rfl ?_);refine Rz (Uh Z (by simp) λ k1 Z1 b1=>?_);replace Z1:IsZip k1 z ti to .ellipsis:=Z1;refine Rz ?_;simp only[List.zipIdx_cons,List.zipIdx_nil,Ws,WM];refine Rz (Rz (V2 ?_));show wpAny _ _ (Builtin.SmallTypes.nextOf (.ref t1) >>= _) _ _ _;have j1a:J1 n k1:=S1.ext j1 b1.extBut (RO n3) (RO m1.1);cases ex:us[n]? with
 |none=>
  refine Rz (S1.en n _ _ _ _ hh j1a ex λ k2 e b2 hx=>?_);obtain⟨oe,he1,he2⟩:=hx;have Z2:IsZip k2 z ti to .ellipsis:=b2 _ _ (RO n3) Z1;have hez:e≠z:=λ c=>by subst c;rw[Z2]at he1;cases he1;simp at he2
  refine Uh Z2 (by simp) λ k3 _ b3=>q k3 e (λ c o c1 _ c3 _ f=>b3.extBut _ _ c1 (b2 _ _ c3 (b1.extBut _ _ c1 f))) ⟨oe,b3.extBut _ _ hez he1,he2⟩
 |some x=>
  have ey:vs[n]?=none:=by
   rcases he with h|h
   . rw[ex]at h;cases h
   . exact h
  refine Rz (S1.nx n _ _ _ _ x j1a ex λ k2 j1b b2=>RP ?_);have pO2:IsPair k2 to a b:=b2.extBut _ _ n8 (b1.extBut _ _ n2 pO);refine Rz (Ud pO2 rfl ?_);refine Rz (VH pO2 λ k3 pO3 b3=>?_);refine Rz (WC (RP ?_));refine Rz (Rz (V2 ?_));show wpAny _ _ (Builtin.SmallTypes.nextOf (.ref t2) >>= _) _ _ _;have j2c:J2 n k3:=S2.ext (S2.ext (S2.ext j2 b1.extBut (RO n4) (RO m2.1)) b2.extBut n10 (RO m2.2.2.2.1)) b3.extBut n9 (RO m2.2.2.1);refine Rz (S2.en n _ _ _ _ hh j2c ey λ k4 e b4 hx=>?_);obtain⟨oe,he1,he2⟩:=hx;have Z4:IsZip k4 z ti to .ellipsis:=b4 _ _ (RO n4) (b3.extBut _ _ (RO n2) (b2.extBut _ _ (RO n3) Z1));have hez:e≠z:=λ c=>by subst c;rw[Z4]at he1;cases he1;simp at he2
  refine Uh Z4 (by simp) λ k5 _ b5=>q k5 e (λ c o c1 c2 c3 c4 f=>b5.extBut _ _ c1 (b4 _ _ c4 (b3.extBut _ _ c2 (b2.extBut _ _ c3 (b1.extBut _ _ c1 f))))) ⟨oe,b5.extBut _ _ hez he1,he2⟩
end
end
def IU{X:Cx}{pins:List (Addr×Obj)}{σ:L2.St}{H:Hp}{s:Shared}{g:Heap}{tk:Nat}{fp:List Addr}{T:Addr}{xs:List V}(I:Inv X pins σ H s)(hf:∀b∈fp,nE X pins H b)
 (k:∀b o,b∉fp->s.heap.get? b=some o->g.get? b=some o) (hT:s.heap.objs.size<=T) (new:eN X.prog X.w (upd H T (.tup xs)) g T (.tup xs)):Inv X pins σ (upd H T (.tup xs)) {s with heap:=g,toks:=tk}:=by
 have hn:H T=none:=I.aL.fresh hT;have nfp:∀b u,H b=some u->b∉fp:=λ b u e z=>by rw[(hf b z).1]at e;cases e
 have nT:∀b u,H b=some u->b≠T:=λ b u e=>eL e hn
 refine I.step (g':=s.gens) (d':=s.drawn) (ch:=fp) (λ b hb=>?_) (λ b o _ _ hc e _=>k b o hc e) (λ b o _ _ hc e _=>⟨o.slots,k b o hc e⟩) (λ b o _ e n=>?_) (λ b o hc e=>⟨o,k b o hc e⟩)
  (λ b ys e=>by rw[aB (nT b _ e)];exact e) (λ b o u e=>by rw[aB (nT b _ e)];exact e) (λ b ps e=>⟨#[],by rw[aB (nT b _ e),e];simp⟩) (λ m hm=>?_) (λ b u e=>?_) I.bare
 . obtain⟨f0,f1,f2,f3,f4,f5⟩:=hf b hb;exact⟨f3,f1,f4,f5⟩
 . rw[aB (Sj (RW (RT e) hT))];exact n
 . obtain⟨o,es,ep,ho,r⟩:=hm;exact⟨o,es,ep,k _ o (λ z=>(hf _ z).2.1 rfl) ho,r⟩
 . by_cases hb:b=T
   . subst hb;rw[aW]at e;cases e;exact new
   . rw[aB hb]at e;refine(I.aL b u e).qO (λ c v hc q=>k c v ?_ q) (λ c q=>by rw[aB (nT c _ q)];exact q) λ c ys q=>by rw[aB (nT c _ q)];exact q
     rcases hc with z|z
     . rw[z];exact nfp b u e
     . exact nfp c _ z
def Jf{X:Cx}{pins:List (Addr×Obj)}{σ:L2.St}{H:Hp}{s:Shared}{g:Heap}{tk:Nat}{fp:List Addr}(I:Inv X pins σ H s)(hf:∀b∈fp,nE X pins H b)
 (k:∀b o,b∉fp->s.heap.get? b=some o->g.get? b=some o):Inv X pins σ H {s with heap:=g,toks:=tk}:=by
 have nfp:∀b u,H b=some u->b∉fp:=λ b u e z=>by rw[(hf b z).1]at e;cases e
 refine I.step (g':=s.gens) (d':=s.drawn) (ch:=fp) (λ b hb=>?_) (λ b o _ _ hc e _=>k b o hc e) (λ b o _ _ hc e _=>⟨o.slots,k b o hc e⟩) (λ b o _ e n=>n) (λ b o hc e=>⟨o,k b o hc e⟩)
  (λ b ys e=>e) (λ b o u e=>e) (λ b ps e=>⟨#[],by rw[e];simp⟩) (λ m hm=>?_) (λ b u e=>?_) I.bare
 . obtain⟨f0,f1,f2,f3,f4,f5⟩:=hf b hb;exact⟨f3,f1,f4,f5⟩
 . obtain⟨o,es,ep,ho,r⟩:=hm;exact⟨o,es,ep,k _ o (λ z=>(hf _ z).2.1 rfl) ho,r⟩
 . refine(I.aL b u e).qO (λ c v hc q=>k c v ?_ q) (λ c q=>q) λ c ys q=>q;rcases hc with z|z
   . rw[z];exact nfp b u e
   . exact nfp c _ z
inductive SK where
 |l|t
def rV(k:SK)(K:PySem.W.Frag)(H:Hp)(a:Addr)(xs:List V):Prop:=match k with
 | .l=>oh K H a xs
 | .t=>jJ K H a xs
def tw(k:SK)(t a:Addr)(n:Nat)(g:Heap):Prop:=match k with
 | .l=>g.IsListIter t a n
 | .t=>g.IsTupleIter t a n
def nV(k:SK)(g:Heap)(a:Addr)(us:Array Value):Prop:=match k with
 | .l=>g.IsList a us
 | .t=>g.IsTuple a us
def Ah(k:SK)(a:Addr):Obj:=match k with
 | .l=>{cls:= .type "list_iterator",data:= .fields #[.ref a,.int 0 0]}
 | .t=>{cls:= .type "tuple_iterator",data:= .fields #[.ref a,.int 0 0]}
def o_{P:Program}{w:World}(k:SK)(t a:Addr)(hne:a≠t)(us:Array Value):Src P w t a (λ n g=>tw k t a n g/\nV k g a us) us:=by
 cases k
 . exact src_list t a hne us
 . exact Jz t a hne us
def mI{X:Cx}{pins:List (Addr×Obj)}{σ:L2.St}{H:Hp}{s:Shared}{k:SK}{a:Addr}{xs:List V}(I:Inv X pins σ H s)(h:rV k X.K H a xs):∃its:List Value,Vals xs its/\nV k s.heap a its.toArray:=by
 cases k
 . obtain⟨its,rv,p,_⟩:=I.list h;exact⟨its,rv,p.isList⟩
 . obtain⟨its,rv,p,_⟩:=I.tuple h;exact⟨its,rv,p⟩
def xN{X:Cx}{pins:List (Addr×Obj)}{σ:L2.St}{H:Hp}{s:Shared}{k:SK}{a:Addr}{xs ys:List V}(I:Inv X pins σ H s)(h:rV k X.K H a xs)(h':rV k X.K H a ys):xs=ys:=by
 cases k
 . exact I.An h h'
 . exact I.yP h h'
def Gs{P:Program}{w:World}{A:Around}{s:Shared}{E:Value->Shared->Prop}{k:SK}{a:Addr}{us:Array Value}{Q:Value->Shared->Prop}(h:nV k s.heap a us)(q:Q (.ref s.heap.objs.size) {s with heap:=s.heap.push (Ah k a)}):wpAny (model P w) A (pyIter (.ref a)) Q E s:=by
 cases k
 . exact Up h q
 . exact UE h q
def nV.push{k:SK}{g:Heap}{a:Addr}{us:Array Value}(h:nV k g a us)(o:Obj):nV k (g.push o) a us:=by
 cases k
 . obtain⟨o',e,r⟩:=h;exact⟨o',RG _ e,r⟩
 . obtain⟨o',e,r⟩:=h;exact⟨o',RG _ e,r⟩
def nV.some{k:SK}{g:Heap}{a:Addr}{us:Array Value}(h:nV k g a us):∃o,g.get? a=Option.some o:=by
 cases k
 . obtain⟨o',e,r⟩:=h;exact⟨o',e⟩
 . obtain⟨o',e,r⟩:=h;exact⟨o',e⟩
def C7{k:SK}{g h:Heap}{t a:Addr}(e:g.get? t=Option.some (Ah k a)):tw k t a 0 g:=by
 cases k
 . exact⟨_,e,rfl,rfl⟩
 . exact⟨_,e,rfl,rfl⟩
def rN{k:SK}{t a:Addr}{n:Nat}{g g':Heap}(h:tw k t a n g)(kp:∀o,g.get? t=Option.some o->g'.get? t=Option.some o):tw k t a n g':=by
 cases k
 . obtain⟨o,e,r⟩:=h;exact⟨o,kp o e,r⟩
 . obtain⟨o,e,r⟩:=h;exact⟨o,kp o e,r⟩
def pA{k:SK}{t a:Addr}{n:Nat}{g:Heap}(h:tw k t a n g):∃o,g.get? t=Option.some o/\∀v,o.data≠ .cell v:=by
 cases k
 . obtain⟨o,e,c,d⟩:=h;exact⟨o,e,λ v z=>by rw[d]at z;cases z⟩
 . obtain⟨o,e,c,d⟩:=h;exact⟨o,e,λ v z=>by rw[d]at z;cases z⟩
def PZ(K:PySem.W.Frag)(k1 k2:SK)(a1 a2:Addr):It:=
 ⟨λ i H=>∃xs ys x y,rV k1 K H a1 xs/\rV k2 K H a2 ys/\xs[i]?=some x/\ys[i]?=some y,
  λ i H v H'=>∃T x y,H T=none/\v= .ref T/\H'=upd H T (.tup [x,y])/\(∀xs,rV k1 K H a1 xs->xs[i]?=some x)/\∀ys,rV k2 K H a2 ys->ys[i]?=some y,
  λ i H=>∃xs ys,rV k1 K H a1 xs/\rV k2 K H a2 ys/\(xs.length<=i\/ys.length<=i)⟩
def OW(z ti to t1 t2 a1 a2:Addr)(k1 k2:SK)(i:Nat)(h:Heap):Prop:=IsZip h z ti to .none/\IsPair h ti (.ref t1) (.ref t2)/\(∃a b,IsPair h to a b)/\tw k1 t1 a1 i h/\tw k2 t2 a2 i h
def HH{P:Program}{w:World}{K:PySem.W.Frag}{elts:List Expr}{kx:Nat}{pos:Pos}{z ti to t1 t2 a1 a2:Addr}(k1 k2:SK)(D:CF z ti to t1 t2 a1 a2):
 Turn P w K (.Tuple elts kx pos) (PZ K k1 k2 a1 a2) [z,ti,to,t1,t2] z (OW z ti to t1 t2 a1 a2 k1 k2) where
 mem:=by simp
 obj:=λ i h st b hb=>by
  obtain⟨Z,pI,⟨a,b',pO⟩,i1,i2⟩:=st;simp only[RU,Sn,UJ]at hb;rcases hb with rfl|rfl|rfl|rfl|rfl
  . exact⟨_,Z,λ v e=>by cases e⟩
  . exact⟨_,pI,λ v e=>by cases e⟩
  . exact⟨_,pO,λ v e=>by cases e⟩
  . exact pA i1
  . exact pA i2
 keep:=λ i h h' st k=>by
  obtain⟨Z,pI,⟨a,b',pO⟩,i1,i2⟩:=st;exact⟨k z (by simp) _ Z,k ti (by simp) _ pI,⟨a,b',k to (by simp) _ pO⟩,rN i1 (k t1 (by simp)),rN i2 (k t2 (by simp))⟩
 item:=by
  intro X hP hw hK hc i pins s σ H E I hf st hg;subst hP hw hK;obtain⟨Z,pI,⟨a,b',pO⟩,i1,i2⟩:=st;obtain⟨xs,ys,x,y,q1,q2,ex,ey⟩:=hg;obtain⟨us,r1,l1⟩:=mI I q1;obtain⟨vs,r2,l2⟩:=mI I q2;obtain⟨u,eu,ru⟩:=r1.get ex;obtain⟨v,ev,rv⟩:=r2.get ey;have m1:=D.a1;have m2:=D.a2;simp only[RU,U9,Sn,Td,UK]at m1 m2;obtain⟨⟨n1,n2,n3,n4⟩,⟨n5,n6,n7⟩,⟨n8,n9⟩,n10⟩:=D.n;have tz:s.TypeIs (.ref z) "zip":=⟨_,Z,rfl⟩
  unfold pyNext;refine Rz (V3 (Tq (name:=Str.ofString "__next__") tz VI (Uc VI tz F.entry_zip_next (F4 D (o_ k1 t1 a1 m1.2.2.2.1 us.toArray) (o_ k2 t2 a2 m2.2.2.2.2 vs.toArray) Z pI pO ⟨i1,l1⟩ ⟨i2,l2⟩ (x:=u) (y:=v) (by simpa using eu) (by simpa using ev) λ k Z2 pO2 j1 j2 pT szk kp=>RP ⟨_,rfl,?_⟩) (F.args_zip_next_1 _))));refine wpAny_letOwnedTupleGo_zip (s:={s with heap:=k}) Z2 λ k' Z3 b3=>?_;have hT:s.heap.objs.size≠z:=Uv (RT Z)
  have kp3:∀b o,b∉[z,ti,to,t1,t2]->s.heap.get? b=some o->k'.get? b=some o:=λ b o hb e=>by
   simp only[RU,U9,Sn,Td,UK]at hb;exact b3.extBut _ _ hb.1 (kp b o hb.1 hb.2.2.1 hb.2.2.2.1 hb.2.2.2.2 e)
  refine⟨.ref s.heap.objs.size,upd H s.heap.objs.size (.tup [x,y]),IU (s:=s) (tk:=s.toks) I hf kp3 (Ry _) ?_,rfl,⟨s.heap.objs.size,x,y,I.aL.fresh (Ry _),rfl,rfl,?_,?_⟩,?_,?_⟩
  . refine⟨RN rfl,[u,v],.cons ru (.cons rv .nil),?_⟩;exact⟨_,b3.extBut _ _ hT pT,rfl,_,rfl⟩
  . intro xs' q';rw[xN I q' q1];exact ex
  . intro ys' q';rw[xN I q' q2];exact ey
  . refine⟨Z3,b3.extBut _ _ n1 (kp _ _ n1 n5 n6 n7 pI),⟨_,_,b3.extBut _ _ n2 pO2⟩,rN j1.1 λ o e=>b3.extBut _ _ n3 e,rN j2.1 λ o e=>b3.extBut _ _ n4 e⟩
  . intro b hb
    have:b≠s.heap.objs.size:=by
     obtain⟨o,e,_⟩:∃o,s.heap.get? b=some o/\True:=by
      simp only[RU,Sn,UJ]at hb;rcases hb with rfl|rfl|rfl|rfl|rfl
      . exact⟨_,Z,trivial⟩
      . exact⟨_,pI,trivial⟩
      . exact⟨_,pO,trivial⟩
      . obtain⟨o,e,_⟩:=pA i1;exact⟨o,e,trivial⟩
      . obtain⟨o,e,_⟩:=pA i2;exact⟨o,e,trivial⟩
     exact Sj (RT e)
    rw[aB this];exact(hf b hb).1
 done:=by
  intro X hP hw hK hc i pins s σ H E I hf st hg;subst hP hw hK;obtain⟨Z,pI,⟨a,b',pO⟩,i1,i2⟩:=st;obtain⟨xs,ys,q1,q2,he⟩:=hg;obtain⟨us,r1,l1⟩:=mI I q1;obtain⟨vs,r2,l2⟩:=mI I q2;have e1:=r1.length;have e2:=r2.length;have m1:=D.a1;have m2:=D.a2;simp only[RU,U9,Sn,Td,UK]at m1 m2;have tz:s.TypeIs (.ref z) "zip":=⟨_,Z,rfl⟩
  unfold pyNext;refine Rz (V3 (Tq (name:=Str.ofString "__next__") tz VI (Uc VI tz F.entry_zip_next (HR (I.ok.hd hc) D (o_ k1 t1 a1 m1.2.2.2.1 us.toArray) (o_ k2 t2 a2 m2.2.2.2.2 vs.toArray) Z pI pO ⟨i1,l1⟩ ⟨i2,l2⟩ ?_ λ k e kp hx=>?_) (F.args_zip_next_1 _))))
  . rcases he with h|h
    . left;simp;omega
    . right;simp;omega
  . obtain⟨o,ho,hc2⟩:=hx;refine Rz (wpAny_isInstance (T:="StopIteration") (b:=true) ⟨o,ho,hc2⟩ isSubtype_stop ?_);refine RP ⟨rfl,Jf (s:=s) (tk:=s.toks) I hf λ b o hb e=>?_⟩;simp only[RU,U9,Sn,Td,UK]at hb;exact kp b o hb.1 hb.2.2.1 hb.2.2.2.1 hb.2.2.2.2 e
 self:=λ _ _ _ _ _ st h=>wpAny_pyIter_zip st.1 h
abbrev Iu(h:Heap)(k1:SK)(a1:Addr):Heap:=h.push (Ah k1 a1)
abbrev Jr(h:Heap)(k1 k2:SK)(a1 a2:Addr):Heap:=(Iu h k1 a1).push (Ah k2 a2)
abbrev Jx(h:Heap)(k1 k2:SK)(a1 a2:Addr):Heap:=(Jr h k1 k2 a1 a2).push {cls:= .type "tuple",data:= .seq #[.ref h.objs.size,.ref (Iu h k1 a1).objs.size]}
abbrev IQ(h:Heap)(k1 k2:SK)(a1 a2:Addr):Heap:=(Jx h k1 k2 a1 a2).push {cls:= .type "tuple",data:= .seq #[.none,.none]}
abbrev C5(h:Heap)(k1 k2:SK)(a1 a2:Addr):Heap:=(IQ h k1 k2 a1 a2).push {cls:= .type "zip",data:= .fields #[.none,.bool false,.bool false,.ref (Jr h k1 k2 a1 a2).objs.size,.ref (Jx h k1 k2 a1 a2).objs.size]}
def Fu(k1 k2:SK)(a1 a2:Addr)(us vs:Array Value):Meets (Builtin.«zip.__new__» ⟨[.type "zip",.ref a1,.ref a2],[]⟩) (λ _ R s=>nV k1 s.heap a1 us/\nV k2 s.heap a2 vs/\
 R (.ok (.ret (.ref (IQ s.heap k1 k2 a1 a2).objs.size))) {s with heap:=C5 s.heap k1 k2 a1 a2}):=
 .of_wp λ P w A R s h=>by
  obtain⟨hp,g,d,tk,os⟩:=s;obtain⟨c1,c2,h⟩:=h;have hsub:=sub_zip;have L1:nV k1 (Shared.heap ⟨hp,g,d,tk,os⟩) a1 us:=c1;have L2:nV k2 (Shared.heap ⟨hp.push (Ah k1 a1),g,d,tk,os⟩) a2 vs:=nV.push c2 _
  wp_walk using Gs L1,Gs L2
  exact⟨_,rfl,h⟩
def GX{P:Program}{w:World}{A:Around}{s:Shared}{E:Value->Shared->Prop}{k1 k2:SK}{a1 a2:Addr}{us vs:Array Value}{Q:Value->Shared->Prop}(c1:nV k1 s.heap a1 us)(c2:nV k2 s.heap a2 vs)
 (q:∀g n,n=s.heap.objs.size->IsZip g (n+4) (n+2) (n+3) .none->IsPair g (n+2) (.ref n) (.ref (n+1))->IsPair g (n+3) .none .none->tw k1 n a1 0 g->tw k2 (n+1) a2 0 g->(∀c o,s.heap.get? c=some o->g.get? c=some o)->Q (.ref (n+4)) {s with heap:=g}):
 wpAny (model P w) A (call (.type "zip") [.ref a1,.ref a2]) Q E s:=by
 refine callType_new F.called_zip (by decide) (F.typeCall_zip_2 _ _) (F.newCall_zip_2 _ _) (λ ob=>F.args_object_init_3 ob _ _) F.entry_zip_new (Fu k1 k2 a1 a2 us vs) ⟨c1,c2,?_⟩;have y1:(Iu s.heap k1 a1).objs.size=s.heap.objs.size+1:=S_ ..;have y2:(Jr s.heap k1 k2 a1 a2).objs.size=s.heap.objs.size+2:=by rw[S_,y1]
 have y3:(Jx s.heap k1 k2 a1 a2).objs.size=s.heap.objs.size+3:=by rw[S_,y2]
 have y4:(IQ s.heap k1 k2 a1 a2).objs.size=s.heap.objs.size+4:=by rw[S_,y3]
 have e5:(C5 s.heap k1 k2 a1 a2).get? (IQ s.heap k1 k2 a1 a2).objs.size=some _:=Sa _ rfl;have e4:(C5 s.heap k1 k2 a1 a2).get? (Jx s.heap k1 k2 a1 a2).objs.size=some _:=RG _ (Sa _ rfl);have e3:(C5 s.heap k1 k2 a1 a2).get? (Jr s.heap k1 k2 a1 a2).objs.size=some _:=RG _ (RG _ (Sa _ rfl));have e2:(C5 s.heap k1 k2 a1 a2).get? (Iu s.heap k1 a1).objs.size=some (Ah k2 a2):=RG _ (RG _ (RG _ (Sa _ (by cases k2<;>rfl))));have e1:(C5 s.heap k1 k2 a1 a2).get? s.heap.objs.size=some (Ah k1 a1):=RG _ (RG _ (RG _ (RG _ (Sa _ (by cases k1<;>rfl)))));show _/\_;rw[y2,y3,y4]at e5;rw[y1,y2]at e3;rw[y3]at e4;rw[y1]at e2;rw[y4];exact⟨⟨_,e5,rfl⟩,q _ _ rfl e5 e3 e4 (C7 (h:=s.heap) e1) (C7 (h:=s.heap) e2) λ c o x=>RG _ (RG _ (RG _ (RG _ (RG _ x))))⟩
def IG:D->SK
 | .tup _=> .t
 |_=> .l
def F0(k:SK)(G:Hp)(a:Addr)(vs:List V):Prop:=match k with
 | .l=>Rd G a (.lst vs)
 | .t=>G a=some (.tup vs)
def k0{K:PySem.W.Frag}{k:SK}{G F H:Hp}(P:cO G F H){a:Addr}{vs:List V}(h:F0 k G a vs):rV k K H a vs:=by
 cases k
 . exact .inl (fK P h)
 . exact jJ.of (P.get h)
def pq{α:List (Option Addr)}{H:Hp}{st:ag}{d:D}{v:V}{xs:List D}(S:aP α st H)(r:Rep α H d v)(e:items? st d=some xs):∃p vs,v= .ref p/\aG α H xs vs/\F0 (IG d) H p vs:=by
 cases d<;>try(cases e;done)
 . unfold items? at e;simp only at e;split at e
   . rename_i ys q;cases e;obtain⟨a,ea,vs,h1,h2⟩:=S.gI q;exact⟨a,vs,eA ea r,h2,Rd.of h1⟩
   . cases e
 . cases e;unfold Rep at r;obtain⟨a,vs,rfl,_,h1,h2⟩:=r;exact⟨a,vs,rfl,h2,h1⟩
 . cases e;unfold Rep at r;obtain⟨a,vs,rfl,_,h1,h2⟩:=r;exact⟨a,vs,rfl,h2,h1⟩
def iy(xs ys:List D):List D:=(xs.zip ys).map λ p=> .tup [p.1,p.2]
def pM{xs ys:List D}:(iy xs ys).length=min xs.length ys.length:=by unfold iy;simp
def vC{xs ys:List D}{n:Nat}{d:D}(e:(iy xs ys)[n]?=some d):∃x y,xs[n]?=some x/\ys[n]?=some y/\d= .tup [x,y]:=by
 unfold iy at e;rw[RV]at e;cases q:(xs.zip ys)[n]? with
 |none=>rw[q]at e;cases e
 |some p=>
  rw[q]at e;cases e;rw[List.getElem?_zip_eq_some]at q;exact⟨p.1,p.2,q.1,q.2,rfl⟩
def NH{K:PySem.W.Frag}{k1 k2:SK}{a1 a2:Addr}{α:List (Option Addr)}{G:Hp}{ok:ag->Prop}{xs ys:List D}
 (h:∀α' G' st',Step α G α' G'->aP α' st' G'->ok st'->∃vs ws,F0 k1 G' a1 vs/\F0 k2 G' a2 ws/\aG α' G' xs vs/\aG α' G' ys ws):x_ (PZ K k1 k2 a1 a2) α G ok (iy xs ys) where
 stop:=λ n α' G' F' H' st' s P S o hn=>by
  obtain⟨vs,ws,h1,h2,r1,r2⟩:=h α' G' st' s S o;rw[pM]at hn;refine⟨vs,ws,k0 P h1,k0 P h2,?_⟩;have:=r1.length;have:=r2.length;omega
 go:=λ n d α' G' F' H' st' s P S o hn=>by
  obtain⟨vs,ws,h1,h2,r1,r2⟩:=h α' G' st' s S o;obtain⟨x,y,ex,ey,rfl⟩:=vC hn;obtain⟨v,ev,_⟩:=r1.get ex;obtain⟨u,eu,_⟩:=r2.get ey;exact⟨vs,ws,v,u,k0 P h1,k0 P h2,ev,eu⟩
 rh:=λ n d α' G' F' H' st' x H'' s P S o hn y=>by
  obtain⟨vs,ws,h1,h2,r1,r2⟩:=h α' G' st' s S o;obtain⟨c,e,ec,ee,rfl⟩:=vC hn;obtain⟨T,v,u,hT,rfl,rfl,y1,y2⟩:=y;obtain⟨v',ev,rv⟩:=r1.get ec;obtain⟨u',eu,ru⟩:=r2.get ee;rw[y1 vs (k0 P h1)]at ev;rw[y2 ws (k0 P h2)]at eu;cases ev;cases eu;have hg:=(P.none hT).1;refine⟨upd G' T (.tup [v,u]),Step.laid hg,P.laid hT,S.laid hg,?_⟩;unfold Rep;refine⟨T,[v,u],rfl,S.mE hg,aW,?_⟩;unfold aG;refine⟨v,[u],rfl,rv.step (Step.laid hg),?_⟩;unfold aG;exact⟨u,[],rfl,ru.step (Step.laid hg),by unfold aG;rfl⟩
def HK(ds:List D)(st1:ag)(K:List D->(ag->Prop)->ag->Prop):Prop:=match ds with
 | [x,y]=>(match items? st1 x,items? st1 y with
   |some xs,some ys=>K (iy xs ys) (λ st'=>items? st' x=some xs/\items? st' y=some ys) st1
   |_,_=>False)
 |_=>False
@[irreducible] def wu:List D->ag->(List D->(ag->Prop)->ag->Prop)->Prop:=HK
def vQ(t:DA):DI:=λ σ st K=>t σ st λ ds st1=>wu ds st1 K
def Li{n a1 a2:Nat}(h1:a1<n)(h2:a2<n):CF (n+4) (n+2) (n+3) n (n+1) a1 a2:=by
 have e0:([n+4,n+2,n+3,n,n+1]:List Nat).Nodup:=by
  simp only[Uk,RU,U9,Sn,Td,UK,List.nodup_nil];omega
 have e1:∀a:Nat,a<n->a∉([n+4,n+2,n+3,n,n+1]:List Nat):=λ a ha=>by
  simp only[RU,U9,Sn,Td,UK];omega
 exact⟨e0,e1 a1 h1,e1 a2 h2⟩
def MX{X:Cx}{a b:Expr}{elts:List Expr}{kx:Nat}{tpos p pos:Pos}{t:DA}(hg:Gl X "zip")(hm:X.mg "zip"=none)(ha:PA X [a,b] (LA t))(hs:starEach [a,b] X.env=[(false,eval a X.env),(false,eval b X.env)])(hs2:starEach [b] X.env=[(false,eval b X.env)]):
 PI X (.Tuple elts kx tpos) (.Call (.Name "zip" p) [a,b] [] pos) (LI (vQ t)):=by
 intro pins s σ H R I h;obtain⟨α,σd,st,K,G,F,P,RS,S,t,k⟩:=h;refine Call_ (ow I hg hm boot_zip (TM (cR (ha pos pins s σ H (λ vs H1=>∃ds α1 G1 st1,Step α G α1 G1/\cO G1 F H1/\aP α1 st1 G1/\aG α1 G1 ds vs/\wu ds st1 K) I ⟨α,σd,st,_,G,F,P,RS,S,t,λ ds st1 q α1 G1 H1 vs s1 P1 S1 r1=>⟨ds,α1,G1,st1,s1,P1,S1,r1,q⟩⟩) λ us s1 ⟨vs,H1,I1,rv,ds,α1,G1,st1,w1,P1,S1,r1,q⟩=>?_) (by rw[hs,hs2]) (by rw[hs2];rfl)));unfold wu HK at q;split at q
 . rename_i x y;split at q
   . rename_i xs ys ex ey;obtain⟨v1,v2,rfl,q1,q2⟩:=qd r1 rfl;obtain⟨p1,vs1,rfl,g1,c1⟩:=pq S1 q1 ex;obtain⟨p2,vs2,rfl,g2,c2⟩:=pq S1 q2 ey;obtain⟨u1,u2,rfl,ru1,ru2⟩:=vals2 rv;cases ru1;cases ru2;obtain⟨its1,_,l1⟩:=mI I1 (k0 P1 c1);obtain⟨its2,_,l2⟩:=mI I1 (k0 P1 c2);refine GX l1 l2 λ g n hn Z pI pO i1 i2 kp=>?_;obtain⟨o1,eo1⟩:=l1.some;obtain⟨o2,eo2⟩:=l2.some;refine wpAny_pyIter_zip (s:={s1 with heap:=g}) Z ?_;refine⟨n+4,[n+4,n+2,n+3,n,n+1],_,_,H1,rfl,I1.kept (t':=s1.toks) kp,HH (IG x) (IG y) (Li (by rw[hn];exact RT eo1) (by rw[hn];exact RT eo2)),⟨Z,pI,⟨_,_,pO⟩,i1,i2⟩,λ b hb=>?_,?_⟩
     . have hb':s1.heap.objs.size<=b:=by
        simp only[RU,Sn,UJ]at hb;rcases hb with rfl|rfl|rfl|rfl|rfl<;>(rw[<-hn];first|exact Ry _|exact Nat.le_add_right _ _)
       exact I1.x6 hb' (I1.aL.fresh hb')
     . refine k _ _ st1 q _ α1 G1 H1 w1 P1 S1 (NH λ α' G' st' s' S' o=>?_);obtain⟨p1',ws1,e1,f1,d1⟩:=pq S' (q1.step s') o.1;obtain⟨p2',ws2,e2,f2,d2⟩:=pq S' (q2.step s') o.2;cases e1;cases e2;exact⟨ws1,ws2,d1,d2,f1,f2⟩
   . exact q.elim
 . exact q.elim
def ug{st:ag}{x y:D}{xs ys:List D}{K:List D->(ag->Prop)->ag->Prop}(ex:items? st x=some xs)(ey:items? st y=some ys)(k:∀ok:ag->Prop,(∀st',items? st' x=some xs->items? st' y=some ys->ok st')->K (iy xs ys) ok st):wu [x,y] st K:=by
 unfold wu HK;simp only[ex,ey];exact k _ λ st' h1 h2=>⟨h1,h2⟩
def xf{X:Cx}{a b:Expr}{elts:List Expr}{kx:Nat}{tpos p pos:Pos}{ar:DA}(hg:Gl X "zip")(hm:X.mg "zip"=none)(ha:JA X [a,b] ar)(hs:notStar a=true:=by rfl)(hs2:notStar b=true:=by rfl):JI X (.Tuple elts kx tpos) (.Call (.Name "zip" p) [a,b] [] pos) (vQ ar):=by
 unfold JI;unfold JA at ha;exact MX hg hm ha (by rw[cQ hs,cQ hs2];rfl) (cQ hs2)
def Bc(f:Nat->Int):∀n,preSum f (n+1)=f 0+preSum (λ i=>f (i+1)) n
 |0=>by show preSum f 0+f 0=f 0+0;show(0:Int)+f 0=f 0+0;omega
 |n+1=>by
  have h:=Bc f n;show preSum f (n+1)+f (n+1)=f 0+(preSum (λ i=>f (i+1)) n+f (n+1));rw[h];omega
def Dd:∀ns:List Int,preSum (λ i=>ns.getD i 0) ns.length=ns.sum
 | []=>rfl
 |n::ns=>by
  rw[Sl,Bc];have:(λ i=>(n::ns).getD (i+1) 0)=λ i=>ns.getD i 0:=by funext i;simp
  rw[this,Dd ns,List.sum_cons];rfl
section
variable {X:Cx}
def zH:fI:=λ ds st K=>match ds with| [.lst xs]=>(match i5 xs with|some ns=>K (.int ns.sum) st|none=>False)|_=>False
def jK:∀ {ns:List Int} {us:List Value},Vals (ns.map V.int) us->∀(i:Nat) (u:Value),us[i]?=some u->∃t,u=Value.int (ns.getD i 0) t
 | [],_,.nil,i,u,e=>by simp at e
 |n::ns,_,.cons h t,0,u,e=>by
  obtain⟨tk,rfl⟩:=h;simp at e;exact⟨tk,by rw[<-e];rfl⟩
 |n::ns,_,.cons h t,i+1,u,e=>by
  obtain⟨tk,q⟩:=jK t i u (by simpa using e);exact⟨tk,by rw[q];simp⟩
def Ox(hc:X.calm=true):cj X (.builtin "sum") (gc zH):=λ pins s σ H xs us Q I rs ⟨α,ds,st,K,G,F',P,r,S,q,k⟩=>by
 unfold zH at q;split at q
 . rename_i ys;split at q
   . rename_i ns e;obtain⟨v,rfl,r1⟩:=gL r rfl;unfold Rep at r1;obtain⟨a,vs,rfl,na,h1,h2⟩:=r1;obtain⟨u,rfl,ru⟩:=vals1 rs;cases ru;have hv:=nZ h2 e;subst hv;obtain⟨z,its,n,rv,hl,eo⟩:=Inv.se I (fK P h1);have isL:s.heap.IsList a its.toArray:=⟨_,eo,rfl,n,rfl⟩
     refine call_sum_walkAnyB (Up isL ?_);have hne:a≠s.heap.objs.size:=Sj (RT eo);refine⟨s.heap.objs.size,_,_,_,_,_,_,λ i=>ns.getD i 0,rfl,(WW (A:=X.A.in1) (I.ok.hd hc) _ a hne its.toArray).toS,⟨⟨_,Sa _ rfl,rfl,rfl⟩,⟨_,RG _ eo,rfl,n,rfl⟩⟩,?_,?_,?_⟩
     . intro b hb;rw[S_];simp only[RU,Sn,UJ]at hb;rcases hb with rfl|rfl
       . exact Si _
       . exact Sk (RT eo)
     . intro i w hw;obtain⟨t,e⟩:=jK rv i w (by simpa using hw);exact .inl ⟨t,e⟩
     . intro s' t' hm
       have kp:∀b o,s.heap.get? b=some o->s'.heap.get? b=some o:=λ b o q=>hm.heap b o (by
        intro hb;have:b=s.heap.objs.size:=by simpa using hb
        exact absurd (RT q) (by rw[this];exact S0 _)) (RG _ q)
       have es:s'= {s with heap:=s'.heap,toks:=s'.toks}:=by
        have g:=hm.gens;have d:=hm.drawn;have o:=hm.os;cases s';cases s
        simp_all
       have en:preSum (λ i=>ns.getD i 0) its.toArray.size=ns.sum:=by
        have:its.toArray.size=ns.length:=by rw[RI,<-hl,Rw]
        rw[this];exact Dd ns
       rw[en,es];exact⟨.int ns.sum,H,I.kept (t':=s'.toks) kp,⟨t',rfl⟩,k.here P q S (by unfold Rep;rfl)⟩
   . exact q.elim
 . exact q.elim
@[irreducible] def Bs:fI:=zH
def N4(hc:X.calm=true):cj X (.builtin "sum") (gc Bs):=by unfold Bs;exact Ox hc
end
def ints_map:∀ns:List Int,i5 (ns.map D.int)=some ns
 | []=>rfl
 |n::ns=>by simp[i5,ints_map ns]
def NW{st:ag}{K:DK}{xs:List D}{ns:List Int}(h:i5 xs=some ns)(k:K (.int ns.sum) st):Bs [.lst xs] st K:=by unfold Bs zH;simp only[h];exact k
section
variable {X:Cx}{pos:Pos}
def Oz{α:List (Option Addr)}{H:Hp}{ds:List D}{xs:List V}{d e f:D}(r:aG α H ds xs)(q:ds=[d,e,f]):∃v u t,xs=[v,u,t]/\Rep α H d v/\Rep α H e u/\Rep α H f t:=by
 subst q;unfold aG at r;obtain⟨v,q,rfl,h1,h2⟩:=r;obtain⟨u,t,rfl,h3,h4⟩:=qd h2 rfl;exact⟨v,u,t,rfl,h1,h3,h4⟩
def qY(i j k:Nat):fV:=λ d σ=>match d with| .tup [x,y,z]=>some (((σ.set i (some x)).set j (some y)).set k (some z))|_=>none
def Hf{tg:Expr}{i j k:Nat}(h:PG X tg (GQ X.K 3 (u6 (kB i) (u6 (kB j) (u6 (kB k) HS))))):PG X tg (LG (qY i j k)):=PG.imp h λ v σ H Q ⟨α,σd,st,d,K,G,F,P,R,S,r,⟨σ',e,q⟩,kk⟩=>by
 unfold qY at e;split at e
 . rename_i x y z;cases e;unfold Rep at r;obtain⟨a,vs,rfl,na,h1,h2⟩:=r;obtain⟨v1,v2,v3,rfl,r1,r2,r3⟩:=Oz h2 rfl;exact⟨a,_,rfl,.of (P.get h1),rfl,v1,_,rfl,v2,_,rfl,v3,_,rfl,rfl,kk.here P q (((R.set i r1).set j r2).set k r3) S⟩
 . cases e
def Iz{i j k n:Nat}{x y z:Str}{px py pz:Pos}(hc:X.calm=true)(hN:X.N.Nodup)(hx:Loc X.env.scope x:=by first|exact Or.inl rfl|exact Or.inr rfl)(hf:X.fn x=true\/X.env.scope.names.lookup x=some .local:=by first|exact .inl rfl|exact .inr rfl)(hy:Loc X.env.scope y:=by first|exact Or.inl rfl|exact Or.inr rfl)(hg:X.fn y=true\/X.env.scope.names.lookup y=some .local:=by first|exact .inl rfl|exact .inr rfl)(hz:Loc X.env.scope z:=by first|exact Or.inl rfl|exact Or.inr rfl)(hh:X.fn z=true\/X.env.scope.names.lookup z=some .local:=by first|exact .inl rfl|exact .inr rfl)
 (hi:X.N[i]?=some x:=by rfl) (hj:X.N[j]?=some y:=by rfl) (hk:X.N[k]?=some z:=by rfl):JG X (.Tuple [.Name x px,.Name y py,.Name z pz] n pos) (qY i j k):=by
 unfold JG;exact Hf (FV hc (pU (pv hN hi hx hf) (pU (pv hN hj hy hg) (pU (pv hN hk hz hh) CQ))))
end
end L3
namespace L3
open PySem L2 PySem.SeqAt
open PySem.Spec hiding items?
open PyProof.Rows hiding St
section
variable {X:Cx}{pins:List (Addr×Obj)}{σ:L2.St}{H:Hp}{s:Shared}{α:List (Option Addr)}
def CD{A:Around}{d e:D}{x y:V}{u v:Value}(hd:yS d=true)(he:yS e=true)(rd:Rep α H d x)(re:Rep α H e y)(rx:RelV x u)(ry:RelV y v):RcNeAt A s u v (!de d e):=by
 cases d<;>cases e<;>try(first|(cases hd;done)|(cases he;done))
 all_goals(unfold Rep at rd re;subst rd re)
 all_goals(first|(obtain⟨t,rfl⟩:=rx;obtain⟨t',rfl⟩:=ry)|(obtain⟨t,rfl⟩:=rx;cases ry)|(cases rx;obtain⟨t,rfl⟩:=ry)|(cases rx;cases ry))
 all_goals unfold de
 . exact RcNeAt.none_none
 . exact RcNeAt.none_bool _
 . exact RcNeAt.none_int _ _
 . exact RcNeAt.none_str _ _
 . exact RcNeAt.bool_none _
 . exact RcNeAt.bool_bool _ _
 . exact RcNeAt.bool_int _ _ _
 . exact RcNeAt.bool_str _ _ _
 . exact RcNeAt.int_none _ _
 . exact RcNeAt.int_bool _ _ _
 . exact RcNeAt.int_int _ _ _ _
 . exact RcNeAt.int_str _ _ _ _
 . exact RcNeAt.str_none _ _
 . exact RcNeAt.str_bool _ _ _
 . exact RcNeAt.str_int _ _ _ _
 . exact RcNeAt.str_str _ _ _ _
def yT(I:Inv X pins σ H s){A:Around}{xs:List D}{e:D}{x y:V}{u v:Value}(he:yS e=true)(rd:Rep α H (.lst xs) x)(re:Rep α H e y)(rx:RelV x u)(ry:RelV y v)(hu:A.units<cLine):
 RcNeAt A s u v (!de (.lst xs) e)/\RcNeAt A s v u (!de e (.lst xs)):=by
 obtain⟨a,vs,its,rfl,_,_,hl⟩:=lst_is I rd rx;cases e<;>try(cases he;done)
 all_goals(unfold Rep at re;subst re)
 all_goals(first|(obtain⟨t,rfl⟩:=ry)|(cases ry))
 all_goals unfold de
 . exact⟨RcNeAt.list_none hl hu,RcNeAt.none_list hl hu⟩
 . exact⟨RcNeAt.list_bool _ hl hu,RcNeAt.bool_list _ hl hu⟩
 . exact⟨RcNeAt.list_int _ _ hl hu,RcNeAt.int_list _ _ hl hu⟩
 . exact⟨RcNeAt.list_str _ _ hl hu,RcNeAt.str_list _ _ hl hu⟩
def yV(I:Inv X pins σ H s){A:Around}{xs:List D}{e:D}{x y:V}{u v:Value}(he:yS e=true)(rd:Rep α H (.tup xs) x)(re:Rep α H e y)(rx:RelV x u)(ry:RelV y v)(hu:A.units<cLine):
 RcNeAt A s u v (!de (.tup xs) e)/\RcNeAt A s v u (!de e (.tup xs)):=by
 obtain⟨a,vs,its,rfl,_,_,hl⟩:=tup_is I rd rx;cases e<;>try(cases he;done)
 all_goals(unfold Rep at re;subst re)
 all_goals(first|(obtain⟨t,rfl⟩:=ry)|(cases ry))
 all_goals unfold de
 . exact⟨RcNeAt.tuple_none hl hu,RcNeAt.none_tuple hl hu⟩
 . exact⟨RcNeAt.tuple_bool _ hl hu,RcNeAt.bool_tuple _ hl hu⟩
 . exact⟨RcNeAt.tuple_int _ _ hl hu,RcNeAt.int_tuple _ _ hl hu⟩
 . exact⟨RcNeAt.tuple_str _ _ hl hu,RcNeAt.str_tuple _ _ hl hu⟩
def Jp(I:Inv X pins σ H s)(n:Nat)(A:Around)(d e:D)(x y:V)(u v:Value)(hd:pl n d=true)(he:pl n e=true)(rd:Rep α H d x)(re:Rep α H e y)(rx:RelV x u)(ry:RelV y v)(hu:A.units+n<cLine):RcNeAt A s u v (!de d e):=by
 cases n with
 |zero=>
  refine CD ?_ ?_ rd re rx ry
  . cases d<;>first|rfl|(cases hd)
  . cases e<;>first|rfl|(cases he)
 |succ n=>
  have hu0:A.units<cLine:=by omega
  have hin:A.in1.units+n<cLine:=by rw[Around.in1_units];omega
  cases d<;>try(cases hd;done)
  case lst xs=>
   cases e<;>try(cases he;done)
   case lst ys=>
    obtain⟨a,vs,its,rfl,r1,v1,l1⟩:=lst_is I rd rx;obtain⟨b,ws,jts,rfl,r2,v2,l2⟩:=lst_is I re ry;have e1:=r1.length;have e2:=v1.length;have e3:=r2.length;have e4:=v2.length;unfold de;by_cases hlen:xs.length=ys.length
    . rw[pY hlen];have hsz:its.toArray.size=jts.toArray.size:=by simp only[RI];omega
      have hx:xs.length=its.toArray.size:=by simp only[RI];omega
      rw[hx];refine RcNeAt.lists l1 l2 hsz hu0 λ j h1 h2=>?_;obtain⟨p,_,q1,q2⟩:=ma r1 v1 j (by simpa using h1);obtain⟨p',_,q1',q2'⟩:=ma r2 v2 j (by simpa using h2);exact(DC I n A.in1 _ _ p p' _ _ (jQ (by unfold pl at hd;exact hd) j) (jQ (by unfold pl at he;exact he) j) q1 q1' (by simpa using q2) (by simpa using q2') hin).2
    . rw[pZ hlen];exact RcNeAt.lists_lengths l1 l2 (by simp only[RI,V9,ne_eq];omega) hu0
   case tup ys=>
    obtain⟨a,vs,its,rfl,r1,v1,l1⟩:=lst_is I rd rx;obtain⟨b,ws,jts,rfl,r2,v2,l2⟩:=tup_is I re ry;unfold de;exact RcNeAt.list_tuple l1 l2 hu0
   all_goals exact(yT I rfl rd re rx ry hu0).1
  case tup xs=>
   cases e<;>try(cases he;done)
   case tup ys=>
    obtain⟨a,vs,its,rfl,r1,v1,l1⟩:=tup_is I rd rx;obtain⟨b,ws,jts,rfl,r2,v2,l2⟩:=tup_is I re ry;have e1:=r1.length;have e2:=v1.length;have e3:=r2.length;have e4:=v2.length;unfold de
    have key:=RcNeAt.tuples (e:=λ j=>de (xs.getD j .aF) (ys.getD j .aF)) l1 l2 hu0 λ j h1 h2=>by
     obtain⟨p,_,q1,q2⟩:=ma r1 v1 j (by simpa using h1);obtain⟨p',_,q1',q2'⟩:=ma r2 v2 j (by simpa using h2);exact(DC I n A.in1 _ _ p p' _ _ (jQ (by unfold pl at hd;exact hd) j) (jQ (by unfold pl at he;exact he) j) q1 q1' (by simpa using q2) (by simpa using q2') hin).2
    by_cases hlen:xs.length=ys.length
    . rw[pY hlen];have hsz:its.toArray.size=jts.toArray.size:=by simp only[RI];omega
      have hx:xs.length=its.toArray.size:=by simp only[RI];omega
      rw[hsz,Wj,Vw,Vu,<-hsz,<-hx]at key;exact key
    . rw[pZ hlen];have hne:(its.toArray.size==jts.toArray.size)=false:=by simp only[RI,TQ,ne_eq];omega
      rw[hne,WN]at key;exact key
   case lst ys=>
    obtain⟨a,vs,its,rfl,r1,v1,l1⟩:=tup_is I rd rx;obtain⟨b,ws,jts,rfl,r2,v2,l2⟩:=lst_is I re ry;unfold de;exact RcNeAt.tuple_list l1 l2 hu0
   all_goals exact(yV I rfl rd re rx ry hu0).1
  all_goals
   cases e<;>try(cases he;done)
   case lst ys=>exact(yT I rfl re rd ry rx hu0).2
   case tup ys=>exact(yV I rfl re rd ry rx hu0).2
   all_goals exact CD rfl rfl rd re rx ry
def LU:d9:=λ x y st K=>pl 40 x=true/\pl 40 y=true/\K (.bl (!de x y)) st
def O5{k:Nat}(hr:du k X.A):cE X (compareOp .NotEq) (LR LU):=λ pins s σ H x y v u Q I rx ry ⟨α,d,e,st,K,G,F',P,r1,r2,S,q,k⟩=>by
 have hu:=hr.units;exact Jp I 40 X.A d e x y v u q.1 q.2.1 (r1.mono P.same) (r2.mono P.same) rx ry (by omega) _ _ _ _ ⟨.bl (!de d e),H,I,rfl,k.here P q.2.2 S (by unfold Rep;rfl)⟩
@[irreducible] def sQ:d9:=LU
def zS{k:Nat}(hr:du k X.A):cE X (compareOp .NotEq) (LR sQ):=by unfold sQ;exact O5 hr
end
def MO{st:ag}{K:DK}{d e:D}(h1:pl 40 d=true)(h2:pl 40 e=true)(k:K (.bl (!de d e)) st):sQ d e st K:=by unfold sQ;exact⟨h1,h2,k⟩
def sN{st:ag}{K:DK}{d:D}(h:pl 40 d=true)(k:K (.bl false) st):sQ d d st K:=MO h h (by rw[sv 40 d h];exact k)
def uv{st:ag}{n:Nat}{xs:List D}(h:items? st (.ref n)=some xs):st[n]?=some (.lst xs):=by
 unfold items? at h;simp only at h;split at h
 . rename_i q;cases h;exact q
 . cases h
def pE{st:ag}{d:D}{xs:List D}{K:List D->(ag->Prop)->ag->Prop}(h:items? st d=some xs)(k:∀ok:ag->Prop,(∀st',items? st' d=some xs->ok st')->K xs ok st):qR d st K:=by
 cases d with
 |lst ys=>cases h;exact ke (k _ λ _ _=>trivial)
 |tup ys=>cases h;exact fW (k _ λ _ _=>trivial)
 |ref n=>
  have e:=uv h;unfold qR yh;simp only[e];exact k _ λ st' h'=>uv h'
 |_=>cases h
def sh{env:Env}:∀(l:List (Str×NameKind)) (x:Str),(l.lookup x=some .cell\/l.lookup x=some .free)->
 ((l.map λ(n,k)=>if(k== .free&&env.scope.kind== .function&&env.kindOf n==some .cell)then(n,.cell)else(n,k)).lookup x=some .cell\/(l.map λ(n,k)=>if(k== .free&&env.scope.kind== .function&&env.kindOf n==some .cell)then(n,.cell)else(n,k)).lookup x=some .free)
 | [],x,h=>by simp at h
 |(n,k)::l,x,h=>by
  rw[SM];dsimp only;by_cases hx:x=n
  . subst hx;rw[Vy]at h;split
    . rw[Vy];exact .inl rfl
    . rw[Vy];exact h
  . have hb:(x==n)=false:=by simpa using hx
    have e1:List.lookup x ((n,k)::l)=List.lookup x l:=by rw[Sz,hb]
    rw[e1]at h;have ih:=sh (env:=env) l x h;split
    . rw[Sz,hb];exact ih
    . rw[Sz,hb];exact ih
def aO.sR{X0:Cx}{scope0 scope:Scope}{Nc0 Nc:List Str}{C:Addr}{s:Shared}{H:Hp}{ex:List Addr}{fr:List (Option Nat)}(h:xn scope0 Nc0 scope Nc fr=true):aO (fT X0 scope0 Nc0 C s H ex) scope Nc fr:=by
 unfold xn at h;simp only[SV]at h;obtain⟨⟨⟨⟨⟨h1,h2⟩,h3⟩,h4⟩,h5⟩,h6⟩:=h;refine⟨by simpa using h1,λ x hx hk=>?_,λ x hx hk=>?_,λ x hx hk=>?_,by simpa using h5,λ i j x e1 e2=>?_⟩
 . have:=SA.mp h2 x hx;rw[hk]at this;simpa using this
 . have:=SA.mp h3 x hx;rw[hk]at this;simpa using this
 . have:=SA.mp h4 x hx;rw[hk]at this;have z:scope0.names.lookup x.1=some .cell\/scope0.names.lookup x.1=some .free:=by simpa using this
   exact sh _ _ z
 . have hi:i<fr.length:=(Rx.mp e2).1;have:=SA.mp h6 i (T4.mpr hi);rw[e1,e2]at this;simp only[SV,Wu,Us]at this;exact⟨this.1.1,this.1.2,sh _ _ this.2⟩
end L3
namespace L3
open PySem L2
open PySem.Spec hiding items?
open PyProof.Rows hiding St
section
variable {X:Cx}
end
def Fs{n:Nat}{d:D}(h:d∈dM 0 n):∃i:Nat,i<n/\d= .int (i:Int):=by
 unfold dM at h;obtain⟨i,hi,rfl⟩:=RZ.mp h;rw[T4]at hi;exact⟨i,hi,by rw[TV]⟩
def Ga{f:Nat->D}(n:Nat):(dM 0 n).map (λ d=>match d with| .int i=>f i.toNat|_=> .aF)=(List.range n).map f:=by
 unfold dM;rw[Se];refine Tz λ i _=>?_;show f ((0:Int)+(i:Int)).toNat=f i;have:((0:Int)+(i:Int)).toNat=i:=by omega
 rw[this]
def gQ{tg:fV}{te:DE}{σc:ck}{st:ag}{K:List D->ag->Prop}(f:Nat->D)(n:Nat)(hx:∀i:Nat,i<n->∀K',K' (f i) st->∃σ2,tg (.int (i:Int)) σc=some σ2/\te σ2 st K')(k:K ((List.range n).map f) st):dP tg b_ te (λ _=>True) σc (dM 0 n) [] st K:=by
 refine comp_map (g:=λ d=>match d with| .int i=>f i.toNat|_=> .aF) trivial _ (λ d hd K' q=>?_) (by rw[Ga];exact k);obtain⟨i,hi,rfl⟩:=Fs hd;exact hx i hi K' q
def lZ{tg:fV}{body:DS}{E:kg}(n:Nat)(I:Nat->ck->ag->Prop)(hend:∀σ st,I n σ st->E.nx σ st)
 (hstep:∀(j:Nat) σ st (rest:List D),j<n->I j σ st->(∀σ' st',I (j+1) σ' st'->jb tg body (λ _=>True) E rest σ' st')->∃σ1,tg (.int (j:Int)) σ=some σ1/\body {E with nx:=jb tg body (λ _=>True) E rest,ct:=jb tg body (λ _=>True) E rest,bk:=E.nx} σ1 st)
 {σ:ck} {st:ag} (h0:I 0 σ st):jb tg body (λ _=>True) E (dM 0 n) σ st:=by
 refine ko (λ rest σ st=>∃j:Nat,j<=n/\rest=(List.range (n-j)).map (λ i=>D.int (((j+i:Nat):Int)))/\I j σ st) ?_ ?_ _ _ _ ⟨0,Sg _,by unfold dM;simp,h0⟩
 . rintro σ st ⟨j,hj,hr,hI⟩
   have:n-j=0:=by
    cases q:n-j with
    |zero=>rfl
    |succ m=>rw[q,S9]at hr;cases hr
   have hjn:j=n:=by omega
   subst hjn;exact⟨trivial,hend σ st hI⟩
 . rintro d rest σ st ⟨j,hj,hr,hI⟩ next
   cases q:n-j with
   |zero=>rw[q]at hr;cases hr
   |succ m=>
    rw[q,S9,SM,Se]at hr;simp only[UY]at hr;obtain⟨rfl,hrest⟩:=hr;refine⟨trivial,hstep j σ st rest (by omega) hI λ σ' st' h'=>next σ' st' ⟨j+1,by omega,?_,h'⟩⟩;have:n-(j+1)=m:=by omega
    rw[this,hrest];refine Tz λ i _=>?_;show D.int (((j+(i+1):Nat):Int))=D.int (((j+1+i:Nat):Int));congr 2;omega
abbrev DM:=Nat->List D->ag->DK->Prop
def LiftM(r:DM)(rM:V->List V->Hp->VK->Prop):Prop:=∀(α:List (Option Addr)) (G F H:Hp) (st:ag) (K:DK) (Q:VK) (n:Nat) (a:Addr) (ds:List D) (ws:List V),cO G F H->aP α st G->α[n]?=some (some a)->aG α G ds ws->r n ds st K->LK α G F K Q->rM (.ref a) ws H Q
@[irreducible] def qx(r:DM)(to:DE)(ta:DA):DE:=λ σ st K=>to σ st λ x st1=>match x with
 | .ref n=>(match st1[n]? with|some (.lst _)=>ta σ st1 λ ds st2=>(∃xs,st2[n]?=some (.lst xs))/\r n ds st2 K|_=>False)
 |_=>False
section
variable {X:Cx}
def LE.Qo{r:DM}{rM:V->List V->Hp->VK->Prop}(L:LiftM r rM){to:DE}{ta:DA}{σ:L2.St}{H:Hp}{Q:VK}(h:LE (qx r to ta) σ H Q):Jg X.K "list" rM (LE to) (LA ta) σ H Q:=by
 obtain⟨α,σd,st,K,G,F,P,R,S,t,k⟩:=h;unfold qx at t;refine⟨α,σd,st,_,G,F,P,R,S,t,λ x st1 q α1 G1 H1 v s1 P1 S1 r1=>?_⟩;cases x<;>try exact q.elim
 rename_i n;simp only at q;split at q
 . rename_i ys e;obtain⟨p,ep,vs,h1,h2⟩:=S1.gI e;have r1':=eA ep r1;subst r1';refine⟨.inl ⟨rfl,vs,.inl (.of (P1.get h1))⟩,α1,σd,st1,_,G1,F,P1,R.step s1,S1,q,?_⟩;rintro ds st2 ⟨⟨xs,e2⟩,q2⟩ α2 G2 H2 ws s2 P2 S2 r2;obtain⟨p2,ep2,_⟩:=S2.gI e2
   have:p2=p:=by
    rcases s2.pre _ _ ep with z|z<;>(rw[z]at ep2;cases ep2)
    rfl
   subst this;exact L α2 G2 F H2 st2 K Q n p2 ds ws P2 S2 ep2 r2 q2 ((k.at s1).at s2)
 . exact q.elim
def Nq{r:DM}{rM:V->List V->Hp->VK->Prop}{name:Str}{id:String}(L:LiftM r rM)(slot:Slot "list" name id)(hty:typeOf (.builtin id)=pure (.type "method_descriptor"))(hm:Nm X id rM){o e:Expr}{es:List Expr}{to:DE}{ta:DA}{apos cpos:Pos}(ho:PE X o (LE to))(ha:PA X (e::es) (LA ta))
 (hbase:attributeBase o name X.env (eval o X.env)=eval o X.env) (hfew:((backTo cpos (starEach (e::es) X.env)).all (λ x=> !x.1)&&(backToKw cpos (keywordEach [] X.env)).all (λ x=>x.1.isSome)
   &&decide ((e::es).length+([]:List Keyword).length+(if([]:List Keyword).isEmpty then 0 else 1)<30))=true)
 (hline:(apos.endLine==cpos.line)=true) (hs:starEach (e::es) X.env=(false,eval e X.env)::starEach es X.env) (hplain:(backTo cpos (starEach es X.env)).any (·.1)=false):PE X (.Call (.Attribute o name apos) (e::es) [] cpos) (LE (qx r to ta)):=
 PE.imp (Dk Vf slot hty hm ho ha hbase hfew hline hs hplain) λ _ _ _ h=>LE.Qo L h
def pd:DM:=λ n ds st K=>match ds with
 | [.int i]=>(match st[n]? with|some (.lst xs)=>(-(2^63)<=i/\i<2^63)/\(match lV xs.length i with|some j=>(match xs[j]? with|some d=>K d (st.set n (.lst (xs.eraseIdx j)))|none=>False)|none=>False)|_=>False)
 |_=>False
def uo{A B:Type}{F:A->B->Prop}:∀ {xs:List A} {ys:List B} (i:Nat),Paired F xs ys->Paired F (xs.eraseIdx i) (ys.eraseIdx i)
 |_,_,_,.nil=> .nil
 |_,_,0,.cons _ t=>t
 |_,_,i+1,.cons r t=> .cons r (uo i t)
def FY:LiftM pd GF:=by
 intro α G F H st K Q n a ds ws P S ea rs q k;unfold pd at q;split at q
 . rename_i i;split at q
   . rename_i xs e;obtain⟨h63,q⟩:=q;split at q
     . rename_i j ej;split at q
       . rename_i d ed;obtain⟨v,rfl,r1⟩:=gL rs rfl;unfold Rep at r1;subst r1;obtain⟨a',ea',vs,h1,h2⟩:=S.gI e;rw[ea]at ea';cases ea';obtain⟨y,ey,ry⟩:=h2.get ed;have hm:some a∈α:=Sb ea;refine⟨a,vs,i,j,y,rfl,rfl,P.get h1,h63.1,h63.2,by rw[<-h2.length];exact(yv ej).1,ey,?_⟩;refine k d _ q α (upd G a (.lst (vs.eraseIdx j))) _ y (Step.write hm) (P.write h1) ?_ (ry.step (Step.write hm));exact S.write ea ⟨vs.eraseIdx j,aW,(aY.mpr (uo j (aY.mp h2))).step (Step.write hm)⟩
       . exact q.elim
     . exact q.elim
   . exact q.elim
 . exact q.elim
def Ft{o e:Expr}{to te:DE}{apos cpos:Pos}(ho:JE X o to)(he:JE X e te)(hbase:attributeBase o "pop" X.env (eval o X.env)=eval o X.env:=by rfl)(hline:(apos.endLine==cpos.line)=true:=by rfl)(hs:notStar e=true:=by rfl):JE X (.Call (.Attribute o "pop" apos) [e] [] cpos) (qx pd to (af te ak)):=by
 unfold JE at*;refine Nq FY PySem.F.slot_list_pop PySem.F.type_list_pop HX ho (rR he ur (cQ hs)) hbase ?_ hline (cQ hs) rfl;rw[cQ hs];rfl
end
section
variable {X:Cx}{pos:Pos}
end
section
variable {X:Cx}
def xU{M:Model}{A:Around}{E:Value->Shared->Prop}{s:Shared}{Q:Value->Shared->Prop}{x:V}{v:Value}{b:Bool}(r:RelV x v)(h:Q (.bool (!(v== .bool b))) s):wpAny M A (compareOp .IsNot v (.bool b)) Q E s:=by
 cases x
 case bl c=>
  cases r;cases c<;>cases b<;>exact RP h
 all_goals first
  |(cases r;exact RP h)
  |(obtain⟨t,rfl⟩:=r;exact RP h)
def AB:d9:=λ x y st K=>match y with| .aF=>live st x=true/\K (.bl (!PN x)) st| .bl b=>live st x=true/\K (.bl (!NA x b)) st|_=>False
def HZ:cE X (compareOp .IsNot) (LR AB):=λ pins s σ H x y v u Q I rx ry ⟨α,d,e,st,K,G,F',P,r1,r2,S,q,k⟩=>by
 cases e<;>try exact q.elim
 . refine Lf pins s σ H x y v u Q I rx ry ⟨α,d,.aF,st,K,G,F',P,r1,r2,S,⟨q.1,?_⟩,k⟩;have q2:=q.2;cases d<;>exact q2
 . rename_i b;unfold Rep at r2;subst r2;cases ry;refine xU rx ?_;rw[Le S q.1 r1 rx];exact⟨.bl (!NA d b),H,I,rfl,k.here P q.2 S (by unfold Rep;rfl)⟩
@[irreducible] def uZ:d9:=AB
def Gr:cE X (compareOp .IsNot) (LR uZ):=by unfold uZ;exact HZ
end
section
variable {st:ag}{K:DK}{d:D}{b:Bool}
def w6(h:live st d=true)(k:K (.bl (!PN d)) st):uZ d .aF st K:=by unfold uZ;exact⟨h,k⟩
end
section
variable {X:Cx}
def K8{o i elt:Expr}{gs:List Comprehension}{sc:Scope}{p:Pos}{to ti te:TE}{pos pos':Pos}(he:PE X (.ListComp elt gs sc p) te)(ho:PE X o to)(hi:PE X i ti)(h2:lp i=true:=by rfl):PS X (.Assign [.Subscript o i pos'] (.ListComp elt gs sc p) pos) (oF te (AZ to ti wK)):=
 BJ he (EZ ho hi set_list (by intro v;cases i<;>first|rfl|cases h2)) (by unfold swapsWithSole swapsWith;rfl) rfl rfl
def EO{o i elt:Expr}{gs:List Comprehension}{sc:Scope}{p pos pos':Pos}{te to ti:DE}(he:JE X (.ListComp elt gs sc p) te)(ho:JE X o to)(hi:JE X i ti)(h2:lp i=true:=by rfl):JS X (.Assign [.Subscript o i pos'] (.ListComp elt gs sc p) pos) (f_ to ti te):=by
 unfold JS;unfold JE at*;exact A9 (K8 he ho hi h2)
end
end L3
namespace L3
open PySem L2
open PySem.Spec hiding items?
open PyProof.Rows hiding St
open AutoSeq1 (wpAny_loadPart')
def KZ{P:Program}{w:World}{A:Around}(hh:A.handled=none)(k:SK)(t a:Addr)(hne:a≠t)(us:Array Value):Draws P w A t [t,a] us.size (λ i v=>us[i]?=some v) (λ n g=>tw k t a n g/\nV k g a us) where
 live:=λ i h z=>((o_ (P:=P) (w:=w) k t a hne us).lv i h z).1
 frame:=λ i h h' z kp=>(o_ (P:=P) (w:=w) k t a hne us).fr i h h' z λ b hb o e=>kp b (by rcases hb with rfl|rfl<;>simp) o e
 item:=λ i s Q E hi z q=>(o_ (P:=P) (w:=w) k t a hne us).nx i A s Q E us[i] z (by simp[hi]) λ g j sb=>q _ g s.toks (by simp[hi]) j sb
 done:=λ s Q E z q=>(o_ (P:=P) (w:=w) k t a hne us).en us.size A s Q E hh z (by simp) q
def sP(l:Addr)(items:Array Value)(n:Nat)(dct:Option Addr)(sl:Array (Option Value)):
 Meets (Builtin.«enumerate.__new__» ⟨[.type "enumerate",.ref l],[]⟩) (λ _ R s=>s.heap.get? l=some {cls:= .type "tuple",dict:=dct,data:= .seq items n,slots:=sl}/\
  R (.ok (.ret (.ref (s.heap.push {cls:= .type "tuple_iterator",data:= .fields #[.ref l,.int 0 0]}).objs.size)))
   {s with heap:=(s.heap.push {cls:= .type "tuple_iterator",data:= .fields #[.ref l,.int 0 0]}).push {cls:= .type "enumerate",data:= .fields #[.none,.bool false,.ref s.heap.objs.size,rawInt 0,.none,.none]}}):=
 .of_wp λ prog w A R s h=>by
  obtain⟨hp,g,d,tk,os⟩:=s;obtain⟨hl,h⟩:=h;have hsub:=sub_enumerate;have hL:Heap.IsTuple (Shared.heap ⟨hp,g,d,tk,os⟩) l items:=⟨_,hl,rfl,n,rfl⟩
  wp_walk using wpAny_loadPart' hl
  refine wpAny_stack_any λ st=>RP ?_;split
  . rename_i c _ _ _ _ _;cases (c==Value.type "enumerate")
    . wp_walk using wpAny_loadPart' hl,UE hL
      exact⟨_,rfl,h⟩
    . wp_walk using wpAny_loadPart' hl,UE hL
      exact⟨_,rfl,h⟩
  . wp_walk using wpAny_loadPart' hl,UE hL
    exact⟨_,rfl,h⟩
def GC{P:Program}{w:World}{A:Around}{s:Shared}{E:Value->Shared->Prop}{k:SK}{a:Addr}{us:Array Value}{Q:Value->Shared->Prop}(c:nV k s.heap a us)
 (q:∀g,IsEnum g (s.heap.objs.size+1) s.heap.objs.size 0 .none->tw k s.heap.objs.size a 0 g->(∀b o,s.heap.get? b=some o->g.get? b=some o)->Q (.ref (s.heap.objs.size+1)) {s with heap:=g}):
 wpAny (model P w) A (call (.type "enumerate") [.ref a]) Q E s:=by
 cases k
 . exact call_enumerate_list c λ g h1 h2 _ h4=>q g h1 h2 h4
 . obtain⟨⟨c,dct,dt,sl⟩,hl,hc,n,hd⟩:=c;replace hc:c= .type "tuple":=hc;replace hd:dt= .seq us n:=hd;subst hc hd
   refine callType_new F.called_enumerate (by decide) (F.typeCall_enumerate_1 _) (F.newCall_enumerate_1 _) (λ obj=>F.args_object_init_2 obj _) F.entry_enumerate_new
    (sP a us n dct sl) ⟨hl,?_⟩
   have hz:(s.heap.push {cls:= .type "tuple_iterator",data:= .fields #[.ref a,.int 0 0]}).objs.size=s.heap.objs.size+1:=S_ ..;show _/\_;rw[hz]
   have he:IsEnum ((s.heap.push {cls:= .type "tuple_iterator",data:= .fields #[.ref a,.int 0 0]}).push
    {cls:= .type "enumerate",data:= .fields #[.none,.bool false,.ref s.heap.objs.size,rawInt 0,.none,.none]}) (s.heap.objs.size+1) s.heap.objs.size 0 .none:=by
    have:=Sa (s.heap.push {cls:= .type "tuple_iterator",data:= .fields #[.ref a,.int 0 0]})
     (o:={cls:= .type "enumerate",data:= .fields #[.none,.bool false,.ref s.heap.objs.size,rawInt 0,.none,.none]}) rfl
    rw[hz]at this;exact this
   exact⟨⟨_,he,rfl⟩,q _ he ⟨_,RG _ (Sa _ rfl),rfl,rfl⟩ λ b o x=>RG _ (RG _ x)⟩
def PX(K:PySem.W.Frag)(k:SK)(a:Addr):It:=
 ⟨λ i H=>∃xs x,rV k K H a xs/\xs[i]?=some x,
  λ i H v H'=>∃T x,H T=none/\v= .ref T/\H'=upd H T (.tup [.int (i:Int),x])/\∀xs,rV k K H a xs->xs[i]?=some x,
  λ i H=>∃xs,rV k K H a xs/\xs.length<=i⟩
def Qn(e t a:Addr)(k:SK)(i:Nat)(h:Heap):Prop:=(∃old,IsEnum h e t i old)/\tw k t a i h
def FQ{P:Program}{w:World}{K:PySem.W.Frag}{elts:List Expr}{kx:Nat}{pos:Pos}{e t a:Addr}(k:SK)(n1:e≠t)(n2:a≠e)(n3:a≠t):
 Turn P w K (.Tuple elts kx pos) (PX K k a) [e,t] e (Qn e t a k) where
 mem:=by simp
 obj:=λ i h st b hb=>by
  obtain⟨⟨old,he⟩,i1⟩:=st;simp only[RU,Sn,UJ]at hb;rcases hb with rfl|rfl
  . exact⟨_,he,λ v z=>by cases z⟩
  . exact pA i1
 keep:=λ i h h' st kp=>by
  obtain⟨⟨old,he⟩,i1⟩:=st;exact⟨⟨old,kp e (by simp) _ he⟩,rN i1 (kp t (by simp))⟩
 item:=by
  intro X hP hw hK hc i pins s σ H E I hf st hg;subst hP hw hK;obtain⟨⟨old,he⟩,i1⟩:=st;obtain⟨xs,x,q1,ex⟩:=hg;obtain⟨us,r1,l1⟩:=mI I q1;obtain⟨u,eu,ru⟩:=r1.get ex
  have hlt:i<us.toArray.size:=by
   have:=(Rx.mp eu).1;simpa using this
  refine wpAny_pyNext_enum_itemD (KZ (A:=X.A.in1) (show X.A.in1.handled=none from I.ok.hd hc) k t a n3 us.toArray) he ⟨i1,l1⟩ hlt n1 (by simp only[RU,Sn,UJ,U9];exact⟨n1,RO n2⟩) λ y h' tk py ho hs hT hsz kp=>⟨_,rfl,?_⟩
  have hy:y=u:=by
   have:us[i]?=some y:=by simpa using py
   rw[eu]at this;cases this;rfl
  subst hy;refine wpAny_letOwnedTupleGo_enum (s:={s with heap:=h',toks:=tk+1}) ho λ k' he' sb=>?_;have hTe:s.heap.objs.size≠e:=Uv (RT he)
  have kp3:∀b o,b∉[e,t]->s.heap.get? b=some o->k'.get? b=some o:=λ b o hb eb=>by
   simp only[RU,U9,Sn,Td,UK]at hb;exact sb.extBut _ _ hb.1 (kp b o hb.1 hb.2 eb)
  refine⟨.ref s.heap.objs.size,upd H s.heap.objs.size (.tup [.int (i:Int),x]),IU (s:=s) (tk:=tk+1) I hf kp3 (Ry _) ?_,rfl,⟨s.heap.objs.size,x,I.aL.fresh (Ry _),rfl,rfl,?_⟩,?_,?_⟩
  . refine⟨RN rfl,[.int (i:Int) tk,y],.cons ⟨tk,rfl⟩ (.cons ru .nil),?_⟩;exact⟨_,sb.extBut _ _ hTe hT,rfl,_,rfl⟩
  . intro xs' q';rw[xN I q' q1];exact ex
  . refine⟨⟨_,by simpa using he'⟩,rN hs.1 λ o eo=>sb.extBut _ _ (RO n1) eo⟩
  . intro b hb
    have:b≠s.heap.objs.size:=by
     obtain⟨o,eb⟩:∃o,s.heap.get? b=some o:=by
      simp only[RU,Sn,UJ]at hb;rcases hb with rfl|rfl
      . exact⟨_,he⟩
      . obtain⟨o,eo,_⟩:=pA i1;exact⟨o,eo⟩
     exact Sj (RT eb)
    rw[aB this];exact(hf b hb).1
 done:=by
  intro X hP hw hK hc i pins s σ H E I hf st hg;subst hP hw hK;obtain⟨⟨old,he⟩,i1⟩:=st;obtain⟨xs,q1,hle⟩:=hg;obtain⟨us,r1,l1⟩:=mI I q1;have e1:=r1.length;have tz:s.TypeIs (.ref e) "enumerate":=⟨_,he,rfl⟩
  unfold pyNext;refine Rz (V3 (Tq (name:=Str.ofString "__next__") tz F.slot_enumerate_next (Uc F.slot_enumerate_next tz F.entry_enumerate_next ?_ (F.args_enumerate_next_1 _))));show wpAny _ _ (field (.ref e) 2 >>= _) _ _ _;refine Rz (Tg he rfl (x:= .ref t) rfl ?_);refine Rz ((o_ k t a n3 us.toArray).en i _ s _ _ (I.ok.hd hc) ⟨i1,l1⟩ (by simp;omega) λ g x sb hx=>?_);obtain⟨o,ho,hc2⟩:=hx;refine Rz (wpAny_isInstance (T:="StopIteration") (b:=true) ⟨o,ho,hc2⟩ isSubtype_stop ?_);refine RP ⟨rfl,Jf (s:=s) (tk:=s.toks) I hf λ b o hb eb=>?_⟩;simp only[RU,U9,Sn,Td,UK]at hb;exact sb b o hb.2 eb
 self:=λ _ _ _ _ _ st h=>wpAny_pyIter_enum st.1.choose_spec h
def kU:Nat->List D->List D
 |_,[]=>[]
 |i,x::xs=> .tup [.int (i:Int),x]::kU (i+1) xs
def yR:∀ {xs:List D} {i:Nat},(kU i xs).length=xs.length
 | [],_=>rfl
 |_::xs,i=>by unfold kU;rw[Sl,Sl,yR]
def ue:∀ {xs:List D} {i n:Nat} {d:D},(kU i xs)[n]?=some d->∃x,xs[n]?=some x/\d= .tup [.int ((i+n:Nat):Int),x]
 | [],_,_,_,e=>by unfold kU at e;cases e
 |x::xs,i,0,d,e=>by
  unfold kU at e;rw[List.getElem?_cons_zero]at e;cases e;exact⟨x,rfl,rfl⟩
 |x::xs,i,n+1,d,e=>by
  unfold kU at e;rw[Vg]at e;obtain⟨y,h1,h2⟩:=ue e;refine⟨y,by rw[Vg];exact h1,?_⟩;rw[h2,show i+1+n=i+(n+1) by omega]
def J9{K:PySem.W.Frag}{k:SK}{a:Addr}{α:List (Option Addr)}{G:Hp}{ok:ag->Prop}{xs:List D}
 (h:∀α' G' st',Step α G α' G'->aP α' st' G'->ok st'->∃vs,F0 k G' a vs/\aG α' G' xs vs):x_ (PX K k a) α G ok (kU 0 xs) where
 stop:=λ n α' G' F' H' st' s P S o hn=>by
  obtain⟨vs,h1,r1⟩:=h α' G' st' s S o;rw[yR]at hn;refine⟨vs,k0 P h1,?_⟩;have:=r1.length;omega
 go:=λ n d α' G' F' H' st' s P S o hn=>by
  obtain⟨vs,h1,r1⟩:=h α' G' st' s S o;obtain⟨x,ex,rfl⟩:=ue hn;obtain⟨v,ev,_⟩:=r1.get ex;exact⟨vs,v,k0 P h1,ev⟩
 rh:=λ n d α' G' F' H' st' x H'' s P S o hn y=>by
  obtain⟨vs,h1,r1⟩:=h α' G' st' s S o;obtain⟨c,ec,rfl⟩:=ue hn;obtain⟨T,v,hT,rfl,rfl,y1⟩:=y;obtain⟨v',ev,rv⟩:=r1.get ec;rw[y1 vs (k0 P h1)]at ev;cases ev;have hg:=(P.none hT).1;refine⟨upd G' T (.tup [.int (n:Int),v]),Step.laid hg,P.laid hT,S.laid hg,?_⟩;unfold Rep;refine⟨T,[.int (n:Int),v],rfl,S.mE hg,aW,?_⟩;unfold aG;refine⟨.int (n:Int),[v],rfl,?_,?_⟩
  . unfold Rep;rw[U_]
  unfold aG;exact⟨v,[],rfl,rv.step (Step.laid hg),by unfold aG;rfl⟩
def Dx(ds:List D)(st1:ag)(K:List D->(ag->Prop)->ag->Prop):Prop:=match ds with
 | [x]=>(match items? st1 x with
   |some xs=>K (kU 0 xs) (λ st'=>items? st' x=some xs) st1
   |_=>False)
 |_=>False
@[irreducible] def tX:List D->ag->(List D->(ag->Prop)->ag->Prop)->Prop:=Dx
def Ej(t:DA):DI:=λ σ st K=>t σ st λ ds st1=>tX ds st1 K
def EV:bootBuiltins "enumerate"=some (.type "enumerate"):=by decide+kernel
def K_{X:Cx}{a:Expr}{elts:List Expr}{kx:Nat}{tpos p pos:Pos}{t:DA}(hg:Gl X "enumerate")(hm:X.mg "enumerate"=none)(ha:PA X [a] (LA t))(hs:starEach [a] X.env=[(false,eval a X.env)]):
 PI X (.Tuple elts kx tpos) (.Call (.Name "enumerate" p) [a] [] pos) (LI (Ej t)):=by
 intro pins s σ H R I h;obtain⟨α,σd,st,K,G,F,P,RS,S,t,k⟩:=h;refine Call_ (ow I hg hm EV (TM (cR (ha pos pins s σ H (λ vs H1=>∃ds α1 G1 st1,Step α G α1 G1/\cO G1 F H1/\aP α1 st1 G1/\aG α1 G1 ds vs/\tX ds st1 K) I ⟨α,σd,st,_,G,F,P,RS,S,t,λ ds st1 q α1 G1 H1 vs s1 P1 S1 r1=>⟨ds,α1,G1,st1,s1,P1,S1,r1,q⟩⟩) λ us s1 ⟨vs,H1,I1,rv,ds,α1,G1,st1,w1,P1,S1,r1,q⟩=>?_) (by rw[hs];rfl) (by rfl)));unfold tX Dx at q;split at q
 . rename_i x;split at q
   . rename_i xs ex;obtain⟨v1,rfl,q1⟩:=gL r1 rfl;obtain⟨p1,vs1,rfl,g1,c1⟩:=pq S1 q1 ex;obtain⟨u1,rfl,ru1⟩:=vals1 rv;cases ru1;obtain⟨its1,_,l1⟩:=mI I1 (k0 P1 c1);refine GC l1 λ g he i1 kp=>?_;obtain⟨o1,eo1⟩:=l1.some;have hp1:p1<s1.heap.objs.size:=RT eo1;refine wpAny_pyIter_enum (s:={s1 with heap:=g}) he ?_;refine⟨s1.heap.objs.size+1,[s1.heap.objs.size+1,s1.heap.objs.size],_,_,H1,rfl,I1.kept (t':=s1.toks) kp,FQ (IG x) (Uv (Si _)) (Sj (Sk hp1)) (Sj hp1),⟨⟨_,he⟩,i1⟩,λ b hb=>?_,?_⟩
     . have hb':s1.heap.objs.size<=b:=by
        simp only[RU,Sn,UJ]at hb;rcases hb with rfl|rfl
        . exact Ut _
        . exact Ry _
       exact I1.x6 hb' (I1.aL.fresh hb')
     . refine k _ _ st1 q _ α1 G1 H1 w1 P1 S1 (J9 λ α' G' st' s' S' o=>?_);obtain⟨p1',ws1,e1,f1,d1⟩:=pq S' (q1.step s') o;cases e1;exact⟨ws1,d1,f1⟩
   . exact q.elim
 . exact q.elim
def Kq{st:ag}{x:D}{xs:List D}{K:List D->(ag->Prop)->ag->Prop}(ex:items? st x=some xs)(k:∀ok:ag->Prop,(∀st',items? st' x=some xs->ok st')->K (kU 0 xs) ok st):tX [x] st K:=by
 unfold tX Dx;simp only[ex];exact k _ λ st' h1=>h1
def MB{X:Cx}{a:Expr}{elts:List Expr}{kx:Nat}{tpos p pos:Pos}{ar:DA}(hg:Gl X "enumerate")(hm:X.mg "enumerate"=none)(ha:JA X [a] ar)(hs:notStar a=true:=by rfl):JI X (.Tuple elts kx tpos) (.Call (.Name "enumerate" p) [a] [] pos) (Ej ar):=by
 unfold JI;unfold JA at ha;exact K_ hg hm ha (cQ hs)
end L3
namespace L3
open PySem L2
open PySem.Spec hiding items?
open PyProof.Rows hiding St
section
variable {prog:Program}{w:World}{A:Around}{E:Value->Shared->Prop}{s:Shared}
end
section
variable {X:Cx}{tg:Expr}
end
section
variable {X:Cx}
def IB:d9:=λ x y st K=>match x,y with
 | .lst xs,.lst ys=>xs.length+ys.length<=sizeLine/\K (.ref st.length) (st++[.lst (xs++ys)])
 |_,_=>False
def L6:cE X (binaryOp .Add) (LR IB):=λ pins s σ H x y v u Q I rx ry ⟨α,d,e,st,K,G,F',P,r1,r2,S,q,k⟩=>by
 cases d<;>cases e<;>try exact q.elim
 unfold Rep at r1 r2;obtain⟨a,vs,rfl,na,ha,ra⟩:=r1;obtain⟨b,ws,rfl,nb,hb,rb⟩:=r2;refine yj pins s σ H _ _ v u Q I rx ry ⟨a,b,vs,ws,rfl,rfl,fK P ha,fK P hb,by rw[<-ra.length,<-rb.length];exact q.1,λ p hp=>?_⟩;exact k.new P q.2 S (aY.mpr (fG (aY.mp ra) (aY.mp rb))) hp
@[irreducible] def wZ:d9:=IB
def LB:cE X (binaryOp .Add) (LR wZ):=by unfold wZ;exact L6
end
def J5{st:ag}{K:DK}{xs ys:List D}(h:xs.length+ys.length<=sizeLine)(k:K (.ref st.length) (st++[.lst (xs++ys)])):wZ (.lst xs) (.lst ys) st K:=by unfold wZ;exact⟨h,k⟩
end L3
namespace L3
open PySem L2
open PySem.Spec hiding items?
open PyProof.Rows hiding St
open PySem PySem.Spec L2 PySem.SeqAt
section
variable {X:Cx}
end
end L3
namespace L3
open PySem L2
open PySem.Spec hiding items?
open PyProof.Rows hiding St
section
variable {X:Cx}
def CJ{k:Nat}{x:Str}{e:Expr}{te:DE}{pos pos':Pos}(hN:X.N.Nodup)(hx:Loc X.env.scope x)(he:JE X e te)(hsw:swapsWith e (some (.Name x pos')) pos.line X.env=pure false:=by rfl)(hf:X.fn x=true\/X.env.scope.names.lookup x=some .local:=by first|exact .inl rfl|exact .inr rfl)(hi:X.N[k]?=some x:=by rfl):JS X (.Assign [.Name x pos'] e pos) (bc k te):=by
 unfold JS;unfold JE at he;exact EY (FR hN hi hx he hsw hf)
def zK:fI:=λ ds st K=>match ds with| [.lst xs]=>(match i5 xs with|some ns=>ns≠ []/\∀m∈ns,(∀x∈ns,x<=m)->K (.int m) st|none=>False)|_=>False
def zE:fI:=λ ds st K=>match ds with| [.lst xs]=>(match i5 xs with|some ns=>ns≠ []/\∀m∈ns,(∀x∈ns,m<=x)->K (.int m) st|none=>False)|_=>False
def C4{ns:List Int}{i:Nat}(hi:i<ns.length):ns.getD i 0∈ns:=by rw[RC,RJ hi];exact R0 _
def mem_getD{ns:List Int}{x:Int}(h:x∈ns):∃i,i<ns.length/\ns.getD i 0=x:=by
 obtain⟨i,hi,rfl⟩:=RQ.mp h;exact⟨i,hi,by rw[RC,RJ hi];rfl⟩
def MQ(hc:X.calm=true):cj X (.builtin "max") (gc zK):=λ pins s σ H xs us Q I rs ⟨α,ds,st,K,G,F',P,r,S,q,k⟩=>by
 unfold zK at q;split at q
 . rename_i ys;split at q
   . rename_i ns e;obtain⟨hne0,q⟩:=q;obtain⟨v,rfl,r1⟩:=gL r rfl;unfold Rep at r1;obtain⟨a,vs,rfl,na,h1,h2⟩:=r1;obtain⟨u,rfl,ru⟩:=vals1 rs;cases ru;have hv:=nZ h2 e;subst hv;obtain⟨z,its,n,rv,hl,eo⟩:=Inv.se I (fK P h1);have isL:s.heap.IsList a its.toArray:=⟨_,eo,rfl,n,rfl⟩
     have hlen:its.length=ns.length:=by rw[<-hl,Rw]
     have hpos:0<ns.length:=List.length_pos_iff.mpr hne0;refine call_max_walkS (Up isL ?_);have hne:a≠s.heap.objs.size:=Sj (RT eo);have hval:∀(i:Nat) (w:Value),its.toArray[i]?=some w->∃t,w=Value.int (ns.getD i 0) t:=λ i w hw=>jK rv i w (by simpa using hw);refine⟨s.heap.objs.size,_,_,_,_,_,_,_,rfl,(WW (A:=X.A.in1) (I.ok.hd hc) _ a hne its.toArray).toS,⟨⟨_,Sa _ rfl,rfl,rfl⟩,⟨_,RG _ eo,rfl,n,rfl⟩⟩,?_,by rw[RI];omega,CmpOf.ints_gt (λ i=>ns.getD i 0) hval,?_⟩
     . intro b hb;rw[S_];simp only[RU,Sn,UJ]at hb;rcases hb with rfl|rfl
       . exact Si _
       . exact Sk (RT eo)
     . intro v' s' hv hm
       have kp:∀b o,s.heap.get? b=some o->s'.heap.get? b=some o:=λ b o q=>hm.heap b o (by
        intro hb;have:b=s.heap.objs.size:=by simpa using hb
        exact absurd (RT q) (by rw[this];exact S0 _)) (RG _ q)
       have es:s'= {s with heap:=s'.heap,toks:=s'.toks}:=by
        have g:=hm.gens;have d:=hm.drawn;have o:=hm.os;cases s';cases s
        simp_all
       have hsz:its.toArray.size-1=ns.length-1:=by rw[RI,hlen]
       obtain⟨t,rfl⟩:=hval _ _ hv;obtain⟨b1,b2⟩:=argBest_gt (λ i=>ns.getD i 0) (its.toArray.size-1);generalize argBest (λ i j=>decide (ns.getD i 0>ns.getD j 0)) (its.toArray.size-1)=j at b1 b2⊢;have hj:j<ns.length:=by omega
       rw[es];refine⟨.int (ns.getD j 0),H,I.kept (t':=s'.toks) kp,⟨t,rfl⟩,k.here P (q _ (C4 hj) λ x hx=>?_) S (by unfold Rep;rfl)⟩;obtain⟨i,hi,rfl⟩:=mem_getD hx;exact b2 i (by omega)
   . exact q.elim
 . exact q.elim
def MZ(hc:X.calm=true):cj X (.builtin "min") (gc zE):=λ pins s σ H xs us Q I rs ⟨α,ds,st,K,G,F',P,r,S,q,k⟩=>by
 unfold zE at q;split at q
 . rename_i ys;split at q
   . rename_i ns e;obtain⟨hne0,q⟩:=q;obtain⟨v,rfl,r1⟩:=gL r rfl;unfold Rep at r1;obtain⟨a,vs,rfl,na,h1,h2⟩:=r1;obtain⟨u,rfl,ru⟩:=vals1 rs;cases ru;have hv:=nZ h2 e;subst hv;obtain⟨z,its,n,rv,hl,eo⟩:=Inv.se I (fK P h1);have isL:s.heap.IsList a its.toArray:=⟨_,eo,rfl,n,rfl⟩
     have hlen:its.length=ns.length:=by rw[<-hl,Rw]
     have hpos:0<ns.length:=List.length_pos_iff.mpr hne0;refine call_min_walkS (Up isL ?_);have hne:a≠s.heap.objs.size:=Sj (RT eo);have hval:∀(i:Nat) (w:Value),its.toArray[i]?=some w->∃t,w=Value.int (ns.getD i 0) t:=λ i w hw=>jK rv i w (by simpa using hw);refine⟨s.heap.objs.size,_,_,_,_,_,_,_,rfl,(WW (A:=X.A.in1) (I.ok.hd hc) _ a hne its.toArray).toS,⟨⟨_,Sa _ rfl,rfl,rfl⟩,⟨_,RG _ eo,rfl,n,rfl⟩⟩,?_,by rw[RI];omega,CmpOf.ints_lt (λ i=>ns.getD i 0) hval,?_⟩
     . intro b hb;rw[S_];simp only[RU,Sn,UJ]at hb;rcases hb with rfl|rfl
       . exact Si _
       . exact Sk (RT eo)
     . intro v' s' hv hm
       have kp:∀b o,s.heap.get? b=some o->s'.heap.get? b=some o:=λ b o q=>hm.heap b o (by
        intro hb;have:b=s.heap.objs.size:=by simpa using hb
        exact absurd (RT q) (by rw[this];exact S0 _)) (RG _ q)
       have es:s'= {s with heap:=s'.heap,toks:=s'.toks}:=by
        have g:=hm.gens;have d:=hm.drawn;have o:=hm.os;cases s';cases s
        simp_all
       have hsz:its.toArray.size-1=ns.length-1:=by rw[RI,hlen]
       obtain⟨t,rfl⟩:=hval _ _ hv;obtain⟨b1,b2⟩:=argBest_lt (λ i=>ns.getD i 0) (its.toArray.size-1);generalize argBest (λ i j=>decide (ns.getD i 0<ns.getD j 0)) (its.toArray.size-1)=j at b1 b2⊢;have hj:j<ns.length:=by omega
       rw[es];refine⟨.int (ns.getD j 0),H,I.kept (t':=s'.toks) kp,⟨t,rfl⟩,k.here P (q _ (C4 hj) λ x hx=>?_) S (by unfold Rep;rfl)⟩;obtain⟨i,hi,rfl⟩:=mem_getD hx;exact b2 i (by omega)
   . exact q.elim
 . exact q.elim
@[irreducible] def va:fI:=zK
def Gd(hc:X.calm=true):cj X (.builtin "max") (gc va):=by unfold va;exact MQ hc
@[irreducible] def wH:fI:=zE
def Nj(hc:X.calm=true):cj X (.builtin "min") (gc wH):=by unfold wH;exact MZ hc
end
def De{st:ag}{K:DK}{xs:List D}{ns:List Int}(h:i5 xs=some ns)(h0:ns≠ [])(k:∀m∈ns,(∀x∈ns,x<=m)->K (.int m) st):va [.lst xs] st K:=by unfold va zK;simp only[h];exact⟨h0,k⟩
def Lj{st:ag}{K:DK}{xs:List D}{ns:List Int}(h:i5 xs=some ns)(h0:ns≠ [])(k:∀m∈ns,(∀x∈ns,m<=x)->K (.int m) st):wH [.lst xs] st K:=by unfold wH zE;simp only[h];exact⟨h0,k⟩
def kill:List Nat->ag->ag
 | [],st=>st
 |c::cs,st=>kill cs (st.set c .dead)
def Cr:∀ {cs:List Nat} {st:ag} {m:Nat},m∉cs->(kill cs st)[m]?=st[m]?
 | [],_,_,_=>rfl
 |c::cs,st,m,h=>by
  unfold kill;have hc:c≠m:=λ z=>h (by rw[z];exact R7);rw[Cr λ z=>h (R8 _ z),RB hc]
def BK:∀ {cs:List Nat} {st:ag},(kill cs st).length=st.length
 | [],_=>rfl
 |c::cs,st=>by unfold kill;rw[BK,RY]
def Cw{G:Hp}:∀(cs:List Nat) (xss:List (List D)) {α:List (Option Addr)} {st:ag} {vs:List V},aP α st G->aG α G (cs.map D.ref) vs->cs.Nodup->cs.length=xss.length->(∀(k c:Nat) (xs:List D),cs[k]?=some c->xss[k]?=some xs->st[c]?=some (.lst xs))->∃α',Step α G α' G/\aP α' (kill cs st) G/\aG α' G (xss.map D.lst) vs
 | [],[],α,st,vs,S,r,_,_,_=>⟨α,Step.refl,S,r⟩
 |c::cs,xs::xss,α,st,vs,S,r,nd,hl,h=>by
  have e:=h 0 c xs rfl rfl
  obtain⟨v,vs',rfl,r1,r2⟩:∃v r,vs=v::r/\Rep α G (.ref c) v/\aG α G (cs.map D.ref) r:=by
   rw[SM]at r;unfold aG at r;exact r
  obtain⟨hc,nd⟩:=Uk.mp nd;have S1:=S.fz (Rx.mp e).1
  obtain⟨α',s,S2,r3⟩:=Cw cs xss S1 (r2.step Step.fz) nd (by simpa using hl) λ k d ys e1 e2=>by
   have hd:c≠d:=λ z=>hc (z▸Sb e1);rw[RB hd];exact h (k+1) d ys (by simpa using e1) (by simpa using e2)
  refine⟨α',Step.fz.trans s,S2,?_⟩;rw[SM];unfold aG;exact⟨v,vs',rfl,(S.xT e r1).step s,r3⟩
@[irreducible] def u7(i:Nat)(t:DS):DS:=λ D σ st=>∃(n:Nat) (cs:List Nat) (xss:List (List L3.D)),σ[i]?=some (some (.ref n))/\st[n]?=some (.lst (cs.map L3.D.ref))/\cs.Nodup/\n∉cs/\cs.length=xss.length/\(∀(k c:Nat) (xs:List L3.D),cs[k]?=some c->xss[k]?=some xs->st[c]?=some (.lst xs))/\t D (σ.set i (some (.lst (xss.map L3.D.lst)))) (kill (n::cs) st)
section
variable {X:Cx}
def Ke{s:Stmt}{i:Nat}{t:DS}(h:PS X s (LS t)):PS X s (LS (u7 i t)):=PS.imp h λ D σ H ⟨α,σd,st,DD,G,F,P,R,S,q,k⟩=>by
 unfold u7 at q;obtain⟨n,cs,xss,e,e2,nd,hn,hl,hc,q⟩:=q;have hlt:n<st.length:=(Rx.mp e2).1;obtain⟨v,ev,rv⟩:=R.at' i _ e;have r1:=S.xT e2 rv;unfold Rep at r1;obtain⟨a,vs,rfl,na,h1,h2⟩:=r1
 obtain⟨α',s1,S2,r3⟩:=Cw cs xss (S.fz hlt) h2 nd hl λ k c xs e1 e2=>by
  have hd:n≠c:=λ z=>hn (z▸Sb e1);rw[RB hd];exact hc k c xs e1 e2
 have s:Step α G α' G:=Step.fz.trans s1
 have r4:Rep α' G (.lst (xss.map L3.D.lst)) (.ref a):=by
  unfold Rep;refine⟨a,vs,rfl,λ z=>?_,h1,r3⟩;have:=s1.new a z na;rcases h1 with h1|⟨ob,h1⟩<;>(rw[this]at h1;cases h1)
 have R2:ff α' G (σd.set i (some (.lst (xss.map L3.D.lst)))) (σ.set i (some (.ref a))):=(R.step s).set i r4
 have es:σ.set i (some (.ref a))=σ:=by
  refine List.ext_getElem? λ j=>?_;by_cases hj:i=j
  . subst hj;rw[RK (Rx.mp ev).1,ev]
  . rw[RB hj]
 rw[es]at R2;exact⟨α',_,_,DD,G,F,P,R2,S2,q,k.at s⟩
def JF{s:Stmt}{i:Nat}{t:DS}(h:JS X s t):JS X s (u7 i t):=by unfold JS at*;exact Ke h
end
def Kb{σ:ck}{st:ag}{E:kg}{i n:Nat}{t:DS}{cs:List Nat}{xss:List (List L3.D)}(e:σ[i]?=some (some (.ref n)))(e2:st[n]?=some (.lst (cs.map L3.D.ref)))(nd:cs.Nodup)(hn:n∉cs)(hl:cs.length=xss.length)(hc:∀(k c:Nat) (xs:List L3.D),cs[k]?=some c->xss[k]?=some xs->st[c]?=some (.lst xs))(k:t E (σ.set i (some (.lst (xss.map L3.D.lst)))) (kill (n::cs) st)):u7 i t E σ st:=by
 unfold u7;exact⟨n,cs,xss,e,e2,nd,hn,hl,hc,k⟩
section
variable {X:Cx}
end
def z_:∀ {ns:List Int} {us:List Value},Vals (ns.map V.int) us->IntsAre us ns
 | [],_,.nil=> .nil
 |n::ns,_,.cons h t=>by
  obtain⟨tk,rfl⟩:=h;exact .cons n tk (z_ t)
section
variable {X:Cx}
end
section
variable {P:Program}{w:World}
section
variable {z ti to t1 t2 t3 a1 a2 a3:Addr}
end
end
def F9:DS:=λ _ _ _=>False
def HV{X:Cx}{s:Stmt}:JS X s F9:=by
 unfold JS;intro pins s σ H D I h;obtain⟨α,σd,st,DD,G,F,P,R,S,q,k⟩:=h;exact q.elim
section
variable {X:Cx}
def zU:d9:=λ x y st K=>match x,y with
 | .ref n,.lst ys=>(match st[n]? with|some (.lst xs)=>xs.length+ys.length<=sizeLine/\K (.lst (xs++ys)) st|_=>False)
 |_,_=>False
def Nd:cE X (binaryOp .Add) (LR zU):=λ pins s σ H x y v u Q I rx ry ⟨α,d,e,st,K,G,F',P,r1,r2,S,q,k⟩=>by
 cases d<;>cases e<;>try exact q.elim
 rename_i n ys;unfold zU at q;simp only at q;split at q
 . rename_i xs e;obtain⟨a,ea,vs,h1,h2⟩:=S.gI e;have r1':=eA ea r1;subst r1';unfold Rep at r2;obtain⟨b,ws,rfl,nb,hb,rb⟩:=r2;refine yj pins s σ H _ _ v u Q I rx ry ⟨a,b,vs,ws,rfl,rfl,.of (P.get h1),fK P hb,by rw[<-h2.length,<-rb.length];exact q.1,λ p hp=>?_⟩;exact k.lst P q.2 S (aY.mpr (fG (aY.mp h2) (aY.mp rb))) hp
 . exact q.elim
@[irreducible] def xi:d9:=zU
def Ml:cE X (binaryOp .Add) (LR xi):=by unfold xi;exact Nd
end
def JV{st:ag}{K:DK}{n:Nat}{xs ys:List D}(e:st[n]?=some (.lst xs))(h:xs.length+ys.length<=sizeLine)(k:K (.lst (xs++ys)) st):xi (.ref n) (.lst ys) st K:=by unfold xi zU;simp only[e];exact⟨h,k⟩
end L3
namespace L3
open PySem L2
open PySem.Spec hiding items?
open PyProof.Rows hiding St
open Sem (wp)
section
variable {prog:Program}{w:World}{A:Around}{s:Shared}{E:Value->Shared->Prop}
end
section
variable {prog:Program}{w:World}{A:Around}{R:Result->Shared->Prop}{I:Addr}{fp wr:List Addr}{G:Array GenState->Array GenState->Prop}{n:Nat}{P:Nat->Value->Prop}{Sx:Nat->Shared->Prop}
end
section
variable {prog:Program}{w:World}{A:Around}{E:Value->Shared->Prop}{s:Shared}
end
section
variable {X:Cx}{pins:List (Addr×Obj)}{σ:L2.St}{H:Hp}{s:Shared}{α:List (Option Addr)}
end
end L3
namespace L3
open PySem L2
open PySem.Spec hiding items?
open PyProof.Rows hiding St
section
variable {X:Cx}
end
def putD(f:Str)(v:D):List (Str×D)->List (Str×D)
 | []=>[(f,v)]
 |(g,x)::r=>if g=f then(g,v)::r else(g,x)::putD f v r
def lh.look{α:List (Option Addr)}{H:Hp}{f:Str}{v:D}:∀ {fs:List (Str×D)} {vs:List (Str×V)},lh α H fs vs->fs.lookup f=some v->∃u,vs.lookup f=some u/\Rep α H v u
 | [],_,_,e=>by cases e
 |(g,x)::fs,_,.cons (b:=q) h t,e=>by
  obtain⟨g',y⟩:=q;obtain⟨h1,h2⟩:=h;simp only at h1 h2;subst h1;rw[Sz]at e⊢;cases hb:f==g with
  |true=>rw[hb]at e;cases e;exact⟨y,rfl,h2⟩
  |false=>rw[hb]at e;exact lh.look t e
def lh.none{α:List (Option Addr)}{H:Hp}{f:Str}:∀ {fs:List (Str×D)} {vs:List (Str×V)},lh α H fs vs->fs.lookup f=Option.none->vs.lookup f=Option.none
 | [],_,.nil,_=>rfl
 |(g,x)::fs,_,.cons (b:=q) h t,e=>by
  obtain⟨g',y⟩:=q;obtain⟨h1,h2⟩:=h;simp only at h1 h2;subst h1;rw[Sz]at e⊢;cases hb:f==g with
  |true=>rw[hb]at e;cases e
  |false=>rw[hb]at e;exact lh.none t e
def lh.put{α:List (Option Addr)}{H:Hp}{f:Str}{d:D}{v:V}(r:Rep α H d v):∀ {fs:List (Str×D)} {vs:List (Str×V)},lh α H fs vs->lh α H (putD f d fs) (iz f v vs)
 | [],_,.nil=> .cons ⟨rfl,r⟩ .nil
 |(g,x)::fs,_,.cons (b:=q) h t=>by
  obtain⟨g',y⟩:=q;obtain⟨h1,h2⟩:=h;simp only at h1 h2;subst h1;unfold putD iz;by_cases hb:g=f
  . rw[RF hb,RF hb];exact .cons ⟨rfl,r⟩ t
  . rw[RE hb,RE hb];exact .cons ⟨rfl,h2⟩ (lh.put r t)
def GR(C:Addr)(f:Str)(d:D)(st:ag)(K:DK):Prop:=match d with
 | .ref n=>(match st[n]? with|some (.ins C' fs)=>C'=C/\∃v,fs.lookup f=some v/\K v st|_=>False)
 |_=>False
@[irreducible] def Dy(C:Addr)(f:Str):D->ag->DK->Prop:=GR C f
def fi(C:Addr)(f:Str)(te:DE):DE:=λ σ st K=>te σ st λ d st1=>Dy C f d st1 K
def df{C:Addr}{f:Str}{n:Nat}{st:ag}{K:DK}{fs:List (Str×D)}{v:D}(e:st[n]?=some (.ins C fs))(h:fs.lookup f=some v)(k:K v st):Dy C f (.ref n) st K:=by
 unfold Dy GR;simp only[e];exact⟨trivial,v,h,k⟩
def D3(C:Addr)(f:Str)(x d:D)(st:ag)(K:ag->Prop):Prop:=match x with
 | .ref n=>(match st[n]? with|some (.ins C' fs)=>C'=C/\fs.length<1000/\K (st.set n (.ins C (putD f d fs)))|_=>False)
 |_=>False
@[irreducible] def zD(C:Addr)(f:Str):D->D->ag->(ag->Prop)->Prop:=D3 C f
def qu(C:Addr)(f:Str)(to te:DE):DS:=λ D σ st=>te σ st λ d st1=>to σ st1 λ x st2=>zD C f x d st2 λ st3=>D.nx σ st3
def pB{C:Addr}{f:Str}{n:Nat}{d:D}{st:ag}{K:ag->Prop}{fs:List (Str×D)}(e:st[n]?=some (.ins C fs))(h:fs.length<1000)(k:K (st.set n (.ins C (putD f d fs)))):zD C f (.ref n) d st K:=by
 unfold zD D3;simp only[e];exact⟨trivial,h,k⟩
def Ey(C:Addr)(m:Str)(x:D)(st:ag)(k:Prop):Prop:=match x with
 | .ref n=>(match st[n]? with|some (.ins C' fs)=>C'=C/\fs.lookup m=none/\k|_=>False)
 |_=>False
@[irreducible] def zP(C:Addr)(m:Str):D->ag->Prop->Prop:=Ey C m
def l9{C:Addr}{m:Str}{n:Nat}{st:ag}{k:Prop}{fs:List (Str×D)}(e:st[n]?=some (.ins C fs))(h:fs.lookup m=none)(q:k):zP C m (.ref n) st k:=by
 unfold zP Ey;simp only[e];exact⟨trivial,h,q⟩
def kP(C:Addr)(m:Str)(S:c_)(to:DE)(t:DA):DE:=λ σ st K=>to σ st λ x st1=>zP C m x st1 (t σ st1 λ ds st2=>S (x::ds) st2 K)
def Dv(C:Addr)(S:c_)(t:DA):DE:=λ σ st K=>t σ st λ ds st1=>S (.ref st1.length::ds) (st1++[.ins C []]) λ r st2=>r= .aF/\K (.ref st1.length) st2
section
variable {X:Cx}{C f g:Addr}{fd:FuncData}{k:Nat}{x m fl:Str}{e o value:Expr}{es:List Expr}{p pos pos' apos:Pos}{te to:DE}{t:DA}{S:c_}{ps:List Str}
def O6(c:pS X.K C)(na:g4 X.K C fl)(he:PE X e (LE te))(hb:attributeBase e fl X.env (eval e X.env)=eval e X.env):PE X (.Attribute e fl pos) (LE (fi C fl te)):=PE.imp (NZ he hb) λ σ H Q ⟨α,σd,st,K,G,F,P,R,S,t,k⟩=>by
 refine⟨α,σd,st,_,G,F,P,R,S,t,λ d st1 q α1 G1 H1 v s1 P1 S1 r1=>?_⟩;unfold Dy GR at q;cases d<;>try exact q.elim
 simp only at q;split at q
 . rename_i C' fs e';obtain⟨rfl,w,hw,q⟩:=q;obtain⟨a,ea,dx,vs,h1,h2⟩:=S1.zW e';have r1':=eA ea r1;subst r1';obtain⟨u,hu,ru⟩:=h2.look hw;exact⟨a,_,dx,vs,u,rfl,P1.get h1,c,na,hu,(k.at s1).here P1 q S1 ru⟩
 . exact q.elim
def MP(c:pS X.K C)(na:g4 X.K C fl)(ho:PE X o (LE to))(hv:PE X value (LE te))(hs:swapsWith value (some (.Attribute o fl pos')) pos.line X.env=pure false):PS X (.Assign [.Attribute o fl pos'] value pos) (LS (qu C fl to te)):=PS.imp (Ny ho hv hs) λ D σ H ⟨α,σd,st,DD,G,F,P,R,S,t,k⟩=>by
 refine⟨α,σd,st,_,G,F,P,R,S,t,λ d st1 q α1 G1 H1 v s1 P1 S1 r1=>?_⟩;refine⟨α1,σd,st1,_,G1,F,P1,R.step s1,S1,q,λ x st2 q2 α2 G2 H2 v2 s2 P2 S2 r2=>?_⟩;unfold zD D3 at q2;cases x<;>try exact q2.elim
 simp only at q2;split at q2
 . rename_i C' fs e';obtain⟨rfl,hl,q2⟩:=q2;obtain⟨a,ea,dx,vs,h1,h2⟩:=S2.zW e';have r2':=eA ea r2;subst r2';have hm:some a∈α2:=Sb ea;have lv:vs.length<1000:=by rw[<-h2.length];exact hl
   refine⟨a,_,dx,vs,rfl,P2.get h1,c,na,lv,?_⟩;refine((k.nx.at s1).at s2) σd _ q2 α2 (upd G2 a (.ins _ dx (iz fl v vs))) _ σ (Step.write hm) (P2.write h1) (((R.step s1).step s2).step (Step.write hm)) ?_;exact S2.write ea ⟨dx,iz fl v vs,aW,(h2.put (r1.step s2)).step (Step.write hm)⟩
 . exact q2.elim
def LE.Pj{σ:L2.St}{H:Hp}{Q:VK}(h:LE (kP C m S to t) σ H Q):Js C m (dq S) [] E0 (LE to) (LA t) σ H Q:=by
 obtain⟨α,σd,st,K,G,F,P,R,Sr,tt,k⟩:=h;refine⟨α,σd,st,_,G,F,P,R,Sr,tt,λ d st1 q α1 G1 H1 v s1 P1 S1 r1=>?_⟩;unfold zP Ey at q;cases d<;>try exact q.elim
 simp only at q;split at q
 . rename_i n C' fs e';obtain⟨rfl,hl,q⟩:=q;obtain⟨a,ea,dx,vs,h1,h2⟩:=S1.zW e';have r1':=eA ea r1;subst r1';refine⟨a,dx,vs,rfl,P1.get h1,h2.none hl,?_⟩;refine⟨α1,σd,st1,_,G1,F,P1,R.step s1,S1,q,λ ds st2 q2 α2 G2 H2 us s2 P2 S2 r2=>?_⟩;try dsimp only
   rw[Tp];exact⟨α2,_,st2,K,G2,F,P2,by unfold aG;exact⟨_,_,rfl,r1.step s2,r2⟩,S2,q2,(k.at s1).at s2⟩
 . exact q.elim
def LE.make{σ:L2.St}{H:Hp}{Q:VK}(h:LE (Dv C S t) σ H Q):Jb C (dq S) [] E0 (LA t) σ H Q:=by
 obtain⟨α,σd,st,K,G,F,P,R,Sr,tt,k⟩:=h;refine⟨α,σd,st,_,G,F,P,R,Sr,tt,λ ds st1 q α1 G1 H1 us s1 P1 S1 r1=>?_⟩;intro x dx hx hdx hne;have hgd:=(P1.none hdx).1;have P2:=P1.laid (o:= .own x) hdx;have S2:=S1.laid (o:= .own x) hgd;have hx2:upd H1 dx (.own x) x=none:=by rw[aB (RO hne)];exact hx
 have hg2:=(P2.none hx2).1;have P3:=P2.laid (o:= .ins C dx []) hx2;have S3:=S2.cell (o:= .ins C dx []) (c:= .ins C []) hg2 ⟨dx,[],aW,.nil⟩;have s2:Step α1 G1 α1 (upd G1 dx (.own x)):=Step.laid hgd;have s3:Step α1 (upd G1 dx (.own x)) (α1++[some x]) (upd (upd G1 dx (.own x)) x (.ins C dx [])):=Step.cell hg2
 have rx:Rep (α1++[some x]) (upd (upd G1 dx (.own x)) x (.ins C dx [])) (.ref st1.length) (.ref x):=by
  unfold Rep;refine .inr ⟨x,?_,rfl⟩;rw[Sh (by rw[S1.len];exact Ry _),S1.len,TU];rfl
 rw[Tp];refine⟨α1++[some x],.ref st1.length::ds,st1++[.ins C []],_,_,F,P3,by unfold aG;exact⟨_,_,rfl,rx,(r1.step s2).step s3⟩,S3,q,λ d st2 q2 α' G' H' v s' P' S' r'=>?_⟩;obtain⟨rfl,q2⟩:=q2;unfold Rep at r';exact⟨r',(((k.at s1).at s2).at s3) _ st2 q2 α' G' H' _ s' P' S' (rx.step s')⟩
end
section
variable {X:Cx}{tg:Expr}
end
section
variable {X:Cx}
end
section
variable {X:Cx}{e o i value:Expr}{es:List Expr}{te to ti:DE}{t:DA}{pos pos' tpos apos p:Pos}{C f:Addr}{fl m x:Str}{S:c_}{k:Nat}{fd:FuncData}{ps:List Str}
def E5{value o:Expr}{fl:Str}{pos':Pos}{n:Nat}{env:Env}:swapsWith value (some (.Attribute o fl pos')) n env=pure false:=by cases value<;>rfl
def d8(c:pS X.K C)(na:g4 X.K C fl)(he:JE X e te)(hb:attributeBase e fl X.env (eval e X.env)=eval e X.env:=by rfl):JE X (.Attribute e fl pos) (fi C fl te):=by unfold JE at*;exact O6 c na he hb
def pk(c:pS X.K C)(na:g4 X.K C fl)(ho:JE X o to)(hv:JE X value te):JS X (.Assign [.Attribute o fl pos'] value pos) (qu C fl to te):=by unfold JS;unfold JE at*;exact MP c na ho hv E5
def nX{pl:Sem Bool}(he:JE X o to)(c:pS X.K C)(hm:Meth X.K C m f)(F:cm X.prog X.w X.K X.mg X.base di k f fd ps (dq S))(hr:du k X.A)(hb:Binds X.K fd ps [])(ha:JA X (e::es) t)
 (hs:notStar e=true:=by rfl) (hs2:ib es=true:=by rfl)
 (ht:eval (.Call (.Attribute o m apos) (e::es) [] pos) X.env=(do
   let ov <-eval o X.env
   standAt apos.atName
   let(f,first) <-holding [ov] (getMethod ov m pl)
   callWith pos f first (backTo pos (starEach (e::es) X.env)) (backToKw pos (keywordEach [] X.env))):=by rfl):
 JE X (.Call (.Attribute o m apos) (e::es) [] pos) (kP C m S to t):=by
 unfold JE at*;unfold JA at ha;exact PE.imp (Kw he c hm F hr hb .nil EC ha (cQ hs) (nD hs2) ht) λ _ _ _ h=>LE.Pj h
def Ni(M:Mk X.K C f)(F:cm X.prog X.w X.K X.mg X.base di k f fd ps (dq S))(hr:du (k+1) X.A)(hg:Gl X x)(hmg:X.mg x=some (.ref C))(hb:Binds X.K fd ps [])(ha:JA X (e::es) t)(hdb:(x==("__debug__":Str))=false)
 (hs:notStar e=true:=by rfl) (hs2:ib es=true:=by rfl):JE X (.Call (.Name x p) (e::es) [] pos) (Dv C S t):=by
 unfold JE;unfold JA at ha;exact PE.imp (Kc M F hr hg hmg hb .nil EC ha hdb (cQ hs) (nD hs2)) λ _ _ _ h=>LE.make h
end
end L3
namespace L3
open PySem PySem.Spec L2
open PyProof.Rows hiding St
def Jn(xs:Array Keyed)(i:Nat):Int:=match xs[i]? with
 |some p=>numOf p.2
 |none=>0
def p8{xs ys:Array Keyed}{i j:Nat}(h:xs[i]?=ys[j]?):Jn xs i=Jn ys j:=by unfold Jn;rw[h]
def oj{xs:Array Keyed}{i j:Nat}(hj:j<=xs.size)(k:Nat):
 K (mirror xs i j ((j-i)/2)) k=K xs (if i<=k/\k<j then i+j-1-k else k)/\Jn (mirror xs i j ((j-i)/2)) k=Jn xs (if i<=k/\k<j then i+j-1-k else k):=by
 have e:=getElem?_mirror_all (i:=i) hj k;split at e<;>rename_i h
 . rw[RF h];exact⟨K_congr e,p8 e⟩
 . rw[RE h];exact⟨K_congr e,p8 e⟩
def Gn{xs:Array Keyed}{src d:Nat}(hs:src<xs.size)(hd:d<=src)(k:Nat):
 K (bubble xs src d) k=K xs (if k=src-d then src else if src-d<k/\k<=src then k-1 else k)/\Jn (bubble xs src d) k=Jn xs (if k=src-d then src else if src-d<k/\k<=src then k-1 else k):=by
 have e:=getElem?_bubble hs d hd k;split at e<;>rename_i h
 . rw[RF h];exact⟨K_congr e,p8 e⟩
 . rw[RE h];split at e<;>rename_i h2
   . rw[RF h2];exact⟨K_congr e,p8 e⟩
   . rw[RE h2];exact⟨K_congr e,p8 e⟩
def nW(xs:Array Keyed)(i j:Nat):Prop:=K xs i<K xs j\/(K xs i=K xs j/\Jn xs i<Jn xs j)
def kL(xs:Array Keyed)(k:Nat):Prop:=∀i j,i<j->j<k->nW xs i j
def jZ(n:Nat)(xs:Array Keyed)(k:Nat):Prop:=∀i j,i<j->k<=j->j<n->Jn xs i<Jn xs j
def kL.to{xs:Array Keyed}{k:Nat}(h:kL xs k):SortedTo xs k:=λ i j hij hj=>by
 rcases Nat.lt_or_eq_of_le hij with e|e
 . rcases h i j e hj with q|q<;>omega
 . subst e;exact VU _
def kL.more{xs:Array Keyed}{n k m:Nat}(h:kL xs k)(t:jZ n xs k)(s:SortedTo xs m)(hm:m<=n):kL xs m:=λ i j hij hj=>by
 by_cases hk:j<k
 . exact h i j hij hk
 . have a:=s i j (Ta hij) hj;have b:=t i j hij (TZ hk) (RW hj hm);unfold nW;omega
def jZ.up{xs:Array Keyed}{n k m:Nat}(t:jZ n xs k)(h:k<=m):jZ n xs m:=λ i j a b c=>t i j a (RD h b) c
def jZ.mix{xs ys:Array Keyed}{n k:Nat}(t:jZ n xs k)(f:Nat->Nat)(hf:∀i,Jn ys i=Jn xs (f i))(h1:∀i,i<k->f i<k)(h2:∀i,k<=i->f i=i):jZ n ys k:=λ i j a b c=>by
 rw[hf,hf,h2 j b];refine t _ _ ?_ b c;by_cases hi:i<k
 . exact RW (h1 i hi) b
 . rw[h2 i (TZ hi)];exact a
section
variable {prog:Program}{w:World}{A:Around}{E:Value->Shared->Prop}{s:Shared}{a₀:Array Keyed}
def EH{st:SortSt}{ok:Nat}{Q:Bool->SortSt->Prop}(h0:IntKeys a₀)(h1:1<=ok)(aL:ok<=a₀.size)(hB:SBase a₀ st)(hs:kL (arrOf st) ok)(ht:jZ a₀.size (arrOf st) ok)
 (h:∀st',SBase a₀ st'->kL (arrOf st') a₀.size->Q true st'):wpS (model prog w) A E s (binarySort' 0 a₀.size ok) Q st:=by
 rw[binarySort'_eq];simp only[U_]
 refine S7 (wpS_mono (VJ (I:=λ k c q=>c=(none,())/\SBase a₀ q/\k<=a₀.size/\kL (arrOf q) k/\jZ a₀.size (arrOf q) k)
  (Q:=λ c q=>c=(none,())/\SBase a₀ q/\kL (arrOf q) a₀.size) ?st ?en ?be) ?po)
 case po=>rintro c q ⟨rfl,b1,b2⟩;exact TK (h q b1 b2)
 case be=>rw[show max ok 1=ok by omega];exact⟨rfl,hB,aL,hs,ht⟩
 case en=>
  rintro c q ⟨rfl,b1,b2,b3,_⟩;rw[show max (max ok 1) a₀.size=a₀.size by omega]at b3;exact⟨rfl,b1,b3⟩
 case st=>
  rintro k c q hk1 hk2 ⟨rfl,qB,_,qS,qT⟩
  refine S7 (wpS_mono (VJ (I:=λ x c q'=>q'=q/\∃l r,c=(none,l,r)/\l<=r/\r<=k/\r-l<=k-x/\(∀i,i<l->K (arrOf q) i<=K (arrOf q) k)/\(∀i,r<=i->i<k->K (arrOf q) k<K (arrOf q) i))
   (Q:=λ c q'=>q'=q/\∃l,c=(none,l,l)/\l<=k/\(∀i,i<l->K (arrOf q) i<=K (arrOf q) k)/\(∀i,l<=i->i<k->K (arrOf q) k<K (arrOf q) i)) ?a ?b ?c) ?d)
  case c=>exact⟨rfl,0,k,rfl,by omega,by omega,by omega,λ i hi=>by omega,λ i x y=>by omega⟩
  case b=>
   rintro c q' ⟨rfl,l,r,rfl,e1,e2,e3,e4,e5⟩;have:r=l:=by omega
   subst this;exact⟨rfl,r,rfl,e2,e4,e5⟩
  case a=>
   rintro x c q' _ hx ⟨rfl,l,r,rfl,e1,e2,e3,e4,e5⟩;dsimp only;by_cases hlr:l>=r
   . rw[RF hlr];have:r=l:=by omega
     subst this;exact TK ⟨rfl,r,rfl,e2,e4,e5⟩
   . rw[RE hlr];refine S7 (wpS_ltK qB h0 hk2 (by omega) ?_);have so:=qS.to;by_cases hl:K (arrOf q') k<K (arrOf q') ((l+r)/2)
     . simp only[hl,WD,Ul];exact TK ⟨rfl,l,(l+r)/2,rfl,by omega,by omega,by omega,e4,λ i x y=>Int.lt_of_lt_of_le hl (so _ _ x y)⟩
     . simp only[hl,Wl,Tf,Ub];refine TK ⟨rfl,(l+r)/2+1,r,rfl,by omega,by omega,by omega,λ i x=>?_,e5⟩;have:=so i ((l+r)/2) (by omega) (by omega);omega
  case d=>
   rintro c q' ⟨rfl,l,rfl,hlk,e4,e5⟩;show wpS _ _ _ _ (do moveDown' k l;pure (ForInStep.yield (none,()))) _ _;rw[moveDown'_eq];have hks:k<(arrOf q').size:=by rw[qB.size];exact hk2
   have bb:=Gn (xs:=arrOf q') hks (show k-l<=k by omega);rw[show k-(k-l)=l by omega]at bb;refine S7 (wpS_modify (TK ⟨rfl,qB.setArr (bubble_perm _ _ _),by omega,λ i j hij hj=>?_,jZ.mix (qT.up (Ut k)) _ (λ i=>(bb i).2) (λ i hi=>?_) (λ i hi=>?_)⟩))
   . show nW (bubble (arrOf q') k (k-l)) i j;unfold nW;rw[(bb i).1,(bb i).2,(bb j).1,(bb j).2];by_cases hil:i<l
     . rw[RE (show¬i=l by omega),RE (show¬(l<i/\i<=k) by omega)];by_cases hjl:j=l
       . rw[RF hjl];have x:=e4 i hil;have y:=qT i k (by omega) (Ry _) hk2;omega
       . rw[RE hjl];by_cases hj2:l<j/\j<=k
         . rw[RF hj2];exact qS i (j-1) (by omega) (by omega)
         . rw[RE hj2];exact qS i j hij (by omega)
     . by_cases hie:i=l
       . rw[RF hie,RE (show¬j=l by omega),RF (show l<j/\j<=k by omega)];exact .inl (e5 _ (by omega) (by omega))
       . rw[RE hie,RF (show l<i/\i<=k by omega),RE (show¬j=l by omega),RF (show l<j/\j<=k by omega)];exact qS _ _ (by omega) (by omega)
   . show(if i=l then k else if l<i/\i<=k then i-1 else i)<k+1;split
     . omega
     . split<;>omega
   . show(if i=l then k else if l<i/\i<=k then i-1 else i)=i;rw[RE (by omega),RE (by omega)]
def yU(xs:Array Keyed)(m q:Nat):Prop:=q+1<=m/\∀i j,i<j->j<m->(m<=i+(q+1)->K xs i=K xs j/\Jn xs i<Jn xs j)/\(i+(q+1)<m->(m<=j+(q+1)->K xs j<K xs i)/\nW xs j i)
def yU.all{xs:Array Keyed}{m q:Nat}(h:yU xs m q)(hm:m<=xs.size):(q=0\/0<q)/\∀i j,i<j->j<m->nW (mirror xs (m-(q+1)) m ((m-(m-(q+1)))/2)) j i:=by
 refine⟨by omega,λ i j hij hj=>?_⟩;have b:=oj (i:=m-(q+1)) (j:=m) hm;unfold nW;rw[(b i).1,(b i).2,(b j).1,(b j).2];by_cases hi:m-(q+1)<=i/\i<m
 . rw[RF hi,RF (show m-(q+1)<=j/\j<m by omega)];have:=(h.2 (m-(q+1)+m-1-j) (m-(q+1)+m-1-i) (by omega) (by omega)).1 (by omega);omega
 . rw[RE hi];by_cases hj2:m-(q+1)<=j/\j<m
   . rw[RF hj2];have:=((h.2 i (m-(q+1)+m-1-j) (by omega) (by omega)).2 (by omega)).1 (by omega);omega
   . rw[RE hj2];exact((h.2 i j hij hj).2 (by omega)).2
def yU.zero{xs:Array Keyed}{m:Nat}(h:yU xs m 0):∀i j,i<j->j<m->nW xs j i:=λ i j hij hj=>((h.2 i j hij hj).2 (by omega)).2
def oQ{n:Nat}{xs:Array Keyed}{i j k:Nat}(t:jZ n xs k)(hj:j<=xs.size)(hk:j<=k):jZ n (mirror xs i j ((j-i)/2)) k:=
 t.mix _ (λ a=>(oj hj a).2) (λ a ha=>by split<;>omega) λ a ha=>by rw[RE (by omega)]
def FD{st:SortSt}{n:Nat}{Q:DescSt->SortSt->Prop}(h0:IntKeys a₀)(hn:n<=a₀.size)(hB:SBase a₀ st)(hs:yU (arrOf st) n 0)(ht:jZ a₀.size (arrOf st) n)
 (h:∀m q st',SBase a₀ st'->n<=m->m<=a₀.size->yU (arrOf st') m q->jZ a₀.size (arrOf st') m->Q (none,m,q) st'):
 wpS (model prog w) A E s (descLoop n a₀.size) Q st:=by
 unfold descLoop;refine VJ (I:=λ x c st'=>∃q,c=(none,x,q)/\SBase a₀ st'/\yU (arrOf st') x q/\jZ a₀.size (arrOf st') x) ?st ?en ⟨0,rfl,hB,hs,ht⟩
 case en=>
  rintro c st' ⟨q,rfl,b1,b2,b3⟩;rw[show max n a₀.size=a₀.size by omega]at b2 b3⊢;exact h _ q st' b1 hn (Ry _) b2 b3
 case st=>
  rintro x c st' hx1 hx2 ⟨q,rfl,b1,b2,b3⟩;dsimp only;have hq:=b2.1;have hsz:x<=(arrOf st').size:=by rw[b1.size];omega
  refine S7 (wpS_ltK b1 h0 hx2 (by omega) ?_);by_cases hl:K (arrOf st') x<K (arrOf st') (x-1)
  . simp only[hl,WD,Ul];by_cases hq0:q>0
    . rw[RF hq0];have al:=(b2.all hsz).2;have km:=oj (i:=x-(q+1)) (j:=x) hsz;refine S7 (WE (TK ⟨0,rfl,b1.setArr (WG _ _ _ _),⟨by omega,λ i j hij hj=>⟨λ hh=>by omega,λ hh=>⟨λ hj2=>?_,?_⟩⟩⟩,(oQ b3 hsz (Ry _)).up (Ut x)⟩))
      . have hjx:j=x:=by omega
        subst hjx;show K (mirror (arrOf st') _ _ _) j<K (mirror (arrOf st') _ _ _) i;rw[(km i).1,(km j).1,RE (show¬(j-(q+1)<=j/\j<j) by omega)]
        have key:∀t,t<j->K (arrOf st') (j-1)<=K (arrOf st') t:=λ t ht=>by
         by_cases e:t=j-1
         . rw[e];exact VU _
         . have z:=b2.2 t (j-1) (by omega) (by omega);by_cases g:j<=t+(q+1)
           . have:=(z.1 g).1;omega
           . have:=(z.2 (by omega)).2;unfold nW at this;omega
        split
        . have:=key (j-(q+1)+j-1-i) (by omega);omega
        . have:=key i hij;omega
      . show nW (mirror (arrOf st') _ _ _) j i;by_cases hjx:j<x
        . exact al i j hij hjx
        . have hjx:j=x:=by omega
          subst hjx;refine .inl ?_;rw[(km i).1,(km j).1,RE (show¬(j-(q+1)<=j/\j<j) by omega)]
          have key:∀t,t<j->K (arrOf st') (j-1)<=K (arrOf st') t:=λ t ht=>by
           by_cases e:t=j-1
           . rw[e];exact VU _
           . have z:=b2.2 t (j-1) (by omega) (by omega);by_cases g:j<=t+(q+1)
             . have:=(z.1 g).1;omega
             . have:=(z.2 (by omega)).2;unfold nW at this;omega
          split
          . have:=key (j-(q+1)+j-1-i) (by omega);omega
          . have:=key i hij;omega
    . rw[RE hq0];have hq0:q=0:=by omega
      subst hq0;have z0:=b2.zero
      have lx:∀i,i<x->K (arrOf st') x<K (arrOf st') i:=λ i hi=>by
       by_cases e:i=x-1
       . rw[e];exact hl
       . have:=z0 i (x-1) (by omega) (by omega);unfold nW at this;omega
      refine TK ⟨0,rfl,b1,⟨by omega,λ i j hij hj=>⟨λ hh=>by omega,λ hh=>⟨λ hj2=>?_,?_⟩⟩⟩,b3.up (Ut x)⟩
      . have hjx:j=x:=by omega
        subst hjx;exact lx i hij
      . by_cases hjx:j<x
        . exact z0 i j hij hjx
        . have hjx:j=x:=by omega
          subst hjx;exact .inl (lx i hij)
  . simp only[hl,Wl,Tf,Ub];refine S7 (wpS_ltK b1 h0 (by omega) hx2 ?_);by_cases hg:K (arrOf st') (x-1)<K (arrOf st') x
    . simp only[hg,WD,Ul];exact TK (h x q st' b1 hx1 (by omega) b2 b3)
    . simp only[hg,Wl,Tf,Ub];have he:K (arrOf st') x=K (arrOf st') (x-1):=by omega
      refine TK ⟨q+1,rfl,b1,⟨by omega,λ i j hij hj=>⟨λ hh=>?_,λ hh=>⟨λ hj2=>?_,?_⟩⟩⟩,b3.up (Ut x)⟩
      . by_cases hjx:j<x
        . exact(b2.2 i j hij hjx).1 (by omega)
        . have hjx:j=x:=by omega
          subst hjx;refine⟨?_,b3 i j hij (Ry _) hx2⟩;rw[he];by_cases e:i=j-1
          . rw[e]
          . exact((b2.2 i (j-1) (by omega) (by omega)).1 (by omega)).1
      . by_cases hjx:j<x
        . exact((b2.2 i j hij hjx).2 (by omega)).1 (by omega)
        . have hjx:j=x:=by omega
          subst hjx;rw[he];exact((b2.2 i (j-1) (by omega) (by omega)).2 (by omega)).1 (by omega)
      . by_cases hjx:j<x
        . exact((b2.2 i j hij hjx).2 (by omega)).2
        . have hjx:j=x:=by omega
          subst hjx;refine .inl ?_;rw[he];exact((b2.2 i (j-1) (by omega) (by omega)).2 (by omega)).1 (by omega)
def yL{st:SortSt}{n:Nat}{Q:Option Nat->SortSt->Prop}(h0:IntKeys a₀)(h1:1<=n)(hn:n<=a₀.size)(hB:SBase a₀ st)(hs:∀i j,i<j->j<n->nW (arrOf st) j i)(ht:jZ a₀.size (arrOf st) n)
 (h:∀m st',SBase a₀ st'->1<=m->m<=a₀.size->kL (arrOf st') m->jZ a₀.size (arrOf st') m->Q (some m) st'):wpS (model prog w) A E s (tail3 n a₀.size) Q st:=by
 unfold tail3;have hsz:n<=(arrOf st).size:=by rw[hB.size];exact hn
 refine S7 (WE ?_);have km:=oj (xs:=arrOf st) (i:=0) (j:=n) hsz
 have s1:kL (mirror (arrOf st) 0 n ((n-0)/2)) n:=λ i j hij hj=>by
  unfold nW;rw[(km i).1,(km i).2,(km j).1,(km j).2,RF (by omega),RF (by omega)];exact hs _ _ (by omega) (by omega)
 have t1:=oQ (i:=0) ht hsz (Ry _);have hB':SBase a₀ (setArr st (mirror (arrOf st) 0 n ((n-0)/2))):=hB.setArr (WG _ _ _ _);refine S7 (wpS_ascLoop h0 (Ry _) h1 hn hB' s1.to λ m m1 m2 sm _=>TK (h m _ hB' (by omega) m2 (s1.more t1 sm m2) (t1.up m1)))
def zc{st:SortSt}{n:Nat}{Q:Option Nat->SortSt->Prop}(h0:IntKeys a₀)(hn:n+1<=a₀.size)(hB:SBase a₀ st)(hs:yU (arrOf st) (n+1) 0)(ht:jZ a₀.size (arrOf st) (n+1))
 (h:∀m st',SBase a₀ st'->1<=m->m<=a₀.size->kL (arrOf st') m->jZ a₀.size (arrOf st') m->Q (some m) st'):wpS (model prog w) A E s (descPart n a₀.size) Q st:=by
 unfold descPart;refine S7 (wpS_lift (Vd ⟨rfl,?_⟩));refine S7 (FD h0 hn hB hs ht λ m q st' b1 b2 b3 b4 b5=>?_);dsimp only;have hsz:m<=(arrOf st').size:=by rw[b1.size];exact b3
 by_cases hq:q>0
 . rw[RF hq];exact S7 (WE (yL h0 (by omega) b3 (b1.setArr (WG _ _ _ _)) (b4.all hsz).2 (oQ b5 hsz (Ry _)) h))
 . rw[RE hq];have:q=0:=by omega
   subst this;exact yL h0 (by omega) b3 b1 b4.zero b5 h
def EK{st:SortSt}{Q:Option Nat->SortSt->Prop}(h0:IntKeys a₀)(h1:1<=a₀.size)(hB:SBase a₀ st)(ht:jZ a₀.size (arrOf st) 1)
 (h:∀m st',SBase a₀ st'->1<=m->m<=a₀.size->kL (arrOf st') m->jZ a₀.size (arrOf st') m->Q (some m) st'):wpS (model prog w) A E s (countRun' 0 a₀.size) Q st:=by
 rw[countRun0_eq];have s1:kL (arrOf st) 1:=λ i j hij hj=>by omega
 refine S7 (wpS_ascLoop h0 (Ry _) (Ry 1) h1 hB s1.to λ n n1 n2 sn hor=>?_);dsimp only;have s2:=s1.more ht sn n2;by_cases hn:n=a₀.size
 . rw[RF (by simpa using hn)];exact TK (h n st hB n1 n2 s2 (ht.up n1))
 . rw[RE (by simpa using hn)];have hl:=hor.resolve_left hn;by_cases hg:n>1
   . rw[RF hg];refine S7 (wpS_ltK hB h0 (by omega) (by omega) ?_);by_cases hr:K (arrOf st) 0<K (arrOf st) (n-1)
     . simp only[hr,WD,Ul];exact TK (h n st hB n1 n2 s2 (ht.up n1))
     . simp only[hr,Wl,Tf,Ub];have hsz:n<=(arrOf st).size:=by rw[hB.size];exact n2
       have eqs:∀k,k<n->K (arrOf st) k=K (arrOf st) (n-1):=λ k hk=>by
        have x:=sn 0 k (by omega) hk;have y:=sn k (n-1) (by omega) (by omega);omega
       have km:=oj (xs:=arrOf st) (i:=0) (j:=n) hsz;refine S7 (WE (zc h0 (by omega) (hB.setArr (WG _ _ _ _)) ⟨by omega,λ i j hij hj=>⟨λ hh=>by omega,λ hh=>⟨λ hj2=>?_,?_⟩⟩⟩ (oQ (ht.up (by omega)) hsz (by omega)) h))
       . have hjn:j=n:=by omega
         subst hjn;show K (mirror (arrOf st) _ _ _) j<K (mirror (arrOf st) _ _ _) i;rw[(km i).1,(km j).1,RE (show¬(0<=j/\j<j) by omega),RF (by omega),eqs (0+j-1-i) (by omega)];exact hl
       . show nW (mirror (arrOf st) _ _ _) j i;unfold nW;rw[(km i).1,(km i).2,(km j).1,(km j).2,RF (show 0<=i/\i<n by omega)];by_cases hjn:j<n
         . rw[RF (by omega)];refine .inr ⟨(eqs _ (by omega)).trans (eqs _ (by omega)).symm,ht _ _ (by omega) (by omega) (by omega)⟩
         . have hjn:j=n:=by omega
           subst hjn;rw[RE (by omega),eqs (0+j-1-i) (by omega)];exact .inl hl
   . rw[RE hg];have hn1:n=1:=by omega
     subst hn1;refine zc h0 (by omega) hB ⟨by omega,λ i j hij hj=>⟨λ hh=>by omega,λ hh=>?_⟩⟩ (ht.up (by omega)) h;have hi0:i=0:=by omega
     have hj1:j=1:=by omega
     subst hi0;subst hj1;exact⟨λ _=>hl,.inl hl⟩
def Fj{st:SortSt}{Q:Unit->SortSt->Prop}(h0:IntKeys a₀)(hB:SBase a₀ st)(ht:jZ a₀.size (arrOf st) 1)(h2:2<=a₀.size)(h64:a₀.size<64)
 (h:∀st',(arrOf st').Perm a₀->failedOf st'=none->kL (arrOf st') a₀.size->Q () st'):wpS (model prog w) A E s sortRuns' Q st:=by
 rw[sortRuns'_eq];refine S7 (wpS_get ?_);dsimp only
 have hmr:minRun' a₀.size a₀.size 0=a₀.size:=by
  cases e:a₀.size with
  |zero=>rw[e]at h2;omega
  |succ f=>rw[minRun'_succ,RF (by omega)]
 simp only[hB.size,hmr]
 have dn:∀ {q:SortSt},SBase a₀ q->kL (arrOf q) a₀.size->∃p,p=setPending q ((pendingOf q).push (0,a₀.size,0))/\(arrOf p).Perm a₀/\failedOf p=none/\pendingOf p= #[(0,a₀.size,0)]/\kL (arrOf p) a₀.size:=λ{q} b s=>
  ⟨_,rfl,b.perm,b.failed,by show(pendingOf q).push _=_;rw[b.pend];rfl,s⟩
 refine S7 (wpS_mono (VJ
  (I:=λ x c q=>(x=0/\c=(none,0)/\q=st)\/(1<=x/\c=(none,a₀.size)/\(arrOf q).Perm a₀/\failedOf q=none/\pendingOf q= #[(0,a₀.size,0)]/\kL (arrOf q) a₀.size))
  (Q:=λ c q=>c=(none,a₀.size)/\(arrOf q).Perm a₀/\failedOf q=none/\pendingOf q= #[(0,a₀.size,0)]/\kL (arrOf q) a₀.size) ?st ?en (.inl ⟨rfl,rfl,rfl⟩)) ?po)
 case en=>
  rintro c q (⟨hx,_,_⟩|⟨_,hc,hD⟩)
  . omega
  . exact⟨hc,hD⟩
 case st=>
  rintro x c q _ hx (⟨rfl,rfl,rfl⟩|⟨_,rfl,hD⟩)
  . dsimp only;rw[RE (by omega)];simp only[Nat.sub_zero,Wj,U_];refine S7 (EK h0 (by omega) hB ht λ m q2 b1 b2 b3 b4 b5=>?_);dsimp only;by_cases hm:m<a₀.size
    . rw[RF hm];refine S7 (wpS_lift (Vd ⟨rfl,?_⟩));refine S7 (EH h0 b2 b3 b1 b4 b5 λ q3 d1 d2=>?_);simp only[Bool.not_true,Tf,Ub];refine S7 (wpS_get ?_);have hb:(pendingOf q3).back?=none:=by rw[d1.pend];rfl
      rw[hb];dsimp only;obtain⟨p,rfl,z⟩:=dn d1 d2;exact S7 (wpS_modify (TK (.inr ⟨by omega,rfl,z⟩)))
    . rw[RE hm];have hm:m=a₀.size:=by omega
      subst hm;refine S7 (wpS_get ?_);have hb:(pendingOf q2).back?=none:=by rw[b1.pend];rfl
      rw[hb];dsimp only;obtain⟨p,rfl,z⟩:=dn b1 b4;exact S7 (wpS_modify (TK (.inr ⟨by omega,rfl,z⟩)))
  . dsimp only;rw[RF (Ry _)];exact TK ⟨rfl,hD⟩
 case po=>
  rintro c q ⟨rfl,d1,d2,d3,d4⟩;dsimp only;refine S7 (wpS_mono (VJ (I:=λ _ c q'=>q'=q/\c=(none,())) (Q:=λ c q'=>q'=q/\c=(none,())) ?_ (λ _ _ z=>z) ⟨rfl,rfl⟩) ?_)
  . rintro x c q' _ _ ⟨rfl,rfl⟩;refine S7 (wpS_get ?_);rw[RF (by rw[d3];exact Ry 1)];exact TK ⟨rfl,rfl⟩
  . rintro c q' ⟨rfl,rfl⟩;exact TK (h _ d1 d2 d4)
end
end L3
namespace L2
open PySem PySem.Spec PyProof.Rows
structure Entry(K:PySem.W.Frag)(ts:List (Addr×Addr))(a:Addr)(ns:List Int)(H:Hp):Prop where
 lst:oh K H a (ns.map V.int)
 tab:∀q∈ts,H q.2=some (.l6 #[])/\q.2≠a
def yI:∀ {vs:List Value} {ns:List Int},IntsAre vs ns->Vals (ns.map V.int) vs
 |_,_,.nil=> .nil
 |_,_,.cons n t h=> .cons ⟨t,rfl⟩ (yI h)
structure ME(K:PySem.W.Frag)(ts:List (Addr×Addr))(h:Heap):Prop where
 hd:∀q∈ts,PySem.W.codeHdIn K q.1 q.2=true
 no:∀q∈ts,K.lookup q.2=none
 at':∀q∈ts,h.get? q.2=some (PySem.W.tabObj #[])
def FG{P:Program}{w:World}{K:PySem.W.Frag}{mg mb:Str->Option Value}{k:Nat}{fa a:Addr}{fd:FuncData}{x:Str}{sp:Sp}{s₁:Shared}{vs:List Value}{ns:List Int}{ts:List (Addr×Addr)}
 (KX:K.In s₁.heap) (hns:s₁.heap.Ns mainGlobals mg) (hb:s₁.heap.Ns builtinsNs mb) (hbb:∀x:Str,x≠"__name__"->mb x=bootBuiltins x) (hlim:s₁.heap.NoLimit) (hse:s₁.heap.NoSeer) (hgt:P.given.tree=none)
 (hbm:∃bm ob,mg "__builtins__"=some (.ref bm)/\bm≠builtinsNs/\s₁.heap.get? bm=some ob/\ob.cls= .type "module"/\ob.dict=some builtinsNs/\ob.data= .plain) (hT:ME K ts s₁.heap) (hg:s₁.gens= #[])
 (ha:s₁.heap.get? a=some {cls:= .type "list",data:= .seq vs.toArray}) (hi:IntsAre vs ns) (hl:ns.length<=sizeLine) (hr:du k callerA)
 (F:∀base:Heap,K.In base->base.Ns mainGlobals mg->cm P w K mg base (λ _ _ _ _ _ _=>False) k fa fd [x] sp) (hbind:∀(s:Shared) (u:Value),BindsTo s fd ⟨[u],[]⟩ [(x,u)])
 (hsp:∀H:Hp,Entry K ts a ns H->sp [.ref a] H (λ v _=>v= .bl true) λ _ _ _=>False):
 codeAny (model P w) callerA (.call (.ref fa) ⟨[.ref a],[]⟩) (λ r s'=>r= .ok (.ret (.bool true))/\OldK s₁.heap s'.heap/\s'.os=s₁.os/\AllBare s'.gens) s₁:=by
 have rv:=yI hi;have lenV:=hi.length
 have nta:∀q∈ts,q.2≠a:=λ q hq z=>by
  have:=hT.at' q hq;rw[z,ha]at this;cases this
 let sc:Option HO:=match K.lookup a with
  |some _=>none
  |none=>some (.fz {cls:= .type "list",data:= .seq vs.toArray} (.lst (ns.map V.int)))
 let H:Hp:=λ b=>if b=a then sc else if b∈ts.map (·.2)then some (.l6 #[])else none
 have Ha:H a=sc:=RF rfl
 have Ht:∀q∈ts,H q.2=some (.l6 #[]):=λ q hq=>by
  show(if q.2=a then sc else if q.2∈ts.map (·.2)then some (HO.l6 #[])else none)=_;rw[RE (nta q hq),RF (VQ hq)]
 have Hs:∀b u,H b=some u->(b=a/\K.lookup a=none/\u= .fz {cls:= .type "list",data:= .seq vs.toArray} (.lst (ns.map V.int)))\/(∃q∈ts,q.2=b/\u= .l6 #[]):=λ b u e=>by
  have e':(if b=a then sc else if b∈ts.map (·.2)then some (HO.l6 #[])else none)=some u:=e;by_cases hba:b=a
  . rw[RF hba]at e'
    have e2:(match K.lookup a with
     |some _=>none
     |none=>some (HO.fz {cls:= .type "list",data:= .seq vs.toArray} (.lst (ns.map V.int))))=some u:=e'
    cases q:K.lookup a with
    |some o=>rw[q]at e2;cases e2
    |none=>rw[q]at e2;cases e2;exact .inl ⟨hba,rfl,rfl⟩
  . rw[RE hba]at e';by_cases hbt:b∈ts.map (·.2)
    . rw[RF hbt]at e';cases e';obtain⟨q,hq,e⟩:=RZ.mp hbt;exact .inr ⟨q,hq,e,rfl⟩
    . rw[RE hbt]at e';cases e'
 have aL:jd P w H s₁.heap:=λ b u e=>by
  rcases Hs b u e with⟨rfl,_,rfl⟩|⟨q,hq,rfl,rfl⟩
  . exact⟨ha,by rw[Rw];exact hl,vs,_,rv,ha⟩
  . exact hT.at' q hq
 have hE:Entry K ts a ns H:=by
  refine⟨?_,λ q hq=>⟨Ht q hq,nta q hq⟩⟩;cases q:K.lookup a with
  |some o=>
   have e:=KX a o q;rw[ha]at e;cases e;exact .inr ⟨_,vs.toArray,_,q,rfl,rfl,rfl,by rw[RI,lenV];exact hl,by simpa using rv⟩
  |none=>
   refine .inl (.inr ⟨{cls:= .type "list",data:= .seq vs.toArray},?_⟩);rw[Ha]
   show(match K.lookup a with
    |some _=>none
    |none=>some (HO.fz {cls:= .type "list",data:= .seq vs.toArray} (.lst (ns.map V.int))))=_
   rw[q]
 have dictNo:∀ {b:Addr} {o:Obj},s₁.heap.get? b=some o->(∀es ep,o.data≠ .seq es ep)->o.cls≠ .none->H b=none:=λ{b o} e d1 d2=>by
  cases q:H b with
  |none=>rfl
  |some u=>
   rcases Hs b u q with⟨rfl,_,_⟩|⟨t,ht,rfl,_⟩
   . rw[ha]at e;cases e;exact absurd rfl (d1 _ _)
   . rw[hT.at' t ht]at e;cases e;exact absurd rfl d2
 have nsK:∀ {b:Addr} {m:Str->Option Value},s₁.heap.Ns b m->(qK s₁.heap H).Ns b m:=λ{b m} ⟨o,es,ep,e,d,r⟩=>by
  refine⟨o,es,ep,si e ?_,d,r⟩;cases q:H b with
  |none=>rfl
  |some u=>
   rcases Hs b u q with⟨rfl,_,_⟩|⟨t,ht,rfl,_⟩
   . rw[ha]at e;cases e;cases d
   . rw[hT.at' t ht]at e;cases e;cases d
 have hKb:K.In (qK s₁.heap H):=λ b o e=>si (KX b o e) (by
  cases q:H b with
  |none=>rfl
  |some u=>
   rcases Hs b u q with⟨rfl,z,_⟩|⟨t,ht,rfl,_⟩
   . rw[z]at e;cases e
   . rw[hT.no t ht]at e;cases e)
 obtain⟨bm,ob,b1,b2,b3,b4,b5,b6⟩:=hbm;have hbmK:(qK s₁.heap H).get? bm=some ob:=si b3 (dictNo b3 (λ es ep z=>by rw[b6]at z;cases z) (λ z=>by rw[b4]at z;cases z))
 have seK:(qK s₁.heap H).NoSeer:=by
  obtain⟨⟨m1,a1,a2⟩,⟨m2,c1,c2⟩,⟨m3,d1,d2⟩,⟨mg',bm',ob',e1,e2,e3,e4,e5⟩⟩:=hse;refine⟨⟨m1,nsK a1,a2⟩,⟨m2,nsK c1,c2⟩,⟨m3,nsK d1,d2⟩,⟨mg',bm',ob',nsK e1,e2,si e3 ?_,e4,e5⟩⟩;cases q:H bm' with
  |none=>rfl
  |some u=>
   rcases Hs bm' u q with⟨rfl,_,_⟩|⟨t,ht,rfl,_⟩
   . rw[ha]at e3;cases e3;exact absurd (show Value.type "list"=Value.type "module" from e4) (by intro z;injection z with z;exact absurd z (by decide))
   . rw[hT.at' t ht]at e3;cases e3;cases e4
 have hM:Mod K mg (qK s₁.heap H):=⟨hKb,nsK hns,⟨mb,nsK hb,hbb⟩,let⟨mc,h1,h2⟩:=hlim;⟨mc,nsK h1,h2⟩,seK,⟨bm,ob,b1,b2,hbmK,b4,b5,b6⟩⟩
 have e0:vE P w K mg (qK s₁.heap H) callerA [] s₁ H:=⟨rfl,hM,λ b o e=>Kt e,VD (Ge _ _),trivial,λ b hb=>absurd (show b∈([]:List Addr)from hb) (by simp),aL,.of_eq hg,hgt⟩
 refine Wc ((F _ hKb (nsK hns)).run callerA [] s₁ H ⟨[.ref a],[]⟩ [.ref a] [.ref a] _ _ hr e0 (hbind s₁ (.ref a)) (.cons rfl .nil) (hsp H hE)) λ r s' h=>?_;cases r with
 |error e=>exact False.elim h
 |ok fl=>
  cases fl with
  |next=>exact False.elim h
  |brk=>exact False.elim h
  |cont=>exact False.elim h
  |ret u=>
   obtain⟨v,H',os,bare,un,hok',r',q⟩:=h;have q':v= .bl true:=q;subst q';obtain rfl:u=Value.bool true:=r';have noF:∀b:Addr,b∉rD ([]:List Env):=λ b z=>absurd (show b∈([]:List Addr)from z) (by simp);refine⟨rfl,⟨λ b o e=>?_,λ b o e=>un.there b o e (by simp)⟩,os,bare⟩;cases q:H b with
   |none=>exact .inl (un.keep b o e q (noF b) (by simp))
   |some u=>
    rcases Hs b u q with⟨rfl,_,rfl⟩|⟨t,ht,rfl,rfl⟩
    . obtain⟨e2,_⟩:=hok' b _ (un.pN b _ _ q);rw[ha]at e;cases e;exact .inl e2
    . obtain⟨more,e1⟩:=un.pP _ _ q;have e2:s'.heap.get? t.2=some {cls:= .none,data:= .fields (#[]++more)}:=hok' _ _ e1;have e3:=hT.at' t ht;rw[e3]at e;cases e;have C:PySem.W.CodeHd s₁.heap t.1 t.2:=PySem.W.codeHd_of_K KX (hT.hd t ht);exact .inr (.inl ⟨(C.tab e3).isCodeTable,rfl,#[],more,rfl,e2⟩)
def O_{l:PySem.W.OpenLaw}{n k:Nat}{q:Program}{loose:List Str}{XP:(Str->Option Value)->Heap->Prop}{YP:World->Heap->Prop}{d:DefRec}{K:Params->PySem.W.Frag}{sp:World->Sp}{x:Str}{ts:List (Addr×Addr)}
 (hn:l.most=some n) (hn2:n<=sizeLine) (hdf:d.params.defaults=[]) (hr:du k callerA) (hq:importsNone q=true) (hgt:l.prog.given.tree=none)
 (hY:∀(w:World) (h:Heap),YP w h->(K w.params).In h/\ME (K w.params) ts h)
 (F:∀(w:World) (mg:Str->Option Value) (fa:Addr) (h:Heap),(K w.params).In h->h.Ns mainGlobals mg->mg d.name=some (.ref fa)->
   ∃fd:FuncData,(∀(s:Shared) (u:Value),BindsTo s fd ⟨[u],[]⟩ [(x,u)])/\
    ∀base:Heap,(K w.params).In base->base.Ns mainGlobals mg->cm l.prog w (K w.params) mg base (λ _ _ _ _ _ _=>False) k fa fd [x] (sp w))
 (hsp:∀(w:World) (H:Hp) (a:Addr) (ns:List Int),ns.length<=n->Entry (K w.params) ts a ns H->sp w [.ref a] H (λ v _=>v= .bl true) λ _ _ _=>False):
 PySem.W.WalkO q loose XP YP l.row.toRowW d [] (λ f vs=>PySem.call f vs):=by
 refine Att.BU hn hdf λ w s₀ s₁ mg mb fa o pm cd doc a vs ns G Y ho hd hcd hmg hobj hints hlen hg=>?_;obtain⟨KX,hT⟩:=hY w _ Y;obtain⟨fd,hb,hF⟩:=F w mg fa _ KX G.T.g hmg;exact FG KX G.T.g G.T.b G.T.builtins G.T.nolimit (G.T.seer hq) hgt G.T.bmain hT hg hobj hints (RD hlen hn2) hr hF hb λ H hE=>hsp w H a ns hlen hE
end L2
namespace L3
open PySem PySem.Spec L2
open PyProof.Rows hiding St
section
variable {X:Cx}{pins:List (Addr×Obj)}{σ:L2.St}{H:Hp}{s:Shared}{p:Addr}{o o':Obj}{h':Heap}
def nk{t':Nat}(I:Inv X pins σ H s)(hd:∀v,o.data≠ .cell v)(hfr:o.isFreed=false:=by rfl):Inv X (pins++[(s.heap.objs.size,o)]) σ H {s with heap:=s.heap.push o,toks:=t'}:=by
 have I':=I.kept (h':=s.heap.push o) (t':=t') (λ b u e=>RG _ e);refine I'.uP λ q hq=>?_;rcases RX.mp hq with hq|hq
 . exact I'.pin q (RL _ hq)
 . have e:q=(s.heap.objs.size,o):=by simpa using hq
   subst e;exact⟨Sa _ hfr,I.aL.fresh (Ry _),Uv I.lt,I.NR (Ry _),hd⟩
def gH(I:Inv X (pins++[(p,o)]) σ H s):s.heap.get? p=some o/\H p=none/\p≠X.env.locals/\p∉X.fs/\∀v,o.data≠ .cell v:=
 I.pin (p,o) (RL _ (RL _ (Sm.mpr rfl)))
def Bp(I:Inv X (pins++[(p,o)]) σ H s):∀x c,X.env.cells.lookup x=some c->c≠p:=λ x c e z=>by
 obtain⟨v,u,hu,hd⟩:=I.cell x c e;obtain⟨h1,_,_,_,h5⟩:=gH I;rw[z,h1]at hu;cases hu;exact h5 v hd
def pW{t':Nat}(I:Inv X (pins++[(p,o)]) σ H s)(hs:Heap.SameBut p s.heap h')(hn:h'.get? p=some o')(hd:∀v,o'.data≠ .cell v)(h0:X.s₀.heap.objs.size<=p)(hp:∀q∈X.pn++pins,q.1≠p):
 Inv X (pins++[(p,o')]) σ H {s with heap:=h',toks:=t'}:=by
 obtain⟨_,n,neL,nfs,_⟩:=gH I;have I0:Inv X pins σ H s:=I.iZ;have I1:=I0.turned (t':=t') (h':=h') (it:=p) (λ b u hb e=>(hs.2 b hb).trans e) n neL (.inr h0) (Bp I) hp;refine I1.uP λ q hq=>?_;rcases RX.mp hq with hq|hq
 . exact I1.pin q (RL _ hq)
 . have e:q=(p,o'):=by simpa using hq
   subst e;exact⟨hn,n,neL,nfs,hd⟩
def Fz{u:HO}(I:Inv X (pins++[(p,o)]) σ H s)(h0:X.s₀.heap.objs.size<=p)(hp:∀q∈X.pn++pins,q.1≠p)(new:eN X.prog X.w (upd H p u) s.heap p u):Inv X pins σ (upd H p u) s:=by
 obtain⟨e0,n,neL,nfs,_⟩:=gH I;have ne:∀ {b:Addr} {w:HO},H b=some w->b≠p:=λ e=>eL e n;have ne0:∀ {b:Addr} {w:Obj},X.s₀.heap.get? b=some w->b≠p:=λ e=>Sj (RW (RT e) h0);refine⟨I.ok,I.os,I.bare,⟨I.base.keep,I.base.slot,λ b w e q hx=>?_,I.base.there,λ b xs e=>?_,λ b w y e=>?_,λ b ps e=>?_⟩,I.loc,I.cell,?_,λ x c e=>?_,λ q hq=>?_,λ b w e=>?_,I.len⟩
 . rw[aB (ne0 e)];exact I.base.free b w e q hx
 . have:=I.base.qL b xs e;rw[aB (ne this)];exact this
 . have:=I.base.pN b w y e;rw[aB (ne this)];exact this
 . obtain⟨m,q⟩:=I.base.pP b ps e;exact⟨m,by rw[aB (ne q)];exact q⟩
 . rw[aB (RO neL)];exact I.free
 . rw[aB (Bp I x c e)];exact I.jC x c e
 . have hq':q∈X.pn++(pins++[(p,o)]):=by
    rcases RX.mp hq with z|z
    . exact R_ _ z
    . exact RL _ (R_ _ z)
   obtain⟨a1,a2,a3⟩:=I.pin q hq';exact⟨a1,by rw[aB (hp q hq)];exact a2,a3⟩
 . by_cases hb:b=p
   . subst hb;rw[aW]at e;cases e;exact new
   . rw[aB hb]at e;exact(I.aL b w e).qO (λ _ _ _ q=>q) (λ c q=>by rw[aB (ne q)];exact q) λ c xs q=>by rw[aB (ne q)];exact q
end
def oJ(X:Cx)(pins:List (Addr×Obj))(σ:L2.St)(R:Hp->Prop)(own:List (Addr×Obj))(s:Shared):Prop:=∃H,Inv X (pins++own) σ H s/\R H
section
variable {X:Cx}{pins:List (Addr×Obj)}{σ:L2.St}{R:Hp->Prop}{s:Shared}{A:Around}{E:Value->Shared->Prop}{a kS:Addr}{e1 e:Nat}{keys:Array Value}{P:PySem.Fin->Shared->Prop}
structure Own(X:Cx)(pins:List (Addr×Obj))(p:Addr):Prop where
 ge:X.s₀.heap.objs.size<=p
 ne:∀q∈X.pn++pins,q.1≠p
def uU{H:Hp}(I:Inv X pins σ H s):Own X pins s.heap.objs.size:=⟨I.sz,λ q hq=>Sj (RT (I.pin q hq).1)⟩
def Ag{p:Addr}{q:Addr×Obj}(h:Own X pins p)(hq:q.1≠p):Own X (pins++[q]) p:=⟨h.ge,λ r hr=>by
 rcases RX.mp hr with z|z
 . exact h.ne r (R_ _ z)
 . rcases RX.mp z with z|z
   . exact h.ne r (RL _ z)
   . have e:r=q:=by simpa using z
     rw[e];exact hq⟩
def BI{x y:Addr×Obj}(J:oJ X pins σ R [x,y] s):∃H,Inv X ((pins++[x])++[y]) σ H s/\R H:=by
 obtain⟨H,I,r⟩:=J;exact⟨H,by rw[Tw];exact I,r⟩
def Gz{x y:Addr×Obj}{H:Hp}(I:Inv X ((pins++[x])++[y]) σ H s)(r:R H):oJ X pins σ R [x,y] s:=⟨H,by rw[Tw]at I;exact I,r⟩
def Bq{st:SortSt}(J:oJ X pins σ R [(a,seqObj "list" #[] e1),(kS,seqObj "list" keys e)] s)(ha:Own X pins a)(hk:Own X pins kS)(hka:kS≠a)(hz1:keys.size<=sizeLine)(hz2:(arrOf st).size<=sizeLine)(hf:failedOf st=none)
 (h:∀s' c,oJ X pins σ R [(a,seqObj "list" ((arrOf st).map (·.2)) c)] s'->P (.done (.ret .none)) s'):
 wpAny (model X.prog X.w) A (PyProof.Rows.ksk_tail a false e1 (.ref kS) st) P E s:=by
 obtain⟨H,I,r⟩:=BI J;have k1:=(gH I).1;have s1:=TR s.heap kS (Obj.mapSeq λ _=>(#[]:Array Value));have I1:=pW (t':=s.toks) I s1 (UZ k1 λ _=> #[]) (λ v z=>by cases z) hk.ge (Ag hk hka.symm).ne;have I2:Inv X (pins++[(a,seqObj "list" #[] e1)]) σ H {s with heap:=s.heap.update kS (Obj.mapSeq λ _=>(#[]:Array Value)),toks:=s.toks}:=I1.iZ;have a1:=(gH I2).1;have s2:=TR (s.heap.update kS (Obj.mapSeq λ _=>(#[]:Array Value))) a (Obj.mapSeq λ _=>(arrOf st).map (·.2));have I3:=pW (t':=s.toks) I2 s2 (UZ a1 λ _=>(arrOf st).map (·.2)) (λ v z=>by cases z) ha.ge ha.ne;unfold ksk_tail;simp only[Tf,Ub];refine Rz (V4 k1 rfl ?_ hz1 (Sg _));refine Rz (WC ?_);refine Rz (seqEpoch_at a1 rfl ?_);refine Rz (V4 a1 rfl ?_ (Sg _) (Nat.le_succ_of_le (by rw[Array.size_map];exact hz2)));rw[hf];simp only[bne_self_eq_false,Tf,Ub];exact RP (h _ _ ⟨H,I3,r⟩)
def EE(kz:List Int)(vs out:List Value):Prop:=
 ∃ps:List (Int×Value),ps.Perm (kz.zip vs)/\out=ps.map Prod.snd/\ps.Pairwise λ p q=>p.1<q.1\/(p.1=q.1/\numOf p.2<numOf q.2)
def C9{kz:List Int}{vs:List Value}(hk:IntsAre keys.toList kz){xs:Array Keyed}(hp:xs.Perm (keys.zip vs.toArray))(hs:kL xs xs.size):EE kz vs (xs.map (·.2)).toList:=by
 have hl:xs.toList.Perm (keys.toList.zip vs):=by rw[<-ksk_zip];exact Array.perm_iff_toList_perm.mp hp
 refine⟨xs.toList.map λ p=>(numOf p.1,p.2),?_,?_,?_⟩
 . have e2:(keys.toList.zip vs).map (λ p:Keyed=>(numOf p.1,p.2))=kz.zip vs:=by
    rw[<-hk.nums,List.zip_map_left];exact Tz λ⟨x,y⟩ _=>rfl
   rw[<-e2];exact hl.map _
 . rw[Array.toList_map,Se];rfl
 . rw[Wa];intro i j hi hj hij;have hi':i<xs.size:=by simpa using hi
   have hj':j<xs.size:=by simpa using hj
   have q:=hs i j hij hj';unfold nW Jn at q;rw[K_eq hi',K_eq hj',getElem?_pos xs i hi',getElem?_pos xs j hj']at q;simpa using q
def J3{kz:List Int}{vs:List Value}(J:oJ X pins σ R [(a,seqObj "list" #[] e1),(kS,seqObj "list" keys e)] s)(ha:Own X pins a)(hk:Own X pins kS)(hka:kS≠a)(hi:IntsAre keys.toList kz)(hl:kz.length=vs.length)(h64:vs.length<64)
 (hup:vs.Pairwise λ x y=>numOf x<numOf y)
 (h:∀s' out c,oJ X pins σ R [(a,seqObj "list" out c)] s'->EE kz vs out.toList->P (.done (.ret .none)) s'):
 wpAny (model X.prog X.w) A (ksk_end a false vs.toArray e1 (.ref kS) keys) P E s:=by
 have hsz:keys.size=vs.length:=by have:=hi.length;rw[Ti]at this;omega
 have hzs:(keys.zip vs.toArray).size=vs.length:=by rw[Array.size_zip,hsz,RI,Wj]
 have hbig:vs.length<=sizeLine:=RD (Ta h64) (by decide)
 have hta:jZ (keys.zip vs.toArray).size (keys.zip vs.toArray) 1:=λ i j hij _ hj=>by
  rw[hzs]at hj
  have e1:(keys.zip vs.toArray)[i]?=some (keys.toList[i]'(by rw[Ti];omega),vs[i]'(by omega)):=by
   rw[<-Vx,ksk_zip,RJ (by rw[Wv,Ti];omega),List.getElem_zip]
  have e2:(keys.zip vs.toArray)[j]?=some (keys.toList[j]'(by rw[Ti];omega),vs[j]'(by omega)):=by
   rw[<-Vx,ksk_zip,RJ (by rw[Wv,Ti];omega),List.getElem_zip]
  unfold Jn;rw[e1,e2];exact Wa.mp hup i j (by omega) (by omega) hij
 unfold ksk_end;simp only[Tf,Ub];by_cases h2:vs.toArray.size<2
 . rw[RF h2,RF h2];refine Rz (RP ?_);rw[StateT.run_pure];refine Rz (RP ?_);refine Bq (st:=SortSt.mk' general' (keys.zip vs.toArray) #[] 7 none) J ha hk hka (by omega) (by show(keys.zip vs.toArray).size<=_;omega) rfl λ s' c J'=>h s' _ c J' ?_;refine C9 hi (Array.Perm.refl _) λ i j hij hj=>?_;have hj':j<(keys.zip vs.toArray).size:=hj;rw[RI]at h2;omega
 . rw[RE h2,RE h2];rw[RI]at h2;rw[ksk_kind hi (by omega)];refine Rz (RP ?_)
   refine Rz (TY (Fj (a₀:=keys.zip vs.toArray) (st:=SortSt.mk' oneType' (keys.zip vs.toArray) #[] 7 none)
    (Q:=λ _ st'=>(arrOf st').Perm (keys.zip vs.toArray)/\failedOf st'=none/\kL (arrOf st') (keys.zip vs.toArray).size)
    (ksk_intKeys hi) ⟨Array.Perm.refl _,rfl,rfl,rfl⟩ hta (by omega) (by omega) λ st' b1 b2 b3=>⟨b1,b2,b3⟩) ?_ λ _ _ z=>z)
   rintro⟨⟨⟩,st'⟩ s' ⟨rfl,hp,hf,hs⟩;have hz2:=hp.size_eq;refine Bq (st:=st') J ha hk hka (by omega) (by rw[hz2];omega) hf λ s' c J'=>h s' _ c J' (C9 hi hp (by rw[hz2];exact hs))
def Hl{f:Value}{kz:List Int}{vs:List Value}(J:oJ X pins σ R [(a,seqObj "list" #[] e1),(kS,seqObj "list" #[] 0)] s)(ha:Own X pins a)(hk:Own X pins kS)(hka:kS≠a)(hl:kz.length=vs.length)(h64:vs.length<64)
 (hup:vs.Pairwise λ x y=>numOf x<numOf y)
 (turn:∀(i:Nat) (v:Value) (k:Int),vs[i]?=some v->kz[i]?=some k->∀(own:List (Addr×Obj)) (s:Shared),oJ X pins σ R own s->wpAny (model X.prog X.w) A (call f [v]) (λ u s'=>(∃t,u= .int k t)/\oJ X pins σ R own s') (λ _ _=>False) s)
 (h:∀s' out c,oJ X pins σ R [(a,seqObj "list" out c)] s'->EE kz vs out.toList->P (.done (.ret .none)) s'):
 wpAny (model X.prog X.w) A (ksk_rest a f false vs.toArray e1 (.ref kS)) P E s:=by
 have hbig:vs.length<=sizeLine:=RD (Ta h64) (by decide);unfold ksk_rest;refine Rz (Vd ?_)
 first
  |rw[List.forIn_toArray]
  |(rw[<-Array.forIn_toList];simp only[List.toList_toArray])
  |rw[<-Array.forIn_toList]
 refine Rz (ksk_fold (λ i s'=>∃kA e,oJ X pins σ R [(a,seqObj "list" #[] e1),(kS,seqObj "list" kA e)] s'/\IntsAre kA.toList (kz.take i)) vs 0 s ⟨#[],0,J,by simpa using IntsAre.nil⟩ ?st ?en)
 case st=>
  rintro j x s' hx ⟨kA,e,J',hk'⟩;simp only[U_]at hk'⊢;have hj:j<vs.length:=(Rx.mp hx).1;have hkj:kz[j]?=some (kz[j]'(by omega)):=RJ _
  have hz:kA.size<=vs.length:=by
   have:=hk'.length;rw[Ti,SG]at this;omega
  refine Rz (V3 (TY (turn j x _ hx hkj _ s' J') (λ v s2 he=>?_) λ _ _ z=>z.elim));obtain⟨⟨t,rfl⟩,J2⟩:=he;obtain⟨H,I,r⟩:=BI J2;have k1:=(gH I).1;have s1:=TR s2.heap kS (Obj.mapSeq (·.push (.int (kz[j]'(by omega)) t)));have I1:=pW (t':=s2.toks) I s1 (UZ k1 (·.push (.int (kz[j]'(by omega)) t))) (λ v z=>by cases z) hk.ge (Ag hk hka.symm).ne;refine Rz (V4 k1 rfl ?_ (by omega) (RD (VD (Array.size_push ..)) (by omega)));refine RP ⟨rfl,_,_,Gz I1 r,?_⟩;have ek:kz.take (j+1)=kz.take j++[kz[j]'(by omega)]:=by rw[List.take_add_one,hkj];simp
  rw[ek,Array.toList_push];exact ksk_snoc hk'
 case en=>
  rintro s' ⟨kA,e,J',hk'⟩;rw[show kz.take (0+vs.length)=kz from Vq (by omega)]at hk';obtain⟨H,I,r⟩:=BI J';refine Rz (listItems_at (gH I).1 rfl ?_);exact J3 J' ha hk hka hk' hl h64 hup h
def Eo{f:Addr}{l:Addr}{kz:List Int}{vs:List Value}{H:Hp}{Q:Value->Shared->Prop}(I:Inv X pins σ H s)(r:R H)(hli:s.heap.IsList l vs.toArray)(hl:kz.length=vs.length)(h64:vs.length<64)
 (hup:vs.Pairwise λ x y=>numOf x<numOf y)
 (turn:∀(i:Nat) (v:Value) (k:Int),vs[i]?=some v->kz[i]?=some k->∀(own:List (Addr×Obj)) (s:Shared),oJ X pins σ R own s->wpAny (model X.prog X.w) A.in1.in1 (call (.ref f) [v]) (λ u s'=>(∃t,u= .int k t)/\oJ X pins σ R own s') (λ _ _=>False) s)
 (h:∀D s' out c,Own X pins D->oJ X pins σ R [(D,seqObj "list" out c)] s'->EE kz vs out.toList->Q (.ref D) s'):
 wpAny (model X.prog X.w) A (call (.builtin "sorted") [.ref l] [(Str.ofString "key",.ref f)]) Q E s:=by
 have hbig:vs.length<=sizeLine:=RD (Ta h64) (by decide);refine call_function_entry_kw kind_sorted plain_sorted entry_sorted (ksk_s1 _ _) ?_;unfold Builtin.«sorted»;refine Rz (m:=checkCount "sorted" 1 1 _) (RP ?_);refine Rz (collect_list hli ?_ hbig);have I1:=nk (o:=seqObj "list" #[] 0) (t':=s.toks) I (λ v z=>by cases z);have s1:=TR (s.heap.push (seqObj "list" #[] 0)) s.heap.objs.size (Obj.mapSeq (· ++vs.toArray));have I2:=pW (t':=s.toks) I1 s1 (UZ (gH I1).1 (· ++vs.toArray)) (λ v z=>by cases z) (uU I).ge (uU I).ne;have I3:Inv X pins σ H {s with heap:=(s.heap.push (seqObj "list" #[] 0)).update s.heap.objs.size (Obj.mapSeq (· ++vs.toArray)),toks:=s.toks}:=I2.iZ;refine Rz (WY ?_ hbig);generalize hs3:({s with heap:=(s.heap.push (seqObj "list" #[] 0)).update s.heap.objs.size (Obj.mapSeq (· ++vs.toArray))}:Shared)=s3;have I3':Inv X pins σ H s3:=by rw[<-hs3];exact I3
 have oD:=uU I3';have I4:=nk (o:=seqObj "list" vs.toArray 0) (t':=s3.toks) I3' (λ v z=>by cases z);have hD:=(gH I4).1;refine Rz (Uy (wpAny_call_entry_kw slot_list_sort ⟨_,hD,rfl⟩ entry_list_sort ?body (ksk_l1 _ _)))
 case body=>
  show wpAny (model X.prog X.w) A.in1.in1 (Builtin.«list.sort» ⟨[.ref s3.heap.objs.size],[(Str.ofString "key",.ref f)]⟩) _ _ _;rw[ksk_t1];unfold ksk_tree;refine Rz (listItems_at hD rfl ?_);have s5:=TR (s3.heap.push (seqObj "list" vs.toArray 0)) s3.heap.objs.size (Obj.mapSeq λ _=>(#[]:Array Value));have I5:=pW (t':=s3.toks) I4 s5 (UZ hD λ _=> #[]) (λ v z=>by cases z) oD.ge oD.ne;have hD5:=(gH I5).1;refine Rz (V4 hD rfl ?_ (by rw[RI];exact hbig) (Sg _));refine Rz (seqEpoch_at hD5 rfl ?_);refine Rz (wpAny_newTuple ?_ (by show vs.length<=_;exact hbig));have I6:=(nk (o:=seqObj "tuple" vs.toArray 0) (t':=s3.toks) I5 (λ v z=>by cases z)).iZ;refine Rz (WY ?_ (Sg _));have ok:=uU I6;have I7:=nk (o:=seqObj "list" #[] 0) (t':=s3.toks) I6 (λ v z=>by cases z);refine Uy ?_
  have okp:Own X pins _:=⟨ok.ge,λ q hq=>ok.ne q (by
   rcases RX.mp hq with z|z
   . exact R_ _ z
   . exact RL _ (R_ _ z))⟩
  refine Hl (Gz I7 r) oD okp (λ z=>ok.ne (s3.heap.objs.size,_) (RL _ (RL _ (Sm.mpr rfl))) z.symm) hl h64 hup turn λ s' out c J' so=>⟨_,rfl,?_⟩
  exact RP ⟨_,rfl,h _ s' out c oD J' so⟩
end
structure o9(X:Cx)(scope:Scope)(Nc:List Str)(fr:List (Option Nat))(p:Str):Prop where
 sc:aO X scope Nc fr
 EW:∀x∈scope.names,x.2≠ .cell
 co:scope.isCoroutine=false
 gen:scope.isGenerator=false
 p0:Nc[0]?=some p
 f0:fr[0]?=some none
 loc:scope.names.lookup p=some .local
abbrev DX(X:Cx)(scope:Scope)(qual:Str)(f c:Addr)(s:Shared):Env:=PySem.W.envX qual scope s.heap.objs.size f (.ref c) (eh X.env.cells scope.names [])
def E1(X:Cx)(scope:Scope)(Nc:List Str)(qual:Str)(f c:Addr)(s:Shared)(H:Hp):Cx:=
 {X with A:=X.A.in1.in1.deeper (DX X scope qual f c s),N:=Nc,s₀:=s,H₀:=H,env:=DX X scope qual f c s,outer:=X.stack,stack:=DX X scope qual f c s::X.stack,ex:=[],fn:=λ _=>false,calm:=true,pn:=[],xe:=λ _ _=>False}
section
variable {X:Cx}{scope:Scope}{Nc:List Str}{fr:List (Option Nat)}{p qual:Str}{f c:Addr}{pins:List (Addr×Obj)}{σ:L2.St}{H:Hp}{s:Shared}
def LM(S:o9 X scope Nc fr p)(I:Inv X pins σ H s)(hc:X.calm=true):(E1 X scope Nc qual f c s H).Ok where
 mod:=I.ok.mod
 kind:=S.sc.kind
 glob:=rfl
 blt:=rfl
 above:=Ry _
 inj:=λ x y a h1 h2=>I.ok.inj x y a (dH _ [] (λ _ _ e=>by cases e) x a h1) (dH _ [] (λ _ _ e=>by cases e) y a h2)
 has:=λ x hx=>by
  have hx':scope.names.lookup x=some .cell\/scope.names.lookup x=some .free:=hx;rcases hx' with hx|hx
  . exact absurd rfl (S.EW _ (SF hx))
  . exact jI scope.names [] (I.ok.has x (S.sc.free _ (SF hx) rfl)) (.inl (SF hx))
 Ao:=λ x a hf _=>by cases hf
 hd:=λ _=>I.ok.hd hc
 frames:=Around.frames_deeper (by show X.A.frames=_;exact I.ok.frames)
 CC:= .inr ⟨rfl,rfl⟩
 GG:=λ b hb=>by cases hb
 bs:=I.bs
 tR:=RD I.ok.tR I.sz
 vV:=λ b o e hb=>by cases hb
 vW:=λ b hb=>by cases hb
 mW:=I.stack
 xB:=I.xQ
 gt:=I.ok.gt
def Kr{h':Heap}{t':Nat}{v:V}{u:Value}(S:o9 X scope Nc fr p)(I:Inv X pins σ H s)(hc:X.calm=true)(r:RelV v u)(hn:h'.Ns s.heap.objs.size (λ x=>[(p,u)].reverse.lookup x))
 (k:∀b o,s.heap.get? b=some o->h'.get? b=some o):Inv (E1 X scope Nc qual f c s H) [] ((σC fr σ).set 0 (some v)) H {s with heap:=h',toks:=t'} where
 ok:=LM S I hc
 os:=rfl
 bare:=I.bare
 base:=Un.kept k
 loc:=⟨_,hn,λ i x w h1 h2 h3=>by
  by_cases hi:i=0
  . subst hi;have hp:=S.p0;have e:p=x:=SD (hp.symm.trans h1);subst e
    have hl:0<(σC fr σ).length:=by
     have:=(Rx.mp h2).1;rw[RY]at this;exact this
    rw[RK hl]at h2;cases h2;exact⟨u,r,.inl ⟨S.loc,by simp⟩⟩
  . rw[RB (RO hi)]at h2;obtain⟨j,q1,q2⟩:=Cv h2;obtain⟨n1,n2,n3⟩:=S.sc.map i j x h1 q1;obtain⟨m,hm,hl⟩:=I.loc;obtain⟨u',r',lk⟩:=hl j x w n1 q2 (n3.elim (λ z=> .inr (.inl z)) λ z=> .inr (.inr z));refine⟨u',r',?_⟩;rcases lk with⟨z,_⟩|⟨_,a,e,ic⟩
    . rcases n3 with y|y<;>(rw[y]at z;cases z)
    . obtain⟨a',e'⟩:=jI scope.names [] ⟨a,e⟩ (.inl (SF n2));have e2:=dH _ [] (λ _ _ e=>by cases e) x a' e';rw[e]at e2;cases e2;exact .inr ⟨.inr n2,a,e',ic.keeps k⟩⟩
 cell:=λ x a h=>by
  obtain⟨v,q⟩:=I.cell x a (dH _ [] (λ _ _ e=>by cases e) x a h);exact⟨v,q.keeps k⟩
 free:=I.aL.fresh (Ry _)
 jC:=λ x a h=>I.jC x a (dH _ [] (λ _ _ e=>by cases e) x a h)
 pin:=λ q hq=>by cases hq
 aL:=I.aL.kept k
 len:=by rw[RY];unfold σC;rw[Rw];exact S.sc.len
def HI{R:Hp->Prop}{params:Arguments}{body:Expr}{tb:TE}{own:List (Addr×Obj)}{k:Int}{v:V}{u pm ctv:Value}(S:o9 X scope Nc fr p)(hc:X.calm=true)(hr:X.A.depth<recursionLimit)
 (hb:∀(s:Shared) (H:Hp),PE (E1 X scope Nc qual f c s H) body tb)
 (hbind:∀(cl:List (Str×Addr)) (pm cd ct v:Value),bindArgs (PySem.W.kla_fn "<lambda>" qual params body scope cl pm cd ct) ⟨[v],[]⟩=pure [(p,v)])
 (r:RelV v u) (hf:(f,PySem.W.kla_obj "<lambda>" qual params body scope (eh X.env.cells scope.names []) pm c ctv)∈pins)
 (hcr:∀(H:Hp) (s:Shared),Inv X (pins++own) σ H s->R H->s.heap.CodeRec (.ref c) qual)
 (hq:∀H,R H->tb ((σC fr σ).set 0 (some v)) H λ x H'=>x= .int k/\R H') (J:oJ X pins σ R own s):
 wpAny (model X.prog X.w) X.A.in1.in1 (call (.ref f) [u]) (λ u' s'=>(∃t,u'= .int k t)/\oJ X pins σ R own s') (λ _ _=>False) s:=by
 obtain⟨H,I,rH⟩:=J;have ho:=(I.pin _ (RL _ (R_ _ hf))).1;refine wpAny_call (PySem.W.kla_callFunE (fd:=PySem.W.kla_fn "<lambda>" qual params body scope (eh X.env.cells scope.names []) pm (.ref c) ctv) (by show X.A.depth<_;exact hr) ho rfl S.co S.gen rfl (hcr H s I rH) ?_);rw[hbind]
 refine RP (wpAny_newFunctionEnv S.EW (λ y hy=>by
  have e:y=(p,u):=by simpa using hy
  rw[e];exact S.loc) (λ h₁ hns hsb=>?_) S.sc.kind)
 have hk:∀b o,s.heap.get? b=some o->h₁.get? b=some o:=λ b o e=>hsb.extBut b o (Sj (RT e)) (RG _ e);refine⟨I.nolimit.keeps hk,?_⟩;show codeAny _ X.A.in1.in1 (.expr body (DX X scope qual f c s)) _ _;refine PySem.W.kla_codeExpr (TY (hb s H [] _ _ H _ (Kr S I hc r hns hk) (hq H rH)) (λ w s' he=>?_) λ e s' z=>False.elim z);obtain⟨x,H',I',rx,rfl,rH'⟩:=he;exact⟨rx,H',I.D6 (s':=s') (ch:=[]) I'.os I'.base I'.aL I'.bare (λ b z=>absurd z (by simp)),rH'⟩
def set_same{α:Type}:∀ {l:List α} {n:Nat} {x:α},l[n]?=some x->l.set n x=l
 | [],n,x,h=>by simp at h
 |a::l,0,x,h=>by simp at h;subst h;rfl
 |a::l,n+1,x,h=>by
  rw[List.set_cons_succ,set_same (n:=n) (by simpa using h)]
def HW{params:Arguments}{body:Expr}{lpos:Pos}{c0 T:Addr}{α:List (Option Addr)}{G F:Hp}{st:ag}{n0:Nat}{b:Bool}{E:Value->Shared->Prop}{Q:Value->Shared->Prop}(S:o9 X scope Nc fr p)(hcode:X.env.code= .ref c0)(hC:PySem.W.codeHdIn X.K c0 T=true)
 (hdef:defaultsOf params X.env=([],[])) (hql:X.env.qual++"<lambda>"=qual) (I:Inv X pins σ H s) (Sp:cO G F H) (SR:aP α st G) (hn0:st[n0]?=some (.tab T lpos qual b))
 (h:∀(f c:Addr) (ctv pm:Value) (G2 H2:Hp) (s2:Shared),Inv X (pins++[(f,PySem.W.kla_obj "<lambda>" qual params body scope (eh X.env.cells scope.names []) pm c ctv)]) σ H2 s2->Step α G α G2->cO G2 F H2->aP α (st.set n0 (.tab T lpos qual true)) G2->
   (some c∉α/\∃o vs t,G2 c=some (.fz o (.own c))/\o.data= .fields vs/\vs[1]?=some (.str qual t))->Q (.ref f) s2):
 wpAny (model X.prog X.w) X.A (eval (.Lambda params body scope lpos) X.env) Q E s:=by
 refine PySem.W.kla_eval hdef ?_;rw[hql];rcases SR.at' n0 _ hn0 with⟨z,_⟩|⟨a,ha,rfl,ps,gP,tr,cs⟩
 . cases z
 have hP:=I.aL a _ (Sp.get gP);have hP:s.heap.get? a=some (PySem.W.tabObj ps):=hP;have hg:s.heap.Ns mainGlobals X.mg:=I.mod.glob.keeps I.bk;obtain⟨bm,ob,b1,b2,b3,b4,b5,b6⟩:=I.mod.bmain;have b3':=I.bk _ _ b3
 have hgP:mainGlobals≠a:=λ q=>by
  obtain⟨o,es,ep,e,hd,_⟩:=hg;rw[q,hP]at e;cases e;cases hd
 have n1:bm≠mainGlobals:=λ q=>by
  obtain⟨o,es,ep,e,hd,_⟩:=hg;rw[q,e]at b3';cases b3';rw[hd]at b6;cases b6
 have n2:bm≠a:=λ q=>by rw[q,hP]at b3';cases b3';cases b4
 have hB:s.heap.BuiltinsAt X.mg a:=⟨bm,ob,b1,b2,n1,n2,b3',b4,b5,b6⟩
 have hcl:closureFor scope X.env=pure (eh X.env.cells scope.names []):=oB λ x hx hk=>I.ok.has x.1 (S.sc.free x hx hk);have C:PySem.W.CodeHd s.heap c0 a:=PySem.W.codeHd_of_K I.iN hC;rcases cs with⟨rfl,hnf⟩|⟨rfl,c,o,vs,t,q1,q2,q3,q4,q5⟩
 . refine PySem.W.kla_makeFunction hcl I.ok.glob hg hcode C hP tr hnf hgP hB λ c' ctv h' tk hx hge hlt hrec htb=>?_;obtain⟨c2,oc,vs,t,e2,hoc,hd,hv⟩:=hrec;cases e2;have hHc:H c'=none:=I.aL.fresh hge;have hGc:G c'=none:=(Sp.none hHc).1;have hHa:H a=some (.l6 ps):=Sp.get gP;have hac:a≠c':=eL hHa hHc
   let ps':=ps++ #[rawInt lpos.line,rawInt lpos.col,.ref c']
   have nb:∀ {b:Addr},H b=none->b≠a:=λ e z=>by rw[z,hHa]at e;cases e
   have I1:Inv X pins σ (upd (upd H c' (.fz oc (.own c'))) a (.l6 ps')) {s with heap:=h',gens:=s.gens,drawn:=s.drawn,toks:=tk}:=by
    have old:∀ {b:Addr} {u:HO},H b=some u->b≠a->upd (upd H c' (.fz oc (.own c'))) a (.l6 ps') b=some u:=λ e n=>by rw[aB n,aB (eL e hHc)];exact e
    refine I.step (ch:=[]) (λ _ z=>nomatch z) (λ b o _ _ _ e n=>hx b o (nb n) e) (λ b o _ _ _ e n=>⟨o.slots,hx b o (nb n) e⟩) (λ b o _ e n=>?_) (λ b o _ e=>?_) (λ b xs e=>?_) (λ b o u e=>?_) (λ b qs e=>?_) (λ m hm=>?_) (λ b u e=>?_) I.bare
    . rw[aB (nb n),aB (Sj (RW (RT e) hge))];exact n
    . by_cases hb:b=a
      . exact⟨_,by rw[hb];exact htb⟩
      . exact⟨o,hx b o hb e⟩
    . exact old e λ z=>by rw[z,hHa]at e;cases e
    . exact old e λ z=>by rw[z,hHa]at e;cases e
    . by_cases hb:b=a
      . subst hb;rw[hHa]at e;cases e;exact⟨_,aW⟩
      . exact⟨#[],by rw[old e hb];simp⟩
    . obtain⟨o,es,ep,ho,r⟩:=hm;exact⟨o,es,ep,hx _ o (nb I.free) ho,r⟩
    . by_cases hb:b=a
      . subst hb;rw[aW]at e;cases e;exact htb
      . rw[aB hb]at e;by_cases hbc:b=c'
        . subst hbc;rw[aW]at e;cases e;exact⟨hoc,_,hoc⟩
        . rw[aB hbc]at e;refine(I.aL b u e).qO (λ d w hd q=>hx d w ?_ q) (λ d q=>old q λ z=>by rw[z,hHa]at q;cases q) λ d xs q=>old q λ z=>by rw[z,hHa]at q;cases q
          rcases hd with rfl|hd
          . exact hb
          . intro z;rw[z,hHa]at hd;cases hd
   have I2:=nk (o:=PySem.W.kla_obj "<lambda>" qual params body scope (eh X.env.cells scope.names []) ((X.mg "__name__").getD .none) c' ctv) (t':=tk) I1 (λ v z=>by cases z);have gP':upd G c' (.fz oc (.own c')) a=some (.l6 ps):=by rw[aB hac];exact gP
   refine h _ c' ctv _ (upd (upd G c' (.fz oc (.own c'))) a (.l6 ps')) _ _ I2 ((Step.laid hGc).trans (Step.write (Sb ha))) ((Sp.laid hHc).write gP') ((SR.laid hGc).write ha ⟨rfl,ps',aW,?_,.inr ⟨rfl,c',oc,vs,t,?_,SR.mE hGc,?_,hd,hv⟩⟩) ⟨SR.mE hGc,oc,vs,t,?_,hd,hv⟩
   . show TriplesOk (ps++ #[rawInt lpos.line,rawInt lpos.col,.ref c']).toList;rw[Array.toList_append];exact TriplesOk_snoc _ _ _ _ tr
   . show codeAmong lpos (ps++ #[rawInt lpos.line,rawInt lpos.col,.ref c']).toList=_;rw[Array.toList_append];exact codeAmong_snoc _ tr hnf
   . rw[aB hac.symm,aW]
   . rw[aB hac.symm,aW]
 . refine PySem.W.kla_makeFunctionHit hcl I.ok.glob hg hcode C hP tr q1 hB λ ctv h' tk hk hsz=>?_;have I1:=I.kept (t':=tk) hk;have I2:=nk (o:=PySem.W.kla_obj "<lambda>" qual params body scope (eh X.env.cells scope.names []) ((X.mg "__name__").getD .none) c ctv) (t':=tk) I1 (λ v z=>by cases z);refine h _ c ctv _ G H _ I2 Step.refl Sp (by rw[set_same hn0];exact SR) ⟨q2,o,vs,t,q3,q4,q5⟩
end
def slt(p q:Int×Int):Prop:=p.1<q.1\/(p.1=q.1/\p.2<q.2)
def Bg(n0:Nat)(T:Addr)(lpos:Pos)(qual:Str)(fr:List (Option Nat))(tb te:DE):DE:=λ σ st K=>te σ st λ d st1=>∃(ns ks:List Int) (b:Bool),d= .lst (ns.map .int)/\ns.length<64/\ns.Pairwise (· < ·)/\ks.length=ns.length/\
 st1[n0]?=some (.tab T lpos qual b)/\(∀(i:Nat) (n k:Int),ns[i]?=some n->ks[i]?=some k->tb ((iw fr σ).set 0 (some (.int n))) (st1.set n0 (.tab T lpos qual true)) λ v st2=>v= .int k/\st2=st1.set n0 (.tab T lpos qual true))/\
 ∀os:List (Int×Int),os.Perm (ks.zip ns)->os.Pairwise slt->K (.lst (os.map λ p=> .int p.2)) (st1.set n0 (.tab T lpos qual true))
def BN{α:List (Option Addr)}{H:Hp}:∀ {ns:List Int} {vs:List V},aG α H (ns.map D.int) vs->vs=ns.map V.int
 | [],vs,h=>by unfold aG at h;exact h
 |n::ns,vs,h=>by
  unfold aG at h;obtain⟨v,r,rfl,h1,h2⟩:=h;unfold Rep at h1;rw[h1,BN h2];rfl
def A3{α:List (Option Addr)}{H:Hp}:∀(ns:List Int),aG α H (ns.map D.int) (ns.map V.int)
 | []=>by unfold aG;rfl
 |n::ns=>by unfold aG;exact⟨_,_,rfl,by unfold Rep;rfl,A3 ns⟩
def Bm:∀ {ns:List Int} {us:List Value},Vals (ns.map V.int) us->IntsAre us ns
 | [],_,.nil=> .nil
 |n::ns,_,.cons ⟨t,rfl⟩ h=> .cons n t (Bm h)
section
variable {X:Cx}{scope:Scope}{Nc:List Str}{fr:List (Option Nat)}{p x qual:Str}{params:Arguments}{e body:Expr}{te tb:DE}{lpos kpos pos ppos:Pos}{c0 T:Addr}{n0:Nat}
def Kg(S:o9 X scope Nc fr p)(hc:X.calm=true)(hr:du 2 X.A)(hcode:X.env.code= .ref c0)(hC:PySem.W.codeHdIn X.K c0 T=true)(hdef:defaultsOf params X.env=([],[]))(hql:X.env.qual++"<lambda>"=qual)
 (hbind:∀(cl:List (Str×Addr)) (pm cd ct v:Value),bindArgs (PySem.W.kla_fn "<lambda>" qual params body scope cl pm cd ct) ⟨[v],[]⟩=pure [(p,v)])
 (hb:∀(f c:Addr) (s:Shared) (H:Hp),PE (E1 X scope Nc qual f c s H) body (LE tb)) (ha:PA X [e] (LA (af te ak)))
 (hg:Gl X "sorted") (hm:X.mg "sorted"=none) (hv:bootBuiltins "sorted"=some (.builtin "sorted"))
 (he:backTo pos (starEach [e] X.env)=(false,eval e X.env)::backTo pos (starEach [] X.env):=by rfl) (hpl:(backTo pos (starEach [e] X.env)).any (·.1)=false:=by rfl):
 PE X (.Call (.Name "sorted" ppos) [e] [⟨some "key",.Lambda params body scope lpos,kpos⟩] pos) (LE (Bg n0 T lpos qual fr tb te)):=by
 intro pins s σ H Q I h;obtain⟨α,σd,st,K,G,F,Sp,RS,SR,t,k⟩:=h;refine UB (ow I hg hm hv ?_);refine callWith_kw ?_ he hpl
 let K1:DK:=λ d st1=>∃(ns ks:List Int) (b:Bool),d= .lst (ns.map .int)/\ns.length<64/\ns.Pairwise (· < ·)/\ks.length=ns.length/\
  st1[n0]?=some (.tab T lpos qual b)/\(∀(i:Nat) (n k:Int),ns[i]?=some n->ks[i]?=some k->tb ((iw fr σd).set 0 (some (.int n))) (st1.set n0 (.tab T lpos qual true)) λ v st2=>v= .int k/\st2=st1.set n0 (.tab T lpos qual true))/\
  ∀os:List (Int×Int),os.Perm (ks.zip ns)->os.Pairwise slt->K (.lst (os.map λ p=> .int p.2)) (st1.set n0 (.tab T lpos qual true))
 refine cR (ha pos pins s σ H (λ vs H1=>∃d v st1 α1 G1,vs=[v]/\K1 d st1/\Step α G α1 G1/\cO G1 F H1/\aP α1 st1 G1/\Rep α1 G1 d v) I
  ⟨α,σd,st,λ ds st1=>match ds with| [d]=>K1 d st1|_=>False,G,F,Sp,RS,SR,t,λ ds st1 q α1 G1 H1 vs s1 P1 S1 r1=>?_⟩) λ us s1 ⟨vs,H1,I1,rv,d,v,st1,α1,G1,hvs,kd,s1',P1,S1,r1⟩=>?_
 . match ds,q,r1 with
   | [d],q,r1=>
     unfold aG at r1;obtain⟨v,r,rfl,h1,h2⟩:=r1;unfold aG at h2;subst h2;exact⟨d,v,st1,α1,G1,rfl,q,s1,P1,S1,h1⟩
 subst hvs;obtain⟨ns,ks,b,rfl,h64,hup,hlen,hn0,hkey,hK⟩:=kd;show wpAny _ _ (evalAll ((do let v <-eval (.Lambda params body scope lpos) X.env;standAt pos;pure v)::[])) _ _ s1;refine wpAny_evalAll_cons (Rz (HW S hcode hC hdef hql I1 P1 S1 hn0 λ f c ctv pm G2 H2 s2 I2 st2 P2 S2 ⟨hc1,o,vs,tq,hc2,hc3,hc4⟩=>Rz (V1 (RP (wpAny_evalAll_nil ?_)))));have r2:=r1.step st2;unfold Rep at r2;obtain⟨l,xs,rfl,hl1,hl2,hl3⟩:=r2;have exs:=BN hl3;subst exs;cases rv with
 |cons ru rn=>
  cases rn;cases ru
  have hrd:Rd H2 l (.lst (ns.map V.int)):=by
   rcases hl2 with z|⟨w,z⟩
   . exact .inl (P2.get z)
   . exact .inr ⟨w,P2.get z⟩
  obtain⟨_,its,nn,vv,hobj⟩:=hrd.ok I2.aL;have hints:=Bm vv;have hlen2:=hints.length;have key:∀(H':Hp),(∃α' G',Step α1 G2 α' G'/\cO G' F H'/\aP α' (st1.set n0 (.tab T lpos qual true)) G')->H' c=some (.fz o (.own c)):=λ H' ⟨α',G',q1,q2,q3⟩=>q2.get (q1.ext c _ hc1 hc2);show wpAny _ _ (call (.builtin "sorted") [.ref l] [(Str.ofString "key",.ref f)]) _ _ _
  refine Eo (X:=X) (pins:=pins++[(f,PySem.W.kla_obj "<lambda>" qual params body scope (eh X.env.cells scope.names []) pm c ctv)]) (R:=λ H'=>∃α' G',Step α1 G2 α' G'/\cO G' F H'/\aP α' (st1.set n0 (.tab T lpos qual true)) G') (kz:=ks) (vs:=its)
   I2 ⟨α1,G2,Step.refl,P2,S2⟩ ⟨_,hobj,rfl,nn,rfl⟩ (by omega) (by omega) ?_ (λ i u kk hu hk own s' J=>?_) λ D s' out cc oD J so=>?_
  . rw[<-Vl,hints.nums];exact hup
  . have hi:i<ns.length:=by
     have:=(Rx.mp hu).1;omega
    obtain⟨tt,ht⟩:=hints.get i ns[i] (RJ hi);have ht:some u=some (Value.int ns[i] tt):=by rw[<-hu];exact ht
    cases ht;refine HI (v:= .int ns[i]) (u:= .int ns[i] tt) S hc (by have:=hr.dp;omega) (hb f c) hbind ⟨tt,rfl⟩ (RL _ (Sm.mpr rfl)) (λ H' s'' J' r'=>?_) (λ H' r'=>?_) J
    . have q:=J'.aL c _ (key H' r');exact⟨c,o,vs,tq,rfl,q.1,hc3,hc4⟩
    . obtain⟨α',G',q1,q2,q3⟩:=r';refine⟨α',(iw fr σd).set 0 (some (.int ns[i])),_,_,G',F,q2,?_,q3,hkey i ns[i] kk (RJ hi) hk,λ d' st' hd α'' G'' H'' v' s'' P'' S'' r''=>?_⟩
      . exact((RS.step ((s1'.trans st2).trans q1)).comp).set 0 (by unfold Rep;rfl)
      . obtain⟨rfl,rfl⟩:=hd;unfold Rep at r'';exact⟨r'',α'',G'',q1.trans s'',P'',S''⟩
  . obtain⟨H',I',α',G',q1,q2,q3⟩:=J;obtain⟨ps,hp,ho,hs⟩:=so
    have hps:∀q∈ps,∃t,q.2= .int (numOf q.2) t:=λ q hq=>by
     have h1:=hp.mem_iff.mp hq;have h2:q.2∈its:=(VE (show(q.1,q.2)∈ks.zip its from h1)).2;obtain⟨n,t,e⟩:=hints.all _ h2;exact⟨t,by rw[e];rfl⟩
    have hos:(ps.map λ q=>(q.1,numOf q.2)).Perm (ks.zip ns):=by
     have h1:=hp.map λ q:Int×Value=>(q.1,numOf q.2)
     have e:(ks.zip its).map (λ q:Int×Value=>(q.1,numOf q.2))=ks.zip ns:=by
      rw[<-hints.nums,List.zip_map_right];exact Tz λ⟨a,b⟩ _=>rfl
     rw[e]at h1;exact h1
    have hpw:(ps.map λ q=>(q.1,numOf q.2)).Pairwise slt:=by rw[Vl];exact hs
    have kk:=hK _ hos hpw;rw[Se]at kk;have hD0:=gH I'
    have vout:Vals ((ps.map λ q=>numOf q.2).map V.int) out.toList:=by
     rw[ho];clear hos hpw kk hs hp ho;induction ps with
     |nil=>exact .nil
     |cons q r ih=>
      obtain⟨t,e⟩:=hps q (R7 ..);exact .cons ⟨t,e⟩ (ih λ z hz=>hps z (R8 _ hz))
    have hlo:(ps.map λ q=>numOf q.2).length<=sizeLine:=by
     rw[Rw,hp.length_eq,Wv];exact RD (Nat.min_le_left _ _) (RD (show ks.length<=64 by omega) (by decide))
    have I3:=Fz (u:= .lst ((ps.map λ q=>numOf q.2).map V.int)) I' oD.ge oD.ne ⟨by rw[Rw];exact hlo,out.toList,cc,vout,hD0.1⟩;have hG:=(q2.none hD0.2.1).1;refine⟨.ref D,_,I3.iZ,rfl,k _ _ kk α' _ _ _ ((s1'.trans st2).trans (q1.trans (Step.laid hG))) (q2.laid hD0.2.1) (q3.laid hG) ?_⟩;unfold Rep;refine⟨D,_,rfl,q3.mE hG,.inl aW,?_⟩;have e:List.map ((λ p:Int×Int=>L3.D.int p.snd)∘λ q:Int×Value=>(q.fst,numOf q.snd)) ps=(ps.map λ q=>numOf q.2).map L3.D.int:=by rw[Se];rfl
    rw[e];exact A3 _
end
end L3
namespace L3
open PySem L2
open PySem.Spec hiding items?
open PyProof.Rows hiding St
def H_(sc:Scope)(N gl:List Str):Bool:=
 N.all (λ x=>(sc.names.lookup x==some .local||sc.names.lookup x==some .cell)&&x != "__debug__"&&x != "__classdict__")&&gl.all (λ x=>sc.names.lookup x==some .globalImplicit&&x != "__debug__")
structure VS(sc:Scope)(N gl:List Str):Prop where
 ok:H_ sc N gl=true
def VS.at_{sc:Scope}{N gl:List Str}(V:VS sc N gl){i:Nat}{x:Str}(h:N[i]?=some x):Loc sc x/\(x==("__debug__":Str))=false/\(x==("__classdict__":Str))=false:=by
 have o:=V.ok;unfold H_ at o;have:=SA.mp (Bool.and_eq_true_iff.mp o).1 x (Sb h);simp only[SV,Wu,Us,V9,ne_eq]at this;exact⟨this.1.1,Ww this.1.2,Ww this.2⟩
def VS.PJ{sc:Scope}{N gl:List Str}(V:VS sc N gl){i:Nat}{x:Str}(h:gl[i]?=some x):sc.names.lookup x=some .globalImplicit/\(x==("__debug__":Str))=false:=by
 have o:=V.ok;unfold H_ at o;have:=SA.mp (Bool.and_eq_true_iff.mp o).2 x (Sb h);simp only[SV,Us,V9,ne_eq]at this;exact⟨this.1,Ww this.2⟩
section
variable {X:Cx}{sc:Scope}{N gl:List Str}{x:Str}{pos:Pos}
def VS.nm(V:VS X.env.scope X.N gl)(i:Nat)(h:X.N[i]?=some x:=by rfl):JE X (.Name x pos) (ae i):=
 let q:=V.at_ h
 FA q.2.1 q.2.2 (q.1.elim .inl λ z=> .inr (.inl z)) h
def VS.l(V:VS sc N gl)(i:Nat)(h:N[i]?=some x:=by rfl):Loc sc x:=(V.at_ h).1
def VS.g(V:VS sc N gl)(i:Nat)(h:gl[i]?=some x:=by rfl):sc.names.lookup x=some .globalImplicit:=(V.PJ h).1
def VS.d(V:VS sc N gl)(i:Nat)(h:gl[i]?=some x:=by rfl):(x==("__debug__":Str))=false:=(V.PJ h).2
def bH{n:Nat}(hN:X.N[n]?=some x:=by rfl)(hd:((x==("__debug__":Str))||(x==("__classdict__":Str)))=false:=by decide+kernel)
 (hv:AJ X.env.scope x:=by first|exact Or.inl rfl|exact Or.inr (Or.inl rfl)|exact Or.inr (Or.inr rfl)):JE X (.Name x pos) (ae n):=
 FA (Bool.or_eq_false_iff.mp hd).1 (Bool.or_eq_false_iff.mp hd).2 hv hN
@[irreducible] def jo:d9:=wx (λ _ j=>j≠0) λ i j=> .int (i.fdiv j)
def uM{k:Nat}(hr:du k X.A)(hs:X.stack=X.env::X.outer)(hgen:X.env.scope.isGenerator=false)(hco:X.env.scope.isCoroutine=false):cE X (binaryOp .FloorDiv) (LR jo):=by
 unfold jo;refine mN (g':=λ i j=> .int (i.fdiv j)) (λ _ _ _ _=>by unfold Rep;rfl) ?_;intro pins s σ H x y v u Q I rx ry h;obtain⟨i,j,rfl,rfl,hc,q⟩:=h;obtain⟨t,rfl⟩:=rx;obtain⟨t',rfl⟩:=ry;refine floordiv_int hc ⟨.int (i.fdiv j),H,I.tok _,⟨_,rfl⟩,q⟩ (.inr (PySem.PylongRoom.of I.nolimit ?_ ?_))
 . have:=hr.dp;show X.A.depth+100<_;omega
 . exact PySem.SeerAt.of (env:=X.env) (l:=X.outer) (I.mod.seer.keeps I.bk) I.ok.gt (by rw[I.ok.frames,hs]) hgen hco I.ok.blt I.ok.glob
def nB{st:ag}{K:DK}{i j:Int}(h0:j≠0)(k:K (.int (i.fdiv j)) st):jo (.int i) (.int j) st K:=by unfold jo;exact⟨h0,k⟩
def o9.look{scope:Scope}{Nc:List Str}{fr:List (Option Nat)}{p:Str}(S:aO X scope Nc fr)(h:(scope.names.all (λ x=>x.2 != .cell)&&(!scope.isCoroutine&& !scope.isGenerator)&&(scope.names.lookup p==some .local))=true:=by decide+kernel)
 (p0:Nc[0]?=some p:=by rfl) (f0:fr[0]?=some none:=by rfl):o9 X scope Nc fr p:=by
 simp only[SV,Bool.not_eq_true',Us]at h;exact⟨S,λ x hx=>by simpa using SA.mp h.1.1 x hx,h.1.2.1,h.1.2.2,p0,f0,h.2⟩
def J4{scope:Scope}{Nc:List Str}{fr:List (Option Nat)}{p qual:Str}{params:Arguments}{e body:Expr}{te tb:DE}{lpos kpos pos ppos:Pos}{c0 T:Addr}{n0 k:Nat}(S:o9 X scope Nc fr p)(hc:X.calm=true)(hr:du k X.A)(hcode:X.env.code= .ref c0)(hC:PySem.W.codeHdIn X.K c0 T=true)
 (hb:∀(f c:Addr) (s:Shared) (H:Hp),JE (E1 X scope Nc qual f c s H) body tb) (he:JE X e te) (hg:X.env.kindOf "sorted"=some .globalImplicit) (hm:X.mg "sorted"=none)
 (hdef:defaultsOf params X.env=([],[]):=by rfl) (hql:X.env.qual++"<lambda>"=qual:=by rfl)
 (hbind:∀(cl:List (Str×Addr)) (pm cd ct v:Value),bindArgs (PySem.W.kla_fn "<lambda>" qual params body scope cl pm cd ct) ⟨[v],[]⟩=pure [(p,v)]:=by(intros;rfl)) (hk:2<=k:=by decide)
 (he1:starEach [e] X.env=(false,eval e X.env)::starEach [] X.env:=by rfl):
 JE X (.Call (.Name "sorted" ppos) [e] [⟨some "key",.Lambda params body scope lpos,kpos⟩] pos) (Bg n0 T lpos qual fr tb te):=by
 unfold JE at he hb⊢;refine Kg S hc (hr.mono hk) hcode hC hdef hql hbind hb (rR he ur he1) hg hm rfl ?_ ?_
 . rw[he1];rfl
 . rw[he1];rfl
end
structure ND(K:PySem.W.Frag)(x qual:Str)(st:Stmt)(f:Addr)(fd:FuncData)(c:Addr):Prop where
 ex:∃(oc:Value) (od:Option Addr) (kV doc pm:Value) (an:Option Addr) (ct:Value) (osl:Array (Option Value)),
  fd=PySem.W.fnOf x qual (lS st) (ir st) (ai st) .none kV doc pm an (.ref c) ct/\K.lookup f=some ⟨oc,od,.func fd,osl⟩/\PySem.W.codeIn K (.ref c) qual=true
def NU{P:Program}{w:World}{K:PySem.W.Frag}{mg:Str->Option Value}{base:Heap}{x qual:Str}{st:Stmt}{f c:Addr}{fd:FuncData}{N ps:List Str}{k:Nat}{sp:c_}{t:DS}(F:ND K x qual st f fd c)(S:aT N ps (ai st))
 (hbody:∀(A:Around) (outer:List Env) (s:Shared) (H:Hp) (E:XK),du k (A.deeper (envOfC qual (ai st) s.heap.objs.size f (.ref c)))->JB (sT di P w K mg base N qual (ai st) f (.ref c) A outer s H E).wG (ir st) t)
 (hsp:∀ds st K,sp ds st K->ds.length=ps.length/\t {nx:=λ _ st'=>K .aF st',rt:=K} (bh N ds) st):cm P w K mg base di (k+1) f fd ps (dq sp):=by
 obtain⟨oc,od,kV,doc,pm,an,ct,osl,rfl,lk,hcd⟩:=F.ex;unfold JB at hbody;refine IS lk hcd S (λ vs H Q E h=>?_) λ A outer s H vs Q E hr h=>?_
 . obtain⟨α,ds,st,K,G,F,P,R,S,q,k⟩:=h;rw[<-R.length];exact(hsp ds st K q).1
 . obtain⟨α,ds,st,K,G,F',P,R,SR,q,k⟩:=h;refine⟨_,(hbody A outer s H E hr).wG,α,bh N ds,st,_,G,F',P,ff.start R,SR,(hsp ds st K q).2,?_,k,?_,?_⟩
   . intro σd' st' kk α' G' H' σ' s' P' R' S';exact k .aF st' kk α' G' H' .aF s' P' S' (by unfold Rep;rfl)
   . intro σd' st' kk;exact kk.elim
   . intro σd' st' kk;exact kk.elim
def Gq(tl:List (Addr×Pos×Str)):c_:=λ ds st K=>∃ns:List Int,ds=[.lst (ns.map .int)]/\ns.length<=63/\st=tl.map (λ q=> .tab q.1 q.2.1 q.2.2 false)/\∀st',K (.bl true) st'
def Fc(K:PySem.W.Frag)(ts:List (Addr×Addr)):Sp:=λ vs H Q _=>∃(a:Addr) (ns:List Int),vs=[.ref a]/\Entry K ts a ns H/\ns.length<=63/\∀H',Q (.bl true) H'
def Fo{K:PySem.W.Frag}{ts:List (Addr×Addr)}{tl:List (Addr×Pos×Str)}(nl:Ff K=true)(hts:ts.map (·.2)=tl.map (·.1))(nd:(tl.map (·.1)).Nodup){vs:List V}{H:Hp}{Q:VK}{E:XK}(h:Fc K ts vs H Q E):dq (Gq tl) vs H Q E:=by
 obtain⟨a,ns,rfl,hE,hl,q⟩:=h
 have tabs:∀q∈tl,H q.1=some (.l6 #[])/\q.1≠a:=λ q hq=>by
  have h1:q.1∈ts.map (·.2):=by rw[hts];exact VQ hq
  obtain⟨t,ht,e⟩:=RZ.mp h1;rw[<-e];exact hE.tab t ht
 have at_:∀(i:Nat) (x:Addr),(tl.map λ q=>some q.1)[i]?=some (some x)->∃q,tl[i]?=some q/\q.1=x:=λ i x e=>by
  rw[RV]at e;cases z:tl[i]? with
  |none=>rw[z]at e;cases e
  |some w=>rw[z]at e;simp at e;exact⟨w,rfl,e⟩
 have nota:some a∉tl.map λ q=>some q.1:=λ z=>by
  obtain⟨w,hw,e⟩:=RZ.mp z;exact(tabs w hw).2 (SD e)
 rcases hE.lst with hS|⟨o,its,n,e,hc,_⟩
 . refine⟨tl.map λ q=>some q.1,[.lst (ns.map .int)],tl.map (λ q=> .tab q.1 q.2.1 q.2.2 false),λ d _=>d= .bl true,H,λ _=>none,⟨λ b=>by cases H b<;>rfl,λ _ _ _=>rfl⟩,?_,⟨by simp,λ i j x e1 e2=>?_,λ n c e=>?_⟩,⟨ns,rfl,hl,rfl,λ _=>rfl⟩,?_⟩
   . unfold aG;refine⟨.ref a,[],rfl,?_,by unfold aG;rfl⟩;unfold Rep;exact⟨a,ns.map V.int,rfl,nota,hS,yN ns⟩
   . obtain⟨p,hp,e3⟩:=at_ i x e1;obtain⟨r,hr,e4⟩:=at_ j x e2;have k1:(tl.map (·.1))[i]?=some x:=by rw[RV,hp,<-e3];rfl
     have k2:(tl.map (·.1))[j]?=some x:=by rw[RV,hr,<-e4];rfl
     have hi:=(Rx.mp k1).1;exact(List.getElem?_inj hi nd).mp (k1.trans k2.symm)
   . rw[RV]at e;cases z:tl[n]? with
     |none=>rw[z]at e;cases e
     |some w=>
      rw[z]at e;have e':Cell.tab w.1 w.2.1 w.2.2 false=c:=SD e;subst e';refine .inr ⟨w.1,by rw[RV,z];rfl,rfl,#[],(tabs w (Sb z)).1,trivial,.inl ⟨rfl,rfl⟩⟩
   . rintro d st' rfl α' G' H' v _ _ _ r;unfold Rep at r;subst r;exact q H'
 . exact absurd hc (zw nl e)
section
variable {K:PySem.W.Frag}{x qual p1 p2 p3 p4 p5:Str}{st:Stmt}{f:Addr}{fd:FuncData}
abbrev uB(x qual:Str)(st:Stmt)(kV doc pm:Value)(an:Option Addr)(cdv ct:Value):FuncData:=PySem.W.fnOf x qual (lS st) (ir st) (ai st) .none kV doc pm an cdv ct
def g9{α:Type}{n:Nat}{us:List α}(h:us.length=n+1):∃a r,us=a::r/\r.length=n:=by
 cases us with
 |nil=>cases h
 |cons a r=>exact⟨a,r,rfl,Nat.succ.inj h⟩
def vb{α:Type}{us:List α}(h:us.length=0):us=[]:=Tr.mp h
def Rq(F:pG K x qual st f fd)(h:∀kV doc pm an cdv ct a,bindArgs (uB x qual st kV doc pm an cdv ct) ⟨[a],[]⟩=pure [(p1,a)]):Binds K fd [p1] []:=
 F.binds λ kV doc pm an cdv ct us hl=>by
  obtain⟨a,r1,rfl,h1⟩:=g9 hl;cases vb h1;exact h kV doc pm an cdv ct a
def Nu(F:pG K x qual st f fd)(h:∀kV doc pm an cdv ct a b,bindArgs (uB x qual st kV doc pm an cdv ct) ⟨[a,b],[]⟩=pure [(p1,a),(p2,b)]):Binds K fd [p1,p2] []:=
 F.binds λ kV doc pm an cdv ct us hl=>by
  obtain⟨a,r1,rfl,h1⟩:=g9 hl;obtain⟨b,r2,rfl,h2⟩:=g9 h1;cases vb h2;exact h kV doc pm an cdv ct a b
def Qc(F:pG K x qual st f fd)(h:∀kV doc pm an cdv ct a b c,bindArgs (uB x qual st kV doc pm an cdv ct) ⟨[a,b,c],[]⟩=pure [(p1,a),(p2,b),(p3,c)]):Binds K fd [p1,p2,p3] []:=
 F.binds λ kV doc pm an cdv ct us hl=>by
  obtain⟨a,r1,rfl,h1⟩:=g9 hl;obtain⟨b,r2,rfl,h2⟩:=g9 h1;obtain⟨c,r3,rfl,h3⟩:=g9 h2;cases vb h3;exact h kV doc pm an cdv ct a b c
def PB(F:pG K x qual st f fd)(h:∀kV doc pm an cdv ct a b c d,bindArgs (uB x qual st kV doc pm an cdv ct) ⟨[a,b,c,d],[]⟩=pure [(p1,a),(p2,b),(p3,c),(p4,d)]):Binds K fd [p1,p2,p3,p4] []:=
 F.binds λ kV doc pm an cdv ct us hl=>by
  obtain⟨a,r1,rfl,h1⟩:=g9 hl;obtain⟨b,r2,rfl,h2⟩:=g9 h1;obtain⟨c,r3,rfl,h3⟩:=g9 h2;obtain⟨d,r4,rfl,h4⟩:=g9 h3;cases vb h4;exact h kV doc pm an cdv ct a b c d
end
section
variable {X:Cx}
end
mutual
def CZ{α:List (Option Addr)}{G:Hp}:∀(n:Nat) {d:D} {v:V},pl n d=true->Rep α G d v->Rep [] G d v
 |_,.aF,_,_,h=>by unfold Rep at h⊢;exact h
 |_,.bl _,_,_,h=>by unfold Rep at h⊢;exact h
 |_,.int _,_,_,h=>by unfold Rep at h⊢;exact h
 |_,.str _,_,_,h=>by unfold Rep at h⊢;exact h
 |_,.ty _,_,p,_=>by unfold pl at p;cases p
 |_,.ref _,_,p,_=>by unfold pl at p;cases p
 |0,.lst _,_,p,_=>by unfold pl at p;cases p
 |0,.tup _,_,p,_=>by unfold pl at p;cases p
 |n+1,.lst xs,_,p,h=>by
  unfold pl at p;unfold Rep at h⊢;obtain⟨a,vs,e,_,r,q⟩:=h;exact⟨a,vs,e,by simp,r,r9 n p q⟩
 |n+1,.tup xs,_,p,h=>by
  unfold pl at p;unfold Rep at h⊢;obtain⟨a,vs,e,_,r,q⟩:=h;exact⟨a,vs,e,by simp,r,r9 n p q⟩
def r9{α:List (Option Addr)}{G:Hp}:∀(n:Nat) {ds:List D} {vs:List V},ds.all (pl n)=true->aG α G ds vs->aG [] G ds vs
 |_,[],_,_,h=>by unfold aG at h⊢;exact h
 |n,d::ds,_,p,h=>by
  rw[T_,SV]at p;unfold aG at h⊢;obtain⟨v,r,e,h1,h2⟩:=h;exact⟨v,r,e,CZ n p.1 h1,r9 n p.2 h2⟩
end
section
variable {X:Cx}
def wG(X:Cx):Cx:={X with xe:=λ _ _=>False}
end
variable {st:ag}{K:D->ag->Prop}{i j:Int}
section
variable {X:Cx}{pos:Pos}
end
end L3
namespace L3
open PySem L2
structure ClsAt(K:PySem.W.Frag)(mg:Str->Option Value)(x:Str)(C:Addr):Prop where
 cl:pS K C
 mg:mg x=some (.ref C)
 Rr:PySem.W.makesIn K C=true
 kp:PySem.W.keepIn K (.ref C)=true
structure MethAt(K:PySem.W.Frag)(C:Addr)(m qual:Str)(st:Stmt)(ps:List Str)(f:Addr)(fd:FuncData):Prop where
 fn:pG K m qual st f fd
 me:Meth K C m f
 bd:Binds K fd ps []
end L3
namespace Hd
open PySem PySem.W L2 L3
open PySem.Spec hiding items?
open PyProof.Rows hiding St
section
variable {K:Frag}{mg:Str->Option Value}{h:Heap}{x q:Str}{st:Stmt}{f c C:Addr}{pm:Value}{p1 p2 p3 p4 p5 p6:Str}
abbrev Ed(K:Frag)(x:Str)(st:Stmt)(f:Addr)(pm:Value)(c:Addr):Prop:=(nsIn K mainGlobals x,K.lookup f,codeIn K (.ref c) x,keepIn K (.ref f))=(some (some (.ref f)),some (fq st x x pm c),true,true)
abbrev Em(K:Frag)(C:Addr)(x q:Str)(st:Stmt)(f:Addr)(pm:Value)(c:Addr):Prop:=(findIn K (.ref C) x,isFn K (.ref f),K.lookup f,codeIn K (.ref c) q,keepIn K (.ref f))=(some (some (.ref f)),true,some (fq st x q pm c),true,true)
def Ed.fn(e:Ed K x st f pm c):pG K x x st f (fd st x x pm c)/\nsIn K mainGlobals x=some (some (.ref f)):=by
 obtain⟨e1,e2,e3,e4⟩:_/\_/\_/\_:=by simpa only[WZ]using e
 exact⟨Gb (st:=st) e2 e3 e4,e1⟩
def Em.fn(e:Em K C x q st f pm c):pG K x q st f (fd st x q pm c)/\Meth K C x f:=by
 obtain⟨e1,e2,e3,e4,e5⟩:_/\_/\_/\_/\_:=by simpa only[WZ]using e
 exact⟨Gb (st:=st) e3 e4 e5,e1,e2,e5⟩
def tm(X:K.In h)(G:h.Ns mainGlobals mg)(e:Ed K x st f pm c)(b:∀kV doc pm an cdv ct a,bindArgs (uB x x st kV doc pm an cdv ct) ⟨[a],[]⟩=pure [(p1,a)]):cH K mg x x st [p1] f (fd st x x pm c):=⟨e.fn.1,mg_of X G e.fn.2,Rq e.fn.1 b⟩
def oG(X:K.In h)(G:h.Ns mainGlobals mg)(e:Ed K x st f pm c)(b:∀kV doc pm an cdv ct a1 a2,bindArgs (uB x x st kV doc pm an cdv ct) ⟨[a1,a2],[]⟩=pure [(p1,a1),(p2,a2)]):cH K mg x x st [p1,p2] f (fd st x x pm c):=⟨e.fn.1,mg_of X G e.fn.2,Nu e.fn.1 b⟩
def AG(X:K.In h)(G:h.Ns mainGlobals mg)(e:Ed K x st f pm c)(b:∀kV doc pm an cdv ct a1 a2 a3,bindArgs (uB x x st kV doc pm an cdv ct) ⟨[a1,a2,a3],[]⟩=pure [(p1,a1),(p2,a2),(p3,a3)]):cH K mg x x st [p1,p2,p3] f (fd st x x pm c):=⟨e.fn.1,mg_of X G e.fn.2,Qc e.fn.1 b⟩
def Q7(X:K.In h)(G:h.Ns mainGlobals mg)(e:Ed K x st f pm c)(b:∀kV doc pm an cdv ct a1 a2 a3 a4,bindArgs (uB x x st kV doc pm an cdv ct) ⟨[a1,a2,a3,a4],[]⟩=pure [(p1,a1),(p2,a2),(p3,a3),(p4,a4)]):cH K mg x x st [p1,p2,p3,p4] f (fd st x x pm c):=⟨e.fn.1,mg_of X G e.fn.2,PB e.fn.1 b⟩
def PK(e:Em K C x q st f pm c)(b:∀kV doc pm an cdv ct a1 a2,bindArgs (uB x q st kV doc pm an cdv ct) ⟨[a1,a2],[]⟩=pure [(p1,a1),(p2,a2)]):MethAt K C x q st [p1,p2] f (fd st x q pm c):=⟨e.fn.1,e.fn.2,Nu e.fn.1 b⟩
def II(e:Em K C x q st f pm c)(b:∀kV doc pm an cdv ct a1 a2 a3,bindArgs (uB x q st kV doc pm an cdv ct) ⟨[a1,a2,a3],[]⟩=pure [(p1,a1),(p2,a2),(p3,a3)]):MethAt K C x q st [p1,p2,p3] f (fd st x q pm c):=⟨e.fn.1,e.fn.2,Qc e.fn.1 b⟩
def Q0(e:Em K C x q st f pm c)(b:∀kV doc pm an cdv ct a1 a2 a3 a4,bindArgs (uB x q st kV doc pm an cdv ct) ⟨[a1,a2,a3,a4],[]⟩=pure [(p1,a1),(p2,a2),(p3,a3),(p4,a4)]):MethAt K C x q st [p1,p2,p3,p4] f (fd st x q pm c):=⟨e.fn.1,e.fn.2,PB e.fn.1 b⟩
def fc(e:(K.lookup f,codeIn K (.ref c) q)=(some (fq st x q pm c),true)):ND K x q st f (fd st x q pm c) c:=by
 obtain⟨e1,e2⟩:_/\_:=by simpa only[WZ]using e
 exact⟨_,_,_,_,_,_,_,_,rfl,e1,e2⟩
def na{a:Str}(e:findIn K (.ref C) a=some none):g4 K C a:=e
end
end Hd
namespace L3
open PySem L2
open PySem.Spec hiding items?
open PyProof.Rows hiding St
section
variable {X:Cx}{pos:Pos}
end
end L3
namespace L3
open PySem L2
open PySem.Spec hiding items?
@[irreducible] def A6:d9:=λ x y st K=>∃(n:Nat) (xs:List D),x= .ref n/\st[n]?=some (.lst xs)/\xs.all (pl 39)=true/\pl 40 y=true/\K (.bl (!de (.lst xs) y)) st
def Ot{X:Cx}{k:Nat}(hr:du k X.A):cE X (compareOp .NotEq) (LR A6):=λ pins s σ H x y v u Q I rx ry ⟨α,d,e,st,K,G,F',P,r1,r2,S,q,k⟩=>by
 have hu:=hr.units;unfold A6 at q;obtain⟨n,xs,rfl,hn,h2,h3,q⟩:=q
 have r1':Rep [] G (.lst xs) x:=by
  obtain⟨a,ea,vs,g1,g2⟩:=S.gI hn;have:=eA ea r1;subst this;unfold Rep;exact⟨a,vs,rfl,by simp,.inl g1,r9 39 h2 g2⟩
 exact Jp I 40 X.A _ e x y v u (by unfold pl;exact h2) h3 (r1'.mono P.same) ((CZ 40 h3 r2).mono P.same) rx ry (by omega) _ _ _ _ ⟨.bl _,H,I,rfl,k.here P q S (by unfold Rep;rfl)⟩
def Mp{st:ag}{K:DK}{n:Nat}{xs:List D}{y:D}(h0:st[n]?=some (.lst xs))(h2:xs.all (pl 39)=true)(h3:pl 40 y=true)(k:K (.bl (!de (.lst xs) y)) st):A6 (.ref n) y st K:=by
 unfold A6;exact⟨n,xs,rfl,h0,h2,h3,k⟩
end L3
namespace L3
open PySem PySem.Spec L2
open PyProof.Rows hiding St
section
variable {X:Cx}{pos:Pos}
end
def Ct{X:Cx}{scope:Scope}{Nc:List Str}{C:Addr}{s0:Shared}{H0:Hp}{ex:List Addr}{k:Nat}(hr:du k X.A)(hs:X.stack=X.env::X.outer)(hgen:X.env.scope.isGenerator=false)(hco:X.env.scope.isCoroutine=false):cE (fT X scope Nc C s0 H0 ex) (binaryOp .FloorDiv) (LR jo):=by
 unfold jo;refine mN (g':=λ i j=> .int (i.fdiv j)) (λ _ _ _ _=>by unfold Rep;rfl) ?_;intro pins s σ H x y v u Q I rx ry h;obtain⟨i,j,rfl,rfl,hc,q⟩:=h;obtain⟨t,rfl⟩:=rx;obtain⟨t',rfl⟩:=ry;refine floordiv_int hc ⟨.int (i.fdiv j),H,I.tok _,⟨_,rfl⟩,q⟩ (.inr (PySem.PylongRoom.of I.nolimit ?_ ?_))
 . have:=hr.dp;show X.A.depth+100<_;omega
 . exact PySem.SeerAt.of (env:=X.env) (l:=X.outer) (I.mod.seer.keeps I.bk) I.ok.gt (I.ok.frames.trans (Tj some hs)) hgen hco I.ok.blt I.ok.glob
end L3
namespace L3
open PySem L2
open PySem.Spec hiding items?
open PyProof.Rows hiding St
section
variable {X:Cx}
def MG:V->List V->Hp->VK->Prop:=λ x vs H Q=>∃(l:Addr) (ns:List Int) (v:Int) (j:Nat),x= .ref l/\vs=[.int v]/\Rd H l (.lst (ns.map V.int))/\ns[j]?=some v/\(∀m,m<j->ns[m]?≠some v)/\Q (.int (j:Int)) H
def MM:NP X "list.index" MG:=by
 intro pins s σ H x vs v us Q I rx rv h;obtain⟨l,ns,v0,j,rfl,rfl,hl,ej,hf,q⟩:=h;cases rx;obtain⟨u,rfl,ru⟩:=vals1 rv;obtain⟨t,rfl⟩:=ru;obtain⟨z,its,n,r,hlen,e⟩:=Inv.se I hl;have hjn:j<ns.length:=(Rx.mp ej).1;rw[Rw]at hlen z;have hval:∀(i:Nat) (w:Value),its[i]?=some w->∃t,w=Value.int (ns.getD i 0) t:=λ i w hw=>jK r i w hw
 have at_:∀(i:Nat) (hi:i<its.toArray.size),isInt v0 its.toArray[i]=(ns.getD i 0==v0):=λ i hi=>by
  have hi':i<its.length:=by simpa using hi
  obtain⟨t,e⟩:=hval i its[i] (RJ hi');have:its.toArray[i]=its[i]:=by simp
  rw[this,e];rfl
 have gd:∀i,i<ns.length->ns[i]?=some (ns.getD i 0):=λ i hi=>by rw[RC,RJ hi];rfl
 have M:=MeetsSeq.list_index l its.toArray n (.int v0 t) (isInt v0) (λ y hy=>eq_isInt v0 t (z_ r) y (by simpa using hy)) j (by simpa using(by omega:j<its.length)) (by have:=TH;omega)
  (by rw[at_];have:=gd j hjn;rw[ej]at this;simpa using(SD this).symm)
  (λ m hm hmj=>by rw[at_];have h1:=gd m (by omega);have h2:=hf m hmj;rw[h1]at h2;exact TQ.mpr λ z=>h2 (Tj some z))
 refine UC F.slot_list_index ⟨_,e,rfl⟩ F.entry_list_index (F.args_list_index_2 _ _) M ⟨e,?_⟩;exact⟨.int (j:Int),H,I.kept (t':=s.toks+1) λ b o h=>h,⟨_,rfl⟩,q⟩
@[irreducible] def yt(to:DE)(ta:DA):DE:=λ σ st K=>to σ st λ x st1=>match x with
 | .lst xs=>ta σ st1 λ ds st2=>(match ds with| [.int v]=>∃(ns:List Int) (j:Nat),i5 xs=some ns/\ns[j]?=some v/\(∀m,m<j->ns[m]?≠some v)/\K (.int (j:Int)) st2|_=>False)
 |_=>False
def LE.idx{to:DE}{ta:DA}{σ:L2.St}{H:Hp}{Q:VK}(h:LE (yt to ta) σ H Q):Jg X.K "list" MG (LE to) (LA ta) σ H Q:=by
 obtain⟨α,σd,st,K,G,F,P,R,S,t,k⟩:=h;unfold yt at t;refine⟨α,σd,st,_,G,F,P,R,S,t,λ x st1 q α1 G1 H1 v s1 P1 S1 r1=>?_⟩;cases x<;>try exact q.elim
 rename_i xs;simp only at q;unfold Rep at r1;obtain⟨a,vs,rfl,na,h1,h2⟩:=r1;refine⟨.inl ⟨rfl,vs,.inl (fK P1 h1)⟩,α1,σd,st1,_,G1,F,P1,R.step s1,S1,q,?_⟩;rintro ds st2 q2 α2 G2 H2 ws s2 P2 S2 r2;split at q2
 . rename_i v0;obtain⟨ns,j,e1,e2,e3,q2⟩:=q2;have hv:=nZ h2 e1;subst hv;obtain⟨w,rfl,r3⟩:=gL r2 rfl;unfold Rep at r3;subst r3
   have h3:Rd G2 a (.lst (ns.map V.int)):=by
    rcases h1 with h|⟨o,h⟩
    . exact .inl (s2.ext _ _ na h)
    . exact .inr ⟨o,s2.ext _ _ na h⟩
   exact⟨a,ns,v0,j,rfl,rfl,fK P2 h3,e2,e3,((k.at s1).at s2).here P2 q2 S2 (by unfold Rep;rfl)⟩
 . exact q2.elim
def OZ{o e:Expr}{to te:DE}{apos cpos:Pos}(ho:JE X o to)(he:JE X e te)(hbase:attributeBase o "index" X.env (eval o X.env)=eval o X.env:=by rfl)(hline:(apos.endLine==cpos.line)=true:=by rfl)(hs:notStar e=true:=by rfl):JE X (.Call (.Attribute o "index" apos) [e] [] cpos) (yt to (af te ak)):=by
 unfold JE at*;refine PE.imp (Dk Vf PySem.F.slot_list_index PySem.F.type_list_index MM ho (rR he ur (cQ hs)) hbase ?_ hline (cQ hs) rfl) λ _ _ _ h=>LE.idx h;rw[cQ hs];rfl
end
def M_(xs:List D)(K:DK):List D->ag->Prop:=λ ds st2=>match ds with
 | [.int v]=>∃(ns:List Int) (j:Nat),i5 xs=some ns/\ns[j]?=some v/\(∀m,m<j->ns[m]?≠some v)/\K (.int (j:Int)) st2
 |_=>False
def KW{σ:ck}{st:ag}{K:DK}{xs:List D}{to:DE}{ta:DA}(ho:∀K',K' (.lst xs) st->to σ st K')(ha:ta σ st (M_ xs K)):yt to ta σ st K:=by
 unfold yt;exact ho _ ha
def JR{st:ag}{K:DK}{xs:List D}{ns:List Int}{v:Int}(hn:i5 xs=some ns)(hv:v∈ns)(k:∀j:Nat,j<ns.length->ns[j]?=some v->K (.int (j:Int)) st):M_ xs K [.int v] st:=by
 have wo:∀j:Nat,ns[j]?=some v->∃j:Nat,ns[j]?=some v/\∀m,m<j->ns[m]?≠some v:=λ j=>by
  induction j using Nat.strongRecOn with
  |_ j ih=>
   intro hj;by_cases h:∃m,m<j/\ns[m]?=some v
   . obtain⟨m,h1,h2⟩:=h;exact ih m h1 h2
   . exact⟨j,hj,λ m hm z=>h ⟨m,hm,z⟩⟩
 obtain⟨i,hi,e⟩:=RQ.mp hv;obtain⟨j,h1,h2⟩:=wo i (by rw[RJ hi,e]);exact⟨ns,j,hn,h1,h2,k j (Rx.mp h1).1 h1⟩
end L3
namespace Mx
def S:Nat->(Nat->Int)->Int
 |0,_=>0
 |n+1,f=>S n f+f n
def aq{n:Nat}{f g:Nat->Int}(h:∀i,i<n->f i=g i):S n f=S n g:=by
 induction n with
 |zero=>rfl
 |succ n ih=>unfold S;rw[ih λ i hi=>h i (by omega),h n (by omega)]
def gf{n:Nat}{f:Nat->Int}(h:∀i,i<n->f i=0):S n f=0:=by
 induction n with
 |zero=>rfl
 |succ n ih=>unfold S;rw[ih λ i hi=>h i (by omega),h n (by omega)];rfl
def fu(n:Nat)(f g:Nat->Int):S n (λ i=>f i+g i)=S n f+S n g:=by
 induction n with
 |zero=>rfl
 |succ n ih=>unfold S;rw[ih];dsimp only;omega
def c7(n:Nat)(c:Int)(f:Nat->Int):S n (λ i=>c*f i)=c*S n f:=by
 induction n with
 |zero=>unfold S;rw[Sf]
 |succ n ih=>unfold S;rw[ih,VV]
def jL(n:Nat)(c:Int)(f:Nat->Int):S n (λ i=>f i*c)=S n f*c:=by
 induction n with
 |zero=>unfold S;rw[SH]
 |succ n ih=>unfold S;rw[ih,VW]
def oZ(n:Nat)(f:Nat->Int):S n (λ i=> -f i)= -S n f:=by
 induction n with
 |zero=>rfl
 |succ n ih=>unfold S;rw[ih];dsimp only;omega
def iE(m n:Nat)(f:Nat->Nat->Int):S m (λ i=>S n λ j=>f i j)=S n λ j=>S m λ i=>f i j:=by
 induction m with
 |zero=>exact(gf (n:=n) (λ i _=>rfl)).symm
 |succ m ih=>
  have:S n (λ j=>S (m+1) λ i=>f i j)=S n λ j=>(S m λ i=>f i j)+f m j:=aq λ j _=>rfl;rw[this,fu,<-ih];rfl
def kv{n:Nat}{k:Nat}(hk:k<n){f:Nat->Int}(h:∀i,i<n->i≠k->f i=0):S n f=f k:=by
 induction n with
 |zero=>omega
 |succ n ih=>
  unfold S;by_cases e:k=n
  . subst e;rw[gf λ i hi=>h i (by omega) (by omega),TV]
  . rw[ih (by omega) λ i hi hn=>h i (by omega) hn,h n (by omega) (by omega),Tt]
def As(n:Nat)(f:Nat->Int):S (n+1) f=f 0+S n λ i=>f (i+1):=by
 induction n with
 |zero=>unfold S S;omega
 |succ n ih=>
  have:S (n+1+1) f=S (n+1) f+f (n+1):=rfl;rw[this,ih];have:S (n+1) (λ i=>f (i+1))=S n (λ i=>f (i+1))+f (n+1):=rfl;rw[this];omega
def dl(i j:Nat):Int:=if i=j then 1 else 0
def dS(i:Nat):dl i i=1:=RF rfl
def dO{i j:Nat}(h:i≠j):dl i j=0:=RE h
def jX{n k:Nat}(hk:k<n)(f:Nat->Int):S n (λ i=>dl k i*f i)=f k:=by
 rw[kv hk (λ i _ h=>by rw[dO (RO h),SH]),dS,Vr]
def mj{n k:Nat}(hk:k<n)(f:Nat->Int):S n (λ i=>f i*dl i k)=f k:=by
 rw[kv hk (λ i _ h=>by rw[dO h,Sf]),dS,Vo]
abbrev Row:=List Int
abbrev Rows:=List (List Int)
def g(A:Rows)(i j:Nat):Int:=(A.getD i []).getD j 0
structure bK(m n:Nat)(A:Rows):Prop where
 len:A.length=m
 dh:∀r∈A,r.length=n
def ax{α:Type}{l:List α}{i:Nat}{d:α}(h:i<l.length):l.getD i d=l[i]:=by
 rw[RC,RJ h];rfl
def jv{α:Type}{l:List α}{i:Nat}{d:α}(h:l.length<=i):l.getD i d=d:=by
 rw[RC,WO h];rfl
def xY{a b:Row}{n:Nat}(ha:a.length=n)(hb:b.length=n)(h:∀j,j<n->a.getD j 0=b.getD j 0):a=b:=by
 refine Wm (by omega) λ i h1 h2=>?_;have:=h i (by omega);rwa [ax h1,ax h2]at this
def bK.row{m n:Nat}{A:Rows}(h:bK m n A){i:Nat}(hi:i<m):(A.getD i []).length=n:=by
 have hl:=h.len;rw[ax (by omega)];exact h.dh _ (R0 _)
def bK.ext{m n:Nat}{A B:Rows}(ha:bK m n A)(hb:bK m n B)(h:∀i j,i<m->j<n->g A i j=g B i j):A=B:=by
 have h1:=ha.len;have h2:=hb.len;refine Wm (by omega) λ i hi hj=>?_;have e1:=ha.row (i:=i) (by omega);have e2:=hb.row (i:=i) (by omega);have:=xY e1 e2 λ j hj=>h i j (by omega) hj;rwa [ax hi,ax hj]at this
def dN(r:Row)(t:Int)(s:Row):Row:=List.zipWith (λ a b=>a+t*b) r s
def i9{r s:Row}{t:Int}(h:r.length=s.length):(dN r t s).length=r.length:=by unfold dN;simp[h]
def nH{r s:Row}{t:Int}(h:r.length=s.length)(j:Nat):(dN r t s).getD j 0=r.getD j 0+t*s.getD j 0:=by
 unfold dN;by_cases hj:j<r.length
 . rw[ax (by simp;omega),ax hj,ax (by omega)];simp
 . rw[jv (by simp;omega),jv (by omega),jv (by omega)];simp
def fD:Row->Rows->Row->Row
 |w::ws,r::rs,acc=>fD ws rs (dN acc w r)
 |_,_,acc=>acc
def uc{n:Nat}:∀ {ws:Row} {rs:Rows} {acc:Row},acc.length=n->(∀r∈rs,r.length=n)->(fD ws rs acc).length=n
 | [],_,acc,h,_=>by unfold fD;exact h
 |_::_,[],acc,h,_=>by unfold fD;exact h
 |w::ws,r::rs,acc,h,hr=>by
  unfold fD;refine uc ?_ λ r hr'=>hr r (R8 _ hr');rw[i9 (by rw[h,hr r R7]),h]
def sr{n:Nat}:∀ {ws:Row} {rs:Rows} {acc:Row} (j:Nat),acc.length=n->(∀r∈rs,r.length=n)->ws.length=rs.length->(fD ws rs acc).getD j 0=acc.getD j 0+S rs.length λ k=>ws.getD k 0*g rs k j
 | [],[],acc,j,h,_,_=>by unfold fD;show _=_+(0:Int);rw[Tt]
 | [],_::_,acc,j,h,_,hl=>by cases hl
 |_::_,[],acc,j,h,_,hl=>by cases hl
 |w::ws,r::rs,acc,j,h,hr,hl=>by
  have e1:acc.length=r.length:=by rw[h,hr r R7]
  unfold fD;rw[sr j (by rw[i9 e1,h]) (λ r hr'=>hr r (R8 _ hr')) (by simpa using hl),nH e1,Sl,As]
  have:(λ k=>(w::ws).getD (k+1) 0*g (r::rs) (k+1) j)=λ k=>ws.getD k 0*g rs k j:=by
   funext k;unfold g;simp
  rw[this];unfold g;simp;omega
def mulM(A B:Rows)(n:Nat):Rows:=A.map λ w=>fD w B (List.replicate n 0)
def eA(n j:Nat):(List.replicate n (0:Int)).getD j 0=0:=by
 by_cases h:j<n
 . rw[ax (by simpa using h)];simp
 . rw[jv (by simp;omega)]
def yx{m p n:Nat}{A B:Rows}(ha:bK m p A)(hb:bK p n B):bK m n (mulM A B n):=by
 refine⟨by unfold mulM;rw[Rw];exact ha.len,λ r hr=>?_⟩;unfold mulM at hr;obtain⟨w,_,rfl⟩:=RZ.mp hr;exact uc (by simp) hb.dh
def map_getD{α:Type}{f:Row->List α}{A:Rows}{i:Nat}(h:i<A.length):(A.map f).getD i []=f (A.getD i []):=by
 rw[ax (by simpa using h),ax h];simp
def yn{m p n:Nat}{A B:Rows}(ha:bK m p A)(hb:bK p n B){i:Nat}(hi:i<m)(j:Nat):g (mulM A B n) i j=S p λ k=>g A i k*g B k j:=by
 have hl:=ha.len;show((mulM A B n).getD i []).getD j 0=_;unfold mulM;rw[map_getD (by omega),sr (n:=n) j (by simp) hb.dh (by rw[ha.row hi,hb.len]),eA,TV,hb.len];rfl
def d_(n i:Nat):Row:=(List.range n).map λ k=>dl k i
def units(n:Nat):Rows:=(List.range n).map λ i=>d_ n i
def range_getD{α:Type}{f:Nat->α}{n i:Nat}{d:α}(h:i<n):((List.range n).map f).getD i d=f i:=by
 rw[ax (by simpa using h)];simp
def iP(n:Nat):bK n n (units n):=⟨by simp[units],λ r hr=>by unfold units at hr;obtain⟨i,_,rfl⟩:=RZ.mp hr;simp[d_]⟩
def fN{n i j:Nat}(hi:i<n)(hj:j<n):g (units n) i j=dl i j:=by
 unfold g units d_;rw[range_getD hi,range_getD hj];unfold dl;by_cases h:i=j
 . subst h;rfl
 . rw[RE (RO h),RE h]
def ox(A:Rows)(j:Nat):Row:=A.map λ r=>r.getD j 0
def cF(A:Rows)(n:Nat):Rows:=(List.range n).map λ j=>ox A j
def jV{m n:Nat}{A:Rows}(ha:bK m n A):bK n m (cF A n):=⟨by simp[cF],λ r hr=>by
 unfold cF at hr;obtain⟨j,_,rfl⟩:=RZ.mp hr;unfold ox;rw[Rw,ha.len]⟩
def Km{A:Rows}{i:Nat}(j:Nat)(h:i<A.length):(ox A j).getD i 0=g A i j:=by
 unfold ox g;rw[ax (by simpa using h),ax h];simp
def ji{m n:Nat}{A:Rows}(ha:bK m n A){i j:Nat}(hi:i<m)(hj:j<n):g (cF A n) j i=g A i j:=by
 show((cF A n).getD j []).getD i 0=_;unfold cF;rw[range_getD hj,Km j (by rw[ha.len];exact hi)]
def dX:Row->Row->Int
 |a::as,b::bs=>a*b+dX as bs
 |_,_=>0
def wB:∀ {a b:Row},a.length=b.length->dX a b=S b.length λ k=>a.getD k 0*b.getD k 0
 | [],[],_=>rfl
 | [],_::_,h=>by cases h
 |_::_,[],h=>by cases h
 |x::a,y::b,h=>by
  unfold dX;rw[wB (by simpa using h),Sl,As];simp
structure TB(n:Nat)(T B:Rows):Prop where
 t:bK n n T
 b:bK n n B
 tb:∀i j,i<n->j<n->S n (λ k=>g T i k*g B k j)=dl i j
 bt:∀i j,i<n->j<n->S n (λ k=>g B i k*g T k j)=dl i j
def rP(i j:Nat):dl i j=dl j i:=by
 unfold dl;by_cases h:i=j
 . rw[RF h,RF h.symm]
 . rw[RE h,RE (RO h)]
def TB.units(n:Nat):TB n (units n) (units n) where
 t:=iP n
 b:=iP n
 tb:=λ i j hi hj=>by
  have:S n (λ k=>g (Mx.units n) i k*g (Mx.units n) k j)=S n λ k=>dl i k*dl k j:=aq λ k hk=>by rw[fN hi hk,fN hk hj]
  rw[this,jX hi]
 bt:=λ i j hi hj=>by
  have:S n (λ k=>g (Mx.units n) i k*g (Mx.units n) k j)=S n λ k=>dl i k*dl k j:=aq λ k hk=>by rw[fN hi hk,fN hk hj]
  rw[this,jX hi]
def TB.add{n i j:Nat}{c:Int}{T B T' B':Rows}(h:TB n T B)(hi:i<n)(hj:j<n)(hij:i≠j)(ht:bK n n T')(hb:bK n n B')(et:∀a k,a<n->k<n->g T' a k=g T a k+dl a j*c*g T i k)(eb:∀k b,k<n->b<n->g B' k b=g B k b-dl b i*c*g B k j):TB n T' B' where
 t:=ht
 b:=hb
 tb:=λ a b ha hb'=>by
  have:S n (λ k=>g T' a k*g B' k b)=S n λ k=>g T a k*g B k b+(dl a j*c)*(g T i k*g B k b)+(-(dl b i*c))*(g T a k*g B k j)+(-(dl a j*c*(dl b i*c)))*(g T i k*g B k j):=aq λ k hk=>by
   rw[et a k ha hk,eb k b hk hb'];simp only[VW,Int.mul_sub,TJ,SN,VV,Int.mul_neg];simp only[So,SI,Int.mul_left_comm];omega
  rw[this,fu,fu,fu,c7,c7,c7,h.tb a b ha hb',h.tb i b hi hb',h.tb a j ha hj,h.tb i j hi hj,dO hij];rw[Sf,Tt,rP i b,rP a j]
  have:dl j a*c*dl b i+ -(dl b i*c)*dl j a=0:=by
   rw[TJ,SI (dl b i*c),<-So,So,So,SI c];omega
  omega
 bt:=λ a b ha hb'=>by
  have:S n (λ k=>g B' a k*g T' k b)=S n λ k=>g B a k*g T k b+(c*g T i b)*(g B a k*dl k j)+(-(c*g B a j))*(g T k b*dl k i)+(-(c*g B a j*(c*g T i b)))*(dl k i*dl k j):=aq λ k hk=>by
   rw[et k b hk hb',eb a k ha hk];simp only[Vs,VV,TJ,SN,VW];simp only[So,SI,Int.mul_left_comm];omega
  rw[this,fu,fu,fu,c7,c7,c7,h.bt a b ha hb',mj hj,mj hi]
  have e0:S n (λ k=>dl k i*dl k j)=0:=gf λ k _=>by
   by_cases hk:k=i
   . subst hk;rw[dO hij,Sf]
   . rw[dO hk,SH]
  rw[e0,Sf,Tt]
  have:c*g T i b*g B a j+ -(c*g B a j)*g T i b=0:=by
   rw[TJ,Int.mul_right_comm];omega
  omega
def sw(i j k:Nat):Nat:=if k=i then j else if k=j then i else k
def QI{n i j:Nat}(hi:i<n)(hj:j<n)(hij:i≠j)(f:Nat->Int):S n (λ k=>f (sw i j k))=S n f:=by
 have:S n (λ k=>f (sw i j k))=S n λ k=>f k+(f j-f i)*dl k i+(f i-f j)*dl k j:=aq λ k _=>by
  unfold sw;by_cases h1:k=i
  . subst h1;rw[RF rfl,dS,dO hij];omega
  . rw[RE h1,dO h1];by_cases h2:k=j
    . subst h2;rw[RF rfl,dS];omega
    . rw[RE h2,dO h2];omega
 rw[this,fu,fu,mj (f:=λ _=>f j-f i) hi,mj (f:=λ _=>f i-f j) hj];omega
def M6{A:Rows}{i:Nat}{r:Row}(hi:i<A.length)(a k:Nat):g (A.set i r) a k=if a=i then r.getD k 0 else g A a k:=by
 have e:(A.set i r).getD a []=if a=i then r else A.getD a []:=by
  rw[RC,RC];by_cases h:a=i
  . subst h;rw[RF rfl,RK hi];rfl
  . rw[RE h,RB (RO h)]
 unfold g;rw[e];by_cases h:a=i
 . rw[RF h,RF h]
 . rw[RE h,RE h]
def M7{m n i:Nat}{A:Rows}{r:Row}(h:bK m n A)(hr:r.length=n):bK m n (A.set i r):=⟨by rw[RY];exact h.len,λ q hq=>by
 rcases Sy hq with z|rfl
 . exact h.dh q z
 . exact hr⟩
def JP{m n:Nat}{A:Rows}{f:Row->Row}(h:bK m n A)(hf:∀r,r.length=n->(f r).length=n):bK m n (A.map f):=⟨by rw[Rw];exact h.len,λ q hq=>by
 obtain⟨r,hr,rfl⟩:=RZ.mp hq;exact hf r (h.dh r hr)⟩
def J8{m n:Nat}{A:Rows}{f:Row->Row}(h:bK m n A){k:Nat}(hk:k<m)(b:Nat):g (A.map f) k b=(f (A.getD k [])).getD b 0:=by
 have:=h.len;unfold g;rw[map_getD (by omega)]
def Ls{r:Row}{i:Nat}{x:Int}(hi:i<r.length)(b:Nat):(r.set i x).getD b 0=if b=i then x else r.getD b 0:=by
 rw[RC,RC (l:=r)];by_cases h:b=i
 . subst h;rw[RF rfl,RK hi];rfl
 . rw[RE h,RB (RO h)]
def Me(T:Rows)(j:Nat)(c:Int)(i:Nat):Rows:=T.set j (dN (T.getD j []) c (T.getD i []))
def wc(i:Nat)(c:Int)(j:Nat)(r:Row):Row:=r.set i (r.getD i 0-c*r.getD j 0)
def TB.QN{n i j:Nat}{c:Int}{T B:Rows}(h:TB n T B)(hi:i<n)(hj:j<n)(hij:i≠j):TB n (Me T j c i) (B.map (wc i c j)):=by
 have hr:=h.t.row hi;have hrj:=h.t.row hj;have lt:=h.t.len;refine h.add (c:=c) hi hj hij (M7 h.t (by rw[i9 (by omega)];exact hrj)) (JP h.b λ r e=>by unfold wc;rw[RY];exact e) (λ a k ha hk=>?_) λ k b hk hb=>?_
 . unfold Me;rw[M6 (by omega)];split
   . rename_i e;subst e;rw[nH (by omega),dS,Vr];rfl
   . rename_i e;rw[dO e];simp
 . rw[J8 h.b hk];unfold wc;rw[Ls (by rw[h.b.row hk];exact hi)];split
   . rename_i e;subst e;rw[dS,Vr];rfl
   . rename_i e;rw[dO e];simp;rfl
abbrev Fn:=Nat->Nat->Int
def sk(j c:Nat):Nat:=if c<j then c else c+1
def sg(j:Nat):Int:=if j%2=0 then 1 else-1
def yb(j:Nat):sg (j+1)= -sg j:=by unfold sg;split<;>split<;>omega
def yz:sg 0=1:=rfl
def my{j c n:Nat}(h:c<n):sk j c<n+1:=by unfold sk;split<;>omega
def Ov{j k c:Nat}(h:k<j):sk j (sk k c)=sk k (sk (j-1) c):=by unfold sk;grind
def D:Nat->Fn->Int
 |0,_=>1
 |n+1,M=>S (n+1) λ j=>sg j*M 0 j*D n λ r c=>M (r+1) (sk j c)
def Fb(M:Fn):D 0 M=1:=rfl
def eV(n:Nat)(M:Fn):D (n+1) M=S (n+1) λ j=>sg j*M 0 j*D n λ r c=>M (r+1) (sk j c):=rfl
def dv:∀ {n:Nat} {M M':Fn},(∀r c,r<n->c<n->M r c=M' r c)->D n M=D n M'
 |0,_,_,_=>rfl
 |n+1,M,M',h=>by
  rw[eV,eV];refine aq λ j hj=>?_;have e:D n (λ r c=>M (r+1) (sk j c))=D n (λ r c=>M' (r+1) (sk j c)):=dv λ r c hr hc=>h (r+1) (sk j c) (by omega) (my hc);rw[h 0 j (by omega) hj,e]
def Jw:∀ {n:Nat} {M P Q:Fn} {a b:Int} {i:Nat},i<n->(∀c,c<n->M i c=a*P i c+b*Q i c)->(∀r c,r<n->c<n->r≠i->M r c=P r c/\M r c=Q r c)->D n M=a*D n P+b*D n Q
 |0,_,_,_,_,_,_,h,_,_=>by omega
 |n+1,M,P,Q,a,b,0,_,h0,h=>by
  rw[eV,eV,eV,<-c7,<-c7,<-fu];refine aq λ j hj=>?_;have e1:D n (λ r c=>M (r+1) (sk j c))=D n (λ r c=>P (r+1) (sk j c)):=dv λ r c hr hc=>(h (r+1) (sk j c) (by omega) (my hc) (by omega)).1;have e2:D n (λ r c=>M (r+1) (sk j c))=D n (λ r c=>Q (r+1) (sk j c)):=dv λ r c hr hc=>(h (r+1) (sk j c) (by omega) (my hc) (by omega)).2;rw[h0 j hj,<-e1,<-e2];grind
 |n+1,M,P,Q,a,b,i+1,hi,h0,h=>by
  rw[eV,eV,eV,<-c7,<-c7,<-fu];refine aq λ j hj=>?_;have e:=Jw (n:=n) (M:=λ r c=>M (r+1) (sk j c)) (P:=λ r c=>P (r+1) (sk j c)) (Q:=λ r c=>Q (r+1) (sk j c)) (a:=a) (b:=b) (i:=i) (by omega) (λ c hc=>h0 (sk j c) (my hc)) λ r c hr hc hne=>h (r+1) (sk j c) (by omega) (my hc) (by omega);have p:=h 0 j (by omega) hj (by omega);rw[e,<-p.1,<-p.2];grind
def QS{n:Nat}{M:Fn}(h:∀c,c<n+2->M 0 c=M 1 c):D (n+2) M=0:=by
 let T:Nat->Nat->Int:=λ j k=>sg j*M 0 j*(sg k*M 1 (sk j k)*D n λ r c=>M (r+2) (sk j (sk k c)))
 have e1:∀j,j<n+2->sg j*M 0 j*D (n+1) (λ r c=>M (r+1) (sk j c))=S (n+1) λ k=>T j k:=λ j hj=>by
  rw[eV,<-c7]
 rw[eV,aq e1]
 have e2:∀j,j<n+2->S (n+1) (λ k=>T j k)=S (n+1) (λ k=>if k<j then T j k else 0)+S (n+1) (λ k=>if k<j then 0 else T j k):=λ j _=>by
  rw[<-fu];refine aq λ k _=>?_;split<;>omega
 rw[aq e2,fu]
 have e3:∀j k,j<n+2->k<n+1->¬k<j->T j k= -T (k+1) j:=λ j k hj hk hjk=>by
  have s1:sk (k+1) j=j:=by unfold sk;rw[RF (by omega)]
  have s2:sk j k=k+1:=by unfold sk;rw[RE hjk]
  have s3:(λ r c=>M (r+2) (sk (k+1) (sk j c)))=λ r c=>M (r+2) (sk j (sk k c)):=by
   funext r c;rw[Ov (show j<k+1 by omega)];rfl
  show sg j*M 0 j*(sg k*M 1 (sk j k)*D n λ r c=>M (r+2) (sk j (sk k c)))= -(sg (k+1)*M 0 (k+1)*(sg j*M 1 (sk (k+1) j)*D n λ r c=>M (r+2) (sk (k+1) (sk j c))));rw[s1,s2,s3,yb,<-h j hj,<-h (k+1) (by omega)];grind
 have e4:S (n+2) (λ j=>S (n+1) λ k=>if k<j then 0 else T j k)= -S (n+2) (λ j=>S (n+1) λ k=>if k<j then T j k else 0):=by
  rw[iE,As (n+1) (λ j=>S (n+1) λ k=>if k<j then T j k else 0)];have z:S (n+1) (λ k=>if k<0 then T 0 k else 0)=0:=gf λ k _=>RE (by omega);rw[z,TV,<-oZ];refine aq λ k hk=>?_;have:S (n+2) (λ j=>if k<j then 0 else T j k)=S (n+1) (λ j=>if k<j then 0 else T j k)+(if k<n+1 then 0 else T (n+1) k):=rfl;rw[this,RF hk,Tt,<-oZ];refine aq λ j hj=>?_;by_cases hkj:k<j
  . rw[RF hkj,RE (by omega)];rfl
  . rw[RE hkj,RF (by omega)];exact e3 j k (by omega) hk hkj
 rw[e4];omega
def Jk:∀ {n:Nat} {M:Fn} {i:Nat},i+1<n->(∀c,c<n->M i c=M (i+1) c)->D n M=0
 |0,_,_,h,_=>by omega
 |1,_,_,h,_=>by omega
 |n+2,M,0,_,h=>QS h
 |n+2,M,i+1,hi,h=>by
  rw[eV];refine gf λ j hj=>?_;rw[Jk (n:=n+1) (M:=λ r c=>M (r+1) (sk j c)) (i:=i) (by omega) λ c hc=>h (sk j c) (my hc),Sf]
structure Alt(n:Nat)(φ:Fn->Int):Prop where
 cg:∀M M':Fn,(∀r c,r<n->c<n->M r c=M' r c)->φ M=φ M'
 kG:∀(i:Nat) (M P Q:Fn) (a b:Int),i<n->(∀c,c<n->M i c=a*P i c+b*Q i c)->(∀r c,r<n->c<n->r≠i->M r c=P r c/\M r c=Q r c)->φ M=a*φ P+b*φ Q
 alt:∀(i j:Nat) (M:Fn),i<n->j<n->i≠j->(∀c,c<n->M i c=M j c)->φ M=0
def upd(M:Fn)(i:Nat)(x:Nat->Int):Fn:=λ r c=>if r=i then x c else M r c
def cN(M:Fn)(i:Nat)(x:Nat->Int)(c:Nat):upd M i x i c=x c:=RF rfl
def aB{M:Fn}{i r:Nat}{x:Nat->Int}(h:r≠i)(c:Nat):upd M i x r c=M r c:=RE h
def P9{n i j:Nat}{φ:Fn->Int}(cg:∀M M':Fn,(∀r c,r<n->c<n->M r c=M' r c)->φ M=φ M')
 (kG:∀(i:Nat) (M P Q:Fn) (a b:Int),i<n->(∀c,c<n->M i c=a*P i c+b*Q i c)->(∀r c,r<n->c<n->r≠i->M r c=P r c/\M r c=Q r c)->φ M=a*φ P+b*φ Q)
 (hi:i<n) (hj:j<n) (hij:i≠j) (alt:∀N:Fn,(∀c,c<n->N i c=N j c)->φ N=0) (M:Fn):φ (λ r=>M (sw i j r))= -φ M:=by
 have l1:φ (upd (upd M i λ c=>M i c+M j c) j λ c=>M i c+M j c)=1*φ (upd (upd M i (M i)) j λ c=>M i c+M j c)+1*φ (upd (upd M i (M j)) j λ c=>M i c+M j c):=
  kG i _ _ _ 1 1 hi (λ c _=>by rw[aB hij,aB hij,aB hij,cN,cN,cN];omega) λ r c _ _ hr=>by
   unfold upd;grind
 have l2:∀x:Nat->Int,φ (upd (upd M i x) j λ c=>M i c+M j c)=1*φ (upd (upd M i x) j (M i))+1*φ (upd (upd M i x) j (M j)):=λ x=>
  kG j _ _ _ 1 1 hj (λ c _=>by rw[cN,cN,cN];omega) λ r c _ _ hr=>by
   rw[aB hr,aB hr,aB hr];exact⟨rfl,rfl⟩
 have z0:φ (upd (upd M i λ c=>M i c+M j c) j λ c=>M i c+M j c)=0:=alt _ λ c _=>by rw[aB hij,cN,cN]
 have z1:φ (upd (upd M i (M i)) j (M i))=0:=alt _ λ c _=>by rw[aB hij,cN,cN]
 have z2:φ (upd (upd M i (M j)) j (M j))=0:=alt _ λ c _=>by rw[aB hij,cN,cN]
 have s1:φ (upd (upd M i (M i)) j (M j))=φ M:=cg _ _ λ r c _ _=>by
  unfold upd;split
  . rename_i e;rw[e]
  . split
    . rename_i e;rw[e]
    . rfl
 have s2:φ (upd (upd M i (M j)) j (M i))=φ (λ r=>M (sw i j r)):=cg _ _ λ r c _ _=>by
  unfold upd sw;by_cases h1:r=j
  . rw[RF h1];by_cases h2:r=i
    . omega
    . rw[RE h2,RF h1]
  . rw[RE h1];by_cases h2:r=i
    . rw[RF h2,RF h2]
    . rw[RE h2,RE h2,RE h1]
 have a1:=l2 (M i);have a2:=l2 (M j);rw[z1,s1]at a1;rw[z2,s2]at a2;rw[z0,a1,a2]at l1;omega
def Alt.swap{n i j:Nat}{φ:Fn->Int}(A:Alt n φ)(hi:i<n)(hj:j<n)(hij:i≠j)(M:Fn):φ (λ r=>M (sw i j r))= -φ M:=
 P9 A.cg A.kG hi hj hij (λ N h=>A.alt i j N hi hj hij h) M
def xF{n:Nat}{φ:Fn->Int}(cg:∀M M':Fn,(∀r c,r<n->c<n->M r c=M' r c)->φ M=φ M')
 (kG:∀(i:Nat) (M P Q:Fn) (a b:Int),i<n->(∀c,c<n->M i c=a*P i c+b*Q i c)->(∀r c,r<n->c<n->r≠i->M r c=P r c/\M r c=Q r c)->φ M=a*φ P+b*φ Q)
 (adj:∀(i:Nat) (M:Fn),i+1<n->(∀c,c<n->M i c=M (i+1) c)->φ M=0):Alt n φ:=by
 have far:∀(d i:Nat) (M:Fn),i+d+1<n->(∀c,c<n->M i c=M (i+d+1) c)->φ M=0:=by
  intro d;induction d with
  |zero=>exact λ i M h1 h2=>adj i M h1 h2
  |succ d ih=>
   intro i M h1 h2;have hs:=P9 cg kG (i:=i+d+1) (j:=i+d+1+1) (by omega) (by omega) (by omega) (λ N h=>adj (i+d+1) N (by omega) h) M
   have:φ (λ r=>M (sw (i+d+1) (i+d+1+1) r))=0:=ih i _ (by omega) λ c hc=>by
    have e1:sw (i+d+1) (i+d+1+1) i=i:=by unfold sw;rw[RE (by omega),RE (by omega)]
    have e2:sw (i+d+1) (i+d+1+1) (i+d+1)=i+d+1+1:=by unfold sw;rw[RF rfl]
    rw[e1,e2];exact h2 c hc
   omega
 refine⟨cg,kG,λ i j M hi hj hij h=>?_⟩;by_cases hlt:i<j
 . obtain⟨d,rfl⟩:∃d,j=i+d+1:=⟨j-i-1,by omega⟩
   exact far d i M hj h
 . obtain⟨d,rfl⟩:∃d,i=j+d+1:=⟨i-j-1,by omega⟩
   exact far d j M hi λ c hc=>(h c hc).symm
def qy(n:Nat):Alt n (D n):=xF (λ _ _ h=>dv h) (λ _ _ _ _ _ _ hi h0 h=>Jw hi h0 h) λ _ _ h1 h2=>Jk h1 h2
def Alt.NV{n i:Nat}{φ:Fn->Int}(A:Alt n φ)(hi:i<n){M:Fn}(h:∀c,c<n->M i c=0):φ M=0:=by
 have:=A.kG i M M M 0 0 hi (λ c hc=>by rw[h c hc];rfl) λ _ _ _ _ _=>⟨rfl,rfl⟩
 omega
def Alt.Gu{n i:Nat}{φ:Fn->Int}(A:Alt n φ)(hi:i<n)(M:Fn)(t:Int)(x:Nat->Int):φ (upd M i λ c=>t*x c)=t*φ (upd M i x):=by
 have:=A.kG i (upd M i λ c=>t*x c) (upd M i x) (upd M i x) t 0 hi (λ c hc=>by rw[cN,cN];omega) λ r c _ _ hr=>by rw[aB hr,aB hr];exact⟨rfl,rfl⟩
 omega
def Alt.E6{n i:Nat}{φ:Fn->Int}(A:Alt n φ)(hi:i<n)(M:Fn)(x y:Nat->Int):φ (upd M i λ c=>x c+y c)=φ (upd M i x)+φ (upd M i y):=by
 have:=A.kG i (upd M i λ c=>x c+y c) (upd M i x) (upd M i y) 1 1 hi (λ c hc=>by rw[cN,cN,cN];omega) λ r c _ _ hr=>by rw[aB hr,aB hr,aB hr];exact⟨rfl,rfl⟩
 omega
def Alt.uj{n i:Nat}{φ:Fn->Int}(A:Alt n φ)(hi:i<n)(M:Fn)(a:Nat->Int)(x:Nat->Nat->Int):∀m,φ (upd M i λ c=>S m λ j=>a j*x j c)=S m λ j=>a j*φ (upd M i (x j))
 |0=>A.NV hi λ c _=>by rw[cN];rfl
 |m+1=>by
  have:(λ c=>S (m+1) λ j=>a j*x j c)=λ c=>(S m λ j=>a j*x j c)+a m*x m c:=rfl;rw[this,A.E6 hi,A.uj hi M a x m,A.Gu hi];rfl
def un(j c:Nat):Nat:=if c<j then c else c-1
def grow(j:Nat)(B:Fn):Fn:=λ r c=>if r=0 then dl j c else if c=j then 0 else B (r-1) (un j c)
def wC{n j c:Nat}(hj:j<n+1)(hc:c<n+1)(h:c≠j):un j c<n:=by unfold un;split<;>omega
def DB{j c:Nat}(h:c≠j):sk j (un j c)=c:=by unfold sk un;grind
def Alt.grow{n j:Nat}{φ:Fn->Int}(A:Alt (n+1) φ)(hj:j<n+1):Alt n λ B=>φ (Mx.grow j B) where
 cg:=λ M M' h=>A.cg _ _ λ r c hr hc=>by
  have:=h (r-1) (un j c);have:=wC (c:=c) hj hc;unfold Mx.grow;grind
 kG:=λ i M P Q a b hi h0 h=>A.kG (i+1) _ _ _ a b (by omega) (λ c hc=>by
  have:=h0 (un j c);have:=wC (c:=c) hj hc;have e:i+1-1=i:=by omega
  unfold Mx.grow;rw[e];grind) λ r c hr hc hne=>by
  have:=h (r-1) (un j c);have:=wC (c:=c) hj hc;unfold Mx.grow;grind
 alt:=λ i k M hi hk hik h=>A.alt (i+1) (k+1) _ (by omega) (by omega) (by omega) λ c hc=>by
  have:=h (un j c);have:=wC (c:=c) hj hc;have e:i+1-1=i:=by omega
  have e2:k+1-1=k:=by omega
  unfold Mx.grow;rw[e,e2];grind
def Alt.units{n:Nat}{φ:Fn->Int}(A:Alt (n+1) φ):∀j,j<n+1->φ (Mx.grow j dl)=sg j*φ dl
 |0,_=>by
  rw[yz,Vr];refine A.cg _ _ λ r c hr hc=>?_;unfold Mx.grow un dl;grind
 |j+1,hj=>by
  have ih:=A.units j (by omega);have s:=A.swap (i:=0) (j:=j+1) (by omega) hj (by omega) (Mx.grow j dl);rw[yb,TJ,<-ih,<-s];refine A.cg _ _ λ r c hr hc=>?_;unfold Mx.grow un dl sw;grind
def Alt.QL{n i k:Nat}{φ:Fn->Int}(A:Alt n φ)(hi:i<n)(hk:k<n)(hik:i≠k)(M:Fn)(x:Nat->Int)(t:Int):φ (upd M i λ c=>x c+t*M k c)=φ (upd M i x):=by
 rw[A.E6 hi,A.Gu hi M t (M k),A.alt i k (upd M i (M k)) hi hk hik λ c _=>by rw[cN,aB (RO hik)],Sf,Tt]
def zr(j m:Nat)(M:Fn):Fn:=λ r c=>if r=0 then dl j c else if r<=m/\c=j then 0 else M r c
def Alt.zr{n j:Nat}{φ:Fn->Int}(A:Alt (n+1) φ)(M:Fn):∀m,m<=n->φ (Mx.zr j m M)=φ (upd M 0 (dl j))
 |0,_=>A.cg _ _ λ r c hr hc=>by unfold Mx.zr upd;grind
 |m+1,hm=>by
  rw[<-A.zr M m (by omega)];have e:=A.QL (i:=m+1) (k:=0) (by omega) (by omega) (by omega) (Mx.zr j m M) (M (m+1)) (-M (m+1) j)
  have e1:φ (Mx.zr j (m+1) M)=φ (upd (Mx.zr j m M) (m+1) λ c=>M (m+1) c+ -M (m+1) j*Mx.zr j m M 0 c):=A.cg _ _ λ r c hr hc=>by
   unfold upd Mx.zr dl;by_cases h0:r=m+1
   . subst h0;by_cases h1:c=j
     . subst h1;simp;omega
     . have:¬j=c:=λ z=>h1 z.symm;simp[h1,this]
   . rw[RE h0];grind
  have e2:φ (upd (Mx.zr j m M) (m+1) (M (m+1)))=φ (Mx.zr j m M):=A.cg _ _ λ r c hr hc=>by
   unfold upd Mx.zr;grind
  rw[e1,e,e2]
def Ei:∀ {n:Nat} {φ:Fn->Int},Alt n φ->∀M,φ M=φ dl*D n M
 |0,φ,A,M=>by rw[Fb,Vo];exact A.cg _ _ λ r c hr=>by omega
 |n+1,φ,A,M=>by
  have h1:φ M=S (n+1) λ j=>M 0 j*φ (upd M 0 (dl j)):=by
   rw[<-A.uj (by omega) M (M 0) dl (n+1)];refine A.cg _ _ λ r c hr hc=>?_;by_cases h0:r=0
   . subst h0;rw[cN,mj hc]
   . rw[aB h0]
  have h2:∀j,j<n+1->φ (upd M 0 (dl j))=φ (Mx.grow j λ r c=>M (r+1) (sk j c)):=λ j hj=>by
   rw[<-A.zr M n (Ry _)];refine A.cg _ _ λ r c hr hc=>?_;unfold Mx.grow Mx.zr;by_cases h0:r=0
   . rw[RF h0,RF h0]
   . rw[RE h0,RE h0];by_cases h3:c=j
     . rw[RF ⟨by omega,h3⟩,RF h3]
     . rw[RE (by omega),RE h3];dsimp only;rw[DB h3,show r-1+1=r by omega]
  rw[h1,eV,<-c7];refine aq λ j hj=>?_;have h3:=Ei (A.grow hj) λ r c=>M (r+1) (sk j c);have h4:=A.units j hj;have h5:φ (Mx.grow j λ r c=>M (r+1) (sk j c))=φ (Mx.grow j dl)*D n λ r c=>M (r+1) (sk j c):=h3;rw[h2 j hj,h5,h4];grind
def yf:∀n,D n dl=1
 |0=>rfl
 |n+1=>by
  rw[eV,kv (k:=0) (by omega) λ j hj h0=>by rw[dO (RO h0),Sf,SH]]
  have:D n (λ r c=>dl (r+1) (sk 0 c))=D n dl:=dv λ r c _ _=>by
   unfold dl sk;grind
  rw[this,yf n,dS];rfl
def EB(n:Nat)(A B:Fn):D n (λ r c=>S n λ k=>A r k*B k c)=D n A*D n B:=by
 have al:Alt n λ A=>D n (λ r c=>S n λ k=>A r k*B k c):=by
  refine⟨λ M M' h=>dv λ r c hr hc=>aq λ k hk=>by rw[h r k hr hk],λ i M P Q a b hi h0 h=>(qy n).kG i _ _ _ a b hi (λ c hc=>?_) λ r c hr hc hne=>⟨aq λ k hk=>by rw[(h r k hr hk hne).1],aq λ k hk=>by rw[(h r k hr hk hne).2]⟩,λ i j M hi hj hij h=>(qy n).alt i j _ hi hj hij λ c hc=>aq λ k hk=>by rw[h k hk]⟩;show(S n λ k=>M i k*B k c)=a*(S n λ k=>P i k*B k c)+b*S n λ k=>Q i k*B k c;rw[<-c7,<-c7,<-fu];refine aq λ k hk=>?_;rw[h0 k hk];grind
 have h:=Ei al A;have e:D n (λ r c=>S n λ k=>dl r k*B k c)=D n B:=dv λ r c hr hc=>jX hr λ k=>B k c;rw[h,e,SI]
def FP:∀ {n:Nat} {M P Q:Fn} {a b:Int} {i:Nat},i<n->(∀r,r<n->M r i=a*P r i+b*Q r i)->(∀r c,r<n->c<n->c≠i->M r c=P r c/\M r c=Q r c)->D n M=a*D n P+b*D n Q
 |0,_,_,_,_,_,_,h,_,_=>by omega
 |n+1,M,P,Q,a,b,i,hi,h0,h=>by
  rw[eV,eV,eV,<-c7,<-c7,<-fu];refine aq λ j hj=>?_;by_cases hij:j=i
  . subst hij;have hs:∀c,sk j c≠j:=λ c=>by unfold sk;split<;>omega
    have e1:D n (λ r c=>M (r+1) (sk j c))=D n (λ r c=>P (r+1) (sk j c)):=dv λ r c hr hc=>(h (r+1) (sk j c) (by omega) (my hc) (hs c)).1;have e2:D n (λ r c=>M (r+1) (sk j c))=D n (λ r c=>Q (r+1) (sk j c)):=dv λ r c hr hc=>(h (r+1) (sk j c) (by omega) (my hc) (hs c)).2;rw[h0 0 (by omega),<-e1,<-e2];grind
  . have p:=h 0 j (by omega) hj hij;have hu:sk j (un j i)=i:=DB (RO hij);have hs:∀c,c≠un j i->sk j c≠i:=λ c hc=>by unfold sk;unfold un at hc;grind
    have hlt:un j i<n:=wC hj hi (RO hij)
    have e:=FP (n:=n) (M:=λ r c=>M (r+1) (sk j c)) (P:=λ r c=>P (r+1) (sk j c)) (Q:=λ r c=>Q (r+1) (sk j c)) (a:=a) (b:=b) (i:=un j i) hlt (λ r hr=>by
     rw[hu];exact h0 (r+1) (by omega)) λ r c hr hc hne=>h (r+1) (sk j c) (by omega) (my hc) (hs c hne)
    rw[e,<-p.1,<-p.2];grind
def Gg:∀ {n:Nat} {M:Fn} {i:Nat},i+1<n->(∀r,r<n->M r i=M r (i+1))->D n M=0
 |0,_,_,h,_=>by omega
 |n+1,M,i,hi,h=>by
  rw[eV]
  have key:∀j,j<n+1->j≠i->j≠i+1->D n (λ r c=>M (r+1) (sk j c))=0:=λ j hj h1 h2=>by
   refine Gg (i:=un j i) (by unfold un;split<;>omega) λ r hr=>?_;have e1:sk j (un j i)=i:=DB (RO h1);have e2:sk j (un j i+1)=i+1:=by unfold sk un;grind
   rw[e1,e2];exact h (r+1) (by omega)
  have e:D n (λ r c=>M (r+1) (sk i c))=D n (λ r c=>M (r+1) (sk (i+1) c)):=dv λ r c hr hc=>by
   by_cases hc2:c=i
   . subst hc2;have a1:sk c c=c+1:=by unfold sk;rw[RE (by omega)]
     have a2:sk (c+1) c=c:=by unfold sk;rw[RF (by omega)]
     rw[a1,a2];exact(h (r+1) (by omega)).symm
   . have a1:sk i c=sk (i+1) c:=by unfold sk;grind
     rw[a1]
  have two:∀(m:Nat) (f:Nat->Int),i+1<m->(∀j,j<m->j≠i->j≠i+1->f j=0)->S m f=f i+f (i+1):=λ m=>by
   induction m with
   |zero=>intro f h;omega
   |succ m ih=>
    intro f hm hf;show S m f+f m=_;by_cases hmi:m=i+1
    . subst hmi;rw[kv (k:=i) (by omega) λ j hj hne=>hf j (by omega) hne (by omega)]
    . rw[ih f (by omega) λ j hj h1 h2=>hf j (by omega) h1 h2,hf m (by omega) (by omega) hmi,Tt]
  rw[two (n+1) _ hi λ j hj h1 h2=>by rw[key j hj h1 h2,Sf],e,yb,h 0 (by omega)];grind
def tr(M:Fn):Fn:=λ r c=>M c r
def yr(n:Nat)(M:Fn):D n (tr M)=D n M:=by
 have al:Alt n λ A=>D n (tr A):=xF (λ M M' h=>dv λ r c hr hc=>h c r hc hr)
  (λ i M P Q a b hi h0 h=>FP hi (λ r hr=>h0 r hr) λ r c hr hc hne=>h c r hc hr hne)
  λ i M hi h=>Gg hi λ r hr=>h r hr
 have h:=Ei al M;have e:D n (tr dl)=D n dl:=dv λ r c _ _=>rP c r;have h2:D n (tr M)=D n (tr dl)*D n M:=h;rw[h2,e,yf,Vr]
def Pr:Nat->(Nat->Int)->Int
 |0,_=>1
 |n+1,f=>Pr n f*f n
def Cs:∀(n:Nat) (f:Nat->Int),Pr (n+1) f=f 0*Pr n λ i=>f (i+1)
 |0,f=>by show 1*f 0=f 0*1;omega
 |n+1,f=>by
  have:Pr (n+1+1) f=Pr (n+1) f*f (n+1):=rfl;rw[this,Cs n f];have:Pr (n+1) (λ i=>f (i+1))=Pr n (λ i=>f (i+1))*f (n+1):=rfl;rw[this,So]
def Iv:∀ {n:Nat} {M:Fn},(∀r c,r<n->c<n->r<c->M r c=0)->D n M=Pr n λ i=>M i i
 |0,_,_=>rfl
 |n+1,M,h=>by
  rw[eV,kv (k:=0) (by omega) λ j hj h0=>by rw[h 0 j (by omega) hj (by omega),Sf,SH],Cs,yz,Vr];have s:∀c,sk 0 c=c+1:=λ c=>by unfold sk;rw[RE (by omega)]
  have e:D n (λ r c=>M (r+1) (sk 0 c))=Pr n λ i=>M (i+1) (i+1):=by
   rw[Iv λ r c hr hc hrc=>by rw[s];exact h (r+1) (c+1) (by omega) (by omega) (by omega)];simp only[s]
  rw[e]
def LW{n:Nat}{M:Fn}(h:∀r c,r<n->c<n->c<r->M r c=0):D n M=Pr n λ i=>M i i:=by
 rw[<-yr n M,Iv (M:=tr M) λ r c hr hc hrc=>h c r hc hr hrc];rfl
def Bh:∀ {n:Nat} {M:Fn},(∀c,c<n+1->M n c=dl n c)->D (n+1) M=D n M
 |0,M,h=>by
  rw[eV];show 0+sg 0*M 0 0*D 0 _=1;rw[h 0 (by omega),dS,yz,Fb];omega
 |n+1,M,h=>by
  have e1:∀j,j<n+1->D (n+1) (λ r c=>M (r+1) (sk j c))=D n (λ r c=>M (r+1) (sk j c)):=λ j hj=>Bh λ c hc=>by
   rw[h (sk j c) (my hc)];unfold dl sk;grind
  have e2:D (n+1) (λ r c=>M (r+1) (sk (n+1) c))=0:=(qy (n+1)).NV (i:=n) (by omega) λ c hc=>by
   have s:sk (n+1) c=c:=by unfold sk;rw[RF (by omega)]
   rw[s,h c (by omega),dO (by omega)]
  have e3:D (n+1+1) M=(S (n+1) λ j=>sg j*M 0 j*D (n+1) λ r c=>M (r+1) (sk j c))+sg (n+1)*M 0 (n+1)*D (n+1) (λ r c=>M (r+1) (sk (n+1) c)):=eV (n+1) M;rw[e3,e2,Sf,Tt,eV];exact aq λ j hj=>by rw[e1 j hj]
def gx(R:Fn)(p:Nat)(x:Nat->Int)(j:Nat):Int:=D (p+1) λ r c=>if r<p then R r (if c<p then c else j)else x (if c<p then c else j)
def L_{R:Fn}{p j:Nat}{x:Nat->Int}(h:j<p):gx R p x j=0:=by
 unfold gx;rw[<-yr];refine(qy (p+1)).alt j p _ (by omega) (by omega) (by omega) λ c hc=>?_;unfold tr;dsimp only;rw[RF h,RE (S0 p)]
def bt(R:Fn)(p:Nat)(x:Nat->Int)(k:Nat):Int:=D (p+1) (upd (λ c r=>if r<p then R r c else x c) p (dl k))
def Pp(R:Fn)(p:Nat)(x:Nat->Int)(j:Nat):gx R p x j=D p R*x j+S p λ k=>bt R p x k*R k j:=by
 have e1:gx R p x j=D (p+1) (upd (λ c r=>if r<p then R r c else x c) p λ r=>S (p+1) λ k=>(if k<p then R k j else x j)*dl k r):=by
  unfold gx;rw[<-yr];refine dv λ c r hc hr=>?_;unfold tr upd;by_cases h:c=p
  . subst h;rw[RF rfl];dsimp only;rw[mj hr,RE (S0 _)]
  . rw[RE h];dsimp only;rw[RF (show c<p by omega)]
 rw[e1,(qy (p+1)).uj (by omega)]
 have e2:D (p+1) (upd (λ c r=>if r<p then R r c else x c) p (dl p))=D p R:=by
  rw[Bh λ c _=>cN _ _ _ _];rw[<-yr];refine dv λ r c hr hc=>?_;unfold tr;rw[aB (by omega),RF (by omega)]
 have e3:(S (p+1) λ k=>(if k<p then R k j else x j)*D (p+1) (upd (λ c r=>if r<p then R r c else x c) p (dl k)))=(S p λ k=>(if k<p then R k j else x j)*D (p+1) (upd (λ c r=>if r<p then R r c else x c) p (dl k)))+(if p<p then R p j else x j)*D (p+1) (upd (λ c r=>if r<p then R r c else x c) p (dl p)):=rfl;rw[e3,e2,RE (S0 p),Int.add_comm,SI];congr 1;refine aq λ k hk=>?_;rw[RF hk,SI];rfl
def cl(p j1 j2 c:Nat):Nat:=if c<p then c else if c=p then j1 else j2
def z9{n:Nat}{f:Nat->Int}{m:Nat}(h:∀i,i<n->(f i).natAbs<=m):(S n f).natAbs<=n*m:=by
 induction n with
 |zero=>simp[S]
 |succ n ih=>
  have h1:=ih λ i hi=>h i (by omega);have h2:=h n (by omega);show(S n f+f n).natAbs<=_;rw[We];omega
def lam(G:Fn)(i j:Nat):Int:=gx G j (G i) j
def QJ(A:Rows):Fn:=λ i j=>dX (A.getD i []) (A.getD j [])
def N6(G:Fn)(i:Nat):Row:=(List.range (i+1)).map λ j=>lam G i j
def Lv(G:Fn)(n:Nat):Rows:=(List.range n).map (N6 G)
def RA(A:Rows)(N:Nat):Fn:=λ i j=>if j<N then QJ A i j else(A.getD i []).getD (j-N) 0
def ev(A:Rows)(N i k c:Nat):Int:=gx (RA A N) k (RA A N i) (N+c)
def Et(n:Nat)(a b:Int)(f g:Nat->Int):S n (λ c=>a*f c-b*g c)=a*S n f-b*S n g:=by
 induction n with
 |zero=>show(0:Int)=a*0-b*0;omega
 |succ n ih=>
  show S n (λ c=>a*f c-b*g c)+(a*f n-b*g n)=a*(S n f+f n)-b*(S n g+g n);rw[ih,VV,VV];omega
section
variable {A:Rows}{N w:Nat}
end
def Rk(M:Fn)(k j:Nat)(q:Int):Fn:=λ a b=>if a=k then M a b-q*M j b else M a b
def Rn(M:Fn)(k j:Nat)(q:Int):Fn:=λ a b=>if b=k then M a b-q*M a j else M a b
def tk(G:Fn)(k j:Nat)(q:Int):Fn:=Rn (Rk G k j q) k j q
section
variable {G:Fn}{t:Nat}(sym:∀i j,G i j=G j i)
include sym
end
section
variable {A:Rows}{N w:Nat}
def dE(hA:bK N w A){i:Nat}(hi:i<N):(A.getD i []).length=w:=hA.dh _ (by have:=hA.len;rw[ax (by omega)];exact R0 _)
end
def bJ(A:Rows)(k:Nat)(q:Int)(j:Nat):Rows:=A.set k (dN (A.getD k []) (-q) (A.getD j []))
def cv(A:Rows)(k o:Nat):Rows:=(A.set k (A.getD o [])).set o (A.getD k [])
def nv{A:Rows}{k i:Nat}{r:Row}(hk:k<A.length):(A.set k r).getD i []=if i=k then r else A.getD i []:=by
 rw[RC,List.getElem?_set];by_cases h:k=i
 . rw[RF h,RF (by omega),RF h.symm];rfl
 . rw[RE h,RE (RO h),RC]
def EL{A:Rows}{k j:Nat}{q:Int}:(bJ A k q j).length=A.length:=by unfold bJ;rw[RY]
def vN{A:Rows}{N w k j:Nat}{q:Int}(hA:bK N w A)(hk:k<N)(hj:j<N):bK N w (bJ A k q j):=by
 refine⟨EL.trans hA.len,λ r hr=>?_⟩;unfold bJ at hr;rcases Sy hr with h|rfl
 . exact hA.dh r h
 . rw[i9 (by rw[dE hA hk,dE hA hj]),dE hA hk]
structure Tn(A0 A U C:Rows)(N w:Nat):Prop where
 isA:bK N w A
 eP:bK N N U
 gb:bK N N C
 ua:∀i c,i<N->c<w->g A i c=S N λ k=>g U i k*g A0 k c
 ub:∀i j,i<N->j<N->S N (λ k=>g U i k*g C j k)=dl i j
 bu:∀i j,i<N->j<N->S N (λ k=>g C k i*g U k j)=dl i j
def eO{A:Rows}{N w k j:Nat}{q:Int}(hA:bK N w A)(hk:k<N)(hj:j<N)(i c:Nat):g (bJ A k q j) i c=if i=k then g A k c-q*g A j c else g A i c:=by
 unfold g bJ;have hl:=hA.len;rw[nv (by omega)];by_cases h:i=k
 . rw[RF h,RF h,nH (by rw[dE hA hk,dE hA hj]),TJ];omega
 . rw[RE h,RE h]
def wL(n:Nat)(a b:Int)(f h:Nat->Int):S n (λ c=>a*f c+b*h c)=a*S n f+b*S n h:=by
 rw[fu,c7,c7]
def Tn.take{A0 A U C:Rows}{N w k j:Nat}{q:Int}(T:Tn A0 A U C N w)(hk:k<N)(hj:j<N)(hkj:j≠k):Tn A0 (bJ A k q j) (bJ U k q j) (bJ C j (-q) k) N w where
 isA:=vN T.isA hk hj
 eP:=vN T.eP hk hj
 gb:=vN T.gb hj hk
 ua:=λ i c hi hc=>by
  rw[eO T.isA hk hj];have e:S N (λ m=>g (bJ U k q j) i m*g A0 m c)=S N λ m=>(if i=k then g U k m-q*g U j m else g U i m)*g A0 m c:=aq λ m _=>by rw[eO T.eP hk hj]
  rw[e];by_cases h:i=k
  . simp only[RF h];rw[T.ua k c hk hc,T.ua j c hj hc];have e2:S N (λ m=>(g U k m-q*g U j m)*g A0 m c)=S N λ m=>1*(g U k m*g A0 m c)-q*(g U j m*g A0 m c):=aq λ m _=>by grind
    rw[e2,Et];omega
  . simp only[RE h];exact T.ua i c hi hc
 ub:=λ i l hi hl=>by
  have e:S N (λ m=>g (bJ U k q j) i m*g (bJ C j (-q) k) l m)=S N λ m=>(if i=k then g U k m-q*g U j m else g U i m)*(if l=j then g C j m- -q*g C k m else g C l m):=aq λ m _=>by rw[eO T.eP hk hj,eO T.gb hj hk]
  rw[e];have djk:dl j k=0:=dO hkj;by_cases h:i=k
  . by_cases h2:l=j
    . simp only[RF h,RF h2];have e2:S N (λ m=>(g U k m-q*g U j m)*(g C j m- -q*g C k m))=S N λ m=>1*(1*(g U k m*g C j m)+q*(g U k m*g C k m))-q*(1*(g U j m*g C j m)+q*(g U j m*g C k m)):=aq λ m _=>by grind
      rw[e2,Et,wL,wL,T.ub k j hk hj,T.ub k k hk hk,T.ub j j hj hj,T.ub j k hj hk,h,h2,dS,dS,djk,rP k j,djk];omega
    . simp only[RF h,RE h2];have e2:S N (λ m=>(g U k m-q*g U j m)*g C l m)=S N λ m=>1*(g U k m*g C l m)-q*(g U j m*g C l m):=aq λ m _=>by grind
      rw[e2,Et,T.ub k l hk hl,T.ub j l hj hl,h,dO (RO h2)];omega
  . by_cases h2:l=j
    . simp only[RE h,RF h2];have e2:S N (λ m=>g U i m*(g C j m- -q*g C k m))=S N λ m=>1*(g U i m*g C j m)+q*(g U i m*g C k m):=aq λ m _=>by grind
      rw[e2,wL,T.ub i j hi hj,T.ub i k hi hk,h2,dO h];omega
    . simp only[RE h,RE h2];exact T.ub i l hi hl
 bu:=λ i l hi hl=>by
  have e:S N (λ m=>g (bJ C j (-q) k) m i*g (bJ U k q j) m l)=S N λ m=>g C m i*g U m l+((q*(g C k i*g U j l))*dl m j+(-(q*(g C k i*g U j l)))*dl m k):=aq λ m _=>by
   rw[eO T.eP hk hj,eO T.gb hj hk];by_cases h1:m=j
   . have h2:m≠k:=by omega
     rw[RF h1,RE h2,h1,dS,dO hkj];grind
   . rw[RE h1,dO h1];by_cases h2:m=k
     . rw[RF h2,h2,dS];grind
     . rw[RE h2,dO h2];grind
  rw[e,fu,wL,T.bu i l hi hl]
  have e1:S N (λ c=>dl c j)=1:=by
   rw[kv hj λ i _ h=>dO h,dS]
  have e2:S N (λ c=>dl c k)=1:=by
   rw[kv hk λ i _ h=>dO h,dS]
  rw[e1,e2];omega
def AL{A:Rows}{k o i:Nat}(hk:k<A.length)(ho:o<A.length):(cv A k o).getD i []=A.getD (sw k o i) []:=by
 unfold cv;rw[nv (by rw[RY];exact ho),nv hk];unfold sw;by_cases h1:i=k
 . rw[RF h1,RF h1];by_cases h2:i=o
   . rw[RF h2,<-h1,<-h2]
   . rw[RE h2]
 . rw[RE h1,RE h1];by_cases h2:i=o
   . rw[RF h2,RF h2]
   . rw[RE h2,RE h2]
def wb{A:Rows}{N w k o:Nat}(hA:bK N w A)(hk:k<N)(ho:o<N):bK N w (cv A k o):=by
 refine⟨by unfold cv;rw[RY,RY];exact hA.len,λ r hr=>?_⟩;unfold cv at hr;rcases Sy hr with h|rfl
 . rcases Sy h with h|rfl
   . exact hA.dh r h
   . exact dE hA ho
 . exact dE hA hk
def md{A:Rows}{N w k o:Nat}(hA:bK N w A)(hk:k<N)(ho:o<N)(i c:Nat):g (cv A k o) i c=g A (sw k o i) c:=by
 unfold g;rw[AL (by have:=hA.len;omega) (by have:=hA.len;omega)]
def uq{k o N i:Nat}(hk:k<N)(ho:o<N)(hi:i<N):sw k o i<N:=by unfold sw;split<;>(try split)<;>assumption
def FI(k o x:Nat):sw k o (sw k o x)=x:=by
 unfold sw;by_cases h1:x=k
 . subst h1;rw[RF rfl];by_cases h2:o=x
   . rw[RF h2];exact h2
   . rw[RE h2,RF rfl]
 . rw[RE h1];by_cases h2:x=o
   . subst h2;rw[RF rfl,RF rfl]
   . rw[RE h2,RE h1,RE h2]
def OV{k o a b:Nat}:dl (sw k o a) (sw k o b)=dl a b:=by
 by_cases h:a=b
 . rw[h,dS,dS]
 . rw[dO h,dO λ z=>h (by rw[<-FI k o a,<-FI k o b,z])]
def Lm(k x:Nat):sw k k x=x:=by
 unfold sw;by_cases h:x=k
 . rw[RF h,h]
 . rw[RE h,RE h]
def OG{n i j:Nat}(hi:i<n)(hj:j<n)(f:Nat->Int):S n (λ k=>f (sw i j k))=S n f:=by
 by_cases h:i=j
 . subst h;exact aq λ k _=>by rw[Lm]
 . exact QI hi hj h f
def Tn.Ja{A0 A U C:Rows}{N w k o:Nat}(T:Tn A0 A U C N w)(hk:k<N)(ho:o<N):Tn A0 (cv A k o) (cv U k o) (cv C k o) N w where
 isA:=wb T.isA hk ho
 eP:=wb T.eP hk ho
 gb:=wb T.gb hk ho
 ua:=λ i c hi hc=>by
  rw[md T.isA hk ho,T.ua _ c (uq hk ho hi) hc];exact aq λ m _=>by rw[md T.eP hk ho]
 ub:=λ i j hi hj=>by
  rw[<-OV (k:=k) (o:=o),<-T.ub _ _ (uq hk ho hi) (uq hk ho hj)];exact aq λ m _=>by rw[md T.eP hk ho,md T.gb hk ho]
 bu:=λ i j hi hj=>by
  rw[<-T.bu i j hi hj,<-OG hk ho λ m=>g C m i*g U m j];exact aq λ m _=>by rw[md T.eP hk ho,md T.gb hk ho]
def ia(A:Rows)(k:Nat):Rows:=A.set k ((A.getD k []).map λ x=> -x)
def Br{A:Rows}{N w k:Nat}(hA:bK N w A)(hk:k<N):bK N w (ia A k):=by
 refine⟨by unfold ia;rw[RY];exact hA.len,λ r hr=>?_⟩;unfold ia at hr;rcases Sy hr with h|rfl
 . exact hA.dh r h
 . rw[Rw];exact dE hA hk
def m6(r:Row)(c:Nat):(r.map λ x=> -x).getD c 0= -r.getD c 0:=by
 rw[RC,RC,RV];cases r[c]?<;>rfl
def mX{A:Rows}{N w k:Nat}(hA:bK N w A)(hk:k<N)(i c:Nat):g (ia A k) i c=if i=k then-g A k c else g A i c:=by
 unfold g ia;rw[nv (by have:=hA.len;omega)];by_cases h:i=k
 . rw[RF h,RF h,m6]
 . rw[RE h,RE h]
def Tn.neg{A0 A U C:Rows}{N w k:Nat}(T:Tn A0 A U C N w)(hk:k<N):Tn A0 (ia A k) (ia U k) (ia C k) N w where
 isA:=Br T.isA hk
 eP:=Br T.eP hk
 gb:=Br T.gb hk
 ua:=λ i c hi hc=>by
  rw[mX T.isA hk];by_cases h:i=k
  . rw[RF h,T.ua k c hk hc,<-oZ];exact aq λ m _=>by rw[mX T.eP hk,RF h,TJ]
  . rw[RE h,T.ua i c hi hc];exact aq λ m _=>by rw[mX T.eP hk,RE h]
 ub:=λ i j hi hj=>by
  have e:S N (λ m=>g (ia U k) i m*g (ia C k) j m)=S N λ m=>(if i=k then-1 else 1)*(if j=k then-1 else 1)*(g U i m*g C j m):=aq λ m _=>by
   rw[mX T.eP hk,mX T.gb hk];by_cases h1:i=k<;>by_cases h2:j=k<;>simp only[h1,h2,Ul,Ub]<;>grind
  rw[e,c7,T.ub i j hi hj];by_cases h1:i=k
  . by_cases h2:j=k
    . simp[h1,h2]
    . rw[dO (by omega)];simp
  . by_cases h2:j=k
    . rw[dO (by omega)];simp
    . simp[h1,h2]
 bu:=λ i j hi hj=>by
  rw[<-T.bu i j hi hj]
  exact aq λ m _=>by
   rw[mX T.eP hk,mX T.gb hk];by_cases h:m=k
   . subst h;rw[RF rfl,RF rfl];grind
   . rw[RE h,RE h]
structure iq(A:Rows)(N top p:Nat)(L:List Nat):Prop where
 mem:∀k,k∈L↔top<=k/\k<N/\g A k p≠0
 ord:L.Pairwise λ i j=>(g A i p).natAbs<(g A j p).natAbs\/((g A i p).natAbs=(g A j p).natAbs/\i<j)
def xh{f:Nat->Nat}:∀ {l m:List Nat},(∀k,k∈l↔k∈m)->l.Pairwise (λ i j=>f i<f j\/(f i=f j/\i<j))->m.Pairwise (λ i j=>f i<f j\/(f i=f j/\i<j))->l=m
 | [],[],_,_,_=>rfl
 | [],b::m,h,_,_=>by have:=(h b).mpr (R7 ..);simp at this
 |a::l,[],h,_,_=>by have:=(h a).mp (R7 ..);simp at this
 |a::l,b::m,h,h1,h2=>by
  obtain⟨p1,q1⟩:=UG.mp h1;obtain⟨p2,q2⟩:=UG.mp h2
  have e:a=b:=by
   rcases RU.mp ((h a).mp (R7 ..))with z|z
   . exact z
   . rcases RU.mp ((h b).mpr (R7 ..))with y|y
     . exact y.symm
     . have x1:=p1 b y;have x2:=p2 a z;omega
  subst e;have na:a∉l:=λ z=>by have:=p1 a z;omega
  have nb:a∉m:=λ z=>by have:=p2 a z;omega
  rw[xh (l:=l) (m:=m) (λ k=>?_) q1 q2];have:=h k;rw[RU,RU]at this;constructor
  . intro z;rcases this.mp (.inr z)with y|y
    . subst y;exact absurd z na
    . exact y
  . intro z;rcases this.mpr (.inr z)with y|y
    . subst y;exact absurd z nb
    . exact y
def iq.unique{A:Rows}{N top p:Nat}{L M:List Nat}(h:iq A N top p L)(h':iq A N top p M):L=M:=
 xh (f:=λ i=>(g A i p).natAbs) (λ k=>(h.mem k).trans (h'.mem k).symm) h.ord h'.ord
structure B3 where
 A:Rows
 U:Rows
 C:Rows
def qn(x y:Int):Int:=(2*x+y).fdiv (2*y)
def mD(b:B3)(p k j:Nat):B3:=⟨bJ b.A k (qn (g b.A k p) (g b.A j p)) j,bJ b.U k (qn (g b.A k p) (g b.A j p)) j,bJ b.C j (-(qn (g b.A k p) (g b.A j p))) k⟩
def uX(N top p:Nat)(b c:B3):Prop:=∃(L:List Nat) (k j:Nat),iq b.A N top p (L++[j,k])/\c=mD b p k j
def uX.unique{N top p:Nat}{b c d:B3}(h:uX N top p b c)(h':uX N top p b d):c=d:=by
 obtain⟨L,k,j,h1,rfl⟩:=h;obtain⟨M,k',j',h2,rfl⟩:=h';have e:=h1.unique h2;have e2:=Tj List.reverse e;simp only[List.reverse_append,List.reverse_cons,List.reverse_nil,Wt,Wh,UY]at e2;rw[e2.1,e2.2.1]
inductive fU(N top p:Nat):B3->B3->Prop
 |refl (b:B3):fU N top p b b
 |head {b c d:B3} (h:uX N top p b c) (t:fU N top p c d):fU N top p b d
def fU.tail{N top p:Nat}{b c d:B3}(h:fU N top p b c)(t:uX N top p c d):fU N top p b d:=by
 induction h with
 |refl b=>exact .head t (.refl _)
 |head x _ ih=>exact .head x (ih t)
def xk(N top p:Nat)(b:B3):Prop:=∃L,iq b.A N top p L/\L.length<=1
def xk.stop{N top p:Nat}{b c:B3}(h:xk N top p b)(s:uX N top p b c):False:=by
 obtain⟨L,h1,h2⟩:=h;obtain⟨M,k,j,h3,_⟩:=s;rw[h1.unique h3]at h2;simp at h2
def fU.unique{N top p:Nat}{b c d:B3}(h:fU N top p b c)(hc:xk N top p c)(h':fU N top p b d)(hd:xk N top p d):c=d:=by
 induction h with
 |refl b=>
  cases h' with
  |refl=>rfl
  |head s _=>exact(hc.stop s).elim
 |head s _ ih=>
  cases h' with
  |refl=>exact(hd.stop s).elim
  |head s' t=>
   rw[s'.unique s]at t;exact ih hc t
def h_(X:Rows)(N top m:Nat):Prop:=∀i c,top<=i->i<N->(g X i c).natAbs<=m
def PR(f:Nat->Nat):Nat->Nat
 |0=>1
 |n+1=>PR f n*f n
def Gw{f:Nat->Nat}(h:∀i,1<=f i):∀n,1<=PR f n
 |0=>Ry _
 |n+1=>Sq (Gw h n) (h n)
def Bj{f f':Nat->Nat}:∀ {n:Nat},(∀i,i<n->f i=f' i)->PR f n=PR f' n
 |0,_=>rfl
 |n+1,h=>by
  show PR f n*f n=PR f' n*f' n;rw[Bj λ i hi=>h i (Sk hi),h n (Si n)]
def E9{f f':Nat->Nat}{k:Nat}:∀ {n:Nat},k<n->(∀i,i≠k->f i=f' i)->PR f n*f' k=PR f' n*f k
 |0,hk,_=>absurd hk (Sd _)
 |n+1,hk,h=>by
  show PR f n*f n*f' k=PR f' n*f' n*f k;by_cases e:k=n
  . subst e;rw[Bj (n:=k) λ i hi=>h i (Sj hi),US,TC (f k),US]
  . have:=E9 (n:=n) (by omega) h;rw[h n (RO e),Nat.mul_right_comm,this,Nat.mul_right_comm]
def IV{f:Nat->Nat}{m top:Nat}(hm:1<=m):∀ {n:Nat},(∀i,i<n->i<top->f i<=1)->(∀i,i<n->f i<=m)->PR f n<=m^(n-top)
 |0,_,_=>by simp[PR]
 |n+1,h1,h2=>by
  have ih:=IV hm (n:=n) (λ i hi=>h1 i (Sk hi)) λ i hi=>h2 i (Sk hi);show PR f n*f n<=_;by_cases ht:n<top
  . have z:n+1-top=n-top:=by omega
    rw[z];exact RD (Sq ih (h1 n (Si n) ht)) (by rw[Uu];exact Ry _)
  . have z:n+1-top=(n-top)+1:=by omega
    rw[z,Tu];exact Sq ih (h2 n (Si n))
def wt(A:Rows)(top p i:Nat):Nat:=if top<=i/\g A i p≠0 then 2*(g A i p).natAbs else 1
def FE(A:Rows)(top p i:Nat):1<=wt A top p i:=by
 unfold wt;split<;>omega
def CS{x y:Int}(hy:y≠0):2*(x-qn x y*y).natAbs<=y.natAbs:=by
 unfold qn;have h1:=Tc (2*x+y) (2*y);have h2:(2*x+y).fmod (2*y)=2*x+y-2*y*(2*x+y).fdiv (2*y):=by omega
 generalize(2*x+y).fdiv (2*y)=q at*;have e:2*(x-q*y)=(2*x+y).fmod (2*y)-y:=by rw[h2];grind
 rcases UH hy with h|h
 . have a0:=Int.neg_fmod_neg (2*x+y) (2*y);have a1:=Sw (-(2*x+y)) (show 0< -(2*y) by omega);have a2:=SO (-(2*x+y)) (show 0< -(2*y) by omega);omega
 . have a1:=Sw (2*x+y) (show 0<2*y by omega);have a2:=SO (2*x+y) (show 0<2*y by omega);omega
def K5{x y:Int}(hy:y≠0)(hxy:y.natAbs<=x.natAbs):(1+(qn x y).natAbs)*(if x-qn x y*y≠0 then 2*(x-qn x y*y).natAbs else 1)<=2*x.natAbs:=by
 have h2:=CS (x:=x) hy;generalize qn x y=q at*;generalize hr:x-q*y=r at*;have hx:x=q*y+r:=by omega
 have hq:(q*y).natAbs=q.natAbs*y.natAbs:=Ss ..;by_cases h0:r=0
 . rw[RE (λ z=>z h0),Uu];subst h0;have hxa:x.natAbs=q.natAbs*y.natAbs:=by rw[<-hq,hx];simp
   have hy1:1<=y.natAbs:=by omega
   have hq1:1<=q.natAbs:=by
    rcases Nat.eq_zero_or_pos q.natAbs with z|z
    . rw[z,Wn]at hxa;omega
    . exact z
   have:q.natAbs<=q.natAbs*y.natAbs:=Ua _ hy1;omega
 . rw[RF h0];have hr1:1<=r.natAbs:=by omega
   have key:(1+q.natAbs)*r.natAbs<=x.natAbs:=by
    rcases Ui q.natAbs 2 with hlt|hge
    . rcases Ui q.natAbs 1 with h|h
      . have z:q.natAbs=0:=by omega
        have zq:q=0:=by omega
        subst zq;simp at hx;subst hx;simp
      . have z:q.natAbs=1:=by omega
        rw[z]at hq⊢;have:(q*y).natAbs=y.natAbs:=by omega
        have h3:x.natAbs=y.natAbs+r.natAbs\/x.natAbs+r.natAbs=y.natAbs\/x.natAbs+y.natAbs=r.natAbs:=by omega
        omega
    . have h3:(q*y).natAbs<=x.natAbs+r.natAbs:=by omega
      rw[hq]at h3;have h4:q.natAbs*(2*r.natAbs)<=q.natAbs*y.natAbs:=Tb _ h2;have h5:2*r.natAbs<=q.natAbs*r.natAbs:=S8 _ hge;have h6:q.natAbs*(2*r.natAbs)=q.natAbs*r.natAbs+q.natAbs*r.natAbs:=by rw[Vm];omega
      rw[Vt,UL];omega
   have:(1+q.natAbs)*(2*r.natAbs)=2*((1+q.natAbs)*r.natAbs):=by rw[Vm]
   omega
structure rm(A0:Rows)(N w top p m:Nat)(b0 b:B3)(gr:Nat):Prop where
 tn:Tn A0 b.A b.U b.C N w
 up:∀i,i<top->b.A.getD i []=b0.A.getD i []/\b.U.getD i []=b0.U.getD i []/\b.C.getD i []=b0.C.getD i []
 lA:h_ b.A N top (m*gr)
 lU:h_ b.U N top (m*gr)
 lC:h_ b.C N top (m*gr)
 zs:∀i c,top<=i->i<N->c<p->g b.A i c=0
 P0:gr*PR (wt b.A top p) N<=PR (wt b0.A top p) N
 pos:1<=gr
 Ow:b=b0\/∃j,top<=j/\j<N/\g b.A j p≠0
def vK{X:Rows}{N w top k j m gr:Nat}{q:Int}(hX:bK N w X)(hk:k<N)(hj:j<N)(hkt:top<=k)(hjt:top<=j)(h:h_ X N top (m*gr)):h_ (bJ X k q j) N top (m*(gr*(1+q.natAbs))):=λ i c hi hN=>by
 rw[eO hX hk hj];have e:m*(gr*(1+q.natAbs))=m*gr+q.natAbs*(m*gr):=by rw[<-US,Nat.mul_add,Uu,TC (m*gr) q.natAbs]
 rw[e];by_cases hik:i=k
 . rw[RF hik];have h1:=h k c hkt hk;have h2:=h j c hjt hj;have h3:(q*g X j c).natAbs<=q.natAbs*(m*gr):=by rw[Ss];exact Tb _ h2
   omega
 . rw[RE hik];have:=h i c hi hN;omega
def gT{X:Rows}{k j i:Nat}{q:Int}(hk:k<X.length)(h:i≠k):(bJ X k q j).getD i []=X.getD i []:=by
 unfold bJ;rw[nv hk,RE h]
def rm.step{A0:Rows}{N w top p m gr:Nat}{b0 b:B3}{L:List Nat}{k j:Nat}(G:rm A0 N w top p m b0 b gr)(hp:p<w)(hL:iq b.A N top p (L++[j,k])):
 rm A0 N w top p m b0 (mD b p k j) (gr*(1+(qn (g b.A k p) (g b.A j p)).natAbs))/\(g (mD b p k j).A k p).natAbs<(g b.A k p).natAbs/\(∀i,i≠k->g (mD b p k j).A i p=g b.A i p)/\top<=k/\k<N/\top<=j/\j<N/\j≠k/\g b.A j p≠0:=by
 obtain⟨hk1,hk2,hk3⟩:=(hL.mem k).mp (by simp);obtain⟨hj1,hj2,hj3⟩:=(hL.mem j).mp (by simp);have hord:=hL.ord;rw[List.pairwise_append]at hord;have o2:=(UG.mp hord.2.1).1 k (by simp);have hjk:j≠k:=by intro z;subst z;omega
 have hle:(g b.A j p).natAbs<=(g b.A k p).natAbs:=by omega
 have gk:g (mD b p k j).A k p=g b.A k p-qn (g b.A k p) (g b.A j p)*g b.A j p:=by
  show g (bJ b.A k _ j) k p=_;rw[eO G.tn.isA hk2 hj2,RF rfl]
 have gi:∀i,i≠k->g (mD b p k j).A i p=g b.A i p:=λ i hi=>by
  show g (bJ b.A k _ j) i p=_;rw[eO G.tn.isA hk2 hj2,RE hi]
 have hrest:=CS (x:=g b.A k p) hj3;have hgrow:=K5 (x:=g b.A k p) hj3 hle;refine⟨⟨G.tn.take hk2 hj2 hjk,λ i hi=>?_,vK G.tn.isA hk2 hj2 hk1 hj1 G.lA,vK G.tn.eP hk2 hj2 hk1 hj1 G.lU,?_,λ i c hi hN hc=>?_,?_,?_,.inr ⟨j,hj1,hj2,by rw[gi j hjk];exact hj3⟩⟩,?_,gi,hk1,hk2,hj1,hj2,hjk,hj3⟩
 . obtain⟨a1,a2,a3⟩:=G.up i hi;refine⟨(gT (by rw[G.tn.isA.len];exact hk2) (by omega)).trans a1,(gT (by rw[G.tn.eP.len];exact hk2) (by omega)).trans a2,(gT (by rw[G.tn.gb.len];exact hj2) (by omega)).trans a3⟩
 . have:=vK (q:= -(qn (g b.A k p) (g b.A j p))) G.tn.gb hj2 hk2 hj1 hk1 G.lC;rw[Ue]at this;exact this
 . show g (bJ b.A k _ j) i c=0;rw[eO G.tn.isA hk2 hj2];by_cases h:i=k
   . rw[RF h,G.zs k c hk1 hk2 hc,G.zs j c hj1 hj2 hc,Sf];rfl
   . rw[RE h];exact G.zs i c hi hN hc
 . have e:=E9 (f:=wt (mD b p k j).A top p) (f':=wt b.A top p) (k:=k) hk2 λ i hi=>by unfold wt;rw[gi i hi]
   have w1:wt b.A top p k=2*(g b.A k p).natAbs:=by unfold wt;rw[RF ⟨hk1,hk3⟩]
   have w2:(1+(qn (g b.A k p) (g b.A j p)).natAbs)*wt (mD b p k j).A top p k<=wt b.A top p k:=by
    rw[w1];unfold wt;rw[gk];by_cases h0:g b.A k p-qn (g b.A k p) (g b.A j p)*g b.A j p=0
    . rw[RE (λ z=>z.2 h0)];rw[RE (λ z=>z h0)]at hgrow;exact hgrow
    . rw[RF ⟨hk1,h0⟩];rw[RF h0]at hgrow;exact hgrow
   have hw:0<wt b.A top p k:=FE _ _ _ _;refine Nat.le_of_mul_le_mul_right (c:=wt b.A top p k) ?_ hw
   have s1:gr*(1+(qn (g b.A k p) (g b.A j p)).natAbs)*PR (wt (mD b p k j).A top p) N*wt b.A top p k=gr*PR (wt b.A top p) N*((1+(qn (g b.A k p) (g b.A j p)).natAbs)*wt (mD b p k j).A top p k):=by
    rw[US _ (PR _ N),e];simp only[US,Vm]
   rw[s1];exact Sq G.P0 w2
 . exact Nat.mul_pos G.pos (by omega)
 . rw[gk];omega
def rm.low{A0:Rows}{N w top p e gr:Nat}{b0 b:B3}(G:rm A0 N w top p (2^e) b0 b gr)(h0:h_ b0.A N top (2^e)):2^e*gr<=2^((N-top+1)*(e+1)):=by
 have h1:gr<=PR (wt b0.A top p) N:=RD (Ua _ (Gw (FE _ _ _) N)) G.P0
 have h2:PR (wt b0.A top p) N<=(2^(e+1))^(N-top):=IV Va (λ i _ ht=>by unfold wt;rw[RE (by omega)];exact Ry _) λ i hi=>by
  unfold wt;split
  . rename_i h;have:=h0 i p h.1 hi;rw[Tu];omega
  . exact Va
 refine RD (Tb _ (RD h1 h2)) ?_;rw[<-Nat.pow_mul,<-TX];refine R9 (by decide) ?_;have e1:(N-top+1)*(e+1)=(e+1)*(N-top)+(e+1):=by rw[Vt,UL,TC]
 rw[e1];omega
structure gX(A0:Rows)(N w:Nat)(b:B3)(top p:Nat)(ld:Nat->Nat)(e u:Nat):Prop where
 tn:Tn A0 b.A b.U b.C N w
 le:top<=N
 lo:h_ b.A N top (2^e)/\h_ b.U N top (2^e)/\h_ b.C N top (2^e)
 hi:∀i c,i<top->(g b.A i c).natAbs<=2^u/\(g b.U i c).natAbs<=2^u/\(g b.C i c).natAbs<=2^u
 zs:∀i c,top<=i->i<N->c<p->g b.A i c=0
 lead:∀i,i<top->ld i<p/\0<g b.A i (ld i)/\∀c,c<ld i->g b.A i c=0
 mono:∀i j,i<j->j<top->ld i<ld j
 red:∀i j,i<j->j<top->0<=g b.A i (ld j)/\g b.A i (ld j)<g b.A j (ld j)
def gX.Gj{A0:Rows}{N w top p e u:Nat}{b:B3}{ld:Nat->Nat}(S:gX A0 N w b top p ld e u):rm A0 N w top p (2^e) b b 1:=
 ⟨S.tn,λ _ _=>⟨rfl,rfl,rfl⟩,by rw[Uu];exact S.lo.1,by rw[Uu];exact S.lo.2.1,by rw[Uu];exact S.lo.2.2,S.zs,by rw[UL];exact Ry _,Ry _,.inl rfl⟩
def gX.skip{A0:Rows}{N w top p e u:Nat}{b:B3}{ld:Nat->Nat}(S:gX A0 N w b top p ld e u)(h:iq b.A N top p []):gX A0 N w b top (p+1) ld e u:=
 ⟨S.tn,S.le,S.lo,S.hi,λ i c h1 h2 h3=>by
  by_cases hc:c=p
  . subst hc;exact T5 λ z=>absurd ((h.mem i).mpr ⟨h1,h2,z⟩) (by simp)
  . exact S.zs i c h1 h2 (by omega),λ i hi=>⟨Sk (S.lead i hi).1,(S.lead i hi).2⟩,S.mono,S.red⟩
def setB(b:B3)(p top r:Nat):B3:=
 if g (cv b.A top r) top p<0 then⟨ia (cv b.A top r) top,ia (cv b.U top r) top,ia (cv b.C top r) top⟩else⟨cv b.A top r,cv b.U top r,cv b.C top r⟩
def vL{X:Rows}{N w top r m:Nat}(hX:bK N w X)(ht:top<N)(hr:r<N)(hrt:top<=r)(h:h_ X N top m):h_ (cv X top r) N top m:=λ i c hi hN=>by
 rw[md hX ht hr];refine h _ c ?_ (uq ht hr hN);unfold sw;split
 . exact hrt
 . split
   . exact Ry _
   . exact hi
def Bi{X:Rows}{N w top m:Nat}(hX:bK N w X)(ht:top<N)(h:h_ X N top m):h_ (ia X top) N top m:=λ i c hi hN=>by
 rw[mX hX ht];split
 . rw[Ue];exact h top c (Ry _) ht
 . exact h i c hi hN
def vT{X:Rows}{N w top r i:Nat}(hX:bK N w X)(ht:top<N)(hr:r<N)(hrt:top<=r)(hi:i<top):(cv X top r).getD i []=X.getD i []:=by
 rw[AL (by have:=hX.len;omega) (by have:=hX.len;omega)];unfold sw;rw[RE (by omega),RE (by omega)]
def AU{X:Rows}{N w top i:Nat}(hX:bK N w X)(ht:top<N)(hi:i<top):(ia X top).getD i []=X.getD i []:=by
 unfold ia;rw[nv (by have:=hX.len;omega),RE (by omega)]
structure lB(A0:Rows)(N w top p m:Nat)(b0 b:B3):Prop where
 tn:Tn A0 b.A b.U b.C N w
 up:∀i,i<top->b.A.getD i []=b0.A.getD i []/\b.U.getD i []=b0.U.getD i []/\b.C.getD i []=b0.C.getD i []
 lo:h_ b.A N top m/\h_ b.U N top m/\h_ b.C N top m
 zs:∀i c,top<=i->i<N->c<p->g b.A i c=0
 tp:0<g b.A top p
 z1:∀i,top<i->i<N->g b.A i p=0
def rm.set{A0:Rows}{N w top p m gr r:Nat}{b0 b:B3}(G:rm A0 N w top p m b0 b gr)(hL:iq b.A N top p [r]):lB A0 N w top p (m*gr) b0 (setB b p top r)/\top<=r/\r<N:=by
 obtain⟨hr1,hr2,hr3⟩:=(hL.mem r).mp (by simp);have ht:top<N:=by omega
 have z:∀i,top<=i->i<N->i≠r->g b.A i p=0:=λ i h1 h2 h3=>T5 λ y=>h3 (by simpa using(hL.mem i).mpr ⟨h1,h2,y⟩);have swg:∀i c,g (cv b.A top r) i c=g b.A (sw top r i) c:=λ i c=>md G.tn.isA ht hr2 i c;have gt:g (cv b.A top r) top p=g b.A r p:=by rw[swg];unfold sw;rw[RF rfl]
 have T1:=G.tn.Ja ht hr2
 have z1:∀i,top<i->i<N->g (cv b.A top r) i p=0:=λ i h1 h2=>by
  rw[swg];unfold sw;rw[RE (by omega)];by_cases h:i=r
  . rw[RF h];exact z top (Ry _) ht (by omega)
  . rw[RE h];exact z i (by omega) h2 h
 have zs:∀i c,top<=i->i<N->c<p->g (cv b.A top r) i c=0:=λ i c h1 h2 h3=>by
  rw[swg];refine G.zs _ c ?_ (uq ht hr2 h2) h3;unfold sw;split
  . exact hr1
  . split
    . exact Ry _
    . exact h1
 have up:∀i,i<top->(cv b.A top r).getD i []=b0.A.getD i []/\(cv b.U top r).getD i []=b0.U.getD i []/\(cv b.C top r).getD i []=b0.C.getD i []:=λ i hi=>by
  obtain⟨a1,a2,a3⟩:=G.up i hi;exact⟨(vT G.tn.isA ht hr2 hr1 hi).trans a1,(vT G.tn.eP ht hr2 hr1 hi).trans a2,(vT G.tn.gb ht hr2 hr1 hi).trans a3⟩
 have lo:=And.intro (vL G.tn.isA ht hr2 hr1 G.lA) (And.intro (vL G.tn.eP ht hr2 hr1 G.lU) (vL G.tn.gb ht hr2 hr1 G.lC));refine⟨?_,hr1,hr2⟩;unfold setB;by_cases hs:g (cv b.A top r) top p<0
 . rw[RF hs];refine⟨T1.neg ht,λ i hi=>?_,⟨Bi T1.isA ht lo.1,Bi T1.eP ht lo.2.1,Bi T1.gb ht lo.2.2⟩,λ i c h1 h2 h3=>?_,?_,λ i h1 h2=>?_⟩
   . obtain⟨a1,a2,a3⟩:=up i hi;exact⟨(AU T1.isA ht hi).trans a1,(AU T1.eP ht hi).trans a2,(AU T1.gb ht hi).trans a3⟩
   . show g (ia (cv b.A top r) top) i c=0;rw[mX T1.isA ht];split
     . rw[zs top c (Ry _) ht h3];rfl
     . exact zs i c h1 h2 h3
   . show 0<g (ia (cv b.A top r) top) top p;rw[mX T1.isA ht,RF rfl];omega
   . show g (ia (cv b.A top r) top) i p=0;rw[mX T1.isA ht,RE (by omega)];exact z1 i h1 h2
 . rw[RE hs];exact⟨T1,up,lo,zs,by show 0<g (cv b.A top r) top p;rw[gt]at hs⊢;omega,z1⟩
def m_(p top:Nat):Nat->B3->B3
 |0,b=>b
 |k+1,b=>
  let c:=m_ p top k b
  ⟨bJ c.A k ((g c.A k p).fdiv (g c.A top p)) top,bJ c.U k ((g c.A k p).fdiv (g c.A top p)) top,bJ c.C top (-((g c.A k p).fdiv (g c.A top p))) k⟩
structure sS(A0:Rows)(N w top p e u:Nat)(b:B3)(k:Nat)(c:B3):Prop where
 tn:Tn A0 c.A c.U c.C N w
 rA:∀i,k<=i->c.A.getD i []=b.A.getD i []/\c.U.getD i []=b.U.getD i []
 rC:∀i,i≠top->c.C.getD i []=b.C.getD i []
 ah:∀i q,i<k->q<p->g c.A i q=g b.A i q
 rd:∀i,i<k->0<=g c.A i p/\g c.A i p<g c.A top p
 sz:∀i q,i<k->(g c.A i q).natAbs<=2^(u+e+1)/\(g c.U i q).natAbs<=2^(u+e+1)
 sC:∀q,(g c.C top q).natAbs<=2^e+k*2^(u+u)
def iV(a:Int){b:Int}(hb:0<b):(a.fdiv b).natAbs<=a.natAbs:=by
 have h1:=Tc a b;have h2:=Sw a hb;have h3:=SO a hb;generalize a.fdiv b=q at*;rcases Int.lt_trichotomy q 0 with h|h|h
 . have h4:0<=(b-1)*(-q-1):=WQ (by omega) (by omega);have e:(b-1)*(-q-1)= -(b*q)-b+q+1:=by grind
   omega
 . subst h;simp
 . have:q<=b*q:=by
    have:0<=(b-1)*q:=WQ (by omega) (by omega);grind
   omega
def sS.step{A0:Rows}{N w top p e u k:Nat}{b c:B3}(I:sS A0 N w top p e u b k c)(hk:k<top)(ht:top<N)(hp:p<w)(htp:0<g b.A top p)(hz:∀q,q<p->g b.A top q=0)
 (hlo:∀q,(g b.A top q).natAbs<=2^e/\(g b.U top q).natAbs<=2^e) (hhi:∀i q,i<top->(g b.A i q).natAbs<=2^u/\(g b.U i q).natAbs<=2^u/\(g b.C i q).natAbs<=2^u):
 sS A0 N w top p e u b (k+1) ⟨bJ c.A k ((g c.A k p).fdiv (g c.A top p)) top,bJ c.U k ((g c.A k p).fdiv (g c.A top p)) top,bJ c.C top (-((g c.A k p).fdiv (g c.A top p))) k⟩:=by
 have hkN:k<N:=by omega
 have gA:∀i q,k<=i->g c.A i q=g b.A i q:=λ i q hi=>by unfold g;rw[(I.rA i hi).1]
 have gU:∀i q,k<=i->g c.U i q=g b.U i q:=λ i q hi=>by unfold g;rw[(I.rA i hi).2]
 have gC:∀i q,i≠top->g c.C i q=g b.C i q:=λ i q hi=>by unfold g;rw[I.rC i hi]
 have qe:((g c.A k p).fdiv (g c.A top p)).natAbs<=2^u:=by
  rw[gA k p (Ry _),gA top p (by omega)];exact RD (iV _ htp) (hhi k p hk).1
 have hq:∀x:Int,x.natAbs<=2^e->((g c.A k p).fdiv (g c.A top p)*x).natAbs<=2^(u+e):=λ x hx=>by
  rw[Ss,TX];exact Sq qe hx
 have le1:2^u<=2^(u+e):=R9 (by decide) (by omega);refine⟨I.tn.take hkN ht (by omega),λ i hi=>?_,λ i hi=>?_,λ i q hi hqp=>?_,λ i hi=>?_,λ i q hi=>?_,λ q=>?_⟩
 . exact⟨(gT (by rw[I.tn.isA.len];exact hkN) (by omega)).trans (I.rA i (by omega)).1,(gT (by rw[I.tn.eP.len];exact hkN) (by omega)).trans (I.rA i (by omega)).2⟩
 . exact(gT (by rw[I.tn.gb.len];exact ht) hi).trans (I.rC i hi)
 . show g (bJ c.A k _ top) i q=_;rw[eO I.tn.isA hkN ht];split
   . rename_i h;rw[gA top q (by omega),hz q hqp,Sf,gA k q (Ry _),h];omega
   . exact I.ah i q (by omega) hqp
 . show 0<=g (bJ c.A k _ top) i p/\g (bJ c.A k _ top) i p<g (bJ c.A k _ top) top p;rw[eO I.tn.isA hkN ht,eO I.tn.isA hkN ht,RE (show¬top=k by omega)];split
   . have h1:=Tc (g c.A k p) (g c.A top p);have htp':0<g c.A top p:=by rw[gA top p (by omega)];exact htp
     have h2:=Sw (g c.A k p) htp';have h3:=SO (g c.A k p) htp';rw[SI]at h1;omega
   . exact I.rd i (by omega)
 . show(g (bJ c.A k _ top) i q).natAbs<=_/\(g (bJ c.U k _ top) i q).natAbs<=_;rw[eO I.tn.isA hkN ht,eO I.tn.eP hkN ht];split
   . have a1:=hq (g c.A top q) (by rw[gA top q (by omega)];exact(hlo q).1);have a2:=hq (g c.U top q) (by rw[gU top q (by omega)];exact(hlo q).2);rw[gA k q (Ry _),gU k q (Ry _)];have b1:=(hhi k q hk).1;have b2:=(hhi k q hk).2.1;rw[Tu];omega
   . exact I.sz i q (by omega)
 . show(g (bJ c.C top _ k) top q).natAbs<=_;rw[eO I.tn.gb ht hkN,RF rfl,gC k q (by omega),TJ];have a1:=I.sC q
   have a2:((g c.A k p).fdiv (g c.A top p)*g b.C k q).natAbs<=2^(u+u):=by
    rw[Ss,TX];exact Sq qe (hhi k q hk).2.2
   rw[Vt,UL];omega
def sS.start{A0:Rows}{N w top p e u:Nat}{b:B3}(T:Tn A0 b.A b.U b.C N w)(h:∀q,(g b.C top q).natAbs<=2^e):sS A0 N w top p e u b 0 b:=
 ⟨T,λ _ _=>⟨rfl,rfl⟩,λ _ _=>rfl,λ _ _ h=>absurd h (Sd _),λ _ h=>absurd h (Sd _),λ _ _ h=>absurd h (Sd _),λ q=>by rw[Wn];exact h q⟩
def lB.next{A0:Rows}{N w top p e u e' u':Nat}{b0 b c:B3}{ld:Nat->Nat}(S:gX A0 N w b0 top p ld e u)(s:lB A0 N w top p (2^e') b0 b)(ht:top<N)(I:sS A0 N w top p e' u b top c)(hN:N<=8)
 (h1:u+e'+1<=u') (h2:u+u+4<=u'):gX A0 N w c (top+1) (p+1) (λ i=>if i=top then p else ld i) e' u':=by
 have hup:∀i q,i<top->g b.A i q=g b0.A i q:=λ i q hi=>by unfold g;rw[(s.up i hi).1]
 have hA:∀i q,top<=i->g c.A i q=g b.A i q:=λ i q hi=>by unfold g;rw[(I.rA i hi).1]
 have hU:∀i q,top<=i->g c.U i q=g b.U i q:=λ i q hi=>by unfold g;rw[(I.rA i hi).2]
 have hC:∀i q,i≠top->g c.C i q=g b.C i q:=λ i q hi=>by unfold g;rw[I.rC i hi]
 have le:∀ {a x:Nat},a<=2^x->x<=u'->a<=2^u':=λ h hx=>RD h (R9 (by decide) hx);refine⟨I.tn,ht,⟨λ i q hi hN=>?_,λ i q hi hN=>?_,λ i q hi hN=>?_⟩,λ i q hi=>?_,λ i q hi hN hq=>?_,λ i hi=>?_,λ i j hij hj=>?_,λ i j hij hj=>?_⟩
 . rw[hA i q (by omega)];exact s.lo.1 i q (by omega) hN
 . rw[hU i q (by omega)];exact s.lo.2.1 i q (by omega) hN
 . rw[hC i q (by omega)];exact s.lo.2.2 i q (by omega) hN
 . by_cases h:i=top
   . subst h;refine⟨?_,?_,?_⟩
     . rw[hA i q (Ry _)];exact le (s.lo.1 i q (Ry _) ht) (by omega)
     . rw[hU i q (Ry _)];exact le (s.lo.2.1 i q (Ry _) ht) (by omega)
     . have h3:=I.sC q;have h4:i*2^(u+u)<=2^(u+u+3):=by rw[TX _ _ 3,TC];exact Tb _ (by omega)
       have h5:2^(u+u+3)*2<=2^u':=by rw[<-Tu];exact R9 (by decide) h2
       have h6:2^e'*2<=2^u':=by rw[<-Tu];exact R9 (by decide) (by omega)
       omega
   . have hi':i<top:=by omega
     refine⟨le (I.sz i q hi').1 h1,le (I.sz i q hi').2 h1,?_⟩;rw[hC i q h];have:g b.C i q=g b0.C i q:=by unfold g;rw[(s.up i hi').2.2]
     rw[this];exact le (S.hi i q hi').2.2 (by omega)
 . rw[hA i q (by omega)];by_cases h:q=p
   . rw[h];exact s.z1 i (by omega) hN
   . exact s.zs i q (by omega) hN (by omega)
 . by_cases h:i=top
   . subst h;rw[RF rfl];refine⟨Si p,?_,λ q hq=>?_⟩
     . rw[hA i p (Ry _)];exact s.tp
     . rw[hA i q (Ry _)];exact s.zs i q (Ry _) ht hq
   . have hi':i<top:=by omega
     rw[RE h];obtain⟨a1,a2,a3⟩:=S.lead i hi';refine⟨Sk a1,?_,λ q hq=>?_⟩
     . rw[I.ah i _ hi' a1,hup i _ hi'];exact a2
     . rw[I.ah i _ hi' (TF hq a1),hup i _ hi'];exact a3 q hq
 . by_cases h:j=top
   . rw[RF h,RE (by omega)];exact(S.lead i (by omega)).1
   . rw[RE h,RE (by omega)];exact S.mono i j hij (by omega)
 . by_cases h:j=top
   . subst h;rw[RF rfl];exact I.rd i hij
   . have hj':j<top:=by omega
     rw[RE h];have:=S.red i j hij hj';have hl:=(S.lead j hj').1;rw[I.ah i _ (by omega) hl,I.ah j _ hj' hl,hup i _ (by omega),hup j _ hj'];exact this
def Tn.start{A:Rows}{N w:Nat}(hA:bK N w A):Tn A A (units N) (units N) N w where
 isA:=hA
 eP:=iP N
 gb:=iP N
 ua:=λ i c hi hc=>by
  rw[<-jX hi λ k=>g A k c];exact aq λ m hm=>by rw[fN hi hm]
 ub:=λ i j hi hj=>by
  rw[rP i j,<-jX hi λ k=>dl j k]
  . exact aq λ m hm=>by rw[fN hi hm,fN hj hm]
 bu:=λ i j hi hj=>by
  rw[<-mj hi λ k=>dl k j];exact aq λ m hm=>by rw[fN hm hi,fN hm hj,SI]
def gX.start{A:Rows}{N w e:Nat}(hA:bK N w A)(h:h_ A N 0 (2^e)):gX A N w ⟨A,units N,units N⟩ 0 0 (λ _=>0) e 0:=by
 have hu:h_ (units N) N 0 (2^e):=λ i c _ hi=>by
  by_cases hc:c<N
  . rw[fN hi hc];unfold dl;split
    . exact Va
    . exact Sg _
  . unfold g;rw[jv (l:=(units N).getD i []) (by rw[dE (iP N) hi];omega)];exact Sg _
 exact⟨Tn.start hA,Sg _,⟨h,hu,hu⟩,λ _ _ h=>absurd h (Sd _),λ _ _ _ _ h=>absurd h (Sd _),λ _ h=>absurd h (Sd _),λ _ _ _ h=>absurd h (Sd _),λ _ _ _ h=>absurd h (Sd _)⟩
def SU(f:Nat->Nat):Nat->Nat
 |0=>0
 |n+1=>SU f n+f n
def Jy{f f':Nat->Nat}:∀ {n:Nat},(∀i,i<n->f' i<=f i)->SU f' n<=SU f n
 |0,_=>Ry _
 |n+1,h=>Nat.add_le_add (Jy λ i hi=>h i (Sk hi)) (h n (Si n))
def Io{f f':Nat->Nat}{k:Nat}(hlt:f' k<f k):∀ {n:Nat},k<n->(∀i,i<n->f' i<=f i)->SU f' n<SU f n
 |0,hk,_=>absurd hk (Sd _)
 |n+1,hk,h=>by
  by_cases e:k=n
  . subst e;exact Nat.add_lt_add_of_le_of_lt (Jy λ i hi=>h i (Sk hi)) hlt
  . exact Nat.add_lt_add_of_lt_of_le (Io hlt (by omega) λ i hi=>h i (Sk hi)) (h n (Si n))
def mu(A:Rows)(N p:Nat):Nat:=SU (λ i=>(g A i p).natAbs) N
inductive CU(N p:Nat):Nat->B3->Nat->B3->Prop
 |none {top:Nat} {b:B3} (h:iq b.A N top p []):CU N p top b top b
 |one {top r:Nat} {b c:B3} (h:fU N top p b c) (l:iq c.A N top p [r]):CU N p top b (top+1) (m_ p top top (setB c p top r))
def CU.unique{N p t t1 t2:Nat}{b b1 b2:B3}(h:CU N p t b t1 b1)(h':CU N p t b t2 b2):t1=t2/\b1=b2:=by
 have no:∀ {c:B3} {r:Nat},iq b.A N t p []->fU N t p b c->iq c.A N t p [r]->False:=λ{c r} h g l=>by
  cases g with
  |refl=>have:=h.unique l;cases this
  |head s _=>exact xk.stop ⟨[],h,by simp⟩ s
 cases h with
 |none h=>
  cases h' with
  |none _=>exact⟨rfl,rfl⟩
  |one g l=>exact(no h g l).elim
 |one g l=>
  cases h' with
  |none h=>exact(no h g l).elim
  |one g' l'=>
   have e:=g.unique ⟨_,l,by simp⟩ g' ⟨_,l',by simp⟩;subst e;have e2:=l.unique l';cases e2;exact⟨rfl,rfl⟩
inductive kK(A:Rows)(N:Nat):Nat->Nat->B3->Prop
 |start:kK A N 0 0 ⟨A,units N,units N⟩
 |next {p t t':Nat} {b b':B3} (h:kK A N p t b) (c:CU N p t b t' b'):kK A N (p+1) t' b'
def kK.unique{A:Rows}{N:Nat}:∀ {p t1 t2:Nat} {b1 b2:B3},kK A N p t1 b1->kK A N p t2 b2->t1=t2/\b1=b2
 |0,_,_,_,_,.start,.start=>⟨rfl,rfl⟩
 |p+1,_,_,_,_,.next h c,.next h' c'=>by
  obtain⟨rfl,rfl⟩:=kK.unique h h';exact c.unique c'
def Ez(N e0:Nat):Nat->Nat
 |0=>e0
 |t+1=>(N-t+1)*(Ez N e0 t+1)
def Vz(N e0:Nat):Nat->Nat
 |0=>0
 |t+1=>Vz N e0 t+Vz N e0 t+Ez N e0 (t+1)+5
def bL(X:Rows)(n w:Nat)(v:Nat->Int):Prop:=∃z:Nat->Int,∀c,c<w->v c=S n λ k=>z k*g X k c
def bL.row{X:Rows}{n w k:Nat}(hk:k<n):bL X n w (g X k):=⟨λ i=>dl k i,λ c _=>(jX hk λ i=>g X i c).symm⟩
def bL.sub{X:Rows}{n w:Nat}{u v:Nat->Int}(hu:bL X n w u)(hv:bL X n w v):bL X n w λ c=>u c-v c:=by
 obtain⟨y,hy⟩:=hu;obtain⟨z,hz⟩:=hv;refine⟨λ k=>y k-z k,λ c hc=>?_⟩;show u c-v c=S n λ k=>(y k-z k)*g X k c;rw[hy c hc,hz c hc,SN,<-oZ,<-fu];exact aq λ k _=>by rw[Vs,SN]
def bL.trans{X Y:Rows}{m n w:Nat}{v:Nat->Int}(h:∀k,k<m->bL Y n w (g X k))(hv:bL X m w v):bL Y n w v:=by
 obtain⟨z,hz⟩:=hv
 have h':∀k,∃y:Nat->Int,k<m->∀c,c<w->g X k c=S n λ i=>y i*g Y i c:=λ k=>by
  by_cases hk:k<m
  . obtain⟨y,hy⟩:=h k hk;exact⟨y,λ _=>hy⟩
  . exact⟨λ _=>0,λ h=>absurd h hk⟩
 refine⟨λ i=>S m λ k=>z k*Classical.choose (h' k) i,λ c hc=>?_⟩;rw[hz c hc]
 have e1:S m (λ k=>z k*g X k c)=S m λ k=>S n λ i=>z k*Classical.choose (h' k) i*g Y i c:=aq λ k hk=>by
  rw[VA (h' k) hk c hc,<-c7];exact aq λ i _=>(So _ _ _).symm
 rw[e1,iE];exact aq λ i _=>jL _ _ _
structure bY(X:Rows)(n w:Nat)(ld:Nat->Nat):Prop where
 lead:∀i,i<n->ld i<w/\0<g X i (ld i)/\∀c,c<ld i->g X i c=0
 mono:∀i j,i<j->j<n->ld i<ld j
def bY.inj{X:Rows}{n w:Nat}{ld:Nat->Nat}(s:bY X n w ld){i j:Nat}(hi:i<n)(hj:j<n)(h:ld i=ld j):i=j:=by
 rcases Uq i j with q|q|q
 . exact absurd h (Sj (s.mono i j q hj))
 . exact q
 . exact absurd h.symm (Sj (s.mono j i q hi))
def bY.lt{X:Rows}{n w:Nat}{ld:Nat->Nat}(s:bY X n w ld){i j:Nat}(hi:i<n)(hj:j<n)(h:ld i<ld j):i<j:=by
 rcases Uq i j with q|q|q
 . exact q
 . rw[q]at h;exact absurd h (S0 _)
 . exact absurd (TF h (s.mono j i q hi)) (S0 _)
def bY.gone{X:Rows}{n w q:Nat}{ld:Nat->Nat}{v z:Nat->Int}(s:bY X n w ld)(hz:∀c,c<w->v c=S n λ k=>z k*g X k c)(h0:∀c,c<q->v c=0)(k:Nat):k<n->ld k<q->z k=0:=by
 induction k using Nat.strongRecOn with
 |ind k ih=>
  intro hk hq;obtain⟨h1,h2,h3⟩:=s.lead k hk;have e:=hz (ld k) h1;rw[h0 _ hq,kv hk λ i hi ne=>?_]at e
  . exact(Wx.mp e.symm).resolve_right (UO h2)
  . rcases Vb ne with l|l
    . rw[ih i l hi (TF (s.mono i k l hk) hq),SH]
    . rw[(s.lead i hi).2.2 _ (s.mono k i l hi),Sf]
def bY.at{X:Rows}{n w q:Nat}{ld:Nat->Nat}{v:Nat->Int}(s:bY X n w ld)(hv:bL X n w v)(hq:q<w)(h0:∀c,c<q->v c=0):(∃i,i<n/\ld i=q/\g X i q∣v q)\/v q=0:=by
 obtain⟨z,hz⟩:=hv
 have go:∀k,k<n->ld k≠q->z k*g X k q=0:=λ k hk ne=>by
  rcases Vb ne with l|l
  . rw[s.gone hz h0 k hk l,SH]
  . rw[(s.lead k hk).2.2 _ l,Sf]
 by_cases h:∃i,i<n/\ld i=q
 . obtain⟨i,hi,e⟩:=h;refine .inl ⟨i,hi,e,z i,?_⟩;rw[hz q hq,kv hi λ k hk ne=>go k hk λ z=>ne (s.inj hk hi (z.trans e.symm)),SI]
 . refine .inr ?_;rw[hz q hq];exact gf λ k hk=>go k hk λ e=>h ⟨k,hk,e⟩
def bY.sees{X Y:Rows}{n m w:Nat}{ld ld':Nat->Nat}(sX:bY X n w ld)(sY:bY Y m w ld')(h:∀k,k<n->bL Y m w (g X k))(i:Nat)(hi:i<n):∃j,j<m/\ld' j=ld i/\g Y j (ld i)∣g X i (ld i):=by
 obtain⟨h1,h2,h3⟩:=sX.lead i hi;rcases sY.at (h i hi) h1 h3 with q|q
 . exact q
 . rw[q]at h2;exact absurd h2 (by decide)
def bY.same{X Y:Rows}{n m w:Nat}{ld ld':Nat->Nat}(sX:bY X n w ld)(sY:bY Y m w ld')(h1:∀k,k<n->bL Y m w (g X k))(h2:∀k,k<m->bL X n w (g Y k))(i:Nat):i<n->i<m/\ld' i=ld i/\g Y i (ld i)=g X i (ld i):=by
 induction i using Nat.strongRecOn with
 |ind i ih=>
  intro hi;obtain⟨j,hj,ej,dj⟩:=sX.sees sY h1 i hi
  have e:j=i:=by
   rcases Uq j i with l|l|l
   . have:=(ih j l (TF l hi)).2.1;exact absurd (this.symm.trans ej) (Sj (sX.mono j i l hi))
   . exact l
   . obtain⟨k,hk,ek,_⟩:=sY.sees sX h2 i (TF l hj);have lk:k<i:=sX.lt hk hi (by rw[ek,<-ej];exact sY.mono i j l hj);have:=(ih k lk hk).2.1;exact absurd (this.trans ek) (Sj (sY.mono k i lk (TF l hj)))
  subst e;refine⟨hj,ej,?_⟩;obtain⟨k,hk,ek,dk⟩:=sY.sees sX h2 j hj;have:=sX.inj hk hi (ek.trans ej);subst this;rw[ej]at dk;exact Int.dvd_antisymm (by rw[<-ej];exact T7 (sY.lead k hj).2.1) (T7 (sX.lead k hi).2.1) dj dk
def bY.many{X Y:Rows}{n m w:Nat}{ld ld':Nat->Nat}(sX:bY X n w ld)(sY:bY Y m w ld')(h1:∀k,k<n->bL Y m w (g X k))(h2:∀k,k<m->bL X n w (g Y k)):n=m:=by
 refine Wy ?_ ?_
 . cases n with
   |zero=>exact Sg _
   |succ n=>exact(sX.same sY h1 h2 n (Si n)).1
 . cases m with
   |zero=>exact Sg _
   |succ m=>exact(sY.same sX h2 h1 m (Si m)).1
def kJ(X:Rows)(n:Nat)(ld:Nat->Nat):Prop:=∀i j,i<j->j<n->0<=g X i (ld j)/\g X i (ld j)<g X j (ld j)
def bY.only{X Y:Rows}{n m w:Nat}{ld ld':Nat->Nat}(sX:bY X n w ld)(sY:bY Y m w ld')(h1:∀k,k<n->bL Y m w (g X k))(h2:∀k,k<m->bL X n w (g Y k))(rX:kJ X n ld)(rY:kJ Y m ld'){i:Nat}(hi:i<n)(c:Nat):c<w->g X i c=g Y i c:=by
 induction c using Nat.strongRecOn with
 |ind c ih=>
  intro hc;obtain⟨im,il,ig⟩:=sX.same sY h1 h2 i hi;have hv:bL X n w λ c=>g X i c-g Y i c:=(bL.row hi).sub (h2 i im);rcases sX.at hv hc λ d hd=>by rw[ih d hd (TF hd hc),Wo]with⟨j,hj,rfl,d⟩|q
  . obtain⟨jm,jl,jg⟩:=sX.same sY h1 h2 j hj;rcases Uq i j with l|l|l
    . have a:=rX i j l hj;have b:=rY i j l jm;rw[jl,jg]at b;exact WR (UW d (by omega))
    . subst l;exact ig.symm
    . rw[(sX.lead i hi).2.2 _ (sX.mono j i l hi),(sY.lead i im).2.2 _ (by rw[il];exact sX.mono j i l hi)]
  . exact WR q
def fU.Gj{A0:Rows}{N w top p m:Nat}{b0 b c:B3}(hp:p<w)(h:fU N top p b c):∀ {gr:Nat},rm A0 N w top p m b0 b gr->∃gr',rm A0 N w top p m b0 c gr':=by
 induction h with
 |refl b=>exact λ G=>⟨_,G⟩
 |head s _ ih=>
  intro gr G;obtain⟨L,k,j,hL,rfl⟩:=s;exact ih (G.step hp hL).1
def lB.mono{A0:Rows}{N w top p m m':Nat}{b0 b:B3}(s:lB A0 N w top p m b0 b)(h:m<=m'):lB A0 N w top p m' b0 b:=
 ⟨s.tn,s.up,⟨λ i c h1 h2=>RD (s.lo.1 i c h1 h2) h,λ i c h1 h2=>RD (s.lo.2.1 i c h1 h2) h,λ i c h1 h2=>RD (s.lo.2.2 i c h1 h2) h⟩,s.zs,s.tp,s.z1⟩
def lB.Rt{A0:Rows}{N w top p m:Nat}{b0 b:B3}(s:lB A0 N w top p m b0 b){i:Nat}(hi:i<top)(q:Nat):g b.A i q=g b0.A i q/\g b.U i q=g b0.U i q/\g b.C i q=g b0.C i q:=by
 obtain⟨a1,a2,a3⟩:=s.up i hi;unfold g;rw[a1,a2,a3];exact⟨rfl,rfl,rfl⟩
def nl(A:Rows)(N t p:Nat):Nat:=SU (λ i=>if t<=i/\g A i p≠0 then 1 else 0) N
def zJ{n:Nat}{f:Nat->Int}:∀ {N:Nat},n<=N->(∀i,n<=i->i<N->f i=0)->S N f=S n f
 |0,h,_=>by rw[Nat.le_zero.mp h]
 |N+1,h,z=>by
  by_cases e:n=N+1
  . rw[e]
  . have hn:n<=N:=by omega
    show S N f+f N=_;rw[z N hn (Si N),Tt];exact zJ hn λ i h1 h2=>z i h1 (Sk h2)
def gX.Ph{A:Rows}{N w top e u:Nat}{c:B3}{ld:Nat->Nat}(s:gX A N w c top w ld e u):bY c.A top w ld/\kJ c.A top ld:=⟨⟨s.lead,s.mono⟩,s.red⟩
def gX.in{A:Rows}{N w top e u:Nat}{c:B3}{ld:Nat->Nat}(s:gX A N w c top w ld e u)(k:Nat)(hk:k<top):bL A N w (g c.A k):=
 ⟨g c.U k,λ q hq=>s.tn.ua k q (RW hk s.le) hq⟩
def gX.out{A:Rows}{N w top e u:Nat}{c:B3}{ld:Nat->Nat}(s:gX A N w c top w ld e u)(k:Nat)(hk:k<N):bL c.A top w (g A k):=by
 refine⟨λ i=>g c.C i k,λ q hq=>?_⟩
 have e1:S N (λ i=>g c.C i k*g c.A i q)=g A k q:=by
  have:S N (λ i=>g c.C i k*g c.A i q)=S N λ i=>S N λ j=>g c.C i k*g c.U i j*g A j q:=aq λ i hi=>by
   rw[s.tn.ua i q hi hq,<-c7];exact aq λ j _=>(So _ _ _).symm
  rw[this,iE]
  have e2:S N (λ j=>S N λ i=>g c.C i k*g c.U i j*g A j q)=S N λ j=>dl k j*g A j q:=aq λ j hj=>by
   rw[jL,s.tn.bu k j hk hj]
  rw[e2,jX hk λ j=>g A j q]
 rw[<-e1];exact zJ s.le λ i h1 h2=>by rw[s.zs i q h1 h2 hq,Sf]
def ft{X:Rows}{n i q:Nat}(h:i<n):g (X.take n) i q=g X i q:=by
 unfold g;rw[RC (l:=X.take n),RC (l:=X),T6 h]
def bL.Qf{X:Rows}{n w:Nat}{u v:Nat->Int}(x:Int)(hu:bL X n w u)(hv:bL X n w v):bL X n w λ c=>u c+x*v c:=by
 obtain⟨y,hy⟩:=hu;obtain⟨z,hz⟩:=hv;refine⟨λ k=>y k+x*z k,λ c hc=>?_⟩;show u c+x*v c=S n λ k=>(y k+x*z k)*g X k c;rw[hy c hc,hz c hc,<-c7,<-fu];exact aq λ k _=>by rw[VW,So]
def bL.eq{X:Rows}{n w:Nat}{u v:Nat->Int}(hu:bL X n w u)(h:∀c,c<w->v c=u c):bL X n w v:=by
 obtain⟨y,hy⟩:=hu;exact⟨y,λ c hc=>(h c hc).trans (hy c hc)⟩
structure mB(X:Rows)(n:Nat)(Y:Rows)(m w:Nat):Prop where
 to:∀k,k<n->bL Y m w (g X k)
 of:∀k,k<m->bL X n w (g Y k)
def bL.zero{X:Rows}{n w:Nat}{v:Nat->Int}(h:∀c,c<w->v c=0):bL X n w v:=
 ⟨λ _=>0,λ c hc=>by rw[h c hc,gf λ k _=>SH _]⟩
def rg{X:Rows}{r:Row}{k:Nat}(hk:k<=X.length)(i:Nat):(X.take k++r::X.drop k).getD i []=if i<k then X.getD i []else if i=k then r else X.getD (i-1) []:=by
 have lt:(X.take k).length=k:=by rw[SG];omega
 rw[RC,RC,RC];by_cases h:i<k
 . rw[RF h,RH (by rw[lt];exact h),T6 h]
 . rw[RE h,Sh (by rw[lt];omega),lt];by_cases h2:i=k
   . rw[RF h2,h2,TU];rfl
   . rw[RE h2];have:i-k=(i-1-k)+1:=by omega
     rw[this,Vg,List.getElem?_drop];congr 2;omega
structure tu(F:Rows)(w:Nat)(ld:Nat->Nat)(row:Nat->Int)(i:Nat)(o:Int)(L:Nat->Int):Prop where
 pos:0<o
 sum:bL F i w λ c=>o*row c-L c
 off:∀k,k<i->L (ld k)=0
 least:∀(m:Int) (v:Nat->Int),bL F i w v->(∀k,k<i->m*row (ld k)=v (ld k))->o∣m
structure Ab(F:Rows)(n w:Nat)(ld:Nat->Nat)(row:Nat->Int)(i:Nat)(L:Nat->Int):Prop where
 sum:bL F n w λ c=>row c-L c
 red:∀k,k<i->0<=L (ld k)/\L (ld k)<g F k (ld k)
def Ab.start{F:Rows}{n w:Nat}{ld:Nat->Nat}{row:Nat->Int}:Ab F n w ld row 0 row:=⟨bL.zero λ c _=>Wo _,λ _ h=>absurd h (Sd _)⟩
def Ab.step{F:Rows}{n w i:Nat}{ld:Nat->Nat}{row L:Nat->Int}(s:bY F n w ld)(hi:i<n)(f:Ab F n w ld row i L):Ab F n w ld row (i+1) λ c=>L c-(L (ld i)).fdiv (g F i (ld i))*g F i c:=by
 obtain⟨l1,l2,l3⟩:=s.lead i hi;refine⟨(f.sum.Qf ((L (ld i)).fdiv (g F i (ld i))) (bL.row hi)).eq λ c _=>by omega,λ k hk=>?_⟩;show 0<=L (ld k)-_*g F i (ld k)/\L (ld k)-_*g F i (ld k)<_;rcases Ui k i with h|h
 . rw[l3 _ (s.mono k i h hi),Sf,Int.sub_zero];exact f.red k h
 . have:k=i:=Wy (Nat.le_of_lt_succ hk) h;subst this;have e:=Int.fmod_add_mul_fdiv (L (ld k)) (g F k (ld k));have a:=Sw (L (ld k)) l2;have b:=SO (L (ld k)) l2;rw[SI]at e;omega
def xq{K m:Nat}:∀ {n:Nat} {M:Fn},n<=K->(∀r c,r<n->c<n->(M r c).natAbs<=m)->(D n M).natAbs<=(K*m)^n
 |0,_,_,_=>by simp[D]
 |n+1,M,hn,h=>by
  rw[eV]
  have key:∀j,j<n+1->(sg j*M 0 j*D n λ r c=>M (r+1) (sk j c)).natAbs<=m*(K*m)^n:=λ j hj=>by
   have a:=xq (K:=K) (m:=m) (n:=n) (M:=λ r c=>M (r+1) (sk j c)) (by omega) λ r c hr hc=>h (r+1) (sk j c) (by omega) (my hc);have b:=h 0 j (by omega) hj;have s:(sg j).natAbs=1:=by unfold sg;split<;>rfl
   rw[Ss,Ss,s,UL];exact Sq b a
  refine RD (z9 key) ?_;rw[Tu,TC ((K*m)^n),US];exact S8 _ hn
def pick{t N:Nat}{U B:Fn}(h:∀k l,k<t->l<t->S N (λ i=>U k i*B i l)=dl k l):∃I:Nat->Nat,(∀k,k<t->I k<N)/\D t (λ k l=>B (I k) l)≠0:=by
 apply T5;intro no
 have go:∀s,s<=t->∀I:Nat->Nat,(∀k,k<t->s<=k->I k<N)->D t (λ k l=>if k<s then dl k l else B (I k) l)=0:=by
  intro s;induction s with
  |zero=>
   intro _ I hI;exact T5 λ z=>no ⟨I,λ k hk=>hI k hk (Sg _),z⟩
  |succ s ih=>
   intro hs I hI
   have e:D t (λ k l=>if k<s+1 then dl k l else B (I k) l)=D t (upd (λ k l=>if k<s then dl k l else B (I k) l) s λ l=>S N λ j=>U s j*B j l):=dv λ k l hk hl=>by
    unfold upd;by_cases h1:k=s
    . subst h1;rw[RF rfl,RF (Si _)];exact(h k l hk hl).symm
    . rw[RE h1];show _=if k<s then dl k l else B (I k) l
      by_cases h2:k<s
      . rw[RF (by omega),RF h2]
      . rw[RE (by omega),RE h2]
   rw[e,(qy t).uj (by omega)];refine gf λ j hj=>?_
   have e2:=ih (by omega) (λ k=>if k=s then j else I k) λ k hk hsk=>by
    by_cases h1:k=s
    . rw[RF h1];exact hj
    . rw[RE h1];exact hI k hk (by omega)
   have e3:D t (upd (λ k l=>if k<s then dl k l else B (I k) l) s (B j))=D t (λ k l=>if k<s then dl k l else B (if k=s then j else I k) l):=dv λ k l hk hl=>by
    unfold upd;by_cases h1:k=s
    . subst h1;rw[RF rfl,RE (S0 _),RF rfl]
    . rw[RE h1,RE h1]
   rw[e3,e2,Sf]
 have z:=go t (Ry _) (λ _=>0) λ k h1 h2=>absurd h1 (Nat.not_lt.mpr h2);rw[dv (M':=dl) λ r c hr hc=>RF hr,yf]at z;exact absurd z (by decide)
def wI:∀ {n:Nat} {f:Nat->Int},(∀i,i<n->0<f i)->0<Pr n f
 |0,_,_=>show(0:Int)<1 by decide
 |n+1,f,h=>Int.mul_pos (wI λ i hi=>h i (Sk hi)) (h n (Si n))
def Jj:∀ {n:Nat} {f:Nat->Int},(∀i,i<n->0<f i)->∀k,k<n->f k<=Pr n f
 |n+1,f,h,k,hk=>by
  have p:=wI λ i hi=>h i (Sk hi);have q:=h n (Si n);show f k<=Pr n f*f n;by_cases e:k=n
  . subst e;have:=Int.mul_le_mul_of_nonneg_right (show(1:Int)<=Pr k f from p) (T7 q);omega
  . have a:=Jj (λ i hi=>h i (Sk hi)) k (by omega);have:=VO (show(1:Int)<=f n from q) (T7 p);omega
def wY{w x:Int}{m:Nat}(hw:w≠0)(h:(w*x).natAbs<=m):x.natAbs<=m:=by
 rw[Ss]at h;exact RD (UM _ (by omega)) h
def F7{b i j:Nat}(h:1<=b)(l:i<=j):(9*b)^i<=(9*b)^j:=R9 (by omega) l
def HB{A F U B:Fn}{N w t b:Nat}{ld:Nat->Nat}(t8:t<=8)(b1:1<=b)(hA:∀i c,i<N->c<w->(A i c).natAbs<=b)(hAF:∀i c,i<N->c<w->A i c=S t λ k=>B i k*F k c)(hUB:∀k l,k<t->l<t->S N (λ i=>U k i*B i l)=dl k l)(lead:∀i,i<t->ld i<w/\0<F i (ld i)/\∀c,c<ld i->F i c=0)(mono:∀i j,i<j->j<t->ld i<ld j)(red:∀i j,i<j->j<t->0<=F i (ld j)/\F i (ld j)<F j (ld j)):
 Pr t (λ i=>F i (ld i))<=((9*b)^8:Nat)/\∀k c,k<t->c<w->(F k c).natAbs<=8*((9*b)^9*(9*b)^8):=by
 obtain⟨I,hI,hw⟩:=pick hUB;have eE:D t (λ k l=>F k (ld l))=Pr t λ i=>F i (ld i):=LW λ r c hr hc h=>(lead r hr).2.2 _ (mono c r h hr);have pos:0<Pr t λ i=>F i (ld i):=wI λ i hi=>(lead i hi).2.1
 have eM:D t (λ k l=>A (I k) (ld l))=D t (λ k l=>B (I k) l)*D t λ k l=>F k (ld l):=by
  rw[<-EB];exact dv λ k l hk hl=>hAF _ _ (hI k hk) (lead l hl).1
 have bM:(D t (λ k l=>A (I k) (ld l))).natAbs<=(9*b)^t:=xq (K:=9) (by omega) λ r c hr hc=>hA _ _ (hI r hr) (lead c hc).1;rw[eM,eE]at bM;have bP:(Pr t λ i=>F i (ld i)).natAbs<=(9*b)^8:=RD (wY hw bM) (F7 b1 t8);refine⟨by omega,λ k c hk hc=>?_⟩
 have bF:∀l,l<t->(F k (ld l)).natAbs<=(9*b)^8:=λ l hl=>by
  have p:=Jj (f:=λ i=>F i (ld i)) (λ i hi=>(lead i hi).2.1) l hl;rcases Uq k l with h|h|h
  . have:=red k l h hl;have p':F l (ld l)<=Pr t λ i=>F i (ld i):=p;omega
  . subst h;have q:=(lead k hk).2.1;have p':F k (ld k)<=Pr t λ i=>F i (ld i):=p;omega
  . rw[(lead k hk).2.2 _ (mono l k h hk)];exact Sg _
 have e0:=Pp (λ l k=>F k (ld l)) t (λ k=>F k c) k;rw[L_ hk]at e0;have eT:D t (λ l k=>F k (ld l))=Pr t λ i=>F i (ld i):=by rw[<-eE];exact yr t λ k l=>F k (ld l)
 rw[eT]at e0
 have bB:∀l,l<t->(D t (λ k l=>B (I k) l)*bt (λ l k=>F k (ld l)) t (λ k=>F k c) l).natAbs<=(9*b)^9:=λ l hl=>by
  have eW:D (t+1) (λ i k=>if i=t then dl t k else if k=t then 0 else B (I i) k)=D t λ k l=>B (I k) l:=by
   rw[Bh λ c _=>RF rfl];exact dv λ r c hr hc=>by rw[RE (by omega),RE (by omega)]
  have eX:D (t+1) (upd (λ i r=>if r<t then A (I i) (ld r)else A (I i) c) t (dl l))=D t (λ k l=>B (I k) l)*bt (λ l k=>F k (ld l)) t (λ k=>F k c) l:=by
   unfold bt;rw[<-eW,<-EB];refine dv λ i r hi hr=>?_;by_cases h:i=t
   . subst h;rw[cN];have:(S (i+1) λ k=>(if i=i then dl i k else if k=i then 0 else B (I i) k)*upd (λ c_1 r=>if r<i then F c_1 (ld r)else F c_1 c) i (dl l) k r)=S (i+1) λ k=>dl i k*upd (λ c_1 r=>if r<i then F c_1 (ld r)else F c_1 c) i (dl l) k r:=aq λ k _=>by rw[RF rfl]
     rw[this,jX (Si i),cN]
   . have hi':i<t:=by omega
     rw[aB h];show _=(S t λ k=>(if i=t then dl t k else if k=t then 0 else B (I i) k)*upd (λ c_1 r=>if r<t then F c_1 (ld r)else F c_1 c) t (dl l) k r)+(if i=t then dl t t else if t=t then 0 else B (I i) t)*upd (λ c_1 r=>if r<t then F c_1 (ld r)else F c_1 c) t (dl l) t r;have z:(if i=t then dl t t else if t=t then 0 else B (I i) t)*upd (λ c_1 r=>if r<t then F c_1 (ld r)else F c_1 c) t (dl l) t r=0:=by rw[RE h,RF rfl,SH]
     rw[z,Tt]
     have e2:∀k,k<t->(if i=t then dl t k else if k=t then 0 else B (I i) k)*upd (λ c_1 r=>if r<t then F c_1 (ld r)else F c_1 c) t (dl l) k r=B (I i) k*(if r<t then F k (ld r)else F k c):=λ k hk=>by
      rw[RE h,RE (by omega),aB (by omega)]
     rw[aq e2];by_cases hrt:r<t
     . rw[RF hrt,hAF _ _ (hI i hi') (lead r hrt).1];exact aq λ k _=>by rw[RF hrt]
     . rw[RE hrt,hAF _ _ (hI i hi') hc];exact aq λ k _=>by rw[RE hrt]
  rw[<-eX];refine RD (xq (K:=9) (by omega) λ r q hr hq=>?_) (F7 b1 (show t+1<=9 by omega));by_cases h:r=t
  . subst h;rw[cN];unfold dl;split<;>omega
  . rw[aB h];have hr':r<t:=by omega
    split
    . rename_i hq';exact hA _ _ (hI r hr') (lead q hq').1
    . exact hA _ _ (hI r hr') hc
 have e1:D t (λ k l=>B (I k) l)*(Pr t λ i=>F i (ld i))*F k c= -S t λ l=>(D t (λ k l=>B (I k) l)*bt (λ l k=>F k (ld l)) t (λ k=>F k c) l)*F k (ld l):=by
  have:(S t λ l=>(D t (λ k l=>B (I k) l)*bt (λ l k=>F k (ld l)) t (λ k=>F k c) l)*F k (ld l))=D t (λ k l=>B (I k) l)*S t λ l=>bt (λ l k=>F k (ld l)) t (λ k=>F k c) l*F k (ld l):=by
   rw[<-c7];exact aq λ l _=>So _ _ _
  rw[this,So,<-Int.mul_neg];congr 1;omega
 refine wY (w:=D t (λ k l=>B (I k) l)*(Pr t λ i=>F i (ld i))) (VL hw (UO pos)) ?_;rw[e1,Ue];refine RD (z9 λ l hl=>?_) (S8 _ t8);rw[Ss];exact Sq (bB l hl) (bF l hl)
def gX.back{A0:Rows}{N w top e u:Nat}{c:B3}{ld:Nat->Nat}(H:gX A0 N w c top w ld e u){i q:Nat}(hi:i<N)(hq:q<w):g A0 i q=S top λ k=>g c.C k i*g c.A k q:=by
 have T:=H.tn
 have e1:S N (λ k=>g c.C k i*g c.A k q)=g A0 i q:=by
  have:S N (λ k=>g c.C k i*g c.A k q)=S N λ k=>S N λ m=>g c.C k i*g c.U k m*g A0 m q:=aq λ k hk=>by
   rw[T.ua k q hk hq,<-c7];exact aq λ m _=>(So _ _ _).symm
  rw[this,iE];have:(S N λ m=>S N λ k=>g c.C k i*g c.U k m*g A0 m q)=S N λ m=>dl i m*g A0 m q:=aq λ m hm=>by rw[jL,T.bu i m hi hm]
  rw[this,jX hi]
 have cut:∀n,top<=n->n<=N->S n (λ k=>g c.C k i*g c.A k q)=S top λ k=>g c.C k i*g c.A k q:=λ n=>by
  induction n with
  |zero=>intro h _;rw[Nat.le_zero.mp h]
  |succ n ih=>
   intro h h2;by_cases e:top=n+1
   . rw[e]
   . show S n _+g c.C n i*g c.A n q=_;rw[ih (by omega) (by omega),H.zs n q (by omega) (by omega) hq,Sf,Tt]
 rw[<-e1,cut N H.le (Ry _)]
def gX.small{A0:Rows}{N w top e u b:Nat}{c:B3}{ld:Nat->Nat}(H:gX A0 N w c top w ld e u)(hN:N<=8)(b1:1<=b)(hA:∀i c,i<N->c<w->(g A0 i c).natAbs<=b):
 Pr top (λ i=>g c.A i (ld i))<=((9*b)^8:Nat)/\∀k q,k<top->q<w->(g c.A k q).natAbs<=8*((9*b)^9*(9*b)^8):=
 HB (A:=g A0) (F:=g c.A) (U:=g c.U) (B:=λ i k=>g c.C k i) (RD H.le hN) b1 hA (λ i q hi hq=>H.back hi hq) (λ k l hk hl=>H.tn.ub k l (RW hk H.le) (RW hl H.le)) H.lead H.mono H.red
def dy(F:Rows)(i:Nat):Nat:=(F.getD i []).findIdx (λ x=>x != 0)
def wQ:∀ {r:Row} {l:Nat},(∀c,c<l->r.getD c 0=0)->r.getD l 0≠0->r.findIdx (λ x=>x != 0)=l
 | [],l,_,h=>(h rfl).elim
 |x::r,0,_,h=>by
  have h':(x != 0)=true:=V9.mpr h;rw[List.findIdx_cons,h'];rfl
 |x::r,l+1,hz,h=>by
  have x0:(x != 0)=false:=bne_eq_false_iff_eq.mpr (hz 0 (Nat.zero_lt_succ _));rw[List.findIdx_cons,x0,wQ (r:=r) (l:=l) (λ c hc=>hz (c+1) (Wq hc)) h];rfl
def bY.dy{F:Rows}{n w:Nat}{ld:Nat->Nat}(s:bY F n w ld){i:Nat}(hi:i<n):Mx.dy F i=ld i:=by
 obtain⟨_,h2,h3⟩:=s.lead i hi;exact wQ h3 (UO h2)
def bY.MN{F:Rows}{n w:Nat}{ld:Nat->Nat}(s:bY F n w ld):bY F n w (Mx.dy F):=
 ⟨λ i hi=>by rw[s.dy hi];exact s.lead i hi,λ i j h hj=>by rw[s.dy hj,s.dy (TF h hj)];exact s.mono i j h hj⟩
def qC(F:Rows)(L:Row)(i:Nat):Int:=(L.getD (dy F i) 0).fdiv (g F i (dy F i))
def d7(F:Rows)(r:Row):Nat->Row
 |0=>r
 |i+1=>dN (d7 F r i) (-(qC F (d7 F r i) i)) (F.getD i [])
def oM(F:Rows)(r:Row)(n:Nat):Row:=(List.range n).map λ i=>qC F (d7 F r i) i
section
variable {F:Rows}{r:Row}{m w:Nat}(isF:bK m w F)(lr:r.length=w)
include isF lr
theorem l_:∀ {i:Nat},i<=m->(d7 F r i).length=w
 |0,_=>lr
 |i+1,h=>by
  unfold d7;rw[i9 (by rw[l_ (by omega),isF.row (by omega)])];exact l_ (by omega)
theorem Ai{i:Nat}(hi:i<m)(c:Nat):(d7 F r (i+1)).getD c 0=(d7 F r i).getD c 0-qC F (d7 F r i) i*g F i c:=by
 conv=>lhs;unfold d7
 rw[nH (by rw[l_ isF lr (by omega),isF.row hi]),TJ];rfl
theorem Cu:∀ {i:Nat},i<=m->∀c,r.getD c 0=(d7 F r i).getD c 0+S i λ j=>qC F (d7 F r j) j*g F j c
 |0,_,c=>(Tt _).symm
 |i+1,h,c=>by
  have e:=Cu (i:=i) (by omega) c;rw[Ai isF lr (by omega)];show _=_+(S i _+qC F (d7 F r i) i*g F i c);omega
theorem u_(s:bY F m w (dy F)):∀ {i:Nat},i<=m->Ab F m w (dy F) (λ c=>r.getD c 0) i (λ c=>(d7 F r i).getD c 0)
 |0,_=>Ab.start
 |i+1,h=>by
  have:=(u_ s (i:=i) (by omega)).step s h
  have e:(λ c=>(d7 F r (i+1)).getD c 0)=λ c=>(d7 F r i).getD c 0-((d7 F r i).getD (dy F i) 0).fdiv (g F i (dy F i))*g F i c:=by
   funext c;rw[Ai isF lr h];rfl
  rw[e];exact this
theorem rl{f e:Nat}(s:bY F m w (dy F))(hF:∀k c,k<m->c<w->(g F k c).natAbs<=2^f)(hr:∀c,c<w->(r.getD c 0).natAbs<=2^e):∀ {i:Nat},i<=m->∀c,c<w->((d7 F r i).getD c 0).natAbs<=2^(e+i*(f+1))
 |0,_,c,hc=>by rw[Wn];exact hr c hc
 |i+1,h,c,hc=>by
  have ih:=rl s hF hr (i:=i) (by omega);obtain⟨l1,l2,_⟩:=s.lead i h;have q:=RD (iV ((d7 F r i).getD (dy F i) 0) l2) (ih _ l1);rw[Ai isF lr h]
  have p:(qC F (d7 F r i) i*g F i c).natAbs<=2^(e+i*(f+1))*2^f:=by
   rw[Ss];exact Sq q (hF i c h hc)
  have b:=ih c hc
  have e1:2^(e+(i+1)*(f+1))=2^(e+i*(f+1))*2^f*2:=by
   rw[show e+(i+1)*(f+1)=e+i*(f+1)+f+1 by rw[We];omega,Tu,TX]
  have e2:2^(e+i*(f+1))<=2^(e+i*(f+1))*2^f:=Ua _ (WH (by decide));rw[e1];omega
end
def GW{A0:Rows}{N w top e u:Nat}{c:B3}{ld:Nat->Nat}(H:gX A0 N w c top w ld e u){r ws:Row}(lw:ws.length=top)(hs:∀q,q<w->r.getD q 0=S top λ j=>ws.getD j 0*g c.A j q){q:Nat}(hq:q<w):(S N λ n=>(fD ws (c.U.take top) (List.replicate N 0)).getD n 0*g A0 n q)=r.getD q 0:=by
 have T:=H.tn;have hl:(c.U.take top).length=top:=by rw[SG,T.eP.len];exact VM H.le
 have e1:∀n,(fD ws (c.U.take top) (List.replicate N 0)).getD n 0=S top λ j=>ws.getD j 0*g c.U j n:=λ n=>by
  rw[sr (n:=N) n (by simp) (λ r hr=>T.eP.dh r (T8 hr)) (by rw[hl,lw]),eA,TV,hl];refine aq λ j hj=>?_;unfold g;rw[ax (l:=c.U.take top) (by omega),List.getElem_take,ax (l:=c.U) (by have:=T.eP.len;have:=H.le;omega)]
 have e2:(S N λ n=>(fD ws (c.U.take top) (List.replicate N 0)).getD n 0*g A0 n q)=S N λ n=>S top λ j=>ws.getD j 0*(g c.U j n*g A0 n q):=aq λ n _=>by
  rw[e1,<-jL];exact aq λ j _=>So _ _ _
 rw[e2,iE,hs q hq];refine aq λ j hj=>?_;rw[c7,<-T.ua j q (RW hj H.le) hq]
def wo:Int->Int->List Rat->Row->Int×Int
 |T,B,p::ps,n::r=>wo (T*p.den+p.num*n*B) (B*p.den) ps r
 |T,B,_,_=>(T,B)
structure nc(A0:Rows)(N w:Nat)(b:B3)(top p:Nat)(ld:Nat->Nat)(e u v:Nat):Prop where
 tn:Tn A0 b.A b.U b.C N w
 le:top<=N
 lo:h_ b.A N top (2^e)/\h_ b.U N top (2^e)/\h_ b.C N top (2^e)
 hi:∀i c,i<top->(g b.A i c).natAbs<=2^u/\(g b.U i c).natAbs<=2^u/\(g b.C i c).natAbs<=2^v
 zs:∀i c,top<=i->i<N->c<p->g b.A i c=0
 lead:∀i,i<top->ld i<p/\0<g b.A i (ld i)/\∀c,c<ld i->g b.A i c=0
 mono:∀i j,i<j->j<top->ld i<ld j
 red:∀i j,i<j->j<top->0<=g b.A i (ld j)/\g b.A i (ld j)<g b.A j (ld j)
def nc.Gj{A0:Rows}{N w top p e u v:Nat}{b:B3}{ld:Nat->Nat}(S:nc A0 N w b top p ld e u v):rm A0 N w top p (2^e) b b 1:=
 ⟨S.tn,λ _ _=>⟨rfl,rfl,rfl⟩,by rw[Uu];exact S.lo.1,by rw[Uu];exact S.lo.2.1,by rw[Uu];exact S.lo.2.2,S.zs,by rw[UL];exact Ry _,Ry _,.inl rfl⟩
def nc.skip{A0:Rows}{N w top p e u v:Nat}{b:B3}{ld:Nat->Nat}(S:nc A0 N w b top p ld e u v)(h:iq b.A N top p []):nc A0 N w b top (p+1) ld e u v:=
 ⟨S.tn,S.le,S.lo,S.hi,λ i c h1 h2 h3=>by
  by_cases hc:c=p
  . subst hc;exact T5 λ z=>absurd ((h.mem i).mpr ⟨h1,h2,z⟩) (by simp)
  . exact S.zs i c h1 h2 (by omega),λ i hi=>⟨Sk (S.lead i hi).1,(S.lead i hi).2⟩,S.mono,S.red⟩
structure qg(A0:Rows)(N w top p e u v:Nat)(b:B3)(k:Nat)(c:B3):Prop where
 tn:Tn A0 c.A c.U c.C N w
 rA:∀i,k<=i->c.A.getD i []=b.A.getD i []/\c.U.getD i []=b.U.getD i []
 rC:∀i,i≠top->c.C.getD i []=b.C.getD i []
 ah:∀i q,i<k->q<p->g c.A i q=g b.A i q
 rd:∀i,i<k->0<=g c.A i p/\g c.A i p<g c.A top p
 sz:∀i q,i<k->(g c.A i q).natAbs<=2^(u+e+1)/\(g c.U i q).natAbs<=2^(u+e+1)
 sC:∀q,(g c.C top q).natAbs<=2^e+k*2^(u+v)
def qg.step{A0:Rows}{N w top p e u v k:Nat}{b c:B3}(I:qg A0 N w top p e u v b k c)(hk:k<top)(ht:top<N)(hp:p<w)(htp:0<g b.A top p)(hz:∀q,q<p->g b.A top q=0)
 (hlo:∀q,(g b.A top q).natAbs<=2^e/\(g b.U top q).natAbs<=2^e) (hhi:∀i q,i<top->(g b.A i q).natAbs<=2^u/\(g b.U i q).natAbs<=2^u/\(g b.C i q).natAbs<=2^v):
 qg A0 N w top p e u v b (k+1) ⟨bJ c.A k ((g c.A k p).fdiv (g c.A top p)) top,bJ c.U k ((g c.A k p).fdiv (g c.A top p)) top,bJ c.C top (-((g c.A k p).fdiv (g c.A top p))) k⟩:=by
 have hkN:k<N:=by omega
 have gA:∀i q,k<=i->g c.A i q=g b.A i q:=λ i q hi=>by unfold g;rw[(I.rA i hi).1]
 have gU:∀i q,k<=i->g c.U i q=g b.U i q:=λ i q hi=>by unfold g;rw[(I.rA i hi).2]
 have gC:∀i q,i≠top->g c.C i q=g b.C i q:=λ i q hi=>by unfold g;rw[I.rC i hi]
 have qe:((g c.A k p).fdiv (g c.A top p)).natAbs<=2^u:=by
  rw[gA k p (Ry _),gA top p (by omega)];exact RD (iV _ htp) (hhi k p hk).1
 have hq:∀x:Int,x.natAbs<=2^e->((g c.A k p).fdiv (g c.A top p)*x).natAbs<=2^(u+e):=λ x hx=>by
  rw[Ss,TX];exact Sq qe hx
 have le1:2^u<=2^(u+e):=R9 (by decide) (by omega);refine⟨I.tn.take hkN ht (by omega),λ i hi=>?_,λ i hi=>?_,λ i q hi hqp=>?_,λ i hi=>?_,λ i q hi=>?_,λ q=>?_⟩
 . exact⟨(gT (by rw[I.tn.isA.len];exact hkN) (by omega)).trans (I.rA i (by omega)).1,(gT (by rw[I.tn.eP.len];exact hkN) (by omega)).trans (I.rA i (by omega)).2⟩
 . exact(gT (by rw[I.tn.gb.len];exact ht) hi).trans (I.rC i hi)
 . show g (bJ c.A k _ top) i q=_;rw[eO I.tn.isA hkN ht];split
   . rename_i h;rw[gA top q (by omega),hz q hqp,Sf,gA k q (Ry _),h];omega
   . exact I.ah i q (by omega) hqp
 . show 0<=g (bJ c.A k _ top) i p/\g (bJ c.A k _ top) i p<g (bJ c.A k _ top) top p;rw[eO I.tn.isA hkN ht,eO I.tn.isA hkN ht,RE (show¬top=k by omega)];split
   . have h1:=Tc (g c.A k p) (g c.A top p);have htp':0<g c.A top p:=by rw[gA top p (by omega)];exact htp
     have h2:=Sw (g c.A k p) htp';have h3:=SO (g c.A k p) htp';rw[SI]at h1;omega
   . exact I.rd i (by omega)
 . show(g (bJ c.A k _ top) i q).natAbs<=_/\(g (bJ c.U k _ top) i q).natAbs<=_;rw[eO I.tn.isA hkN ht,eO I.tn.eP hkN ht];split
   . have a1:=hq (g c.A top q) (by rw[gA top q (by omega)];exact(hlo q).1);have a2:=hq (g c.U top q) (by rw[gU top q (by omega)];exact(hlo q).2);rw[gA k q (Ry _),gU k q (Ry _)];have b1:=(hhi k q hk).1;have b2:=(hhi k q hk).2.1;rw[Tu];omega
   . exact I.sz i q (by omega)
 . show(g (bJ c.C top _ k) top q).natAbs<=_;rw[eO I.tn.gb ht hkN,RF rfl,gC k q (by omega),TJ];have a1:=I.sC q
   have a2:((g c.A k p).fdiv (g c.A top p)*g b.C k q).natAbs<=2^(u+v):=by
    rw[Ss,TX];exact Sq qe (hhi k q hk).2.2
   rw[Vt,UL];omega
def qg.start{A0:Rows}{N w top p e u v:Nat}{b:B3}(T:Tn A0 b.A b.U b.C N w)(h:∀q,(g b.C top q).natAbs<=2^e):qg A0 N w top p e u v b 0 b:=
 ⟨T,λ _ _=>⟨rfl,rfl⟩,λ _ _=>rfl,λ _ _ h=>absurd h (Sd _),λ _ h=>absurd h (Sd _),λ _ _ h=>absurd h (Sd _),λ q=>by rw[Wn];exact h q⟩
def lB.DR{A0:Rows}{N w top p e u v e' u' v':Nat}{b0 b c:B3}{ld:Nat->Nat}(S:nc A0 N w b0 top p ld e u v)(s:lB A0 N w top p (2^e') b0 b)(ht:top<N)(I:qg A0 N w top p e' u v b top c)(hN:N<=8)
 (h1:u+e'+1<=u') (h2:u+v+4<=v') (h9:e'+1<=v'):nc A0 N w c (top+1) (p+1) (λ i=>if i=top then p else ld i) e' u' v':=by
 have hup:∀i q,i<top->g b.A i q=g b0.A i q:=λ i q hi=>by unfold g;rw[(s.up i hi).1]
 have hA:∀i q,top<=i->g c.A i q=g b.A i q:=λ i q hi=>by unfold g;rw[(I.rA i hi).1]
 have hU:∀i q,top<=i->g c.U i q=g b.U i q:=λ i q hi=>by unfold g;rw[(I.rA i hi).2]
 have hC:∀i q,i≠top->g c.C i q=g b.C i q:=λ i q hi=>by unfold g;rw[I.rC i hi]
 have le:∀ {a x:Nat},a<=2^x->x<=u'->a<=2^u':=λ h hx=>RD h (R9 (by decide) hx);refine⟨I.tn,ht,⟨λ i q hi hN=>?_,λ i q hi hN=>?_,λ i q hi hN=>?_⟩,λ i q hi=>?_,λ i q hi hN hq=>?_,λ i hi=>?_,λ i j hij hj=>?_,λ i j hij hj=>?_⟩
 . rw[hA i q (by omega)];exact s.lo.1 i q (by omega) hN
 . rw[hU i q (by omega)];exact s.lo.2.1 i q (by omega) hN
 . rw[hC i q (by omega)];exact s.lo.2.2 i q (by omega) hN
 . by_cases h:i=top
   . subst h;refine⟨?_,?_,?_⟩
     . rw[hA i q (Ry _)];exact le (s.lo.1 i q (Ry _) ht) (by omega)
     . rw[hU i q (Ry _)];exact le (s.lo.2.1 i q (Ry _) ht) (by omega)
     . have h3:=I.sC q;have h4:i*2^(u+v)<=2^(u+v+3):=by rw[TX _ _ 3,TC];exact Tb _ (by omega)
       have h5:2^(u+v+3)*2<=2^v':=by rw[<-Tu];exact R9 (by decide) h2
       have h6:2^e'*2<=2^v':=by rw[<-Tu];exact R9 (by decide) h9
       omega
   . have hi':i<top:=by omega
     refine⟨le (I.sz i q hi').1 h1,le (I.sz i q hi').2 h1,?_⟩;rw[hC i q h];have:g b.C i q=g b0.C i q:=by unfold g;rw[(s.up i hi').2.2]
     rw[this];exact RD (S.hi i q hi').2.2 (R9 (by decide) (by omega))
 . rw[hA i q (by omega)];by_cases h:q=p
   . rw[h];exact s.z1 i (by omega) hN
   . exact s.zs i q (by omega) hN (by omega)
 . by_cases h:i=top
   . subst h;rw[RF rfl];refine⟨Si p,?_,λ q hq=>?_⟩
     . rw[hA i p (Ry _)];exact s.tp
     . rw[hA i q (Ry _)];exact s.zs i q (Ry _) ht hq
   . have hi':i<top:=by omega
     rw[RE h];obtain⟨a1,a2,a3⟩:=S.lead i hi';refine⟨Sk a1,?_,λ q hq=>?_⟩
     . rw[I.ah i _ hi' a1,hup i _ hi'];exact a2
     . rw[I.ah i _ hi' (TF hq a1),hup i _ hi'];exact a3 q hq
 . by_cases h:j=top
   . rw[RF h,RE (by omega)];exact(S.lead i (by omega)).1
   . rw[RE h,RE (by omega)];exact S.mono i j hij (by omega)
 . by_cases h:j=top
   . subst h;rw[RF rfl];exact I.rd i hij
   . have hj':j<top:=by omega
     rw[RE h];have:=S.red i j hij hj';have hl:=(S.lead j hj').1;rw[I.ah i _ (by omega) hl,I.ah j _ hj' hl,hup i _ (by omega),hup j _ hj'];exact this
def nc.start{A:Rows}{N w e:Nat}(hA:bK N w A)(h:h_ A N 0 (2^e)):nc A N w ⟨A,units N,units N⟩ 0 0 (λ _=>0) e 0 0:=by
 have S:=gX.start hA h;exact⟨S.tn,S.le,S.lo,S.hi,S.zs,S.lead,S.mono,S.red⟩
def Uz(N e0:Nat):Nat->Nat
 |0=>0
 |t+1=>Uz N e0 t+Ez N e0 (t+1)+1
def Cz(N e0:Nat):Nat->Nat
 |0=>0
 |t+1=>Uz N e0 t+Cz N e0 t+Ez N e0 (t+1)+4
def nc.one{A0:Rows}{N w t p e u v r:Nat}{b c:B3}{ld:Nat->Nat}(S:nc A0 N w b t p ld e u v)(hp:p<w)(h:fU N t p b c)(l:iq c.A N t p [r]):
 lB A0 N w t p (2^((N-t+1)*(e+1))) b (setB c p t r)/\t<N/\∀k,k<=t->qg A0 N w t p ((N-t+1)*(e+1)) u v (setB c p t r) k (m_ p t k (setB c p t r)):=by
 obtain⟨gr,G⟩:=h.Gj hp S.Gj;obtain⟨s,h1,h2⟩:=G.set l;have s1:=s.mono (G.low S.lo.1);have ht:t<N:=Nat.lt_of_le_of_lt h1 h2;refine⟨s1,ht,λ k=>?_⟩;induction k with
 |zero=>exact λ _=>qg.start s1.tn λ q=>s1.lo.2.2 t q (Ry _) ht
 |succ k ih=>
  intro hk;refine(ih (Ta hk)).step hk ht hp s1.tp (λ q hq=>s1.zs t q (Ry _) ht hq) (λ q=>⟨s1.lo.1 t q (Ry _) ht,s1.lo.2.1 t q (Ry _) ht⟩) λ i q hi=>?_;obtain⟨a1,a2,a3⟩:=s1.Rt hi q;rw[a1,a2,a3];exact S.hi i q hi
def kK.Qs{A:Rows}{N w e0:Nat}(hA:bK N w A)(hlo:h_ A N 0 (2^e0))(hN:N<=8){p t:Nat}{b:B3}(h:kK A N p t b):p<=w->∃ld,nc A N w b t p ld (Ez N e0 t) (Uz N e0 t) (Cz N e0 t):=by
 induction h with
 |start=>exact λ _=>⟨_,nc.start hA hlo⟩
 |next _ c ih=>
  intro hp;obtain⟨ld,S⟩:=ih (Ta hp);cases c with
  |none l=>exact⟨ld,S.skip l⟩
  |one g l=>
   obtain⟨s1,ht,I⟩:=S.one hp g l;exact⟨_,lB.DR (e':=Ez N e0 (_+1)) (u':=Uz N e0 (_+1)) (v':=Cz N e0 (_+1)) S s1 ht (I _ (Ry _)) hN (by show _<=Uz N e0 _+Ez N e0 (_+1)+1;omega) (by show _<=Uz N e0 _+Cz N e0 _+Ez N e0 (_+1)+4;omega) (by show _<=Uz N e0 _+Cz N e0 _+Ez N e0 (_+1)+4;omega)⟩
def og{α β:Type}(f:α->β):∀(l:List α) (k:Nat),(l.map f).eraseIdx k=(l.eraseIdx k).map f
 | [],_=>rfl
 |_::_,0=>rfl
 |x::l,k+1=>by
  show f x::(l.map f).eraseIdx k=f x::(l.eraseIdx k).map f;rw[og f l k]
def bY.Iw{F:Rows}{n w:Nat}{ld:Nat->Nat}{v:Nat->Int}(s:bY F n w ld)(hv:bL F n w v)(h:∀k,k<n->(v (ld k)).natAbs<(g F k (ld k)).natAbs)(c:Nat):c<w->v c=0:=by
 induction c using Nat.strongRecOn with
 |ind c ih=>
  intro hc;rcases s.at hv hc λ d hd=>ih d hd (TF hd hc)with⟨k,hk,rfl,d⟩|q
  . exact UW d (h k hk)
  . exact q
def yu(a:Nat)(f:Nat->Int):∀b,S (a+b) f=S a f+S b λ i=>f (a+i)
 |0=>(Tt _).symm
 |b+1=>by
  show S (a+b) f+f (a+b)=S a f+(S b (λ i=>f (a+i))+f (a+b));rw[yu a f b,Int.add_assoc]
def rQ{X:Rows}{m i q:Nat}:g (X.drop m) i q=g X (m+i) q:=by
 have e:(X.drop m).getD i []=X.getD (m+i) []:=by rw[RC,List.getElem?_drop,RC]
 unfold g;rw[e]
def gX.kernel{A:Rows}{N w top e u:Nat}{c:B3}{ld:Nat->Nat}(H:gX A N w c top w ld e u){x:Nat->Int}:(∀q,q<w->(S N λ n=>x n*g A n q)=0)↔bL (c.U.drop top) (N-top) N x:=by
 have le:=H.le;constructor
 . intro h
   let y:Nat->Int:=λ i=>S N λ k=>x k*g c.C i k
   have e1:∀j,j<N->x j=S N λ i=>y i*g c.U i j:=λ j hj=>by
    have:(S N λ i=>y i*g c.U i j)=S N λ i=>S N λ k=>x k*(g c.C i k*g c.U i j):=aq λ i _=>by
     show(S N λ k=>x k*g c.C i k)*g c.U i j=_;rw[<-jL];exact aq λ k _=>So _ _ _
    rw[this,iE];have e2:(S N λ k=>S N λ i=>x k*(g c.C i k*g c.U i j))=S N λ k=>x k*dl k j:=aq λ k hk=>by rw[c7,H.tn.bu k j hk hj]
    rw[e2];exact(mj hj x).symm
   have z:∀i,i<top->y i=0:=λ i hi=>by
    refine H.Ph.1.gone (v:=λ _=>0) (z:=y) (q:=w) (λ q hq=>?_) (λ _ _=>rfl) i hi (H.lead i hi).1
    have e3:(S N λ n=>x n*g A n q)=S N λ i=>y i*g c.A i q:=by
     have a1:(S N λ n=>x n*g A n q)=S N λ n=>S N λ i=>y i*(g c.U i n*g A n q):=aq λ n hn=>by
      rw[e1 n hn,<-jL];exact aq λ i _=>So _ _ _
     rw[a1,iE];exact aq λ i hi=>by rw[c7,H.tn.ua i q hi hq]
    rw[h q hq]at e3;rw[e3];exact zJ le λ i h1 h2=>by rw[H.zs i q h1 h2 hq,Sf]
   refine⟨λ i=>y (top+i),λ j hj=>?_⟩;have e4:=yu top (λ i=>y i*g c.U i j) (N-top);rw[Nat.add_sub_cancel' le]at e4;rw[e1 j hj,e4,gf λ i hi=>by rw[z i hi,SH],TV];exact aq λ i _=>by rw[rQ]
 . rintro⟨z,hz⟩ q hq
   have e1:(S N λ n=>x n*g A n q)=S N λ n=>S (N-top) λ i=>z i*(g c.U (top+i) n*g A n q):=aq λ n hn=>by
    rw[hz n hn,<-jL];exact aq λ i _=>by rw[rQ,So]
   rw[e1,iE];refine gf λ i hi=>?_;have hi2:top+i<N:=by omega
   rw[c7,<-H.tn.ua (top+i) q hi2 hq,H.zs (top+i) q (by omega) hi2 hq,Sf]
def kK.Qd{A:Rows}{N p:Nat}{t:Nat}{c:B3}(h:kK A N p t c):t=0->c=⟨A,units N,units N⟩:=by
 induction h with
 |start=>exact λ _=>rfl
 |next _ c ih=>
  intro ht;cases c with
  |none l=>exact ih ht
  |one g l=>cases ht
def bY.EN{X:Rows}{n w:Nat}{ld:Nat->Nat}{v z:Nat->Int}(s:bY X n w ld)(hz:∀c,c<w->v c=S n λ k=>z k*g X k c){j:Nat}(hj:j<=n)(h0:∀l,l<j->v (ld l)=0)(l:Nat):l<j->z l=0:=by
 induction l using Nat.strongRecOn with
 |_ l ih=>
  intro hl;obtain⟨h1,h2,_⟩:=s.lead l (by omega);have e:=hz _ h1
  rw[h0 l hl,kv (k:=l) (by omega) λ k hk hne=>by
   rcases Vb hne with q|q
   . rw[ih k q (by omega),SH]
   . rw[(s.lead k hk).2.2 _ (s.mono l k q hk),Sf]]at e
  rcases Wx.mp e.symm with q|q
  . exact q
  . omega
def bY.Rg{X:Rows}{n w:Nat}{ld:Nat->Nat}{v z:Nat->Int}(s:bY X n w ld)(hz:∀c,c<w->v c=S n λ k=>z k*g X k c){j:Nat}(hj:j<n)(h0:∀l,l<j->v (ld l)=0):v (ld j)=z j*g X j (ld j):=by
 obtain⟨h1,h2,_⟩:=s.lead j hj;rw[hz _ h1]
 exact kv hj λ k hk hne=>by
  rcases Vb hne with q|q
  . rw[s.EN hz (Ta hj) h0 k q,SH]
  . rw[(s.lead k hk).2.2 _ (s.mono j k q hk),Sf]
def bY.nil{X:Rows}{n w:Nat}{ld:Nat->Nat}{v:Nat->Int}(s:bY X n w ld)(hv:bL X n w v)(h0:∀l,l<n->v (ld l)=0)(c:Nat)(hc:c<w):v c=0:=by
 obtain⟨z,hz⟩:=hv;rw[hz c hc];exact gf λ k hk=>by rw[s.EN hz (Ry n) h0 k hk,SH]
def bL.kG{X:Rows}{n w:Nat}{u v:Nat->Int}(a:Int)(hu:bL X n w u)(hv:bL X n w v):bL X n w λ c=>u c+a*v c:=by
 obtain⟨y,hy⟩:=hu;obtain⟨z,hz⟩:=hv;refine⟨λ k=>y k+a*z k,λ c hc=>?_⟩;show u c+a*v c=S n λ k=>(y k+a*z k)*g X k c;rw[hy c hc,hz c hc,<-c7,<-fu];exact aq λ k _=>by rw[VW,So]
def bL.comb{X:Rows}{n w:Nat}{a:Nat->Int}{v:Nat->Nat->Int}:∀ {m:Nat},(∀l,l<m->bL X n w (v l))->bL X n w λ c=>S m λ l=>a l*v l c
 |0,_=>⟨λ _=>0,λ c _=>(gf λ k _=>SH _).symm⟩
 |m+1,h=>bL.kG (a m) (bL.comb (m:=m) λ l hl=>h l (by omega)) (h m (Si m))
def Ra{X:Rows}{n w M:Nat}{ld:Nat->Nat}{d:Int}{v:Nat->Nat->Int}(s:bY X n w ld)(r:kJ X n ld)(hd:d≠0)(hv:∀l,l<n->bL X n w (v l))(hl:∀l j,l<n->j<n->v l (ld j)=d*dl l j)(hb:∀l c,l<n->c<w->(v l c).natAbs<=M):∀i c,i<n->c<w->(g X i c).natAbs<=n*M:=λ i c hi hc=>by
 have le:∀j,j<n->(g X j (ld j)).natAbs<=d.natAbs:=λ j hj=>by
  obtain⟨z,hz⟩:=hv j hj;have e:=s.Rg hz hj λ l h=>by rw[hl j l hj (by omega),dO (by omega),Sf]
  rw[hl j j hj hj,dS,Vo]at e;rw[e,Ss];refine UM _ (Int.natAbs_pos.mpr λ q=>hd ?_);rw[e,q,SH]
 have bd:∀l,l<n->(g X i (ld l)).natAbs<=d.natAbs:=λ l h=>by
  have h1:=le l h;rcases Uq i l with q|q|q
  . have:=r i l q h;omega
  . rw[q];exact h1
  . rw[(s.lead i hi).2.2 _ (s.mono l i q hi)];exact Sg _
 have e:d*g X i c=S n λ l=>g X i (ld l)*v l c:=by
  have y:bL X n w λ c=>(0*g X i c+d*g X i c)-S n λ l=>g X i (ld l)*v l c:=bL.sub (bL.kG d (bL.eq (u:=λ c=>S 0 λ _=>0) (bL.comb (m:=0) (a:=λ _=>0) (v:=λ _ _=>0) λ l h=>absurd h (Sd _)) λ c _=>SH _) (bL.row hi)) (bL.comb hv)
  have:=s.nil y (λ l h=>by
   obtain⟨h1,_⟩:=s.lead l h
   have e:(S n λ k=>g X i (ld k)*v k (ld l))=d*g X i (ld l):=by
    rw[kv h λ k hk hne=>by rw[hl k l hk h,dO hne,Sf,Sf],hl l l h h,dS,Vo,SI]
   show(0*g X i (ld l)+d*g X i (ld l))-(S n λ k=>g X i (ld k)*v k (ld l))=0;rw[e];omega) c hc
  simp only[SH,TV]at this;omega
 have b2:(d*g X i c).natAbs<=n*(d.natAbs*M):=by
  rw[e];exact z9 λ l h=>by rw[Ss];exact Sq (bd l h) (hb l c h hc)
 rw[Ss,Vm]at b2;exact Nat.le_of_mul_le_mul_left b2 (Int.natAbs_pos.mpr hd)
def Oj{t l j:Nat}{M:Fn}(hl:l<t)(hj:j<t):D t (upd M l (M j))=D t M*dl l j:=by
 by_cases h:l=j
 . subst h;rw[dS,Vo]
   exact dv λ r c _ _=>by
    by_cases q:r=l
    . subst q;exact cN ..
    . exact aB q c
 . rw[dO h,Sf];exact(qy t).alt l j _ hl hj h λ c _=>by rw[cN,aB (RO h)]
def Qk{t l:Nat}{M:Fn}{x y:Nat->Int}(h:∀c,c<t->x c=y c):D t (upd M l x)=D t (upd M l y):=dv λ r c _ hc=>by
 unfold upd;split
 . exact h c hc
 . rfl
def Qh{A B:Fn}{G:Rows}{t w b:Nat}{ld:Nat->Nat}(s:bY G t w ld)(r:kJ G t ld)(t8:t<=9)(hA:∀i c,i<t->c<w->(A i c).natAbs<=b)(hAB:∀i c,i<t->c<w->A i c=S t λ k=>B i k*g G k c)(hB:D t B≠0):∀k c,k<t->c<w->(g G k c).natAbs<=t*(9*b)^t:=by
 have hd:D t (λ r i=>A i (ld r))≠0:=by
  have e1:D t (λ r i=>A i (ld r))=D t (λ i r=>A i (ld r)):=yr t λ i r=>A i (ld r)
  have e2:D t (λ i r=>A i (ld r))=D t B*D t λ k r=>g G k (ld r):=by
   rw[<-EB];exact dv λ i r hi hr=>hAB i _ hi (s.lead r hr).1
  rw[e1,e2,LW λ r c hr hc h=>(s.lead r hr).2.2 _ (s.mono c r h hr)];exact VL hB (UO (wI λ i hi=>(s.lead i hi).2.1))
 refine Ra (v:=λ l c=>D t (upd (λ r i=>A i (ld r)) l λ i=>A i c)) s r hd (λ l hl=>?_) (λ l j hl hj=>Oj (M:=λ r i=>A i (ld r)) hl hj) λ l c hl hc=>xq (K:=9) t8 λ r i hr hi=>?_
 . refine⟨λ k=>D t (upd (λ r i=>A i (ld r)) l λ i=>B i k),λ c hc=>?_⟩;have e:=(qy t).uj hl (λ r i=>A i (ld r)) (λ k=>g G k c) (λ k i=>B i k) t;show D t (upd (λ r i=>A i (ld r)) l λ i=>A i c)=_;rw[Qk λ i hi=>(hAB i c hi hc).trans (aq λ k _=>SI _ _),e];exact aq λ k _=>SI _ _
 . unfold upd;split
   . exact hA i c hi hc
   . exact hA i _ hi (s.lead r hr).1
def mB.picked{A F:Rows}{N m w:Nat}{ld:Nat->Nat}(st:bY F m w ld)(same:mB A N F m w):∃(I:Nat->Nat) (B:Fn),(∀k,k<m->I k<N)/\(∀i c,i<m->c<w->g A (I i) c=S m λ k=>B i k*g F k c)/\D m B≠0:=by
 have hB:∀i,∃z:Nat->Int,i<N->∀c,c<w->g A i c=S m λ k=>z k*g F k c:=λ i=>by
  by_cases h:i<N
  . obtain⟨z,hz⟩:=same.to i h;exact⟨z,λ _=>hz⟩
  . exact⟨λ _=>0,λ z=>absurd z h⟩
 have hU:∀k,∃z:Nat->Int,k<m->∀c,c<w->g F k c=S N λ i=>z i*g A i c:=λ k=>by
  by_cases h:k<m
  . obtain⟨z,hz⟩:=same.of k h;exact⟨z,λ _=>hz⟩
  . exact⟨λ _=>0,λ z=>absurd z h⟩
 let B:Fn:=λ i=>Classical.choose (hB i)
 let U:Fn:=λ k=>Classical.choose (hU k)
 have eB:∀i,i<N->∀c,c<w->g A i c=S m λ k=>B i k*g F k c:=λ i=>VA (hB i);have eU:∀k,k<m->∀c,c<w->g F k c=S N λ i=>U k i*g A i c:=λ k=>VA (hU k)
 obtain⟨I,h1,h2⟩:=pick (t:=m) (N:=N) (U:=U) (B:=B) λ k l hk hl=>by
  have e1:∀c,c<w->S m (λ l=>(S N λ i=>U k i*B i l)*g F l c)=g F k c:=λ c hc=>by
   rw[eU k hk c hc]
   have:(S N λ i=>U k i*g A i c)=S N λ i=>S m λ l=>U k i*B i l*g F l c:=aq λ i hi=>by
    rw[eB i hi c hc,<-c7];exact aq λ l _=>(So _ _ _).symm
   rw[this,iE];exact aq λ l _=>(jL _ _ _).symm
  have e2:∀c,c<w->(0:Int)=S m λ l=>((S N λ i=>U k i*B i l)-dl k l)*g F l c:=λ c hc=>by
   have h1:(S m λ l=>((S N λ i=>U k i*B i l)-dl k l)*g F l c)=S m (λ l=>(S N λ i=>U k i*B i l)*g F l c)-S m λ l=>dl k l*g F l c:=by
    rw[SN,<-oZ,<-fu];exact aq λ l _=>by rw[Vs,SN]
   rw[h1,e1 c hc,jX hk,Wo]
  have e3:(S N λ i=>U k i*B i l)-dl k l=0:=st.gone (v:=λ _=>0) (z:=λ l=>(S N λ i=>U k i*B i l)-dl k l) (q:=w) e2 (λ _ _=>rfl) l hl (st.lead l hl).1;omega
 exact⟨I,λ i=>B (I i),h1,λ i c hi hc=>eB _ (h1 i hi) c hc,h2⟩
def mB.abs{A F:Rows}{N m w b:Nat}(m8:m<=8)(sF:bY F m w (dy F))(rF:kJ F m (dy F))(same:mB A N F m w)(hA:∀i c,i<N->c<w->(g A i c).natAbs<=b):∀i c,i<m->c<w->(g F i c).natAbs<=m*(9*b)^m:=by
 obtain⟨I,B,h1,h2,h3⟩:=same.picked sF;exact Qh (A:=λ i=>g A (I i)) sF rF (by omega) (λ i c hi hc=>hA _ c (h1 i hi) hc) h2 h3
def cX(p:Nat)(f r:Row):Row:=dN r (-((r.getD p 0).fdiv (f.getD p 0))) f
def lz{p w:Nat}{f r:Row}(hf:f.length=w)(hr:r.length=w):(cX p f r).length=w:=by unfold cX;rw[i9 (by omega)];exact hr
def pf{p w:Nat}{f r:Row}(hf:f.length=w)(hr:r.length=w)(c:Nat):(cX p f r).getD c 0=r.getD c 0-(r.getD p 0).fdiv (f.getD p 0)*f.getD c 0:=by
 unfold cX;rw[nH (by omega),TJ];omega
def FC{p w:Nat}{f r:Row}(hf:f.length=w)(hr:r.length=w):(cX p f r).getD p 0=(r.getD p 0).fmod (f.getD p 0):=by
 rw[pf hf hr];have:=Tc (r.getD p 0) (f.getD p 0);rw[SI]at this;omega
def AW{a b:Int}(h:b<0):a.fmod b<=0/\b<a.fmod b:=by
 have h1:=Int.emod_nonneg a (show b≠0 by omega);have h2:=Int.emod_lt a (show b≠0 by omega);rw[Int.fmod_eq_emod];split
 . rename_i z;rcases z with z|z
   . omega
   . rw[Int.emod_eq_zero_of_dvd z];omega
 . rename_i z;have:a%b≠0:=λ y=>z (.inr (Int.dvd_of_emod_eq_zero y));omega
def ng{a b:Int}(hb:b≠0):0<=a.fmod b*b/\(a.fmod b).natAbs<b.natAbs:=by
 rcases UH hb with h|h
 . obtain⟨h2,h3⟩:=AW (a:=a) h;exact⟨Vn h2 (by omega),by omega⟩
 . have h2:=Sw a h;have h3:=SO a h;exact⟨WQ h2 (by omega),by omega⟩
def FU{a b:Int}(h:0<a*b)(l:b.natAbs<=a.natAbs):2*(a.fmod b).natAbs<=a.natAbs:=by
 have hb:b≠0:=λ z=>by rw[z,Sf]at h;omega
 obtain⟨s1,s2⟩:=ng (a:=a) hb;have e:=Tc a b;rcases UH hb with hb'|hb'
 . have ha:a<0:=T3 λ z=>by
    have:=TL z (T7 hb');omega
   have h2:=(AW (a:=a) hb').1
   have q1:1<=a.fdiv b:=T3 λ z=>by
    have z:a.fdiv b<=0:=z;have:0<=b*a.fdiv b:=Vn (by omega) z;omega
   have:b*a.fdiv b<=b*1:=Int.mul_le_mul_of_nonpos_left (by omega) q1;omega
 . have ha:0<a:=T3 λ z=>by
    have:=Ur z (T7 hb');omega
   have h2:=Sw a hb'
   have q1:1<=a.fdiv b:=T3 λ z=>by
    have z:a.fdiv b<=0:=z;have:b*a.fdiv b<=0:=TL (by omega) z;omega
   have:b*1<=b*a.fdiv b:=VO q1 (by omega);omega
structure Pt(X:Rows)(p w B:Nat)(sg:Bool):Prop where
 dh:∀r∈X,r.length=w
 nz:∀r∈X,r.getD p 0≠0
 bd:∀r∈X,∀c,(r.getD c 0).natAbs<=3*B
 sz:∃M g:Nat,(∀r∈X,∀c,(r.getD c 0).natAbs<=M)/\(∀r∈X,(r.getD p 0).natAbs<=g)/\(2<=X.length->∀r0∈X,(∀r∈X,(r0.getD p 0).natAbs<=(r.getD p 0).natAbs)->M*g^3*(r0.getD p 0).natAbs^2<=B)
 same:sg=true->∀r∈X,∀s∈X,0<r.getD p 0*s.getD p 0
def Pt.start{X:Rows}{p w e:Nat}(dh:∀r∈X,r.length=w)(nz:∀r∈X,r.getD p 0≠0)(bd:∀r∈X,∀c,(r.getD c 0).natAbs<=2^e):Pt X p w (2^(6*e)) false:=by
 have up:2^e<=3*2^(6*e):=RD (R9 (by decide) (by omega)) (UM _ (by decide));refine⟨dh,nz,λ r hr c=>RD (bd r hr c) up,⟨2^e,2^e,bd,λ r hr=>bd r hr p,λ _ r0 h0 _=>?_⟩,λ z=>by cases z⟩;have h1:(r0.getD p 0).natAbs^2<=(2^e)^2:=VR (bd r0 h0 p) 2;refine RD (Tb _ h1) ?_;have:2^e*(2^e)^3*(2^e)^2=(2^e)^6:=by grind
 rw[this,<-Nat.pow_mul,TC];exact Ry _
def Pt.pass{X X':Rows}{p w B:Nat}{sg:Bool}{r0:Row}(h:Pt X p w B sg)(hX:2<=X.length)(h0:r0∈X)(least:∀r∈X,(r0.getD p 0).natAbs<=(r.getD p 0).natAbs)(sub:∀r∈X',r∈X):
 Pt (r0::(X'.map (cX p r0)).filter λ r=>decide (r.getD p 0≠0)) p w (if sg then B else 3*B) true/\∀r∈X'.map (cX p r0),r.length=w/\∀c,(r.getD c 0).natAbs<=3*B:=by
 obtain⟨M,g,hM,hg,hB⟩:=h.sz;have hB:=hB hX r0 h0 least;have w0:=h.dh r0 h0;have n0:=h.nz r0 h0;have f1:1<=(r0.getD p 0).natAbs:=by omega
 have fg:=hg r0 h0;have M0:=hM r0 h0;generalize hf:(r0.getD p 0).natAbs=f at*;have g1:1<=g:=by omega
 have hM':(M+2*g/f*M)*f<=3*M*g:=by
  have a1:2*g/f*f<=2*g:=Nat.div_mul_le_self _ _;have a2:2*g/f*M*f=2*g/f*f*M:=by grind
  have a3:2*g/f*f*M<=2*g*M:=S8 _ a1;have a4:M*f<=M*g:=Tb _ fg;rw[Vt,a2];have:3*M*g=M*g+2*g*M:=by grind
  omega
 have ent:∀r∈X,∀c,((cX p r0 r).getD c 0).natAbs<=M+2*g/f*M:=λ r hr c=>by
  rw[pf w0 (h.dh r hr)]
  have q1:((r.getD p 0).fdiv (r0.getD p 0)).natAbs<=2*g/f:=by
   rw[Nat.le_div_iff_mul_le (by omega)];have e:=Tc (r.getD p 0) (r0.getD p 0);have s2:=(ng (a:=r.getD p 0) n0).2;have hr':=hg r hr;have:(r0.getD p 0*(r.getD p 0).fdiv (r0.getD p 0)).natAbs<=2*g:=by omega
   rw[Ss,hf,TC]at this;exact this
  have q2:((r.getD p 0).fdiv (r0.getD p 0)*r0.getD c 0).natAbs<=2*g/f*M:=by
   rw[Ss];exact Sq q1 (M0 c)
  have:=hM r hr c;omega
 have B3:M+2*g/f*M<=3*B:=by
  have a1:M+2*g/f*M<=(M+2*g/f*M)*f:=Ua _ (by omega)
  have a2:M*g<=M*g^3*f^2:=by
   have:M*g^3*f^2=M*g*(g^2*f^2):=by grind
   rw[this];exact Ua _ (Nat.mul_pos (WH g1) (WH f1))
  have a3:3*M*g=3*(M*g):=by grind
  omega
 have Yb:∀r∈X'.map (cX p r0),r.length=w/\∀c,(r.getD c 0).natAbs<=3*B:=λ r hr=>by
  obtain⟨s,hs,rfl⟩:=RZ.mp hr;exact⟨lz w0 (h.dh s (sub s hs)),λ c=>RD (ent s (sub s hs) c) B3⟩
 have BB:3*B<=3*(if sg=true then B else 3*B):=by split<;>omega
 have inY:∀r∈(X'.map (cX p r0)).filter (λ r=>decide (r.getD p 0≠0)),∃s∈X,r=cX p r0 s/\r.getD p 0≠0/\r.getD p 0=(s.getD p 0).fmod (r0.getD p 0):=λ r hr=>by
  obtain⟨h1,h2⟩:=Sv.mp hr;obtain⟨s,hs,rfl⟩:=RZ.mp h1;exact⟨s,sub s hs,rfl,by simpa using h2,FC w0 (h.dh s (sub s hs))⟩
 refine⟨⟨λ r hr=>?_,λ r hr=>?_,λ r hr c=>?_,⟨M+2*g/f*M,f,λ r hr c=>?_,λ r hr=>?_,λ l2 r1 h1 least1=>?_⟩,λ _ r hr s hs=>?_⟩,Yb⟩
 . rcases RU.mp hr with rfl|hr
   . exact w0
   . exact(Yb r (Sv.mp hr).1).1
 . rcases RU.mp hr with rfl|hr
   . exact n0
   . obtain⟨_,_,_,z,_⟩:=inY r hr;exact z
 . rcases RU.mp hr with rfl|hr
   . exact RD (h.bd r h0 c) BB
   . exact RD ((Yb r (Sv.mp hr).1).2 c) BB
 . rcases RU.mp hr with rfl|hr
   . exact RD (M0 c) (Nat.le_add_right _ _)
   . obtain⟨s,hs,rfl,_⟩:=inY r hr;exact ent s hs c
 . rcases RU.mp hr with rfl|hr
   . exact VD hf
   . obtain⟨s,hs,_,_,e⟩:=inY r hr;have:=(ng (a:=s.getD p 0) n0).2;rw[e];omega
 . obtain⟨y,hy⟩:∃y:Row,y∈(X'.map (cX p r0)).filter (λ r:Row=>decide (r.getD p 0≠0)):=by
    cases e:(X'.map (cX p r0)).filter (λ r=>decide (r.getD p 0≠0))with
    |nil=>rw[e]at l2;simp at l2
    |cons y ys=>exact⟨y,R7⟩
   have ly:=least1 y (R8 _ hy);obtain⟨s,hs,_,_,e⟩:=inY y hy;generalize(r1.getD p 0).natAbs=f' at ly;generalize M+2*g/f*M=M' at hM'
   have st:M'*f^3*f'^2<=3*(M*g*f^2*f'^2):=by
    have a1:M'*f^3*f'^2=M'*f*(f^2*f'^2):=by grind
    have a2:3*(M*g*f^2*f'^2)=3*M*g*(f^2*f'^2):=by grind
    rw[a1,a2];exact S8 _ hM'
   have sl:=(ng (a:=s.getD p 0) n0).2;rw[<-e,hf]at sl;cases hsg:sg with
   |false=>
    rw[RE (by decide)];have b1:f'^2<=g^2:=VR (by omega) 2;have b2:M*g*f^2*f'^2<=M*g*f^2*g^2:=Tb _ b1;have b3:M*g*f^2*g^2=M*g^3*f^2:=by grind
    omega
   |true=>
    rw[RF rfl];have hh:=FU (h.same hsg s hs r0 h0) (by rw[hf];exact least s hs);rw[<-e]at hh;have hs':=hg s hs;have b1:(2*f')^2<=g^2:=VR (by omega) 2;have b2:M*g*f^2*(2*f')^2<=M*g*f^2*g^2:=Tb _ b1;have b3:M*g*f^2*g^2=M*g^3*f^2:=by grind
    have b4:M*g*f^2*(2*f')^2=4*(M*g*f^2*f'^2):=by grind
    omega
 . have sgn:∀r∈r0::(X'.map (cX p r0)).filter (λ r=>decide (r.getD p 0≠0)),0<r.getD p 0*r0.getD p 0:=λ r hr=>by
    rcases RU.mp hr with rfl|hr
    . rcases UH n0 with z|z
      . exact Wb z z
      . exact Int.mul_pos z z
    . obtain⟨s,hs,_,nz,e⟩:=inY r hr;have:=(ng (a:=s.getD p 0) n0).1;rw[<-e]at this;have ne:r.getD p 0*r0.getD p 0≠0:=VL nz n0;omega
   have a:=sgn r hr;have b:=sgn s hs;rcases UH n0 with z|z
   . have ra:r.getD p 0<0:=T3 λ y=>by
      have:=TL y (T7 z);omega
     have rb:s.getD p 0<0:=T3 λ y=>by
      have:=TL y (T7 z);omega
     exact Wb ra rb
   . have ra:0<r.getD p 0:=T3 λ y=>by
      have:=Ur y (T7 z);omega
     have rb:0<s.getD p 0:=T3 λ y=>by
      have:=Ur y (T7 z);omega
     exact Int.mul_pos ra rb
def cT(X:Rows)(w:Nat)(r:Row):Prop:=bL X X.length w λ c=>r.getD c 0
def cT.mem{X:Rows}{w:Nat}{r:Row}(h:r∈X):cT X w r:=by
 obtain⟨i,hi,rfl⟩:=RQ.mp h;refine(bL.row (k:=i) hi).eq λ c _=>?_;unfold g;rw[ax hi]
def cT.sub{X Y:Rows}{w:Nat}{r:Row}(h:∀q∈X,cT Y w q)(hr:cT X w r):cT Y w r:=
 bL.trans (λ k hk=>h _ (by rw[ax hk];exact R0 _)) hr
def cT.kG{X:Rows}{w:Nat}{r s:Row}(t:Int)(l:r.length=s.length)(h1:cT X w r)(h2:cT X w s):cT X w (dN r t s):=
 (bL.kG t h1 h2).eq λ c _=>nH l ..
structure kC(X Y:Rows)(w:Nat):Prop where
 to:∀r∈X,cT Y w r
 of:∀r∈Y,cT X w r
def kC.refl(X:Rows)(w:Nat):kC X X w:=⟨λ _=>cT.mem,λ _=>cT.mem⟩
def kC.trans{X Y Z:Rows}{w:Nat}(a:kC X Y w)(b:kC Y Z w):kC X Z w:=⟨λ r hr=>cT.sub b.to (a.to r hr),λ r hr=>cT.sub a.of (b.of r hr)⟩
def zh{p w:Nat}{f r:Row}(hf:f.length=w)(hr:r.length=w):dN (cX p f r) ((r.getD p 0).fdiv (f.getD p 0)) f=r:=by
 refine xY (n:=w) (by rw[i9 (by rw[lz hf hr,hf]),lz hf hr]) hr λ c _=>?_;rw[nH (by rw[lz hf hr,hf]),pf hf hr];omega
def mem_erase{X:Rows}{j:Nat}{r0 r:Row}(hj:X[j]?=some r0)(hr:r∈X):r=r0\/r∈X.eraseIdx j:=by
 obtain⟨i,hi,rfl⟩:=RQ.mp hr;obtain⟨h1,h2⟩:=Rx.mp hj;by_cases e:i=j
 . subst e;exact .inl h2
 . exact .inr (List.mem_eraseIdx_iff_getElem.mpr ⟨i,hi,e,rfl⟩)
def kC.pass{O X:Rows}{p w j:Nat}{r0:Row}(hj:X[j]?=some r0)(dh:∀r∈X,r.length=w):kC (O++X) ((O++((X.eraseIdx j).map (cX p r0)).filter λ r=>decide (r.getD p 0=0))++(r0::((X.eraseIdx j).map (cX p r0)).filter λ r=>decide (r.getD p 0≠0))) w:=by
 have h0:r0∈X:=Sb hj;have w0:=dh r0 h0;refine⟨λ r hr=>?_,λ r hr=>?_⟩
 . rcases RX.mp hr with h|h
   . exact cT.mem (R_ _ (R_ _ h))
   . rcases mem_erase hj h with rfl|h
     . exact cT.mem (RL _ R7)
     . have wr:=dh r (Ux h);have m:cX p r0 r∈(X.eraseIdx j).map (cX p r0):=RZ.mpr ⟨r,h,rfl⟩
       have a:cT ((O++((X.eraseIdx j).map (cX p r0)).filter λ r=>decide (r.getD p 0=0))++(r0::((X.eraseIdx j).map (cX p r0)).filter λ r=>decide (r.getD p 0≠0))) w (cX p r0 r):=by
        by_cases z:(cX p r0 r).getD p 0=0
        . exact cT.mem (R_ _ (RL _ (Sv.mpr ⟨m,SX z⟩)))
        . exact cT.mem (RL _ (R8 _ (Sv.mpr ⟨m,SX z⟩)))
       rw[<-zh (p:=p) w0 wr];exact a.kG _ (by rw[lz w0 wr,w0]) (cT.mem (RL _ R7))
 . have inY:∀r∈(X.eraseIdx j).map (cX p r0),cT (O++X) w r:=λ r hr=>by
    obtain⟨s,hs,rfl⟩:=RZ.mp hr;have hs':=Ux hs;exact cT.kG _ (by rw[dh s hs',w0]) (cT.mem (RL _ hs')) (cT.mem (RL _ h0))
   rcases RX.mp hr with h|h
   . rcases RX.mp h with h|h
     . exact cT.mem (R_ _ h)
     . exact inY r (Sv.mp h).1
   . rcases RU.mp h with rfl|h
     . exact cT.mem (RL _ h0)
     . exact inY r (Sv.mp h).1
structure Ld(X R F:Rows)(p w e u:Nat):Prop where
 same:kC X (R++F) w
 wR:∀r∈R,r.length=w
 wF:∀r∈F,r.length=w
 zs:∀r∈R,∀c,c<p->r.getD c 0=0
 st:∃ld:Nat->Nat,(∀i,i<F.length->ld i<p/\0<g F i (ld i)/\∀c,c<ld i->g F i c=0)/\(∀i j,i<j->j<F.length->ld i<ld j)/\∀i j,i<j->j<F.length->0<=g F i (ld j)/\g F i (ld j)<g F j (ld j)
 len:R.length+F.length=X.length
 bR:∀r∈R,∀c,(r.getD c 0).natAbs<=2^e
 bF:∀r∈F,∀c,(r.getD c 0).natAbs<=2^u
def Ld.start{X:Rows}{w e:Nat}(wX:∀r∈X,r.length=w)(bX:∀r∈X,∀c,(r.getD c 0).natAbs<=2^e):Ld X X [] 0 w e 0:=
 ⟨by rw[Tp];exact .refl X w,wX,λ r hr=>(by cases hr),λ _ _ c h=>absurd h (Sd c),⟨λ _=>0,λ i h=>absurd h (Sd i),λ i j _ h=>absurd h (Sd j),λ i j _ h=>absurd h (Sd j)⟩,rfl,bX,λ r hr=>(by cases hr)⟩
def Ld.skip{X R F:Rows}{p w e u:Nat}(h:Ld X R F p w e u)(z:∀r∈R,r.getD p 0=0):Ld X R F (p+1) w e u:=
 ⟨h.same,h.wR,h.wF,λ r hr c hc=>by
  by_cases e:c=p
  . subst e;exact z r hr
  . exact h.zs r hr c (by omega),let⟨ld,a,b,c⟩:=h.st;⟨ld,λ i hi=>⟨Sk (a i hi).1,(a i hi).2⟩,b,c⟩,h.len,h.bR,h.bF⟩
def Ld.next{X R O F:Rows}{f:Row}{p w e u e' u':Nat}(h:Ld X R F p w e u)(hp:p<w)(sam:kC R (O++[f]) w)(wO:∀r∈O,r.length=w)(wf:f.length=w)(zO:∀r∈O,∀c,c<p+1->r.getD c 0=0)(zf:∀c,c<p->f.getD c 0=0)(f0:0<f.getD p 0)(ln:O.length+1=R.length)(bO:∀r∈O,∀c,(r.getD c 0).natAbs<=2^e')(bf:∀c,(f.getD c 0).natAbs<=2^e')(hu:u+e'+1<=u'):Ld X O (F.map (cX p f)++[f]) (p+1) w e' u':=by
 have lF:(F.map (cX p f)).length=F.length:=Rw ..
 have gl:∀i c,i<F.length->g (F.map (cX p f)++[f]) i c=g F i c-(g F i p).fdiv (f.getD p 0)*f.getD c 0:=λ i c hi=>by
  have e1:(F.map (cX p f)++[f]).getD i []=cX p f (F.getD i []):=by
   rw[RC,RH (by omega),RV,RJ hi,ax hi];rfl
  unfold g;rw[e1,pf wf (h.wF _ (by rw[ax hi];exact R0 _))]
 have gt:∀c,g (F.map (cX p f)++[f]) F.length c=f.getD c 0:=λ c=>by
  have e1:(F.map (cX p f)++[f]).getD F.length []=f:=by
   rw[RC,Sh (by omega),lF,TU];rfl
  unfold g;rw[e1]
 have glp:∀i,i<F.length->g (F.map (cX p f)++[f]) i p=(g F i p).fmod (f.getD p 0):=λ i hi=>by
  rw[gl i p hi];have:=Tc (g F i p) (f.getD p 0);rw[SI]at this;omega
 have gll:∀i c,i<F.length->c<p->g (F.map (cX p f)++[f]) i c=g F i c:=λ i c hi hc=>by rw[gl i c hi,zf c hc,Sf,Int.sub_zero]
 have le:(F.map (cX p f)++[f]).length=F.length+1:=by rw[SW,lF];rfl
 have fl:∀a:Int,(a.fdiv (f.getD p 0)).natAbs<=a.natAbs:=λ a=>iV a f0;refine⟨h.same.trans ⟨λ r hr=>?_,λ r hr=>?_⟩,wO,λ r hr=>?_,zO,?_,by rw[le];have:=h.len;omega,bO,λ r hr c=>?_⟩
 . have mf:f∈O++(F.map (cX p f)++[f]):=by simp
   rcases RX.mp hr with q|q
   . refine cT.sub (λ s hs=>?_) (sam.to r q);rcases RX.mp hs with y|y
     . exact cT.mem (R_ _ y)
     . rw[Sm.mp y];exact cT.mem mf
   . have wr:=h.wF r q;rw[<-zh (p:=p) wf wr];exact(cT.mem (RL _ (R_ _ (RZ.mpr ⟨r,q,rfl⟩)))).kG _ (by rw[lz wf wr,wf]) (cT.mem mf)
 . have mf:cT (R++F) w f:=cT.sub (λ s hs=>cT.mem (R_ _ hs)) (sam.of f (by simp));rcases RX.mp hr with q|q
   . exact cT.sub (λ s hs=>cT.mem (R_ _ hs)) (sam.of r (R_ _ q))
   . rcases RX.mp q with q|q
     . obtain⟨s,hs,rfl⟩:=RZ.mp q;exact cT.kG _ (by rw[h.wF s hs,wf]) (cT.mem (RL _ hs)) mf
     . rw[Sm.mp q];exact mf
 . rcases RX.mp hr with q|q
   . obtain⟨s,hs,rfl⟩:=RZ.mp q;exact lz wf (h.wF s hs)
   . rw[Sm.mp q];exact wf
 . obtain⟨ld,a,b,c⟩:=h.st;rw[le];refine⟨λ i=>if i=F.length then p else ld i,λ i hi=>?_,λ i j hij hj=>?_,λ i j hij hj=>?_⟩
   . dsimp only;by_cases q:i=F.length
     . subst q;rw[RF rfl,gt];exact⟨Si p,f0,λ c hc=>by rw[gt];exact zf c hc⟩
     . have hi':i<F.length:=by omega
       obtain⟨a1,a2,a3⟩:=a i hi';rw[RE q,gll i _ hi' a1];exact⟨Sk a1,a2,λ c hc=>by rw[gll i c hi' (by omega)];exact a3 c hc⟩
   . dsimp only;rw[RE (show¬i=F.length by omega)];by_cases q:j=F.length
     . rw[RF q];exact(a i (by omega)).1
     . rw[RE q];exact b i j hij (by omega)
   . dsimp only;by_cases q:j=F.length
     . subst q;rw[RF rfl,glp i hij,gt];exact⟨Sw _ f0,SO _ f0⟩
     . have hj':j<F.length:=by omega
       rw[RE q,gll i _ (by omega) (a j hj').1,gll j _ hj' (a j hj').1];exact c i j hij hj'
 . have up:∀ {x y:Nat},x<=y->2^x<=2^y:=λ h=>R9 (by decide) h;rcases RX.mp hr with q|q
   . obtain⟨s,hs,rfl⟩:=RZ.mp q;rw[pf wf (h.wF s hs)];have h1:=h.bF s hs c
     have h2:((s.getD p 0).fdiv (f.getD p 0)*f.getD c 0).natAbs<=2^(u+e'):=by
      rw[Ss,TX];exact Sq (RD (fl _) (h.bF s hs p)) (bf c)
     have h3:2^u<=2^(u+e'):=up (by omega);have h4:2^(u+e')*2<=2^u':=by rw[<-Tu];exact up hu
     omega
   . rw[Sm.mp q];exact RD (bf c) (up (by omega))
def Ld.end{X R F:Rows}{w e u:Nat}(h:Ld X R F w w e u):bK F.length w F/\bY F F.length w (dy F)/\kJ F F.length (dy F)/\mB X X.length F F.length w:=by
 obtain⟨ld,a,b,c⟩:=h.st;have s:bY F F.length w ld:=⟨a,b⟩
 refine⟨⟨rfl,h.wF⟩,s.MN,λ i j hij hj=>by rw[s.dy hj];exact c i j hij hj,λ k hk=>?_,λ k hk=>?_⟩
 . have:=h.same.to (X.getD k []) (by rw[ax hk];exact R0 _);refine cT.sub (Y:=F) (λ r hr=>?_) this;rcases RX.mp hr with q|q
   . exact⟨λ _=>0,λ c hc=>(h.zs r q c hc).trans (gf λ k _=>SH _).symm⟩
   . exact cT.mem q
 . exact cT.sub (X:=R++F) (Y:=X) h.same.of (cT.mem (RL _ (by rw[ax hk];exact R0 _)))
def Ln(A:Rows)(N:Nat):Rows:=(List.range N).map λ n=>A.getD n []++d_ N n
structure Q8(A F:Rows)(N w m h:Nat):Prop where
 hA:bK N w A
 is:bK m (w+N) F
 st:bY F m (w+N) (dy F)
 red:kJ F m (dy F)
 same:mB (Ln A N) N F m (w+N)
 le:h<=m
 lo:∀i,i<h->dy F i<w
 hi:∀i,h<=i->i<m->w<=dy F i
section
variable {A F:Rows}{N w m h:Nat}(L:Q8 A F N w m h)
include L
end
structure Fx(R:Rows)(m f:Nat):Prop where
 is:bK m f R
 le:f<=m
 lo:∀k,k<f->g R k k≠0/\∀c,k<c->g R k c=0
def Fx.zero{R:Rows}{m f:Nat}(h:Fx R m f){y:Nat->Int}(hy:∀r∈R,(S f λ l=>r.getD l 0*y l)=0):∀l,l<f->y l=0:=by
 intro l;induction l using Nat.strongRecOn with
 |ind l ih=>
  intro hl;have hm:l<R.length:=by rw[h.is.len];exact RW hl h.le
  have e:=hy (R.getD l []) (by rw[ax hm];exact R0 _);rw[kv hl λ i hi hne=>?_]at e
  . rcases Wx.mp e with z|z
    . exact absurd z (h.lo l hl).1
    . exact z
  . by_cases c:i<l
    . rw[ih i c hi,Sf]
    . have:=(h.lo l hl).2 i (by omega);unfold g at this;rw[this,SH]
structure rj(R T B Q:Rows)(s f m:Nat):Prop where
 fx:Fx R m f
 fs:f<=s
 tb:TB s T B
 is:bK m s Q
 of:∀q∈Q,∃r∈R,∀c,c<s->q.getD c 0=S f λ l=>r.getD l 0*g B c l
 to:∀r∈R,∃q∈Q,∀c,c<s->q.getD c 0=S f λ l=>r.getD l 0*g B c l
def rj.turn{R T B Q:Rows}{s f m:Nat}(h:rj R T B Q s f m){x:Nat->Int}{r q:Row}(e:∀c,c<s->q.getD c 0=S f λ l=>r.getD l 0*g B c l):(S s λ c=>x c*q.getD c 0)=S f λ l=>r.getD l 0*S s λ c=>x c*g B c l:=by
 rw[aq (g:=λ c=>S f λ l=>r.getD l 0*(x c*g B c l)) λ c hc=>by
  rw[e c hc,<-c7];exact aq λ l _=>by rw[<-So,<-So,SI (x c)]]
 rw[iE];exact aq λ l _=>c7 ..
def rj.mq{R T B Q:Rows}{s f m:Nat}(h:rj R T B Q s f m)(x:Nat->Int):(∀q∈Q,(S s λ c=>x c*q.getD c 0)=0)↔bL (T.drop f) (s-f) s x:=by
 have fs:=h.fs;constructor
 . intro hz
   have y0:=h.fx.zero (y:=λ l=>S s λ c=>x c*g B c l) λ r hr=>by
    obtain⟨q,hq,e⟩:=h.to r hr;rw[<-h.turn e];exact hz q hq
   refine⟨λ i=>S s λ c=>x c*g B c (f+i),λ c hc=>?_⟩
   have e1:x c=S s λ l=>(S s λ d=>x d*g B d l)*g T l c:=by
    have e2:(S s λ l=>(S s λ d=>x d*g B d l)*g T l c)=S s λ d=>x d*S s λ l=>g B d l*g T l c:=by
     rw[aq (g:=λ l=>S s λ d=>x d*(g B d l*g T l c)) λ l _=>by
      rw[<-jL];exact aq λ d _=>So ..]
     rw[iE];exact aq λ d _=>c7 ..
    rw[e2,aq (g:=λ d=>x d*dl d c) λ d hd=>by rw[h.tb.bt d c hd hc],mj hc]
   rw[e1];have e3:s=f+(s-f):=by omega
   have e4:=yu f (λ l=>(S s λ d=>x d*g B d l)*g T l c) (s-f);rw[<-e3]at e4;rw[e4,gf λ l hl=>by rw[y0 l hl,SH],TV];exact aq λ i _=>by rw[rQ]
 . rintro⟨z,hz⟩ q hq;obtain⟨r,hr,e⟩:=h.of q hq;rw[h.turn e];refine gf λ l hl=>?_
   have:(S s λ c=>x c*g B c l)=0:=by
    rw[aq (g:=λ c=>S (s-f) λ i=>z i*(g T (f+i) c*g B c l)) λ c hc=>by
     rw[hz c hc,<-jL];exact aq λ i _=>by rw[rQ,So]]
    rw[iE];refine gf λ i hi=>?_;rw[c7,h.tb.tb (f+i) l (by omega) (by omega),dO (by omega),Sf]
   rw[this,Sf]
def Gy{A:Rows}{top k c:Nat}(hk:k<top):g (A.take top) k c=g A k c:=by
 unfold g;rw[RC (l:=A.take top),T6 hk,<-RC]
def Tn.same{A0 A U C:Rows}{N w top:Nat}(T:Tn A0 A U C N w)(le:top<=N)(zs:∀i q,top<=i->i<N->q<w->g A i q=0):mB A0 N (A.take top) top w:=by
 refine⟨λ n hn=>⟨λ k=>g C k n,λ c hc=>?_⟩,λ k hk=>⟨g U k,λ c hc=>?_⟩⟩
 . have e1:(S N λ k=>g C k n*g A k c)=g A0 n c:=by
    rw[aq (g:=λ k=>S N λ l=>g C k n*g U k l*g A0 l c) λ k hk=>by
     rw[T.ua k c hk hc,<-c7];exact aq λ l _=>(So ..).symm]
    rw[iE,aq (g:=λ l=>dl n l*g A0 l c) λ l hl=>by rw[jL,T.bu n l hn hl],jX hn]
   rw[<-e1,zJ le λ i h1 h2=>by rw[zs i c h1 h2 hc,Sf]];exact aq λ k hk=>by rw[Gy hk]
 . rw[Gy hk,T.ua k c (by omega) hc]
def rj.GY{R T B Q:Rows}{s f m:Nat}(h:rj R T B Q s f m)(x:Nat->Int):(∀q,q<m->(S s λ n=>x n*g (cF Q s) n q)=0)↔bL (T.drop f) (s-f) s x:=by
 rw[<-h.mq x];constructor
 . intro hz q hq;obtain⟨i,hi,rfl⟩:=RQ.mp hq;have hi':i<m:=by rw[<-h.is.len];exact hi
   refine Eq.trans (aq λ n hn=>?_) (hz i hi');rw[ji h.is hi' hn];unfold g;rw[ax hi]
 . intro hz q hq;have hi:q<Q.length:=by rw[h.is.len];exact hq
   exact Eq.trans (aq λ n hn=>by rw[ji h.is hq hn];rfl) (hz (Q.getD q []) (by rw[ax hi];exact R0 _))
def rj.same{R T B Q G:Rows}{s f m k:Nat}(h:rj R T B Q s f m)(mq:∀x:Nat->Int,(∀q,q<m->(S s λ n=>x n*g (cF Q s) n q)=0)↔bL G k s x):mB (T.drop f) (s-f) G k s:=
 ⟨λ i hi=>(mq _).mp ((h.GY _).mpr (bL.row hi)),λ i hi=>(h.GY _).mp ((mq _).mpr (bL.row hi))⟩
def rj.abs{R T B Q G:Rows}{s f m k:Nat}(h:rj R T B Q s f m)(k8:k<=8)(bT:∀r∈T,∀x∈r,x.natAbs<=3^11)(sG:bY G k s (dy G))(rG:kJ G k (dy G))(same:mB (T.drop f) (s-f) G k s):∀i c,i<k->c<s->(g G i c).natAbs<=2^1000:=λ i c hi hc=>by
 refine RD (same.abs k8 sG rG (b:=3^11) (λ i c hi hc=>?_) i c hi hc) ?_
 . rw[rQ];have l:f+i<T.length:=by rw[h.tb.t.len];omega
   have hm:T.getD (f+i) []∈T:=by rw[ax l];exact R0 _
   have lc:c<(T.getD (f+i) []).length:=by rw[h.tb.t.dh _ hm];exact hc
   unfold g;rw[ax lc];exact bT _ hm _ (R0 _)
 . have h1:(9*3^11)^k<=(9*3^11)^8:=R9 (by decide) k8;exact RD (Sq k8 h1) (RD (show 8*(9*3^11)^8<=2^200 by decide) (R9 (by decide) (by decide)))
end Mx
namespace Prog
open PySem L2 L3
open PySem.Spec hiding items?
open PyProof.Rows hiding St
def ij{i j:Int}(h1: -(2^64)<i)(h2:i<2^64):IntMulOk i j:= .of_left (intBits_le_64 h1 h2)
def rk{i j:Int}(h1: -(2^64)<j)(h2:j<2^64):IntMulOk i j:= .of_right (intBits_le_64 h1 h2)
def isInt:D->Bool
 | .int _=>true
 |_=>false
abbrev ay(r:List Int):List D:=r.map D.int
abbrev cf(r:List Int):D:= .tup (ay r)
abbrev av(r:List Int):D:= .lst (ay r)
abbrev cW(A:List (List Int)):D:= .tup (A.map cf)
abbrev mT(A:List (List Int)):D:= .lst (A.map av)
def cq(st:ag):List D->List (List Int)->Prop
 | [],[]=>True
 |d::ds,r::rs=>items? st d=some (ay r)/\cq st ds rs
 |_,_=>False
structure g6(st:ag)(d:D)(A:List (List Int)):Prop where
 ex:∃ds,items? st d=some ds/\cq st ds A
def cq.len{st:ag}:∀ {ds:List D} {A:List (List Int)},cq st ds A->ds.length=A.length
 | [],[],_=>rfl
 |_::_,_::_,h=>by simp[cq.len h.2]
def cq.tup{st:ag}:∀ {A:List (List Int)},cq st (A.map cf) A
 | []=>trivial
 |_::_=>⟨rfl,cq.tup⟩
def cq.lst{st:ag}:∀ {A:List (List Int)},cq st (A.map av) A
 | []=>trivial
 |_::_=>⟨rfl,cq.lst⟩
def cq.get{st:ag}:∀ {ds:List D} {A:List (List Int)} {i:Nat} {d:D},cq st ds A->ds[i]?=some d->∃r,A[i]?=some r/\items? st d=some (ay r)
 |_::_,r::_,0,_,h,e=>by simp at e;subst e;exact⟨r,rfl,h.1⟩
 |_::_,_::_,i+1,d,h,e=>by
  obtain⟨r,e1,e2⟩:=cq.get (i:=i) (d:=d) h.2 (by simpa using e);exact⟨r,by simpa using e1,e2⟩
def jr{st:ag}{A:List (List Int)}:g6 st (cW A) A:=⟨_,rfl,cq.tup⟩
def yA{st:ag}{A:List (List Int)}:g6 st (mT A) A:=⟨_,rfl,cq.lst⟩
structure Ext(st st':ag):Prop where
 len:st.length<=st'.length
 same:∀m,m<st.length->st'[m]?=st[m]?
def Ext.refl{st:ag}:Ext st st:=⟨Ry _,λ _ _=>rfl⟩
def Ext.trans{st st1 st2:ag}(a:Ext st st1)(b:Ext st1 st2):Ext st st2:=⟨RD a.len b.len,λ m h=>(b.same m (RW h a.len)).trans (a.same m h)⟩
def Ext.push{st:ag}{c:List Cell}:Ext st (st++c):=⟨by simp,λ m h=>RH h⟩
def Ext.set{st:ag}{n:Nat}{c:Cell}{st0:ag}(a:Ext st0 st)(h:st0.length<=n):Ext st0 (st.set n c):=⟨by rw[RY];exact a.len,λ m hm=>by rw[RB (by omega)];exact a.same m hm⟩
def Ext.items{st st':ag}{d:D}{xs:List D}(x:Ext st st')(e:items? st d=some xs):items? st' d=some xs:=by
 cases d with
 |ref n=>
  unfold items? at e⊢;simp only at e⊢;cases q:st[n]? with
  |none=>rw[q]at e;cases e
  |some c=>
   have hn:=(Rx.mp q).1;rw[x.same n hn];exact e
 |_=>exact e
def eJ{r:List Int}{k:Nat}(h:k<r.length):fP (ay r) (k:Int)=some (.int (r.getD k 0)):=by
 refine j7 ?_;rw[RV,RJ h,Mx.ax h];rfl
def getD_mem{r:List Int}{k:Nat}(h:k<r.length):r.getD k 0∈r:=by rw[Mx.ax h];exact R0 _
def cq.at{st:ag}{ds:List D}{A:List (List Int)}{k:Nat}(h:cq st ds A)(hk:k<A.length):∃d,fP ds (k:Int)=some d/\items? st d=some (ay (A.getD k [])):=by
 have hl:=h.len;have e:ds[k]?=some ds[k]:=RJ (by omega);obtain⟨r,er,hr⟩:=h.get e;refine⟨ds[k],j7 e,?_⟩;rw[Mx.ax hk];rw[RJ hk]at er;cases er;exact hr
def ints_app{r:List Int}{x:Int}:ay r++[D.int x]=ay (r++[x]):=by simp[ay]
def Ib{A:List (List Int)}{r:List Int}:A.map cf++[cf r]=(A++[r]).map cf:=by simp
def sJ{r s:List Int}{d:D}(h:d∈iy (ay r) (ay s)):∃a b,a∈r/\b∈s/\d= .tup [.int a,.int b]:=by
 obtain⟨n,hn,e⟩:=RQ.mp h;have e':(iy (ay r) (ay s))[n]?=some d:=by rw[RJ hn,e]
 obtain⟨x,y,ex,ey,rfl⟩:=vC e';rw[RV]at ex ey;cases q1:r[n]? with
 |none=>rw[q1]at ex;cases ex
 |some a=>
  cases q2:s[n]? with
  |none=>rw[q2]at ey;cases ey
  |some b=>
   rw[q1]at ex;rw[q2]at ey;cases ex;cases ey;exact⟨a,b,Sb q1,Sb q2,rfl⟩
def vD(n:Nat):(List.replicate n [D.int 0]).flatten=ay (List.replicate n 0):=by
 induction n with
 |zero=>rfl
 |succ n ih=>rw[Tx,T9,ih];rfl
def Gp{x y:D}{xs ys:List D}:iy (x::xs) (y::ys)= .tup [x,y]::iy xs ys:=rfl
def uQ{n:Nat}{r:List Int}:(ay r).all (pl n)=true:=by
 refine SA.mpr λ d hd=>?_;obtain⟨i,_,rfl⟩:=RZ.mp hd;cases n<;>rfl
def aD:Addr:=181
abbrev ix(b:Bool):Cell:=Cell.tab 161 ⟨82,32,82,66⟩ "Bench.live_rows.<locals>.<lambda>" b
abbrev Lv:List (Addr×Pos×Str):=[(161,⟨82,32,82,66⟩,"Bench.live_rows.<locals>.<lambda>")]
def GK{a:Int}{m:Nat}(h:a.natAbs<2^m):Builtin.Int.intBits a<=m:=by
 unfold Builtin.Int.intBits;by_cases h0:a.natAbs=0
 . have:a=0:=by omega
   subst this;simp
 . have:=(Nat.log2_lt h0).mpr h;split<;>omega
def gN{a b:Int}{m n:Nat}(ha:a.natAbs<=2^m)(hb:b.natAbs<=2^n)(h:m+n<=130000000):IntMulOk a b:=by
 have q:∀ {x:Int} {k:Nat},x.natAbs<=2^k->Builtin.Int.intBits x<=k+1:=λ{x k} h=>GK (Nat.lt_of_le_of_lt h (Nat.pow_lt_pow_right (by decide) (Si k)));have h1:=q ha;have h2:=q hb;have e:(2:Nat)^27=134217728:=by decide
 have z:Builtin.Int.intTooBig (Builtin.Int.intBits a+Builtin.Int.intBits b)=false:=by
  unfold Builtin.Int.intTooBig bitsLine;exact Su (by omega)
 unfold IntMulOk;rw[z];simp
def qf:c_:=λ ds st K=>∃(d:D) (A:List (List Int)),ds=[d]/\g6 st d A/\A.length<=1000/\K (cW A) st
def qj:List Str:=["rows"]
def Fi:DS:=(cP (bV dB (af (cC (c5 (ae 0)) [none] (aQ 0) b_ (bV dB (af (ae 0) ak))) ak)))
def j5{tg:fV}{te:DE}{ok:ag->Prop}{σc:ck}{st:ag}{K:List D->ag->Prop}{ds:List D}{A:List (List Int)}(f:List Int->D)(aL:ok st)(hr:cq st ds A)(hx:∀d r,r∈A->items? st d=some (ay r)->∀K',K' (f r) st->∃σ2,tg d σc=some σ2/\te σ2 st K')(k:K (A.map f) st):dP tg b_ te ok σc ds [] st K:=by
 refine gD (λ rest acc st'=>∃(A1 A2:List (List Int)),st=st'/\A1++A2=A/\cq st rest A2/\acc=A1.map f) ?_ ?_ _ _ _ ⟨[],A,rfl,rfl,hr,rfl⟩
 . rintro acc st' ⟨A1,A2,rfl,he,h,rfl⟩;match A2,h with
   | [],_=>
     rw[Tp]at he;subst he;exact⟨aL,k⟩
 . rintro d rest acc st' ⟨A1,A2,rfl,he,h,rfl⟩ next
   match A2,h with
   |r::A2,h=>
    obtain⟨σ2,e2,q⟩:=hx d r (by rw[<-he];simp) h.1 (λ y st2=>dP tg b_ te ok σc rest (A1.map f++[y]) st2 K) (next _ _ ⟨A1++[r],A2,rfl,by rw[<-he];simp,h.2,by simp⟩);exact⟨aL,σ2,e2,q⟩
abbrev Rv(S:c_)(n:Nat)(P:DS)(N:List Str):Prop:=∀ds st K,S ds st K->ds.length=n/\P {nx:=λ _ st'=>K .aF st',rt:=K} (bh N ds) st
def D_:Rv qf 1 Fi qj:=by
 rintro ds st K ⟨d,A,rfl,⟨da,hd,ra⟩,hl,k⟩;refine⟨rfl,?_⟩;refine p7 hd λ ok aL=>⟨aU (by rw[ra.len];exact hl),?_⟩
 refine j5 cf aL ra (λ e r hr he K' q=>⟨_,rfl,c8 he q⟩) ?_;exact c8 rfl k
def nq:c_:=λ ds st K=>∃x y t r s,ds=[x,.int t,y]/\items? st x=some (ay r)/\items? st y=some (ay s)/\r.length<=1000/\(∀b∈s,IntMulOk t b)/\K (av (Mx.dN r t s)) st
def uR:List Str:=["row","times","other"]
def KD:DS:=(cP (cC (vQ (af (ae 0) (af (ae 2) ak))) [none,none,some 1] (kr 0 1) b_ (aw dz (ae 0) (aw fy (ae 2) (ae 1)))))
def uA{t:Int}:∀(r s:List Int),(iy (ay r) (ay s)).map (λ d=>match d with| .tup [.int a,.int b]=> .int (a+t*b)|_=> .aF)=ay (Mx.dN r t s)
 | [],_=>rfl
 |_::_,[]=>rfl
 |a::r,b::s=>by
  have:=uA (t:=t) r s;unfold iy Mx.dN at this⊢;simp only[ay,SM,List.zip_cons_cons,WI]at this⊢;rw[this]
def GN:Rv nq 3 KD uR:=by
 rintro ds st K ⟨x,y,t,r,s,rfl,hx,hy,hl,hm,k⟩;refine⟨rfl,?_⟩;refine ug hx hy λ ok aL=>⟨aU (by rw[pM];simp;omega),?_⟩
 refine comp_map (g:=λ d=>match d with| .tup [.int a,.int b]=> .int (a+t*b)|_=> .aF) (aL st hx hy) _ (λ d hd K' q=>?_) ?_
 . obtain⟨a,b,ha,hb,rfl⟩:=sJ hd;exact⟨_,rfl,f7 (hm b hb) (gG q)⟩
 . rw[uA];exact k
def vJ:c_:=λ ds st K=>∃(x y:D) (n:Nat) (ws:List Int) (A:List (List Int)),ds=[x,y,.int n]/\items? st x=some (ay ws)/\g6 st y A/\(∀r∈A,r.length=n)/\n<=1000/\(∀w∈ws,∀r∈A,∀b∈r,IntMulOk w b)/\K (cf (Mx.fD ws A (List.replicate n 0))) st
def sx:List Str:=["weights","rows","wide","total","weight","row"]
def HP:DS:=(aI (bc 3 (aw fy (jR (af (dC (.int 0)) ak)) (ae 2)))
 (aI (kH (vQ (af (ae 0) (af (ae 1) ak))) (kr 4 5) (bc 3 (aK nq (af (ae 3) (af (ae 4) (af (ae 5) ak))))))
 (cP (bV dB (af (ae 3) ak)))))
def E2:Rv vJ 3 HP sx:=by
 rintro ds st K ⟨x,y,n,ws,A,rfl,hx,⟨dr,hy,hr⟩,hw,hn,hm,k⟩;refine⟨rfl,?_⟩;refine PQ (RN rfl) (ym ⟨by omega,by omega,aU (by simp;omega)⟩ ?_);rw[R6,vD];refine ug hx hy λ ok aL=>?_
 refine ko (λ rest σ st'=>∃(v4 v5:Option D) (ws':List Int) (ds':List D) (A':List (List Int)) (acc:List Int),st=st'/\rest=iy (ay ws') ds'/\cq st ds' A'/\σ=[some x,some y,some (.int n),some (av acc),v4,v5]/\acc.length=n/\(∀r∈A',r∈A)/\(∀w∈ws',w∈ws)/\Mx.fD ws' A' acc=Mx.fD ws A (List.replicate n 0)) ?_ ?_ _ _ _
  ⟨none,none,ws,dr,A,List.replicate n 0,rfl,rfl,hr,rfl,by simp,λ _ h=>h,λ _ h=>h,rfl⟩
 . rintro σ st1 ⟨v4,v5,ws',ds',A',acc,rfl,he,hr',rfl,hl,_,_,hs⟩;refine⟨aL _ hx hy,c8 rfl ?_⟩
   have:Mx.fD ws' A' acc=acc:=by
    match ws',ds',A',hr',he with
    | [],_,_,_,_=>unfold Mx.fD;rfl
    |_::_,[],[],_,_=>unfold Mx.fD;rfl
    |_::_,_::_,_::_,_,he=>cases he
   rw[this]at hs;rw[hs];exact k
 . rintro d rest σ st1 ⟨v4,v5,ws',ds',A',acc,rfl,he,hr',rfl,hl,ha,hw',hs⟩ next
   match ws',ds',A',hr',he with
   |w::ws',e::ds',r::A',hr',he=>
    simp only[ay,SM,Gp,UY]at he;obtain⟨rfl,rfl⟩:=he;refine⟨aL _ hx hy,_,rfl,?_⟩;have hrl:=hw r (ha r R7);refine⟨_,_,_,acc,r,rfl,rfl,hr'.1,by omega,λ b hb=>hm w (hw' w R7) r (ha r R7) b hb,?_⟩;refine next _ _ ⟨_,_,ws',ds',A',Mx.dN acc w r,rfl,rfl,hr'.2,rfl,by rw[Mx.i9 (by omega)];exact hl,λ q hq=>ha q (R8 _ hq),λ q hq=>hw' q (R8 _ hq),?_⟩
    rw[<-hs];rfl
   | [],_,_,_,he=>cases he
   |_::_,[],[],_,he=>cases he
def v9:c_:=λ ds st K=>∃(d:D) (A:List (List Int)) (j:Nat),ds=[d,.int j]/\g6 st d A/\(∀r∈A,j<r.length)/\A.length<=1000/\K (cf (Mx.ox A j)) st
def r8:List Str:=["rows","place"]
def Ij:DS:=(cP (bV dB (af (cC (c5 (ae 0)) [none,some 1] (aQ 0) b_ (aw bI (ae 0) (ae 1))) ak)))
def gZ{tg:fV}{te:DE}{ok:ag->Prop}{σc:ck}{st:ag}{K:List D->ag->Prop}{ds:List D}{A:List (List Int)}(f:List Int->D)(aL:ok st)(hr:cq st ds A)(hx:∀d r,r∈A->items? st d=some (ay r)->∀K',K' (f r) st->∃σ2,tg d σc=some σ2/\te σ2 st K')(k:K (A.map f) st):dP tg b_ te ok σc ds [] st K:=by
 refine gD (λ rest acc st'=>∃(A1 A2:List (List Int)),st=st'/\A1++A2=A/\cq st rest A2/\acc=A1.map f) ?_ ?_ _ _ _ ⟨[],A,rfl,rfl,hr,rfl⟩
 . rintro acc st' ⟨A1,A2,rfl,he,h,rfl⟩;match A2,h with
   | [],_=>
     rw[Tp]at he;subst he;exact⟨aL,k⟩
 . rintro d rest acc st' ⟨A1,A2,rfl,he,h,rfl⟩ next
   match A2,h with
   |r::A2,h=>
    obtain⟨σ2,e2,q⟩:=hx d r (by rw[<-he];simp) h.1 (λ y st2=>dP tg b_ te ok σc rest (A1.map f++[y]) st2 K) (next _ _ ⟨A1++[r],A2,rfl,by rw[<-he];simp,h.2,by simp⟩);exact⟨aL,σ2,e2,q⟩
def za(A:List (List Int))(j:Nat):A.map (λ r=>D.int (r.getD j 0))=ay (Mx.ox A j):=by unfold Mx.ox ay;rw[Se];rfl
def Fv:Rv v9 2 Ij r8:=by
 rintro ds st K ⟨d,A,j,rfl,⟨da,hd,ra⟩,hj,hl,k⟩;refine⟨rfl,?_⟩;refine p7 hd λ ok aL=>⟨aU (by rw[ra.len];exact hl),?_⟩
 refine gZ (λ r=> .int (r.getD j 0)) aL ra (λ e r hr he K' q=>⟨_,rfl,aM he (eJ (hj r hr)) q⟩) ?_;rw[za];exact c8 rfl k
def k9:c_:=λ ds st K=>∃(d:D) (A:List (List Int)) (n:Nat),ds=[d,.int n]/\g6 st d A/\(∀r∈A,r.length=n)/\A.length<=1000/\n<=1000/\K (cW (Mx.cF A n)) st
def kZ:List Str:=["rows","wide"]
def zB:DS:=(cP (bV dB (af (cC (dF (af (ae 1) ak)) [none,some 0] (aQ 0) b_ (aK v9 (af (ae 1) (af (ae 0) ak)))) ak)))
def Hn(A:List (List Int))(n:Nat):(List.range n).map (λ j=>cf (Mx.ox A j))=(Mx.cF A n).map cf:=by unfold Mx.cF;rw[Se];rfl
def yp:Rv k9 2 zB kZ:=by
 rintro ds st K ⟨d,A,n,rfl,hd,hw,hl,hn,k⟩;refine⟨rfl,?_⟩;refine eK ⟨by omega,by omega⟩ ⟨aU (by rw[cK];omega),?_⟩;rw[R6];refine gQ (λ j=>cf (Mx.ox A j)) n (λ i hi K' q=>⟨_,rfl,d,A,i,rfl,hd,λ r hr=>by rw[hw r hr];exact hi,hl,q⟩) ?_;rw[Hn];exact c8 rfl k
def sZ:c_:=λ ds st K=>∃(n i:Nat),ds=[.int n,.int i]/\n<=1000/\K (cf (Mx.d_ n i)) st
def o8:List Str:=["n","place"]
def DZ:DS:=(cP (bV dB (af (cC (dF (af (ae 0) ak)) [none,some 1] (aQ 0) b_ (Je (cu (aw iL (ae 0) (ae 1))) (dC (.int 1)) (dC (.int 0)))) ak)))
def Cd:Rv sZ 2 DZ o8:=by
 rintro ds st K ⟨n,i,rfl,hn,k⟩;refine⟨rfl,?_⟩;refine eK ⟨by omega,by omega⟩ ⟨aU (by rw[cK];omega),?_⟩;rw[R6];refine gQ (λ j=> .int (Mx.dl j i)) n (λ j hj K' q=>⟨_,rfl,?_⟩) ?_
 . refine eq2 (λ h=>ik ?_) λ h=>?_
   . have:j=i:=by omega
     subst this;rw[Mx.dS]at q;exact q
   . rw[Mx.dO (by omega)]at q;exact q
 . have:(List.range n).map (λ j=>D.int (Mx.dl j i))=ay (Mx.d_ n i):=by unfold Mx.d_ ay;rw[Se];rfl
   rw[this];exact c8 rfl k
def nR:c_:=λ ds st K=>∃(n:Nat),ds=[.int n]/\n<=1000/\K (cW (Mx.units n)) st
def nJ:List Str:=["n"]
def BX:DS:=(cP (bV dB (af (cC (dF (af (ae 0) ak)) [none,some 0] (aQ 0) b_ (aK sZ (af (ae 1) (af (ae 0) ak)))) ak)))
def Bb:Rv nR 1 BX nJ:=by
 rintro ds st K ⟨n,rfl,hn,k⟩;refine⟨rfl,?_⟩;refine eK ⟨by omega,by omega⟩ ⟨aU (by rw[cK];omega),?_⟩;rw[R6];refine gQ (λ i=>cf (Mx.d_ n i)) n (λ i hi K' q=>⟨_,rfl,n,i,rfl,hn,q⟩) ?_;have:(List.range n).map (λ i=>cf (Mx.d_ n i))=(Mx.units n).map cf:=by unfold Mx.units;rw[Se];rfl
 rw[this];exact c8 rfl k
def gK:List Int->Nat->Option Nat
 | [],_=>none
 |x::xs,i=>if x=0 then gK xs (i+1)else some i
def mz(r:List Int):Option Nat:=gK r 0
def oW(r:List Int):D:=match mz r with
 |some k=> .int (k:Int)
 |none=> .aF
def qw:c_:=λ ds st K=>∃(d:D) (r:List Int),ds=[d]/\items? st d=some (ay r)/\K (oW r) st
def qD:List Str:=["row","place","number"]
def Fy:DS:=(aI (kH (Ej (af (ae 0) ak)) (kr 1 2) (gn (cu (aw oK (ae 2) (dC (.int 0)))) (cP (ae 1)) fR))
 (cP (dC .aF)))
def Ew:Rv qw 1 Fy qD:=by
 rintro ds st K ⟨d,r,rfl,hd,k⟩;refine⟨rfl,?_⟩;refine Kq hd λ ok aL=>?_;refine ko (λ rest σ st'=>st'=st/\∃(v1 v2:Option D) (s:List Int) (i:Nat),σ=[some d,v1,v2]/\rest=kU i (ay s)/\gK r 0=gK s i) ?_ ?_ _ _ _ ⟨rfl,none,none,r,0,rfl,rfl,rfl⟩
 . rintro σ st' ⟨rfl,v1,v2,s,i,rfl,hr,hl⟩;match s,hr with
   | [],_=>
     refine⟨aL _ hd,?_⟩;have:oW r= .aF:=by unfold oW mz;rw[hl];rfl
     rw[this]at k;exact k
 . rintro x rest σ st' ⟨rfl,v1,v2,s,i,rfl,hr,hl⟩ next
   match s,hr,hl with
   |y::s,hr,hl=>
    simp only[ay,SM,kU,UY]at hr;obtain⟨rfl,rfl⟩:=hr;refine⟨aL _ hd,_,rfl,?_⟩;refine ne2 (λ h=>ik ?_) λ h=>?_
    . have:oW r= .int (i:Int):=by unfold oW mz;rw[hl];unfold gK;rw[RE h]
      rw[this]at k;exact k
    . refine next _ _ ⟨rfl,_,_,s,i+1,rfl,rfl,?_⟩
      rw[hl];unfold gK;rw[RF h];cases s<;>rfl
   | [],hr,_=>cases hr
def AS:∀(r:List Int) (i l:Nat),(∀c,c<l->r.getD c 0=0)->r.getD l 0≠0->gK r i=some (i+l)
 | [],_,_,_,h=>(h rfl).elim
 |x::r,i,0,_,h=>by
  unfold gK;rw[RE (show¬x=0 from h)];rfl
 |x::r,i,l+1,hz,h=>by
  unfold gK;rw[RF (show x=0 from hz 0 (Nat.zero_lt_succ _)),AS r (i+1) l (λ c hc=>hz (c+1) (Wq hc)) h,Nat.add_right_comm];rfl
def wN:∀(r:List Int) (i:Nat),gK r i=none->∀c,r.getD c 0=0
 | [],_,_,_=>rfl
 |x::r,i,h,c=>by
  unfold gK at h;split at h
  . cases c with
    |zero=>assumption
    |succ c=>exact wN r (i+1) h c
  . cases h
def zi{r:List Int}{l:Nat}(h:∀c,c<l->r.getD c 0=0)(h':r.getD l 0≠0):mz r=some l:=by
 have:=AS r 0 l h h';rw[U_]at this;exact this
def drop_cons{F:List (List Int)}{i:Nat}{d:D}{rest:List D}(hr:d::rest=(F.map cf).drop i):i<F.length/\d=cf (F.getD i [])/\rest=(F.map cf).drop (i+1):=by
 have hi:i<F.length:=by
  rcases Ui i F.length with h|h
  . exact h
  . rw[Tv (by rw[Rw];exact h)]at hr;cases hr
 rw[SQ (by rw[Rw];exact hi),Th]at hr;obtain⟨h1,h2⟩:=UA hr;exact⟨hi,by rw[Mx.ax hi];exact h1,h2⟩
def drop_nil{F:List (List Int)}{i:Nat}(hr: []=(F.map cf).drop i):F.length<=i:=by
 have:=Tj List.length hr;rw[SS,Rw,TN]at this;omega
def jF:c_:=λ ds st K=>∃(t d:Int),ds=[.int t,.int d]/\d≠0/\K (.int (Mx.qn t d)) st
def gR:List Str:=["top","bottom"]
def tU:DS:=(cP (aw jo (aw dz (aw fy (dC (.int 2)) (ae 0)) (ae 1)) (aw fy (dC (.int 2)) (ae 1))))
def tJ:Rv jF 2 tU gR:=by
 rintro ds st K ⟨t,d,rfl,hd,k⟩;exact⟨rfl,f7 (ij (by decide) (by decide)) (gG (f7 (ij (by decide) (by decide)) (nB (by omega) k)))⟩
def kO:c_:=λ ds st K=>∃(n k o:Nat) (A:List (List Int)),ds=[.ref n,.int k,.int o]/\st[n]?=some (.lst (A.map av))/\k<A.length/\o<A.length/\K (.ref st.length) (st++[.lst ((Mx.cv A k o).map av)])
def nO:List Str:=["rows","k","other","order"]
def BW:DS:=(aI (bc 3 (bV q_ (af (ae 0) ak)))
 (aI (f_ (ae 3) (ae 1) (aw bI (ae 0) (ae 2)))
 (aI (f_ (ae 3) (ae 2) (aw bI (ae 0) (ae 1)))
 (cP (ae 3)))))
def fe{A:List (List Int)}{j:Nat}(h:j<A.length):fP (A.map av) (j:Int)=some (av (A.getD j [])):=by
 refine j7 ?_;rw[RV,RJ h,Mx.ax h];rfl
def nU{m k:Nat}(h:k<m):lV m (k:Int)=some k:=by
 have:=FH (i:=(k:Int)) (m:=m) (by omega) (by omega);rw[R6]at this;exact this
def js{A:List (List Int)}{k:Nat}{r:List Int}:(A.map av).set k (av r)=(A.set k r).map av:=by rw[W3]
def AR:Rv kO 3 BW nO:=by
 rintro ds st K ⟨n,k,o,A,rfl,e,hk,ho,kk⟩;refine⟨rfl,?_⟩;have hn:n<st.length:=(Rx.mp e).1;refine Bf (aJ e) ?_;have e1:(st++[Cell.lst (A.map av)])[n]?=some (.lst (A.map av)):=by rw[RH hn];exact e
 have e2:(st++[Cell.lst (A.map av)])[st.length]?=some (.lst (A.map av)):=by simp
 refine aM (aJ e1) (fe ho) (jP e2 (by rw[Rw];exact nU hk) ?_);rw[js]
 have es:(st++[Cell.lst (A.map av)]).set st.length (.lst ((A.set k (A.getD o [])).map av))=st++[Cell.lst ((A.set k (A.getD o [])).map av)]:=by
  rw[WS _ _ (Ry _),TU];rfl
 rw[es];have e3:(st++[Cell.lst ((A.set k (A.getD o [])).map av)])[n]?=some (.lst (A.map av)):=by rw[RH hn];exact e
 have e4:(st++[Cell.lst ((A.set k (A.getD o [])).map av)])[st.length]?=some (.lst ((A.set k (A.getD o [])).map av)):=by simp
 refine aM (aJ e3) (fe hk) (jP e4 (by rw[Rw,RY];exact nU ho) ?_);rw[js]
 have es2:(st++[Cell.lst ((A.set k (A.getD o [])).map av)]).set st.length (.lst (((A.set k (A.getD o [])).set o (A.getD k [])).map av))=st++[Cell.lst ((Mx.cv A k o).map av)]:=by
  rw[WS _ _ (Ry _),TU];rfl
 rw[es2];exact kk
def nY:c_:=λ ds st K=>∃(d:D) (r:List Int),ds=[d]/\items? st d=some (ay r)/\r.length<=1000/\K (av (r.map λ x=> -x)) st
def qh:List Str:=["row"]
def FO:DS:=(cP (cC (c5 (ae 0)) [none] (aQ 0) b_ (td mn (ae 0))))
def D0:Rv nY 1 FO qh:=by
 rintro ds st K ⟨d,r,rfl,hd,hl,k⟩;refine⟨rfl,?_⟩;refine p7 hd λ ok aL=>⟨aU (by unfold ay;rw[Rw];exact hl),?_⟩
 refine comp_map (g:=λ x=>match x with| .int a=> .int (-a)|_=> .aF) aL _ (λ x hx K' q=>?_) ?_
 . unfold ay at hx;obtain⟨a,_,rfl⟩:=RZ.mp hx;exact⟨_,rfl,mr q⟩
 . have e:(ay r).map (λ x=>match x with| .int a=> .int (-a)|_=> .aF)=ay (r.map λ x=> -x):=by unfold ay;rw[Se,Se];rfl
   rw[e];exact k
structure Bn(st:ag)(b xb xu xc:Nat)(A U C:List (List Int)):Prop where
 eb:st[b]?=some (Cell.ins aD [("body",.ref xb),("turn",.ref xu),("back_columns",.ref xc)])
 e1:st[xb]?=some (Cell.lst (A.map av))
 e2:st[xu]?=some (Cell.lst (U.map av))
 e3:st[xc]?=some (Cell.lst (C.map av))
 n1:xb≠xu
 n2:xb≠xc
 n3:xu≠xc
def mQ{st:ag}{b x:Nat}{C:Addr}{fs:List (Str×D)}{xs:List D}(h1:st[b]?=some (Cell.ins C fs))(h2:st[x]?=some (Cell.lst xs)):b≠x:=λ z=>by rw[z,h2]at h1;cases h1
def lb:c_:=λ ds st K=>∃(b N:Nat) (d:D) (A:List (List Int)),ds=[.ref b,d]/\st[b]?=some (.ins aD [])/\g6 st d A/\A.length=N/\N<=8/\∀st',Bn st' b st.length (st.length+1) (st.length+2) A (Mx.units N) (Mx.units N)->st'.length=st.length+3->(∀m,m<st.length->m≠b->st'[m]?=st[m]?)->K .aF st'
def jc:List Str:=["self","rows"]
def v_:DS:=(aI (qu aD "body" (ae 0) (je (c5 (ae 1)) [none] (aQ 0) b_ (bV iW (af (ae 0) ak))))
 (aI (qu aD "turn" (ae 0) (je (c5 (aK nR (af (bV fJ (af (ae 1) ak)) ak))) [none] (aQ 0) b_ (bV iW (af (ae 0) ak))))
 (qu aD "back_columns" (ae 0) (je (c5 (aK nR (af (bV fJ (af (ae 1) ak)) ak))) [none] (aQ 0) b_ (bV iW (af (ae 0) ak))))))
def sU(f:Str)(v:D):∀fs:List (Str×D),(putD f v fs).length<=fs.length+1
 | []=>by simp[putD]
 |(g,x)::r=>by
  unfold putD;split
  . simp
  . have:=sU f v r;simp only[Sl];omega
def AD{st:ag}{A:List (List Int)}:cq st (A.map cf) A:=cq.tup
def yG(n:Nat):(Mx.units n).length=n:=by unfold Mx.units;simp
def vh:Rv lb 2 v_ jc:=by
 rintro ds st K ⟨b,N,d,A,rfl,eb,hA,hl,hN,k⟩;refine⟨rfl,?_⟩;have hb:b<st.length:=(Rx.mp eb).1;obtain⟨da,hd,ra⟩:=hA.ex;have hdl:=ra.len;have lst:∀(e:D) (r:List Int),True:=λ _ _=>trivial;refine p7 hd λ ok aL=>⟨aU (by omega),?_⟩
 refine j5 av aL ra (λ e r hr he K' q=>⟨_,rfl,ip he q⟩) ?_;have eb1:(st++[Cell.lst (A.map av)])[b]?=some (.ins aD []):=by rw[RH hb];exact eb
 refine pB eb1 (by decide) ?_;generalize hs1:(st++[Cell.lst (A.map av)]).set b (.ins aD (putD "body" (.ref st.length) []))=st1;have l1:st1.length=st.length+1:=by rw[<-hs1];simp
 have f1:∀m,m<st.length->m≠b->st1[m]?=st[m]?:=λ m hm hmb=>by rw[<-hs1,RB (RO hmb),RH hm]
 have b1:st1[b]?=some (.ins aD (putD "body" (.ref st.length) [])):=by rw[<-hs1,RK (by simp;omega)]
 have x1:st1[st.length]?=some (.lst (A.map av)):=by rw[<-hs1,RB (by omega)];simp
 clear hs1
 have itd:∃da',items? st1 d=some da'/\da'.length=N:=by
  cases d with
  |ref n=>
   by_cases hnb:n=b
   . subst hnb;unfold items? at hd;simp only[eb]at hd;cases hd
   . have hn:n<st.length:=by
      unfold items? at hd;simp only at hd;cases q:st[n]? with
      |none=>rw[q]at hd;cases hd
      |some c=>exact(Rx.mp q).1
     refine⟨da,?_,by omega⟩;unfold items? at hd⊢;simp only at hd⊢;rw[f1 n hn hnb];exact hd
  |_=>exact⟨da,hd,by omega⟩
 obtain⟨da1,hd1,hdl1⟩:=itd;refine d6 hd1 ?_;rw[hdl1];refine⟨N,rfl,by omega,?_⟩;refine fW ⟨aU (by rw[Rw,yG];omega),?_⟩;refine j5 av trivial AD (λ e r hr he K' q=>⟨_,rfl,ip he q⟩) ?_;have b2:(st1++[Cell.lst ((Mx.units N).map av)])[b]?=some (.ins aD (putD "body" (.ref st.length) [])):=by rw[RH (by omega)];exact b1
 refine pB b2 (by have:=sU "body" (.ref st.length) [];simp only[TN]at this;omega) ?_;generalize hs2:(st1++[Cell.lst ((Mx.units N).map av)]).set b (.ins aD (putD "turn" (.ref st1.length) (putD "body" (.ref st.length) [])))=st2;have l2:st2.length=st.length+2:=by rw[<-hs2];simp;omega
 have f2:∀m,m<st1.length->m≠b->st2[m]?=st1[m]?:=λ m hm hmb=>by rw[<-hs2,RB (RO hmb),RH hm]
 have b2':st2[b]?=some (.ins aD (putD "turn" (.ref st1.length) (putD "body" (.ref st.length) []))):=by rw[<-hs2,RK (by simp;omega)]
 have x2:st2[st1.length]?=some (.lst ((Mx.units N).map av)):=by rw[<-hs2,RB (by omega)];simp
 clear hs2
 have itd2:items? st2 d=some da1:=by
  cases d with
  |ref n=>
   by_cases hnb:n=b
   . subst hnb;unfold items? at hd1;simp only[b1]at hd1;cases hd1
   . have hn:n<st1.length:=by
      unfold items? at hd1;simp only at hd1;cases q:st1[n]? with
      |none=>rw[q]at hd1;cases hd1
      |some c=>exact(Rx.mp q).1
     unfold items? at hd1⊢;simp only at hd1⊢;rw[f2 n hn hnb];exact hd1
  |_=>exact hd1
 refine d6 itd2 ?_;rw[hdl1];refine⟨N,rfl,by omega,?_⟩;refine fW ⟨aU (by rw[Rw,yG];omega),?_⟩;refine j5 av trivial AD (λ e r hr he K' q=>⟨_,rfl,ip he q⟩) ?_;have b3:(st2++[Cell.lst ((Mx.units N).map av)])[b]?=some (.ins aD (putD "turn" (.ref st1.length) (putD "body" (.ref st.length) []))):=by rw[RH (by omega)];exact b2'
 refine pB b3 (by have h1:=sU "body" (.ref st.length) [];have h2:=sU "turn" (.ref st1.length) (putD "body" (.ref st.length) []);simp only[TN]at h1;omega) ?_;refine k _ ⟨?_,?_,?_,?_,by omega,by omega,by omega⟩ (by simp;omega) λ m hm hmb=>?_
 . rw[RK (by simp;omega),l1,l2];rfl
 . rw[RB (by omega),RH (by omega),f2 _ (by omega) (by omega)];exact x1
 . rw[RB (by omega),RH (by omega)];rw[l1]at x2;exact x2
 . rw[RB (by omega)];rw[show st.length+2=st2.length by omega];simp
 . rw[RB (RO hmb),RH (by omega),f2 m (by omega) hmb,f1 m hm hmb]
def mJ:c_:=λ ds st K=>∃(b xb xu xc N w k j:Nat) (A U C:List (List Int)) (q:Int),ds=[.ref b,.int k,.int q,.int j]/\Bn st b xb xu xc A U C/\Mx.bK N w A/\Mx.bK N N U/\Mx.bK N N C/\k<N/\j<N/\N<=8/\w<=9/\(∀x∈A.getD j [],IntMulOk (-q) x)/\(∀x∈U.getD j [],IntMulOk (-q) x)/\(∀x∈C.getD k [],IntMulOk q x)/\
 ∀st',Bn st' b xb xu xc (Mx.bJ A k q j) (Mx.bJ U k q j) (Mx.bJ C j (-q) k)->st'.length=st.length->(∀m,m≠xb->m≠xu->m≠xc->st'[m]?=st[m]?)->K .aF st'
def mR:List Str:=["self","k","times","other"]
def A7:DS:=(aI (f_ (fi aD "body" (ae 0)) (ae 1) (aK nq (af (aw bI (fi aD "body" (ae 0)) (ae 1)) (af (td mn (ae 2)) (af (aw bI (fi aD "body" (ae 0)) (ae 3)) ak)))))
 (aI (f_ (fi aD "turn" (ae 0)) (ae 1) (aK nq (af (aw bI (fi aD "turn" (ae 0)) (ae 1)) (af (td mn (ae 2)) (af (aw bI (fi aD "turn" (ae 0)) (ae 3)) ak)))))
 (f_ (fi aD "back_columns" (ae 0)) (ae 3) (aK nq (af (aw bI (fi aD "back_columns" (ae 0)) (ae 3)) (af (ae 2) (af (aw bI (fi aD "back_columns" (ae 0)) (ae 1)) ak)))))))
def zA:Rv mJ 4 A7 mR:=by
 rintro ds st K ⟨b,xb,xu,xc,N,w,k,j,A,U,C,q,rfl,B,hA,hU,hC,hk,hj,hN,hw,mA,mU,mC,kk⟩;refine⟨rfl,?_⟩;have lA:=hA.len;have lU:=hU.len;have lC:=hC.len;have rA:=Mx.dE hA hk;have rU:=Mx.dE hU hk;have rC:=Mx.dE hC hj;have bx1:=mQ B.eb B.e1;have bx2:=mQ B.eb B.e2;have bx3:=mQ B.eb B.e3;have n1:=B.n1;have n2:=B.n2;have n3:=B.n3;refine df B.eb rfl (aM (aJ B.e1) (fe (by omega)) (mr (df B.eb rfl (aM (aJ B.e1) (fe (by omega)) ?_))));refine⟨_,_,-q,A.getD k [],A.getD j [],rfl,rfl,rfl,by omega,mA,?_⟩;refine df B.eb rfl (jP B.e1 (by rw[Rw,lA];exact nU hk) ?_);rw[js];have g1:∀m,m≠xb->(st.set xb (.lst ((A.set k (Mx.dN (A.getD k []) (-q) (A.getD j []))).map av)))[m]?=st[m]?:=λ m hm=>RB (RO hm);have h1:(st.set xb (.lst ((A.set k (Mx.dN (A.getD k []) (-q) (A.getD j []))).map av)))[xb]?=some (.lst ((Mx.bJ A k q j).map av)):=RK (Rx.mp B.e1).1;have z1:(st.set xb (.lst ((A.set k (Mx.dN (A.getD k []) (-q) (A.getD j []))).map av))).length=st.length:=RY;generalize st.set xb (.lst ((A.set k (Mx.dN (A.getD k []) (-q) (A.getD j []))).map av))=st1 at g1 h1 z1⊢;have eb1:=(g1 b bx1).trans B.eb;have e21:=(g1 xu (RO n1)).trans B.e2;have e31:=(g1 xc (RO n2)).trans B.e3;refine df eb1 rfl (aM (aJ e21) (fe (by omega)) (mr (df eb1 rfl (aM (aJ e21) (fe (by omega)) ?_))));refine⟨_,_,-q,U.getD k [],U.getD j [],rfl,rfl,rfl,by omega,mU,?_⟩;refine df eb1 rfl (jP e21 (by rw[Rw,lU];exact nU hk) ?_);rw[js];have g2:∀m,m≠xu->(st1.set xu (.lst ((U.set k (Mx.dN (U.getD k []) (-q) (U.getD j []))).map av)))[m]?=st1[m]?:=λ m hm=>RB (RO hm);have h2:(st1.set xu (.lst ((U.set k (Mx.dN (U.getD k []) (-q) (U.getD j []))).map av)))[xu]?=some (.lst ((Mx.bJ U k q j).map av)):=RK (Rx.mp e21).1;have z2:(st1.set xu (.lst ((U.set k (Mx.dN (U.getD k []) (-q) (U.getD j []))).map av))).length=st1.length:=RY;generalize st1.set xu (.lst ((U.set k (Mx.dN (U.getD k []) (-q) (U.getD j []))).map av))=st2 at g2 h2 z2⊢;have eb2:=(g2 b bx2).trans eb1;have e32:=(g2 xc (RO n3)).trans e31;refine df eb2 rfl (aM (aJ e32) (fe (by omega)) (df eb2 rfl (aM (aJ e32) (fe (by omega)) ?_)));refine⟨_,_,q,C.getD j [],C.getD k [],rfl,rfl,rfl,by omega,mC,?_⟩;refine df eb2 rfl (jP e32 (by rw[Rw,lC];exact nU hj) ?_);rw[js];have hc:C.set j (Mx.dN (C.getD j []) q (C.getD k []))=Mx.bJ C j (-q) k:=by unfold Mx.bJ;rw[Int.neg_neg]
 rw[hc];refine kk _ ⟨?_,?_,?_,?_,n1,n2,n3⟩ (by rw[RY];omega) λ m m1 m2 m3=>?_
 . rw[RB (RO bx3)];exact eb2
 . rw[RB (RO n2),g2 _ n1];exact h1
 . rw[RB (RO n3)];exact h2
 . exact RK (Rx.mp e32).1
 . rw[RB (RO m3),g2 m m2,g1 m m1]
def lE:c_:=λ ds st K=>∃(b xb xu xc N w k o:Nat) (A U C:List (List Int)),ds=[.ref b,.int k,.int o]/\Bn st b xb xu xc A U C/\Mx.bK N w A/\Mx.bK N N U/\Mx.bK N N C/\k<N/\o<N/\
 ∀st',Bn st' b st.length (st.length+1) (st.length+2) (Mx.cv A k o) (Mx.cv U k o) (Mx.cv C k o)->st'.length=st.length+3->(∀m,m<st.length->m≠b->st'[m]?=st[m]?)->K .aF st'
def ja:List Str:=["self","k","other"]
def vF:DS:=(aI (qu aD "body" (ae 0) (aK kO (af (fi aD "body" (ae 0)) (af (ae 1) (af (ae 2) ak)))))
 (aI (qu aD "turn" (ae 0) (aK kO (af (fi aD "turn" (ae 0)) (af (ae 1) (af (ae 2) ak)))))
 (qu aD "back_columns" (ae 0) (aK kO (af (fi aD "back_columns" (ae 0)) (af (ae 1) (af (ae 2) ak)))))))
def vg:Rv lE 3 vF ja:=by
 rintro ds st K ⟨b,xb,xu,xc,N,w,k,o,A,U,C,rfl,B,hA,hU,hC,hk,ho,kk⟩;refine⟨rfl,?_⟩;have lA:=hA.len;have lU:=hU.len;have lC:=hC.len;have bx1:=mQ B.eb B.e1;have bx2:=mQ B.eb B.e2;have bx3:=mQ B.eb B.e3;have hb:b<st.length:=(Rx.mp B.eb).1;have hu:xu<st.length:=(Rx.mp B.e2).1;have hc:xc<st.length:=(Rx.mp B.e3).1;refine df B.eb rfl ?_;refine⟨xb,k,o,A,rfl,B.e1,by omega,by omega,?_⟩;have eb1:(st++[Cell.lst ((Mx.cv A k o).map av)])[b]?=some (.ins aD [("body",.ref xb),("turn",.ref xu),("back_columns",.ref xc)]):=by rw[RH hb];exact B.eb
 refine pB eb1 (by simp) ?_;have pb:putD "body" (.ref st.length) [("body",.ref xb),("turn",.ref xu),("back_columns",.ref xc)]=([("body",.ref st.length),("turn",.ref xu),("back_columns",.ref xc)]:List (Str×D)):=rfl;rw[pb];generalize hs1:(st++[Cell.lst ((Mx.cv A k o).map av)]).set b (.ins aD [("body",.ref st.length),("turn",.ref xu),("back_columns",.ref xc)])=st1;have l1:st1.length=st.length+1:=by rw[<-hs1];simp
 have f1:∀m,m<st.length->m≠b->st1[m]?=st[m]?:=λ m hm hmb=>by rw[<-hs1,RB (RO hmb),RH hm]
 have b1:st1[b]?=some (.ins aD [("body",.ref st.length),("turn",.ref xu),("back_columns",.ref xc)]):=by rw[<-hs1,RK (by simp;omega)]
 have x1:st1[st.length]?=some (.lst ((Mx.cv A k o).map av)):=by rw[<-hs1,RB (by omega)];simp
 clear hs1 eb1;refine df b1 rfl ?_;refine⟨xu,k,o,U,rfl,(f1 xu hu (RO bx2)).trans B.e2,by omega,by omega,?_⟩;have eb1:(st1++[Cell.lst ((Mx.cv U k o).map av)])[b]?=some (.ins aD [("body",.ref st.length),("turn",.ref xu),("back_columns",.ref xc)]):=by rw[RH (by omega)];exact b1
 refine pB eb1 (by simp) ?_;have pb:putD "turn" (.ref st1.length) [("body",.ref st.length),("turn",.ref xu),("back_columns",.ref xc)]=([("body",.ref st.length),("turn",.ref st1.length),("back_columns",.ref xc)]:List (Str×D)):=rfl;rw[pb];generalize hs2:(st1++[Cell.lst ((Mx.cv U k o).map av)]).set b (.ins aD [("body",.ref st.length),("turn",.ref st1.length),("back_columns",.ref xc)])=st2;have l2:st2.length=st.length+2:=by rw[<-hs2];simp;omega
 have f2:∀m,m<st1.length->m≠b->st2[m]?=st1[m]?:=λ m hm hmb=>by rw[<-hs2,RB (RO hmb),RH hm]
 have b2:st2[b]?=some (.ins aD [("body",.ref st.length),("turn",.ref st1.length),("back_columns",.ref xc)]):=by rw[<-hs2,RK (by simp;omega)]
 have x2:st2[st1.length]?=some (.lst ((Mx.cv U k o).map av)):=by rw[<-hs2,RB (by omega)];simp
 clear hs2 eb1;refine df b2 rfl ?_;refine⟨xc,k,o,C,rfl,((f2 xc (by omega) (RO bx3)).trans (f1 xc hc (RO bx3))).trans B.e3,by omega,by omega,?_⟩;have eb1:(st2++[Cell.lst ((Mx.cv C k o).map av)])[b]?=some (.ins aD [("body",.ref st.length),("turn",.ref st1.length),("back_columns",.ref xc)]):=by rw[RH (by omega)];exact b2
 refine pB eb1 (by simp) ?_;have pb:putD "back_columns" (.ref st2.length) [("body",.ref st.length),("turn",.ref st1.length),("back_columns",.ref xc)]=([("body",.ref st.length),("turn",.ref st1.length),("back_columns",.ref st2.length)]:List (Str×D)):=rfl;rw[pb];refine kk _ ⟨?_,?_,?_,?_,by omega,by omega,by omega⟩ (by simp;omega) λ m hm hmb=>?_
 . rw[RK (by simp;omega),l1,l2]
 . rw[RB (by omega),RH (by omega),f2 _ (by omega) (by omega)];exact x1
 . rw[RB (by omega),RH (by omega)];rw[l1]at x2;exact x2
 . rw[RB (by omega)];rw[show st.length+2=st2.length by omega];simp
 . rw[RB (RO hmb),RH (by omega),f2 m (by omega) hmb,f1 m hm hmb]
def jA:c_:=λ ds st K=>∃(b xb xu xc N w k:Nat) (A U C:List (List Int)),ds=[.ref b,.int k]/\Bn st b xb xu xc A U C/\Mx.bK N w A/\Mx.bK N N U/\Mx.bK N N C/\k<N/\N<=8/\w<=9/\
 ∀st',Bn st' b xb xu xc (Mx.ia A k) (Mx.ia U k) (Mx.ia C k)->st'.length=st.length->(∀m,m≠xb->m≠xu->m≠xc->st'[m]?=st[m]?)->K .aF st'
def gM:List Str:=["self","k"]
def tH:DS:=(aI (f_ (fi aD "body" (ae 0)) (ae 1) (aK nY (af (aw bI (fi aD "body" (ae 0)) (ae 1)) ak)))
 (aI (f_ (fi aD "turn" (ae 0)) (ae 1) (aK nY (af (aw bI (fi aD "turn" (ae 0)) (ae 1)) ak)))
 (f_ (fi aD "back_columns" (ae 0)) (ae 1) (aK nY (af (aw bI (fi aD "back_columns" (ae 0)) (ae 1)) ak)))))
def s_:Rv jA 2 tH gM:=by
 rintro ds st K ⟨b,xb,xu,xc,N,w,k,A,U,C,rfl,B,hA,hU,hC,hk,hN,hw,kk⟩;refine⟨rfl,?_⟩;have lA:=hA.len;have lU:=hU.len;have lC:=hC.len;have rA:=Mx.dE hA hk;have rU:=Mx.dE hU hk;have rC:=Mx.dE hC hk;have bx1:=mQ B.eb B.e1;have bx2:=mQ B.eb B.e2;have bx3:=mQ B.eb B.e3;have n1:=B.n1;have n2:=B.n2;have n3:=B.n3;refine df B.eb rfl (aM (aJ B.e1) (fe (by omega)) ?_);refine⟨_,A.getD k [],rfl,rfl,by omega,?_⟩;refine df B.eb rfl (jP B.e1 (by rw[Rw,lA];exact nU hk) ?_);rw[js];have g1:∀m,m≠xb->(st.set xb (.lst ((A.set k ((A.getD k []).map λ x=> -x)).map av)))[m]?=st[m]?:=λ m hm=>RB (RO hm);have h1:(st.set xb (.lst ((A.set k ((A.getD k []).map λ x=> -x)).map av)))[xb]?=some (.lst ((Mx.ia A k).map av)):=RK (Rx.mp B.e1).1;have z1:(st.set xb (.lst ((A.set k ((A.getD k []).map λ x=> -x)).map av))).length=st.length:=RY;generalize st.set xb (.lst ((A.set k ((A.getD k []).map λ x=> -x)).map av))=st1 at g1 h1 z1⊢;have eb1:=(g1 b bx1).trans B.eb;have e21:=(g1 xu (RO n1)).trans B.e2;have e31:=(g1 xc (RO n2)).trans B.e3;refine df eb1 rfl (aM (aJ e21) (fe (by omega)) ?_);refine⟨_,U.getD k [],rfl,rfl,by omega,?_⟩;refine df eb1 rfl (jP e21 (by rw[Rw,lU];exact nU hk) ?_);rw[js];have g2:∀m,m≠xu->(st1.set xu (.lst ((U.set k ((U.getD k []).map λ x=> -x)).map av)))[m]?=st1[m]?:=λ m hm=>RB (RO hm);have h2:(st1.set xu (.lst ((U.set k ((U.getD k []).map λ x=> -x)).map av)))[xu]?=some (.lst ((Mx.ia U k).map av)):=RK (Rx.mp e21).1;have z2:(st1.set xu (.lst ((U.set k ((U.getD k []).map λ x=> -x)).map av))).length=st1.length:=RY;generalize st1.set xu (.lst ((U.set k ((U.getD k []).map λ x=> -x)).map av))=st2 at g2 h2 z2⊢;have eb2:=(g2 b bx2).trans eb1;have e32:=(g2 xc (RO n3)).trans e31;refine df eb2 rfl (aM (aJ e32) (fe (by omega)) ?_);refine⟨_,C.getD k [],rfl,rfl,by omega,?_⟩;refine df eb2 rfl (jP e32 (by rw[Rw,lC];exact nU hk) ?_);rw[js];refine kk _ ⟨?_,?_,?_,?_,n1,n2,n3⟩ (by rw[RY];omega) λ m m1 m2 m3=>?_
 . rw[RB (RO bx3)];exact eb2
 . rw[RB (RO n2),g2 _ n1];exact h1
 . rw[RB (RO n3)];exact h2
 . exact RK (Rx.mp e32).1
 . rw[RB (RO m3),g2 m m2,g1 m m1]
def hJ:c_:=λ ds st K=>∃(b xb xu xc N w top p:Nat) (A U C:List (List Int)) (f:Bool),ds=[.ref b,.int top,.int p]/\Bn st b xb xu xc A U C/\Mx.bK N w A/\top<=N/\N<=8/\p<w/\w<=9/\st[0]?=some (ix f)/\
 ∀L,Mx.iq A N top p L->K (.lst (L.map λ(k:Nat)=> .int (k:Int))) (st.set 0 (ix true))
def h8:List Str:=["self","top","place","live"]
def vd:DS:=(aI (bc 3 (cC (uT (af (ae 1) (af (bV fJ (af (fi aD "body" (ae 0)) ak)) ak))) [none,some 0,some 2] (aQ 0) (cu (aw oK (aw bI (aw bI (fi aD "body" (ae 1)) (ae 0)) (ae 2)) (dC (.int 0)))) (ae 0)))
 (cP (Bg 0 161 ⟨82,32,82,66⟩ "Bench.live_rows.<locals>.<lambda>" [none,some 0,some 2] (bV ud (af (aw bI (aw bI (fi aD "body" (ae 1)) (ae 0)) (ae 2)) ak)) (ae 3))))
def xy{a b:Prop}(h:b):if false=true then a else b:=h
def Lk{st:ag}{b:Nat}{C:Addr}{fs:List (Str×D)}{f:Bool}(h1:st[b]?=some (Cell.ins C fs))(h2:st[0]?=some (ix f)):b≠0:=λ z=>by rw[z,h2]at h1;cases h1
def uJ{st:ag}{b:Nat}{xs:List D}{f:Bool}(h1:st[b]?=some (Cell.lst xs))(h2:st[0]?=some (ix f)):b≠0:=λ z=>by rw[z,h2]at h1;cases h1
def Bn.keep{st st':ag}{b xb xu xc:Nat}{A U C:List (List Int)}(B:Bn st b xb xu xc A U C)(h:∀m,m=b\/m=xb\/m=xu\/m=xc->st'[m]?=st[m]?):Bn st' b xb xu xc A U C:=
 ⟨(h b (.inl rfl)).trans B.eb,(h xb (.inr (.inl rfl))).trans B.e1,(h xu (.inr (.inr (.inl rfl)))).trans B.e2,(h xc (.inr (.inr (.inr rfl)))).trans B.e3,B.n1,B.n2,B.n3⟩
def Bn.tab{st:ag}{b xb xu xc:Nat}{A U C:List (List Int)}{f:Bool}(B:Bn st b xb xu xc A U C)(h:st[0]?=some (ix f))(c:Cell):Bn (st.set 0 c) b xb xu xc A U C:=
 B.keep λ m hm=>RB λ z=>by
  subst z;rcases hm with rfl|rfl|rfl|rfl
  . exact Lk B.eb h rfl
  . exact uJ B.e1 h rfl
  . exact uJ B.e2 h rfl
  . exact uJ B.e3 h rfl
def pR{r:List Int}{k:Nat}(h:k<r.length):fP (ay r) (k:Int)=some (.int (r.getD k 0)):=by
 refine j7 ?_;unfold ay;rw[RV,RJ h,Mx.ax h];rfl
def gO(A:List (List Int))(N top p:Nat):List Nat:=(List.range (N-top)).filterMap λ i=>if Mx.g A (top+i) p≠0 then some (top+i)else none
def ze{A:List (List Int)}{N top p k:Nat}:k∈gO A N top p↔top<=k/\k<N/\Mx.g A k p≠0:=by
 unfold gO;rw[U0];constructor
 . rintro⟨i,hi,e⟩;rw[T4]at hi;split at e
   . rename_i h;cases e;exact⟨by omega,by omega,h⟩
   . cases e
 . rintro⟨h1,h2,h3⟩;refine⟨k-top,T4.mpr (by omega),?_⟩;rw[show top+(k-top)=k by omega,RF h3]
def pw_filterMap{f:Nat->Option Nat}(h:∀i j a b,i<j->f i=some a->f j=some b->a<b):∀ {l:List Nat},l.Pairwise (· < ·)->(l.filterMap f).Pairwise (· < ·)
 | [],_=>by simp
 |x::l,hl=>by
  obtain⟨h1,h2⟩:=UG.mp hl;rw[UT];split
  . exact pw_filterMap h h2
  . rename_i a e;refine UG.mpr ⟨λ b hb=>?_,pw_filterMap h h2⟩;obtain⟨j,hj,ej⟩:=U0.mp hb;exact h x j a b (h1 j hj) e ej
def pw_liveR{A:List (List Int)}{N top p:Nat}:(gO A N top p).Pairwise (· < ·):=by
 unfold gO;refine pw_filterMap (λ i j a b hij ha hb=>?_) List.pairwise_lt_range;split at ha
 . split at hb
   . cases ha;cases hb;omega
   . cases hb
 . cases ha
def zt{f:Nat->Option Nat}(l:List Nat):(l.filterMap f).length<=l.length:=List.length_filterMap_le ..
def Lp{A:List (List Int)}{N top p:Nat}{os:List (Int×Int)}(hp:os.Perm (((gO A N top p).map λ(k:Nat)=>(((Mx.g A k p).natAbs:Nat):Int)).zip ((gO A N top p).map λ(k:Nat)=>(k:Int))))(hs:os.Pairwise slt):
 Mx.iq A N top p (os.map λ q=>q.2.toNat)/\os.map (λ q=>D.int q.2)=(os.map λ q=>q.2.toNat).map λ(k:Nat)=>D.int (k:Int):=by
 have hz:((gO A N top p).map λ(k:Nat)=>(((Mx.g A k p).natAbs:Nat):Int)).zip ((gO A N top p).map λ(k:Nat)=>(k:Int))=(gO A N top p).map λ k=>((((Mx.g A k p).natAbs:Nat):Int),(k:Int)):=by
  exact List.zip_map' ..
 rw[hz]at hp
 have hm:∀q∈os,∃k,k∈gO A N top p/\q=((((Mx.g A k p).natAbs:Nat):Int),(k:Int)):=λ q hq=>by
  obtain⟨k,h1,h2⟩:=RZ.mp (hp.mem_iff.mp hq);exact⟨k,h1,h2.symm⟩
 refine⟨⟨λ k=>?_,?_⟩,?_⟩
 . rw[<-ze];constructor
   . intro h;obtain⟨q,hq,e⟩:=RZ.mp h;obtain⟨j,h1,rfl⟩:=hm q hq;simp only[R6]at e;rw[<-e];exact h1
   . intro h;exact RZ.mpr ⟨((((Mx.g A k p).natAbs:Nat):Int),(k:Int)),hp.mem_iff.mpr (RZ.mpr ⟨k,h,rfl⟩),by simp⟩
 . rw[Vl];refine hs.imp_of_mem λ{x y} hx hy h=>?_;obtain⟨j,_,rfl⟩:=hm x hx;obtain⟨k,_,rfl⟩:=hm y hy;unfold slt at h;simp only[R6];omega
 . rw[Se];refine Tz λ q hq=>?_;obtain⟨j,_,rfl⟩:=hm q hq;simp
def um:Rv hJ 3 vd h8:=by
 rintro ds st K ⟨b,xb,xu,xc,N,w,top,p,A,U,C,f,rfl,B,hA,ht,hN,hp,hw,h0,k⟩;refine⟨rfl,?_⟩;have lA:=hA.len;have rowA:∀i,i<N->(A.getD i []).length=w:=λ i hi=>Mx.dE hA hi;refine df B.eb rfl (d6 (aJ B.e1) ?_);rw[Rw,lA];refine Lh ⟨by omega,by omega,by omega,by omega⟩ ⟨aU (by unfold dM;simp;omega),?_⟩;have er:((N:Int)-(top:Int)).toNat=N-top:=by omega
 rw[er];refine gD (λ rest acc st'=>∃i:Nat,i<=N-top/\st'=st/\rest=(List.range (N-top-i)).map (λ j=>D.int ((top+i+j:Nat):Int))/\acc=((List.range i).filterMap λ i=>if Mx.g A (top+i) p≠0 then some (top+i)else none).map λ(k:Nat)=>D.int (k:Int)) ?_ ?_ _ _ _ ⟨0,Sg _,rfl,by unfold dM;simp,by simp⟩
 . rintro acc st' ⟨i,hi,rfl,hr,rfl⟩
   have hi':i=N-top:=by
    rcases Ui i (N-top)with z|z
    . rw[show N-top-i=(N-top-i-1)+1 by omega,S9]at hr;cases hr
    . omega
   subst hi';refine⟨trivial,?_⟩;have e1:((gO A N top p).map λ(k:Nat)=>D.int (k:Int))=((gO A N top p).map λ(k:Nat)=>(k:Int)).map D.int:=by rw[Se];rfl
   refine⟨(gO A N top p).map λ(k:Nat)=>(k:Int),(gO A N top p).map λ(k:Nat)=>(((Mx.g A k p).natAbs:Nat):Int),f,Tj D.lst e1,?_,?_,by rw[Rw,Rw],h0,λ i n q hn hq=>?_,λ os hp' hs=>?_⟩
   . rw[Rw];have:=zt (f:=λ i=>if Mx.g A (top+i) p≠0 then some (top+i)else none) (List.range (N-top));rw[List.length_range]at this;show(gO A N top p).length<64;unfold gO;omega
   . rw[Vl];exact pw_liveR.imp λ h=>by omega
   . rw[RV]at hn hq;cases z:(gO A N top p)[i]? with
     |none=>rw[z]at hn;cases hn
     |some j=>
      rw[z]at hn hq;cases hn;cases hq;obtain⟨j1,j2,j3⟩:=ze.mp (Sb z);have B1:=B.tab h0 (ix true);refine df B1.eb rfl (aM (aJ B1.e1) (fe (by omega)) (aM rfl (pR (by rw[rowA j j2];exact hp)) (xa ⟨rfl,rfl⟩)))
   . obtain⟨h1,h2⟩:=Lp hp' hs;rw[h2];exact k _ h1
 . rintro d rest acc st' ⟨i,hi,rfl,hr,rfl⟩ next
   have hlt:i<N-top:=by
    rcases Ui i (N-top)with z|z
    . exact z
    . rw[show N-top-i=0 by omega]at hr;cases hr
   rw[show N-top-i=(N-top-i-1)+1 by omega,S9,SM,Se]at hr;obtain⟨rfl,rfl⟩:=UA hr;refine⟨trivial,_,rfl,?_⟩;refine df B.eb rfl (aM (aJ B.e1) (fe (j:=top+i+0) (by omega)) (aM rfl (pR (by rw[rowA _ (by omega)];exact hp)) ?_));have e2:List.range (i+1)=List.range i++[i]:=UI
   have e3:((List.range (N-top-i-1)).map ((λ j=>D.int ((top+i+j:Nat):Int))∘Nat.succ))=(List.range (N-top-(i+1))).map λ j=>D.int ((top+(i+1)+j:Nat):Int):=by
    rw[show N-top-i-1=N-top-(i+1) by omega];refine Tz λ j _=>?_;show D.int ((top+i+(j+1):Nat):Int)=_;rw[show top+i+(j+1)=top+(i+1)+j by omega]
   refine ne2 (λ h=>?_) λ h=>?_
   . refine(next _ _ ⟨i+1,by omega,rfl,e3,?_⟩);rw[e2,WT,SY];have:Mx.g A (top+i) p≠0:=h;simp[this]
   . refine(next _ _ ⟨i+1,by omega,rfl,e3,?_⟩);rw[e2,WT,SY];have:Mx.g A (top+i) p=0:=h;simp[this]
structure Bo(n0:Nat)(st st':ag)(b xb xu xc:Nat):Prop where
 lo:1<=n0/\n0<=b/\n0<=xb/\n0<=xu/\n0<=xc
 fr:∀m,m<n0->m≠0->st'[m]?=st[m]?
 tb:∃f,st'[0]?=some (ix f)
def m5:c_:=λ ds st K=>∃(n0 b xb xu xc N w top p e u:Nat) (A0 A U C:List (List Int)) (ld:Nat->Nat),ds=[.ref b,.int top,.int p]/\Bn st b xb xu xc A U C/\Bo n0 st st b xb xu xc/\Mx.gX A0 N w ⟨A,U,C⟩ top p ld e u/\N<=8/\w<=9/\p<w/\(N-top+1)*(e+1)<=60000000/\
 (∀st',Bn st' b xb xu xc A U C->Bo n0 st st' b xb xu xc->Mx.iq A N top p []->K (.bl false) st')/\
 ∀st' xb' xu' xc' (c:Mx.B3) (r:Nat),Bn st' b xb' xu' xc' (Mx.setB c p top r).A (Mx.setB c p top r).U (Mx.setB c p top r).C->Bo n0 st st' b xb' xu' xc'->Mx.fU N top p ⟨A,U,C⟩ c->Mx.iq c.A N top p [r]->top<N->
  Mx.lB A0 N w top p (2^((N-top+1)*(e+1))) ⟨A,U,C⟩ (Mx.setB c p top r)->K (.bl true) st'
def j9:List Str:=["self","top","place","live","great","small"]
def xM:DS:=(aI (bc 3 (kP aD "live_rows" hJ (ae 0) (af (ae 1) (af (ae 2) ak))))
 (aI (uf (cu (aw uu (bV fJ (af (ae 3) ak)) (dC (.int 1)))) (aI (bc 4 (aw bI (ae 3) (td mn (dC (.int 1)))))
 (aI (bc 5 (aw bI (ae 3) (td mn (dC (.int 2)))))
 (aI (kX (kP aD "take" mJ (ae 0) (af (ae 4) (af (aK jF (af (aw bI (aw bI (fi aD "body" (ae 0)) (ae 4)) (ae 2)) (af (aw bI (aw bI (fi aD "body" (ae 0)) (ae 5)) (ae 2)) ak))) (af (ae 5) ak)))))
 (bc 3 (kP aD "live_rows" hJ (ae 0) (af (ae 1) (af (ae 2) ak))))))))
 (aI (gn (cu (aw iL (bV fJ (af (ae 3) ak)) (dC (.int 0)))) (cP (dC (.bl false))) fR)
 (aI (kX (kP aD "exchange" lE (ae 0) (af (ae 1) (af (aw bI (ae 3) (dC (.int 0))) ak))))
 (aI (gn (cu (aw tx (aw bI (aw bI (fi aD "body" (ae 0)) (ae 1)) (ae 2)) (dC (.int 0)))) (kX (kP aD "change_sign" jA (ae 0) (af (ae 1) ak))) fR)
 (cP (dC (.bl true))))))))
def Bo.Mv{n0:Nat}{st st':ag}{b xb xu xc:Nat}(h:Bo n0 st st' b xb xu xc):Bo n0 st (st'.set 0 (ix true)) b xb xu xc:=
 ⟨h.lo,λ m hm h0=>by rw[RB (RO h0)];exact h.fr m hm h0,true,by
  obtain⟨f,e⟩:=h.tb;exact RK (Rx.mp e).1⟩
def Bo.low{n0:Nat}{st st1 st2:ag}{b xb xu xc:Nat}(h:Bo n0 st st1 b xb xu xc)(f:∀m,m≠xb->m≠xu->m≠xc->st2[m]?=st1[m]?):Bo n0 st st2 b xb xu xc:=by
 obtain⟨l1,l2,l3,l4,l5⟩:=h.lo;refine⟨h.lo,λ m hm h0=>?_,?_⟩
 . rw[f m (by omega) (by omega) (by omega)];exact h.fr m hm h0
 . obtain⟨z,e⟩:=h.tb;exact⟨z,by rw[f 0 (by omega) (by omega) (by omega)];exact e⟩
def x9{X:List (List Int)}{N w top m i:Nat}(hX:Mx.bK N w X)(h:Mx.h_ X N top m)(hi:top<=i)(hN:i<N):∀x∈X.getD i [],x.natAbs<=m:=λ x hx=>by
 obtain⟨c,hc,rfl⟩:=RQ.mp hx;have:=h i c hi hN;unfold Mx.g at this;rwa [Mx.ax hc]at this
def By{n j:Nat}(h:1<=j)(h2:j<=n):lV n (-(j:Int))=some (n-j):=by
 unfold lV;rw[RE (by omega),RF (by omega)];congr 1;omega
def Oc{L:List Nat}{j k:Nat}:fP ((L++[j,k]).map λ(k:Nat)=>D.int (k:Int)) (-1)=some (.int (k:Int)):=by
 unfold fP;have:=By (n:=((L++[j,k]).map λ(k:Nat)=>D.int (k:Int)).length) (j:=1) (by decide) (by simp);rw[show(-((1:Nat):Int))= -1 from rfl]at this;rw[this];simp
def OR{L:List Nat}{j k:Nat}:fP ((L++[j,k]).map λ(k:Nat)=>D.int (k:Int)) (-2)=some (.int (j:Int)):=by
 unfold fP;have:=By (n:=((L++[j,k]).map λ(k:Nat)=>D.int (k:Int)).length) (j:=2) (by decide) (by simp);rw[show(-((2:Nat):Int))= -2 from rfl]at this;rw[this];simp
def G9:∀ {L:List Nat},1<L.length->∃M j k,L=M++[j,k]:=λ{L} h=>by
 refine⟨L.take (L.length-2),L[L.length-2]'(by omega),L[L.length-1]'(by omega),?_⟩;have e1:L=L.take (L.length-2)++L.drop (L.length-2):=(WU _ _).symm
 have e2:L.drop (L.length-2)=[L[L.length-2]'(by omega),L[L.length-1]'(by omega)]:=by
  rw[SQ (by omega),SQ (by omega),Tv (by omega)];congr 2;congr 1;omega
 rw[<-e2];exact e1
def wD:Rv m5 3 xM j9:=by
 rintro ds st K ⟨n0,b,xb,xu,xc,N,w,top,p,e,u,A0,A,U,C,ld,rfl,B,O,S,hN,hw,hp,hz,kf,kt⟩;refine⟨rfl,?_⟩;have hle:=S.le;obtain⟨f,h0⟩:=O.tb;refine l9 B.eb rfl ?_;refine⟨b,xb,xu,xc,N,w,top,p,A,U,C,f,rfl,B,S.tn.isA,hle,hN,hp,hw,h0,λ L hL=>?_⟩;have B1:=B.tab h0 (ix true);have O1:=O.Mv;try dsimp only[ak]
 refine ny (λ σ st'=>∃(L:List Nat) (v4 v5:Option D) (c:Mx.B3) (gr:Nat),σ=[some (.ref b),some (.int top),some (.int p),some (.lst (L.map λ(k:Nat)=> .int (k:Int))),v4,v5]/\L.length<=1/\Bn st' b xb xu xc c.A c.U c.C/\Bo n0 st st' b xb xu xc/\Mx.fU N top p ⟨A,U,C⟩ c/\Mx.rm A0 N w top p (2^e) ⟨A,U,C⟩ c gr/\Mx.iq c.A N top p L) (λ nx hnx=>?_) ?_
 . refine⟨λ m σ st'=>∃(L:List Nat) (v4 v5:Option D) (c:Mx.B3) (gr:Nat),σ=[some (.ref b),some (.int top),some (.int p),some (.lst (L.map λ(k:Nat)=> .int (k:Int))),v4,v5]/\Bn st' b xb xu xc c.A c.U c.C/\Bo n0 st st' b xb xu xc/\Mx.fU N top p ⟨A,U,C⟩ c/\Mx.rm A0 N w top p (2^e) ⟨A,U,C⟩ c gr/\Mx.iq c.A N top p L/\m=Mx.mu c.A N p,⟨_,L,none,none,⟨A,U,C⟩,1,rfl,B1,O1,.refl _,S.Gj,hL,rfl⟩,?_⟩;rintro m σ st1 ⟨L,v4,v5,c,gr,rfl,B,O,hR,hG,hL,rfl⟩;refine d6 rfl ?_;rw[Rw];refine MW (λ h=>ik ?_) λ h=>xy (hnx _ _ ⟨L,v4,v5,c,gr,rfl,by omega,B,O,hR,hG,hL⟩);obtain⟨M,j,k,rfl⟩:=G9 (L:=L) (by omega);refine mr (aM rfl Oc (mr (aM rfl OR ?_)));obtain⟨G2,hlt,hoth,k1,k2,j1,j2,hjk,hj0⟩:=hG.step hp hL;have T:=hG.tn;have lA:=T.isA.len;have hlow:=G2.low S.lo.1;refine l9 B.eb rfl (df B.eb rfl (aM (aJ B.e1) (fe (by omega)) (aM rfl (pR (by rw[Mx.dE T.isA k2];exact hp)) (df B.eb rfl (aM (aJ B.e1) (fe (by omega)) (aM rfl (pR (by rw[Mx.dE T.isA j2];exact hp)) ?_))))));refine⟨_,_,rfl,hj0,?_⟩
   have hq:(Mx.qn (Mx.g c.A k p) (Mx.g c.A j p)).natAbs<=2^((N-top+1)*(e+1)):=by
    refine RD ?_ hlow;have a1:=hG.pos;have a2:1<=2^e:=Va;have a3:1*(Mx.qn (Mx.g c.A k p) (Mx.g c.A j p)).natAbs<=gr*(1+(Mx.qn (Mx.g c.A k p) (Mx.g c.A j p)).natAbs):=Sq a1 (by omega);have a4:=Sq a2 a3;omega
   have hx:2^e*gr<=2^((N-top+1)*(e+1)):=hG.low S.lo.1
   have hm:∀ {x:Int},x.natAbs<=2^e*gr->IntMulOk (Mx.qn (Mx.g c.A k p) (Mx.g c.A j p)) x/\IntMulOk (-(Mx.qn (Mx.g c.A k p) (Mx.g c.A j p))) x:=λ{x} h=>
    ⟨gN hq (RD h hx) (by omega),gN (by rw[Ue];exact hq) (RD h hx) (by omega)⟩
   refine⟨b,xb,xu,xc,N,w,k,j,c.A,c.U,c.C,_,rfl,B,T.isA,T.eP,T.gb,k2,j2,hN,hw,λ x hx=>(hm (x9 T.isA hG.lA j1 j2 x hx)).2,λ x hx=>(hm (x9 T.eP hG.lU j1 j2 x hx)).2,λ x hx=>(hm (x9 T.gb hG.lC k1 k2 x hx)).1,λ st2 B2 l2 f2=>?_⟩;have O2:=O.low f2;obtain⟨f',h0'⟩:=O2.tb;refine l9 B2.eb rfl ?_;refine⟨b,xb,xu,xc,N,w,top,p,_,_,_,f',rfl,B2,G2.tn.isA,hle,hN,hp,hw,h0',λ L2 hL2=>?_⟩;refine⟨_,?_,L2,_,_,Mx.mD c p k j,_,rfl,B2.tab h0' (ix true),O2.Mv,hR.tail ⟨M,k,j,hL,rfl⟩,G2,hL2,rfl⟩;unfold Mx.mu;refine Mx.Io (k:=k) hlt k2 λ i hi=>?_;by_cases h:i=k
   . rw[h];exact Ta hlt
   . rw[hoth i h];exact Ry _
 . rintro σ st1 ⟨L,v4,v5,c,gr,rfl,hl,B,O,hR,hG,hL⟩;refine d6 rfl ?_;rw[Rw];match L,hl,hL with
   | [],_,hL=>
     refine eq2 (λ h=>ik ?_) λ h=>absurd rfl h
     have e0:c=⟨A,U,C⟩:=by
      rcases hG.Ow with z|⟨j,h1,h2,h3⟩
      . exact z
      . exact absurd ((hL.mem j).mpr ⟨h1,h2,h3⟩) (by simp)
     subst e0;exact kf st1 B O hL
   | [r],_,hL=>
     refine eq2 (λ h=>absurd h (by simp)) λ h=>xy ?_;obtain⟨s1,hr1,hr2⟩:=hG.set hL;have ht:top<N:=by omega
     have T:=hG.tn
     have s2:Mx.lB A0 N w top p (2^((N-top+1)*(e+1))) ⟨A,U,C⟩ (Mx.setB c p top r):=by
      have hlow:=hG.low S.lo.1;exact⟨s1.tn,s1.up,⟨λ i q h1 h2=>RD (s1.lo.1 i q h1 h2) hlow,λ i q h1 h2=>RD (s1.lo.2.1 i q h1 h2) hlow,λ i q h1 h2=>RD (s1.lo.2.2 i q h1 h2) hlow⟩,s1.zs,s1.tp,s1.z1⟩
     refine l9 B.eb rfl (aM rfl (show fP ([r].map λ(k:Nat)=>D.int (k:Int)) 0=some (.int (r:Int))from rfl) ?_);refine⟨b,xb,xu,xc,N,w,top,r,c.A,c.U,c.C,rfl,B,T.isA,T.eP,T.gb,ht,hr2,λ st2 B2 l2 f2=>?_⟩;obtain⟨l1,l2',l3,l4,l5⟩:=O.lo
     have hst:n0<=st1.length:=by
      have:=(Rx.mp B.eb).1;omega
     have O2:Bo n0 st st2 b st1.length (st1.length+1) (st1.length+2):=by
      refine⟨⟨l1,l2',by omega,by omega,by omega⟩,λ m hm h0=>?_,?_⟩
      . rw[f2 m (by omega) (by omega)];exact O.fr m hm h0
      . obtain⟨z,e⟩:=O.tb;exact⟨z,by rw[f2 0 (by omega) (by omega)];exact e⟩
     have T1:=T.Ja ht hr2;refine df B2.eb rfl (aM (aJ B2.e1) (fe (by have:=T1.isA.len;omega)) (aM rfl (pR (by rw[Mx.dE T1.isA ht];exact hp)) ?_));refine CI (λ h=>ik ?_) λ h=>xy ?_
     . have es:Mx.setB c p top r=⟨Mx.ia (Mx.cv c.A top r) top,Mx.ia (Mx.cv c.U top r) top,Mx.ia (Mx.cv c.C top r) top⟩:=RF h;refine l9 B2.eb rfl ?_;refine⟨b,_,_,_,N,w,top,_,_,_,rfl,B2,T1.isA,T1.eP,T1.gb,ht,hN,hw,λ st3 B3 l3 f3=>?_⟩;exact kt st3 _ _ _ c r (by rw[es];exact B3) (O2.low f3) hR hL ht s2
     . have es:Mx.setB c p top r=⟨Mx.cv c.A top r,Mx.cv c.U top r,Mx.cv c.C top r⟩:=RE (λ z=>by unfold Mx.g at z;omega);exact kt st2 _ _ _ c r (by rw[es];exact B2) O2 hR hL ht s2
def jx:c_:=λ ds st K=>∃(b xb xu xc N w top p e u:Nat) (A0 A U C:List (List Int)),ds=[.ref b,.int top,.int p]/\Bn st b xb xu xc A U C/\Mx.Tn A0 A U C N w/\N<=8/\w<=9/\p<w/\top<N/\0<Mx.g A top p/\(∀q,q<p->Mx.g A top q=0)/\
 (∀q,(Mx.g A top q).natAbs<=2^e/\(Mx.g U top q).natAbs<=2^e/\(Mx.g C top q).natAbs<=2^e)/\(∀i q,i<top->(Mx.g A i q).natAbs<=2^u/\(Mx.g U i q).natAbs<=2^u/\(Mx.g C i q).natAbs<=2^u)/\e<=60000000/\u<=60000000/\
 ∀st',Bn st' b xb xu xc (Mx.m_ p top top ⟨A,U,C⟩).A (Mx.m_ p top top ⟨A,U,C⟩).U (Mx.m_ p top top ⟨A,U,C⟩).C->(∀m,m≠xb->m≠xu->m≠xc->st'[m]?=st[m]?)->Mx.sS A0 N w top p e u ⟨A,U,C⟩ top (Mx.m_ p top top ⟨A,U,C⟩)->K .aF st'
def gJ:List Str:=["self","top","place","k"]
def tF:DS:=(kH (dF (af (ae 1) ak)) (aQ 3) (kX (kP aD "take" mJ (ae 0) (af (ae 3) (af (aw jo (aw bI (aw bI (fi aD "body" (ae 0)) (ae 3)) (ae 2)) (aw bI (aw bI (fi aD "body" (ae 0)) (ae 1)) (ae 2))) (af (ae 1) ak))))))
def En{X:List (List Int)}{i:Nat}{x:Int}(hx:x∈X.getD i []):∃q,x=Mx.g X i q:=by
 obtain⟨c,hc,rfl⟩:=RQ.mp hx;exact⟨c,by unfold Mx.g;rw[Mx.ax hc]⟩
def sq:Rv jx 3 tF gJ:=by
 rintro ds st K ⟨b,xb,xu,xc,N,w,top,p,e,u,A0,A,U,C,rfl,B,T,hN,hw,hp,ht,htp,hz,hlo,hhi,he,hu,kk⟩;refine⟨rfl,?_⟩;refine eK ⟨by omega,by omega⟩ ?_;rw[R6];refine lZ top (λ k σ st'=>∃v3:Option D,σ=[some (.ref b),some (.int top),some (.int p),v3]/\Bn st' b xb xu xc (Mx.m_ p top k ⟨A,U,C⟩).A (Mx.m_ p top k ⟨A,U,C⟩).U (Mx.m_ p top k ⟨A,U,C⟩).C/\(∀m,m≠xb->m≠xu->m≠xc->st'[m]?=st[m]?)/\Mx.sS A0 N w top p e u ⟨A,U,C⟩ k (Mx.m_ p top k ⟨A,U,C⟩)) ?_ ?_ ⟨none,rfl,B,λ _ _ _ _=>rfl,Mx.sS.start T λ q=>(hlo q).2.2⟩
 . rintro σ st' ⟨v3,rfl,B',f,I⟩;exact kk st' B' f I
 . rintro k σ st' rest hk ⟨v3,rfl,B',f,I⟩ next
   refine⟨_,rfl,?_⟩;have hs:=I.step hk ht hp htp hz (λ q=>⟨(hlo q).1,(hlo q).2.1⟩) hhi;generalize hc:Mx.m_ p top k ⟨A,U,C⟩=c at*;have lA:=I.tn.isA.len;have kN:k<N:=by omega
   have gA:∀i q,k<=i->Mx.g c.A i q=Mx.g A i q:=λ i q hi=>by unfold Mx.g;rw[(I.rA i hi).1]
   have gU:∀i q,k<=i->Mx.g c.U i q=Mx.g U i q:=λ i q hi=>by unfold Mx.g;rw[(I.rA i hi).2]
   have gC:∀i q,i≠top->Mx.g c.C i q=Mx.g C i q:=λ i q hi=>by unfold Mx.g;rw[I.rC i hi]
   have hq:((Mx.g c.A k p).fdiv (Mx.g c.A top p)).natAbs<=2^u:=by
    rw[gA k p (Ry _),gA top p (by omega)];exact RD (Mx.iV _ htp) (hhi k p hk).1
   have htp':Mx.g c.A top p≠0:=by rw[gA top p (by omega)];omega
   refine l9 B'.eb rfl (df B'.eb rfl (aM (aJ B'.e1) (fe (by omega)) (aM rfl (pR (by rw[Mx.dE I.tn.isA kN];exact hp)) (df B'.eb rfl (aM (aJ B'.e1) (fe (by omega)) (aM rfl (pR (by rw[Mx.dE I.tn.isA ht];exact hp)) (nB htp' ?_)))))));refine⟨b,xb,xu,xc,N,w,k,top,c.A,c.U,c.C,_,rfl,B',I.tn.isA,I.tn.eP,I.tn.gb,kN,ht,hN,hw,λ x hx=>?_,λ x hx=>?_,λ x hx=>?_,λ st2 B2 l2 f2=>?_⟩
   . obtain⟨q,rfl⟩:=En hx;rw[gA top q (by omega)];exact gN (by rw[Ue];exact hq) (hlo q).1 (by omega)
   . obtain⟨q,rfl⟩:=En hx;rw[gU top q (by omega)];exact gN (by rw[Ue];exact hq) (hlo q).2.1 (by omega)
   . obtain⟨q,rfl⟩:=En hx;rw[gC k q (by omega)];exact gN hq (hhi k q hk).2.2 (by omega)
   . have el:Mx.m_ p top (k+1) ⟨A,U,C⟩=⟨Mx.bJ c.A k ((Mx.g c.A k p).fdiv (Mx.g c.A top p)) top,Mx.bJ c.U k ((Mx.g c.A k p).fdiv (Mx.g c.A top p)) top,Mx.bJ c.C top (-((Mx.g c.A k p).fdiv (Mx.g c.A top p))) k⟩:=by rw[<-hc];rfl
     refine next _ _ ⟨_,rfl,?_,λ m h1 h2 h3=>(f2 m h1 h2 h3).trans (f m h1 h2 h3),?_⟩
     . rw[el];exact B2
     . rw[el];exact hs
structure Bk(st st':ag):Prop where
 le:st.length<=st'.length
 fr:∀m,m<st.length->m≠0->st'[m]?=st[m]?
 tb:∃f,st'[0]?=some (ix f)
def o4:c_:=λ ds st K=>∃(d:D) (N w e0:Nat) (A:List (List Int)) (f:Bool),ds=[d]/\g6 st d A/\Mx.bK N w A/\1<=N/\N<=8/\w<=9/\Mx.h_ A N 0 (2^e0)/\(∀t,t<=N->Mx.Ez N e0 t<=50000000/\Mx.Vz N e0 t<=60000000)/\st[0]?=some (ix f)/\
 ∀st' (top:Nat) (c:Mx.B3) (ld:Nat->Nat),Mx.kK A N w top c->Mx.gX A N w c top w ld (Mx.Ez N e0 top) (Mx.Vz N e0 top)->Bk st st'->K (.tup [cW (c.A.take top),cW c.U,cW (Mx.cF c.C N)]) st'
def o5:List Str:=["rows","bench","top","place","back"]
def Du:DS:=(aI (bc 1 (Dv aD lb (af (ae 0) ak)))
 (aI (bc 2 (dC (.int 0)))
 (aI (kH (dF (af (bV fJ (af (aw bI (ae 0) (dC (.int 0))) ak)) ak)) (aQ 3) (gn (cu (kP aD "gather" m5 (ae 1) (af (ae 2) (af (ae 3) ak)))) (aI (kX (kP aD "lower_above" jx (ae 1) (af (ae 2) (af (ae 3) ak))))
 (DL 2 (Bd (λ i j=>i+j)) (dC (.int 1)))) fR))
 (aI (bc 4 (aK k9 (af (fi aD "back_columns" (ae 1)) (af (bV fJ (af (ae 0) ak)) ak))))
 (cP (mF (af (aK qf (af (jU (fi aD "body" (ae 1)) iI (mY (ae 2))) ak)) (af (aK qf (af (fi aD "turn" (ae 1)) ak)) (af (ae 4) ak)))))))))
def uw{st st':ag}{f:Bool}(h0:st[0]?=some (ix f))(fr:∀m,m<st.length->m≠0->st'[m]?=st[m]?){d:D}{xs:List D}(h:items? st d=some xs):items? st' d=some xs:=by
 cases d with
 |ref n=>
  have e:=uv h;have n0:n≠0:=uJ e h0;rw[aJ ((fr n (Rx.mp e).1 n0).trans e)]
 |_=>exact h
def yE{st st':ag}{f:Bool}(h0:st[0]?=some (ix f))(fr:∀m,m<st.length->m≠0->st'[m]?=st[m]?):∀ {ds:List D} {A:List (List Int)},cq st ds A->cq st' ds A
 | [],[],_=>trivial
 |_::_,_::_,h=>⟨uw h0 fr h.1,yE h0 fr h.2⟩
def xr{st st':ag}{f:Bool}(h0:st[0]?=some (ix f))(fr:∀m,m<st.length->m≠0->st'[m]?=st[m]?){d:D}{A:List (List Int)}(h:g6 st d A):g6 st' d A:=by
 obtain⟨ds,h1,h2⟩:=h.ex;exact⟨ds,uw h0 fr h1,yE h0 fr h2⟩
def rL{xs:List D}{j:Nat}:L3.cutD xs none (some (j:Int))=xs.take j:=by
 unfold L3.cutD;rw[HT.Dc,HT.Bu,List.drop_zero,Nat.sub_zero];by_cases h:j<=xs.length
 . rw[VM h]
 . rw[Nat.min_eq_right (by omega),List.take_length,Vq (by omega)]
def BY:Rv o4 1 Du o5:=by
 rintro ds st K ⟨d,N,w,e0,A,f,rfl,hd,hA,hN1,hN,hw,hlo,hsz,h0,kk⟩;refine⟨rfl,?_⟩;have lA:=hA.len;have h0l:0<st.length:=(Rx.mp h0).1;have hd1:g6 (st++[Cell.ins aD []]) d A:=xr h0 (λ m hm _=>RH hm) hd;refine⟨st.length,N,d,A,rfl,by simp,hd1,lA,hN,λ st1 B1 l1 f1=>⟨rfl,?_⟩⟩;have hl1:(st++[Cell.ins aD []]).length=st.length+1:=by simp
 have fr1:∀m,m<st.length->st1[m]?=st[m]?:=λ m hm=>by rw[f1 m (by omega) (by omega),RH hm]
 have O1:Bo st.length st st1 st.length (st.length+1) (st.length+1+1) (st.length+1+2):=⟨⟨h0l,by omega,by omega,by omega,by omega⟩,λ m hm _=>fr1 m hm,f,(fr1 0 h0l).trans h0⟩
 rw[hl1]at B1;have hdk:∀ {st':ag},(∀m,m<st.length->m≠0->st'[m]?=st[m]?)->g6 st' d A:=λ h=>xr h0 h hd;obtain⟨da,hda,hra⟩:=(hdk O1.fr).ex;have hdl:=hra.len
 have hrow0:∃d0,da[0]?=some d0/\items? st1 d0=some (ay (A.getD 0 [])):=by
  have hi:0<da.length:=by omega
  obtain⟨r,e1,e2⟩:=cq.get hra (RJ hi);refine⟨da[0],RJ hi,?_⟩;have:A.getD 0 []=r:=by rw[RC,e1];rfl
  rw[this];exact e2
 obtain⟨d0,hd0,hi0⟩:=hrow0;have er:(ay (A.getD 0 [])).length=w:=by unfold ay;rw[Rw];exact Mx.dE hA (by omega)
 try dsimp only[ak]
 refine ny (A:=bc 2 _) (λ σ st'=>σ=[some d,some (.ref st.length),some (.int 0),none,none]/\st'=st1) (λ nx h=>h _ _ ⟨rfl,rfl⟩) ?_;rintro _ _ ⟨rfl,rfl⟩;refine ny (A:=kH _ _ _) (λ σ st'=>∃(top xb xu xc:Nat) (v3:Option D) (c:Mx.B3) (ld:Nat->Nat),σ=[some d,some (.ref st.length),some (.int top),v3,none]/\Bn st' st.length xb xu xc c.A c.U c.C/\Bo st.length st st' st.length xb xu xc/\Mx.kK A N w top c/\Mx.gX A N w c top w ld (Mx.Ez N e0 top) (Mx.Vz N e0 top)) (λ nx hnx=>?_) ?_
 . refine aM hda (show fP da 0=some d0 from j7 (j:=0) hd0) (d6 hi0 ?_);rw[er];refine eK ⟨by omega,by omega⟩ ?_;rw[R6];refine lZ w (λ p σ st'=>∃(top xb xu xc:Nat) (v3:Option D) (c:Mx.B3) (ld:Nat->Nat),σ=[some d,some (.ref st.length),some (.int top),v3,none]/\Bn st' st.length xb xu xc c.A c.U c.C/\Bo st.length st st' st.length xb xu xc/\Mx.kK A N p top c/\Mx.gX A N w c top p ld (Mx.Ez N e0 top) (Mx.Vz N e0 top)) ?_ ?_ ⟨0,_,_,_,none,⟨A,Mx.units N,Mx.units N⟩,λ _=>0,rfl,B1,O1,.start,Mx.gX.start hA hlo⟩
   . rintro σ st' ⟨top,xb,xu,xc,v3,c,ld,rfl,B,O,hC,S⟩;exact hnx _ _ ⟨top,xb,xu,xc,v3,c,ld,rfl,B,O,hC,S⟩
   . rintro p σ st' rest hp ⟨top,xb,xu,xc,v3,c,ld,rfl,B,O,hC,S⟩ next
     refine⟨_,rfl,?_⟩;have hle:=S.le
     have hz1:(N-top+1)*(Mx.Ez N e0 top+1)<=60000000:=by
      by_cases ht:top<N
      . exact RD (hsz (top+1) ht).1 (by decide)
      . have e:N-top=0:=by omega
        rw[e];have:=(hsz top hle).1;omega
     refine l9 B.eb rfl ?_;refine⟨st.length,st.length,xb,xu,xc,N,w,top,p,_,_,A,c.A,c.U,c.C,ld,rfl,B,⟨O.lo,λ _ _ _=>rfl,O.tb⟩,S,hN,hw,hp,hz1,λ st2 B2 O2 hL=>?_,λ st2 xb2 xu2 xc2 c2 r B2 O2 hR hL ht s1=>?_⟩
     . exact xy (next _ _ ⟨top,xb,xu,xc,_,c,ld,rfl,B2,⟨O2.lo,λ m h1 h2=>(O2.fr m h1 h2).trans (O.fr m h1 h2),O2.tb⟩,.next hC (.none hL),S.skip hL⟩)
     . refine ik ?_;have O2':Bo st.length st st2 st.length xb2 xu2 xc2:=⟨O2.lo,λ m h1 h2=>(O2.fr m h1 h2).trans (O.fr m h1 h2),O2.tb⟩
       have hup:∀i q,i<top->Mx.g (Mx.setB c2 p top r).A i q=Mx.g c.A i q/\Mx.g (Mx.setB c2 p top r).U i q=Mx.g c.U i q/\Mx.g (Mx.setB c2 p top r).C i q=Mx.g c.C i q:=λ i q hi=>by
        obtain⟨a1,a2,a3⟩:=s1.up i hi;unfold Mx.g;rw[a1,a2,a3];exact⟨rfl,rfl,rfl⟩
       refine l9 B2.eb rfl ?_;refine⟨st.length,xb2,xu2,xc2,N,w,top,p,Mx.Ez N e0 (top+1),Mx.Vz N e0 top,A,_,_,_,rfl,B2,s1.tn,hN,hw,hp,ht,s1.tp,λ q hq=>s1.zs top q (Ry _) ht hq,λ q=>⟨s1.lo.1 top q (Ry _) ht,s1.lo.2.1 top q (Ry _) ht,s1.lo.2.2 top q (Ry _) ht⟩,λ i q hi=>?_,RD (hsz (top+1) ht).1 (by decide),RD (hsz top hle).2 (by decide),λ st3 B3 f3 I=>?_⟩
       . obtain⟨a1,a2,a3⟩:=hup i q hi;rw[a1,a2,a3];exact S.hi i q hi
       . have hS:=Mx.lB.next (e':=Mx.Ez N e0 (top+1)) (u':=Mx.Vz N e0 (top+1)) S s1 ht I hN (by show _<=Mx.Vz N e0 top+Mx.Vz N e0 top+Mx.Ez N e0 (top+1)+5;omega) (by show _<=Mx.Vz N e0 top+Mx.Vz N e0 top+Mx.Ez N e0 (top+1)+5;omega);exact next _ _ ⟨top+1,xb2,xu2,xc2,_,_,_,rfl,B3,O2'.low f3,.next hC (.one hR hL),hS⟩
 . rintro σ st2 ⟨top,xb,xu,xc,v3,c,ld,rfl,B,O,hC,S⟩;have T:=S.tn;have lN:=T.isA.len;refine df B.eb rfl ?_;obtain⟨da2,hda2,hra2⟩:=(hdk O.fr).ex;refine d6 hda2 ?_;rw[hra2.len,lA];refine⟨_,c.C,N,rfl,⟨_,aJ B.e3,cq.lst⟩,T.gb.dh,by rw[T.gb.len];omega,by omega,?_⟩;refine df B.eb rfl (E7 B.e1 ?_);rw[rL,<-Vv];refine⟨_,c.A.take top,rfl,⟨_,rfl,cq.lst⟩,by rw[SG];omega,?_⟩;refine df B.eb rfl ?_;refine⟨_,c.U,rfl,⟨_,aJ B.e2,cq.lst⟩,by rw[T.eP.len];omega,?_⟩;refine⟨by show 3<=sizeLine;decide,?_⟩;refine kk st2 top c ld hC S ⟨?_,O.fr,O.tb⟩;have:=(Rx.mp B.eb).1;omega
structure Wg(F:List (List Int))(m w f:Nat):Prop where
 is:Mx.bK m w F
 st:Mx.bY F m w (Mx.dy F)
 m8:m<=8
 w8:w<=8
 sm:∀k c,k<m->c<w->(Mx.g F k c).natAbs<=2^f
abbrev Wf(F:List (List Int))(m w:Nat):Prop:=Wg F m w 887
def Wg.lead{F:List (List Int)}{m w f i:Nat}(h:Wg F m w f)(hi:i<m):Mx.dy F i<w/\0<Mx.g F i (Mx.dy F i)/\(F.getD i []).length=w/\oW (F.getD i [])= .int ((Mx.dy F i:Nat):Int):=by
 obtain⟨l1,l2,l3⟩:=h.st.lead i hi;refine⟨l1,l2,h.is.row hi,?_⟩;unfold oW;rw[zi l3 (UO l2)]
def Wg.row{F:List (List Int)}{m w f i:Nat}(h:Wg F m w f)(hi:i<m):∀x∈F.getD i [],x.natAbs<=2^f:=λ x hx=>by
 obtain⟨c,hc,rfl⟩:=RQ.mp hx;have hw:=h.is.row hi;have:=h.sm i c hi (by omega);unfold Mx.g at this;rwa [Mx.ax hc]at this
def ux{i:Nat}{σ:ck}{st:ag}{K:DK}{d:D}(h:σ[i]?=some (some d))(k:K d st):ae i σ st K:=by
 unfold ae;simp only[h];exact k
def qm:c_:=λ ds st K=>∃(dr:D) (F:List (List Int)) (r:List Int) (m w f:Nat),ds=[cW F,dr]/\Wg F m w f/\items? st dr=some (ay r)/\r.length=w/\(∀i,i<m->∀b∈F.getD i [],IntMulOk (-(Mx.qC F (Mx.d7 F r i) i)) b)/\∀st',Ext st st'->K (.tup [cf (Mx.oM F r m),cf (Mx.d7 F r m)]) st'
def qG:List Str:=["form","row","weights","left","each","lead","weight"]
def EJ:DS:=(aI (bc 2 (vY ak))
 (aI (bc 3 (bV iW (af (ae 1) ak)))
 (aI (kH (c5 (ae 0)) (aQ 4) (aI (bc 5 (aK qw (af (ae 4) ak)))
 (aI (bc 6 (aw jo (aw bI (ae 3) (ae 5)) (aw bI (ae 4) (ae 5))))
 (aI (kX (lK (ae 2) (ae 6)))
 (bc 3 (aK nq (af (ae 3) (af (td mn (ae 6)) (af (ae 4) ak)))))))))
 (cP (mF (af (bV dB (af (ae 2) ak)) (af (bV dB (af (ae 3) ak)) ak)))))))
def Dt:Rv qm 2 EJ qG:=by
 rintro ds st K ⟨dr,F,r,m,w,f,rfl,hW,hr,lr,hm,k⟩;refine⟨rfl,?_⟩;have lF:=hW.is.len;have m8:=hW.m8;have w8:=hW.w8;refine⟨RN rfl,?_⟩;have X0:Ext st (st++[.lst []]):=Ext.push;have e0:(st++[Cell.lst []])[st.length]?=some (.lst (ay [])):=by simp
 refine ip (X0.items hr) (fW ?_);refine ko (λ rest σ st'=>∃(i:Nat) (v4 v5 v6:Option D),i<=m/\rest=(F.map cf).drop i/\σ=[some (cW F),some dr,some (.ref st.length),some (av (Mx.d7 F r i)),v4,v5,v6]/\Ext st st'/\st'[st.length]?=some (.lst (ay (Mx.oM F r i)))) ?_ ?_ _ _ _ ⟨0,none,none,none,Sg _,rfl,rfl,X0,e0⟩
 . rintro σ st' ⟨i,v4,v5,v6,hi,hrest,rfl,X,ew⟩;have e1:i=m:=Wy hi (by rw[<-lF];exact drop_nil hrest);subst e1;exact⟨trivial,c8 (aJ ew) (c8 rfl ⟨RN rfl,k st' X⟩)⟩
 . rintro x rest σ st' ⟨i,v4,v5,v6,hi,hrest,rfl,X,ew⟩ next
   obtain⟨hiF,rfl,rfl⟩:=drop_cons hrest;have him:i<m:=by rw[<-lF];exact hiF
   obtain⟨l1,l2,wF,eld⟩:=hW.lead him;have lL:=Mx.l_ hW.is lr (i:=i) (Ta him);refine⟨trivial,_,rfl,_,F.getD i [],rfl,rfl,?_⟩;rw[eld];have at1:fP (ay (F.getD i [])) ((Mx.dy F i:Nat):Int)=some (.int (Mx.g F i (Mx.dy F i))):=eJ (by omega);have at2:fP (ay (Mx.d7 F r i)) ((Mx.dy F i:Nat):Int)=some (.int ((Mx.d7 F r i).getD (Mx.dy F i) 0)):=eJ (by omega);refine aM rfl at2 (aM rfl at1 (nB (by omega) ?_));show aI _ _ _ [_,_,_,_,_,_,some (.int (Mx.qC F (Mx.d7 F r i) i))] _;have lW:(Mx.oM F r i).length=i:=by unfold Mx.oM;simp
   refine wJ (by rfl) ew (ux rfl (u0 ew (by rw[TH,Rw,lW];omega) ?_));have hlt:=(Rx.mp ew).1;refine mr ?_;refine⟨_,_,_,Mx.d7 F r i,F.getD i [],rfl,rfl,rfl,by omega,hm i him,?_⟩;refine next _ _ ⟨i+1,_,_,_,him,rfl,rfl,X.set (Ry _),?_⟩
   rw[RK hlt,ints_app];congr 3;unfold Mx.oM;rw[UI,SY];rfl
def xO:c_:=λ ds st K=>∃(dr:D) (F:List (List Int)) (r:List Int) (m w f:Nat),ds=[cW F,dr]/\Wg F m w f/\items? st dr=some (ay r)/\r.length=w/\(∀i,i<m->∀b∈F.getD i [],IntMulOk (-(Mx.qC F (Mx.d7 F r i) i)) b)/\∀st',Ext st st'->K (cf (Mx.d7 F r m)) st'
def u3:List Str:=["form","row"]
def Kd:DS:=(cP (aw bI (aK qm (af (ae 0) (af (ae 1) ak))) (dC (.int 1))))
def Hv:Rv xO 2 Kd u3:=by
 rintro ds st K ⟨dr,F,r,m,w,f,rfl,hW,hr,lr,hm,k⟩;exact⟨rfl,dr,F,r,m,w,f,rfl,hW,hr,lr,hm,λ st' X=>aM rfl rfl (k st' X)⟩
def Gf(U:List (List Int))(m N:Nat)(G:List (List Int)):Prop:=(m<N/\∃t c,Mx.kK (U.drop m) (N-m) N t c/\G=c.A.take t)\/(¬m<N/\G=[])
def nh:c_:=λ ds st K=>∃(U:List (List Int)) (N m e1:Nat) (f:Bool),ds=[cW U,.int m]/\Mx.bK N N U/\m<=N/\N<=8/\Mx.h_ (U.drop m) (N-m) 0 (2^e1)/\(∀t,t<=N-m->Mx.Ez (N-m) e1 t<=50000000/\Mx.Vz (N-m) e1 t<=60000000)/\st[0]?=some (ix f)/\∀st' F m',Bk st st'->m'<=N-m->Wg F m' N (Mx.Uz (N-m) e1 m')->Mx.kJ F m' (Mx.dy F)->Mx.mB (U.drop m) (N-m) F m' N->Gf U m N F->K (cW F) st'
def j_:List Str:=["turn","many"]
def yq:DS:=(cP (Je (cu (aw tx (ae 1) (bV fJ (af (ae 0) ak)))) (aw bI (aK o4 (af (jU (ae 0) (mY (ae 1)) iI) ak)) (dC (.int 0))) (mF ak)))
def AY{xs:List D}{j:Nat}:L3.cutD xs (some (j:Int)) none=xs.drop j:=by
 unfold L3.cutD;rw[HT.Dc,HT.Bu];by_cases h:j<=xs.length
 . rw[VM h,Vq (by rw[SS];omega)]
 . rw[Nat.min_eq_right (by omega),WJ (Ry _),WJ (by omega)];simp
def Bk.ext{st st1 st2:ag}(B:Bk st st1)(X:Ext st1 st2):Bk st st2:=by
 have l1:=B.le;obtain⟨f,e⟩:=B.tb;have l0:=(Rx.mp e).1;exact⟨by have:=X.len;omega,λ m hm h0=>by rw[X.same m (by omega),B.fr m hm h0],f,by rw[X.same 0 l0];exact e⟩
def Nn:8*((9*2^48)^9*(9*2^48)^8)<=2^887:=by decide+kernel
def ft{A:List (List Int)}{t i c:Nat}(h:i<t):Mx.g (A.take t) i c=Mx.g A i c:=by
 have e:(A.take t).getD i []=A.getD i []:=by rw[RC,RC,List.getElem?_take,RF h]
 unfold Mx.g;rw[e]
def MT{A:List (List Int)}{N w top e u:Nat}{c:Mx.B3}{ld:Nat->Nat}(H:Mx.gX A N w c top w ld e u)(hA:Mx.bK N w A)(n8:N<=8)(w8:w<=8)(bA:∀r∈A,∀x∈r,x.natAbs<=2^48):Wf (c.A.take top) top w:=by
 have le:=H.le;have lA:=H.tn.isA.len
 have s:Mx.bY (c.A.take top) top w ld:=⟨λ i hi=>by
  obtain⟨h1,h2,h3⟩:=H.lead i hi;exact⟨h1,by rw[ft hi];exact h2,λ c hc=>by rw[ft hi];exact h3 c hc⟩,H.mono⟩
 have sm:=(H.small n8 (b:=2^48) (WH (by decide)) λ i c hi hc=>by
  have lN:=hA.len;have hr:=hA.row hi;unfold Mx.g;refine bA _ (by rw[Mx.ax (by omega)];exact R0 _) _ (getD_mem (by omega))).2
 exact⟨⟨by rw[SG];omega,λ r hr=>H.tn.isA.dh r (T8 hr)⟩,s.MN,by omega,w8,λ k q hk hq=>by rw[ft hk];exact RD (sm k q hk hq) Nn⟩
def xg:Rv nh 2 yq j_:=by
 rintro ds st K ⟨U,N,m,e1,f,rfl,iU,hm,n8,lo,sz,t0,k⟩;refine⟨rfl,?_⟩;refine d6 rfl ?_;rw[Rw,iU.len];refine CI (λ h=>ik ?_) λ h=>?_
 . refine qr ?_;rw[AY,<-List.map_drop];have iT:Mx.bK (N-m) N (U.drop m):=⟨by rw[SS,iU.len],λ r hr=>iU.dh r (UR hr)⟩
   refine⟨_,N-m,N,e1,U.drop m,f,rfl,jr,iT,by omega,by omega,by omega,lo,sz,t0,λ st1 top c ld hC H B=>aM rfl rfl ?_⟩;obtain⟨ld2,S2⟩:=hC.Qs iT lo (by omega) (Ry _);have le:=H.le;have lA:=H.tn.isA.len
   have s:Mx.bY (c.A.take top) top N ld:=⟨λ i hi=>by
    obtain⟨h1,h2,h3⟩:=H.lead i hi;exact⟨h1,by rw[ft hi];exact h2,λ c hc=>by rw[ft hi];exact h3 c hc⟩,H.mono⟩
   exact k st1 _ top B le ⟨⟨by rw[SG];omega,λ r hr=>H.tn.isA.dh r (T8 hr)⟩,s.MN,by omega,n8,λ k q hk _=>by rw[ft hk];exact(S2.hi k q hk).1⟩ (λ i j hij hj=>by rw[s.dy hj,ft (TF hij hj),ft hj];exact H.red i j hij hj) ⟨λ k hk=>by
    obtain⟨z,hz⟩:=H.out k hk;exact⟨z,λ q hq=>(hz q hq).trans (Mx.aq λ i hi=>by rw[ft hi])⟩,λ k hk=>(H.in k hk).eq λ q _=>ft hk⟩ (.inl ⟨by omega,top,c,hC,rfl⟩)
 . exact⟨Sg _,k st [] 0 ⟨Ry _,λ _ _ _=>rfl,f,t0⟩ (Sg _) ⟨⟨rfl,λ r hr=>by cases hr⟩,⟨λ i h=>absurd h (Sd _),λ i j _ h=>absurd h (Sd _)⟩,Sg _,n8,λ k c h=>absurd h (Sd _)⟩ (λ i j _ h=>absurd h (Sd _)) ⟨λ k h=>absurd h (by omega),λ k h=>absurd h (Sd _)⟩ (.inr ⟨by omega,rfl⟩)⟩
def CA(N e0 m:Nat):Nat:=if m=0 then 0 else Mx.Ez N e0 m
def Gk(N e0:Nat):Prop:=(∀t,t<N+1->Mx.Ez N e0 t<=50000000/\Mx.Vz N e0 t<=60000000)/\∀m,m<N+1->∀t,t<N-m+1->Mx.Ez (N-m) (CA N e0 m) t<=50000000/\Mx.Vz (N-m) (CA N e0 m) t<=60000000
structure MR(A:List (List Int))(N w:Nat)(r:List Int)(e0:Nat):Prop where
 is:Mx.bK N w A
 n1:1<=N
 n8:N<=8
 w8:w<=8
 bA:∀r∈A,∀x∈r,x.natAbs<=2^e0
 lr:r.length=w
 br:∀x∈r,x.natAbs<=2^70
 he:e0<=48
 sz:Gk N e0
structure M8(A:List (List Int))(N w:Nat)(r a:List Int)(F:List (List Int))(m f:Nat)(c:Mx.B3)(top:Nat):Prop where
 tn:Mx.Tn A c.A c.U c.C N w
 le:top<=N
 zs:∀i q,top<=i->i<N->q<w->Mx.g c.A i q=0
 wf:Wf (c.A.take top) top w
 rd:Mx.kJ (c.A.take top) top (Mx.dy (c.A.take top))
 bU:∀i q,i<N->(Mx.g c.U i q).natAbs<=2^60000000
 bC:∀i q,i<N->(Mx.g c.C i q).natAbs<=2^60000000
 wg:Wg F m N f
 red:Mx.kJ F m (Mx.dy F)
 mq:∀x,(∀q,q<w->(Mx.S N λ n=>x n*Mx.g A n q)=0)↔Mx.bL F m N x
 la:a.length=N
 sum:∀q,q<w->(Mx.S N λ n=>a.getD n 0*Mx.g A n q)=r.getD q 0
 Am:∀i,i<m->0<=a.getD (Mx.dy F i) 0/\a.getD (Mx.dy F i) 0<Mx.g F i (Mx.dy F i)
 rest:∀j,top<=j->j<N->Mx.bL F m N (Mx.g c.U j)
def Rj(A:List (List Int))(N w:Nat)(r:List Int)(y:D):Prop:=∃a F m f c top,M8 A N w r a F m f c top/\y= .tup [.str "told",cf a,cW F,cW c.U,cW (Mx.cF c.C N)]
structure IF(A:List (List Int))(N w:Nat)(r:List Int)(y:D):Prop where
 ex:∃top c,Mx.kK A N w top c/\∃G,Gf c.U top N G/\y= .tup [.str "told",cf (Mx.d7 G (Mx.fD (Mx.oM (c.A.take top) r top) (c.U.take top) (List.replicate N 0)) G.length),cW G,cW c.U,cW (Mx.cF c.C N)]
def Ih(A:List (List Int))(N w:Nat):Prop:=∀(G:List (List Int)) (m:Nat),m<=N->Mx.bY G m N (Mx.dy G)->Mx.kJ G m (Mx.dy G)->(∀x:Nat->Int,(∀q,q<w->(Mx.S N λ n=>x n*Mx.g A n q)=0)↔Mx.bL G m N x)->∀k c,k<m->c<N->(Mx.g G k c).natAbs<=2^1000
def l7:c_:=λ ds st K=>∃(d dr:D) (A:List (List Int)) (r:List Int) (N w e0:Nat) (f:Bool),ds=[d,dr]/\g6 st d (Mx.cF A w)/\items? st dr=some (ay r)/\MR A N w r e0/\1<=w/\Ih A N w/\(∃z:Nat->Int,∀q,q<w->(Mx.S N λ n=>z n*Mx.g A n q)=r.getD q 0)/\st[0]?=some (ix f)/\∀st' y,Bk st st'->Rj A N w r y->IF A N w r y->K y st'
def p_:List Str:=["rows","due","wide","told","form","turn","fallen","steps","answer"]
def F6:DS:=(aI (bc 2 (bV fJ (af (aw bI (ae 0) (dC (.int 0))) ak)))
 (aI (bc 3 (aK o4 (af (aK k9 (af (ae 0) (af (ae 2) ak))) ak)))
 (aI (bc 4 (aw bI (ae 3) (dC (.int 0))))
 (aI (bc 5 (aw bI (ae 3) (dC (.int 1))))
 (aI (bc 6 (aK qm (af (ae 4) (af (ae 1) ak))))
 (aI (gn (cu (aw uZ (aK qw (af (aw bI (ae 6) (dC (.int 1))) ak)) (dC .aF))) F9 fR)
 (aI (bc 7 (aK nh (af (ae 5) (af (bV fJ (af (ae 4) ak)) ak))))
 (aI (bc 8 (aK xO (af (ae 7) (af (aK vJ (af (aw bI (ae 6) (dC (.int 0))) (af (jU (ae 5) iI (mY (bV fJ (af (ae 4) ak)))) (af (ae 2) ak)))) ak))))
 (cP (mF (af (dC (.str "told")) (af (ae 8) (af (ae 7) (af (ae 5) (af (aw bI (ae 3) (dC (.int 2))) ak)))))))))))))))
def yJ:∀(r:List Int) (i l:Nat),gK r i=some l->∃k,l=i+k/\k<r.length/\r.getD k 0≠0/\∀c,c<k->r.getD c 0=0
 | [],_,_,h=>by cases h
 |x::r,i,l,h=>by
  unfold gK at h;split at h
  . rename_i hx;obtain⟨k,e,hk,hr,hz⟩:=yJ r (i+1) l h;refine⟨k+1,by omega,Wq hk,hr,λ c hc=>?_⟩;cases c with
    |zero=>exact hx
    |succ c=>exact hz c (Nat.lt_of_succ_lt_succ hc)
  . cases h;exact⟨0,rfl,Nat.succ_pos _,by assumption,λ c hc=>absurd hc (Sd _)⟩
def BZ{r:List Int}{l:Nat}(h:mz r=some l):l<r.length/\r.getD l 0≠0/\∀c,c<l->r.getD c 0=0:=by
 obtain⟨k,e,h1,h2,h3⟩:=yJ r 0 l h;rw[U_]at e;subst e;exact⟨h1,h2,h3⟩
def xV{A:List (List Int)}{N w:Nat}(hA:Mx.bK N w A):Mx.cF (Mx.cF A w) N=A:=
 (Mx.jV (Mx.jV hA)).ext hA λ i j hi hj=>by rw[Mx.ji (Mx.jV hA) hj hi,Mx.ji hA hi hj]
def Jv{F:List (List Int)}{r:List Int}{m w e f:Nat}(hW:Wg F m w f)(lr:r.length=w)(br:∀c,c<w->(r.getD c 0).natAbs<=2^e)(he:e+m*(f+1)<=130000000):∀i,i<m->∀b∈F.getD i [],IntMulOk (-(Mx.qC F (Mx.d7 F r i) i)) b:=λ i hi b hb=>by
 obtain⟨l1,l2,_⟩:=hW.lead hi;have bx:=Mx.rl hW.is lr hW.st hW.sm br (Ta hi) _ l1;have bq:(Mx.qC F (Mx.d7 F r i) i).natAbs<=2^(e+i*(f+1)):=RD (Mx.iV _ l2) bx;have h1:(i+1)*(f+1)<=m*(f+1):=S8 _ hi;rw[We]at h1;exact gN (by rw[Ue];exact bq) (hW.row hi b hb) (by omega)
def D4:Rv l7 2 F6 p_:=by
 rintro ds st K ⟨d,dr,A,r,N,w,e0,f,rfl,hd,hr,⟨hA,n1,n8,w8,bA,lr,br,he0,sz⟩,w1,hbd,hsol,h0,k⟩;refine⟨rfl,?_⟩;have iT:=Mx.jV hA;have lT:=iT.len;obtain⟨da,hda,ra⟩:=hd.ex;obtain⟨e9,ee9,he9⟩:=ra.at (k:=0) (by omega);refine aM hda ee9 (d6 he9 ?_);rw[Rw,iT.row (i:=0) w1];refine⟨_,Mx.cF A w,N,rfl,hd,iT.dh,by omega,by omega,?_⟩;rw[xV hA]
 have lo28:Mx.h_ A N 0 (2^e0):=λ i c _ hi=>by
  have lA:=hA.len;unfold Mx.g;by_cases hc:c<(A.getD i []).length
  . exact bA _ (by rw[Mx.ax (by omega)];exact R0 _) _ (getD_mem hc)
  . rw[Mx.jv (by omega)];exact Sg _
 refine⟨_,N,w,e0,A,f,rfl,jr,hA,n1,n8,by omega,lo28,λ t ht=>sz.1 t (by omega),h0,λ st1 top c ld hC H B=>?_⟩;have hW:=MT H hA n8 w8 λ r hr x hx=>RD (bA r hr x hx) (R9 (by decide) he0);have lF:=hW.is.len;have hgF:∀i q,i<top->Mx.g (c.A.take top) i q=Mx.g c.A i q:=λ i q hi=>ft hi;have t8:=hW.m8;have le:=H.le;have hW0:=hW
 have hrd:Mx.kJ (c.A.take top) top (Mx.dy (c.A.take top)):=λ i j hij hj=>by
  have s:Mx.bY (c.A.take top) top w ld:=⟨λ i hi=>by
   obtain⟨h1,h2,h3⟩:=H.lead i hi;exact⟨h1,by rw[ft hi];exact h2,λ c hc=>by rw[ft hi];exact h3 c hc⟩,H.mono⟩
  rw[s.dy hj,ft (TF hij hj),ft hj];exact H.red i j hij hj
 generalize hF:c.A.take top=F at hW lF hgF;have br':∀c,c<w->(r.getD c 0).natAbs<=2^70:=λ c hc=>br _ (getD_mem (by omega));refine aM rfl rfl (aM rfl rfl ?_);refine⟨dr,F,r,top,w,887,rfl,hW,uw h0 B.fr hr,lr,Jv hW lr br' (by omega),λ st2 X=>?_⟩;have B2:=B.ext X;have lR:=Mx.l_ hW.is lr (Ry top);have Am:=Mx.u_ hW.is lr hW.st (Ry top);have sm:=Mx.Cu hW.is lr (Ry top);have ab:=Mx.rl hW.is lr hW.st hW.sm br' (Ry top);refine aM rfl rfl ⟨_,Mx.d7 F r top,rfl,rfl,?_⟩;cases el:mz (Mx.d7 F r top)with
 |some l=>
  obtain⟨hl,hne,hz⟩:=BZ el;rw[lR]at hl;obtain⟨z,hz0⟩:=hsol;have rA:Mx.bL A N w (λ c=>r.getD c 0):=⟨z,λ c hc=>(hz0 c hc).symm⟩
  have rF:Mx.bL F top w (λ c=>r.getD c 0):=Mx.bL.trans (λ n hn=>⟨λ k=>Mx.g c.C k n,λ q hq=>by
   rw[H.back hn hq];exact Mx.aq λ k hk=>by rw[hgF k q hk]⟩) rA
  have v:Mx.bL F top w (λ c=>(Mx.d7 F r top).getD c 0):=(rF.sub Am.sum).eq λ c _=>by omega
  exact(hne (hW.st.Iw v (λ k hk=>by obtain⟨x1,x2⟩:=Am.red k hk;omega) l hl)).elim
 |none=>
  have eD:oW (Mx.d7 F r top)= .aF:=by unfold oW;rw[el]
  rw[eD];refine w6 rfl ?_;obtain⟨f2,t2⟩:=B2.tb;have lU:=H.tn.eP.len;refine d6 rfl ?_;rw[Rw,lF]
  have e1lo:∀j q,top<=j->j<N->(Mx.g c.U j q).natAbs<=2^CA N e0 top:=λ j q h1 h2=>by
   unfold CA;by_cases h:top=0
   . rw[RF h,hC.Qd h];show(Mx.g (Mx.units N) j q).natAbs<=1;by_cases hq:q<N
     . rw[Mx.fN h2 hq];unfold Mx.dl;split<;>decide
     . unfold Mx.g;rw[Mx.jv (by rw[(Mx.iP N).row h2];omega)];decide
   . rw[RE h];exact H.lo.2.1 j q h1 h2
  refine⟨c.U,N,top,CA N e0 top,f2,rfl,H.tn.eP,le,n8,λ i q _ hi=>by rw[Mx.rQ];exact e1lo (top+i) q (by omega) (by omega),λ t ht=>sz.2 top (by omega) t (by omega),t2,λ st3 G m B3 hm hG hred hSame hGf=>?_⟩;have B3':Bk st st3:=⟨RD B2.le B3.le,λ m hm h0=>(B3.fr m (RW hm B2.le) h0).trans (B2.fr m hm h0),B3.tb⟩
  refine aM rfl rfl (d6 rfl (qr ?_));rw[Rw,lF,rL,<-Vv];have lw:(Mx.oM F r top).length=top:=by unfold Mx.oM;simp
  have wat:∀j,j<top->(Mx.oM F r top).getD j 0=Mx.qC F (Mx.d7 F r j) j:=λ j hj=>by
   unfold Mx.oM;rw[Mx.ax (by simpa using hj),Th,List.getElem_range]
  obtain⟨szE,szV⟩:=sz.1 top (by omega)
  have bw:∀j,j<top->((Mx.oM F r top).getD j 0).natAbs<=2^(70+j*(887+1)):=λ j hj=>by
   rw[wat j hj];obtain⟨l1,l2,_⟩:=hW.lead hj;exact RD (Mx.iV _ l2) (Mx.rl hW.is lr hW.st hW.sm br' (Ta hj) _ l1)
  have bu:∀i p,i<top->(Mx.g (c.U.take top) i p).natAbs<=2^Mx.Vz N e0 top:=λ i p hi=>by
   rw[ft hi];exact(H.hi i p hi).2.1
  have wU:∀q∈c.U.take top,q.length=N:=λ q hq=>H.tn.eP.dh q (T8 hq);have lUt:(c.U.take top).length=top:=by rw[SG];omega
  refine⟨_,_,N,Mx.oM F r top,c.U.take top,rfl,rfl,jr,wU,by omega,λ x hx q hq y hy=>?_,?_⟩
  . obtain⟨j,hj,rfl⟩:=RQ.mp hx;have bj:=bw j (by omega);rw[Mx.ax hj]at bj;obtain⟨i,hi,rfl⟩:=RQ.mp hq;obtain⟨p,hp,rfl⟩:=RQ.mp hy;have hU:=bu i p (by omega);unfold Mx.g at hU;rw[Mx.ax hi,Mx.ax hp]at hU;exact gN bj hU (by omega)
  have lW:(Mx.fD (Mx.oM F r top) (c.U.take top) (List.replicate N 0)).length=N:=Mx.uc (by simp) wU
  have bW:∀n,n<N->((Mx.fD (Mx.oM F r top) (c.U.take top) (List.replicate N 0)).getD n 0).natAbs<=2^(Mx.Vz N e0 top+8000):=λ n hn=>by
   rw[Mx.sr (n:=N) n (by simp) wU (by omega),Mx.eA,TV,lUt]
   have e3:top*2^(7174+Mx.Vz N e0 top)<=2^(Mx.Vz N e0 top+8000):=by
    refine RD (S8 _ (show top<=2^3 by omega)) ?_;rw[<-TX];exact R9 (by decide) (by omega)
   refine RD (Mx.z9 λ j hj=>?_) e3;rw[Ss,TX];exact Sq (RD (bw j hj) (R9 (by decide) (by omega))) (bu j n hj)
  have sum:∀q,q<w->(Mx.S N λ n=>(Mx.fD (Mx.oM F r top) (c.U.take top) (List.replicate N 0)).getD n 0*Mx.g A n q)=r.getD q 0:=λ q hq=>by
   refine Mx.GW H lw (λ q hq=>?_) hq;rw[sm q,wN _ 0 el q,TV];exact Mx.aq λ j hj=>by rw[wat j hj,hgF j q hj]
  generalize hWW:Mx.fD (Mx.oM F r top) (c.U.take top) (List.replicate N 0)=W at lW bW sum
  have mq:∀x,(∀q,q<w->(Mx.S N λ n=>x n*Mx.g A n q)=0)↔Mx.bL G m N x:=λ x=>by
   rw[H.kernel];exact⟨λ h=>Mx.bL.trans hSame.to h,λ h=>Mx.bL.trans hSame.of h⟩
  have hG2:Wg G m N 1000:=⟨hG.is,hG.st,hG.m8,hG.w8,hbd G m (by omega) hG.st hred mq⟩
  have m8:=hG.m8;have gW:∀j,top<=j->j<N->∀q,q<N->((c.U.getD j []).getD q 0).natAbs<=2^CA N e0 top:=λ j h1 h2 q _=>e1lo j q h1 h2;have hE:2^Mx.Ez N e0 top<=2^60000000:=R9 (by decide) (by omega);have hV:2^Mx.Vz N e0 top<=2^60000000:=R9 (by decide) (by omega);have fl:=Mx.u_ hG.is lW hG.st (Ry m);refine⟨_,G,W,m,N,_,rfl,hG2,rfl,lW,Jv hG2 lW bW (by omega),λ st4 X4=>aM rfl rfl ⟨RN rfl,?_⟩⟩;refine k st4 _ (B3'.ext X4) (⟨Mx.d7 G W m,G,m,_,c,top,⟨H.tn,le,H.zs,hW0,hrd,λ i q hi=>?_,λ i q hi=>?_,hG2,hred,mq,Mx.l_ hG.is lW (Ry m),λ q hq=>?_,λ i hi=>fl.red i hi,λ j h1 h2=>?_⟩,rfl⟩) ⟨top,c,hC,G,hGf,by rw[hF,hWW,hG.is.len]⟩
  . by_cases h:i<top
    . exact RD (H.hi i q h).2.1 hV
    . exact RD (H.lo.2.1 i q (TZ h) hi) hE
  . by_cases h:i<top
    . exact RD (H.hi i q h).2.2 hV
    . exact RD (H.lo.2.2 i q (TZ h) hi) hE
  . have d:=(mq λ n=>W.getD n 0-(Mx.d7 G W m).getD n 0).mpr fl.sum q hq
    have e5:(Mx.S N λ n=>(W.getD n 0-(Mx.d7 G W m).getD n 0)*Mx.g A n q)=(Mx.S N λ n=>W.getD n 0*Mx.g A n q)-Mx.S N λ n=>(Mx.d7 G W m).getD n 0*Mx.g A n q:=by
     rw[SN,<-Mx.oZ,<-Mx.fu];exact Mx.aq λ n _=>by rw[Vs,SN]
    rw[e5,sum q hq]at d;omega
  . refine(mq (Mx.g c.U j)).mp λ q hq=>?_;rw[<-H.tn.ua j q h2 hq];exact H.zs j q h1 h2 hq
structure Hk(st:ag)(n:Nat)(b:Int):Prop where
 ex:∃(cs:List Int) (p q:Int),st[n]?=some (.lst [.lst (ay cs),.int p,.int q])/\1<=cs.length/\0<=p/\p<=b/\0<=q
structure Upd(st:ag)(n:Nat)(st':ag):Prop where
 len:st'.length=st.length
 same:∀m,m≠n->st'[m]?=st[m]?
def Upd.refl{st:ag}{n:Nat}:Upd st n st:=⟨rfl,λ _ _=>rfl⟩
def Upd.trans{st st1 st2:ag}{n:Nat}(a:Upd st n st1)(b:Upd st1 n st2):Upd st n st2:=⟨b.len.trans a.len,λ m h=>(b.same m h).trans (a.same m h)⟩
def Upd.set{st:ag}{n:Nat}{c:Cell}:Upd st n (st.set n c):=⟨RY,λ m h=>RB (RO h)⟩
def Hk.mono{st:ag}{n:Nat}{b b':Int}(h:Hk st n b)(l:b<=b'):Hk st n b':=let⟨cs,p,q,e,h1,h2,h3,h4⟩:=h.ex;⟨cs,p,q,e,h1,h2,by omega,h4⟩
def Hk.lt{st:ag}{n:Nat}{b:Int}(B:Hk st n b):n<st.length:=by
 obtain⟨_,_,_,e,_⟩:=B.ex;exact(Rx.mp e).1
def Hk.cell{st st':ag}{n:Nat}{b:Int}(B:Hk st n b)(e:st'[n]?=st[n]?):Hk st' n b:=by
 obtain⟨cs,p,q,e1,r⟩:=B.ex;exact⟨cs,p,q,e.trans e1,r⟩
def Cn{st:ag}{n:Nat}{xs ys:List D}{i:Int}{j:Nat}{d:D}{K:ag->Prop}(h:st[n]?=some (.lst xs))(e:lV xs.length i=some j)(ey:xs.set j d=ys)(k:∀st',st'[n]?=some (.lst ys)->Upd st n st'->K st'):Bz (.ref n) (.int i) d st K:=jP h e (by
 rw[ey];exact k _ (RK (Rx.mp h).1) Upd.set)
def sy:c_:=λ ds st K=>∃ns:List Int,ds=[.lst (ns.map .int)]/\ns.length<=63/\∀st',Hk st' st.length 0->Ext st st'->K (.ref st.length) st'
def o7:List Str:=["_law_script","_law_cells","_law_rest_here"]
def Di:DS:=(aI (bc 1 (aw dz (jU (ae 0) iI (mY (dC (.int 63)))) (jR (af (dC (.int 7)) ak))))
 (aI (bc 2 (bV ud (af (aw bI (ae 1) (dC (.int 0))) ak)))
 (cP (vY (af (ae 1) (af (dC (.int 0)) (af (aw fy (ae 2) (bV pH (af (aw AM (ae 2) (aw tY (dC (.int 10)) (dC (.int 18)))) ak))) ak)))))))
def Cg:Rv sy 1 Di o7:=by
 rintro ds st K ⟨ns,rfl,hl,k⟩;refine⟨rfl,?_⟩;refine qI ⟨RN rfl,?_⟩;rw[show(63:Int)=((63:Nat):Int)from rfl,rL,<-Vv];refine pj (aU (by rw[Rw,SG];simp;omega)) ?_;rw[ints_app];have l1:1<=(ns.take 63++[7]).length:=by simp
 generalize ns.take 63++[7]=cs at l1;refine aM rfl (eJ (k:=0) (by omega)) (xa ?_);generalize hx:(((cs.getD 0 0).natAbs:Nat):Int)=x;have x0:0<=x:=by omega
 refine xp ⟨by decide,by decide,by decide⟩ ?_;have fin:∀q:Int,0<=q->(K (.ref st.length) (st++[.lst [.lst (ay cs),.int 0,.int q]])):=λ q hq=>k _ ⟨cs,0,q,by simp,l1,VU _,VU _,hq⟩ Ext.push;by_cases h:(10:Int)^(18:Int).toNat<=x
 . refine Q_ h (ni (f7 (rk (by decide) (by decide)) ⟨RN rfl,?_⟩));exact fin (x*1) (by omega)
 . refine Q5 (by omega) (ni (f7 (rk (by decide) (by decide)) ⟨RN rfl,?_⟩));exact fin (x*0) (by omega)
def cA:c_:=λ ds st K=>∃(n:Nat) (m b:Int),ds=[.ref n,.int m]/\Hk st n b/\b<=1000000000/\0<m/\m<2^62/\∀r st',0<=r->r<m->Hk st' n (b+1)->Upd st n st'->K (.int r) st'
def pe:List Str:=["_law_hand_here","_law_many","_law_digit","_law_cell","_law_once"]
def Ee:DS:=(aI (gn (cu (aw uu (aw bI (ae 0) (dC (.int 2))) (dC (.int 0)))) (aI (bc 2 (aw i4 (aw bI (ae 0) (dC (.int 2))) (ae 1)))
 (aI (f_ (ae 0) (dC (.int 2)) (aw uN (aw bI (ae 0) (dC (.int 2))) (ae 1)))
 (cP (ae 2)))) fR)
 (aI (f_ (ae 0) (dC (.int 1)) (aw dz (aw bI (ae 0) (dC (.int 1))) (dC (.int 1))))
 (aI (bc 3 (aw bI (aw bI (ae 0) (dC (.int 0))) (aw i4 (aw bI (ae 0) (dC (.int 1))) (bV fJ (af (aw bI (ae 0) (dC (.int 0))) ak)))))
 (aI (bc 4 (aw i4 (aw fy (aw dz (aw dz (aw i4 (ae 3) (dC (.int 2147483647))) (aw fy (dC (.int 7919)) (aw bI (ae 0) (dC (.int 1))))) (dC (.int 1))) (dC (.int 48271))) (dC (.int 2147483647))))
 (cP (aw i4 (aw uN (aw i4 (aw fy (ae 4) (aw dz (aw i4 (ae 4) (dC (.int 1009))) (dC (.int 1)))) (dC (.int 2147483629))) (dC (.int 3))) (ae 1)))))))
def FJ{m:Int}(h0:0<m)(h:m<2^62):m.natAbs.log2<9000:=by
 have:m.natAbs.log2<62:=(Nat.log2_lt (by omega)).mpr (by omega);omega
def Ev(A:DE)(σ:ck)(st:ag)(d:D):Prop:=∀K:DK,K d st->A σ st K
def rZ{x:D->D->ag->DK->Prop}{A B:DE}{σ:ck}{st:ag}{a b d:D}(hA:Ev A σ st a)(hB:Ev B σ st b)(hx:∀K:DK,K d st->x a b st K):Ev (aw x A B) σ st d:=λ K k=>hA _ (hB _ (hx K k))
def ye{σ:ck}{st:ag}{d:D}:Ev (dC d) σ st d:=λ K k=>k
def GB{i:Nat}{σ:ck}{st:ag}{d:D}(h:σ[i]?=some (some d)):Ev (ae i) σ st d:=λ K k=>ux h k
def NF{i:Nat}{A:DE}{B:DS}{E:kg}{σ:ck}{st:ag}{d:D}(h:Ev A σ st d)(k:B E (σ.set i (some d)) st):aI (bc i A) B E σ st:=h _ k
def F1{σ:ck}{st:ag}{n:Nat}{cs:List Int}{x p q:Int}(h3:σ[3]?=some (some (.int x)))(h0:σ[0]?=some (some (.ref n)))(e:st[n]?=some (.lst [.lst (ay cs),.int p,.int q])):Ev (aw i4 (aw fy (aw dz (aw dz (aw i4 (ae 3) (dC (.int 2147483647))) (aw fy (dC (.int 7919)) (aw bI (ae 0) (dC (.int 1))))) (dC (.int 1))) (dC (.int 48271))) (dC (.int 2147483647))) σ st (.int (((x.fmod 2147483647+7919*p+1)*48271).fmod 2147483647)):=by
 have a1:Ev (aw i4 (ae 3) (dC (.int 2147483647))) σ st (.int (x.fmod 2147483647)):=rZ (GB h3) ye λ K k=>ot (by decide) k;have a0:Ev (aw bI (ae 0) (dC (.int 1))) σ st (.int p):=rZ (GB h0) ye λ K k=>aM (aJ e) (by rfl) k;have a2:Ev (aw fy (dC (.int 7919)) (aw bI (ae 0) (dC (.int 1)))) σ st (.int (7919*p)):=rZ ye a0 λ K k=>f7 (ij (by decide) (by decide)) k;have a3:=rZ (d:= .int (x.fmod 2147483647+7919*p)) a1 a2 λ K k=>gG k;have a4:=rZ (d:= .int (x.fmod 2147483647+7919*p+1)) a3 (ye (d:= .int 1)) λ K k=>gG k;have a5:=rZ (d:= .int ((x.fmod 2147483647+7919*p+1)*48271)) a4 (ye (d:= .int 48271)) λ K k=>f7 (rk (by decide) (by decide)) k;exact rZ a5 (ye (d:= .int 2147483647)) λ K k=>ot (by decide) k
def Cc:Rv cA 2 Ee pe:=by
 rintro ds st K ⟨n,m,b,rfl,⟨cs,p,q,e,hl,hp,hb,hq⟩,hb2,hm0,hm1,k⟩;refine⟨rfl,?_⟩;refine aM (aJ e) (by rfl) (MW (λ h=>ik ?_) λ h=>?_)
 . refine aM (aJ e) (by rfl) (ot (by omega) (aM (aJ e) (by rfl) (Cy (by omega) (FJ hm0 hm1) ?_)));refine Cn (ys:=[.lst (ay cs),.int p,.int (q.fdiv m)]) e (by rfl) (by rfl) λ st1 e1 U1=>?_;exact k _ _ (Sw _ hm0) (SO _ hm0) ⟨cs,p,_,e1,hl,hp,by omega,by rw[Int.fdiv_eq_ediv_of_nonneg _ (by omega)];exact Int.ediv_nonneg hq (by omega)⟩ U1
 . refine aM (aJ e) (by rfl) (gG (Cn (ys:=[.lst (ay cs),.int (p+1),.int q]) e (by rfl) (by rfl) λ st1 e1 U1=>?_));have hcl:(0:Int)<((cs.length:Nat):Int):=by omega
   refine aM (aJ e1) (by rfl) (aM (aJ e1) (by rfl) (aM (aJ e1) (by rfl) (d6 rfl ?_)));rw[Rw];refine ot (by omega) ?_;obtain⟨j,hj⟩:=Ts (Sw (p+1) hcl);have hj2:=SO (p+1) hcl;rw[hj]at hj2⊢;refine aM rfl (eJ (by omega)) ?_;generalize cs.getD j 0=x;refine NF (σ:=[some (.ref n),some (.int m),none,some (.int x),none]) (F1 (x:=x) (p:=p+1) rfl rfl e1) ?_;have y0:=Sw ((x.fmod 2147483647+7919*(p+1)+1)*48271) (show(0:Int)<2147483647 by decide);have y1:=SO ((x.fmod 2147483647+7919*(p+1)+1)*48271) (show(0:Int)<2147483647 by decide);generalize((x.fmod 2147483647+7919*(p+1)+1)*48271).fmod 2147483647=u at y0 y1⊢;refine ot (by decide) (gG (f7 (ij (by omega) (by omega)) (ot (by decide) (Cy (by decide) (by decide+kernel) (ot (by omega) ?_)))));exact k _ _ (Sw _ hm0) (SO _ hm0) ⟨cs,p+1,q,e1,hl,by omega,by omega,hq⟩ U1
def mh:c_:=λ ds st K=>∃(x y:D) (r s:List Int),ds=[x,y]/\items? st x=some (ay r)/\items? st y=some (ay s)/\r.length<=1000/\(∀a∈r,∀b∈s,IntMulOk a b)/\K (.int (Mx.dX r s)) st
def qk:List Str:=["_law_one","_law_other"]
def Fh:DS:=(cP (bV Bs (af (cC (vQ (af (ae 0) (af (ae 1) ak))) [none,none] (kr 0 1) b_ (aw fy (ae 0) (ae 1))) ak)))
def Co:∀(r s:List Int),∃ns:List Int,(iy (ay r) (ay s)).map (λ d=>match d with| .tup [.int a,.int b]=> .int (a*b)|_=> .aF)=ay ns/\ns.sum=Mx.dX r s
 | [],_=>⟨[],rfl,rfl⟩
 |_::_,[]=>⟨[],rfl,rfl⟩
 |a::r,b::s=>by
  obtain⟨ns,h1,h2⟩:=Co r s;refine⟨a*b::ns,?_,?_⟩
  . have e:iy (ay (a::r)) (ay (b::s))= .tup [.int a,.int b]::iy (ay r) (ay s):=rfl;rw[e,SM,h1];rfl
  . rw[List.sum_cons,h2];rfl
def El:Rv mh 2 Fh qk:=by
 rintro ds st K ⟨x,y,r,s,rfl,hx,hy,hl,hm,k⟩;refine⟨rfl,?_⟩;refine ug hx hy λ ok aL=>⟨aU (by rw[pM];simp;omega),?_⟩
 obtain⟨ns,h1,h2⟩:=Co r s;refine comp_map (g:=λ d=>match d with| .tup [.int a,.int b]=> .int (a*b)|_=> .aF) (aL st hx hy) _ (λ d hd K' q=>?_) ?_
 . obtain⟨a,b,ha,hb,rfl⟩:=sJ hd;exact⟨_,rfl,f7 (hm a ha b hb) q⟩
 . rw[h1];refine NW (ints_map _) ?_;rw[h2];exact k
structure XU(st:ag)(n:Nat)(st':ag):Prop where
 len:st.length<=st'.length
 same:∀m,m<st.length->m≠n->st'[m]?=st[m]?
def XU.trans{st st1 st2:ag}{n:Nat}(a:XU st n st1)(b:XU st1 n st2):XU st n st2:=⟨RD a.len b.len,λ m h g=>(b.same m (RW h a.len) g).trans (a.same m h g)⟩
def XU.upd{st st1:ag}{n:Nat}(a:Upd st n st1):XU st n st1:=⟨by rw[a.len];exact Ry _,λ m _ g=>a.same m g⟩
def XU.ext{st st1:ag}{n:Nat}(a:Ext st st1):XU st n st1:=⟨a.len,λ m h _=>a.same m h⟩
def XU.set{st st1:ag}{n k:Nat}{c:Cell}(a:XU st n st1)(h:st.length<=k):XU st n (st1.set k c):=⟨by rw[RY];exact a.len,λ m hm g=>by rw[RB (by omega)];exact a.same m hm g⟩
def mH:c_:=λ ds st K=>∃(x y:D) (r s:List Int) (t:Int),ds=[x,y,.int t]/\items? st x=some (ay r)/\items? st y=some (ay s)/\r.length<=1000/\(∀b∈s,IntMulOk t b)/\K (av (Mx.dN r (-t) s)) st
def oO:List Str:=["_law_row","_law_other","_law_many"]
def D9:DS:=(cP (cC (vQ (af (ae 0) (af (ae 1) ak))) [none,none,some 2] (kr 0 1) b_ (aw mx (ae 0) (aw fy (ae 2) (ae 1)))))
def A_{t:Int}:∀(r s:List Int),(iy (ay r) (ay s)).map (λ d=>match d with| .tup [.int a,.int b]=> .int (a-t*b)|_=> .aF)=ay (Mx.dN r (-t) s)
 | [],_=>rfl
 |_::_,[]=>rfl
 |a::r,b::s=>by
  have:=A_ (t:=t) r s;unfold iy Mx.dN at this⊢;simp only[ay,SM,List.zip_cons_cons,WI]at this⊢;rw[this,TJ,SN]
def Ci:Rv mH 3 D9 oO:=by
 rintro ds st K ⟨x,y,r,s,t,rfl,hx,hy,hl,hm,k⟩;refine⟨rfl,?_⟩;refine ug hx hy λ ok aL=>⟨aU (by rw[pM];simp;omega),?_⟩
 refine comp_map (g:=λ d=>match d with| .tup [.int a,.int b]=> .int (a-t*b)|_=> .aF) (aL st hx hy) _ (λ d hd K' q=>?_) ?_
 . obtain⟨a,b,ha,hb,rfl⟩:=sJ hd;exact⟨_,rfl,f7 (hm b hb) (kQ q)⟩
 . rw[A_];exact k
def iX{p:List Int->Bool}{f mk:List Int->D}{tg:fV}{c:DT}{te:DE}{ok:ag->Prop}{σc:ck}{st:ag}{K:List D->ag->Prop}(aL:ok st)(X:List (List Int))(hx:∀r∈X,∃σ2,tg (mk r) σc=some σ2/\(∀K',K' (p r) st->c σ2 st K')/\∀K',K' (f r) st->te σ2 st K')(k:K ((X.filter p).map f) st):dP tg c te ok σc (X.map mk) [] st K:=by
 refine gD (λ rest acc st'=>st=st'/\∃X1 X2,X1++X2=X/\rest=X2.map mk/\acc=(X1.filter p).map f) ?_ ?_ _ _ _ ⟨rfl,[],X,rfl,rfl,rfl⟩
 . rintro acc st' ⟨rfl,X1,X2,e,e2,rfl⟩;match X2,e2 with
   | [],_=>rw[Tp]at e;rw[e];exact⟨aL,k⟩
 . rintro x rest acc st' ⟨rfl,X1,X2,e,e2,rfl⟩ next
   match X2,e2,e with
   |y::X2,e2,e=>
    obtain⟨rfl,rfl⟩:=UA e2;obtain⟨σ2,h1,h2,h3⟩:=hx y (by rw[<-e];simp);refine⟨aL,σ2,h1,h2 _ ?_⟩;by_cases hp:p y=true
    . rw[RF hp];refine h3 _ (next _ _ ⟨rfl,X1++[y],X2,by rw[Tw];exact e,rfl,?_⟩);rw[Vc,Vh hp];simp
    . rw[RE hp];refine next _ _ ⟨rfl,X1++[y],X2,by rw[Tw];exact e,rfl,?_⟩
      rw[Vc,Vi hp,List.filter_nil,Tp]
structure Fp(X O:List (List Int))(f:List Int)(p W e:Nat):Prop where
 same:Mx.kC X (O++[f]) W
 wO:∀r∈O,r.length=W
 wf:f.length=W
 zO:∀r∈O,∀c,c<p+1->r.getD c 0=0
 zf:∀c,c<p->f.getD c 0=0
 f0:f.getD p 0≠0
 ln:O.length+1=X.length
 bO:∀r∈O,∀c,(r.getD c 0).natAbs<=2^e
 bf:∀c,(f.getD c 0).natAbs<=2^e
def tO:c_:=λ ds st K=>∃(X:List (List Int)) (p W e:Nat),ds=[.lst (X.map av),.int p]/\(∀r∈X,r.length=W)/\p<W/\W<=16/\X.length<=8/\(∀r∈X,∀c,(r.getD c 0).natAbs<=2^e)/\(∀r∈X,∀c,c<p->r.getD c 0=0)/\e<=10000000/\
 ((∀r∈X,r.getD p 0=0)->∀st',Ext st st'->K (.tup [.lst (X.map av),.aF]) st')/\∀st' O f,Ext st st'->Fp X O f p W (6*e+4)->K (.tup [.lst (O.map av),av f]) st'
def qA:List Str:=["_law_rows","_law_column","_law_others","_law_some","_law_sizes","_law_first"]
def E3:DS:=(aI (bc 2 (cC (c5 (ae 0)) [none,some 1] (aQ 0) (cu (aw iL (aw bI (ae 0) (ae 1)) (dC (.int 0)))) (ae 0)))
 (aI (bc 3 (je (c5 (ae 0)) [none,some 1] (aQ 0) (cu (aw oK (aw bI (ae 0) (ae 1)) (dC (.int 0)))) (ae 0)))
 (aI (uf (cu (aw uu (bV fJ (af (ae 3) ak)) (dC (.int 1)))) (aI (bc 4 (cC (c5 (ae 3)) [none,some 1] (aQ 0) b_ (bV ud (af (aw bI (ae 0) (ae 1)) ak))))
 (aI (bc 5 (qx pd (ae 3) (af (yt (ae 4) (af (bV wH (af (ae 4) ak)) ak)) ak)))
 (aI (bc 3 (je (c5 (ae 3)) [none,some 5,some 1] (aQ 0) b_ (aK mH (af (ae 0) (af (ae 1) (af (aw jo (aw bI (ae 0) (ae 2)) (aw bI (ae 1) (ae 2))) ak))))))
 (aI (bc 2 (aw dz (ae 2) (cC (c5 (ae 3)) [none,some 1] (aQ 0) (cu (aw iL (aw bI (ae 0) (ae 1)) (dC (.int 0)))) (ae 0))))
 (bc 3 (aw wZ (jR (af (ae 5) ak)) (cC (c5 (ae 3)) [none,some 1] (aQ 0) (cu (aw oK (aw bI (ae 0) (ae 1)) (dC (.int 0)))) (ae 0)))))))))
 (cP (mF (af (ae 2) (af (aw bI (aw xi (ae 3) (jR (af (dC .aF) ak))) (dC (.int 0))) ak)))))))
def MK{σ:ck}{st:ag}{K:DK}{n:Nat}{xs:List D}{to:DE}{ta:DA}(ho:∀K',K' (.ref n) st->to σ st K')(e:st[n]?=some (.lst xs))(ha:ta σ st λ ds st2=>(∃ys,st2[n]?=some (.lst ys))/\pd n ds st2 K):qx pd to ta σ st K:=by
 unfold qx;refine ho _ ?_;simp only[e];exact ha
def M9{st2:ag}{K:DK}{n:Nat}{ys:List D}{i:Int}{j:Nat}{d:D}(e2:st2[n]?=some (.lst ys))(h63: -(2^63)<=i/\i<2^63)(ej:lV ys.length i=some j)(ed:ys[j]?=some d)(k:K d (st2.set n (.lst (ys.eraseIdx j)))):(∃ys,st2[n]?=some (.lst ys))/\pd n [.int i] st2 K:=by
 refine⟨⟨ys,e2⟩,?_⟩;unfold pd;simp only[e2,ej,ed];exact⟨h63,k⟩
def og:∀(l:List (List Int)) (j:Nat),(l.map av).eraseIdx j=(l.eraseIdx j).map av
 | [],_=>rfl
 |_::_,0=>rfl
 |x::l,j+1=>by
  show av x::(l.map av).eraseIdx j=av x::(l.eraseIdx j).map av;rw[og l j]
def vO(p:Nat):∀Y:List (List Int),(Y.filter λ r=>decide (r.getD p 0=0)).length+(Y.filter λ r=>decide (r.getD p 0≠0)).length=Y.length
 | []=>rfl
 |y::Y=>by
  have ih:=vO p Y;by_cases h:y.getD p 0=0
  . rw[Vh (by simpa using h),Vi (by simpa using h),Sl,Sl];omega
  . rw[Vi (by simpa using h),Vh (by simpa using h),Sl,Sl];omega
def Lo{O Y:List (List Int)}{r0:List Int}{p n:Nat}(h:O.length+(Y.length+1)=n):(O++Y.filter λ r=>decide (r.getD p 0=0)).length+(r0::Y.filter λ r=>decide (r.getD p 0≠0)).length=n:=by
 rw[SW,Sl];have:=vO p Y;omega
def Hz{p w c:Nat}{f r:List Int}(hf:f.length=w)(hr:r.length=w)(zf:f.getD c 0=0)(zr:r.getD c 0=0):(Mx.cX p f r).getD c 0=0:=by
 rw[Mx.pf hf hr,zf,zr,Sf];rfl
def Dh:Rv tO 2 E3 qA:=by
 rintro ds st K ⟨X,p,W,e,rfl,wX,hp,W16,l8,bX,zX,he,kn,ks⟩;refine⟨rfl,?_⟩;have eqz:∀(r:List Int),r.length=W->∀(st:ag) (K':Bool->ag->Prop),K' (decide (r.getD p 0=0)) st->bI (av r) (.int p) st λ x st1=>iL x (.int 0) st1 λ d st2=>match d with| .bl b=>K' b st2|_=>False:=λ r hr st K' q=>aM rfl (eJ (by rw[hr];exact hp)) (eq2 (λ h=>by rw[SX h]at q;exact q) λ h=>by rw[Su h]at q;exact q)
 have nez:∀(r:List Int),r.length=W->∀(st:ag) (K':Bool->ag->Prop),K' (decide (r.getD p 0≠0)) st->bI (av r) (.int p) st λ x st1=>oK x (.int 0) st1 λ d st2=>match d with| .bl b=>K' b st2|_=>False:=λ r hr st K' q=>aM rfl (eJ (by rw[hr];exact hp)) (ne2 (λ h=>by rw[SX h]at q;exact q) λ h=>by rw[Su (by simpa using h)]at q;exact q)
 refine ke ⟨aU (by rw[Rw];omega),?_⟩;refine iX (p:=λ r=>decide (r.getD p 0=0)) (f:=av) (mk:=av) trivial X (λ r hr=>⟨_,rfl,λ K' q=>eqz r (wX r hr) st K' q,λ K' q=>q⟩) ?_;refine ke ⟨aU (by rw[Rw];omega),?_⟩;refine iX (p:=λ r=>decide (r.getD p 0≠0)) (f:=av) (mk:=av) trivial X (λ r hr=>⟨_,rfl,λ K' q=>nez r (wX r hr) st K' q,λ K' q=>q⟩) ?_;have B0:9*2^(6*e)<=2^(6*e+4):=by rw[TX,TC];exact Tb _ (by decide)
 have eup:2^e<=2^(6*e+4):=R9 (by decide) (by omega);refine⟨λ m σ st'=>∃(O X':List (List Int)) (n B:Nat) (sg:Bool) (v4 v5:Option D),σ=[some (.lst (X.map av)),some (.int p),some (.lst (O.map av)),some (.ref n),v4,v5]/\st'[n]?=some (.lst (X'.map av))/\st.length<=n/\Ext st st'/\Mx.kC X (O++X') W/\(∀r∈O,r.length=W/\(∀c,c<p+1->r.getD c 0=0)/\∀c,(r.getD c 0).natAbs<=2^(6*e+4))/\(∀r∈X',∀c,c<p->r.getD c 0=0)/\Mx.Pt X' p W B sg/\(if sg then B else 3*B)<=3*2^(6*e)/\O.length+X'.length=X.length/\(X'.length<=1\/∃r∈X',(r.getD p 0).natAbs<=m)/\(X'=[]->O=X),⟨2^e,X.filter (λ r=>decide (r.getD p 0=0)),X.filter (λ r=>decide (r.getD p 0≠0)),st.length,2^(6*e),false,none,none,rfl,UP,Ry _,Ext.push,⟨λ r hr=>?_,λ r hr=>?_⟩,λ r hr=>?_,λ r hr=>?_,.start (λ r hr=>wX r (Sv.mp hr).1) (λ r hr=>by simpa using(Sv.mp hr).2) λ r hr=>bX r (Sv.mp hr).1,Ry _,?_,?_,λ z=>?_⟩,?_⟩
 . by_cases z:r.getD p 0=0
   . exact Mx.cT.mem (R_ _ (Sv.mpr ⟨hr,SX z⟩))
   . exact Mx.cT.mem (RL _ (Sv.mpr ⟨hr,SX z⟩))
 . rcases RX.mp hr with h|h<;>exact Mx.cT.mem (Sv.mp h).1
 . obtain⟨h1,h2⟩:=Sv.mp hr;refine⟨wX r h1,λ c hc=>?_,λ c=>RD (bX r h1 c) eup⟩;by_cases z:c=p
   . subst z;simpa using h2
   . exact zX r h1 c (by omega)
 . exact zX r (Sv.mp hr).1
 . exact vO p X
 . cases hX:X.filter (λ r=>decide (r.getD p 0≠0))with
   |nil=>exact .inl (Sg _)
   |cons r rs=>
    have hr:r∈X.filter (λ r=>decide (r.getD p 0≠0)):=by rw[hX];exact R7
    exact .inr ⟨r,R7,bX r (Sv.mp hr).1 p⟩
 . refine UX.mpr λ r hr=>?_;have:=List.filter_eq_nil_iff.mp z r hr;simpa using this
 rintro m σ st' ⟨O,X',n,B,sg,v4,v5,rfl,en,hn,XX,sam,hO,zX',pt,hB,ln,ms,hnil⟩;have lX':X'.length<=8:=by omega
 refine d6 (aJ en) ?_;rw[Rw];refine MW (λ h=>?_) λ h=>?_
 . have h2:2<=X'.length:=by omega
   refine ik ?_;refine pE (aJ en) λ ok aL=>⟨aU (by rw[Rw];omega),?_⟩
   refine iX (p:=λ _=>true) (f:=λ r=> .int ((r.getD p 0).natAbs:Nat)) (mk:=av) (aL _ (aJ en)) X' (λ r hr=>⟨_,rfl,λ K' q=>q,λ K' q=>aM rfl (eJ (by rw[pt.dh r hr];exact hp)) (xa q)⟩) ?_
   have ef:(X'.filter λ _=>true).map (λ r=>D.int (((r.getD p 0).natAbs:Nat):Int))=ay (X'.map λ r=>(((r.getD p 0).natAbs:Nat):Int)):=by
    rw[UX.mpr λ _ _=>rfl];unfold ay;rw[Se];rfl
   rw[ef];refine MK (λ K' q=>q) en ?_;refine KW (λ K' q=>q) ?_;refine Lj (ints_map _) (λ z=>by have:=Tj List.length z;rw[Rw,TN]at this;omega) λ mm hm hle=>?_;dsimp only[ak];refine JR (ints_map _) hm λ j hj ej=>?_;rw[Rw]at hj;have ej':X'[j]?=some (X'.getD j []):=by rw[Mx.ax hj];exact RJ hj
   generalize hr0:X'.getD j []=r0 at ej';have m0:r0∈X':=Sb ej'
   have emm:mm=(((r0.getD p 0).natAbs:Nat):Int):=by
    rw[RV,ej']at ej;exact(SD ej).symm
   have least:∀r∈X',(r0.getD p 0).natAbs<=(r.getD p 0).natAbs:=λ r hr=>by
    have:=hle _ (RZ.mpr ⟨r,hr,rfl⟩);omega
   have w0:=pt.dh r0 m0;have n0:=pt.nz r0 m0;refine M9 en ⟨by omega,by omega⟩ (FH (by omega) (by rw[Rw];omega)) (show(X'.map av)[(j:Int).toNat]?=some (av r0) by rw[R6,RV,ej'];rfl) ?_;rw[R6,og];have hnl:=(Rx.mp en).1;have en2:(st'.set n (.lst ((X'.eraseIdx j).map av)))[n]?=some (.lst ((X'.eraseIdx j).map av)):=RK hnl;have XX2:=XX.set (c:= .lst ((X'.eraseIdx j).map av)) hn;generalize st'.set n (.lst ((X'.eraseIdx j).map av))=st2 at en2 XX2;have sub:∀r∈X'.eraseIdx j,r∈X':=λ r hr=>Ux hr;have le':(X'.eraseIdx j).length+1=X'.length:=by rw[VN,RF hj];omega
   obtain⟨pt2,hY⟩:=pt.pass h2 m0 least sub
   have b3:3*B<=2^(6*e+4):=by
    cases sg with
    |true=>have:B<=3*2^(6*e):=hB
           omega
    |false=>have:3*B<=3*2^(6*e):=hB
            omega
   refine pE (aJ en2) λ ok2 hok2=>⟨aU (by rw[Rw];omega),?_⟩
   refine iX (p:=λ _=>true) (f:=λ r=>av (Mx.cX p r0 r)) (mk:=av) (hok2 _ (aJ en2)) (X'.eraseIdx j) (λ r hr=>⟨_,rfl,λ K' q=>q,λ K' q=>?_⟩) ?_
   . have wr:=pt.dh r (sub r hr);refine aM rfl (eJ (by rw[wr];exact hp)) (aM rfl (eJ (by rw[w0];exact hp)) (nB n0 ⟨_,_,r,r0,_,rfl,rfl,rfl,by omega,λ b hb=>?_,q⟩))
     have h1:((r.getD p 0).fdiv (r0.getD p 0)).natAbs<=2^(6*e+5):=by
      have ee:=Tc (r.getD p 0) (r0.getD p 0);have s2:=(Mx.ng (a:=r.getD p 0) n0).2;have br:=RD (pt.bd r (sub r hr) p) b3;have b0:=RD (pt.bd r0 m0 p) b3;have:(r0.getD p 0*(r.getD p 0).fdiv (r0.getD p 0)).natAbs<=2^(6*e+4)+2^(6*e+4):=by omega
      rw[Ss]at this;have h4:2^(6*e+5)=2^(6*e+4)+2^(6*e+4):=by rw[Tu];omega
      rw[h4];exact RD (UM _ (by omega)) this
     obtain⟨cc,hcc,rfl⟩:=RQ.mp hb;have hb0:=RD (pt.bd r0 m0 cc) b3;rw[Mx.ax hcc]at hb0;exact gN h1 hb0 (by omega)
   rw[UX.mpr λ _ _=>rfl];have eY:(X'.eraseIdx j).map (λ r=>av (Mx.cX p r0 r))=((X'.eraseIdx j).map (Mx.cX p r0)).map av:=by rw[Se];rfl
   rw[eY];have lY:((X'.eraseIdx j).map (Mx.cX p r0)).length+1=X'.length:=by rw[Rw];exact le'
   have samP:=Mx.kC.pass (O:=O) (p:=p) ej' pt.dh
   have zY:∀r∈(X'.eraseIdx j).map (Mx.cX p r0),∀c,c<p->r.getD c 0=0:=λ r hr c hc=>by
    obtain⟨s,hs,rfl⟩:=RZ.mp hr;exact Hz w0 (pt.dh s (sub s hs)) (zX' r0 m0 c hc) (zX' s (sub s hs) c hc)
   generalize hYY:(X'.eraseIdx j).map (Mx.cX p r0)=Y at lY samP zY hY pt2;have en3:(st2++[Cell.lst (Y.map av)])[st2.length]?=some (.lst (Y.map av)):=UP;have XX3:=XX2.trans (Ext.push (c:=[Cell.lst (Y.map av)]));have l2n:=XX2.len;generalize hst3:st2++[Cell.lst (Y.map av)]=st3 at en3 XX3;refine pE (aJ en3) λ ok3 hok3=>⟨aU (by rw[Rw];omega),?_⟩
   refine iX (p:=λ r=>decide (r.getD p 0=0)) (f:=av) (mk:=av) (hok3 _ (aJ en3)) Y (λ r hr=>⟨_,rfl,λ K' q=>eqz r (hY r hr).1 st3 K' q,λ K' q=>q⟩) ?_;have lf:∀q:List Int->Bool,(Y.filter q).length<=8:=λ q=>RD (List.length_filter_le ..) (by omega);refine pj (by rw[TH,Rw,Rw];exact RD (Nat.add_le_add (show O.length<=8 by omega) (lf _)) (by decide)) ?_;rw[<-SY];refine⟨RN rfl,?_⟩;refine pE (aJ en3) λ ok4 hok4=>⟨aU (by rw[Rw];omega),?_⟩
   refine iX (p:=λ r=>decide (r.getD p 0≠0)) (f:=av) (mk:=av) (hok4 _ (aJ en3)) Y (λ r hr=>⟨_,rfl,λ K' q=>nez r (hY r hr).1 st3 K' q,λ K' q=>q⟩) ?_;refine J5 (by rw[TH,Rw];exact RD (Nat.add_le_add_left (lf _) 1) (by decide)) ?_;refine⟨(r0.getD p 0).natAbs-1,?_,O++Y.filter (λ r=>decide (r.getD p 0=0)),r0::Y.filter (λ r=>decide (r.getD p 0≠0)),st3.length,if sg then B else 3*B,true,_,_,rfl,UP,by have:=XX3.len;omega,XX3.trans Ext.push,sam.trans samP,λ r hr=>?_,λ r hr=>?_,pt2,hB,?_,?_,λ z=>by cases z⟩
   . rcases ms with z|⟨r,hr,z⟩
     . omega
     . have:=least r hr;omega
   . rcases RX.mp hr with z|z
     . exact hO r z
     . obtain⟨z1,z2⟩:=Sv.mp z;refine⟨(hY r z1).1,λ c hc=>?_,λ c=>RD ((hY r z1).2 c) b3⟩;by_cases q:c=p
       . subst q;simpa using z2
       . exact zY r z1 c (by omega)
   . rcases RU.mp hr with rfl|z
     . exact zX' r m0
     . exact zY r (Sv.mp z).1
   . exact Lo (by omega)
   . cases hZ:Y.filter (λ r=>decide (r.getD p 0≠0))with
     |nil=>exact .inl (Ry _)
     |cons y ys=>
      have hy:y∈Y.filter (λ r=>decide (r.getD p 0≠0)):=by rw[hZ];exact R7
      have hy1:=(Sv.mp hy).1;refine .inr ⟨y,R8 _ R7,?_⟩;rw[<-hYY]at hy1;obtain⟨s,hs,rfl⟩:=RZ.mp hy1;have:=(Mx.ng (a:=s.getD p 0) n0).2;rw[Mx.FC w0 (pt.dh s (sub s hs))];omega
 . have l1:X'.length<=1:=by omega
   refine⟨RN rfl,JV en (by rw[TH,Rw];simp;omega) ?_⟩;match X',l1 with
   | [],_=>
     have:=hnil rfl;subst this;refine aM rfl rfl ⟨RN rfl,kn (λ r hr=>(hO r hr).2.1 p (Si p)) st' XX⟩
   | [f],_=>
     have m1:f∈[f]:=Sm.mpr rfl
     have b3:3*B<=2^(6*e+4):=by
      cases sg with
      |true=>have:B<=3*2^(6*e):=hB
             omega
      |false=>have:3*B<=3*2^(6*e):=hB
              omega
     refine aM rfl rfl ⟨RN rfl,ks st' O f XX ⟨sam,λ r hr=>(hO r hr).1,pt.dh f m1,λ r hr=>(hO r hr).2.1,zX' f m1,pt.nz f m1,by simpa using ln,λ r hr=>(hO r hr).2.2,λ c=>RD (pt.bd f m1 c) b3⟩⟩
def Bw(e:Nat):Nat->Nat
 |0=>e
 |t+1=>6*Bw e t+4
def NB(e:Nat):Nat->Nat
 |0=>0
 |t+1=>NB e t+Bw e (t+1)+1
def Fe(N e:Nat):Prop:=∀t,t<N->Bw e t<=10000000/\NB e t+Bw e (t+1)<=130000000
def kc:c_:=λ ds st K=>∃(d:D) (X:List (List Int)) (W e:Nat),ds=[d,.int W]/\g6 st d X/\(∀r∈X,r.length=W)/\W<=16/\X.length<=8/\(∀r∈X,∀x∈r,x.natAbs<=2^e)/\Fe X.length e/\∀st' F,Ext st st'->F.length<=X.length->Mx.bK F.length W F->Mx.bY F F.length W (Mx.dy F)->Mx.kJ F F.length (Mx.dy F)->Mx.mB X X.length F F.length W->K (cW F) st'
def kj:List Str:=["_law_rows","_law_wide","_law_form","_law_column","_law_first"]
def yk:DS:=(aI (bc 0 (cC (c5 (ae 0)) [none] (aQ 0) b_ (bV iW (af (ae 0) ak))))
 (aI (bc 2 (jR ak))
 (aI (kH (dF (af (ae 1) ak)) (aQ 3) (aI (yB (kr 0 4) (aK tO (af (ae 0) (af (ae 3) ak))))
 (gn (cu (aw uZ (ae 4) (dC .aF))) (aI (gn (cu (aw tx (aw bI (ae 4) (ae 3)) (dC (.int 0)))) (bc 4 (cC (c5 (ae 4)) [none] (aQ 0) b_ (aw mx (dC (.int 0)) (ae 0)))) fR)
 (bc 2 (aw dz (cC (c5 (ae 2)) [none,some 4,some 3] (aQ 0) b_ (aK mH (af (ae 0) (af (ae 1) (af (aw jo (aw bI (ae 0) (ae 2)) (aw bI (ae 1) (ae 2))) ak))))) (jR (af (ae 4) ak))))) fR)))
 (cP (bV dB (af (cC (c5 (ae 2)) [none] (aQ 0) b_ (bV dB (af (ae 0) ak))) ak))))))
def CP{X:List (List Int)}{w:Nat}{r:List Int}(h:Mx.cT X w r):Mx.cT X w (r.map λ x=>0-x):=by
 obtain⟨z,hz⟩:=h;refine⟨λ k=> -z k,λ c hc=>?_⟩
 have e:(r.map λ x=>0-x).getD c 0= -r.getD c 0:=by
  rw[RC,RV,RC];cases r[c]? with
  |none=>rfl
  |some y=>show 0-y= -y;omega
 have:r.getD c 0=Mx.S X.length λ k=>z k*Mx.g X k c:=hz c hc;show(r.map λ x=>0-x).getD c 0=Mx.S X.length λ k=> -z k*Mx.g X k c;rw[e,this,<-Mx.oZ];exact Mx.aq λ k _=>(TJ _ _).symm
def m6{r:List Int}{c:Nat}:(r.map λ x=>0-x).getD c 0= -r.getD c 0:=by
 rw[RC,RV,RC];cases r[c]? with
 |none=>rfl
 |some y=>show 0-y= -y;omega
def Fp.neg{X O:List (List Int)}{f:List Int}{p W e:Nat}(h:Fp X O f p W e):Fp X O (f.map λ x=>0-x) p W e:=by
 refine⟨⟨λ r hr=>Mx.cT.sub (λ s hs=>?_) (h.same.to r hr),λ r hr=>?_⟩,h.wO,by rw[Rw];exact h.wf,h.zO,λ c hc=>by rw[m6,h.zf c hc];rfl,by rw[m6];have:=h.f0;omega,h.ln,h.bO,λ c=>by rw[m6,Ue];exact h.bf c⟩
 . rcases RX.mp hs with q|q
   . exact Mx.cT.mem (R_ _ q)
   . rw[Sm.mp q];have:=CP (w:=W) (Mx.cT.mem (X:=O++[f.map λ x=>0-x]) (r:=f.map λ x=>0-x) (by simp));rw[Se]at this
     have e:f.map ((λ x:Int=>0-x)∘λ x=>0-x)=f:=by
      conv=>rhs;rw[<-List.map_id f]
      exact Tz λ x _=>by show 0-(0-x)=x;omega
     rwa [e]at this
 . rcases RX.mp hr with q|q
   . exact h.same.of r (R_ _ q)
   . rw[Sm.mp q];exact CP (h.same.of f (by simp))
def xw:Rv kc 2 yk kj:=by
 rintro ds st K ⟨d,X,W,e,rfl,hd,wX,W16,l8,bX,fq,k⟩;refine⟨rfl,?_⟩;obtain⟨da,hda,ra⟩:=hd.ex;refine p7 hda λ ok aL=>⟨aU (by rw[ra.len];omega),?_⟩
 refine j5 av aL ra (λ d r _ he K' t=>⟨_,rfl,ip he t⟩) ?_;refine⟨Sg _,?_⟩;refine eK ⟨by omega,by omega⟩ ?_;rw[R6]
 have bX':∀r∈X,∀c,(r.getD c 0).natAbs<=2^e:=λ r hr c=>by
  by_cases h:c<r.length
  . exact bX r hr _ (getD_mem h)
  . rw[Mx.jv (by omega)];exact Sg _
 refine lZ W (λ p σ st'=>∃(R F:List (List Int)) (v3 v4:Option D),σ=[some (.lst (R.map av)),some (.int W),some (.lst (F.map av)),v3,v4]/\Ext st st'/\Mx.Ld X R F p W (Bw e F.length) (NB e F.length)) ?_ ?_ ⟨X,[],none,none,rfl,Ext.refl,Mx.Ld.start wX bX'⟩
 . rintro σ st' ⟨R,F,v3,v4,rfl,XX,L⟩;have lF:=L.len;refine ke ⟨aU (by rw[Rw];omega),?_⟩;refine j5 cf trivial cq.lst (λ d r _ he K' t=>⟨_,rfl,c8 he t⟩) ?_;obtain⟨h1,h2,h3,h4⟩:=L.end;exact c8 rfl (k st' F XX (by omega) h1 h2 h3 h4)
 . rintro p σ st' rest hp ⟨R,F,v3,v4,rfl,XX,L⟩ next
   have lF:=L.len;refine⟨_,rfl,?_⟩;rcases Nat.eq_zero_or_pos R.length with r0|r0
   . have eR:R=[]:=Tr.mp r0;subst eR;refine⟨[],p,W,0,rfl,L.wR,hp,W16,by simp,(λ r hr=>by cases hr),L.zs,by decide,λ z st1 X1=>⟨_,rfl,?_⟩,λ st1 O f X1 h=>?_⟩
     . exact w6 rfl (next _ _ ⟨[],F,_,_,rfl,XX.trans X1,L.skip z⟩)
     . have:=h.ln;simp at this
   have hf:=fq F.length (by omega);refine⟨R,p,W,Bw e F.length,rfl,L.wR,hp,W16,by omega,L.bR,L.zs,hf.1,λ z st1 X1=>⟨_,rfl,?_⟩,λ st1 O f X1 h=>⟨_,rfl,?_⟩⟩
   . exact w6 rfl (next _ _ ⟨R,F,_,_,rfl,XX.trans X1,L.skip z⟩)
   . refine w6 rfl (ik ?_);refine ny (A:=gn _ _ _) (λ σ' st2=>st2=st1/\∃f':List Int,σ'=[some (.lst (O.map av)),some (.int W),some (.lst (F.map av)),some (.int p),some (av f')]/\Fp R O f' p W (6*Bw e F.length+4)/\0<f'.getD p 0) (λ nx hnx=>?_) ?_
     . refine aM rfl (eJ (by rw[h.wf];exact hp)) (CI (λ hl=>ik ?_) λ hl=>?_)
       . refine ke ⟨aU (by rw[Rw];have:=h.wf;omega),?_⟩;refine comp_map (g:=λ d=>match d with| .int x=> .int (0-x)|_=> .aF) trivial _ (λ d hd K' q=>?_) ?_
         . obtain⟨x,_,rfl⟩:=RZ.mp hd;exact⟨_,rfl,kQ q⟩
         . have em:(ay f).map (λ d=>match d with| .int x=>D.int (0-x)|_=> .aF)=ay (f.map λ x=>0-x):=by
            unfold ay;rw[Se,Se];rfl
           rw[em];exact hnx _ _ ⟨rfl,_,rfl,h.neg,by rw[m6];omega⟩
       . exact hnx _ _ ⟨rfl,f,rfl,h,by have:=h.f0;omega⟩
     rintro σ' st2 ⟨rfl,f',rfl,h',f0⟩;refine ke ⟨aU (by rw[Rw];omega),?_⟩;refine iX (p:=λ _=>true) (f:=λ r=>av (Mx.cX p f' r)) (mk:=av) trivial F (λ r hr=>⟨_,rfl,λ K' q=>q,λ K' q=>?_⟩) ?_
     . have wr:=L.wF r hr;refine aM rfl (eJ (by rw[wr];exact hp)) (aM rfl (eJ (by rw[h'.wf];exact hp)) (nB (by omega) ⟨_,_,r,f',_,rfl,rfl,rfl,by omega,λ b hb=>?_,q⟩));obtain⟨cc,hcc,rfl⟩:=RQ.mp hb;have hb0:=h'.bf cc;rw[Mx.ax hcc]at hb0;exact gN (RD (Mx.iV _ f0) (L.bF r hr p)) hb0 hf.2
     rw[UX.mpr λ _ _=>rfl];have eY:F.map (λ r=>av (Mx.cX p f' r))=(F.map (Mx.cX p f')).map av:=by rw[Se];rfl
     rw[eY];refine⟨RN rfl,pj (by rw[TH,Rw,Rw];exact RD (Nat.add_le_add_right (show F.length<=8 by omega) 1) (by decide)) ?_⟩;have e1:(F.map (Mx.cX p f')).map av++[av f']=(F.map (Mx.cX p f')++[f']).map av:=by rw[SY];rfl
     have Ln:=L.next hp h'.same h'.wO h'.wf h'.zO h'.zf f0 h'.ln h'.bO h'.bf (Ry _);show jb _ _ _ _ _ _ _;refine next _ _ ⟨O,F.map (Mx.cX p f')++[f'],_,_,by rw[<-e1];rfl,XX.trans X1,?_⟩
     have l1:(F.map (Mx.cX p f')++[f']).length=F.length+1:=by rw[SW,Rw];rfl
     rw[l1];exact Ln
def su:c_:=λ ds st K=>∃(d dr:D) (F:List (List Int)) (r:List Int) (m w f:Nat),ds=[d,dr]/\g6 st d F/\Mx.bK m w F/\Mx.bY F m w (Mx.dy F)/\m<=8/\w<=16/\(∀k c,k<m->c<w->(Mx.g F k c).natAbs<=2^f)/\items? st dr=some (ay r)/\r.length=w/\(∀c,c<w->(r.getD c 0).natAbs<=2^5000)/\f<=2000/\∀st',Ext st st'->K (cf (Mx.d7 F r m)) st'
def oS:List Str:=["_law_form","_law_row","_law_one","_law_lead"]
def DJ:DS:=(aI (bc 1 (bV iW (af (ae 1) ak)))
 (aI (kH (c5 (ae 0)) (aQ 2) (aI (bc 3 (aw bI (cC (dF (af (bV fJ (af (ae 2) ak)) ak)) [none,some 2] (aQ 0) (cu (aw oK (aw bI (ae 1) (ae 0)) (dC (.int 0)))) (ae 0)) (dC (.int 0))))
 (bc 1 (aK mH (af (ae 1) (af (ae 2) (af (aw jo (aw bI (ae 1) (ae 3)) (aw bI (ae 2) (ae 3))) ak)))))))
 (cP (bV dB (af (ae 1) ak)))))
def wy:∀(r:List Int) (i:Nat),gK r (i+1)=(gK r i).map (· +1)
 | [],_=>rfl
 |x::r,i=>by
  unfold gK;split
  . exact wy r (i+1)
  . rfl
def vw:∀r:List Int,((List.range r.length).filter λ j=>decide (r.getD j 0≠0)).head?=mz r
 | []=>rfl
 |x::r=>by
  have ih:=vw r;rw[Sl,S9,List.filter_cons];by_cases h:x=0
  . have h1:decide ((x::r).getD 0 0≠0)=false:=by simpa using h
    rw[h1,RE SJ,List.filter_map,List.head?_map]
    have e:(λ j=>decide ((x::r).getD j 0≠0))∘Nat.succ=λ j=>decide (r.getD j 0≠0):=by
     funext j;simp
    rw[e,ih];unfold mz;conv=>rhs;unfold gK
    rw[RF h,wy]
  . have h1:decide ((x::r).getD 0 0≠0)=true:=by simpa using h
    rw[h1,RF rfl,List.head?_cons];unfold mz gK;rw[RE h]
def BV{n:Nat}{p:Nat->Bool}{c:DT}{te:DE}{σc:ck}{st:ag}{K:List D->ag->Prop}(h:∀i:Nat,i<n->∃σ2,aQ 0 (.int (i:Int)) σc=some σ2/\(∀K',K' (p i) st->c σ2 st K')/\∀K',K' (.int (i:Int)) st->te σ2 st K')(k:K (((List.range n).filter p).map λ(j:Nat)=>D.int (j:Int)) st):dP (aQ 0) c te (λ _=>True) σc (dM 0 n) [] st K:=by
 refine gD (λ rest acc st'=>st'=st/\∃j:Nat,j<=n/\rest=(List.range (n-j)).map (λ i=>D.int (((j+i:Nat):Int)))/\acc=((List.range j).filter p).map λ(j:Nat)=>D.int (j:Int)) ?_ ?_ _ _ _ ⟨rfl,0,Sg _,by unfold dM;simp,rfl⟩
 . rintro acc st' ⟨rfl,j,hj,hr,rfl⟩
   have:n-j=0:=by
    cases q:n-j with
    |zero=>rfl
    |succ m=>rw[q,S9]at hr;cases hr
   have hjn:j=n:=by omega
   subst hjn;exact⟨trivial,k⟩
 . rintro d rest acc st' ⟨rfl,j,hj,hr,rfl⟩ next
   cases q:n-j with
   |zero=>rw[q]at hr;cases hr
   |succ m=>
    rw[q,S9,SM,Se]at hr;simp only[UY]at hr;obtain⟨rfl,hrest⟩:=hr;obtain⟨σ2,e2,hc,ht⟩:=h j (by omega)
    have hrest':rest=(List.range (n-(j+1))).map (λ i=>D.int (((j+1+i:Nat):Int))):=by
     have:n-(j+1)=m:=by omega
     rw[this,hrest];refine Tz λ i _=>?_;show D.int (((j+(i+1):Nat):Int))=D.int (((j+1+i:Nat):Int));congr 2;omega
    refine⟨trivial,σ2,e2,hc _ ?_⟩;cases ep:p j with
    |false=>
     refine next _ _ ⟨rfl,j+1,by omega,hrest',?_⟩
     rw[UI,Vc,SY];simp[ep]
    |true=>
     refine ik (ht _ (next _ _ ⟨rfl,j+1,by omega,hrest',?_⟩));rw[UI,Vc,SY];simp[ep]
def Cm:Rv su 2 DJ oS:=by
 rintro ds st K ⟨d,dr,F,r,m,w,f,rfl,hF,isF,sF,m8,w16,bF,hr,lr,br,hf,k⟩;refine⟨rfl,?_⟩;have lF:=isF.len;obtain⟨da,hda,ra⟩:=hF.ex;have lda:=ra.len;refine ip hr ?_;refine pE hda λ ok aL=>?_;refine ko (λ rest σ st'=>st=st'/\∃(i:Nat) (v2 v3:Option D),i<=m/\rest=da.drop i/\σ=[some d,some (av (Mx.d7 F r i)),v2,v3]) ?_ ?_ _ _ _ ⟨rfl,0,none,none,Sg _,rfl,rfl⟩
 . rintro σ st' ⟨rfl,i,v2,v3,hi,hrest,rfl⟩
   have e1:i=m:=by
    have:=Tj List.length hrest;rw[SS,TN]at this;omega
   subst e1;exact⟨aL _ hda,c8 rfl (k st Ext.refl)⟩
 . rintro x rest σ st' ⟨rfl,i,v2,v3,hi,hrest,rfl⟩ next
   have IH:i<da.length:=by
    rcases Ui i da.length with h|h
    . exact h
    . rw[Tv h]at hrest;cases hrest
   have him:i<m:=by omega
   rw[SQ IH]at hrest;obtain⟨rfl,rfl⟩:=UA hrest;obtain⟨q,e1,e2⟩:=cq.get ra (RJ IH);have eq:q=F.getD i []:=by rw[RC,e1];rfl
   subst eq;have wF:=isF.row him;obtain⟨l1,l2,l3⟩:=sF.lead i him;have lL:=Mx.l_ isF lr (i:=i) (Ta him);refine⟨aL _ hda,_,rfl,d6 e2 ?_⟩;rw[Rw,wF];refine eK ⟨by omega,by omega⟩ ⟨aU (by rw[cK];omega),?_⟩;rw[R6];refine BV (p:=λ j=>decide ((F.getD i []).getD j 0≠0)) (λ j hj=>⟨_,rfl,λ K' q=>?_,λ K' q=>q⟩) ?_
   . refine aM e2 (eJ (by omega)) (ne2 (λ h=>?_) λ h=>?_)
     . rw[SX h]at q;exact q
     . rw[Su (by simpa using h)]at q;exact q
   have hfl:=vw (F.getD i []);rw[wF,zi l3 (UO l2)]at hfl;generalize((List.range w).filter λ j=>decide ((F.getD i []).getD j 0≠0))=fl at hfl;match fl,hfl with
   |l::fl,hfl=>
    have hl:l=Mx.dy F i:=by simpa using hfl
    subst hl;refine aM rfl (show fP ((Mx.dy F i::fl).map λ(j:Nat)=>D.int (j:Int)) 0=some (.int ((Mx.dy F i:Nat):Int))from j7 (j:=0) rfl) ?_;refine aM rfl (eJ (by omega)) (aM e2 (eJ (by omega)) (nB (UO l2) ?_));have bx:=Mx.rl isF lr sF bF br (Ta him) _ l1;have bq:(Mx.qC F (Mx.d7 F r i) i).natAbs<=2^(5000+i*(f+1)):=RD (Mx.iV _ l2) bx;have i8:i*(f+1)<=8*2001:=Sq (by omega) (by omega);refine⟨_,_,Mx.d7 F r i,F.getD i [],Mx.qC F (Mx.d7 F r i) i,rfl,rfl,e2,by omega,λ b hb=>?_,?_⟩
    . obtain⟨c,hc,rfl⟩:=RQ.mp hb;have:=bF i c him (by omega);unfold Mx.g at this;rw[Mx.ax hc]at this;exact gN bq this (by omega)
    . show jb _ _ _ _ _ _ _;exact next _ _ ⟨rfl,i+1,_,_,him,rfl,rfl⟩
def qQ:c_:=λ ds st K=>∃n:Int,ds=[.int n]/\K (.bl true) st
def nK:List Str:=["_law_found"]
def BR:DS:=(cP (xI (bV sd (af (ae 0) (af (dC (.ty "int")) ak))) (DF (cu (bV sd (af (ae 0) (af (dC (.ty "bool")) ak)))))))
def Bv:Rv qQ 1 BR nK:=by
 rintro ds st K ⟨n,rfl,k⟩;exact⟨rfl,tN rfl (by decide) (ik (tN rfl (by decide) k))⟩
def gz:c_:=λ ds st K=>∃(F:List (List Int)) (m w:Nat),ds=[cW F,.int m,.int w]/\Mx.bK m w F/\w<=1000/\K (.bl true) st
def j0:List Str:=["_law_found","_law_many","_law_wide","_law_row"]
def yo:DS:=(aI (gn (oy (kY (cu (bV sd (af (ae 0) (af (dC (.ty "tuple")) ak))))) (cu (aw oK (bV fJ (af (ae 0) ak)) (ae 1)))) (cP (dC (.bl false))) fR)
 (aI (kH (c5 (ae 0)) (aQ 3) (gn (oy (kY (cu (bV sd (af (ae 3) (af (dC (.ty "tuple")) ak))))) (oy (cu (aw oK (bV fJ (af (ae 3) ak)) (ae 2))) (kY (cu (bV BM (af (cC (c5 (ae 3)) [none] (aQ 0) b_ (aK qQ (af (ae 0) ak))) ak)))))) (cP (dC (.bl false))) fR))
 (cP (dC (.bl true)))))
def C_:∀l:List D,oa (l.map λ _=>D.bl true)=some (l.map λ _=>true)
 | []=>rfl
 |_::l=>by simp[oa,C_ l]
def N_(l:List D):(l.map λ _=>true).all id=true:=by simp
def wd:Rv gz 3 yo j0:=by
 rintro ds st K ⟨F,m,w,rfl,hF,hw,k⟩;refine⟨rfl,?_⟩;refine tN rfl (by decide) ?_;refine d6 rfl (IZ (by rw[Rw,hF.len]) ?_);refine fW ?_;refine ko (λ rest σ st'=>st=st'/\∃(i:Nat) (v3:Option D),i<=F.length/\rest=(F.map cf).drop i/\σ=[some (cW F),some (.int m),some (.int w),v3]) ?_ ?_ _ _ _ ⟨rfl,0,none,Sg _,rfl,rfl⟩
 . rintro σ st' ⟨rfl,i,v3,_,_,rfl⟩;exact⟨trivial,k⟩
 . rintro x rest σ st' ⟨rfl,i,v3,hi,hrest,rfl⟩ next
   obtain⟨hiF,rfl,rfl⟩:=drop_cons hrest;have lw:(F.getD i []).length=w:=by rw[Mx.ax hiF];exact hF.dh _ (R0 _)
   refine⟨trivial,_,rfl,?_⟩;refine tN rfl (by decide) ?_;refine d6 rfl (IZ (by rw[Rw,lw]) ?_);refine fW ⟨aU (by rw[Rw];omega),?_⟩;refine comp_map (g:=λ _=> .bl true) trivial _ (λ d hd K' q=>?_) ?_
   . obtain⟨i,_,rfl⟩:=RZ.mp hd;exact⟨_,rfl,i,rfl,q⟩
   refine LZ (C_ (ay (F.getD i []))) ?_;rw[N_];exact next _ _ ⟨rfl,i+1,_,hiF,rfl,rfl⟩
def kD:c_:=λ ds st K=>∃(d:D) (A:List (List Int)) (N w:Nat),ds=[d]/\g6 st d A/\Mx.bK N w A/\1<=N/\N<=1000/\w<=1000/\K (.lst ((Mx.cF A w).map cf)) st
def o3:List Str:=["_law_rows"]
def Eb:DS:=(cP (cC (dF (af (bV fJ (af (aw bI (ae 0) (dC (.int 0))) ak)) ak)) [none,some 0] (aQ 0) b_ (bV dB (af (cC (c5 (ae 1)) [none,some 0] (aQ 0) b_ (aw bI (ae 0) (ae 1))) ak))))
def Ck:Rv kD 1 Eb o3:=by
 rintro ds st K ⟨d,A,N,w,rfl,hd,hA,n1,n8,w8,k⟩;refine⟨rfl,?_⟩;have lA:=hA.len;obtain⟨da,hda,ra⟩:=hd.ex;obtain⟨e0,ee0,he0⟩:=ra.at (k:=0) (by omega);refine aM hda ee0 (d6 he0 ?_);rw[Rw,hA.row (i:=0) n1];refine eK ⟨by omega,by omega⟩ ⟨aU (by rw[cK];omega),?_⟩;rw[R6];refine gQ (λ j=>cf (Mx.ox A j)) w (λ j hj K' q=>⟨_,rfl,?_⟩) ?_
 . refine p7 hda λ ok aL=>⟨aU (by rw[ra.len];omega),?_⟩
   refine gZ (λ r=> .int (r.getD j 0)) aL ra (λ e r hr he K' q=>⟨_,rfl,aM he (eJ (by rw[hA.dh r hr];exact hj)) q⟩) ?_;rw[za];exact c8 rfl q
 . have e:(List.range w).map (λ j=>cf (Mx.ox A j))=(Mx.cF A w).map cf:=by unfold Mx.cF;rw[Se];rfl
   rw[e];exact k
def kT:c_:=λ ds st K=>∃(d:D) (A B:List (List Int)) (m n p:Nat),ds=[cW A,d]/\g6 st d B/\Mx.bK m n A/\Mx.bK n p B/\1<=n/\m<=1000/\n<=1000/\p<=1000/\(∀i k l j,i<m->k<n->l<n->j<p->IntMulOk (Mx.g A i k) (Mx.g B l j))/\K (.lst ((Mx.mulM A B p).map cf)) st
def k_:List Str:=["_law_one","_law_other"]
def zo:DS:=(cP (cC (c5 (ae 0)) [none,some 1] (aQ 0) b_ (bV dB (af (cC (c5 (aK kD (af (ae 1) ak))) [none,some 0] (aQ 0) b_ (aK mh (af (ae 1) (af (ae 0) ak)))) ak))))
def GZ{A B:List (List Int)}{m n p:Nat}(hA:Mx.bK m n A)(hB:Mx.bK n p B):A.map (λ r=>cf ((Mx.cF B p).map (Mx.dX r)))=(Mx.mulM A B p).map cf:=by
 have iT:=Mx.jV hB
 have e:A.map (λ r=>(Mx.cF B p).map (Mx.dX r))=Mx.mulM A B p:=by
  refine Mx.bK.ext ⟨by rw[Rw];exact hA.len,λ r hr=>?_⟩ (Mx.yx hA hB) λ i j hi hj=>?_
  . obtain⟨q,_,rfl⟩:=RZ.mp hr;rw[Rw];exact iT.len
  . rw[Mx.yn hA hB hi];have lA:=hA.len;have lT:=iT.len
    have e0:(A.map λ r=>(Mx.cF B p).map (Mx.dX r)).getD i []=(Mx.cF B p).map (Mx.dX (A.getD i [])):=by
     rw[Mx.ax (by rw[Rw];omega),Th,Mx.ax (show i<A.length by omega)]
    have e2:(Mx.cF B p)[j]'(by omega)=(Mx.cF B p).getD j []:=(Mx.ax _).symm;unfold Mx.g;rw[e0,Mx.ax (by rw[Rw];omega),Th,e2,Mx.wB (by rw[hA.row hi,iT.row hj]),iT.row hj]
    exact Mx.aq λ k hk=>by
     have:=Mx.ji hB hk hj;unfold Mx.g at this;rw[this]
 rw[<-e,Se];rfl
def xS:Rv kT 2 zo k_:=by
 rintro ds st K ⟨d,A,B,m,n,p,rfl,hd,hA,hB,n1,m9,n9,p9,ok,k⟩;refine⟨rfl,?_⟩;have lA:=hA.len;have iT:=Mx.jV hB;have lT:=iT.len;refine fW ⟨aU (by rw[Rw];omega),?_⟩;refine gZ (λ r=>cf ((Mx.cF B p).map (Mx.dX r))) trivial cq.tup (λ e r hr he K' q=>⟨_,rfl,?_⟩) ?_
 . refine⟨d,B,n,p,rfl,hd,hB,n1,n9,p9,ke ⟨aU (by rw[Rw];omega),?_⟩⟩;have lr:=hA.dh r hr;refine gZ (λ s=> .int (Mx.dX r s)) trivial cq.tup (λ e2 s hs he2 K' t=>⟨_,rfl,_,_,r,s,rfl,he,he2,by omega,λ x hx y hy=>?_,t⟩) ?_
   . obtain⟨i,hi,rfl⟩:=RQ.mp hr;obtain⟨k,hk,rfl⟩:=RQ.mp hx;obtain⟨j,hj,rfl⟩:=RQ.mp hs;have ls:=iT.dh _ hs;obtain⟨l,hl,rfl⟩:=RQ.mp hy;have h1:=ok i k l j (by omega) (by omega) (by omega) (by omega);have h2:=Mx.ji hB (i:=l) (j:=j) (by omega) (by omega);rw[<-h2]at h1;unfold Mx.g at h1;rw[Mx.ax hi,Mx.ax hk,Mx.ax hj,Mx.ax hl]at h1;exact h1
   have ed:(Mx.cF B p).map (λ s=>D.int (Mx.dX r s))=ay ((Mx.cF B p).map (Mx.dX r)):=by unfold ay;rw[Se];rfl
   rw[ed];exact c8 rfl q
 . rw[GZ hA hB];exact k
def sA:c_:=λ ds st K=>∃(n s:Nat) (b:Int),ds=[.ref n,.int s]/\Hk st n b/\b<=500000000/\1<=s/\s<=8/\∀(T B:List (List Int)) st',Mx.TB s T B->(∀r∈T,∀x∈r,x.natAbs<=3^11)->(∀r∈B,∀x∈r,x.natAbs<=3^11)->Hk st' n (b+50)->XU st n st'->K (.tup [mT T,mT B]) st'
def oV:List Str:=["_law_hand_here","_law_size","_law_turn_here","_law_back","_law_k","_law_i","_law_j","_law_many","_law_row"]
def Dn:DS:=(aI (bc 2 (je (dF (af (ae 1) ak)) [none,some 1] (aQ 0) b_ (cC (dF (af (ae 1) ak)) [none,some 0] (aQ 0) b_ (bV pH (af (aw iL (ae 1) (ae 0)) ak)))))
 (aI (bc 3 (je (dF (af (ae 1) ak)) [none,some 1] (aQ 0) b_ (je (dF (af (ae 1) ak)) [none,some 0] (aQ 0) b_ (bV pH (af (aw iL (ae 1) (ae 0)) ak)))))
 (aI (kH (dF (af (aw fy (aw dz (ae 1) (aK cA (af (ae 0) (af (dC (.int 4)) ak)))) (bV pH (af (aw uu (ae 1) (dC (.int 1))) ak))) ak)) (aQ 4) (aI (bc 5 (aK cA (af (ae 0) (af (ae 1) ak))))
 (aI (bc 6 (aw i4 (aw dz (aw dz (ae 5) (dC (.int 1))) (aK cA (af (ae 0) (af (aw mx (ae 1) (dC (.int 1))) ak)))) (ae 1)))
 (aI (bc 7 (aw bI (jR (af (td mn (dC (.int 2))) (af (td mn (dC (.int 1))) (af (dC (.int 1)) (af (dC (.int 1)) ak))))) (aK cA (af (ae 0) (af (dC (.int 4)) ak)))))
 (aI (f_ (ae 2) (ae 5) (cC (vQ (af (aw bI (ae 2) (ae 5)) (af (aw bI (ae 2) (ae 6)) ak))) [none,none,some 7] (kr 0 1) b_ (aw dz (ae 0) (aw fy (ae 2) (ae 1)))))
 (kH (c5 (ae 3)) (aQ 8) (f_ (ae 8) (ae 6) (aw mx (aw bI (ae 8) (ae 6)) (aw fy (ae 7) (aw bI (ae 8) (ae 5)))))))))))
 (qH 2 (u7 3 (cP (mF (af (ae 2) (af (ae 3) ak)))))))))
structure m4(st:ag)(L:Nat)(cs:List Nat)(A:List (List Int)):Prop where
 top:st[L]?=some (.lst (cs.map D.ref))
 nd:cs.Nodup
 ne:L∉cs
 len:cs.length=A.length
 row:∀(i c:Nat) (r:List Int),cs[i]?=some c->A[i]?=some r->st[c]?=some (.lst (ay r))
def m4.same{st st':ag}{L:Nat}{cs:List Nat}{A:List (List Int)}(h:m4 st L cs A)(s:∀m,m=L\/m∈cs->st'[m]?=st[m]?):m4 st' L cs A:=
 ⟨(s L (.inl rfl)).trans h.top,h.nd,h.ne,h.len,λ i c r e1 e2=>(s c (.inr (Sb e1))).trans (h.row i c r e1 e2)⟩
def m4.at{st:ag}{L:Nat}{cs:List Nat}{A:List (List Int)}(h:m4 st L cs A){i:Nat}(hi:i<A.length):∃c,cs[i]?=some c/\c∈cs/\fP (cs.map D.ref) (i:Int)=some (.ref c)/\st[c]?=some (.lst (ay (A.getD i []))):=by
 have hl:=h.len;have e:cs[i]?=some cs[i]:=RJ (by omega);refine⟨cs[i],e,R0 _,j7 (by rw[RV,e];rfl),?_⟩;rw[Mx.ax hi];exact h.row i _ _ e (RJ hi)
def m4.lt{st:ag}{L:Nat}{cs:List Nat}{A:List (List Int)}(h:m4 st L cs A){c:Nat}(hc:c∈cs):c<st.length:=by
 obtain⟨i,hi,rfl⟩:=RQ.mp hc;obtain⟨c',e,_,_,e2⟩:=h.at (i:=i) (by rw[<-h.len];exact hi);rw[RJ hi]at e;cases e;exact(Rx.mp e2).1
def m4.upd{st st':ag}{n L:Nat}{cs:List Nat}{A:List (List Int)}(h:m4 st L cs A)(U:Upd st n st')(hL:n≠L)(hc:n∉cs):m4 st' L cs A:=
 h.same λ m hm=>U.same m λ e=>by
  subst e;exact hm.elim hL hc
def GV{cs:List Nat}{i j c:Nat}(h:cs.Nodup)(e1:cs[i]?=some c)(e2:cs[j]?=some c):i=j:=by
 obtain⟨h1,e1⟩:=Rx.mp e1;obtain⟨h2,e2⟩:=Rx.mp e2;exact(List.getElem_inj h).mp (e1.trans e2.symm)
def m4.set{st:ag}{L i c:Nat}{cs:List Nat}{A:List (List Int)}{r:List Int}(h:m4 st L cs A)(e:cs[i]?=some c):m4 (st.set c (.lst (ay r))) L cs (A.set i r):=by
 have hc:=Sb e;have hlt:=h.lt hc;have hne:c≠L:=λ z=>h.ne (z▸hc);refine⟨by rw[RB hne];exact h.top,h.nd,h.ne,by rw[RY];exact h.len,λ j d s e1 e2=>?_⟩;by_cases hj:i=j
 . subst hj;rw[e]at e1;cases e1;rw[RK (by rw[<-h.len];exact(Rx.mp e).1)]at e2;cases e2;exact RK hlt
 . rw[RB hj]at e2;have hcd:c≠d:=λ z=>hj (GV h.nd e (z▸e1));rw[RB hcd];exact h.row j d s e1 e2
def K9{p o i:Nat}{q:Int}(hp:p<i)(q0:0<=q)(q1:q<(i:Int)-1)(ho:((p:Int)+1+q).fmod (i:Int)=(o:Int)):p≠o:=λ z=>by
 subst z;rw[Int.fmod_eq_emod_of_nonneg _ (by omega)]at ho;by_cases h:(p:Int)+1+q<i
 . rw[Int.emod_eq_of_lt (by omega) h]at ho;omega
 . rw[<-Int.sub_emod_right,Int.emod_eq_of_lt (by omega) (by omega)]at ho;omega
def vX{A:List (List Int)}{k:Nat}(h:k<A.length):fP (A.map av) (k:Int)=some (av (A.getD k [])):=by
 refine j7 ?_;rw[RV,RJ h,Mx.ax h];rfl
def D2{n i:Nat}{d:D}{rest:List D}(h:d::rest=(dM 0 n).drop i):i<n/\d= .int (i:Int)/\rest=(dM 0 n).drop (i+1):=by
 have hi:i<n:=by
  rcases Ui i n with z|z
  . exact z
  . rw[Tv (by rw[cK];exact z)]at h;cases h
 have hl:i<(dM 0 n).length:=by rw[cK];exact hi
 rw[SQ hl]at h;obtain⟨h1,h2⟩:=UA h;refine⟨hi,?_,h2⟩;have e:=sM (lo:=0) (n:=n) (k:=i);rw[RF hi,RJ hl]at e;rw[h1];rw[TV]at e;exact SD e
def Ak{m j:Nat}(h:j<m):lV m (j:Int)=some j:=by
 unfold lV;simp only[Int.natCast_nonneg,R6];simp[h]
def t9{σc:ck}{st:ag}{te:DE}{s i:Nat}{K:List D->ag->Prop}(te_:∀(j:Nat) K',K' (.int (Mx.dl j i)) st->te (σc.set 0 (some (.int (j:Int)))) st K')(k:K (ay (Mx.d_ s i)) st):dP (aQ 0) b_ te (λ _=>True) σc (dM 0 s) [] st K:=by
 refine gQ (λ j=> .int (Mx.dl j i)) s (λ j hj K' q=>⟨_,rfl,te_ j K' q⟩) ?_;have:(List.range s).map (λ j=>D.int (Mx.dl j i))=ay (Mx.d_ s i):=by unfold Mx.d_ ay;rw[Se];rfl
 rw[this];exact k
def Kp{M:Nat}{r s:List Int}{c:Int}(hr:∀x∈r,x.natAbs<=M)(hs:∀x∈s,x.natAbs<=M)(hc:c.natAbs<=2):∀x∈Mx.dN r c s,x.natAbs<=M*3:=λ x hx=>by
 unfold Mx.dN at hx;obtain⟨k,hk,e⟩:=RQ.mp hx;rw[List.getElem_zipWith]at e;rw[List.length_zipWith]at hk;have h1:=hr _ (R0 (RW hk (Nat.min_le_left _ _)));have h2:=hs _ (R0 (RW hk (Nat.min_le_right _ _)));rw[<-e];refine RD (Int.natAbs_add_le _ _) ?_;rw[Ss];have:=Sq hc h2;omega
def unit_eq{i j:Nat}{st:ag}{K':DK}(q:K' (.int (Mx.dl j i)) st):iL (.int (i:Int)) (.int (j:Int)) st λ d st1=>pH [d] st1 K':=by
 refine eq2 (λ h=>ni ?_) λ h=>ni ?_
 . have:i=j:=by omega
   subst this;rw[Mx.dS]at q;exact q
 . rw[Mx.dO (by omega)]at q;exact q
def yX{N:Nat}:∀r∈Mx.units N,∀x∈r,x.natAbs<=1:=λ r hr x hx=>by
 have iu:=Mx.iP N;obtain⟨i,hi,rfl⟩:=RQ.mp hr;obtain⟨c,hc,rfl⟩:=RQ.mp hx;have li:i<N:=by rw[<-iu.len];exact hi
 have lc:c<N:=by rw[<-iu.dh _ hr];exact hc
 have e:=Mx.fN li lc;unfold Mx.g at e;rw[Mx.ax hi,Mx.ax hc]at e;rw[e];unfold Mx.dl;split<;>decide
def HA{C:DE}{B:DS}{E:kg}{σ:ck}{st:ag}{p:Int}(h5:σ[5]?=some (some (.int p)))(h:C σ st λ d st2=>dz (.int (p+1)) d st2 λ e st3=>ae 1 σ st3 λ f st4=>i4 e f st4 λ g st5=>B E (σ.set 6 (some g)) st5):aI (bc 6 (aw i4 (aw dz (aw dz (ae 5) (dC (.int 1))) C) (ae 1))) B E σ st:=
 show ae 5 σ st λ d st1=>dz d (.int 1) st1 λ e st2=>C σ st2 λ d' st3=>dz e d' st3 λ e' st4=>ae 1 σ st4 λ f st5=>i4 e' f st5 λ g st6=>B E (σ.set 6 (some g)) st6 from ux h5 (gG h)
def Hx{B:DS}{E:kg}{σ:ck}{st:ag}{p q i:Int}(h1:σ[1]?=some (some (.int i)))(hi:i≠0)(h:B E (σ.set 6 (some (.int ((p+q).fmod i)))) st):dz (.int p) (.int q) st λ e st3=>ae 1 σ st3 λ f st4=>i4 e f st4 λ g st5=>B E (σ.set 6 (some g)) st5:=
 gG (ux h1 (ot hi h))
def BQ:Rv sA 2 Dn oV:=by
 rintro ds st K ⟨n,s,b,rfl,B,hb,s1,s8,k⟩;refine⟨rfl,?_⟩;have hn:=B.lt;have iu:=Mx.iP s;refine eK ⟨by omega,by omega⟩ ⟨aU (by rw[cK];omega),?_⟩;rw[R6];refine gQ (λ i=>av (Mx.d_ s i)) s (λ i hi K' q=>⟨_,rfl,?_⟩) ?_
 . refine eK ⟨by omega,by omega⟩ ⟨aU (by rw[cK];omega),?_⟩;rw[R6];exact t9 (λ j K' q=>unit_eq q) q
 have eu:(List.range s).map (λ i=>av (Mx.d_ s i))=(Mx.units s).map av:=by unfold Mx.units;rw[Se];rfl
 rw[eu];generalize hs1:st++[Cell.lst ((Mx.units s).map av)]=st1;have l1:st1.length=st.length+1:=by rw[<-hs1];simp
 have e1:st1[st.length]?=some (.lst ((Mx.units s).map av)):=by rw[<-hs1];simp
 have X1:XU st n st1:=by rw[<-hs1];exact XU.ext Ext.push
 have B1:Hk st1 n b:=B.cell (by rw[<-hs1];exact RH hn);clear hs1;refine eK ⟨by omega,by omega⟩ ⟨aU (by rw[cK];omega),?_⟩;rw[R6];refine gD (λ rest acc st'=>∃i:Nat,i<=s/\rest=(dM 0 s).drop i/\acc=((List.range i).map λ k=>st1.length+k).map D.ref/\st'=st1++(List.range i).map λ k=>Cell.lst (ay (Mx.d_ s k))) ?_ ?_ _ _ _ ⟨0,Sg _,rfl,rfl,by simp⟩;rotate_left 1
 . rintro d rest acc st' ⟨i,hi,hrest,rfl,rfl⟩ next
   obtain⟨his,rfl,rfl⟩:=D2 hrest;refine⟨trivial,_,rfl,?_⟩;refine eK ⟨by omega,by omega⟩ ⟨aU (by rw[cK];omega),?_⟩;rw[R6];refine t9 (λ j K' q=>unit_eq q) ?_;show dP _ _ _ _ _ _ _ _ _;refine next _ _ ⟨i+1,his,rfl,?_,?_⟩
   . rw[UI,SY,SY];simp
   . rw[UI,SY,<-Tw];rfl
 rintro acc st2 ⟨i,hi,hrest,rfl,rfl⟩
 have his:i=s:=by
  have:=Tj List.length hrest;rw[SS,cK,TN]at this;omega
 subst his;refine⟨trivial,?_⟩;obtain⟨cs,hcs⟩:∃cs,(List.range i).map (λ k=>st1.length+k)=cs:=⟨_,rfl⟩
 have csl:cs.length=i:=by rw[<-hcs];simp
 have csa:∀k,k<i->cs[k]?=some (st1.length+k):=λ k hk=>by rw[<-hcs,RV,UU hk];rfl
 have csm:∀c∈cs,st1.length<=c/\c<st1.length+i:=λ c hc=>by
  rw[<-hcs]at hc;obtain⟨k,hk,rfl⟩:=RZ.mp hc;rw[T4]at hk;omega
 have csn:cs.Nodup:=by
  rw[<-hcs];exact List.Pairwise.map _ (λ a b h=>by show st1.length+a≠st1.length+b;omega) List.nodup_range
 rw[hcs];generalize hs2:st1++(List.range i).map (λ k=>Cell.lst (ay (Mx.d_ i k)))=st2;have l2:st2.length=st1.length+i:=by rw[<-hs2];simp
 have g2:∀m,m<st1.length->st2[m]?=st1[m]?:=λ m hm=>by rw[<-hs2];exact RH hm
 have c2:∀k,k<i->st2[st1.length+k]?=some (.lst (ay (Mx.d_ i k))):=λ k hk=>by
  rw[<-hs2,Sh (by omega),Nat.add_sub_cancel_left,RV,UU hk];rfl
 clear hs2;generalize hs3:st2++[Cell.lst (cs.map D.ref)]=st3;have g3:∀m,m<st2.length->st3[m]?=st2[m]?:=λ m hm=>by rw[<-hs3];exact RH hm
 have L3:st3[st2.length]?=some (.lst (cs.map D.ref)):=by rw[<-hs3];simp
 have l3:st3.length=st2.length+1:=by rw[<-hs3];simp
 clear hs3
 have R3:m4 st3 st2.length cs (Mx.units i):=⟨L3,csn,λ h=>by have:=csm _ h;omega,by rw[csl,iu.len],λ k c r h1 h2=>by
  have hk:k<i:=by rw[<-iu.len];exact(Rx.mp h2).1
  rw[csa k hk]at h1;cases h1
  have:r=Mx.d_ i k:=by
   unfold Mx.units at h2;rw[RV,UU hk]at h2;exact(SD h2).symm
  rw[this,g3 _ (by omega)];exact c2 k hk⟩
 have B3:Hk st3 n b:=B1.cell (by rw[g3 n (by omega),g2 n (by omega)]);have e3:st3[st.length]?=some (.lst ((Mx.units i).map av)):=by rw[g3 _ (by omega),g2 _ (by omega)];exact e1
 have X3:XU st n st3:=X1.trans ⟨by omega,λ m hm _=>by rw[g3 m (by omega),g2 m hm]⟩;have nL:n≠st2.length:=by omega
 have nC:n∉cs:=λ h=>by have:=csm _ h;omega
 have tL:st.length≠st2.length:=by omega
 have tC:st.length∉cs:=λ h=>by have:=csm _ h;omega
 have loL:st.length<=st2.length:=by omega
 have loC:∀c∈cs,st.length<=c:=λ c h=>by have:=csm c h;omega
 generalize st2.length=L at R3 nL tL loL;clear g2 g3 c2 L3 l2 l3 e1 X1 B1 csa csm csn hcs hrest;refine⟨n,4,_,rfl,B3,by omega,by decide,by decide,λ r4 st4 a0 a1 B4 U4=>gG (ED (ni (f7 (rk (by split<;>decide) (by split<;>decide)) ?_)))⟩
 obtain⟨m,em,m11,m2⟩:∃m:Nat,((i:Int)+r4)*(if decide ((1:Int)<(i:Int))=true then 1 else 0)=(m:Int)/\m<=11/\(0<m->2<=i):=by
  by_cases h:(1:Int)<(i:Int)
  . rw[SX h,RF rfl];exact⟨((i:Int)+r4).toNat,by omega,by omega,by omega⟩
  . rw[Su h,RE (by decide)];exact⟨0,by simp,by omega,by omega⟩
 rw[em];clear em;refine eK ⟨by omega,by omega⟩ ?_;rw[R6];refine lZ m (λ j σ s=>∃(T M:List (List Int)) (v4 v5 v6 v7 v8:Option D),σ=[some (.ref n),some (.int i),some (.ref st.length),some (.ref L),v4,v5,v6,v7,v8]/\s[st.length]?=some (.lst (T.map av))/\m4 s L cs M/\Mx.TB i T M/\(∀r∈T,∀x∈r,x.natAbs<=3^j)/\(∀r∈M,∀x∈r,x.natAbs<=3^j)/\Hk s n (b+1+3*j)/\XU st n s) ?_ ?_ ⟨_,_,none,none,none,none,none,rfl,(U4.same _ (by omega)).trans e3,R3.upd U4 nL nC,Mx.TB.units i,yX,yX,B4.mono (by simp),X3.trans (XU.upd U4)⟩
 . rintro σ s ⟨T,M,v4,v5,v6,v7,v8,rfl,eT,RM,tb,bT,bM,B',X⟩;have up:3^m<=3^11:=R9 (by decide) m11;refine Ba (by rfl) eT ?_
   have RM2:m4 (s.set st.length .dead) L cs M:=RM.same λ q hq=>RB λ z=>by
    rcases hq with h|h
    . exact tL (z.trans h)
    . exact tC (z▸h)
   refine Kb (i:=3) (xss:=M.map ay) rfl RM2.top RM2.nd RM2.ne (by rw[Rw];exact RM2.len) (λ q c xs h1 h2=>?_) ⟨RN rfl,?_⟩
   . rw[RV]at h2;obtain⟨r,er,rfl⟩:=WA.mp h2;exact RM2.row q c r h1 er
   have eM:(M.map ay).map D.lst=M.map av:=by rw[Se];rfl
   rw[eM]
   have kl:∀q,q<st.length->(kill (L::cs) (s.set st.length .dead))[q]?=s[q]?:=λ q hq=>by
    rw[Cr λ z=>by
     rcases RU.mp z with z|z
     . omega
     . have:=loC _ z;omega,RB (by omega)]
   refine k T M _ tb (λ r hr x hx=>RD (bT r hr x hx) up) (λ r hr x hx=>RD (bM r hr x hx) up) ((B'.cell (kl n hn)).mono (by omega)) ⟨by rw[BK,RY];exact X.len,λ q hq hqn=>(kl q hq).trans (X.same q hq hqn)⟩
 rintro j σ s rest hj ⟨T,M,v4,v5,v6,v7,v8,rfl,eT,RM,tb,bT,bM,B',X⟩ next
 have iT:=tb.t;have iM:=tb.b;have i2:=m2 (by omega);clear m2 a0 a1;have lT:=iT.len;have lM:=iM.len;refine⟨_,rfl,?_⟩;refine⟨n,_,_,rfl,B',by omega,by omega,by omega,λ p s5 p0 p1 B5 U5=>?_⟩;obtain⟨p,rfl⟩:=Ts p0;refine HA (p:=(p:Int)) (σ:=[some (.ref n),some (.int i),some (.ref st.length),some (.ref L),some (.int (j:Int)),some (.int (p:Int)),v6,v7,v8]) rfl ?_;refine kQ ⟨n,_,_,rfl,B5,by omega,by omega,by omega,λ q s6 q0 q1 B6 U6=>?_⟩;refine Hx (i:=(i:Int)) rfl (by omega) ?_;obtain⟨o,ho⟩:=Ts (Sw ((p:Int)+1+q) (show(0:Int)<(i:Int) by omega));have o1:=SO ((p:Int)+1+q) (show(0:Int)<(i:Int) by omega);have hpo:p≠o:=K9 (by omega) q0 q1 ho;rw[ho]at o1⊢;refine mr (mr ⟨RN rfl,n,4,_,rfl,B6,by omega,by decide,by decide,λ r7 s7 d0 d1 B7 U7=>?_⟩)
 obtain⟨y,ey,hy⟩:∃y:Int,fP [D.int (-2),.int (-1),.int 1,.int 1] r7=some (.int y)/\y.natAbs<=2:=by
  have:r7=0\/r7=1\/r7=2\/r7=3:=by omega
  rcases this with rfl|rfl|rfl|rfl
  . exact⟨-2,rfl,by decide⟩
  . exact⟨-1,rfl,by decide⟩
  . exact⟨1,rfl,by decide⟩
  . exact⟨1,rfl,by decide⟩
 refine aM rfl ey ?_;have U:=(U5.trans U6).trans U7;have eT7:s7[st.length]?=some (.lst (T.map av)):=(U.same _ (by omega)).trans eT;have RM7:=RM.upd U nL nC;have X7:=X.trans (XU.upd U);clear U5 U6 U7 U B5 B6 eT RM B';have tp:=iT.row (i:=p) (by omega);have to:=iT.row (i:=o) (by omega);have mp:T.getD p []∈T:=by rw[Mx.ax (by omega)];exact R0 _
 have mo:T.getD o []∈T:=by rw[Mx.ax (by omega)];exact R0 _
 refine aM (aJ eT7) (vX (by omega)) (aM (aJ eT7) (vX (by omega)) ?_);refine ug rfl rfl λ ok aL=>⟨aU (by rw[pM,Rw,Rw];omega),?_⟩
 refine comp_map (g:=λ d=>match d with| .tup [.int x,.int z]=> .int (x+y*z)|_=> .aF) (aL s7 rfl rfl) _ (λ d hd K' q=>?_) ?_
 . obtain⟨x,z,_,_,rfl⟩:=sJ hd;exact⟨_,rfl,f7 (ij (by omega) (by omega)) (gG q)⟩
 have ea:(iy (ay (T.getD p [])) (ay (T.getD o []))).map (λ d=>match d with| .tup [.int x,.int z]=> .int (x+y*z)|_=> .aF)=ay (Mx.dN (T.getD p []) y (T.getD o [])):=uA _ _;rw[ea];refine jP eT7 (Ak (by rw[Rw];omega)) ?_;have es:(T.map av).set p (av (Mx.dN (T.getD p []) y (T.getD o [])))=(T.set p (Mx.dN (T.getD p []) y (T.getD o []))).map av:=by rw[W3]
 have lt7:=(Rx.mp eT7).1;generalize hs8:s7.set st.length (.lst ((T.map av).set p (av (Mx.dN (T.getD p []) y (T.getD o [])))))=s8;have eT8:s8[st.length]?=some (.lst ((T.set p (Mx.dN (T.getD p []) y (T.getD o []))).map av)):=by rw[<-hs8,RK lt7,es]
 have g8:∀q,q≠st.length->s8[q]?=s7[q]?:=λ q hq=>by rw[<-hs8,RB (RO hq)]
 have X8:XU st n s8:=by rw[<-hs8];exact X7.set (Ry _)
 clear hs8
 have RM8:m4 s8 L cs M:=RM7.same λ q hq=>g8 q λ z=>by
  rcases hq with h|h
  . exact tL (z.symm.trans h)
  . exact tC (z▸h)
 have B8:Hk s8 n (b+1+3*j+3):=(B7.cell (g8 n (by omega))).mono (by omega);have p3:3^j<=3^(j+1):=R9 (by decide) (Ut _);have e3j:3^(j+1)=3^j*3:=Tu _ _
 have iT2:Mx.bK i i (T.set p (Mx.dN (T.getD p []) y (T.getD o []))):=⟨by rw[RY];exact lT,λ r hr=>by
  rcases Sy hr with h|h
  . exact iT.dh r h
  . rw[h,Mx.i9 (by omega)];exact tp⟩
 have bT2:∀r∈T.set p (Mx.dN (T.getD p []) y (T.getD o [])),∀x∈r,x.natAbs<=3^(j+1):=λ r hr x hx=>by
  rcases Sy hr with h|h
  . exact RD (bT r h x hx) p3
  . rw[h]at hx;rw[e3j];exact Kp (bT _ mp) (bT _ mo) hy x hx
 have tb2:Mx.TB i (T.set p (Mx.dN (T.getD p []) y (T.getD o []))) (M.map (Mx.wc o y p)):=tb.QN (by omega) (by omega) (RO hpo);generalize T.set p (Mx.dN (T.getD p []) y (T.getD o []))=T2 at eT8 iT2 bT2 tb2;refine pE (aJ RM8.top) λ ok2 hok2=>?_;refine ko (λ rest σ s=>∃(q:Nat) (M':List (List Int)) (v8:Option D),q<=i/\rest=(cs.map D.ref).drop q/\σ=[some (.ref n),some (.int i),some (.ref st.length),some (.ref L),some (.int (j:Int)),some (.int (p:Int)),some (.int (o:Int)),some (.int y),v8]/\s[st.length]?=some (.lst (T2.map av))/\m4 s L cs M'/\Mx.bK i i M'/\(∀r∈M',∀x∈r,x.natAbs<=3^(j+1))/\(∀k,k<i->M'.getD k []=if k<q then Mx.wc o y p (M.getD k [])else M.getD k [])/\Hk s n (b+1+3*j+3)/\XU st n s) ?_ ?_ _ _ _ ⟨0,M,v8,Sg _,rfl,rfl,eT8,RM8,iM,λ r hr x hx=>RD (bM r hr x hx) p3,λ k _=>(RE (Sd k)).symm,B8,X8⟩
 . rintro σ s9 ⟨q,M',v8,hq,hrest,rfl,eT9,RM9,iM9,bM9,bq,B9,X9⟩
   have hqi:q=i:=by
    have:=Tj List.length hrest;rw[SS,Rw,csl,TN]at this;omega
   have eM:M'=M.map (Mx.wc o y p):=by
    refine Wm (by rw[Rw,lM,iM9.len]) λ k h1 h2=>?_;rw[Rw]at h2;have:=bq k (by omega);rw[RF (by omega),Mx.ax h1,Mx.ax h2]at this;rw[this,Th]
   rw[eM]at RM9 bM9;exact⟨hok2 _ (aJ RM9.top),next _ _ ⟨T2,_,_,_,_,_,_,rfl,eT9,RM9,tb2,bT2,bM9,B9.mono (by omega),X9⟩⟩
 . rintro d rest σ s9 ⟨q,M',v8,hq,hrest,rfl,eT9,RM9,iM9,bM9,bq,B9,X9⟩ DR;have lM9:=iM9.len
   have hqi:q<i:=by
    have:=Tj List.length hrest;rw[Sl,SS,Rw,csl]at this;omega
   obtain⟨c,ec,mc,_,ecc⟩:=RM9.at (i:=q) (by omega);have hcl:q<(cs.map D.ref).length:=by rw[Rw,csl];exact hqi
   rw[SQ hcl]at hrest;obtain⟨h1,rfl⟩:=UA hrest
   have hd:d= .ref c:=by
    rw[h1,Th];have:=Rx.mp ec;rw[this.2]
   subst hd;have rq:=iM9.row (i:=q) hqi;have eR:M'.getD q []=M.getD q []:=by rw[bq q hqi,RE (S0 q)]
   have b0:∀x∈M'.getD q [],x.natAbs<=3^j:=by rw[eR];exact bM _ (by rw[Mx.ax (by omega)];exact R0 _)
   generalize hR:M'.getD q []=R at ecc rq b0 eR;have eS:Mx.wc o y p (M.getD q [])=R.set o (R.getD o 0-y*R.getD p 0):=by rw[<-eR];rfl
   refine⟨hok2 _ (aJ RM9.top),_,rfl,?_⟩;refine aM (aJ ecc) (eJ (by omega)) (aM (aJ ecc) (eJ (by omega)) (f7 (ij (by omega) (by omega)) (kQ ?_)));refine jP ecc (Ak (by rw[Rw];omega)) ?_;have es2:(ay R).set o (.int (R.getD o 0-y*R.getD p 0))=ay (R.set o (R.getD o 0-y*R.getD p 0)):=by unfold ay;rw[W3]
   rw[es2]
   have hx:(R.getD o 0-y*R.getD p 0).natAbs<=3^(j+1):=by
    have h1:=b0 _ (getD_mem (r:=R) (k:=o) (by omega));have h2:=b0 _ (getD_mem (r:=R) (k:=p) (by omega));have h3:=Int.natAbs_sub_le (R.getD o 0) (y*R.getD p 0);rw[Ss]at h3;have h4:=Sq hy h2;omega
   generalize R.getD o 0-y*R.getD p 0=v at hx eS
   have bR:∀x∈R.set o v,x.natAbs<=3^(j+1):=λ x hx2=>by
    rcases Sy hx2 with h|h
    . exact RD (b0 x h) p3
    . rw[h];exact hx
   have cn:c≠n:=λ z=>nC (z▸mc);have ct:c≠st.length:=λ z=>tC (z▸mc);refine DR _ _ ⟨q+1,M'.set q (R.set o v),_,hqi,rfl,rfl,(RB ct).trans eT9,RM9.set ec,⟨by rw[RY];exact lM9,λ r hr=>?_⟩,λ r hr x hx=>?_,λ k hk2=>?_,B9.cell (RB cn),X9.set (loC c mc)⟩
   . rcases Sy hr with h|h
     . exact iM9.dh r h
     . rw[h,RY];exact rq
   . rcases Sy hr with h|h
     . exact bM9 r h x hx
     . rw[h]at hx;exact bR x hx
   . by_cases hkq:k=q
     . subst hkq;rw[RF (Si k),eS,RC,RK (by omega)];rfl
     . have:(M'.set q (R.set o v)).getD k []=M'.getD k []:=by
        rw[RC,RB (RO hkq),RC]
       rw[this,bq k hk2];by_cases h:k<q
       . rw[RF h,RF (by omega)]
       . rw[RE h,RE (by omega)]
def pJ:c_:=λ ds st K=>∃(n:Nat) (b:Int),ds=[.ref n]/\Hk st n b/\b<=500000000/\∀(s f m:Nat) st',1<=s->s<=8->f<=s->1<=m->m<=8->f<=m->Hk st' n (b+10)->Upd st n st'->K (.tup [.int s,.int f,.int m]) st'
def mi:List Str:=["_law_hand_here","_law_size","_law_fixed"]
def AO:DS:=(aI (bc 1 (aw bI (jR (af (aw dz (dC (.int 1)) (aK cA (af (ae 0) (af (dC (.int 4)) ak)))) (af (aw dz (dC (.int 6)) (aK cA (af (ae 0) (af (dC (.int 3)) ak)))) ak))) (bV pH (af (aw iL (aK cA (af (ae 0) (af (dC (.int 8)) ak))) (dC (.int 0))) ak))))
 (aI (bc 2 (aK cA (af (ae 0) (af (aw dz (ae 1) (dC (.int 1))) ak))))
 (cP (mF (af (ae 1) (af (ae 2) (af (bV xR (af (dC (.int 8)) (af (aw dz (bV yg (af (dC (.int 1)) (af (ae 2) ak))) (aK cA (af (ae 0) (af (dC (.int 3)) ak)))) ak))) ak)))))))
def zl:Rv pJ 1 AO mi:=by
 rintro ds st K ⟨n,b,rfl,B,hb,k⟩;refine⟨rfl,?_⟩;refine⟨n,4,b,rfl,B,by omega,by decide,by decide,λ r1 st1 a0 a1 B1 U1=>gG ⟨n,3,_,rfl,B1,by omega,by decide,by decide,λ r2 st2 b0 b1 B2 U2=>gG ⟨RN rfl,?_⟩⟩⟩;refine⟨n,8,_,rfl,B2,by omega,by decide,by decide,λ r3 st3 c0 c1 B3 U3=>?_⟩;have U:=(U1.trans U2).trans U3
 have go:∀s:Nat,1<=s->s<=8->(aI (bc 2 (aK cA (af (ae 0) (af (aw dz (ae 1) (dC (.int 1))) ak)))) (cP (mF (af (ae 1) (af (ae 2) (af (bV xR (af (dC (.int 8)) (af (aw dz (bV yg (af (dC (.int 1)) (af (ae 2) ak))) (aK cA (af (ae 0) (af (dC (.int 3)) ak)))) ak))) ak)))))) {nx:=λ _ st'=>K .aF st',rt:=K} [some (.ref n),some (.int s),none] st3:=λ s s1 s8=>by
  refine gG ⟨n,_,_,rfl,B3,by omega,by omega,by omega,λ r4 st4 d0 d1 B4 U4=>?_⟩;obtain⟨f,rfl⟩:=Ts d0;refine Mi ⟨n,3,_,rfl,B4,by omega,by decide,by decide,λ r5 st5 e0 e1 B5 U5=>gG (LF ⟨RN rfl,?_⟩)⟩
  obtain⟨m,em,m1,m8,fm⟩:∃m:Nat,(if(if(f:Int)>1 then(f:Int)else 1)+r5<8 then(if(f:Int)>1 then(f:Int)else 1)+r5 else 8)=(m:Int)/\1<=m/\m<=8/\f<=m:=by
   have h1:(1:Int)<=(if(f:Int)>1 then(f:Int)else 1):=by split<;>omega
   have h2:(f:Int)<=(if(f:Int)>1 then(f:Int)else 1):=by split<;>omega
   generalize(if(f:Int)>1 then(f:Int)else 1)=g at h1 h2;split
   . exact⟨(g+r5).toNat,by omega,by omega,by omega,by omega⟩
   . exact⟨8,rfl,by decide,by decide,by omega⟩
  rw[em];exact k s f m st5 s1 s8 (by omega) m1 m8 fm (B5.mono (by omega)) (U.trans (U4.trans U5))
 refine eq2 (λ h=>ni (aM rfl rfl ?_)) λ h=>ni (aM rfl rfl ?_)
 . obtain⟨x,rfl⟩:=Ts b0;exact go (6+x) (by omega) (by omega)
 . obtain⟨x,rfl⟩:=Ts a0;exact go (1+x) (by omega) (by omega)
def pK:c_:=λ ds st K=>∃(n f m:Nat) (b:Int),ds=[.ref n,.int f,.int m]/\Hk st n b/\b<=500000000/\f<=8/\m<=8/\∀(R:List (List Int)) st',Mx.bK m f R->(∀k,k<f->k<m->Mx.g R k k≠0/\∀c,k<c->Mx.g R k c=0)->(∀r∈R,∀x∈r,x.natAbs<=4)->Hk st' n (b+100)->XU st n st'->K (.lst (R.map av)) st'
def mS:List Str:=["_law_hand_here","_law_fixed","_law_many","_law_rows","_law_k","_law_row"]
def Ac:DS:=(aI (bc 3 (vY ak))
 (aI (kH (dF (af (ae 2) ak)) (aQ 4) (aI (bc 5 (cC (dF (af (ae 1) ak)) [none,some 0] (aQ 0) b_ (aw mx (aK cA (af (ae 1) (af (dC (.int 7)) ak))) (dC (.int 3)))))
 (aI (gn (cu (aw tx (ae 4) (ae 1))) (bc 5 (aw dz (aw dz (jU (ae 5) iI (mY (ae 4))) (jR (af (aw fy (aw dz (dC (.int 1)) (aK cA (af (ae 0) (af (dC (.int 4)) ak)))) (aw bI (jR (af (dC (.int 1)) (af (td mn (dC (.int 1))) ak))) (aK cA (af (ae 0) (af (dC (.int 2)) ak))))) ak))) (aw fy (jR (af (dC (.int 0)) ak)) (aw mx (aw mx (ae 1) (ae 4)) (dC (.int 1)))))) fR)
 (kX (lK (ae 3) (ae 5))))))
 (qH 3 (cP (ae 3)))))
def F3{n:Nat}{b m o:Int}{xs:List D}{σc:ck}{st:ag}{te:DE}{K:List D->ag->Prop}(te_:∀(x:D) (st':ag) (K':DK),cA [.ref n,.int m] st' (λ d s=>∃i,d= .int i/\K' (.int (i-o)) s)->te (σc.set 0 (some x)) st' K')(B:Hk st n b)(hb:b<=900000000)(m0:0<m)(m1:m<2^62)(hx:xs.length<=8)(hs:(λ(x:D)=>aQ 0 x σc)=λ x=>some (σc.set 0 (some x)))
 (k:∀r st',r.length=xs.length->(∀x∈r,-o<=x/\x<m-o)->Hk st' n (b+8)->Upd st n st'->K (ay r) st'):dP (aQ 0) b_ te (λ _=>True) σc xs [] st K:=by
 refine gD (λ rest acc st'=>∃l:List Int,acc=ay l/\l.length+rest.length=xs.length/\(∀x∈l,-o<=x/\x<m-o)/\Hk st' n (b+l.length)/\Upd st n st') ?_ ?_ _ _ _ ⟨[],rfl,by simp,by simp,B.mono (by simp),Upd.refl⟩
 . rintro acc st' ⟨l,rfl,hl,h2,B',U'⟩;have hl:l.length=xs.length:=by simpa using hl
   exact⟨trivial,k l st' hl h2 (B'.mono (by omega)) U'⟩
 . rintro d rest acc st' ⟨l,rfl,hl,h2,B',U'⟩ next
   have hl2:l.length<8:=by simp at hl;omega
   refine⟨trivial,σc.set 0 (some d),congrFun hs d,te_ d st' _ ⟨n,m,_,rfl,B',by omega,m0,m1,λ i st2 i0 i1 B2 U2=>⟨i,rfl,?_⟩⟩⟩;show dP _ _ _ _ _ _ _ _ _;rw[ints_app];refine next _ _ ⟨l++[i-o],rfl,by simp at hl⊢;omega,λ z hz=>?_,B2.mono (by simp;omega),U'.trans U2⟩
   rcases RX.mp hz with hz|hz
   . exact h2 z hz
   . rw[Sm.mp hz];omega
def KN{a:List Int}{j n:Nat}{y:Int}(h:a.length=j)(hy:y≠0):(a++[y]++List.replicate n 0).getD j 0≠0/\∀c,j<c->(a++[y]++List.replicate n 0).getD c 0=0:=by
 refine⟨?_,λ c hc=>?_⟩
 . rw[RC,Tw,Sh (by omega),h,TU];exact hy
 . rw[RC,Sh (by simp;omega),<-RC];exact Mx.eA ..
def zk:Rv pK 3 Ac mS:=by
 rintro ds st K ⟨n,f,m,b,rfl,B,hb,f8,m8,k⟩;refine⟨rfl,?_⟩;have hn:=B.lt;refine⟨RN rfl,?_⟩;refine eK ⟨by omega,by omega⟩ ?_;rw[R6];refine lZ m (λ j σ st'=>∃(R:List (List Int)) (v4 v5:Option D),σ=[some (.ref n),some (.int f),some (.int m),some (.ref st.length),v4,v5]/\st'[st.length]?=some (.lst (R.map av))/\R.length=j/\(∀k,k<f->k<j->Mx.g R k k≠0/\∀c,k<c->Mx.g R k c=0)/\(∀r∈R,r.length=f)/\(∀r∈R,∀x∈r,x.natAbs<=4)/\Hk st' n (b+10*j)/\XU st n st') ?_ ?_ ⟨[],none,none,rfl,by simp,rfl,λ k _ h=>absurd h (Sd k),by simp,by simp,(B.cell (RH hn)).mono (by simp),XU.ext Ext.push⟩
 . rintro σ st' ⟨R,v4,v5,rfl,e,hl,hlo,hA,hbd,B',X⟩;exact Ba (by rfl) e (k R _ ⟨hl,hA⟩ hlo hbd ((B'.cell (RB (by omega))).mono (by omega)) (X.set (Ry _)))
 rintro j σ st' rest hj ⟨R,v4,v5,rfl,e,hl,hlo,hA,hbd,B',X⟩ next
 have hlen:=(Rx.mp e).1;refine⟨_,rfl,?_⟩;refine eK ⟨by omega,by omega⟩ ⟨aU (by rw[cK];omega),?_⟩;rw[R6];refine F3 (n:=n) (m:=7) (o:=3) (λ x st' K' h=>?_) B' (by omega) (by decide) (by decide) (by rw[cK];omega) rfl λ r0 st4 hr0 hr1 B4 U4=>?_
 . obtain⟨n',m',b',e1,h1,h2,h3,h4,h5⟩:=h;cases e1
   exact⟨_,7,b',rfl,h1,h2,h3,h4,λ r s r0 r1 H U=>by
    obtain⟨i,ei,hi⟩:=h5 r s r0 r1 H U;cases ei;exact kQ hi⟩
 rw[cK]at hr0;have e4:st4[st.length]?=some (.lst (R.map av)):=(U4.same _ (by omega)).trans e;have X4:=X.trans (XU.upd U4);dsimp only;refine ny (A:=gn _ _ _) (λ σ s=>∃r:List Int,σ=[some (.ref n),some (.int f),some (.int m),some (.ref st.length),some (.int (j:Int)),some (av r)]/\r.length=f/\(j<f->r.getD j 0≠0/\∀c,j<c->r.getD c 0=0)/\(∀x∈r,x.natAbs<=4)/\s[st.length]?=some (.lst (R.map av))/\Hk s n (b+10*j+10)/\XU st n s) (λ nx hnx=>?_) ?_
 . refine CI (λ h=>ik ?_) λ h=>hnx _ _ ⟨r0,rfl,hr0,λ z=>absurd z (by omega),λ x hx=>by have:=hr1 x hx;omega,e4,B4.mono (by omega),X4⟩;refine qI ?_;rw[rL,<-Vv];refine⟨n,4,_,rfl,B4,by omega,by decide,by decide,λ r5 st5 d0 d1 B5 U5=>gG (mr ⟨RN rfl,n,2,_,rfl,B5,by omega,by decide,by decide,λ r6 st6 g0 g1 B6 U6=>?_⟩)⟩
   obtain⟨s,es,hs,hs0⟩:∃s:Int,fP [D.int 1,.int (-1)] r6=some (.int s)/\s.natAbs<=1/\s≠0:=by
    have:r6=0\/r6=1:=by omega
    rcases this with rfl|rfl
    . exact⟨1,rfl,by decide,by decide⟩
    . exact⟨-1,rfl,by decide,by decide⟩
   refine aM rfl es (f7 (rk (by omega) (by omega)) ⟨RN rfl,pj (aU (by rw[Rw,SG];simp;omega)) ?_⟩);refine PQ (RN rfl) (kQ (kQ (ym ⟨by omega,by omega,aU (by simp;omega)⟩ ?_)));rw[show((f:Int)-(j:Int)-1).toNat=f-j-1 by omega,vD];refine pj (aU (by simp;omega)) ?_;have ea:ay (r0.take j)++[D.int ((1+r5)*s)]++ay (List.replicate (f-j-1) 0)=ay (r0.take j++[(1+r5)*s]++List.replicate (f-j-1) 0):=by simp[ay]
   have e6:st6[st.length]?=some (.lst (R.map av)):=(U6.same _ (by omega)).trans ((U5.same _ (by omega)).trans e4)
   have hx:((1+r5)*s).natAbs<=4:=by
    rw[Ss];exact Sq (show(1+r5).natAbs<=4 by omega) hs
   have hy0:(1+r5)*s≠0:=VL (by omega) hs0;generalize(1+r5)*s=y at ea hx hy0;show nx _ _;rw[ea];refine hnx _ _ ⟨_,rfl,by simp;omega,λ _=>KN (by rw[SG];omega) hy0,λ x hx2=>?_,e6,B6.mono (by omega),X4.trans ((XU.upd U5).trans (XU.upd U6))⟩;rcases RX.mp hx2 with h|h
   . rcases RX.mp h with h|h
     . have:=hr1 x (T8 h);omega
     . rw[Sm.mp h];exact hx
   . rw[List.eq_of_mem_replicate h];exact Sg _
 rintro _ st6 ⟨r,rfl,lr,lo,br,e6,B6,X6⟩;refine wJ (by rfl) e6 (ux rfl (u0 e6 (by rw[TH,Rw];omega) ?_));have hl6:=(Rx.mp e6).1;refine next _ _ ⟨R++[r],_,_,rfl,by rw[RK hl6,SY];rfl,by simp[hl],λ k h1 h2=>?_,λ q hq=>?_,λ q hq x hx=>?_,(B6.cell (RB (by omega))).mono (by omega),X6.set (Ry _)⟩
 . by_cases hk:k<j
   . have e9:∀c,Mx.g (R++[r]) k c=Mx.g R k c:=λ c=>by
      unfold Mx.g;rw[RC (l:=R++[r]),RH (by omega),<-RC]
     rw[e9];exact⟨(hlo k h1 hk).1,λ c hc=>by rw[e9];exact(hlo k h1 hk).2 c hc⟩
   . have:k=j:=by omega
     subst this
     have e9:∀c,Mx.g (R++[r]) k c=r.getD c 0:=λ c=>by
      unfold Mx.g;rw[RC (l:=R++[r]),Sh (by omega),hl,TU];rfl
     rw[e9];exact⟨(lo h1).1,λ c hc=>by rw[e9];exact(lo h1).2 c hc⟩
 . rcases RX.mp hq with h|h
   . exact hA q h
   . rw[Sm.mp h];exact lr
 . rcases RX.mp hq with h|h
   . exact hbd q h x hx
   . rw[Sm.mp h]at hx;exact br x hx
def nG:c_:=λ ds st K=>∃(n:Nat) (R:List (List Int)) (b:Int),ds=[.ref n,.lst (R.map av)]/\Hk st n b/\b<=500000000/\R.length<=8/\∀(R':List (List Int)) st',R'.length=R.length->(∀r∈R',r∈R)->(∀r∈R,r∈R')->Hk st' n (b+10)->XU st n st'->K (.lst (R'.map av)) st'
def j6:List Str:=["_law_hand_here","_law_rows","_law_left","_law_found"]
def yi:DS:=(aI (bc 2 (bV q_ (af (ae 1) ak)))
 (aI (bc 3 (vY ak))
 (aI (uf (cu (aw A6 (ae 2) (jR ak))) (kX (lK (ae 3) (qx pd (ae 2) (af (aK cA (af (ae 0) (af (bV fJ (af (ae 2) ak)) ak))) ak)))))
 (qH 3 (cP (ae 3))))))
def wz:Rv nG 2 yi j6:=by
 rintro ds st K ⟨n,R,b,rfl,B,hb,l8,k⟩;refine⟨rfl,?_⟩;have hn:=B.lt;refine Bf rfl ⟨RN rfl,?_⟩;have B1:Hk (st++[Cell.lst (R.map av)]++[Cell.lst []]) n (b+0):=(B.cell (by rw[Tw,RH hn])).mono (by omega);have e1:(st++[Cell.lst (R.map av)]++[Cell.lst []])[st.length]?=some (.lst (R.map av)):=by simp
 have e2:(st++[Cell.lst (R.map av)]++[Cell.lst []])[st.length+1]?=some (.lst (([]:List (List Int)).map av)):=by simp
 have X1:XU st n (st++[Cell.lst (R.map av)]++[Cell.lst []]):=(XU.ext Ext.push).trans (XU.ext Ext.push);have l1:(st++[Cell.lst (R.map av)]).length=st.length+1:=by simp
 rw[l1];generalize st++[Cell.lst (R.map av)]++[Cell.lst []]=st1 at B1 e1 e2 X1;refine⟨λ m σ s=>∃L F:List (List Int),σ=[some (.ref n),some (.lst (R.map av)),some (.ref st.length),some (.ref (st.length+1))]/\s[st.length]?=some (.lst (L.map av))/\s[st.length+1]?=some (.lst (F.map av))/\L.length=m/\L.length+F.length=R.length/\(∀r∈L,r∈R)/\(∀r∈F,r∈R)/\(∀r∈R,r∈L\/r∈F)/\Hk s n (b+F.length)/\XU st n s,⟨R.length,R,[],rfl,e1,e2,rfl,by simp,λ _ h=>h,by simp,λ _ h=> .inl h,B1,X1⟩,?_⟩;rintro m σ s ⟨L,F,rfl,a1,a2,rfl,hl,hL,hF,hLF,B2,X2⟩
 have plL:(L.map av).all (pl 39)=true:=SA.mpr λ d hd=>by
  obtain⟨r,_,rfl⟩:=RZ.mp hd;unfold pl;exact uQ
 refine⟨RN rfl,Mp a1 plL rfl ?_⟩;have lt1:=(Rx.mp a1).1;have CI:=(Rx.mp a2).1;match hL0:L with
 | []=>
   have ez:de (.lst (([]:List (List Int)).map av)) (.lst [])=true:=by unfold de;unfold lg;rfl
   rw[ez];refine Ba (by rfl) a2 (k F _ (by simpa using hl) hF (λ r hr=>(hLF r hr).resolve_left (by simp)) ((B2.cell (RB (by omega))).mono (by have h9:F.length<=8:=(by simp at hl;omega);omega)) (X2.set (by omega)))
 |r0::L1=>
  have ez:de (.lst ((r0::L1).map av)) (.lst [])=false:=by unfold de;rw[SM];unfold lg;rfl
  rw[ez];refine ik ?_;refine wJ (by rfl) a2 (MK (λ K' q=>q) a1 (d6 (aJ a1) ?_));rw[Rw];refine⟨n,_,_,rfl,B2,by simp at hl;omega,by simp only[Sl];omega,by simp only[Sl]at hl⊢;omega,λ i s3 i0 i1 B3 U3=>?_⟩;obtain⟨j,rfl⟩:=Ts i0;have hj:j<(r0::L1).length:=by omega
  have b1:s3[st.length]?=some (.lst ((r0::L1).map av)):=(U3.same _ (by omega)).trans a1;have b2:s3[st.length+1]?=some (.lst (F.map av)):=(U3.same _ (by omega)).trans a2;refine M9 b1 ⟨by omega,by omega⟩ (Ak (by rw[Rw];exact hj)) (by rw[RV,RJ hj];rfl) ?_;have b2':(s3.set st.length (.lst (((r0::L1).map av).eraseIdx j)))[st.length+1]?=some (.lst (F.map av)):=by rw[RB (by omega)];exact b2
  refine u0 b2' (by rw[TH,Rw];simp at hl;omega) ?_;have l3:=U3.len;have mem:(r0::L1)[j]∈r0::L1:=R0 _;refine⟨L1.length,by simp,(r0::L1).eraseIdx j,F++[(r0::L1)[j]],rfl,?_,?_,by rw[VN,RF hj];simp,by rw[VN,RF hj];simp at hl⊢;omega,λ r hr=>hL r (Ux hr),λ r hr=>?_,λ r hr=>?_,((B3.cell (by rw[RB (by omega),RB (by omega)])).mono (by simp;omega)),((X2.trans (XU.upd U3)).set (Ry _)).set (by omega)⟩
  . rw[RB (by omega),RK (by omega)];congr 2;exact og _ _
  . rw[RK (by rw[RY];omega),SY];rfl
  . rcases RX.mp hr with h|h
    . exact hF r h
    . rw[Sm.mp h];exact hL _ mem
  . rcases hLF r hr with h|h
    . rcases Mx.mem_erase (RJ hj) h with h|h
      . exact .inr (by rw[h];simp)
      . exact .inl h
    . exact .inr (R_ _ h)
def pF:c_:=λ ds st K=>∃(n:Nat) (b:Int),ds=[.ref n]/\Hk st n b/\b<=500000000/\∀r st',r.natAbs<=100000->Hk st' n (b+2)->Upd st n st'->K (.int r) st'
def mL:List Str:=["_law_hand_here","_law_kind"]
def AE:DS:=(aI (bc 1 (aK cA (af (ae 0) (af (dC (.int 6)) ak))))
 (aI (gn (cu (aw iL (ae 1) (dC (.int 0)))) (cP (aw mx (aK cA (af (ae 0) (af (dC (.int 200001)) ak))) (dC (.int 100000)))) fR)
 (cP (aw mx (aK cA (af (ae 0) (af (dC (.int 9)) ak))) (dC (.int 4))))))
def zz:Rv pF 1 AE mL:=by
 rintro ds st K ⟨n,b,rfl,B,hb,k⟩;refine⟨rfl,n,6,b,rfl,B,by omega,by decide,by decide,λ r1 st1 a0 a1 B1 U1=>?_⟩;refine eq2 (λ h=>ik ?_) λ h=>?_
 . exact⟨n,200001,_,rfl,B1,by omega,by decide,by decide,λ r2 st2 b0 b1 B2 U2=>kQ (k _ _ (by omega) (B2.mono (by omega)) (U1.trans U2))⟩
 . exact⟨n,9,_,rfl,B1,by omega,by decide,by decide,λ r2 st2 b0 b1 B2 U2=>kQ (k _ _ (by omega) (B2.mono (by omega)) (U1.trans U2))⟩
def mO:c_:=λ ds st K=>∃(n:Nat) (b:Int),ds=[.ref n]/\Hk st n b/\b<=100000000/\∀(Q R T M:List (List Int)) (a:List Int) (N w f:Nat) st',Mx.rj R T M Q N f w->(∀r∈T,∀x∈r,x.natAbs<=3^11)->1<=N->N<=8->1<=w->w<=8->a.length=N->(∀r∈Q,∀x∈r,x.natAbs<=2^23)->(∀x∈a,x.natAbs<=2^38)->Hk st' n (b+300)->XU st n st'->K (.tup [cW Q,cf a,mT (T.drop f)]) st'
def jD:List Str:=["_law_hand_here","_law_size","_law_fixed","_law_many","_law_turn_here","_law_back","_law_rows","_law_row","_law_numbers","_law_answer"]
def wV:DS:=(aI (yB (qY 1 2 3) (aK pJ (af (ae 0) ak)))
 (aI (yB (kr 4 5) (aK sA (af (ae 0) (af (ae 1) ak))))
 (aI (bc 6 (vY ak))
 (aI (kH (c5 (aK nG (af (ae 0) (af (aK pK (af (ae 0) (af (ae 2) (af (ae 3) ak)))) ak)))) (aQ 7) (kX (lK (ae 6) (bV dB (af (cC (dF (af (ae 1) ak)) [none,some 7,some 5,some 2] (aQ 0) b_ (aK mh (af (ae 1) (af (jU (aw bI (ae 2) (ae 0)) iI (mY (ae 3))) ak)))) ak)))))
 (aI (bc 8 (cC (dF (af (ae 1) ak)) [none,some 0] (aQ 0) b_ (aK pF (af (ae 1) ak))))
 (aI (bc 9 (bV dB (af (cC (c5 (aK kD (af (ae 4) ak))) [none,some 8] (aQ 0) b_ (aK mh (af (ae 1) (af (ae 0) ak)))) ak)))
 (cP (mF (af (bV dB (af (ae 6) ak)) (af (ae 9) (af (jU (ae 4) (mY (ae 2)) iI) ak)))))))))))
def sV{p q:Nat}:∀ {r s:List Int},(∀x∈r,x.natAbs<=p)->(∀x∈s,x.natAbs<=q)->(Mx.dX r s).natAbs<=r.length*(p*q)
 | [],_,_,_=>Sg _
 |_::_,[],_,_=>Sg _
 |a::r,b::s,h1,h2=>by
  have ih:=sV (r:=r) (s:=s) (λ x hx=>h1 x (R8 _ hx)) λ x hx=>h2 x (R8 _ hx);have h3:=Sq (h1 a R7) (h2 b R7);have h4:=Int.natAbs_add_le (a*b) (Mx.dX r s);rw[Ss]at h4;show(a*b+Mx.dX r s).natAbs<=_;rw[Sl,Vt,UL];omega
def D7{F:List (List Int)}{i:Nat}{d:D}{rest:List D}(hr:d::rest=(F.map av).drop i):i<F.length/\d=av (F.getD i [])/\rest=(F.map av).drop (i+1):=by
 have hi:i<F.length:=by
  rcases Ui i F.length with h|h
  . exact h
  . rw[Tv (by rw[Rw];exact h)]at hr;cases hr
 rw[SQ (by rw[Rw];exact hi),Th]at hr;obtain⟨h1,h2⟩:=UA hr;exact⟨hi,by rw[Mx.ax hi];exact h1,h2⟩
def vS:Rv mO 1 wV jD:=by
 rintro ds st K ⟨n,b,rfl,B,hb,k⟩;refine⟨rfl,?_⟩;have hn:=B.lt;refine⟨n,b,rfl,B,by omega,λ s f m st1 s1 s8 fs m1 m8 fm B1 U1=>⟨_,rfl,?_⟩⟩;refine⟨n,s,_,rfl,B1,by omega,s1,s8,λ T M st2 tb bT bM B2 X2=>⟨_,rfl,?_⟩⟩;have iT:=tb.t;have iM:=tb.b;have l1:=U1.len;have l2:=X2.len;refine⟨RN rfl,?_⟩;have e3:(st2++[Cell.lst []])[st2.length]?=some (.lst (([]:List (List Int)).map cf)):=by simp
 have B3:Hk (st2++[Cell.lst []]) n (b+10+50):=B2.cell (RH (by omega));have X3:XU st n (st2++[Cell.lst []]):=((XU.upd U1).trans X2).trans (XU.ext Ext.push);have lt3:st2.length<(st2++[Cell.lst []]).length:=by simp
 generalize st2++[Cell.lst []]=st3 at e3 B3 X3 lt3;dsimp only;refine ny (A:=kH _ _ _) (λ σ s'=>∃(R Q:List (List Int)) (v7:Option D),σ=[some (.ref n),some (.int s),some (.int f),some (.int m),some (mT T),some (mT M),some (.ref st2.length),v7,none,none]/\s'[st2.length]?=some (.lst (Q.map cf))/\Mx.rj R T M Q s f m/\(∀r∈Q,∀x∈r,x.natAbs<=2^23)/\Hk s' n (b+10+50+100+10)/\XU st n s') (λ nx hnx=>?_) ?_
 . refine⟨n,f,m,_,rfl,B3,by omega,by omega,m8,λ R st4 iR lo bR B4 X4=>?_⟩;refine⟨n,R,_,rfl,B4,by omega,by rw[iR.len];exact m8,λ R' st5 lR hR hR2 B5 X5=>ke ?_⟩;rw[iR.len]at lR
   have e5:st5[st2.length]?=some (.lst (([]:List (List Int)).map cf)):=by
    rw[X5.same _ (RW lt3 X4.len) (by omega),X4.same _ lt3 (by omega)];exact e3
   have X5':=(X3.trans X4).trans X5;refine ko (λ rest σ s'=>∃(q:Nat) (Q:List (List Int)) (v7:Option D),q<=m/\rest=(R'.map av).drop q/\σ=[some (.ref n),some (.int s),some (.int f),some (.int m),some (mT T),some (mT M),some (.ref st2.length),v7,none,none]/\s'[st2.length]?=some (.lst (Q.map cf))/\Mx.bK q s Q/\(∀i,i<q->Q.getD i []=(List.range s).map λ c=>Mx.dX (R'.getD i []) ((M.getD c []).take f))/\(∀r∈Q,∀x∈r,x.natAbs<=2^23)/\Hk s' n (b+10+50+100+10)/\XU st n s') ?_ ?_ _ _ _ ⟨0,[],none,Sg _,rfl,rfl,e5,⟨rfl,by simp⟩,λ i h=>absurd h (Sd i),by simp,B5,X5'⟩
   . rintro σ s' ⟨q,Q,v7,hq,hrest,rfl,e,iQ,eQ,bQ,B',X'⟩
     have:q=m:=by
      have:=Tj List.length hrest;rw[SS,Rw,lR,TN]at this;omega
     subst this
     have at_:∀i,i<q->∀c,c<s->(Q.getD i []).getD c 0=Mx.S f λ l=>(R'.getD i []).getD l 0*Mx.g M c l:=λ i hi c hc=>by
      have hm:R'.getD i []∈R:=hR _ (by rw[Mx.ax (by omega)];exact R0 _);have lf:=iR.dh _ hm;have lc:=iM.row (i:=c) hc;rw[eQ i hi,Mx.ax (by simpa using hc),Th,List.getElem_range,Mx.wB (by rw[lf,SG];omega),SG,VM (by omega)];refine Mx.aq λ l hl=>?_;unfold Mx.g;rw[RC (l:=List.take _ _),T6 hl,<-RC]
     refine⟨trivial,hnx _ _ ⟨R,Q,v7,rfl,e,⟨⟨iR,fm,λ k hk=>lo k hk (by omega)⟩,fs,tb,iQ,λ r hr=>?_,λ r hr=>?_⟩,bQ,B',X'⟩⟩
     . obtain⟨i,hi,rfl⟩:=RQ.mp hr;have hi':i<q:=by rw[<-iQ.len];exact hi
       refine⟨R'.getD i [],hR _ (by rw[Mx.ax (by omega)];exact R0 _),λ c hc=>?_⟩;rw[<-at_ i hi' c hc,Mx.ax hi]
     . obtain⟨i,hi,rfl⟩:=RQ.mp (hR2 r hr);have hi':i<q:=by omega
       refine⟨Q.getD i [],by rw[Mx.ax (by rw[iQ.len];exact hi')];exact R0 _,λ c hc=>?_⟩;rw[at_ i hi' c hc,Mx.ax hi]
   . rintro d rest σ s' ⟨q,Q,v7,hq,hrest,rfl,e,iQ,eQ,bQ,B',X'⟩ next
     obtain⟨hqR,rfl,rfl⟩:=D7 hrest;have hmem:R'.getD q []∈R:=hR _ (by rw[Mx.ax hqR];exact R0 _);have lr:=iR.dh _ hmem;have br:=bR _ hmem;generalize hrr:R'.getD q []=r at lr br;have lM:=iM.len;refine⟨trivial,_,rfl,?_⟩;refine wJ (by rfl) e (eK ⟨by omega,by omega⟩ ⟨aU (by rw[cK];omega),?_⟩);rw[R6];refine gQ (λ c=> .int (Mx.dX r ((M.getD c []).take f))) s (λ c hc K' t=>⟨_,rfl,?_⟩) ?_
     . have hm2:M.getD c []∈M:=by rw[Mx.ax (by omega)];exact R0 _
       refine aM rfl (vX (by omega)) (qI ?_);rw[rL,<-Vv];exact⟨_,_,r,(M.getD c []).take f,rfl,rfl,rfl,by omega,λ x hx y hy=>ij (by have:=br x hx;omega) (by have:=br x hx;omega),t⟩
     have ed:(List.range s).map (λ c=>D.int (Mx.dX r ((M.getD c []).take f)))=ay ((List.range s).map λ c=>Mx.dX r ((M.getD c []).take f)):=by unfold ay;rw[Se];rfl
     rw[ed];have lN:((List.range s).map λ c=>Mx.dX r ((M.getD c []).take f)).length=s:=by simp
     have bN:∀x∈(List.range s).map λ c=>Mx.dX r ((M.getD c []).take f),x.natAbs<=2^23:=λ x hx=>by
      obtain⟨c,hc,rfl⟩:=RZ.mp hx;rw[T4]at hc;have hm2:M.getD c []∈M:=by rw[Mx.ax (by omega)];exact R0 _
      refine RD (sV br λ y hy=>bM _ hm2 y (T8 hy)) ?_;rw[lr];exact RD (S8 _ (show f<=8 by omega)) (by decide)
     generalize hnr:(List.range s).map (λ c=>Mx.dX r ((M.getD c []).take f))=nr at lN bN;refine c8 rfl (u0 e (by rw[TH,Rw,iQ.len];omega) ?_);have hlt:=(Rx.mp e).1;refine next _ _ ⟨q+1,Q++[nr],_,by omega,rfl,rfl,by rw[RK hlt,Ib],⟨by simp[iQ.len],λ t ht=>?_⟩,λ i hi=>?_,λ t ht x hx=>?_,B'.cell (RB (by omega)),X'.set (by omega)⟩
     . rcases RX.mp ht with h|h
       . exact iQ.dh t h
       . rw[Sm.mp h];exact lN
     . have lq:=iQ.len;by_cases hiq:i<q
       . rw[RC,RH (by omega),<-RC];exact eQ i hiq
       . have:i=q:=by omega
         subst this;rw[RC,Sh (by omega),lq,TU,hrr,hnr];rfl
     . rcases RX.mp ht with h|h
       . exact bQ t h x hx
       . rw[Sm.mp h]at hx;exact bN x hx
 rintro _ st6 ⟨R,Q,v7,rfl,e6,eqs,bQ,B6,X6⟩;refine eK ⟨by omega,by omega⟩ ⟨aU (by rw[cK];omega),?_⟩;rw[R6];refine gD (λ rest acc s'=>∃l:List Int,acc=ay l/\l.length+rest.length=s/\(∀x∈l,x.natAbs<=100000)/\Hk s' n (b+10+50+100+10+2*l.length)/\Upd st6 n s') ?_ ?_ _ _ _ ⟨[],rfl,by rw[cK];simp,by simp,B6.mono (by simp),Upd.refl⟩;rotate_left 1
 . rintro d rest acc s' ⟨l,rfl,hl,h2,B',U'⟩ next
   have hl2:l.length<8:=by simp at hl;omega
   refine⟨trivial,_,rfl,n,_,rfl,B',by omega,λ x s7 hx B7 U7=>?_⟩;show dP _ _ _ _ _ _ _ _ _;rw[ints_app];refine next _ _ ⟨l++[x],rfl,by simp at hl⊢;omega,λ z hz=>?_,B7.mono (by simp;omega),U'.trans U7⟩
   rcases RX.mp hz with hz|hz
   . exact h2 z hz
   . rw[Sm.mp hz];exact hx
 rintro acc st7 ⟨l,rfl,hl,h2,B7,U7⟩;have ll:l.length=s:=by simpa using hl
 have e7:st7[st2.length]?=some (.lst (Q.map cf)):=(U7.same _ (by omega)).trans e6;refine⟨trivial,?_⟩;have iTt:=Mx.jV iT;refine⟨mT T,T,s,s,rfl,yA,iT,s1,by omega,by omega,ke ⟨aU (by rw[Rw,iTt.len];omega),?_⟩⟩;refine gZ (λ r=> .int (Mx.dX l r)) trivial cq.tup (λ d r hr he K' t=>⟨_,rfl,_,_,l,r,rfl,rfl,he,by omega,λ x hx y hy=>ij (by have:=h2 x hx;omega) (by have:=h2 x hx;omega),t⟩) ?_;have ed:(Mx.cF T s).map (λ r=>D.int (Mx.dX l r))=ay ((Mx.cF T s).map (Mx.dX l)):=by unfold ay;rw[Se];rfl
 rw[ed];have la:((Mx.cF T s).map (Mx.dX l)).length=s:=by rw[Rw];exact iTt.len
 have ba:∀x∈(Mx.cF T s).map (Mx.dX l),x.natAbs<=2^38:=λ x hx=>by
  obtain⟨r,hr,rfl⟩:=RZ.mp hx;refine RD (sV (q:=3^11) h2 λ y hy=>?_) ?_
  . obtain⟨i,hi,rfl⟩:=RQ.mp hr;obtain⟨c,hc,rfl⟩:=RQ.mp hy;have li:i<s:=by rw[<-iTt.len];exact hi
    have lc:c<s:=by rw[<-iTt.dh _ hr];exact hc
    have e:=Mx.ji iT lc li;unfold Mx.g at e;rw[Mx.ax hi,Mx.ax hc]at e;rw[e];have hm:T.getD c []∈T:=by rw[Mx.ax (by rw[iT.len];exact lc)];exact R0 _
    exact bT _ hm _ (getD_mem (by rw[iT.dh _ hm];exact li))
  . rw[ll];exact RD (S8 _ s8) (by decide)
 generalize(Mx.cF T s).map (Mx.dX l)=a at la ba;refine c8 rfl (c8 (aJ e7) (qI ⟨RN rfl,?_⟩));rw[AY,<-List.map_drop];exact k Q R T M a s m f st7 eqs bT s1 s8 m1 m8 la bQ ba (B7.mono (by omega)) (X6.trans (XU.upd U7))
def oz:c_:=λ ds st K=>∃(U C:List (List Int)) (N:Nat),ds=[cW U,cW C,.int N]/\Mx.bK N N U/\Mx.bK N N C/\Mx.mulM U C N=Mx.units N/\1<=N/\N<=8/\(∀i k l j,i<N->k<N->l<N->j<N->IntMulOk (Mx.g U i k) (Mx.g C l j))/\K (.bl true) st
def k6:List Str:=["_law_turn_here","_law_back","_law_size"]
def zu:DS:=(aI (gn (oy (kY (cu (aK gz (af (ae 0) (af (ae 2) (af (ae 2) ak)))))) (kY (cu (aK gz (af (ae 1) (af (ae 2) (af (ae 2) ak))))))) (cP (dC (.bl false))) fR)
 (cP (aw iL (aK kT (af (ae 0) (af (ae 1) ak))) (cC (dF (af (ae 2) ak)) [none,some 2] (aQ 0) b_ (bV dB (af (cC (dF (af (ae 1) ak)) [none,some 0] (aQ 0) b_ (bV pH (af (aw iL (ae 1) (ae 0)) ak))) ak))))))
def uS{n:Nat}{r:List Int}:pl (n+1) (cf r)=true:=by
 unfold pl;exact uQ
def m7{n:Nat}{A:List (List Int)}:pl (n+2) (cW A)=true:=by
 unfold pl;refine SA.mpr λ d hd=>?_;obtain⟨r,_,rfl⟩:=RZ.mp hd;exact uS
def CY{n:Nat}{A:List (List Int)}:pl (n+2) (.lst (A.map cf))=true:=by
 have h:pl (n+2) (cW A)=true:=m7;exact h
def rK{st:ag}{K:DK}{d:D}(h:pl 40 d=true)(k:K (.bl true) st):iL d d st K:=Jm h h (by rw[sv 40 d h];exact k)
def yy:Rv oz 3 zu k6:=by
 rintro ds st K ⟨U,C,N,rfl,iU,iC,mul,n1,n8,ok,k⟩;refine⟨rfl,?_⟩;refine⟨U,N,N,rfl,iU,by omega,⟨C,N,N,rfl,iC,by omega,?_⟩⟩;refine⟨_,U,C,N,N,N,rfl,jr,iU,iC,n1,by omega,by omega,by omega,ok,?_⟩;rw[mul];refine eK ⟨by omega,by omega⟩ ⟨aU (by rw[cK];omega),?_⟩;rw[R6];refine gQ (λ i=>cf (Mx.d_ N i)) N (λ i hi K' q=>⟨_,rfl,?_⟩) ?_
 . refine eK ⟨by omega,by omega⟩ ⟨aU (by rw[cK];omega),?_⟩;rw[R6];exact t9 (λ j K' q=>unit_eq q) (c8 rfl q)
 have eu:(List.range N).map (λ i=>cf (Mx.d_ N i))=(Mx.units N).map cf:=by unfold Mx.units;rw[Se];rfl
 rw[eu];exact rK (CY (n:=38)) k
def qJ:c_:=λ ds st K=>∃(Q R T M F:List (List Int)) (a a' r:List Int) (N w f m fb top:Nat) (c:Mx.B3),ds=[cW Q,cf a,mT (T.drop f),.tup [.str "told",cf a',cW F,cW c.U,cW (Mx.cF c.C N)]]/\Mx.rj R T M Q N f w/\(∀r∈T,∀x∈r,x.natAbs<=3^11)/\1<=N/\N<=8/\1<=w/\w<=8/\a.length=N/\(∀r∈Q,∀x∈r,x.natAbs<=2^23)/\(∀x∈a,x.natAbs<=2^38)/\M8 (Mx.cF Q N) N w r a' F m fb c top/\(∀q,q<w->(Mx.S N λ n=>a.getD n 0*Mx.g (Mx.cF Q N) n q)=r.getD q 0)/\∀st',Ext st st'->K (.bl true) st'
def nP:List Str:=["_law_rows","_law_answer","_law_free","_law_found","_law_size","_law_steps","_law_form"]
def B_:DS:=(aI (bc 4 (bV fJ (af (ae 1) ak)))
 (aI (bc 5 (aK kc (af (ae 2) (af (ae 4) ak))))
 (aI (gn (oy (kY (cu (bV sd (af (ae 3) (af (dC (.ty "tuple")) ak))))) (oy (cu (aw oK (bV fJ (af (ae 3) ak)) (dC (.int 5)))) (cu (aw sQ (aw bI (ae 3) (dC (.int 0))) (dC (.str "told")))))) (cP (dC (.bl false))) fR)
 (aI (gn (oy (kY (cu (aK gz (af (mF (af (aw bI (ae 3) (dC (.int 1))) ak)) (af (dC (.int 1)) (af (ae 4) ak)))))) (kY (cu (aK gz (af (aw bI (ae 3) (dC (.int 2))) (af (bV fJ (af (ae 5) ak)) (af (ae 4) ak))))))) (cP (dC (.bl false))) fR)
 (aI (gn (oy (cu (aw sQ (aw bI (ae 3) (dC (.int 1))) (aK su (af (ae 5) (af (ae 1) ak))))) (oy (cu (aw sQ (aw bI (ae 3) (dC (.int 2))) (ae 5))) (kY (cu (aK oz (af (aw bI (ae 3) (dC (.int 3))) (af (aw bI (ae 3) (dC (.int 4))) (af (ae 4) ak)))))))) (cP (dC (.bl false))) fR)
 (aI (bc 6 (aK kc (af (aK kD (af (ae 0) ak)) (af (bV fJ (af (ae 0) ak)) ak))))
 (cP (aw iL (aK kT (af (aw bI (ae 3) (dC (.int 3))) (af (aK kD (af (ae 0) ak)) ak))) (aw dz (bV iW (af (ae 6) ak)) (aw fy (jR (af (aw fy (mF (af (dC (.int 0)) ak)) (bV fJ (af (ae 0) ak))) ak)) (aw mx (ae 4) (bV fJ (af (ae 6) ak)))))))))))))
def CN{A:List (List Int)}{N w m f top k:Nat}{r a a':List Int}{F G:List (List Int)}{c:Mx.B3}(T:M8 A N w r a F m f c top)(is:Mx.bK k N G)(st:Mx.bY G k N (Mx.dy G))(red:Mx.kJ G k (Mx.dy G))(mq:∀x:Nat->Int,(∀q,q<w->(Mx.S N λ n=>x n*Mx.g A n q)=0)↔Mx.bL G k N x)(la:a'.length=N)(sum:∀q,q<w->(Mx.S N λ n=>a'.getD n 0*Mx.g A n q)=r.getD q 0)(Am:∀i,i<k->0<=a'.getD (Mx.dy G i) 0/\a'.getD (Mx.dy G i) 0<Mx.g G i (Mx.dy G i)):F=G/\a=a':=by
 have L:∀x,Mx.bL F m N x↔Mx.bL G k N x:=λ x=>by rw[<-T.mq x,mq x]
 have h1:∀k',k'<m->Mx.bL G k N (Mx.g F k'):=λ k' hk=>(L _).mp (Mx.bL.row hk);have h2:∀k',k'<k->Mx.bL F m N (Mx.g G k'):=λ k' hk=>(L _).mpr (Mx.bL.row hk);have em:=T.wg.st.many st h1 h2;subst em;have eF:F=G:=T.wg.is.ext is λ i j hi hj=>T.wg.st.only st h1 h2 T.red red hi j hj;subst eF;refine⟨rfl,Mx.xY T.la la λ q hq=>?_⟩
 have v:Mx.bL F m N λ n=>a.getD n 0-a'.getD n 0:=(T.mq _).mp λ q hq=>by
  have e5:(Mx.S N λ n=>(a.getD n 0-a'.getD n 0)*Mx.g A n q)=(Mx.S N λ n=>a.getD n 0*Mx.g A n q)-Mx.S N λ n=>a'.getD n 0*Mx.g A n q:=by
   rw[SN,<-Mx.oZ,<-Mx.fu];exact Mx.aq λ n _=>by rw[Vs,SN]
  rw[e5,T.sum q hq,sum q hq,Wo]
 have z:=T.wg.st.Iw v (λ k hk=>by
  obtain⟨x1,x2⟩:=T.Am k hk;obtain⟨y1,y2⟩:=Am k hk;omega) q hq
 omega
def Dj{R:List (List Int)}{N w b:Nat}(iR:Mx.bK w N R)(h:∀r∈R,∀x∈r,x.natAbs<=b):∀q∈Mx.cF R N,∀x∈q,x.natAbs<=b:=λ q hq x hx=>by
 unfold Mx.cF at hq;obtain⟨j,hj,rfl⟩:=RZ.mp hq;rw[T4]at hj;unfold Mx.ox at hx;obtain⟨s,hs,rfl⟩:=RZ.mp hx;exact h s hs _ (getD_mem (by rw[iR.dh s hs];exact hj))
instance (N e:Nat):Decidable (Fe N e):=by unfold Fe;infer_instance
def IP:∀N,N<9->Fe N 18/\Fe N 23:=by decide+kernel
def Gx{A H:List (List Int)}{N w top:Nat}(iA:Mx.bK N w A)(le:top<=N)(zs:∀i q,top<=i->i<N->q<w->Mx.g A i q=0)(e:A.take top=H):H.map cf++List.replicate (N-top) (cf (List.replicate w 0))=A.map cf:=by
 have l:=iA.len
 have e2:A.drop top=List.replicate (N-top) (List.replicate w 0):=by
  refine WV.mpr ⟨by rw[SS,l],λ r hr=>?_⟩;have lr:=iA.dh r (UR hr);obtain⟨i,hi,rfl⟩:=RQ.mp hr;rw[SS]at hi;refine WV.mpr ⟨lr,λ x hx=>?_⟩;obtain⟨q,hq,rfl⟩:=RQ.mp hx;have z:=zs (top+i) q (by omega) (by omega) (by omega);unfold Mx.g at z;have e5:A.getD (top+i) []=A[top+i]'(by omega):=Mx.ax _;rw[e5]at z;have e3:A[top+i]'(by omega)=(A.drop top)[i]'(by rw[SS];omega):=by rw[List.getElem_drop]
  rw[e3,Mx.ax hq]at z;exact z
 have e4:=WU top A;rw[e,e2]at e4;rw[<-e4,SY,List.map_replicate]
def AN:Rv qJ 4 B_ nP:=by
 rintro ds st K ⟨Q,R,T,M,F,a,a',r,N,w,f,m,fb,top,c,rfl,eqs,bT,N1,N8,w1,w8,la,bQ,ba,an,sum,k⟩;refine⟨rfl,?_⟩;have iQ:=eqs.is;have lQ:=iQ.len;have fs:=eqs.fs;have lT:=eqs.tb.t.len;have lD:(T.drop f).length=N-f:=by rw[SS,lT]
 refine d6 rfl ?_;rw[Rw,la];refine⟨_,T.drop f,N,18,rfl,yA,λ r hr=>eqs.tb.t.dh r (UR hr),by omega,by omega,λ r hr x hx=>RD (bT r (UR hr) x hx) (by decide),by rw[lD];exact(IP _ (by omega)).1,λ st1 G X1 lG iG sG rG same=>?_⟩;rw[lD]at same lG
 have kerG:∀x:Nat->Int,(∀q,q<w->(Mx.S N λ n=>x n*Mx.g (Mx.cF Q N) n q)=0)↔Mx.bL G G.length N x:=λ x=>by
  rw[eqs.GY x];exact⟨λ h=>Mx.bL.trans same.to h,λ h=>Mx.bL.trans same.of h⟩
 have G8:G.length<=8:=by omega
 have bG:=eqs.abs G8 bT sG rG same;have fl:=Mx.u_ iG la sG (Ry G.length);have lw:=Mx.l_ iG la (Ry G.length)
 have sum':∀q,q<w->(Mx.S N λ n=>(Mx.d7 G a G.length).getD n 0*Mx.g (Mx.cF Q N) n q)=r.getD q 0:=λ q hq=>by
  have d:=(kerG λ n=>a.getD n 0-(Mx.d7 G a G.length).getD n 0).mpr fl.sum q hq
  have e5:(Mx.S N λ n=>(a.getD n 0-(Mx.d7 G a G.length).getD n 0)*Mx.g (Mx.cF Q N) n q)=(Mx.S N λ n=>a.getD n 0*Mx.g (Mx.cF Q N) n q)-Mx.S N λ n=>(Mx.d7 G a G.length).getD n 0*Mx.g (Mx.cF Q N) n q:=by
   rw[SN,<-Mx.oZ,<-Mx.fu];exact Mx.aq λ n _=>by rw[Vs,SN]
  rw[e5,sum q hq]at d;omega
 obtain⟨rfl,rfl⟩:=CN an iG sG rG kerG lw sum' λ i hi=>fl.red i hi;have le:=an.le;have iA:Mx.bK N w (Mx.cF Q N):=Mx.jV iQ;have iB:Mx.bK N N (Mx.cF c.C N):=Mx.jV an.tn.gb;have eUA:Mx.mulM c.U (Mx.cF Q N) w=c.A:=(Mx.yx an.tn.eP iA).ext an.tn.isA λ i j hi hj=>by rw[Mx.yn an.tn.eP iA hi,an.tn.ua i j hi hj]
 have eUB:Mx.mulM c.U (Mx.cF c.C N) N=Mx.units N:=(Mx.yx an.tn.eP iB).ext (Mx.iP N) λ i j hi hj=>by
  rw[Mx.yn an.tn.eP iB hi,Mx.fN hi hj,<-an.tn.ub i j hi hj];exact Mx.aq λ k hk=>by rw[Mx.ji an.tn.gb hj hk]
 refine tN rfl (by decide) (d6 rfl (IZ rfl (aM rfl rfl (sN rfl ?_))));refine aM rfl rfl ⟨RN rfl,⟨[_],1,N,rfl,⟨rfl,λ q hq=>by rw[Sm.mp hq];exact lw⟩,by omega,?_⟩⟩;refine aM rfl rfl (d6 rfl ?_);rw[Rw];refine⟨F,F.length,N,rfl,iG,by omega,?_⟩;refine aM rfl rfl ⟨cW F,cf a,F,a,F.length,N,1000,rfl,jr,iG,sG,G8,by omega,bG,rfl,la,λ c hc=>RD (ba _ (getD_mem (by omega))) (R9 (by decide) (by decide)),by decide,λ st2 X2=>?_⟩;refine sN (uS (n:=39)) (aM rfl rfl (sN (m7 (n:=38)) ?_));refine aM rfl rfl (aM rfl rfl ⟨c.U,Mx.cF c.C N,N,rfl,an.tn.eP,iB,eUB,N1,N8,λ i k l j hi hk hl hj=>gN (an.bU i k hi) (by rw[Mx.ji an.tn.gb hj hl];exact an.bC j l hj) (by decide),?_⟩);refine⟨_,Q,w,N,rfl,jr,iQ,w1,by omega,by omega,d6 rfl ?_⟩;rw[Rw,lQ];have bA:=Dj iQ bQ;have lA:=iA.len;refine⟨_,Mx.cF Q N,w,23,rfl,⟨_,rfl,cq.tup⟩,iA.dh,by omega,by omega,bA,by rw[lA];exact(IP _ (by omega)).2,λ st3 H X3 lH iH sH rH sameH=>?_⟩;rw[lA]at sameH;have s2:=an.tn.same le an.zs;generalize hk:H.length=k' at iH sH rH sameH lH;have h1:∀k,k<top->Mx.bL H k' w (Mx.g (c.A.take top) k):=λ k hk=>Mx.bL.trans sameH.to (s2.of k hk);have h2:∀k,k<k'->Mx.bL (c.A.take top) top w (Mx.g H k):=λ k hk=>Mx.bL.trans s2.to (sameH.of k hk);have em:=an.wf.st.many sH h1 h2;subst em;have eH:c.A.take top=H:=an.wf.is.ext iH λ i j hi hj=>an.wf.st.only sH h1 h2 an.rd rH hi j hj;refine aM rfl rfl ⟨_,Q,w,N,rfl,jr,iQ,w1,by omega,by omega,?_⟩
 refine⟨_,c.U,Mx.cF Q N,N,N,w,rfl,⟨_,rfl,cq.tup⟩,an.tn.eP,iA,N1,by omega,by omega,by omega,λ i k l j hi hk hl hj=>gN (n:=23) (an.bU i k hi) (by
  have hm:(Mx.cF Q N).getD l []∈Mx.cF Q N:=by rw[Mx.ax (by omega)];exact R0 _
  exact bA _ hm _ (getD_mem (by rw[iA.dh _ hm];exact hj))) (by decide),?_⟩
 rw[eUA];refine ip rfl ⟨RN rfl,d6 rfl ?_⟩;rw[Rw,lQ];refine KC ⟨by omega,by omega,aU (by simp;omega)⟩ ⟨RN rfl,?_⟩;rw[R6,vD];refine d6 rfl ?_;rw[Rw,hk];refine kQ (ym ⟨by omega,by omega,aU (by simp;omega)⟩ ?_)
 have e7:(List.replicate ((N:Int)-(top:Int)).toNat [D.tup (ay (List.replicate w 0))]).flatten=List.replicate (N-top) (cf (List.replicate w 0)):=by
  rw[show((N:Int)-(top:Int)).toNat=N-top by omega,List.flatten_replicate_singleton]
 rw[e7];refine pj (aU (by rw[Rw,WK];omega)) ?_;rw[Gx an.tn.isA le an.zs eH];exact rK (CY (n:=38)) (k st3 (X1.trans (X2.trans X3)))
abbrev IY:c_:=Gq Lv
def zV:List Str:=["_law_script","_law_hand_here","_law_rows","_law_answer","_law_free","_law_due","_law_found","_law_great","_law_more","_law_handed","_law_again"]
def Oi:DS:=(aI (bc 1 (aK sy (af (ae 0) ak)))
 (aI (yB (qY 2 3 4) (aK mO (af (ae 1) ak)))
 (aI (bc 5 (bV dB (af (cC (c5 (ae 2)) [none,some 3] (aQ 0) b_ (aK mh (af (ae 0) (af (ae 1) ak)))) ak)))
 (aI (bc 6 (aK l7 (af (ae 2) (af (ae 5) ak))))
 (aI (gn (kY (cu (aK qJ (af (ae 2) (af (ae 3) (af (ae 4) (af (ae 6) ak))))))) (cP (dC (.bl false))) fR)
 (aI (bc 7 (bV va (af (cC (c5 (aw dz (ae 2) (mF (af (ae 5) ak)))) [none] (aQ 0) b_ (bV va (af (cC (c5 (ae 0)) [none] (aQ 0) b_ (bV ud (af (ae 0) ak))) ak))) ak)))
 (aI (gn (zG (cu (aw iL (aK cA (af (ae 1) (af (dC (.int 8)) ak))) (dC (.int 0)))) (cu (aw tx (ae 7) (aw tY (dC (.int 10)) (dC (.int 6)))))) (aI (bc 8 (cC (c5 (ae 2)) [none] (aQ 0) b_ (bV dB (af (cC (c5 (ae 0)) [none] (aQ 0) b_ (aw fy (aw tY (dC (.int 10)) (dC (.int 6))) (ae 0))) ak))))
 (gn (cu (aw sQ (jU (aK l7 (af (bV dB (af (ae 8) ak)) (af (bV dB (af (cC (c5 (ae 5)) [none] (aQ 0) b_ (aw fy (aw tY (dC (.int 10)) (dC (.int 6))) (ae 0))) ak)) ak))) iI (mY (dC (.int 3)))) (jU (ae 6) iI (mY (dC (.int 3)))))) (cP (dC (.bl false))) fR)) fR)
 (aI (bc 9 (jR (af (cC (c5 (ae 2)) [none] (aQ 0) b_ (bV iW (af (ae 0) ak))) (af (bV iW (af (ae 5) ak)) ak))))
 (aI (bc 10 (aK l7 (af (aw bI (ae 9) (dC (.int 0))) (af (aw bI (ae 9) (dC (.int 1))) ak))))
 (cP (xI (aw iL (ae 10) (ae 6)) (xI (aw iL (ae 9) (jR (af (cC (c5 (ae 2)) [none] (aQ 0) b_ (bV iW (af (ae 0) ak))) (af (bV iW (af (ae 5) ak)) ak)))) (aw iL (aK l7 (af (ae 2) (af (ae 5) ak))) (ae 6))))))))))))))
def Ar{a:List Int}{F U C:List (List Int)}:pl 40 (.tup [.str "told",cf a,cW F,cW U,cW C])=true:=by
 unfold pl;simp only[T_,W4,Vu];rw[uS,m7,m7,m7];rfl
def Ko{r:List Int}:(ay r).map (λ d=>match d with| .int x=> .int ((x.natAbs:Nat):Int)|_=> .aF)=ay (r.map λ x=>((x.natAbs:Nat):Int)):=by unfold ay;rw[Se,Se];rfl
def IF.one{A:List (List Int)}{N w:Nat}{r:List Int}{y y':D}(h:IF A N w r y)(h':IF A N w r y'):y=y':=by
 obtain⟨top,c,hC,G,hG,rfl⟩:=h.ex;obtain⟨top',c',hC',G',hG',rfl⟩:=h'.ex;obtain⟨rfl,rfl⟩:=hC.unique hC'
 have eG:G=G':=by
  rcases hG with⟨q,t,d,hD,rfl⟩|⟨q,rfl⟩
  . rcases hG' with⟨_,t',d',hD',rfl⟩|⟨q',_⟩
    . obtain⟨rfl,rfl⟩:=hD.unique hD';rfl
    . exact absurd q q'
  . rcases hG' with⟨q',_⟩|⟨_,rfl⟩
    . exact absurd q' q
    . rfl
 subst eG;rfl
instance (N e:Nat):Decidable (Gk N e):=by unfold Gk;infer_instance
def Iy:∀N,N<9->Gk N 23/\Gk N 40:=by decide+kernel
def Ia{a:List Int}{F:List (List Int)}:pl 40 (.tup [.str "told",cf a,cW F])=true:=by
 unfold pl;simp only[T_,W4,Vu];rw[uS,m7];rfl
def Gh{Q:List (List Int)}{r:List Int}:pl 40 (.lst [.lst (Q.map av),av r])=true:=by
 unfold pl;simp only[T_,W4,Vu]
 have h1:pl 39 (.lst (Q.map av))=true:=by
  unfold pl;rw[SA];intro d hd;obtain⟨q,_,rfl⟩:=RZ.mp hd;unfold av pl;exact uQ
 have h2:pl 39 (av r)=true:=by
  unfold av pl;exact uQ
 rw[h1,h2];rfl
def jf(r:List Int):List Int:=r.map λ x=>1000000*x
def Fl{r:List Int}:(ay r).map (λ d=>match d with| .int x=> .int (1000000*x)|_=> .aF)=ay (jf r):=by unfold jf ay;rw[Se,Se];rfl
def Jo{r:List Int}{n:Nat}:(jf r).getD n 0=1000000*r.getD n 0:=by
 unfold jf;by_cases h:n<r.length
 . rw[Mx.ax (by simpa using h),Th,Mx.ax h]
 . rw[Mx.jv (by simp;omega),Mx.jv (by omega)];rfl
def Qi{Q:List (List Int)}{q n:Nat}(h:q<Q.length):Mx.g (Q.map jf) q n=1000000*Mx.g Q q n:=by
 have e:(Q.map jf).getD q []=jf (Q.getD q []):=by rw[Mx.ax (by simpa using h),Th,Mx.ax h]
 unfold Mx.g;rw[e,Jo]
def BO{Q:List (List Int)}{N w q:Nat}(iQ:Mx.bK w N Q)(iQ':Mx.bK w N (Q.map jf))(hq:q<w)(x:Nat->Int):(Mx.S N λ n=>x n*Mx.g (Mx.cF (Q.map jf) N) n q)=1000000*Mx.S N λ n=>x n*Mx.g (Mx.cF Q N) n q:=by
 rw[<-Mx.c7];refine Mx.aq λ n hn=>?_;rw[Mx.ji iQ' hq hn,Mx.ji iQ hq hn,Qi (by rw[iQ.len];exact hq),<-So,<-So,SI (x n)]
def MS:Rv IY 1 Oi zV:=by
 rintro ds st K ⟨ns,rfl,hl,hst,k⟩;refine⟨rfl,?_⟩;have l0:st.length=1:=by rw[hst];rfl
 have t0:st[0]?=some (ix false):=by rw[hst];rfl
 clear hst;refine⟨ns,rfl,hl,λ st1 B1 X1=>?_⟩;have l1:=X1.len;have t1:st1[0]?=some (ix false):=(X1.same 0 (by omega)).trans t0;rw[l0]at B1⊢;refine⟨_,_,rfl,B1,by decide,λ Q R T M a N w f st2 eqs bT N1 N8 w1 w8 la bQ ba B2 X2=>⟨_,rfl,?_⟩⟩;have iQ:=eqs.is;have lQ:=iQ.len;have t2:=(X2.same 0 (by omega) (by decide)).trans t1;refine fW ⟨aU (by rw[Rw,iQ.len];omega),?_⟩;refine gZ (λ r=> .int (Mx.dX r a)) trivial cq.tup (λ e r hr he K' t=>⟨_,rfl,_,_,r,a,rfl,he,rfl,by rw[iQ.dh r hr];omega,λ x hx y hy=>ij (by have:=bQ r hr x hx;omega) (by have:=bQ r hr x hx;omega),t⟩) ?_;have ed:Q.map (λ r=>D.int (Mx.dX r a))=ay (Q.map λ r=>Mx.dX r a):=by unfold ay;rw[Se];rfl
 rw[ed];refine c8 rfl ?_;have lr:(Q.map λ r=>Mx.dX r a).length=w:=by rw[Rw];exact lQ
 have br:∀x∈Q.map (λ r=>Mx.dX r a),x.natAbs<=2^64:=λ x hx=>by
  obtain⟨q,hq,rfl⟩:=RZ.mp hx;refine RD (sV (bQ q hq) ba) ?_;rw[iQ.dh q hq];exact RD (S8 _ N8) (by decide)
 have sum:∀q,q<w->(Mx.S N λ n=>a.getD n 0*Mx.g (Mx.cF Q N) n q)=(Q.map λ r=>Mx.dX r a).getD q 0:=λ q hq=>by
  rw[Mx.ax (by rw[lr];exact hq),Th,Mx.wB (by rw[la];exact iQ.dh _ (R0 _)),la];refine Mx.aq λ n hn=>?_;rw[Mx.ji iQ hq hn,SI];unfold Mx.g;rw[Mx.ax (show q<Q.length by omega)]
 generalize(Q.map λ r=>Mx.dX r a)=r at lr br sum;have kb:Ih (Mx.cF Q N) N w:=λ G m hm sG rG mq=>eqs.abs (by omega) bT sG rG (eqs.same mq);have iA:Mx.bK N w (Mx.cF Q N):=Mx.jV iQ;have eR:Mx.cF (Mx.cF Q N) w=Q:=xV iQ;have bA:=Dj iQ bQ;have inp:MR (Mx.cF Q N) N w r 23:=⟨iA,N1,N8,w8,bA,lr,λ x hx=>RD (br x hx) (by decide),by decide,(Iy N (by omega)).1⟩
 have sol:∃z:Nat->Int,∀q,q<w->(Mx.S N λ n=>z n*Mx.g (Mx.cF Q N) n q)=r.getD q 0:=⟨λ n=>a.getD n 0,sum⟩
 refine⟨_,_,Mx.cF Q N,r,N,w,23,false,rfl,by rw[eR];exact jr,rfl,inp,w1,kb,sol,t2,λ st3 y1 K3 an1 af1=>?_⟩;obtain⟨a1,F,m,fb,c,top,an,rfl⟩:=an1;obtain⟨f3,t3⟩:=K3.tb;have B3:=B2.cell (K3.fr 1 B2.lt (by decide));refine⟨Q,R,T,M,F,a,a1,r,N,w,f,m,fb,top,c,rfl,eqs,bT,N1,N8,w1,w8,la,bQ,ba,an,sum,λ st4 X4=>?_⟩;have t4:=(X4.same 0 (Rx.mp t3).1).trans t3;have B4:=B3.cell (X4.same 1 B3.lt);clear t0 t1 t2 t3 B1 B2 B3 X1 X2 K3 X4;refine⟨RN rfl,Lr (aU (by rw[Rw];simp;omega)) ?_⟩;have eQr:Q.map cf++[D.tup (ay r)]=(Q++[r]).map cf:=by rw[SY];rfl
 rw[eQr];have lX:(Q++[r]).length=w+1:=by rw[SW,lQ];rfl
 refine fW ⟨aU (by rw[Rw];omega),?_⟩;refine gD (λ rest acc st'=>st4=st'/\∃(i:Nat) (l:List Int),i<=w+1/\rest=((Q++[r]).map cf).drop i/\acc=ay l/\l.length=i/\∀k,k<i->∀x∈(Q++[r]).getD k [],∃y∈l,(x.natAbs:Int)<=y) ?_ ?_ _ _ _ ⟨rfl,0,[],Sg _,rfl,rfl,rfl,λ k h=>absurd h (Sd k)⟩;rotate_left 1
 . rintro d rest acc st' ⟨rfl,i,l,hi,hrest,rfl,hl,hx⟩ next
   obtain⟨hiA,rfl,rfl⟩:=drop_cons hrest
   have lri:1<=((Q++[r]).getD i []).length/\((Q++[r]).getD i []).length<=8:=by
    have hm:(Q++[r]).getD i []∈Q++[r]:=by rw[Mx.ax hiA];exact R0 _
    rcases RX.mp hm with z|z
    . rw[iQ.dh _ z];omega
    . rw[Sm.mp z,lr];omega
   refine⟨trivial,_,rfl,fW ⟨aU (by rw[Rw];omega),?_⟩⟩;refine comp_map (g:=λ d=>match d with| .int x=> .int ((x.natAbs:Nat):Int)|_=> .aF) trivial _ (λ d hd K' q=>?_) ?_
   . obtain⟨x,_,rfl⟩:=RZ.mp hd;exact⟨_,rfl,xa q⟩
   rw[Ko];refine De (ints_map _) (λ z=>?_) λ m _ hm=>?_
   . have:=Tj List.length z;rw[Rw,TN]at this;omega
   show dP _ _ _ _ _ _ _ _ _;rw[ints_app];refine next _ _ ⟨rfl,i+1,l++[m],by omega,rfl,rfl,by simp[hl],λ k hk x hxk=>?_⟩
   by_cases z:k<i
   . obtain⟨y,hy,h⟩:=hx k z x hxk;exact⟨y,R_ _ hy,h⟩
   . have:k=i:=by omega
     subst this;exact⟨m,by simp,hm _ (RZ.mpr ⟨x,hxk,rfl⟩)⟩
 rintro acc st' ⟨rfl,i,l,hi,hrest,rfl,hl,hx⟩
 have hiN:i=w+1:=by
  have:=drop_nil hrest;omega
 subst hiN;refine⟨trivial,De (ints_map _) (λ z=>by rw[z]at hl;simp at hl) λ gm _ hgm=>?_⟩
 have great:∀q∈Q++[r],∀x∈q,(x.natAbs:Int)<=gm:=λ q hq x hxq=>by
  obtain⟨k,hk,rfl⟩:=RQ.mp hq;obtain⟨y,hy,h⟩:=hx k (by omega) x (by rw[Mx.ax hk];exact hxq);exact Int.le_trans h (hgm y hy)
 clear hx hgm hl hrest hi;try dsimp only[ak]
 refine ny (A:=gn _ _ _) (λ σ' s'=>∃(v8:Option D) (f':Bool),σ'=[some (.lst (ay ns)),some (.ref 1),some (cW Q),some (cf a),some (mT (T.drop f)),some (cf r),some (.tup [.str "told",cf a1,cW F,cW c.U,cW (Mx.cF c.C N)]),some (.int gm),v8,none,none]/\s'[0]?=some (ix f')) (λ nx hnx=>?_) ?_
 . refine⟨1,8,_,rfl,B4,by omega,by decide,by decide,λ y s5 y0 y8 B5 U5=>?_⟩;have t5:=(U5.same 0 (by decide)).trans t4;refine eq2 (λ h=>ik (xp ⟨by decide,by decide,by decide⟩ (CI (λ hg=>ik ?_) λ _=>hnx _ _ ⟨none,f3,rfl,t5⟩))) λ _=>hnx _ _ ⟨none,f3,rfl,t5⟩;have e6:(10:Int)^(6:Int).toNat=1000000:=by decide
   rw[e6]at hg
   have iQ':Mx.bK w N (Q.map jf):=⟨by rw[Rw];exact lQ,λ q hq=>by
    obtain⟨p,hp,rfl⟩:=RZ.mp hq;unfold jf;rw[Rw];exact iQ.dh p hp⟩
   have sml:∀q∈Q++[r],∀x∈jf q,x.natAbs<=2^40:=λ q hq x hx=>by
    unfold jf at hx;obtain⟨z,hz,rfl⟩:=RZ.mp hx;have:=great q hq z hz;omega
   refine fW ⟨aU (by rw[Rw];omega),?_⟩;refine gZ (λ q=>cf (jf q)) trivial cq.tup (λ e q hq he K' t=>⟨_,rfl,?_⟩) ?_
   . refine p7 he λ ok aL=>⟨aU (by rw[Rw,iQ.dh q hq];omega),?_⟩
     refine comp_map (g:=λ d=>match d with| .int x=> .int (1000000*x)|_=> .aF) aL _ (λ d hd K' t2=>?_) ?_
     . obtain⟨x,_,rfl⟩:=RZ.mp hd;refine⟨_,rfl,xp ⟨by decide,by decide,by decide⟩ ?_⟩;rw[e6];exact f7 (ij (by decide) (by decide)) t2
     rw[Fl];exact c8 rfl t
   have eM:Q.map (λ q=>cf (jf q))=(Q.map jf).map cf:=by rw[Se];rfl
   rw[eM];refine c8 rfl (fW ⟨aU (by rw[Rw];omega),?_⟩);refine comp_map (g:=λ d=>match d with| .int x=> .int (1000000*x)|_=> .aF) trivial _ (λ d hd K' t2=>?_) ?_
   . obtain⟨x,_,rfl⟩:=RZ.mp hd;refine⟨_,rfl,xp ⟨by decide,by decide,by decide⟩ ?_⟩;rw[e6];exact f7 (ij (by decide) (by decide)) t2
   rw[Fl];refine c8 rfl ?_
   have sc:∀x:Nat->Int,(∀q,q<w->(Mx.S N λ n=>x n*Mx.g (Mx.cF (Q.map jf) N) n q)=0)↔∀q,q<w->(Mx.S N λ n=>x n*Mx.g (Mx.cF Q N) n q)=0:=λ x=>
    ⟨λ h q hq=>by have:=h q hq;rw[BO iQ iQ' hq]at this;omega,λ h q hq=>by rw[BO iQ iQ' hq,h q hq];rfl⟩
   have kb':Ih (Mx.cF (Q.map jf) N) N w:=λ G m hm sG rG mq=>eqs.abs (by omega) bT sG rG (eqs.same λ x=>(sc x).symm.trans (mq x))
   have inp':MR (Mx.cF (Q.map jf) N) N w (jf r) 40:=⟨Mx.jV iQ',N1,N8,w8,Dj iQ' λ q hq=>by
    obtain⟨p,hp,rfl⟩:=RZ.mp hq;exact sml p (R_ _ hp),by unfold jf;rw[Rw];exact lr,λ x hx=>RD (sml r (by simp) x hx) (by decide),by decide,(Iy N (by omega)).2⟩
   have sum2:∀q,q<w->(Mx.S N λ n=>a1.getD n 0*Mx.g (Mx.cF (Q.map jf) N) n q)=(jf r).getD q 0:=λ q hq=>by rw[BO iQ iQ' hq λ n=>a1.getD n 0,an.sum q hq,Jo]
   refine⟨_,_,Mx.cF (Q.map jf) N,jf r,N,w,40,f3,rfl,by rw[xV iQ'];exact jr,rfl,inp',w1,kb',⟨λ n=>a1.getD n 0,sum2⟩,t5,λ st6 y2 K6 an2 _=>?_⟩;obtain⟨f6,t6⟩:=K6.tb;obtain⟨a2,F2,m2,Nu,c2,top2,an2,rfl⟩:=an2;obtain⟨rfl,rfl⟩:=CN an2 an.wg.is an.wg.st an.red (λ x=>(sc x).trans (an.mq x)) an.la sum2 an.Am;refine qr (qr ?_);have e8:∀x1 x2 x3 x4 x5:D,L3.cutD [x1,x2,x3,x4,x5] none (some 3)=[x1,x2,x3]:=λ _ _ _ _ _=>rL (j:=3);rw[e8,e8];refine sN Ia ?_;exact hnx _ _ ⟨_,f6,rfl,t6⟩
 rintro σ' s5 ⟨v8,f5,rfl,t5⟩;refine fW ⟨aU (by rw[Rw];omega),?_⟩;refine gZ av trivial cq.tup (λ e q hq he K' t=>⟨_,rfl,ip he t⟩) ?_;refine ip rfl ⟨RN rfl,?_⟩;refine aM rfl rfl (aM rfl rfl ⟨_,_,Mx.cF Q N,r,N,w,23,f5,rfl,by rw[eR];exact yA,rfl,inp,w1,kb,sol,t5,λ s6 y2 K6 _ af2=>?_⟩);obtain⟨f6,t6⟩:=K6.tb;have e2:=af2.one af1;subst e2;refine rK Ar (ik ?_);refine fW ⟨aU (by rw[Rw];omega),?_⟩;refine gZ av trivial cq.tup (λ e q hq he K' t=>⟨_,rfl,ip he t⟩) ?_;refine ip rfl ⟨RN rfl,?_⟩;refine rK Gh (ik ?_);refine⟨_,_,Mx.cF Q N,r,N,w,23,f6,rfl,by rw[eR];exact jr,rfl,inp,w1,kb,sol,t6,λ s7 y3 K7 _ af3=>?_⟩;have e3:=af3.one af1;subst e3;exact rK Ar (k s7)
end Prog
namespace Row
open PySem L2 L3 Prog
open PySem.Spec hiding items?
open PyProof.Rows hiding St
def cV:(("tuple":Str))≠"__name__":=by decide+kernel
def gB:(("list":Str))≠"__name__":=by decide+kernel
def dZ:(("len":Str))≠"__name__":=by decide+kernel
def w9:(("abs":Str))≠"__name__":=by decide+kernel
def pV:(("int":Str))≠"__name__":=by decide+kernel
def Na:(("sum":Str))≠"__name__":=by decide+kernel
def Gv:(("min":Str))≠"__name__":=by decide+kernel
def jj:(("isinstance":Str))≠"__name__":=by decide+kernel
def KH:(("bool":Str))≠"__name__":=by decide+kernel
def Mt:(("all":Str))≠"__name__":=by decide+kernel
def Aa:(("max":Str))≠"__name__":=by decide+kernel
structure Bl(mg:Str->Option Value):Prop where
 c9:mg "tuple"=none
 we:mg "zip"=none
 eg:mg "range"=none
 Cj:mg "enumerate"=none
 iD:mg "list"=none
 fv:mg "len"=none
 zM:mg "abs"=none
 Hy:mg "sorted"=none
 sj:mg "int"=none
 Pd:mg "sum"=none
 ID:mg "min"=none
 jW:mg "isinstance"=none
 Nh:mg "bool"=none
 Og:mg "all"=none
 Dg:mg "max"=none
structure Kl(K:PySem.W.Frag)(mg:Str->Option Value):Prop where
 a7:ClsAt K mg "Bench" aD
 cM:g4 K aD "body"
 fF:g4 K aD "turn"
 cY:g4 K aD "back_columns"
def uz:VS (ai jN) qj ["tuple"]:=⟨by decide+kernel⟩
def DN:aT qj ["rows"] (ai jN):=⟨rfl,rfl,rfl,by decide+kernel,rfl,by decide+kernel,by decide+kernel⟩
def x8:VS (ai nj) uR ["zip"]:=⟨by decide+kernel⟩
def GI:aT uR ["row","times","other"] (ai nj):=⟨rfl,rfl,rfl,by decide+kernel,rfl,by decide+kernel,by decide+kernel⟩
def fE:VS (ai nF) sx ["zip","added","tuple"]:=⟨by decide+kernel⟩
def qc:aT sx ["weights","rows","wide"] (ai nF):=⟨rfl,rfl,rfl,by decide+kernel,rfl,by decide+kernel,by decide+kernel⟩
def vU:VS (ai lI) r8 ["tuple"]:=⟨by decide+kernel⟩
def GD:aT r8 ["rows","place"] (ai lI):=⟨rfl,rfl,rfl,by decide+kernel,rfl,by decide+kernel,by decide+kernel⟩
def kW:VS (ai fZ) kZ ["range","tuple"]:=⟨by decide+kernel⟩
def xZ:aT kZ ["rows","wide"] (ai fZ):=⟨rfl,rfl,rfl,by decide+kernel,rfl,by decide+kernel,by decide+kernel⟩
def oX:VS (ai i7) o8 ["range","tuple"]:=⟨by decide+kernel⟩
def BP:aT o8 ["n","place"] (ai i7):=⟨rfl,rfl,rfl,by decide+kernel,rfl,by decide+kernel,by decide+kernel⟩
def nQ:VS (ai g_) nJ ["range","tuple"]:=⟨by decide+kernel⟩
def Ae:aT nJ ["n"] (ai g_):=⟨rfl,rfl,rfl,by decide+kernel,rfl,by decide+kernel,by decide+kernel⟩
def qi:VS (ai lO) qD ["enumerate"]:=⟨by decide+kernel⟩
def wj:aT qD ["row"] (ai lO):=⟨rfl,rfl,rfl,by decide+kernel,rfl,by decide+kernel,by decide+kernel⟩
def jG:VS (ai fo) gR []:=⟨by decide+kernel⟩
def jB:aT gR ["top","bottom"] (ai fo):=⟨rfl,rfl,rfl,by decide+kernel,rfl,by decide+kernel,by decide+kernel⟩
def dR:VS (ai jw) nO ["list"]:=⟨by decide+kernel⟩
def uG:aT nO ["rows","k","other"] (ai jw):=⟨rfl,rfl,rfl,by decide+kernel,rfl,by decide+kernel,by decide+kernel⟩
def F8:VS (ai jO) qh []:=⟨by decide+kernel⟩
def Eu:aT qh ["row"] (ai jO):=⟨rfl,rfl,rfl,by decide+kernel,rfl,by decide+kernel,by decide+kernel⟩
def cw:VS (ai dG) jc ["len","unit_rows"]:=⟨by decide+kernel⟩
def vf:aT jc ["self","rows"] (ai dG):=⟨rfl,rfl,rfl,by decide+kernel,rfl,by decide+kernel,by decide+kernel⟩
def a6:VS (ai iK) mR ["added"]:=⟨by decide+kernel⟩
def zp:aT mR ["self","k","times","other"] (ai iK):=⟨rfl,rfl,rfl,by decide+kernel,rfl,by decide+kernel,by decide+kernel⟩
def bp:VS (ai fO) ja ["exchanged"]:=⟨by decide+kernel⟩
def ve:aT ja ["self","k","other"] (ai fO):=⟨rfl,rfl,rfl,by decide+kernel,rfl,by decide+kernel,by decide+kernel⟩
def aR:VS (ai eZ) gM ["negated"]:=⟨by decide+kernel⟩
def sD:aT gM ["self","k"] (ai eZ):=⟨rfl,rfl,rfl,by decide+kernel,rfl,by decide+kernel,by decide+kernel⟩
def dW:VS (ai dU) h8 ["len","range","sorted"]:=⟨by decide+kernel⟩
def nS:aT h8 ["self","top","place"] (ai dU):=⟨rfl,rfl,rfl,by decide+kernel,rfl,by decide+kernel,by decide+kernel⟩
def aC:VS (ai gv) j9 ["len","nearest_quotient"]:=⟨by decide+kernel⟩
def gS:aT j9 ["self","top","place"] (ai gv):=⟨rfl,rfl,rfl,by decide+kernel,rfl,by decide+kernel,by decide+kernel⟩
def cB:VS (ai e_) gJ ["range"]:=⟨by decide+kernel⟩
def gq:aT gJ ["self","top","place"] (ai e_):=⟨rfl,rfl,rfl,by decide+kernel,rfl,by decide+kernel,by decide+kernel⟩
def bg:VS (ai j8) o5 ["Bench","len","range","turned_over","as_rows"]:=⟨by decide+kernel⟩
def jt:aT o5 ["rows"] (ai j8):=⟨rfl,rfl,rfl,by decide+kernel,rfl,by decide+kernel,by decide+kernel⟩
def bZ:VS (ai lJ) qG ["list","lead_of","added","tuple"]:=⟨by decide+kernel⟩
def gp:aT qG ["form","row"] (ai lJ):=⟨rfl,rfl,rfl,by decide+kernel,rfl,by decide+kernel,by decide+kernel⟩
def u9:VS (ai pD) u3 ["weighed"]:=⟨by decide+kernel⟩
def HY:aT u3 ["form","row"] (ai pD):=⟨rfl,rfl,rfl,by decide+kernel,rfl,by decide+kernel,by decide+kernel⟩
def fk:VS (ai gw) j_ ["len","standing"]:=⟨by decide+kernel⟩
def wq:aT j_ ["turn","many"] (ai gw):=⟨rfl,rfl,rfl,by decide+kernel,rfl,by decide+kernel,by decide+kernel⟩
def aN:VS (ai lP) p_ ["len","turned_over","standing","weighed","lead_of","steps_behind","sum_by","falls"]:=⟨by decide+kernel⟩
def gY:aT p_ ["rows","due"] (ai lP):=⟨rfl,rfl,rfl,by decide+kernel,rfl,by decide+kernel,by decide+kernel⟩
def fB:VS (ai ku) o7 ["abs","int"]:=⟨by decide+kernel⟩
def qV:aT o7 ["_law_script"] (ai ku):=⟨rfl,rfl,rfl,by decide+kernel,rfl,by decide+kernel,by decide+kernel⟩
def cz:VS (ai ka) pe ["len"]:=⟨by decide+kernel⟩
def nI:aT pe ["_law_hand_here","_law_many"] (ai ka):=⟨rfl,rfl,rfl,by decide+kernel,rfl,by decide+kernel,by decide+kernel⟩
def ou:VS (ai jY) qk ["zip","sum"]:=⟨by decide+kernel⟩
def D1:aT qk ["_law_one","_law_other"] (ai jY):=⟨rfl,rfl,rfl,by decide+kernel,rfl,by decide+kernel,by decide+kernel⟩
def rW:VS (ai iY) oO ["zip"]:=⟨by decide+kernel⟩
def Ce:aT oO ["_law_row","_law_other","_law_many"] (ai iY):=⟨rfl,rfl,rfl,by decide+kernel,rfl,by decide+kernel,by decide+kernel⟩
def cx:VS (ai fH) qA ["len","min"]:=⟨by decide+kernel⟩
def fS:aT qA ["_law_rows","_law_column"] (ai fH):=⟨rfl,rfl,rfl,by decide+kernel,rfl,by decide+kernel,by decide+kernel⟩
def bE:VS (ai dQ) kj ["range","_law_led","tuple"]:=⟨by decide+kernel⟩
def d5:aT kj ["_law_rows","_law_wide"] (ai dQ):=⟨rfl,rfl,rfl,by decide+kernel,rfl,by decide+kernel,by decide+kernel⟩
def cy:VS (ai i6) oS ["list","len","range","_law_less","tuple"]:=⟨by decide+kernel⟩
def g7:aT oS ["_law_form","_law_row"] (ai i6):=⟨rfl,rfl,rfl,by decide+kernel,rfl,by decide+kernel,by decide+kernel⟩
def fA:VS (ai ju) nK ["int","isinstance","bool"]:=⟨by decide+kernel⟩
def BG:aT nK ["_law_found"] (ai ju):=⟨rfl,rfl,rfl,by decide+kernel,rfl,by decide+kernel,by decide+kernel⟩
def a_:VS (ai fM) j0 ["tuple","isinstance","len","all"]:=⟨by decide+kernel⟩
def ql:aT j0 ["_law_found","_law_many","_law_wide"] (ai fM):=⟨rfl,rfl,rfl,by decide+kernel,rfl,by decide+kernel,by decide+kernel⟩
def oP:VS (ai i3) o3 ["len","range"]:=⟨by decide+kernel⟩
def Ca:aT o3 ["_law_rows"] (ai i3):=⟨rfl,rfl,rfl,by decide+kernel,rfl,by decide+kernel,by decide+kernel⟩
def zm:VS (ai fX) k_ []:=⟨by decide+kernel⟩
def xJ:aT k_ ["_law_one","_law_other"] (ai fX):=⟨rfl,rfl,rfl,by decide+kernel,rfl,by decide+kernel,by decide+kernel⟩
def aE:VS (ai gj) oV ["range","_law_take","int","zip"]:=⟨by decide+kernel⟩
def gu:aT oV ["_law_hand_here","_law_size"] (ai gj):=⟨rfl,rfl,rfl,by decide+kernel,rfl,by decide+kernel,by decide+kernel⟩
def aZ:VS (ai iF) mi ["_law_take","int","max","min"]:=⟨by decide+kernel⟩
def oC:aT mi ["_law_hand_here"] (ai iF):=⟨rfl,rfl,rfl,by decide+kernel,rfl,by decide+kernel,by decide+kernel⟩
def bS:VS (ai gF) mS ["range","_law_take"]:=⟨by decide+kernel⟩
def jh:aT mS ["_law_hand_here","_law_fixed","_law_many"] (ai gF):=⟨rfl,rfl,rfl,by decide+kernel,rfl,by decide+kernel,by decide+kernel⟩
def cD:VS (ai gy) j6 ["list","len","_law_take"]:=⟨by decide+kernel⟩
def mP:aT j6 ["_law_hand_here","_law_rows"] (ai gy):=⟨rfl,rfl,rfl,by decide+kernel,rfl,by decide+kernel,by decide+kernel⟩
def eC:VS (ai ie) mL ["_law_take"]:=⟨by decide+kernel⟩
def tE:aT mL ["_law_hand_here"] (ai ie):=⟨rfl,rfl,rfl,by decide+kernel,rfl,by decide+kernel,by decide+kernel⟩
def aA:VS (ai dY) jD ["_law_bounds","_law_turn","_law_fixing","_law_shuffled","range","tuple","_law_over"]:=⟨by decide+kernel⟩
def fj:aT jD ["_law_hand_here"] (ai dY):=⟨rfl,rfl,rfl,by decide+kernel,rfl,by decide+kernel,by decide+kernel⟩
def cG:VS (ai fY) k6 ["_law_are_rows","_law_product","range"]:=⟨by decide+kernel⟩
def yw:aT k6 ["_law_turn_here","_law_back","_law_size"] (ai fY):=⟨rfl,rfl,rfl,by decide+kernel,rfl,by decide+kernel,by decide+kernel⟩
def au:VS (ai jq) nP ["len","_law_standing","tuple","isinstance","_law_are_rows","_law_rest","_law_is_turn","_law_over","_law_product","list"]:=⟨by decide+kernel⟩
def mw:aT nP ["_law_rows","_law_answer","_law_free","_law_found"] (ai jq):=⟨rfl,rfl,rfl,by decide+kernel,rfl,by decide+kernel,by decide+kernel⟩
def a9:VS (ai jE) zV ["_law_hand","_law_equations","tuple","answers","_law_right","max","_law_take","list"]:=⟨by decide+kernel⟩
def mv:aT zV ["_law_script"] (ai jE):=⟨rfl,rfl,rfl,by decide+kernel,rfl,by decide+kernel,by decide+kernel⟩
structure Ev(w:World)(mg:Str->Option Value)(h:Heap):Prop where
 X:(KX w.params).In h
 G:h.Ns mainGlobals mg
section
variable {w:World}{mg:Str->Option Value}{h base:Heap}(e:Ev w mg h)
include e
theorem Bt:Bl mg:=⟨SE e.X e.G (by kernel_rfl),SE e.X e.G (by kernel_rfl),SE e.X e.G (by kernel_rfl),SE e.X e.G (by kernel_rfl),SE e.X e.G (by kernel_rfl),SE e.X e.G (by kernel_rfl),SE e.X e.G (by kernel_rfl),SE e.X e.G (by kernel_rfl),SE e.X e.G (by kernel_rfl),SE e.X e.G (by kernel_rfl),SE e.X e.G (by kernel_rfl),SE e.X e.G (by kernel_rfl),SE e.X e.G (by kernel_rfl),SE e.X e.G (by kernel_rfl),SE e.X e.G (by kernel_rfl)⟩
theorem Qt:Kl (KX w.params) mg:=⟨⟨⟨by kernel_rfl,by kernel_rfl,by kernel_rfl,by kernel_rfl⟩,PySem.W.mg_of e.X e.G (by kernel_rfl),by kernel_rfl,by kernel_rfl⟩,Hd.na (by kernel_rfl),Hd.na (by kernel_rfl),Hd.na (by kernel_rfl)⟩
theorem tQ:cH (KX w.params) mg "as_rows" "as_rows" jN ["rows"] 68 (Hd.fd jN "as_rows" "as_rows" kR 67):=Hd.tm e.X e.G (by kernel_rfl) λ _ _ _ _ _ _ _=>rfl
theorem yQ:cm PW w (KX w.params) mg base di 1 68 (Hd.fd jN "as_rows" "as_rows" kR 67) ["rows"] (dq qf):=by
 have B:=Bt e;have Q:=Qt e;exact cS (N:=qj) (tQ e).fn DN (λ cdv A outer s H E hr=>(aH (bo (dw dD (aa (cU (Nc:=["row"]) (aO.look (ai jN) ["rows"] (by decide+kernel)) (dm (uz.nm 0)) (λ _ _ _ _=>(cJ (show(["row"]:List Str).Nodup by decide+kernel))) (λ _ _ _ _=>bz) (λ _ _ _ _=>(dw dD (aa bH aj) B.c9 rfl cV (by decide+kernel) rfl)) aS) aj) B.c9 rfl cV (uz.d 0) (uz.g 0))))) D_
theorem ph:cH (KX w.params) mg "added" "added" nj ["row","times","other"] 73 (Hd.fd nj "added" "added" kR 72):=Hd.AG e.X e.G (by kernel_rfl) λ _ _ _ _ _ _ _ _ _=>rfl
theorem rS:cm PW w (KX w.params) mg base di 1 73 (Hd.fd nj "added" "added" kR 72) ["row","times","other"] (dq nq):=by
 have B:=Bt e;have Q:=Qt e;exact cS (N:=uR) (ph e).fn GI (λ cdv A outer s H E hr=>(aH (bo (cU (Nc:=["one","two","times"]) (aO.look (ai nj) ["row","times","other"] (by decide+kernel)) (xf (x8.g 0) B.we (aa (x8.nm 0) (aa (x8.nm 2) aj))) (λ _ _ _ _=>(qF rfl (show(["one","two","times"]:List Str).Nodup by decide+kernel))) (λ _ _ _ _=>bz) (λ _ _ _ _=>(bD fL bH (bD gg bH bH))) uY)))) GN
theorem AQ:cH (KX w.params) mg "sum_by" "sum_by" nF ["weights","rows","wide"] 80 (Hd.fd nF "sum_by" "sum_by" kR 79):=Hd.AG e.X e.G (by kernel_rfl) λ _ _ _ _ _ _ _ _ _=>rfl
theorem Ie:cm PW w (KX w.params) mg base di 2 80 (Hd.fd nF "sum_by" "sum_by" kR 79) ["weights","rows","wide"] (dq vJ):=by
 have B:=Bt e;have Q:=Qt e
 exact cS (N:=sx) (AQ e).fn qc (λ cdv A outer s H E hr=>(ao (aX qc.nd (fE.l 3) (bD gg (i_ (aa az aj)) (fE.nm 2)))
  (ao (jn (xf (fE.g 0) B.we (aa (fE.nm 0) (aa (fE.nm 1) aj))) (qF rfl qc.nd) (aH (aX qc.nd (fE.l 3) (a8 (ph e) (rS e) (hr.mono (by decide)) (aa (fE.nm 3) (aa (fE.nm 4) (aa (fE.nm 5) aj))) (fE.d 1) (fE.g 1)))))
  (aH (bo (dw dD (aa (fE.nm 3) aj) B.c9 rfl cV (fE.d 2) (fE.g 2))))))) E2
theorem Aj:cH (KX w.params) mg "column" "column" lI ["rows","place"] 85 (Hd.fd lI "column" "column" kR 84):=Hd.oG e.X e.G (by kernel_rfl) λ _ _ _ _ _ _ _ _=>rfl
theorem Ii:cm PW w (KX w.params) mg base di 1 85 (Hd.fd lI "column" "column" kR 84) ["rows","place"] (dq v9):=by
 have B:=Bt e;have Q:=Qt e;exact cS (N:=r8) (Aj e).fn GD (λ cdv A outer s H E hr=>(aH (bo (dw dD (aa (cU (Nc:=["row","place"]) (aO.look (ai lI) ["rows","place"] (by decide+kernel)) (dm (vU.nm 0)) (λ _ _ _ _=>(cJ (show(["row","place"]:List Str).Nodup by decide+kernel))) (λ _ _ _ _=>bz) (λ _ _ _ _=>(aV bH bH)) aS) aj) B.c9 rfl cV (vU.d 0) (vU.g 0))))) Fv
theorem oE:cH (KX w.params) mg "turned_over" "turned_over" fZ ["rows","wide"] 90 (Hd.fd fZ "turned_over" "turned_over" kR 89):=Hd.oG e.X e.G (by kernel_rfl) λ _ _ _ _ _ _ _ _=>rfl
theorem tf:cm PW w (KX w.params) mg base di 2 90 (Hd.fd fZ "turned_over" "turned_over" kR 89) ["rows","wide"] (dq k9):=by
 have B:=Bt e;have Q:=Qt e;exact cS (N:=kZ) (oE e).fn xZ (λ cdv A outer s H E hr=>(aH (bo (dw dD (aa (cU (Nc:=["place","rows"]) (aO.look (ai fZ) ["rows","wide"] (by decide+kernel)) (dJ (kW.g 0) B.eg (aa (kW.nm 1) aj)) (λ _ _ _ _=>(cJ (show(["place","rows"]:List Str).Nodup by decide+kernel))) (λ _ _ _ _=>bz) (λ _ _ _ _=>(a8 (Aj e) (Ii e) (hr.mono (by decide)) (aa bH (aa bH aj)) (by decide+kernel) rfl)) aS) aj) B.c9 rfl cV (kW.d 1) (kW.g 1))))) yp
theorem xm:cH (KX w.params) mg "unit_row" "unit_row" i7 ["n","place"] 95 (Hd.fd i7 "unit_row" "unit_row" kR 94):=Hd.oG e.X e.G (by kernel_rfl) λ _ _ _ _ _ _ _ _=>rfl
theorem DW:cm PW w (KX w.params) mg base di 1 95 (Hd.fd i7 "unit_row" "unit_row" kR 94) ["n","place"] (dq sZ):=by
 have B:=Bt e;have Q:=Qt e;exact cS (N:=o8) (xm e).fn BP (λ cdv A outer s H E hr=>(aH (bo (dw dD (aa (cU (Nc:=["k","place"]) (aO.look (ai i7) ["n","place"] (by decide+kernel)) (dJ (oX.g 0) B.eg (aa (oX.nm 0) aj)) (λ _ _ _ _=>(cJ (show(["k","place"]:List Str).Nodup by decide+kernel))) (λ _ _ _ _=>bz) (λ _ _ _ _=>(Ik (dc (lu hr) (cp _) bH bH) az az)) aS) aj) B.c9 rfl cV (oX.d 1) (oX.g 1))))) Cd
theorem qM:cH (KX w.params) mg "unit_rows" "unit_rows" g_ ["n"] 100 (Hd.fd g_ "unit_rows" "unit_rows" kR 99):=Hd.tm e.X e.G (by kernel_rfl) λ _ _ _ _ _ _ _=>rfl
theorem vo:cm PW w (KX w.params) mg base di 2 100 (Hd.fd g_ "unit_rows" "unit_rows" kR 99) ["n"] (dq nR):=by
 have B:=Bt e;have Q:=Qt e;exact cS (N:=nJ) (qM e).fn Ae (λ cdv A outer s H E hr=>(aH (bo (dw dD (aa (cU (Nc:=["place","n"]) (aO.look (ai g_) ["n"] (by decide+kernel)) (dJ (nQ.g 0) B.eg (aa (nQ.nm 0) aj)) (λ _ _ _ _=>(cJ (show(["place","n"]:List Str).Nodup by decide+kernel))) (λ _ _ _ _=>bz) (λ _ _ _ _=>(a8 (xm e) (DW e) (hr.mono (by decide)) (aa bH (aa bH aj)) (by decide+kernel) rfl)) aS) aj) B.c9 rfl cV (nQ.d 1) (nQ.g 1))))) Bb
theorem tT:cH (KX w.params) mg "lead_of" "lead_of" lO ["row"] 107 (Hd.fd lO "lead_of" "lead_of" fh 106):=Hd.tm e.X e.G (by kernel_rfl) λ _ _ _ _ _ _ _=>rfl
theorem y_:cm PW w (KX w.params) mg base di 1 107 (Hd.fd lO "lead_of" "lead_of" fh 106) ["row"] (dq qw):=by
 have B:=Bt e;have Q:=Qt e
 exact cS (N:=qD) (tT e).fn wj (λ cdv A outer s H E hr=>(ao (jn (MB (qi.g 0) B.Cj (aa (qi.nm 0) aj)) (qF rfl wj.nd) (aH (gh (dc uy (cp _) (qi.nm 2) az) (aH (bo (qi.nm 1))) fC)))
  (aH (bo zR)))) Ew
theorem oi:cH (KX w.params) mg "nearest_quotient" "nearest_quotient" fo ["top","bottom"] 114 (Hd.fd fo "nearest_quotient" "nearest_quotient" fh 113):=Hd.oG e.X e.G (by kernel_rfl) λ _ _ _ _ _ _ _ _=>rfl
theorem tM:cm PW w (KX w.params) mg base di 1 114 (Hd.fd fo "nearest_quotient" "nearest_quotient" fh 113) ["top","bottom"] (dq jF):=by
 have B:=Bt e;have Q:=Qt e;exact cS (N:=gR) (oi e).fn jB (λ cdv A outer s H E hr=>(aH (bo (bD (uM hr rfl jB.gen jB.co) (bD fL (bD gg az (jG.nm 0)) (jG.nm 1)) (bD gg az (jG.nm 1)))))) tJ
theorem nN:cH (KX w.params) mg "exchanged" "exchanged" jw ["rows","k","other"] 121 (Hd.fd jw "exchanged" "exchanged" fh 120):=Hd.AG e.X e.G (by kernel_rfl) λ _ _ _ _ _ _ _ _ _=>rfl
theorem qX:cm PW w (KX w.params) mg base di 1 121 (Hd.fd jw "exchanged" "exchanged" fh 120) ["rows","k","other"] (dq kO):=by
 have B:=Bt e;have Q:=Qt e
 exact cS (N:=nO) (nN e).fn uG (λ cdv A outer s H E hr=>(ao (aX uG.nd (dR.l 3) (dw CW (aa (dR.nm 0) aj) B.iD rfl gB (dR.d 0) (dR.g 0)))
  (ao (gE (aV (dR.nm 0) (dR.nm 2)) (dR.nm 3) (dR.nm 1))
  (ao (gE (aV (dR.nm 0) (dR.nm 1)) (dR.nm 3) (dR.nm 2))
  (aH (bo (dR.nm 3))))))) AR
theorem qz:cH (KX w.params) mg "negated" "negated" jO ["row"] 126 (Hd.fd jO "negated" "negated" fh 125):=Hd.tm e.X e.G (by kernel_rfl) λ _ _ _ _ _ _ _=>rfl
theorem t_:cm PW w (KX w.params) mg base di 1 126 (Hd.fd jO "negated" "negated" fh 125) ["row"] (dq nY):=by
 have B:=Bt e;have Q:=Qt e;exact cS (N:=qh) (qz e).fn Eu (λ cdv A outer s H E hr=>(aH (bo (cU (Nc:=["number"]) (aO.look (ai jO) ["row"] (by decide+kernel)) (dm (F8.nm 0)) (λ _ _ _ _=>(cJ (show(["number"]:List Str).Nodup by decide+kernel))) (λ _ _ _ _=>bz) (λ _ _ _ _=>(oN bH)) aS)))) D0
theorem iS:MethAt (KX w.params) aD "__init__" "Bench.__init__" dG ["self","rows"] 138 (Hd.fd dG "__init__" "Bench.__init__" fh 137):=Hd.PK (by kernel_rfl) λ _ _ _ _ _ _ _ _=>rfl
theorem vM:cm PW w (KX w.params) mg base di 3 138 (Hd.fd dG "__init__" "Bench.__init__" fh 137) ["self","rows"] (dq lb):=by
 have B:=Bt e;have Q:=Qt e
 exact cS (N:=jc) (iS e).fn vf (λ cdv A outer s H E hr=>(ao (pk Q.a7.cl Q.cM (cw.nm 0) (uO (Nc:=["row"]) (aO.look (ai dG) ["self","rows"] (by decide+kernel)) (dm (cw.nm 1)) (λ _ _ _ _=>(cJ (show(["row"]:List Str).Nodup by decide+kernel))) (λ _ _ _ _=>bz) (λ _ _ _ _=>(dw jT (aa bH aj) B.iD rfl gB (by decide+kernel) rfl)) aS))
  (ao (pk Q.a7.cl Q.fF (cw.nm 0) (uO (Nc:=["row"]) (aO.look (ai dG) ["self","rows"] (by decide+kernel)) (dm (a8 (qM e) (vo e) (hr.mono (by decide)) (aa (dA fw (aa (cw.nm 1) aj) B.fv rfl dZ (cw.d 0) (cw.g 0)) aj) (cw.d 1) (cw.g 1))) (λ _ _ _ _=>(cJ (show(["row"]:List Str).Nodup by decide+kernel))) (λ _ _ _ _=>bz) (λ _ _ _ _=>(dw jT (aa bH aj) B.iD rfl gB (by decide+kernel) rfl)) aS))
  (aH (pk Q.a7.cl Q.cY (cw.nm 0) (uO (Nc:=["row"]) (aO.look (ai dG) ["self","rows"] (by decide+kernel)) (dm (a8 (qM e) (vo e) (hr.mono (by decide)) (aa (dA fw (aa (cw.nm 1) aj) B.fv rfl dZ (cw.d 0) (cw.g 0)) aj) (cw.d 1) (cw.g 1))) (λ _ _ _ _=>(cJ (show(["row"]:List Str).Nodup by decide+kernel))) (λ _ _ _ _=>bz) (λ _ _ _ _=>(dw jT (aa bH aj) B.iD rfl gB (by decide+kernel) rfl)) aS)))))) vh
theorem jS:MethAt (KX w.params) aD "take" "Bench.take" iK ["self","k","times","other"] 145 (Hd.fd iK "take" "Bench.take" fh 144):=Hd.Q0 (by kernel_rfl) λ _ _ _ _ _ _ _ _ _ _=>rfl
theorem uC:cm PW w (KX w.params) mg base di 2 145 (Hd.fd iK "take" "Bench.take" fh 144) ["self","k","times","other"] (dq mJ):=by
 have B:=Bt e;have Q:=Qt e
 exact cS (N:=mR) (jS e).fn zp (λ cdv A outer s H E hr=>(ao (gE (a8 (ph e) (rS e) (hr.mono (by decide)) (aa (aV (d8 Q.a7.cl Q.cM (a6.nm 0)) (a6.nm 1)) (aa (oN (a6.nm 2)) (aa (aV (d8 Q.a7.cl Q.cM (a6.nm 0)) (a6.nm 3)) aj))) (a6.d 0) (a6.g 0)) (d8 Q.a7.cl Q.cM (a6.nm 0)) (a6.nm 1))
  (ao (gE (a8 (ph e) (rS e) (hr.mono (by decide)) (aa (aV (d8 Q.a7.cl Q.fF (a6.nm 0)) (a6.nm 1)) (aa (oN (a6.nm 2)) (aa (aV (d8 Q.a7.cl Q.fF (a6.nm 0)) (a6.nm 3)) aj))) (a6.d 0) (a6.g 0)) (d8 Q.a7.cl Q.fF (a6.nm 0)) (a6.nm 1))
  (aH (gE (a8 (ph e) (rS e) (hr.mono (by decide)) (aa (aV (d8 Q.a7.cl Q.cY (a6.nm 0)) (a6.nm 3)) (aa (a6.nm 2) (aa (aV (d8 Q.a7.cl Q.cY (a6.nm 0)) (a6.nm 1)) aj))) (a6.d 0) (a6.g 0)) (d8 Q.a7.cl Q.cY (a6.nm 0)) (a6.nm 3)))))) zA
theorem lj:MethAt (KX w.params) aD "exchange" "Bench.exchange" fO ["self","k","other"] 152 (Hd.fd fO "exchange" "Bench.exchange" fh 151):=Hd.II (by kernel_rfl) λ _ _ _ _ _ _ _ _ _=>rfl
theorem vP:cm PW w (KX w.params) mg base di 2 152 (Hd.fd fO "exchange" "Bench.exchange" fh 151) ["self","k","other"] (dq lE):=by
 have B:=Bt e;have Q:=Qt e
 exact cS (N:=ja) (lj e).fn ve (λ cdv A outer s H E hr=>(ao (pk Q.a7.cl Q.cM (bp.nm 0) (a8 (nN e) (qX e) (hr.mono (by decide)) (aa (d8 Q.a7.cl Q.cM (bp.nm 0)) (aa (bp.nm 1) (aa (bp.nm 2) aj))) (bp.d 0) (bp.g 0)))
  (ao (pk Q.a7.cl Q.fF (bp.nm 0) (a8 (nN e) (qX e) (hr.mono (by decide)) (aa (d8 Q.a7.cl Q.fF (bp.nm 0)) (aa (bp.nm 1) (aa (bp.nm 2) aj))) (bp.d 0) (bp.g 0)))
  (aH (pk Q.a7.cl Q.cY (bp.nm 0) (a8 (nN e) (qX e) (hr.mono (by decide)) (aa (d8 Q.a7.cl Q.cY (bp.nm 0)) (aa (bp.nm 1) (aa (bp.nm 2) aj))) (bp.d 0) (bp.g 0))))))) vg
theorem jz:MethAt (KX w.params) aD "change_sign" "Bench.change_sign" eZ ["self","k"] 159 (Hd.fd eZ "change_sign" "Bench.change_sign" fh 158):=Hd.PK (by kernel_rfl) λ _ _ _ _ _ _ _ _=>rfl
theorem tK:cm PW w (KX w.params) mg base di 2 159 (Hd.fd eZ "change_sign" "Bench.change_sign" fh 158) ["self","k"] (dq jA):=by
 have B:=Bt e;have Q:=Qt e
 exact cS (N:=gM) (jz e).fn sD (λ cdv A outer s H E hr=>(ao (gE (a8 (qz e) (t_ e) (hr.mono (by decide)) (aa (aV (d8 Q.a7.cl Q.cM (aR.nm 0)) (aR.nm 1)) aj) (aR.d 0) (aR.g 0)) (d8 Q.a7.cl Q.cM (aR.nm 0)) (aR.nm 1))
  (ao (gE (a8 (qz e) (t_ e) (hr.mono (by decide)) (aa (aV (d8 Q.a7.cl Q.fF (aR.nm 0)) (aR.nm 1)) aj) (aR.d 0) (aR.g 0)) (d8 Q.a7.cl Q.fF (aR.nm 0)) (aR.nm 1))
  (aH (gE (a8 (qz e) (t_ e) (hr.mono (by decide)) (aa (aV (d8 Q.a7.cl Q.cY (aR.nm 0)) (aR.nm 1)) aj) (aR.d 0) (aR.g 0)) (d8 Q.a7.cl Q.cY (aR.nm 0)) (aR.nm 1)))))) s_
theorem h7:MethAt (KX w.params) aD "live_rows" "Bench.live_rows" dU ["self","top","place"] 164 (Hd.fd dU "live_rows" "Bench.live_rows" fh 163):=Hd.II (by kernel_rfl) λ _ _ _ _ _ _ _ _ _=>rfl
theorem oH:cm PW w (KX w.params) mg base di 3 164 (Hd.fd dU "live_rows" "Bench.live_rows" fh 163) ["self","top","place"] (dq hJ):=by
 have B:=Bt e;have Q:=Qt e;have hC:PySem.W.codeHdIn (KX w.params) 163 161=true:=by kernel_rfl
 exact NU (N:=h8) (Hd.fc (by kernel_rfl)) nS (λ A outer s H E hr=>(ao (pw nS.nd (dW.l 3) (Nc:=["k","self","place"]) (aO.look (ai dU) ["self","top","place","live"] (by decide+kernel)) (HE (dW.g 1) B.eg (aa (dW.nm 1) (aa (dA fw (aa (d8 Q.a7.cl Q.cM (dW.nm 0)) aj) B.fv rfl dZ (dW.d 0) (dW.g 0)) aj))) (λ _ _ _ _=>(cJ (show(["k","self","place"]:List Str).Nodup by decide+kernel))) (λ _ _ _ _=>(rT (dc uy (cp _) (aV (aV (d8 Q.a7.cl Q.cM bH) bH) bH) az))) (λ _ _ _ _=>bH) aS)
  (aH (bo (J4 (c0:=163) (o9.look (Nc:=["k","self","place"]) (fr:=[none,some 0,some 2]) (p:="k") (aO.look (ai dU) ["self","top","place","live"] (by decide+kernel))) rfl hr rfl hC (λ _ _ _ _=>(dA zQ (aa (aV (aV (d8 Q.a7.cl Q.cM bH) bH) bH) aj) B.zM rfl w9 (by decide+kernel) rfl)) (dW.nm 3) (dW.g 2) B.Hy))))) um
theorem nt:MethAt (KX w.params) aD "gather" "Bench.gather" gv ["self","top","place"] 171 (Hd.fd gv "gather" "Bench.gather" fh 170):=Hd.II (by kernel_rfl) λ _ _ _ _ _ _ _ _ _=>rfl
theorem ya:cm PW w (KX w.params) mg base di 4 171 (Hd.fd gv "gather" "Bench.gather" fh 170) ["self","top","place"] (dq m5):=by
 have B:=Bt e;have Q:=Qt e
 exact cS (N:=j9) (nt e).fn gS (λ cdv A outer s H E hr=>(ao (aX gS.nd (aC.l 3) (nX (aC.nm 0) Q.a7.cl (h7 e).me (oH e) (hr.mono (by decide)) (h7 e).bd (aa (aC.nm 1) (aa (aC.nm 2) aj))))
  (ao (vI (dc DU (cp _) (dA fw (aa (aC.nm 3) aj) B.fv rfl dZ (aC.d 0) (aC.g 0)) az) (ao (aX gS.nd (aC.l 4) (aV (aC.nm 3) (oN az)))
  (ao (aX gS.nd (aC.l 5) (aV (aC.nm 3) (oN az)))
  (ao (kh (nX (aC.nm 0) Q.a7.cl (jS e).me (uC e) (hr.mono (by decide)) (jS e).bd (aa (aC.nm 4) (aa (a8 (oi e) (tM e) (hr.mono (by decide)) (aa (aV (aV (d8 Q.a7.cl Q.cM (aC.nm 0)) (aC.nm 4)) (aC.nm 2)) (aa (aV (aV (d8 Q.a7.cl Q.cM (aC.nm 0)) (aC.nm 5)) (aC.nm 2)) aj)) (aC.d 1) (aC.g 1)) (aa (aC.nm 5) aj)))))
  (aH (aX gS.nd (aC.l 3) (nX (aC.nm 0) Q.a7.cl (h7 e).me (oH e) (hr.mono (by decide)) (h7 e).bd (aa (aC.nm 1) (aa (aC.nm 2) aj)))))))))
  (ao (gh (dc (lu hr) (cp _) (dA fw (aa (aC.nm 3) aj) B.fv rfl dZ (aC.d 0) (aC.g 0)) az) (aH (bo pQ)) fC)
  (ao (kh (nX (aC.nm 0) Q.a7.cl (lj e).me (vP e) (hr.mono (by decide)) (lj e).bd (aa (aC.nm 1) (aa (aV (aC.nm 3) az) aj))))
  (ao (gh (dc BC (cp _) (aV (aV (d8 Q.a7.cl Q.cM (aC.nm 0)) (aC.nm 1)) (aC.nm 2)) az) (aH (kh (nX (aC.nm 0) Q.a7.cl (jz e).me (tK e) (hr.mono (by decide)) (jz e).bd (aa (aC.nm 1) aj)))) fC)
  (aH (bo pQ)))))))) wD
theorem jy:MethAt (KX w.params) aD "lower_above" "Bench.lower_above" e_ ["self","top","place"] 178 (Hd.fd e_ "lower_above" "Bench.lower_above" fh 177):=Hd.II (by kernel_rfl) λ _ _ _ _ _ _ _ _ _=>rfl
theorem tI:cm PW w (KX w.params) mg base di 3 178 (Hd.fd e_ "lower_above" "Bench.lower_above" fh 177) ["self","top","place"] (dq jx):=by
 have B:=Bt e;have Q:=Qt e;exact cS (N:=gJ) (jy e).fn gq (λ cdv A outer s H E hr=>(aH (jn (dJ (cB.g 0) B.eg (aa (cB.nm 1) aj)) (cJ gq.nd) (aH (kh (nX (cB.nm 0) Q.a7.cl (jS e).me (uC e) (hr.mono (by decide)) (jS e).bd (aa (cB.nm 3) (aa (bD (uM hr rfl gq.gen gq.co) (aV (aV (d8 Q.a7.cl Q.cM (cB.nm 0)) (cB.nm 3)) (cB.nm 2)) (aV (aV (d8 Q.a7.cl Q.cM (cB.nm 0)) (cB.nm 1)) (cB.nm 2))) (aa (cB.nm 1) aj))))))))) sq
theorem sW:cH (KX w.params) mg "standing" "standing" j8 ["rows"] 192 (Hd.fd j8 "standing" "standing" fh 191):=Hd.tm e.X e.G (by kernel_rfl) λ _ _ _ _ _ _ _=>rfl
theorem xD:cm PW w (KX w.params) mg base di 5 192 (Hd.fd j8 "standing" "standing" fh 191) ["rows"] (dq o4):=by
 have B:=Bt e;have Q:=Qt e
 exact cS (N:=o5) (sW e).fn jt (λ cdv A outer s H E hr=>(ao (aX jt.nd (bg.l 1) (Ni ⟨Q.a7.Rr,(iS e).me.at_,(iS e).me.fn,Q.a7.kp⟩ (vM e) (hr.mono (by decide)) (bg.g 0) Q.a7.mg (iS e).bd (aa (bg.nm 0) aj) (bg.d 0)))
  (ao (aX jt.nd (bg.l 2) az)
  (ao (jn (dJ (bg.g 2) B.eg (aa (dA fw (aa (aV (bg.nm 0) az) aj) B.fv rfl dZ (bg.d 1) (bg.g 1)) aj)) (cJ jt.nd) (aH (gh (jH (nX (bg.nm 1) Q.a7.cl (nt e).me (ya e) (hr.mono (by decide)) (nt e).bd (aa (bg.nm 2) (aa (bg.nm 3) aj)))) (ao (kh (nX (bg.nm 1) Q.a7.cl (jy e).me (tI e) (hr.mono (by decide)) (jy e).bd (aa (bg.nm 2) (aa (bg.nm 3) aj))))
  (aH (Nf jt.nd (bg.l 2) az L5))) fC)))
  (ao (aX jt.nd (bg.l 4) (a8 (oE e) (tf e) (hr.mono (by decide)) (aa (d8 Q.a7.cl Q.cY (bg.nm 1)) (aa (dA fw (aa (bg.nm 0) aj) B.fv rfl dZ (bg.d 1) (bg.g 1)) aj)) (bg.d 3) (bg.g 3)))
  (aH (bo (mK (aa (a8 (tQ e) (yQ e) (hr.mono (by decide)) (aa (ki (d8 Q.a7.cl Q.cM (bg.nm 1)) ky (kE (bg.nm 2))) aj) (bg.d 4) (bg.g 4)) (aa (a8 (tQ e) (yQ e) (hr.mono (by decide)) (aa (d8 Q.a7.cl Q.fF (bg.nm 1)) aj) (bg.d 4) (bg.g 4)) (aa (bg.nm 4) aj))))))))))) BY
theorem tW:cH (KX w.params) mg "weighed" "weighed" lJ ["form","row"] 199 (Hd.fd lJ "weighed" "weighed" fh 198):=Hd.oG e.X e.G (by kernel_rfl) λ _ _ _ _ _ _ _ _=>rfl
theorem yO:cm PW w (KX w.params) mg base di 2 199 (Hd.fd lJ "weighed" "weighed" fh 198) ["form","row"] (dq qm):=by
 have B:=Bt e;have Q:=Qt e
 exact cS (N:=qG) (tW e).fn gp (λ cdv A outer s H E hr=>(ao (aX gp.nd (bZ.l 2) (xl aj))
  (ao (aX gp.nd (bZ.l 3) (dw jT (aa (bZ.nm 1) aj) B.iD rfl gB (bZ.d 0) (bZ.g 0)))
  (ao (jn (dm (bZ.nm 0)) (cJ gp.nd) (ao (aX gp.nd (bZ.l 5) (a8 (tT e) (y_ e) (hr.mono (by decide)) (aa (bZ.nm 4) aj) (bZ.d 1) (bZ.g 1)))
  (ao (aX gp.nd (bZ.l 6) (bD (uM hr rfl gp.gen gp.co) (aV (bZ.nm 3) (bZ.nm 5)) (aV (bZ.nm 4) (bZ.nm 5))))
  (ao (kh (qp (bZ.nm 2) (bZ.nm 6)))
  (aH (aX gp.nd (bZ.l 3) (a8 (ph e) (rS e) (hr.mono (by decide)) (aa (bZ.nm 3) (aa (oN (bZ.nm 6)) (aa (bZ.nm 4) aj))) (bZ.d 2) (bZ.g 2))))))))
  (aH (bo (mK (aa (dw dD (aa (bZ.nm 2) aj) B.c9 rfl cV (bZ.d 3) (bZ.g 3)) (aa (dw dD (aa (bZ.nm 3) aj) B.c9 rfl cV (bZ.d 3) (bZ.g 3)) aj))))))))) Dt
theorem C0:cH (KX w.params) mg "falls" "falls" pD ["form","row"] 206 (Hd.fd pD "falls" "falls" fh 205):=Hd.oG e.X e.G (by kernel_rfl) λ _ _ _ _ _ _ _ _=>rfl
theorem Lb:cm PW w (KX w.params) mg base di 3 206 (Hd.fd pD "falls" "falls" fh 205) ["form","row"] (dq xO):=by
 have B:=Bt e;have Q:=Qt e;exact cS (N:=u3) (C0 e).fn HY (λ cdv A outer s H E hr=>(aH (bo (aV (a8 (tW e) (yO e) (hr.mono (by decide)) (aa (u9.nm 0) (aa (u9.nm 1) aj)) (u9.d 0) (u9.g 0)) az)))) Hv
theorem rf:cH (KX w.params) mg "steps_behind" "steps_behind" gw ["turn","many"] 234 (Hd.fd gw "steps_behind" "steps_behind" CK 233):=Hd.oG e.X e.G (by kernel_rfl) λ _ _ _ _ _ _ _ _=>rfl
theorem yl:cm PW w (KX w.params) mg base di 6 234 (Hd.fd gw "steps_behind" "steps_behind" CK 233) ["turn","many"] (dq nh):=by
 have B:=Bt e;have Q:=Qt e;exact cS (N:=j_) (rf e).fn wq (λ cdv A outer s H E hr=>(aH (bo (Ik (dc BC (cp _) (fk.nm 1) (dA fw (aa (fk.nm 0) aj) B.fv rfl dZ (fk.d 0) (fk.g 0))) (aV (a8 (sW e) (xD e) (hr.mono (by decide)) (aa (ki (fk.nm 0) (kE (fk.nm 1)) ky) aj) (fk.d 1) (fk.g 1)) az) (mK aj))))) xg
theorem oo:cH (KX w.params) mg "answers" "answers" lP ["rows","due"] 241 (Hd.fd lP "answers" "answers" CK 240):=Hd.oG e.X e.G (by kernel_rfl) λ _ _ _ _ _ _ _ _=>rfl
theorem qb:cm PW w (KX w.params) mg base di 7 241 (Hd.fd lP "answers" "answers" CK 240) ["rows","due"] (dq l7):=by
 have B:=Bt e;have Q:=Qt e
 exact cS (N:=p_) (oo e).fn gY (λ cdv A outer s H E hr=>(ao (aX gY.nd (aN.l 2) (dA fw (aa (aV (aN.nm 0) az) aj) B.fv rfl dZ (aN.d 0) (aN.g 0)))
  (ao (aX gY.nd (aN.l 3) (a8 (sW e) (xD e) (hr.mono (by decide)) (aa (a8 (oE e) (tf e) (hr.mono (by decide)) (aa (aN.nm 0) (aa (aN.nm 2) aj)) (aN.d 1) (aN.g 1)) aj) (aN.d 2) (aN.g 2)))
  (ao (aX gY.nd (aN.l 4) (aV (aN.nm 3) az))
  (ao (aX gY.nd (aN.l 5) (aV (aN.nm 3) az))
  (ao (aX gY.nd (aN.l 6) (a8 (tW e) (yO e) (hr.mono (by decide)) (aa (aN.nm 4) (aa (aN.nm 1) aj)) (aN.d 3) (aN.g 3)))
  (ao (gh (dc Gr (cp _) (a8 (tT e) (y_ e) (hr.mono (by decide)) (aa (aV (aN.nm 6) az) aj) (aN.d 4) (aN.g 4)) zR) (aH HV) fC)
  (ao (aX gY.nd (aN.l 7) (a8 (rf e) (yl e) (hr.mono (by decide)) (aa (aN.nm 5) (aa (dA fw (aa (aN.nm 4) aj) B.fv rfl dZ (aN.d 0) (aN.g 0)) aj)) (aN.d 5) (aN.g 5)))
  (ao (aX gY.nd (aN.l 8) (a8 (C0 e) (Lb e) (hr.mono (by decide)) (aa (aN.nm 7) (aa (a8 (AQ e) (Ie e) (hr.mono (by decide)) (aa (aV (aN.nm 6) az) (aa (ki (aN.nm 5) ky (kE (dA fw (aa (aN.nm 4) aj) B.fv rfl dZ (aN.d 0) (aN.g 0)))) (aa (aN.nm 2) aj))) (aN.d 6) (aN.g 6)) aj)) (aN.d 7) (aN.g 7)))
  (aH (bo (mK (aa Ju (aa (aN.nm 8) (aa (aN.nm 7) (aa (aN.nm 5) (aa (aV (aN.nm 3) az) aj))))))))))))))))) D4
theorem w_:cH (KX w.params) mg "_law_hand" "_law_hand" ku ["_law_script"] 248 (Hd.fd ku "_law_hand" "_law_hand" c6 247):=Hd.tm e.X e.G (by kernel_rfl) λ _ _ _ _ _ _ _=>rfl
theorem Ec:cm PW w (KX w.params) mg base di 1 248 (Hd.fd ku "_law_hand" "_law_hand" c6 247) ["_law_script"] (dq sy):=by
 have B:=Bt e;have Q:=Qt e
 exact cS (N:=o7) (w_ e).fn qV (λ cdv A outer s H E hr=>(ao (aX qV.nd (fB.l 1) (bD fL (ki (fB.nm 0) ky (kE az)) (i_ (aa az aj))))
  (ao (aX qV.nd (fB.l 2) (dA zQ (aa (aV (fB.nm 1) az) aj) B.zM rfl w9 (fB.d 0) (fB.g 0)))
  (aH (bo (xl (aa (fB.nm 1) (aa az (aa (bD gg (fB.nm 2) (dw uI (aa (mV QE (cp _) (fB.nm 2) (bD zZ az az)) aj) B.sj rfl pV (fB.d 1) (fB.g 1))) aj))))))))) Cg
theorem cZ:cH (KX w.params) mg "_law_take" "_law_take" ka ["_law_hand_here","_law_many"] 255 (Hd.fd ka "_law_take" "_law_take" c6 254):=Hd.oG e.X e.G (by kernel_rfl) λ _ _ _ _ _ _ _ _=>rfl
theorem dg:cm PW w (KX w.params) mg base di 1 255 (Hd.fd ka "_law_take" "_law_take" c6 254) ["_law_hand_here","_law_many"] (dq cA):=by
 have B:=Bt e;have Q:=Qt e
 exact cS (N:=pe) (cZ e).fn nI (λ cdv A outer s H E hr=>(ao (gh (dc DU (cp _) (aV (cz.nm 0) az) az) (ao (aX nI.nd (cz.l 2) (bD qE (aV (cz.nm 0) az) (cz.nm 1)))
  (ao (gE (bD ES (aV (cz.nm 0) az) (cz.nm 1)) (cz.nm 0) az)
  (aH (bo (cz.nm 2))))) fC)
  (ao (gE (bD fL (aV (cz.nm 0) az) az) (cz.nm 0) az)
  (ao (aX nI.nd (cz.l 3) (aV (aV (cz.nm 0) az) (bD qE (aV (cz.nm 0) az) (dA fw (aa (aV (cz.nm 0) az) aj) B.fv rfl dZ (cz.d 0) (cz.g 0)))))
  (ao (aX nI.nd (cz.l 4) (bD qE (bD gg (bD fL (bD fL (bD qE (cz.nm 3) az) (bD gg az (aV (cz.nm 0) az))) az) az) az))
  (aH (bo (bD qE (bD ES (bD qE (bD gg (cz.nm 4) (bD fL (bD qE (cz.nm 4) az) az)) az) az) (cz.nm 1))))))))) Cc
theorem n_:cH (KX w.params) mg "_law_dot" "_law_dot" jY ["_law_one","_law_other"] 260 (Hd.fd jY "_law_dot" "_law_dot" c6 259):=Hd.oG e.X e.G (by kernel_rfl) λ _ _ _ _ _ _ _ _=>rfl
theorem qt:cm PW w (KX w.params) mg base di 1 260 (Hd.fd jY "_law_dot" "_law_dot" c6 259) ["_law_one","_law_other"] (dq mh):=by
 have B:=Bt e;have Q:=Qt e;exact cS (N:=qk) (n_ e).fn D1 (λ cdv A outer s H E hr=>(aH (bo (dA (N4 rfl) (aa (cU (Nc:=["_law_a","_law_b"]) (aO.look (ai jY) ["_law_one","_law_other"] (by decide+kernel)) (xf (ou.g 0) B.we (aa (ou.nm 0) (aa (ou.nm 1) aj))) (λ _ _ _ _=>(qF rfl (show(["_law_a","_law_b"]:List Str).Nodup by decide+kernel))) (λ _ _ _ _=>bz) (λ _ _ _ _=>(bD gg bH bH)) uY) aj) B.Pd rfl Na (ou.d 1) (ou.g 1))))) El
theorem oU:cH (KX w.params) mg "_law_less" "_law_less" iY ["_law_row","_law_other","_law_many"] 265 (Hd.fd iY "_law_less" "_law_less" c6 264):=Hd.AG e.X e.G (by kernel_rfl) λ _ _ _ _ _ _ _ _ _=>rfl
theorem sL:cm PW w (KX w.params) mg base di 1 265 (Hd.fd iY "_law_less" "_law_less" c6 264) ["_law_row","_law_other","_law_many"] (dq mH):=by
 have B:=Bt e;have Q:=Qt e;exact cS (N:=oO) (oU e).fn Ce (λ cdv A outer s H E hr=>(aH (bo (cU (Nc:=["_law_a","_law_b","_law_many"]) (aO.look (ai iY) ["_law_row","_law_other","_law_many"] (by decide+kernel)) (xf (rW.g 0) B.we (aa (rW.nm 0) (aa (rW.nm 1) aj))) (λ _ _ _ _=>(qF rfl (show(["_law_a","_law_b","_law_many"]:List Str).Nodup by decide+kernel))) (λ _ _ _ _=>bz) (λ _ _ _ _=>(bD nM bH (bD gg bH bH))) uY)))) Ci
theorem zg:cH (KX w.params) mg "_law_led" "_law_led" fH ["_law_rows","_law_column"] 270 (Hd.fd fH "_law_led" "_law_led" c6 269):=Hd.oG e.X e.G (by kernel_rfl) λ _ _ _ _ _ _ _ _=>rfl
theorem ET:cm PW w (KX w.params) mg base di 2 270 (Hd.fd fH "_law_led" "_law_led" c6 269) ["_law_rows","_law_column"] (dq tO):=by
 have B:=Bt e;have Q:=Qt e
 exact cS (N:=qA) (zg e).fn fS (λ cdv A outer s H E hr=>(ao (pw fS.nd (cx.l 2) (Nc:=["_law_row","_law_column"]) (aO.look (ai fH) ["_law_rows","_law_column","_law_others","_law_some","_law_sizes","_law_first"] (by decide+kernel)) (dm (cx.nm 0)) (λ _ _ _ _=>(cJ (show(["_law_row","_law_column"]:List Str).Nodup by decide+kernel))) (λ _ _ _ _=>(rT (dc (lu hr) (cp _) (aV bH bH) az))) (λ _ _ _ _=>bH) aS)
  (ao (sE fS.nd (cx.l 3) (Nc:=["_law_row","_law_column"]) (aO.look (ai fH) ["_law_rows","_law_column","_law_others","_law_some","_law_sizes","_law_first"] (by decide+kernel)) (dm (cx.nm 0)) (λ _ _ _ _=>(cJ (show(["_law_row","_law_column"]:List Str).Nodup by decide+kernel))) (λ _ _ _ _=>(rT (dc uy (cp _) (aV bH bH) az))) (λ _ _ _ _=>bH) aS)
  (ao (vI (dc DU (cp _) (dA fw (aa (cx.nm 3) aj) B.fv rfl dZ (cx.d 0) (cx.g 0)) az) (ao (pw fS.nd (cx.l 4) (Nc:=["_law_row","_law_column"]) (aO.look (ai fH) ["_law_rows","_law_column","_law_others","_law_some","_law_sizes","_law_first"] (by decide+kernel)) (dm (cx.nm 3)) (λ _ _ _ _=>(cJ (show(["_law_row","_law_column"]:List Str).Nodup by decide+kernel))) (λ _ _ _ _=>bz) (λ _ _ _ _=>(dA zQ (aa (aV bH bH) aj) B.zM rfl w9 (by decide+kernel) rfl)) aS)
  (ao (aX fS.nd (cx.l 5) (Ft (cx.nm 3) (OZ (cx.nm 4) (dA (Nj rfl) (aa (cx.nm 4) aj) B.ID rfl Gv (cx.d 1) (cx.g 1)))))
  (ao (sE fS.nd (cx.l 3) (Nc:=["_law_row","_law_first","_law_column"]) (aO.look (ai fH) ["_law_rows","_law_column","_law_others","_law_some","_law_sizes","_law_first"] (by decide+kernel)) (dm (cx.nm 3)) (λ _ _ _ _=>(cJ (show(["_law_row","_law_first","_law_column"]:List Str).Nodup by decide+kernel))) (λ _ _ _ _=>bz) (λ _ _ _ _=>(a8 (oU e) (sL e) (hr.mono (by decide)) (aa bH (aa bH (aa (bD (Ct hr rfl fS.gen fS.co) (aV bH bH) (aV bH bH)) aj))) (by decide+kernel) rfl)) aS)
  (ao (aX fS.nd (cx.l 2) (bD fL (cx.nm 2) (cU (Nc:=["_law_row","_law_column"]) (aO.look (ai fH) ["_law_rows","_law_column","_law_others","_law_some","_law_sizes","_law_first"] (by decide+kernel)) (dm (cx.nm 3)) (λ _ _ _ _=>(cJ (show(["_law_row","_law_column"]:List Str).Nodup by decide+kernel))) (λ _ _ _ _=>(rT (dc (lu hr) (cp _) (aV bH bH) az))) (λ _ _ _ _=>bH) aS)))
  (aH (aX fS.nd (cx.l 3) (bD LB (i_ (aa (cx.nm 5) aj)) (cU (Nc:=["_law_row","_law_column"]) (aO.look (ai fH) ["_law_rows","_law_column","_law_others","_law_some","_law_sizes","_law_first"] (by decide+kernel)) (dm (cx.nm 3)) (λ _ _ _ _=>(cJ (show(["_law_row","_law_column"]:List Str).Nodup by decide+kernel))) (λ _ _ _ _=>(rT (dc uy (cp _) (aV bH bH) az))) (λ _ _ _ _=>bH) aS)))))))))
  (aH (bo (mK (aa (cx.nm 2) (aa (aV (bD Ml (cx.nm 3) (i_ (aa zR aj))) az) aj))))))))) Dh
theorem nu:cH (KX w.params) mg "_law_standing" "_law_standing" dQ ["_law_rows","_law_wide"] 275 (Hd.fd dQ "_law_standing" "_law_standing" c6 274):=Hd.oG e.X e.G (by kernel_rfl) λ _ _ _ _ _ _ _ _=>rfl
theorem rE:cm PW w (KX w.params) mg base di 3 275 (Hd.fd dQ "_law_standing" "_law_standing" c6 274) ["_law_rows","_law_wide"] (dq kc):=by
 have B:=Bt e;have Q:=Qt e
 exact cS (N:=kj) (nu e).fn d5 (λ cdv A outer s H E hr=>(ao (pw d5.nd (bE.l 0) (Nc:=["_law_row"]) (aO.look (ai dQ) ["_law_rows","_law_wide","_law_form","_law_column","_law_first"] (by decide+kernel)) (dm (bE.nm 0)) (λ _ _ _ _=>(cJ (show(["_law_row"]:List Str).Nodup by decide+kernel))) (λ _ _ _ _=>bz) (λ _ _ _ _=>(dw jT (aa bH aj) B.iD rfl gB (by decide+kernel) rfl)) aS)
  (ao (aX d5.nd (bE.l 2) (i_ aj))
  (ao (jn (dJ (bE.g 0) B.eg (aa (bE.nm 1) aj)) (cJ d5.nd) (ao (w4 (a8 (zg e) (ET e) (hr.mono (by decide)) (aa (bE.nm 0) (aa (bE.nm 3) aj)) (bE.d 1) (bE.g 1)) (qF rfl d5.nd))
  (aH (gh (dc Gr (cp _) (bE.nm 4) zR) (ao (gh (dc BC (cp _) (aV (bE.nm 4) (bE.nm 3)) az) (aH (CJ d5.nd (bE.l 4) (cU (Nc:=["_law_number_here"]) (aO.look (ai dQ) ["_law_rows","_law_wide","_law_form","_law_column","_law_first"] (by decide+kernel)) (dm (bE.nm 4)) (λ _ _ _ _=>(cJ (show(["_law_number_here"]:List Str).Nodup by decide+kernel))) (λ _ _ _ _=>bz) (λ _ _ _ _=>(bD nM az bH)) aS))) fC)
  (aH (aX d5.nd (bE.l 2) (bD fL (cU (Nc:=["_law_row","_law_first","_law_column"]) (aO.look (ai dQ) ["_law_rows","_law_wide","_law_form","_law_column","_law_first"] (by decide+kernel)) (dm (bE.nm 2)) (λ _ _ _ _=>(cJ (show(["_law_row","_law_first","_law_column"]:List Str).Nodup by decide+kernel))) (λ _ _ _ _=>bz) (λ _ _ _ _=>(a8 (oU e) (sL e) (hr.mono (by decide)) (aa bH (aa bH (aa (bD (Ct hr rfl d5.gen d5.co) (aV bH bH) (aV bH bH)) aj))) (by decide+kernel) rfl)) aS) (i_ (aa (bE.nm 4) aj)))))) fC))))
  (aH (bo (dw dD (aa (cU (Nc:=["_law_row"]) (aO.look (ai dQ) ["_law_rows","_law_wide","_law_form","_law_column","_law_first"] (by decide+kernel)) (dm (bE.nm 2)) (λ _ _ _ _=>(cJ (show(["_law_row"]:List Str).Nodup by decide+kernel))) (λ _ _ _ _=>bz) (λ _ _ _ _=>(dw dD (aa bH aj) B.c9 rfl cV (by decide+kernel) rfl)) aS) aj) B.c9 rfl cV (bE.d 2) (bE.g 2)))))))) xw
theorem xt:cH (KX w.params) mg "_law_rest" "_law_rest" i6 ["_law_form","_law_row"] 280 (Hd.fd i6 "_law_rest" "_law_rest" c6 279):=Hd.oG e.X e.G (by kernel_rfl) λ _ _ _ _ _ _ _ _=>rfl
theorem Ex:cm PW w (KX w.params) mg base di 2 280 (Hd.fd i6 "_law_rest" "_law_rest" c6 279) ["_law_form","_law_row"] (dq su):=by
 have B:=Bt e;have Q:=Qt e
 exact cS (N:=oS) (xt e).fn g7 (λ cdv A outer s H E hr=>(ao (aX g7.nd (cy.l 1) (dw jT (aa (cy.nm 1) aj) B.iD rfl gB (cy.d 0) (cy.g 0)))
  (ao (jn (dm (cy.nm 0)) (cJ g7.nd) (ao (aX g7.nd (cy.l 3) (aV (cU (Nc:=["_law_place","_law_one"]) (aO.look (ai i6) ["_law_form","_law_row","_law_one","_law_lead"] (by decide+kernel)) (dJ (cy.g 2) B.eg (aa (dA fw (aa (cy.nm 2) aj) B.fv rfl dZ (cy.d 1) (cy.g 1)) aj)) (λ _ _ _ _=>(cJ (show(["_law_place","_law_one"]:List Str).Nodup by decide+kernel))) (λ _ _ _ _=>(rT (dc uy (cp _) (aV bH bH) az))) (λ _ _ _ _=>bH) aS) az))
  (aH (aX g7.nd (cy.l 1) (a8 (oU e) (sL e) (hr.mono (by decide)) (aa (cy.nm 1) (aa (cy.nm 2) (aa (bD (uM hr rfl g7.gen g7.co) (aV (cy.nm 1) (cy.nm 3)) (aV (cy.nm 2) (cy.nm 3))) aj))) (cy.d 3) (cy.g 3))))))
  (aH (bo (dw dD (aa (cy.nm 1) aj) B.c9 rfl cV (cy.d 4) (cy.g 4))))))) Cm
theorem vj:cH (KX w.params) mg "_law_whole" "_law_whole" ju ["_law_found"] 287 (Hd.fd ju "_law_whole" "_law_whole" c6 286):=Hd.tm e.X e.G (by kernel_rfl) λ _ _ _ _ _ _ _=>rfl
theorem Cb:cm PW w (KX w.params) mg base di 1 287 (Hd.fd ju "_law_whole" "_law_whole" c6 286) ["_law_found"] (dq qQ):=by
 have B:=Bt e;have Q:=Qt e;exact cS (N:=nK) (vj e).fn BG (λ cdv A outer s H E hr=>(aH (bo (EA (dA xH (aa (fA.nm 0) (aa (BA B.sj rfl pV (fA.d 0) (fA.g 0)) aj)) B.jW rfl jj (fA.d 1) (fA.g 1)) (IK (N7 (dA xH (aa (fA.nm 0) (aa (BA B.Nh rfl KH (fA.d 2) (fA.g 2)) aj)) B.jW rfl jj (fA.d 1) (fA.g 1)))))))) Bv
theorem iJ:cH (KX w.params) mg "_law_are_rows" "_law_are_rows" fM ["_law_found","_law_many","_law_wide"] 292 (Hd.fd fM "_law_are_rows" "_law_are_rows" c6 291):=Hd.AG e.X e.G (by kernel_rfl) λ _ _ _ _ _ _ _ _ _=>rfl
theorem kF:cm PW w (KX w.params) mg base di 2 292 (Hd.fd fM "_law_are_rows" "_law_are_rows" c6 291) ["_law_found","_law_many","_law_wide"] (dq gz):=by
 have B:=Bt e;have Q:=Qt e
 exact cS (N:=j0) (iJ e).fn ql (λ cdv A outer s H E hr=>(ao (gh (r_ (o6 (kM (jH (dA xH (aa (a_.nm 0) (aa (BA B.c9 rfl cV (a_.d 0) (a_.g 0)) aj)) B.jW rfl jj (a_.d 1) (a_.g 1)))) (rJ (dc uy (cp _) (dA fw (aa (a_.nm 0) aj) B.fv rfl dZ (a_.d 2) (a_.g 2)) (a_.nm 1))))) (aH (bo pQ)) fC)
  (ao (jn (dm (a_.nm 0)) (cJ ql.nd) (aH (gh (r_ (o6 (kM (jH (dA xH (aa (a_.nm 3) (aa (BA B.c9 rfl cV (a_.d 0) (a_.g 0)) aj)) B.jW rfl jj (a_.d 1) (a_.g 1)))) (o6 (dc uy (cp _) (dA fw (aa (a_.nm 3) aj) B.fv rfl dZ (a_.d 2) (a_.g 2)) (a_.nm 2)) (rJ (kM (jH (dA (Pf rfl) (aa (cU (Nc:=["_law_number_here"]) (aO.look (ai fM) ["_law_found","_law_many","_law_wide","_law_row"] (by decide+kernel)) (dm (a_.nm 3)) (λ _ _ _ _=>(cJ (show(["_law_number_here"]:List Str).Nodup by decide+kernel))) (λ _ _ _ _=>bz) (λ _ _ _ _=>(a8 (vj e) (Cb e) (hr.mono (by decide)) (aa bH aj) (by decide+kernel) rfl)) aS) aj) B.Og rfl Mt (a_.d 3) (a_.g 3)))))))) (aH (bo pQ)) fC)))
  (aH (bo pQ))))) wd
theorem mM:cH (KX w.params) mg "_law_over" "_law_over" i3 ["_law_rows"] 302 (Hd.fd i3 "_law_over" "_law_over" c6 301):=Hd.tm e.X e.G (by kernel_rfl) λ _ _ _ _ _ _ _=>rfl
theorem oY:cm PW w (KX w.params) mg base di 1 302 (Hd.fd i3 "_law_over" "_law_over" c6 301) ["_law_rows"] (dq kD):=by
 have B:=Bt e;have Q:=Qt e;exact cS (N:=o3) (mM e).fn Ca (λ cdv A outer s H E hr=>(aH (bo (cU (Nc:=["_law_k","_law_rows"]) (aO.look (ai i3) ["_law_rows"] (by decide+kernel)) (dJ (oP.g 1) B.eg (aa (dA fw (aa (aV (oP.nm 0) az) aj) B.fv rfl dZ (oP.d 0) (oP.g 0)) aj)) (λ _ _ _ _=>(cJ (show(["_law_k","_law_rows"]:List Str).Nodup by decide+kernel))) (λ _ _ _ _=>bz) (λ _ _ _ _=>(dw dD (aa (cU (Nc:=["_law_row","_law_k"]) (aO.sR (by decide+kernel)) (dm bH) (λ _ _ _ _=>(cJ (show(["_law_row","_law_k"]:List Str).Nodup by decide+kernel))) (λ _ _ _ _=>bz) (λ _ _ _ _=>(aV bH bH)) aS) aj) B.c9 rfl cV (by decide+kernel) rfl)) aS)))) Ck
theorem oA:cH (KX w.params) mg "_law_product" "_law_product" fX ["_law_one","_law_other"] 297 (Hd.fd fX "_law_product" "_law_product" c6 296):=Hd.oG e.X e.G (by kernel_rfl) λ _ _ _ _ _ _ _ _=>rfl
theorem tD:cm PW w (KX w.params) mg base di 2 297 (Hd.fd fX "_law_product" "_law_product" c6 296) ["_law_one","_law_other"] (dq kT):=by
 have B:=Bt e;have Q:=Qt e;exact cS (N:=k_) (oA e).fn xJ (λ cdv A outer s H E hr=>(aH (bo (cU (Nc:=["_law_row","_law_other"]) (aO.look (ai fX) ["_law_one","_law_other"] (by decide+kernel)) (dm (zm.nm 0)) (λ _ _ _ _=>(cJ (show(["_law_row","_law_other"]:List Str).Nodup by decide+kernel))) (λ _ _ _ _=>bz) (λ _ _ _ _=>(dw dD (aa (cU (Nc:=["_law_column","_law_row"]) (aO.sR (by decide+kernel)) (dm (a8 (mM e) (oY e) (hr.mono (by decide)) (aa bH aj) (by decide+kernel) rfl)) (λ _ _ _ _=>(cJ (show(["_law_column","_law_row"]:List Str).Nodup by decide+kernel))) (λ _ _ _ _=>bz) (λ _ _ _ _=>(a8 (n_ e) (qt e) (hr.mono (by decide)) (aa bH (aa bH aj)) (by decide+kernel) rfl)) aS) aj) B.c9 rfl cV (by decide+kernel) rfl)) aS)))) xS
theorem xv:cH (KX w.params) mg "_law_turn" "_law_turn" gj ["_law_hand_here","_law_size"] 307 (Hd.fd gj "_law_turn" "_law_turn" c6 306):=Hd.oG e.X e.G (by kernel_rfl) λ _ _ _ _ _ _ _ _=>rfl
theorem DQ:cm PW w (KX w.params) mg base di 2 307 (Hd.fd gj "_law_turn" "_law_turn" c6 306) ["_law_hand_here","_law_size"] (dq sA):=by
 have B:=Bt e;have Q:=Qt e
 exact cS (N:=oV) (xv e).fn gu (λ cdv A outer s H E hr=>(ao (sE gu.nd (aE.l 2) (Nc:=["_law_i","_law_size"]) (aO.look (ai gj) ["_law_hand_here","_law_size","_law_turn_here","_law_back","_law_k","_law_i","_law_j","_law_many","_law_row"] (by decide+kernel)) (dJ (aE.g 0) B.eg (aa (aE.nm 1) aj)) (λ _ _ _ _=>(cJ (show(["_law_i","_law_size"]:List Str).Nodup by decide+kernel))) (λ _ _ _ _=>bz) (λ _ _ _ _=>(cU (Nc:=["_law_j","_law_i"]) (aO.sR (by decide+kernel)) (dJ rfl B.eg (aa bH aj)) (λ _ _ _ _=>(cJ (show(["_law_j","_law_i"]:List Str).Nodup by decide+kernel))) (λ _ _ _ _=>bz) (λ _ _ _ _=>(dw uI (aa (mV (lu hr) (cp _) bH bH) aj) B.sj rfl pV (by decide+kernel) rfl)) aS)) aS)
  (ao (sE gu.nd (aE.l 3) (Nc:=["_law_i","_law_size"]) (aO.look (ai gj) ["_law_hand_here","_law_size","_law_turn_here","_law_back","_law_k","_law_i","_law_j","_law_many","_law_row"] (by decide+kernel)) (dJ (aE.g 0) B.eg (aa (aE.nm 1) aj)) (λ _ _ _ _=>(cJ (show(["_law_i","_law_size"]:List Str).Nodup by decide+kernel))) (λ _ _ _ _=>bz) (λ _ _ _ _=>(uO (Nc:=["_law_j","_law_i"]) (aO.sR (by decide+kernel)) (dJ rfl B.eg (aa bH aj)) (λ _ _ _ _=>(cJ (show(["_law_j","_law_i"]:List Str).Nodup by decide+kernel))) (λ _ _ _ _=>bz) (λ _ _ _ _=>(dw uI (aa (mV (lu hr) (cp _) bH bH) aj) B.sj rfl pV (by decide+kernel) rfl)) aS)) aS)
  (ao (jn (dJ (aE.g 0) B.eg (aa (bD gg (bD fL (aE.nm 1) (a8 (cZ e) (dg e) (hr.mono (by decide)) (aa (aE.nm 0) (aa az aj)) (aE.d 1) (aE.g 1))) (dw uI (aa (mV DU (cp _) (aE.nm 1) az) aj) B.sj rfl pV (aE.d 2) (aE.g 2))) aj)) (cJ gu.nd) (ao (aX gu.nd (aE.l 5) (a8 (cZ e) (dg e) (hr.mono (by decide)) (aa (aE.nm 0) (aa (aE.nm 1) aj)) (aE.d 1) (aE.g 1)))
  (ao (aX gu.nd (aE.l 6) (bD qE (bD fL (bD fL (aE.nm 5) az) (a8 (cZ e) (dg e) (hr.mono (by decide)) (aa (aE.nm 0) (aa (bD nM (aE.nm 1) az) aj)) (aE.d 1) (aE.g 1))) (aE.nm 1)))
  (ao (aX gu.nd (aE.l 7) (aV (i_ (aa (oN az) (aa (oN az) (aa az (aa az aj))))) (a8 (cZ e) (dg e) (hr.mono (by decide)) (aa (aE.nm 0) (aa az aj)) (aE.d 1) (aE.g 1))))
  (ao (EO (cU (Nc:=["_law_a","_law_b","_law_many"]) (aO.look (ai gj) ["_law_hand_here","_law_size","_law_turn_here","_law_back","_law_k","_law_i","_law_j","_law_many","_law_row"] (by decide+kernel)) (xf (aE.g 3) B.we (aa (aV (aE.nm 2) (aE.nm 5)) (aa (aV (aE.nm 2) (aE.nm 6)) aj))) (λ _ _ _ _=>(qF rfl (show(["_law_a","_law_b","_law_many"]:List Str).Nodup by decide+kernel))) (λ _ _ _ _=>bz) (λ _ _ _ _=>(bD fL bH (bD gg bH bH))) uY) (aE.nm 2) (aE.nm 5))
  (aH (jn (dm (aE.nm 3)) (cJ gu.nd) (aH (gE (bD nM (aV (aE.nm 8) (aE.nm 6)) (bD gg (aE.nm 7) (aV (aE.nm 8) (aE.nm 5)))) (aE.nm 8) (aE.nm 6))))))))))
  (aH (Al (JF (bo (mK (aa (aE.nm 2) (aa (aE.nm 3) aj))))))))))) BQ
theorem tV:cH (KX w.params) mg "_law_bounds" "_law_bounds" iF ["_law_hand_here"] 314 (Hd.fd iF "_law_bounds" "_law_bounds" c6 313):=Hd.tm e.X e.G (by kernel_rfl) λ _ _ _ _ _ _ _=>rfl
theorem BD:cm PW w (KX w.params) mg base di 2 314 (Hd.fd iF "_law_bounds" "_law_bounds" c6 313) ["_law_hand_here"] (dq pJ):=by
 have B:=Bt e;have Q:=Qt e
 exact cS (N:=mi) (tV e).fn oC (λ cdv A outer s H E hr=>(ao (aX oC.nd (aZ.l 1) (aV (i_ (aa (bD fL az (a8 (cZ e) (dg e) (hr.mono (by decide)) (aa (aZ.nm 0) (aa az aj)) (aZ.d 0) (aZ.g 0))) (aa (bD fL az (a8 (cZ e) (dg e) (hr.mono (by decide)) (aa (aZ.nm 0) (aa az aj)) (aZ.d 0) (aZ.g 0))) aj))) (dw uI (aa (mV (lu hr) (cp _) (a8 (cZ e) (dg e) (hr.mono (by decide)) (aa (aZ.nm 0) (aa az aj)) (aZ.d 0) (aZ.g 0)) az) aj) B.sj rfl pV (aZ.d 1) (aZ.g 1))))
  (ao (aX oC.nd (aZ.l 2) (a8 (cZ e) (dg e) (hr.mono (by decide)) (aa (aZ.nm 0) (aa (bD fL (aZ.nm 1) az) aj)) (aZ.d 0) (aZ.g 0)))
  (aH (bo (mK (aa (aZ.nm 1) (aa (aZ.nm 2) (aa (dA (Pz rfl) (aa az (aa (bD fL (dA (Po rfl) (aa az (aa (aZ.nm 2) aj)) B.Dg rfl Aa (aZ.d 2) (aZ.g 2)) (a8 (cZ e) (dg e) (hr.mono (by decide)) (aa (aZ.nm 0) (aa az aj)) (aZ.d 0) (aZ.g 0))) aj)) B.ID rfl Gv (aZ.d 3) (aZ.g 3)) aj))))))))) zl
theorem uD:cH (KX w.params) mg "_law_fixing" "_law_fixing" gF ["_law_hand_here","_law_fixed","_law_many"] 319 (Hd.fd gF "_law_fixing" "_law_fixing" c6 318):=Hd.AG e.X e.G (by kernel_rfl) λ _ _ _ _ _ _ _ _ _=>rfl
theorem BL:cm PW w (KX w.params) mg base di 2 319 (Hd.fd gF "_law_fixing" "_law_fixing" c6 318) ["_law_hand_here","_law_fixed","_law_many"] (dq pK):=by
 have B:=Bt e;have Q:=Qt e
 exact cS (N:=mS) (uD e).fn jh (λ cdv A outer s H E hr=>(ao (aX jh.nd (bS.l 3) (xl aj))
  (ao (jn (dJ (bS.g 0) B.eg (aa (bS.nm 2) aj)) (cJ jh.nd) (ao (pw jh.nd (bS.l 5) (Nc:=["_law_j","_law_hand_here"]) (aO.look (ai gF) ["_law_hand_here","_law_fixed","_law_many","_law_rows","_law_k","_law_row"] (by decide+kernel)) (dJ (bS.g 0) B.eg (aa (bS.nm 1) aj)) (λ _ _ _ _=>(cJ (show(["_law_j","_law_hand_here"]:List Str).Nodup by decide+kernel))) (λ _ _ _ _=>bz) (λ _ _ _ _=>(bD nM (a8 (cZ e) (dg e) (hr.mono (by decide)) (aa bH (aa az aj)) (by decide+kernel) rfl) az)) aS)
  (ao (gh (dc BC (cp _) (bS.nm 4) (bS.nm 1)) (aH (aX jh.nd (bS.l 5) (bD fL (bD fL (ki (bS.nm 5) ky (kE (bS.nm 4))) (i_ (aa (bD gg (bD fL az (a8 (cZ e) (dg e) (hr.mono (by decide)) (aa (bS.nm 0) (aa az aj)) (bS.d 1) (bS.g 1))) (aV (i_ (aa az (aa (oN az) aj))) (a8 (cZ e) (dg e) (hr.mono (by decide)) (aa (bS.nm 0) (aa az aj)) (bS.d 1) (bS.g 1)))) aj))) (bD gg (i_ (aa az aj)) (bD nM (bD nM (bS.nm 1) (bS.nm 4)) az))))) fC)
  (aH (kh (qp (bS.nm 3) (bS.nm 5)))))))
  (aH (Al (bo (bS.nm 3))))))) zk
theorem rp:cH (KX w.params) mg "_law_shuffled" "_law_shuffled" gy ["_law_hand_here","_law_rows"] 326 (Hd.fd gy "_law_shuffled" "_law_shuffled" c6 325):=Hd.oG e.X e.G (by kernel_rfl) λ _ _ _ _ _ _ _ _=>rfl
theorem yC:cm PW w (KX w.params) mg base di 2 326 (Hd.fd gy "_law_shuffled" "_law_shuffled" c6 325) ["_law_hand_here","_law_rows"] (dq nG):=by
 have B:=Bt e;have Q:=Qt e
 exact cS (N:=j6) (rp e).fn mP (λ cdv A outer s H E hr=>(ao (aX mP.nd (cD.l 2) (dw CW (aa (cD.nm 1) aj) B.iD rfl gB (cD.d 0) (cD.g 0)))
  (ao (aX mP.nd (cD.l 3) (xl aj))
  (ao (vI (dc (Ot hr) (cp _) (cD.nm 2) (i_ aj)) (aH (kh (qp (cD.nm 3) (Ft (cD.nm 2) (a8 (cZ e) (dg e) (hr.mono (by decide)) (aa (cD.nm 0) (aa (dA fw (aa (cD.nm 2) aj) B.fv rfl dZ (cD.d 1) (cD.g 1)) aj)) (cD.d 2) (cD.g 2)))))))
  (aH (Al (bo (cD.nm 3)))))))) wz
theorem t7:cH (KX w.params) mg "_law_number" "_law_number" ie ["_law_hand_here"] 333 (Hd.fd ie "_law_number" "_law_number" c6 332):=Hd.tm e.X e.G (by kernel_rfl) λ _ _ _ _ _ _ _=>rfl
theorem A5:cm PW w (KX w.params) mg base di 2 333 (Hd.fd ie "_law_number" "_law_number" c6 332) ["_law_hand_here"] (dq pF):=by
 have B:=Bt e;have Q:=Qt e
 exact cS (N:=mL) (t7 e).fn tE (λ cdv A outer s H E hr=>(ao (aX tE.nd (eC.l 1) (a8 (cZ e) (dg e) (hr.mono (by decide)) (aa (eC.nm 0) (aa az aj)) (eC.d 0) (eC.g 0)))
  (ao (gh (dc (lu hr) (cp _) (eC.nm 1) az) (aH (bo (bD nM (a8 (cZ e) (dg e) (hr.mono (by decide)) (aa (eC.nm 0) (aa az aj)) (eC.d 0) (eC.g 0)) az))) fC)
  (aH (bo (bD nM (a8 (cZ e) (dg e) (hr.mono (by decide)) (aa (eC.nm 0) (aa az aj)) (eC.d 0) (eC.g 0)) az)))))) zz
theorem qo:cH (KX w.params) mg "_law_equations" "_law_equations" dY ["_law_hand_here"] 338 (Hd.fd dY "_law_equations" "_law_equations" c6 337):=Hd.tm e.X e.G (by kernel_rfl) λ _ _ _ _ _ _ _=>rfl
theorem xj:cm PW w (KX w.params) mg base di 3 338 (Hd.fd dY "_law_equations" "_law_equations" c6 337) ["_law_hand_here"] (dq mO):=by
 have B:=Bt e;have Q:=Qt e
 exact cS (N:=jD) (qo e).fn fj (λ cdv A outer s H E hr=>(ao (w4 (a8 (tV e) (BD e) (hr.mono (by decide)) (aa (aA.nm 0) aj) (aA.d 0) (aA.g 0)) (Iz rfl fj.nd))
  (ao (w4 (a8 (xv e) (DQ e) (hr.mono (by decide)) (aa (aA.nm 0) (aa (aA.nm 1) aj)) (aA.d 1) (aA.g 1)) (qF rfl fj.nd))
  (ao (aX fj.nd (aA.l 6) (xl aj))
  (ao (jn (dm (a8 (rp e) (yC e) (hr.mono (by decide)) (aa (aA.nm 0) (aa (a8 (uD e) (BL e) (hr.mono (by decide)) (aa (aA.nm 0) (aa (aA.nm 2) (aa (aA.nm 3) aj))) (aA.d 2) (aA.g 2)) aj)) (aA.d 3) (aA.g 3))) (cJ fj.nd) (aH (kh (qp (aA.nm 6) (dw dD (aa (cU (Nc:=["_law_k","_law_row","_law_back","_law_fixed"]) (aO.look (ai dY) ["_law_hand_here","_law_size","_law_fixed","_law_many","_law_turn_here","_law_back","_law_rows","_law_row","_law_numbers","_law_answer"] (by decide+kernel)) (dJ (aA.g 4) B.eg (aa (aA.nm 1) aj)) (λ _ _ _ _=>(cJ (show(["_law_k","_law_row","_law_back","_law_fixed"]:List Str).Nodup by decide+kernel))) (λ _ _ _ _=>bz) (λ _ _ _ _=>(a8 (n_ e) (qt e) (hr.mono (by decide)) (aa bH (aa (ki (aV bH bH) ky (kE bH)) aj)) (by decide+kernel) rfl)) aS) aj) B.c9 rfl cV (aA.d 5) (aA.g 5))))))
  (ao (CJ fj.nd (aA.l 8) (cU (Nc:=["_law_k","_law_hand_here"]) (aO.look (ai dY) ["_law_hand_here","_law_size","_law_fixed","_law_many","_law_turn_here","_law_back","_law_rows","_law_row","_law_numbers","_law_answer"] (by decide+kernel)) (dJ (aA.g 4) B.eg (aa (aA.nm 1) aj)) (λ _ _ _ _=>(cJ (show(["_law_k","_law_hand_here"]:List Str).Nodup by decide+kernel))) (λ _ _ _ _=>bz) (λ _ _ _ _=>(a8 (t7 e) (A5 e) (hr.mono (by decide)) (aa bH aj) (by decide+kernel) rfl)) aS))
  (ao (aX fj.nd (aA.l 9) (dw dD (aa (cU (Nc:=["_law_column","_law_numbers"]) (aO.look (ai dY) ["_law_hand_here","_law_size","_law_fixed","_law_many","_law_turn_here","_law_back","_law_rows","_law_row","_law_numbers","_law_answer"] (by decide+kernel)) (dm (a8 (mM e) (oY e) (hr.mono (by decide)) (aa (aA.nm 4) aj) (aA.d 6) (aA.g 6))) (λ _ _ _ _=>(cJ (show(["_law_column","_law_numbers"]:List Str).Nodup by decide+kernel))) (λ _ _ _ _=>bz) (λ _ _ _ _=>(a8 (n_ e) (qt e) (hr.mono (by decide)) (aa bH (aa bH aj)) (by decide+kernel) rfl)) aS) aj) B.c9 rfl cV (aA.d 5) (aA.g 5)))
  (aH (bo (mK (aa (dw dD (aa (aA.nm 6) aj) B.c9 rfl cV (aA.d 5) (aA.g 5)) (aa (aA.nm 9) (aa (ki (aA.nm 4) (kE (aA.nm 2)) ky) aj))))))))))))) vS
theorem tj:cH (KX w.params) mg "_law_is_turn" "_law_is_turn" fY ["_law_turn_here","_law_back","_law_size"] 343 (Hd.fd fY "_law_is_turn" "_law_is_turn" c6 342):=Hd.AG e.X e.G (by kernel_rfl) λ _ _ _ _ _ _ _ _ _=>rfl
theorem zx:cm PW w (KX w.params) mg base di 3 343 (Hd.fd fY "_law_is_turn" "_law_is_turn" c6 342) ["_law_turn_here","_law_back","_law_size"] (dq oz):=by
 have B:=Bt e;have Q:=Qt e
 exact cS (N:=k6) (tj e).fn yw (λ cdv A outer s H E hr=>(ao (gh (r_ (o6 (kM (jH (a8 (iJ e) (kF e) (hr.mono (by decide)) (aa (cG.nm 0) (aa (cG.nm 2) (aa (cG.nm 2) aj))) (cG.d 0) (cG.g 0)))) (rJ (kM (jH (a8 (iJ e) (kF e) (hr.mono (by decide)) (aa (cG.nm 1) (aa (cG.nm 2) (aa (cG.nm 2) aj))) (cG.d 0) (cG.g 0))))))) (aH (bo pQ)) fC)
  (aH (bo (mV (lu hr) (cp _) (a8 (oA e) (tD e) (hr.mono (by decide)) (aa (cG.nm 0) (aa (cG.nm 1) aj)) (cG.d 1) (cG.g 1)) (cU (Nc:=["_law_i","_law_size"]) (aO.look (ai fY) ["_law_turn_here","_law_back","_law_size"] (by decide+kernel)) (dJ (cG.g 2) B.eg (aa (cG.nm 2) aj)) (λ _ _ _ _=>(cJ (show(["_law_i","_law_size"]:List Str).Nodup by decide+kernel))) (λ _ _ _ _=>bz) (λ _ _ _ _=>(dw dD (aa (cU (Nc:=["_law_j","_law_i"]) (aO.sR (by decide+kernel)) (dJ rfl B.eg (aa bH aj)) (λ _ _ _ _=>(cJ (show(["_law_j","_law_i"]:List Str).Nodup by decide+kernel))) (λ _ _ _ _=>bz) (λ _ _ _ _=>(dw uI (aa (mV (lu hr) (cp _) bH bH) aj) B.sj rfl pV (by decide+kernel) rfl)) aS) aj) B.c9 rfl cV (by decide+kernel) rfl)) aS)))))) yy
theorem vB:cH (KX w.params) mg "_law_right" "_law_right" jq ["_law_rows","_law_answer","_law_free","_law_found"] 350 (Hd.fd jq "_law_right" "_law_right" c6 349):=Hd.Q7 e.X e.G (by kernel_rfl) λ _ _ _ _ _ _ _ _ _ _=>rfl
theorem BS:cm PW w (KX w.params) mg base di 4 350 (Hd.fd jq "_law_right" "_law_right" c6 349) ["_law_rows","_law_answer","_law_free","_law_found"] (dq qJ):=by
 have B:=Bt e;have Q:=Qt e
 exact cS (N:=nP) (vB e).fn mw (λ cdv A outer s H E hr=>(ao (aX mw.nd (au.l 4) (dA fw (aa (au.nm 1) aj) B.fv rfl dZ (au.d 0) (au.g 0)))
  (ao (aX mw.nd (au.l 5) (a8 (nu e) (rE e) (hr.mono (by decide)) (aa (au.nm 2) (aa (au.nm 4) aj)) (au.d 1) (au.g 1)))
  (ao (gh (r_ (o6 (kM (jH (dA xH (aa (au.nm 3) (aa (BA B.c9 rfl cV (au.d 2) (au.g 2)) aj)) B.jW rfl jj (au.d 3) (au.g 3)))) (o6 (dc uy (cp _) (dA fw (aa (au.nm 3) aj) B.fv rfl dZ (au.d 0) (au.g 0)) az) (rJ (dc (zS hr) (cp _) (aV (au.nm 3) az) Ju))))) (aH (bo pQ)) fC)
  (ao (gh (r_ (o6 (kM (jH (a8 (iJ e) (kF e) (hr.mono (by decide)) (aa (mK (aa (aV (au.nm 3) az) aj)) (aa az (aa (au.nm 4) aj))) (au.d 4) (au.g 4)))) (rJ (kM (jH (a8 (iJ e) (kF e) (hr.mono (by decide)) (aa (aV (au.nm 3) az) (aa (dA fw (aa (au.nm 5) aj) B.fv rfl dZ (au.d 0) (au.g 0)) (aa (au.nm 4) aj))) (au.d 4) (au.g 4))))))) (aH (bo pQ)) fC)
  (ao (gh (r_ (o6 (dc (zS hr) (cp _) (aV (au.nm 3) az) (a8 (xt e) (Ex e) (hr.mono (by decide)) (aa (au.nm 5) (aa (au.nm 1) aj)) (au.d 5) (au.g 5))) (o6 (dc (zS hr) (cp _) (aV (au.nm 3) az) (au.nm 5)) (rJ (kM (jH (a8 (tj e) (zx e) (hr.mono (by decide)) (aa (aV (au.nm 3) az) (aa (aV (au.nm 3) az) (aa (au.nm 4) aj))) (au.d 6) (au.g 6)))))))) (aH (bo pQ)) fC)
  (ao (aX mw.nd (au.l 6) (a8 (nu e) (rE e) (hr.mono (by decide)) (aa (a8 (mM e) (oY e) (hr.mono (by decide)) (aa (au.nm 0) aj) (au.d 7) (au.g 7)) (aa (dA fw (aa (au.nm 0) aj) B.fv rfl dZ (au.d 0) (au.g 0)) aj)) (au.d 1) (au.g 1)))
  (aH (bo (mV (lu hr) (cp _) (a8 (oA e) (tD e) (hr.mono (by decide)) (aa (aV (au.nm 3) az) (aa (a8 (mM e) (oY e) (hr.mono (by decide)) (aa (au.nm 0) aj) (au.d 7) (au.g 7)) aj)) (au.d 8) (au.g 8)) (bD fL (dw jT (aa (au.nm 6) aj) B.iD rfl gB (au.d 9) (au.g 9)) (bD gg (i_ (aa (bD gg (mK (aa az aj)) (dA fw (aa (au.nm 0) aj) B.fv rfl dZ (au.d 0) (au.g 0))) aj)) (bD nM (au.nm 4) (dA fw (aa (au.nm 6) aj) B.fv rfl dZ (au.d 0) (au.g 0))))))))))))))) AN
theorem O9:cH (KX w.params) mg "law" "law" jE ["_law_script"] 355 (Hd.fd jE "law" "law" c6 354):=Hd.tm e.X e.G (by kernel_rfl) λ _ _ _ _ _ _ _=>rfl
theorem Pa:cm PW w (KX w.params) mg base di 8 355 (Hd.fd jE "law" "law" c6 354) ["_law_script"] (dq IY):=by
 have B:=Bt e;have Q:=Qt e
 exact cS (N:=zV) (O9 e).fn mv (λ cdv A outer s H E hr=>(ao (aX mv.nd (a9.l 1) (a8 (w_ e) (Ec e) (hr.mono (by decide)) (aa (a9.nm 0) aj) (a9.d 0) (a9.g 0)))
  (ao (w4 (a8 (qo e) (xj e) (hr.mono (by decide)) (aa (a9.nm 1) aj) (a9.d 1) (a9.g 1)) (Iz rfl mv.nd))
  (ao (aX mv.nd (a9.l 5) (dw dD (aa (cU (Nc:=["_law_row","_law_answer"]) (aO.look (ai jE) ["_law_script","_law_hand_here","_law_rows","_law_answer","_law_free","_law_due","_law_found","_law_great","_law_more","_law_handed","_law_again"] (by decide+kernel)) (dm (a9.nm 2)) (λ _ _ _ _=>(cJ (show(["_law_row","_law_answer"]:List Str).Nodup by decide+kernel))) (λ _ _ _ _=>bz) (λ _ _ _ _=>(a8 (n_ e) (qt e) (hr.mono (by decide)) (aa bH (aa bH aj)) (by decide+kernel) rfl)) aS) aj) B.c9 rfl cV (a9.d 2) (a9.g 2)))
  (ao (aX mv.nd (a9.l 6) (a8 (oo e) (qb e) (hr.mono (by decide)) (aa (a9.nm 2) (aa (a9.nm 5) aj)) (a9.d 3) (a9.g 3)))
  (ao (gh (kM (jH (a8 (vB e) (BS e) (hr.mono (by decide)) (aa (a9.nm 2) (aa (a9.nm 3) (aa (a9.nm 4) (aa (a9.nm 6) aj)))) (a9.d 4) (a9.g 4)))) (aH (bo pQ)) fC)
  (ao (aX mv.nd (a9.l 7) (dA (Gd rfl) (aa (cU (Nc:=["_law_row"]) (aO.look (ai jE) ["_law_script","_law_hand_here","_law_rows","_law_answer","_law_free","_law_due","_law_found","_law_great","_law_more","_law_handed","_law_again"] (by decide+kernel)) (dm (bD fL (a9.nm 2) (mK (aa (a9.nm 5) aj)))) (λ _ _ _ _=>(cJ (show(["_law_row"]:List Str).Nodup by decide+kernel))) (λ _ _ _ _=>bz) (λ _ _ _ _=>(dA (Gd rfl) (aa (cU (Nc:=["_law_number_here"]) (aO.sR (by decide+kernel)) (dm bH) (λ _ _ _ _=>(cJ (show(["_law_number_here"]:List Str).Nodup by decide+kernel))) (λ _ _ _ _=>bz) (λ _ _ _ _=>(dA zQ (aa bH aj) B.zM rfl w9 (by decide+kernel) rfl)) aS) aj) B.Dg rfl Aa (by decide+kernel) rfl)) aS) aj) B.Dg rfl Aa (a9.d 5) (a9.g 5)))
  (ao (gh (r_ (NM (dc (lu hr) (cp _) (a8 (cZ e) (dg e) (hr.mono (by decide)) (aa (a9.nm 1) (aa az aj)) (a9.d 6) (a9.g 6)) az) (Ka (dc BC (cp _) (a9.nm 7) (bD zZ az az))))) (ao (pw mv.nd (a9.l 8) (Nc:=["_law_row"]) (aO.look (ai jE) ["_law_script","_law_hand_here","_law_rows","_law_answer","_law_free","_law_due","_law_found","_law_great","_law_more","_law_handed","_law_again"] (by decide+kernel)) (dm (a9.nm 2)) (λ _ _ _ _=>(cJ (show(["_law_row"]:List Str).Nodup by decide+kernel))) (λ _ _ _ _=>bz) (λ _ _ _ _=>(dw dD (aa (cU (Nc:=["_law_number_here"]) (aO.sR (by decide+kernel)) (dm bH) (λ _ _ _ _=>(cJ (show(["_law_number_here"]:List Str).Nodup by decide+kernel))) (λ _ _ _ _=>bz) (λ _ _ _ _=>(bD gg (bD zZ az az) bH)) aS) aj) B.c9 rfl cV (by decide+kernel) rfl)) aS)
  (aH (gh (dc (zS hr) (cp _) (ki (a8 (oo e) (qb e) (hr.mono (by decide)) (aa (dw dD (aa (a9.nm 8) aj) B.c9 rfl cV (a9.d 2) (a9.g 2)) (aa (dw dD (aa (cU (Nc:=["_law_number_here"]) (aO.look (ai jE) ["_law_script","_law_hand_here","_law_rows","_law_answer","_law_free","_law_due","_law_found","_law_great","_law_more","_law_handed","_law_again"] (by decide+kernel)) (dm (a9.nm 5)) (λ _ _ _ _=>(cJ (show(["_law_number_here"]:List Str).Nodup by decide+kernel))) (λ _ _ _ _=>bz) (λ _ _ _ _=>(bD gg (bD zZ az az) bH)) aS) aj) B.c9 rfl cV (a9.d 2) (a9.g 2)) aj)) (a9.d 3) (a9.g 3)) ky (kE az)) (ki (a9.nm 6) ky (kE az))) (aH (bo pQ)) fC))) fC)
  (ao (aX mv.nd (a9.l 9) (i_ (aa (cU (Nc:=["_law_row"]) (aO.look (ai jE) ["_law_script","_law_hand_here","_law_rows","_law_answer","_law_free","_law_due","_law_found","_law_great","_law_more","_law_handed","_law_again"] (by decide+kernel)) (dm (a9.nm 2)) (λ _ _ _ _=>(cJ (show(["_law_row"]:List Str).Nodup by decide+kernel))) (λ _ _ _ _=>bz) (λ _ _ _ _=>(dw jT (aa bH aj) B.iD rfl gB (by decide+kernel) rfl)) aS) (aa (dw jT (aa (a9.nm 5) aj) B.iD rfl gB (a9.d 7) (a9.g 7)) aj))))
  (ao (aX mv.nd (a9.l 10) (a8 (oo e) (qb e) (hr.mono (by decide)) (aa (aV (a9.nm 9) az) (aa (aV (a9.nm 9) az) aj)) (a9.d 3) (a9.g 3)))
  (aH (bo (EA (mV (lu hr) (cp _) (a9.nm 10) (a9.nm 6)) (EA (mV (lu hr) (cp _) (a9.nm 9) (i_ (aa (cU (Nc:=["_law_row"]) (aO.look (ai jE) ["_law_script","_law_hand_here","_law_rows","_law_answer","_law_free","_law_due","_law_found","_law_great","_law_more","_law_handed","_law_again"] (by decide+kernel)) (dm (a9.nm 2)) (λ _ _ _ _=>(cJ (show(["_law_row"]:List Str).Nodup by decide+kernel))) (λ _ _ _ _=>bz) (λ _ _ _ _=>(dw jT (aa bH aj) B.iD rfl gB (by decide+kernel) rfl)) aS) (aa (dw jT (aa (a9.nm 5) aj) B.iD rfl gB (a9.d 7) (a9.g 7)) aj)))) (IK (mV (lu hr) (cp _) (a8 (oo e) (qb e) (hr.mono (by decide)) (aa (a9.nm 2) (aa (a9.nm 5) aj)) (a9.d 3) (a9.g 3)) (a9.nm 6))))))))))))))))) MS
end
def dL:DefRec:=match jE with
 | .FunctionDef n a b _ _ _ sc _ _ pos=>⟨n,a,b,sc,pos⟩
 |_=>⟨"",L2.lS (.Pass ⟨0,0,0,0⟩),[],L2.ai (.Pass ⟨0,0,0,0⟩),⟨0,0,0,0⟩⟩
def Hg:PySem.Challenge.rw_latticeworks_k51_all_answers.wellSaid=true:=by decide+kernel
end Row
open PySem PySem.W PyProof.Rows
set_option maxRecDepth 100000 in
set_option maxHeartbeats 0 in
theorem PySem.Challenge.cw_latticeworks_k51_all_answers_holds : PySem.Challenge.rw_latticeworks_k51_all_answers.Holds := by
 refine PySem.W.holds_law Row.Hg λ Hg=>?_;refine PySem.W.holds_open (r:=PySem.Challenge.rw_latticeworks_k51_all_answers.row) (q:=PySem.W.view Row.PW [1,2,3,4,5,6,7,9,10,11,12,13,14,15,17,18,19,20,21,22,23,24,26,27,28,30,31,33,34,35,36,37,38,39,40,41,42,43,44,45,46,47,48,49,50,51,52]) (loose:=[]) (Xt:=λ _=>true) (XP:=λ _ _=>True) (YP:=(PySem.W.kmHook Row.KX Row.KA (λ _=>rfl) [161]).says) (d:=Row.dL) (kwd:=[]) Row.left ((PySem.W.kmHook Row.KX Row.KA (λ _=>rfl) [161]).of) ((PySem.W.kmHook Row.KX Row.KA (λ _=>rfl) [161]).keeps) (λ _ _=>trivial) (λ _ _ _ _ _=>trivial) (by kernel_rfl) (by kernel_rfl) (by kernel_rfl) (λ s _=>PySem.W.recFacts_of (R:=[]) rfl) (by kernel_rfl) Hg (by decide+kernel) ⟨rfl,rfl,rfl,rfl,rfl,by decide+kernel⟩ ?hw ?hc;case hw=>w_witness2
 refine L2.O_ (n:=63) (k:=8) (x:="_law_script") (ts:=[(163,161)]) (K:=Row.KX) (sp:=λ w=>L3.Fc (Row.KX w.params) [(163,161)]) rfl (by decide) (by kernel_rfl) ⟨rfl,by decide,by decide⟩ (by kernel_rfl) rfl (λ w h Y=>⟨PySem.W.km_in_of Y,⟨(λ q hq=>by rcases RU.mp hq with rfl|hq;kernel_rfl;cases hq),(λ q hq=>by rcases RU.mp hq with rfl|hq;kernel_rfl;cases hq),λ q hq=>PySem.W.km_tabs_of Y _ (VQ (f:=Prod.snd) hq)⟩⟩) ?F λ _ _ a ns hl hE=>⟨a,ns,rfl,hE,hl,λ _=>rfl⟩
 intro w mg fa h X G hmg;have e2:=hmg.symm.trans (PySem.W.mg_of (v:= .ref 355) X G (by kernel_rfl));cases e2;exact⟨Hd.fd Row.jE "law" "law" Row.c6 354,λ s v=> .of_eq rfl,λ base _ _=>(Row.Pa ⟨X,G⟩).imp λ vs H Q E h=>L3.Fo (tl:=[(161,⟨82,32,82,66⟩,"Bench.live_rows.<locals>.<lambda>")]) (by kernel_rfl) rfl (by decide) h⟩
