import PyProof.Rows.All
import Wide.All
import OpenK.AllK
import Wide.FinOn
import Lean
import PyProof.EqAt
import PyProof.EqKinds
import PyProof.TupleCall
import PyProof.NeKinds
import KE.KUnpack
import PySem.Challenge.RW_latticeworks_k35_the_same_sums
set_option Elab.async false
set_option linter.all false
set_option maxRecDepth 100000
def T_:=@PySem.wpAny_bind
def Ua:=@List.getElem?_eq_some_iff
def Ub:=@if_neg
def Uc:=@PySem.Heap.get?_push_of_some
def Ud:=@if_pos
def Ue:=@Nat.le_refl
def Ug:=@List.getElem?_set_ne
def Uh:=@List.getElem?_append_left
def Ui:=@Ne.symm
def Uj:=@Nat.le_trans
def Uk:=@List.length_map
def Ul:=@PySem.wpAny_pure
def Um:=@List.size_toArray
def Uo:=@List.getElem?_set_self
def Up:=@PySem.Heap.lt_size
def Uq:=@List.getElem?_eq_getElem
def Ur:=@Nat.le_of_ble_eq_true
def Us:=@List.length_set
def Ut:=@PySem.Heap.get?_push_size
def Uu:=@List.mem_cons_of_mem
def Uv:=@List.getD_eq_getElem?_getD
def Uw:=@List.getElem?_map
def Ux:=@List.mem_cons
def Uy:=@List.mem_append_right
def UA:=@Nat.pow_le_pow_right
def UB:=@List.mem_cons_self
def UC:=@List.mem_iff_getElem
def UD:=@List.not_mem_nil
def UE:=@Nat.lt_of_lt_of_le
def UG:=@Nat.ne_of_lt
def UH:=@List.getElem?_append_right
def UI:=@List.drop_eq_getElem_cons
def UJ:=@List.mem_of_getElem?
def UK:=@Nat.zero_le
def UL:=@Int.toNat_natCast
def UM:=@List.mem_append
def UN:=@Nat.lt_succ_self
def UO:=@Int.le_trans
def UP:=@List.map_cons
def UQ:=@List.length_cons
def UR:=@List.lookup_cons
def US:=@Nat.lt_succ_of_lt
def UT:=@decide_eq_false
def UU:=@Int.mul_le_mul_of_nonneg_right
def UW:=@PySem.mem_of_lookup
def UX:=@List.map_congr_left
def UY:=@PySem.wpAny_field
def UZ:=@Int.mul_zero
def U0:=@Nat.lt_irrefl
def U6:=@Option.some.inj
def U7:=@PySem.Heap.size_push
def U8:=@Int.natAbs_mul
def U_:=@List.all_eq_true
def Va:=@PySem.wpAny_setField_rec
def Vb:=@Bool.and_eq_true
def Vc:=@PySem.wpAny_seqItems
def Vd:=@Nat.mul_le_mul
def Ve:=@not_false_eq_true
def Vf:=@Nat.mul_le_mul_right
def Vg:=@Bool.false_ne_true
def Vh:=@PySem.wpAny_callSpecial?_slot
def Vi:=@PySem.sizeLine_eq
def Vj:=@Int.fmod_nonneg_of_pos
def Vk:=@PySem.W.mg_none_of
def Vl:=@Nat.not_lt_zero
def Vm:=@List.map_append
def Vn:=@List.length_take
def Vo:=@List.map_map
def Vp:=@List.getElem_mem
def Vq:=@Int.le_of_lt
def Vr:=@PyProof.Rows.callWith_type1
def Vs:=@PyProof.Rows.slot_tuple_getitem
def Vt:=@List.mem_range
def Vu:=@List.getElem_range
def Vv:=@List.getElem_map
def Vw:=@Int.mul_le_mul_of_nonneg_left
def Vx:=@Int.mul_assoc
def Vy:=@List.mem_map
def Vz:=@Int.mul_comm
def VA:=@PySem.W.kia_one
def VB:=@List.cons.injEq
def VC:=@Int.natCast_pow
def VD:=@Int.fmod_lt_of_pos
def VE:=@Nat.lt_of_le_of_lt
def VF:=@List.getElem?_cons_succ
def VG:=@List.mem_append_left
def VH:=@congrArg
def VI:=@List.replicate_succ
def VJ:=@PySem.Heap.SameBut.update
def VL:=@List.mem_or_eq_of_mem_set
def VM:=@Nat.le_of_lt
def VN:=@List.length_append
def VO:=@PySem.wpAny_call_entry
def VP:=@List.mem_singleton
def VQ:=@Int.one_mul
def VR:=@Nat.pow_add
def VT:=@List.length_eq_zero_iff
def VU:=@List.append_assoc
def VV:=@List.append_nil
def VW:=@List.range_succ
def VX:=@Nat.ne_of_gt
def VY:=@Nat.sub_self
def VZ:=@List.range_succ_eq_map
def V0:=@List.drop_eq_nil_of_le
def V1:=@PySem.wpAny_mono
def V2:=@PySem.wpAny_onRaise
def V3:=@Int.mul_le_mul
def V4:=@Int.natAbs_neg
def V5:=@PySem.F.slot_zip_next
def V6:=@Int.add_zero
def V7:=@Int.sub_zero
def V8:=@Nat.lt_trans
def V9:=@Nat.pow_lt_pow_right
def V_:=@PySem.wpAny_newObj_type
def Wa:=@List.flatten_cons
def Wb:=@Int.mul_left_comm
def Wc:=@beq_eq_false_iff_ne
def Wd:=@Nat.le_of_not_lt
def We:=@decide_eq_true
def Wg:=@beq_iff_eq
def Wh:=@PySem.W.cellsFrom_some
def Wi:=@Nat.mul_comm
def Wj:=@Nat.pow_succ
def Wk:=@PySem.wpAny_passesOwn
def Wl:=@List.nodup_cons
def Wm:=@if_true
def Wn:=@PySem.F.slot_tuple_iterator_next
def Wo:=@and_true
def Wq:=@Classical.byContradiction
def Wr:=@PySem.wpAny_letGo
def Ws:=@Int.neg_mul
def Wt:=@Nat.one_mul
def Wu:=@Int.pow_add
def Wv:=@Option.isSome_iff_exists
def Ww:=@or_false
def Wx:=@Int.zero_mul
def Wy:=@Array.length_toList
def Wz:=@Nat.mul_le_mul_left
def WA:=@PySem.wpAny_holding
def WB:=@Nat.mul_assoc
def WC:=@PySem.wpAny_Call_Name_kw
def WD:=@Bool.false_eq_true
def WE:=@Option.map_some
def WG:=@PySem.wpAny_pyIter_tuple
def WH:=@Int.sub_eq_add_neg
def WI:=@Nat.lt_trichotomy
def WJ:=@List.getElem?_eq_none
def WK:=@not_or
def WL:=@Int.zero_add
def WM:=@Nat.zero_add
def WN:=@Int.mul_nonneg
def WO:=@Nat.lt_or_ge
def WQ:=@PySem.wpAny_rule
def WR:=@if_false
def WS:=@PySem.F.slot_tuple_mul
def WT:=@Int.natAbs_mul_self'
def WU:=@List.mem_of_mem_take
def WV:=@PySem.wpAny_attempt
def WW:=@List.filterMap_cons
def WX:=@List.getElem?_range
def WY:=@Int.toNat_of_nonneg
def WZ:=@Int.eq_zero_of_dvd_of_natAbs_lt_natAbs
def W0:=@List.forIn_cons
def W2:=@PyProof.Rows.get?_update_seq
def W3:=@Nat.min_eq_left
def W4:=@List.mem_filterMap
def W5:=@List.getElem?_take_of_lt
def W6:=@PySem.F.args_tuple_add_2
def W7:=@Nat.one_le_two_pow
def W8:=@Int.ofNat_le
def W9:=@PySem.call_meets
def W_:=@List.forIn_nil
def Xa:=@PySem.F.entry_tuple_add
def Xb:=@Nat.le_mul_of_pos_right
def Xd:=@PySem.W.kitx_list
def Xe:=@PySem.W.kitx_dict
def Xf:=@PySem.F.args_zip_next_1
def Xg:=@Int.mul_nonneg_of_nonpos_of_nonpos
def Xh:=@PySem.F.slot_tuple_add
def Xi:=@Int.le_refl
def Xj:=@List.take_of_length_le
def Xk:=@Nat.mul_one
def Xl:=@Nat.add_mul
def Xm:=@Int.mul_pos
def Xn:=@Nat.log2_lt
def Xo:=@PySem.wpAny_standAt
def Xp:=@List.map_take
def Xq:=@List.length_drop
def Xr:=@beq_self_eq_true
def Xs:=@List.zipIdx_cons
def Xu:=@PySem.F.entry_zip_next
def Xv:=@PySem.wpAny_pyIter_zip
def Xw:=@PySem.Heap.get?_update_self
def Xx:=@List.lookup_cons_self
def Xy:=@Classical.choose_spec
def Xz:=@PySem.wpAny_execs_nil
def XA:=@Bool.eq_iff_iff
def XB:=@List.of_mem_zip
def XC:=@PySem.F.slot_int_rmul
def XD:=@PySem.wpAny_ite_false
def XE:=@Bool.or_eq_true
def XF:=@List.zipIdx_nil
def XG:=@PySem.wpAny_updateSeq_pair
def XH:=@Int.natCast_mul
def XI:=@Nat.le_antisymm
def XJ:=@List.map_set
def XM:=@List.length_nil
def XN:=@PySem.W.plainGet_of
def XO:=@List.mem_map_of_mem
def XQ:=@Int.natAbs_mul_self
def XR:=@PySem.F.args_tuple_iterator_next_1
def XS:=@PyProof.Rows.assignInOrder_cons
def XT:=@PySem.W.callWith_K
def XU:=@PySem.F.args_tuple_mul_2
def XW:=@PySem.F.entry_tuple_iterator_next
def XX:=@List.pairwise_cons
def XY:=@PySem.Calls.Name_function_global
def XZ:=@PyProof.Rows.listUpdate_at
def X1:=@Int.fdiv_eq_ediv_of_nonneg
def X7:=@Int.le_of_mul_le_mul_right
def X8:=@Nat.le_of_succ_le
def X9:=@PySem.F.entry_tuple_mul
def X_:=@PySem.wpAny_pyIter_list
def Yb:=@List.pairwise_map
def Yc:=@List.getElem?_set
def Yd:=@Nat.le_of_lt_succ
def Ye:=@Nat.mul_left_comm
def Yg:=@Int.natAbs_add_le
def Yh:=@PySem.typeIs_int
def Yi:=@PySem.wpAny_binaryOp_repeat_ref
def Yj:=@bne_iff_ne
def Yk:=@List.getElem?_eq_none_iff
def Yl:=@PySem.wpAny_letOwnedTupleGo_zip
def Ym:=@Int.eq_of_mul_eq_mul_left
def Yn:=@Int.le_of_mul_le_mul_left
def Yo:=@Nat.le_of_eq
def Yp:=@PySem.codeAny_mono
def Yq:=@PySem.noFill_tuple_add
def Yr:=@PySem.wpAny_comprehension_free
def Ys:=@PyProof.noPylong_of_log2
def Yt:=@decide_eq_decide
def Yu:=@PySem.wpAny_isInstance
def Yv:=@Nat.le_add_right
def Yw:=@Int.mul_fdiv_cancel_left
def Yx:=@Int.ne_of_gt
def Yy:=@Nat.succ_lt_succ
def Yz:=@List.getElem?_replicate
def YA:=@List.getElem?_cons_zero
def YB:=@beq_false_of_ne
def YC:=@PySem.wpAny_pyNext_range_end
def YD:=@PySem.wpAny_pyIter_rangeiter
def YE:=@PySem.seqIndex_of
def YF:=@PySem.Heap.get?_update_other
def YG:=@Prod.mk.inj
def YH:=@Int.mul_add
def YI:=@Nat.pow_mul
def YJ:=@Int.pow_pos
def YK:=@List.zipWith_cons_cons
def YL:=@PySem.W.methodCall_KW
def YM:=@List.length_singleton
def YN:=@Bool.and_false
def YO:=@PySem.wpAny_newTuple
def YQ:=@PySem.isSubtype_stop
def YR:=@Int.add_nonneg
def YS:=@Int.fmod_add_mul_fdiv
def YT:=@Int.mul_fdiv_add_fmod
def YU:=@Int.eq_of_sub_eq_zero
def YV:=@List.set_append_right
def YW:=@List.filterMap_append
def YX:=@PySem.seq_tuple_add
def YY:=@PySem.wpAny_newList
def YZ:=@List.all_cons
def Y0:=@Prod.mk.injEq
def Y1:=@PySem.W.mg_of
def Y2:=@PySem.concat_meets
def Y3:=@PySem.wpAny_typeOf
def Y4:=@Nat.succ_mul
def Y5:=@Nat.min_self
def Y6:=@PySem.callType_new
def Y7:=@Nat.sub_zero
def Y8:=@Nat.zero_mul
def Y9:=@Int.sub_self
namespace L2
open PySem PySem.Spec PyProof.Rows
abbrev Key:=Sum Int Str
def KS:Key->Value->Bool
 | .inl k,v=>Value.isInt k v
 | .inr x,v=>Value.isStrOf x v
def Tf(w:World):Key->Int
 | .inl k=>hashInt k
 | .inr x=>hashStr w x
theorem fK:∀ {k:Key} {v:Value},KS k v=true->(∃i t,k=Sum.inl i/\v=Value.int i t)\/(∃x t,k=Sum.inr x/\v=Value.str x t)
 | .inl i,v,h=>by
   obtain⟨t,e⟩:=Value.isInt_shape (k:=i) (v:=v) h;exact .inl ⟨i,t,rfl,e⟩
 | .inr x,v,h=>by
   obtain⟨t,e⟩:=Value.isStrOf_shape (x:=x) (v:=v) h;exact .inr ⟨x,t,rfl,e⟩
theorem Oh(a b:Int):decide ((Sum.inl a:Key)=Sum.inl b)=(a==b):=by
 by_cases e:a=b
 . subst e;simp
 . have h:¬(Sum.inl a:Key)=Sum.inl b:=λ q=>e (Sum.inl.inj q);rw[UT h];exact(Wc.mpr e).symm
theorem Pm(a b:Str):decide ((Sum.inr a:Key)=Sum.inr b)=decide (a=b):=by
 by_cases e:a=b
 . subst e;simp
 . have h:¬(Sum.inr a:Key)=Sum.inr b:=λ q=>e (Sum.inr.inj q);rw[UT h,UT e]
theorem Pk(a:Int)(b:Str):decide ((Sum.inl a:Key)=Sum.inr b)=false:=UT (λ q=>nomatch q)
theorem Ou(a:Str)(b:Int):decide ((Sum.inr a:Key)=Sum.inl b)=false:=UT (λ q=>nomatch q)
def Dq(prog:Program)(w:World):PySem.KeyKind prog w Key where
 is:=KS
 hash:=Tf w
 inj:=λ v a b ha hb=>by
  rcases fK ha with⟨i,t,rfl,rfl⟩|⟨x,t,rfl,rfl⟩
  . rcases fK hb with⟨j,u,rfl,e⟩|⟨y,u,rfl,e⟩
    . injection e with e1 _;rw[e1]
    . exact nomatch e
  . rcases fK hb with⟨j,u,rfl,e⟩|⟨y,u,rfl,e⟩
    . exact nomatch e
    . injection e with e1 _;rw[e1]
 byValue:=λ k v h=>by
  rcases fK h with⟨i,t,rfl,rfl⟩|⟨x,t,rfl,rfl⟩<;>rfl
 pyHash:=λ hv h=>by
  rcases fK hv with⟨i,t,rfl,rfl⟩|⟨x,t,rfl,rfl⟩
  . exact wpAny_pyHash_int h
  . exact wpAny_pyHash_str h
 eqBool:=λ hu hv h=>by
  rcases fK hu with⟨i,t,rfl,rfl⟩|⟨x,t,rfl,rfl⟩
  . rcases fK hv with⟨j,u,rfl,rfl⟩|⟨y,u,rfl,rfl⟩
    . rw[Oh]at h;exact wpAny_eqBool_int h
    . rw[Pk]at h;exact SeqAt.EqAt.int_str i t y u _ _ _ _ h
  . rcases fK hv with⟨j,u,rfl,rfl⟩|⟨y,u,rfl,rfl⟩
    . rw[Ou]at h;exact SeqAt.EqAt.str_int x t j u _ _ _ _ h
    . rw[Pm]at h;exact wpAny_eqBool_str h
 «strs» :=λ k x t v h=>by
  rcases fK h with⟨i,u,rfl,e⟩|⟨y,u,rfl,e⟩
  . exact nomatch e
  . injection e with e1 _;subst e1;cases v<;>rfl
inductive V where
 |aF|bl (b:Bool)|int (i:Int)|str (x:Str)|vR (b:Array UInt8)|vJ (b:UInt64)|ref (a:Addr)|ty (n:String)
 deriving DecidableEq
def RelV:V->Value->Prop
 | .aF,u=>u=Value.none
 | .bl b,u=>u=Value.bool b
 | .int i,u=>∃t,u=Value.int i t
 | .str x,u=>∃t,u=Value.str x t
 | .vR b,u=>∃t,u=Value.bytes b t
 | .vJ b,u=>∃t,u=Value.float b t
 | .ref a,u=>u=Value.ref a
 | .ty n,u=>u=Value.type n
abbrev Vals:List V->List Value->Prop:=Paired RelV
theorem Vals.length{xs:List V}{us:List Value}(r:Vals xs us):xs.length=us.length:=Paired.length r
theorem Vals.get:∀ {xs:List V} {us:List Value} {i:Nat} {x:V},Vals xs us->xs[i]?=some x->∃u,us[i]?=some u/\RelV x u
 |_,_,_,_,.nil,e=>by simp at e
 |_,_,0,_,.cons r _,e=>by simp at e;subst e;exact⟨_,rfl,r⟩
 |_,_,i+1,x,.cons _ t,e=>by
  obtain⟨u,h1,h2⟩:=Vals.get (i:=i) (x:=x) t (by simpa using e);exact⟨u,by simpa using h1,h2⟩
theorem Vals.set{x:V}{u:Value}(r:RelV x u):∀ {xs:List V} {us:List Value} (i:Nat),Vals xs us->Vals (xs.set i x) (us.set i u)
 |_,_,_,.nil=> .nil
 |_,_,0,.cons _ t=> .cons r t
 |_,_,i+1,.cons q t=> .cons q (Vals.set r i t)
theorem Vals.append:∀ {xs ys:List V} {us ws:List Value},Vals xs us->Vals ys ws->Vals (xs++ys) (us++ws)
 |_,_,_,_,.nil,s=>s
 |_,_,_,_,.cons r t,s=> .cons r (Vals.append t s)
theorem Vals.take:∀ {xs:List V} {us:List Value} (n:Nat),Vals xs us->Vals (xs.take n) (us.take n)
 |_,_,0,_=> .nil
 |_,_,_+1,.nil=> .nil
 |_,_,n+1,.cons r t=> .cons r (Vals.take n t)
theorem Vals.drop:∀ {xs:List V} {us:List Value} (n:Nat),Vals xs us->Vals (xs.drop n) (us.drop n)
 |_,_,0,r=>r
 |_,_,_+1,.nil=> .nil
 |_,_,n+1,.cons _ t=>Vals.drop n t
def qX:Option V->Option Value->Prop
 |some v,some u=>RelV v u
 |none,none=>True
 |_,_=>False
def KV{κ:Type}:List (κ×V)->List (κ×Value)->Prop:=Paired λ(p:κ×V) (q:κ×Value)=>p.1=q.1/\RelV p.2 q.2
def kV:Key->V
 | .inl i=> .int i
 | .inr x=> .str x
inductive HO where
 |lst (xs:List V)
 |tup (xs:List V)
 |dK (kvs:List (Key×V))|dT (kvs:List (List Key×V))
 |set (S:Int->Bool) (n:Nat)
 |ins (C dx:Addr) (fs:List (Str×V))
 |own (x:Addr)
 |xd (fs:List (Str×V))
 |met (f x:Addr)
 |N6 (lo hi:Int)
 |ia (o:Obj) (u:HO)
 |lG (ps:Array Value)
 |ext (φ:Heap->Prop)
abbrev Hp:=Addr->Option HO
def upd(H:Hp)(a:Addr)(o:HO):Hp:=λ b=>if b=a then some o else H b
theorem bc{H:Hp}{a:Addr}{o:HO}:upd H a o a=some o:=by unfold upd;rw[Ud rfl]
theorem aB{H:Hp}{a b:Addr}{o:HO}(h:b≠a):upd H a o b=H b:=by unfold upd;rw[Ub h]
theorem MS{H:Hp}{a:Addr}{o u:HO}:upd (upd H a o) a u=upd H a u:=by
 funext b;unfold upd;split<;>rfl
theorem dJ{H:Hp}{a b:Addr}{o:HO}(h:H a=some o)(h':H b=none):a≠b:=by
 intro e;subst e;rw[h]at h';cases h'
section
variable (P:Program)(w:World)
def dP(H:Hp)(h:Heap)(a:Addr):HO->Prop
 | .lst xs=>xs.length<=sizeLine/\∃(its:List Value) (n:Nat),Vals xs its/\h.get? a=some {cls:= .type "list",data:= .seq its.toArray n}
 | .tup xs=>xs.length<=sizeLine/\∃its:List Value,Vals xs its/\IsTup h a its.toArray
 | .dK kvs=>kvs.length<=sizeLine/\(a==sysModules)=false/\∃vs,KV kvs vs/\h.DictOf (Dq P w) a vs
 | .dT kvs=>kvs.length<=sizeLine/\(a==sysModules)=false/\∃xs:List (List Key×Addr×Value),
    Paired (λ(p:List Key×V) (q:List Key×Addr×Value)=>p.1=q.1/\H q.2.1=some (.tup (p.1.map kV))/\RelV p.2 q.2.2) kvs xs/\
    ∃o es ep,h.get? a=some o/\o.ExactDict/\o.data= .dict es ep/\es.toList=xs.map (entryOfKey (tupleKind (Dq P w)))/\(xs.map (·.1)).Nodup
 | .set S n=>h.SetOf (intKind P w) a S n
 | .ins C dx fs=>H dx=some (.own a)/\fs.length<=1000/\dx≠a/\h.get? a=some (PySem.W.instObj C dx)/\
    ∃mA,h.Ns1 dx mA/\(∀f,qX (fs.lookup f) (mA f))/\PySem.Within mA (fs.map (·.1))
 | .own _=>∃o,h.get? a=some o
 | .xd fs=>∃mA,h.Ns1 a mA/\∀f,qX (fs.lookup f) (mA f)
 | .N6 lo hi=>∃t u v,h.get? a=some {cls:= .type "range",data:= .fields #[.int lo t,.int hi u,.int 1 v]}
 | .ia o u=>h.get? a=some o/\dP H h a u
 | .lG ps=>h.get? a=some {cls:= .none,data:= .fields ps}
 | .met f x=>h.get? a=some (PySem.W.methodObj (.ref f) (.ref x))
 | .ext φ=>φ h/\(∃o,h.get? a=some o)/\∀h1 h2:Heap,φ h1->(∀o,h1.get? a=some o->h2.get? a=some o)->φ h2
def i8(H:Hp)(h:Heap):Prop:=∀a o,H a=some o->dP P w H h a o
end
section
variable {P:Program}{w:World}{H H':Hp}{h h':Heap}{a:Addr}{o:HO}
theorem dP.lt(x:dP P w H h a o):a<h.objs.size:=by
 cases o with
 |lst xs=>obtain⟨_,_,_,_,e⟩:=x;exact Up e
 |tup xs=>obtain⟨_,_,_,p⟩:=x;exact p.lt
 |dK kvs=>obtain⟨_,_,_,_,o,_,_,e,_⟩:=x;exact Up e
 |dT kvs=>obtain⟨_,_,_,_,o,_,_,e,_⟩:=x;exact Up e
 |set S n=>obtain⟨o,_,_,_,e,_⟩:=x;exact Up e
 |ins C dx fs=>obtain⟨_,_,_,e,_⟩:=x;exact Up e
 |own y=>obtain⟨_,e⟩:=x;exact Up e
 |xd fs=>obtain⟨_,⟨_,_,_,e,_⟩,_⟩:=x;exact Up e
 |N6 lo hi=>obtain⟨_,_,_,e⟩:=x;exact Up e
 |ia ob u=>obtain⟨e,_⟩:=x;exact Up e
 |lG ps=>exact Up (show h.get? a=some _ from x)
 |met f y=>exact Up (show h.get? a=some _ from x)
 |ext φ=>obtain⟨_,⟨_,e⟩,_⟩:=x;exact Up e
theorem Paired.Js{α β:Type}{F G:α->β->Prop}:∀ {l₁:List α} {l₂:List β},Paired F l₁ l₂->(∀a b,F a b->G a b)->Paired G l₁ l₂
 |_,_,.nil,_=> .nil
 |_,_,.cons r t,f=> .cons (f _ _ r) (Paired.Js t f)
theorem dP.qQ(x:dP P w H h a o)(k:∀b u,(b=a\/H b=some (.own a))->h.get? b=some u->h'.get? b=some u)
 (ho:∀b,H b=some (.own a)->H' b=some (.own a)) (ht:∀b xs,H b=some (.tup xs)->H' b=some (.tup xs)):dP P w H' h' a o:=by
 induction o with
 |lst xs=>obtain⟨z,its,n,r,e⟩:=x;exact⟨z,its,n,r,k _ _ (.inl rfl) e⟩
 |tup xs=>obtain⟨z,its,r,ob,e,c⟩:=x;exact⟨z,its,r,ob,k _ _ (.inl rfl) e,c⟩
 |dK kvs=>obtain⟨z,y,vs,r,ob,es,ep,e,c⟩:=x;exact⟨z,y,vs,r,ob,es,ep,k _ _ (.inl rfl) e,c⟩
 |dT kvs=>
  obtain⟨z,y,xs,r,ob,es,ep,e,c⟩:=x;exact⟨z,y,xs,Paired.Js r λ p q z=>⟨z.1,ht _ _ z.2.1,z.2.2⟩,ob,es,ep,k _ _ (.inl rfl) e,c⟩
 |set S n=>obtain⟨ob,es,ep,t,e,c⟩:=x;exact⟨ob,es,ep,t,k _ _ (.inl rfl) e,c⟩
 |ins C dx fs=>
  obtain⟨d,z,ne,e,mA,⟨od,es,ep,e2,c⟩,r⟩:=x;exact⟨ho _ d,z,ne,k _ _ (.inl rfl) e,mA,⟨od,es,ep,k _ _ (.inr d) e2,c⟩,r⟩
 |own y=>obtain⟨ob,e⟩:=x;exact⟨ob,k _ _ (.inl rfl) e⟩
 |xd fs=>obtain⟨mA,⟨od,es,ep,e,c⟩,r⟩:=x;exact⟨mA,⟨od,es,ep,k _ _ (.inl rfl) e,c⟩,r⟩
 |N6 lo hi=>obtain⟨t,u,v,e⟩:=x;exact⟨t,u,v,k _ _ (.inl rfl) e⟩
 |ia ob u ih=>obtain⟨e,q⟩:=x;exact⟨k _ _ (.inl rfl) e,ih q⟩
 |lG ps=>
  have e:h.get? a=some {cls:= .none,data:= .fields ps}:=x;show h'.get? a=some {cls:= .none,data:= .fields ps};exact k a _ (.inl rfl) e
 |met f y=>
  have e:h.get? a=some (PySem.W.methodObj (.ref f) (.ref y)):=x;show h'.get? a=some (PySem.W.methodObj (.ref f) (.ref y));exact k a _ (.inl rfl) e
 |ext φ=>obtain⟨p,⟨o,e⟩,st⟩:=x;exact⟨st _ _ p λ o q=>k _ _ (.inl rfl) q,⟨o,k _ _ (.inl rfl) e⟩,st⟩
theorem i8.lt(x:i8 P w H h)(e:H a=some o):a<h.objs.size:=(x a o e).lt
theorem i8.fresh(x:i8 P w H h)(e:h.objs.size<=a):H a=none:=by
 cases q:H a with
 |none=>rfl
 |some u=>exact absurd (UE (x.lt q) e) (U0 _)
theorem i8.kept(x:i8 P w H h)(k:∀b u,h.get? b=some u->h'.get? b=some u):i8 P w H h':=λ a o e=>
 (x a o e).qQ (λ b u _ q=>k b u q) (λ _ q=>q) λ _ _ q=>q
theorem i8.laid(x:i8 P w H h)(k:∀b u,h.get? b=some u->h'.get? b=some u)(hp:h.objs.size<=a)(new:dP P w (upd H a o) h' a o):i8 P w (upd H a o) h':=λ b u e=>by
 have hn:=x.fresh hp;by_cases hb:b=a
 . subst hb;rw[bc]at e;cases e;exact new
 . rw[aB hb]at e;exact(x b u e).qQ (λ c v _ q=>k c v q) (λ c q=>by rw[aB (dJ q hn)];exact q) λ c xs q=>by rw[aB (dJ q hn)];exact q
end
def Rd(H:Hp)(a:Addr)(u:HO):Prop:=H a=some u\/∃o,H a=some (.ia o u)
theorem Rd.of{H:Hp}{a:Addr}{u:HO}(h:H a=some u):Rd H a u:= .inl h
theorem Rd.ok{P:Program}{w:World}{H:Hp}{h:Heap}{a:Addr}{u:HO}(r:Rd H a u)(x:i8 P w H h):dP P w H h a u:=by
 rcases r with r|⟨o,r⟩
 . exact x a u r
 . obtain⟨_,q⟩:=x a _ r;exact q
def KC:Option HO->Prop
 |some (.lst _)=>True
 |some (.dK _)=>True
 |some (.dT _)=>True
 |some (.set _ _)=>True
 |some (.ins _ _ _)=>True
 |some (.ext _)=>True
 |_=>False
section
variable {P:Program}{w:World}{H:Hp}{h h':Heap}{x e:Addr}{o':HO}
theorem i8.write(ok:i8 P w H h)(mu:KC (H x))(he:e=x\/H e=some (.own x))(k:∀b u,b≠e->h.get? b=some u->h'.get? b=some u)(heo:∃u,h'.get? e=some u)
 (new:dP P w (upd H x o') h' x o'):i8 P w (upd H x o') h':=λ b u q=>by
 have nown:∀c y,H c=some (.own y)->c≠x:=λ c y r z=>by subst z;rw[r]at mu;exact mu
 have ntup:∀c xs,H c=some (.tup xs)->c≠x:=λ c xs r z=>by subst z;rw[r]at mu;exact mu
 by_cases hb:b=x
 . subst hb;rw[bc]at q;cases q;exact new
 . rw[aB hb]at q;by_cases hbe:b=e
   . have q':H b=some (.own x):=by
      rcases he with z|z
      . exact absurd (hbe.trans z) hb
      . rw[hbe];exact z
     rw[q]at q';cases q';obtain⟨v,hv⟩:=heo;exact⟨v,by rw[hbe];exact hv⟩
   . refine(ok b u q).qQ (λ c v hc r=>k c v ?_ r) (λ c r=>by rw[aB (nown c b r)];exact r) λ c xs r=>by rw[aB (ntup c xs r)];exact r
     rcases hc with rfl|hc
     . exact hbe
     . rintro rfl;rcases he with z|z
       . exact nown c b hc z
       . rw[hc]at z;cases z;exact hb rfl
end
structure Un(fs ex:List Addr)(H H':Hp)(h h':Heap):Prop where
 keep:∀b o,h.get? b=some o->H b=none->b∉fs->b∉ex->h'.get? b=some o
 slot:∀b o,h.get? b=some o->H b=none->b∈fs->b∉ex->∃sl,h'.get? b=some {o with slots:=sl}
 free:∀b o,h.get? b=some o->H b=none->b∉ex->H' b=none
 there:∀b o,h.get? b=some o->b∉ex->∃o',h'.get? b=some o'
 qO:∀b xs,H b=some (.tup xs)->H' b=some (.tup xs)
 pW:∀b o u,H b=some (.ia o u)->H' b=some (.ia o u)
 pH:∀b ps,H b=some (.lG ps)->∃more,H' b=some (.lG (ps++more))
section
variable {fs fs' ex ex':List Addr}{H H1 H2:Hp}{h h1 h2 h':Heap}{a x e:Addr}{o:HO}
theorem Un.any(u:Un fs ex H H1 h h1){b:Addr}{ob:Obj}(q:h.get? b=some ob)(n:H b=none)(hx:b∉ex):∃sl,h1.get? b=some {ob with slots:=sl}:=by
 by_cases hb:b∈fs
 . exact u.slot b ob q n hb hx
 . exact⟨ob.slots,u.keep b ob q n hb hx⟩
theorem Un.kept(k:∀b u,h.get? b=some u->h'.get? b=some u):Un fs ex H H h h':=
 ⟨λ b ob q _ _ _=>k b ob q,λ b ob q _ _ _=>⟨ob.slots,k b ob q⟩,λ _ _ _ n _=>n,λ b ob q _=>⟨ob,k b ob q⟩,λ _ _ q=>q,λ _ _ _ q=>q,λ _ ps q=>⟨#[],by rw[q];simp⟩⟩
theorem Un.refl:Un fs ex H H h h:=Un.kept λ _ _ q=>q
theorem Un.laid(k:∀b u,h.get? b=some u->h'.get? b=some u)(hp:h.objs.size<=a)(hn:H a=none):Un fs ex H (upd H a o) h h' where
 keep:=λ b u q _ _ _=>k b u q
 slot:=λ b u q _ _ _=>⟨u.slots,k b u q⟩
 free:=λ b u q n _=>by rw[aB (UG (UE (Up q) hp))];exact n
 there:=λ b u q _=>⟨u,k b u q⟩
 qO:=λ b xs q=>by rw[aB (dJ q hn)];exact q
 pW:=λ b u xs q=>by rw[aB (dJ q hn)];exact q
 pH:=λ b ps q=>⟨#[],by rw[aB (dJ q hn),q];simp⟩
theorem Un.write(mu:KC (H x))(he:e=x\/H e=some (.own x))(k:∀b u,b≠e->h.get? b=some u->h'.get? b=some u)(heo:∃u,h'.get? e=some u):Un fs ex H (upd H x o) h h':=by
 have hx:∀b,H b=none->b≠x:=λ b n z=>by subst z;rw[n]at mu;exact mu
 have hb:∀b,H b=none->b≠e:=λ b n z=>by
  subst z;rcases he with r|r
  . exact hx b n r
  . rw[n]at r;cases r
 have hm:∀b u,H b=some u->¬KC (some u)->b≠x:=λ b u q nm z=>by subst z;rw[q]at mu;exact nm mu
 refine⟨λ b u q n _ _=>k b u (hb b n) q,λ b u q n _ _=>⟨u.slots,k b u (hb b n) q⟩,λ b u q n _=>by rw[aB (hx b n)];exact n,λ b u q _=>?_,
  λ b xs q=>by rw[aB (hm b _ q λ z=>z)];exact q,λ b u xs q=>by rw[aB (hm b _ q λ z=>z)];exact q,λ b ps q=>⟨#[],by rw[aB (hm b _ q λ z=>z),q];simp⟩⟩
 by_cases hbe:b=e
 . subst hbe;exact heo
 . exact⟨u,k b u hbe q⟩
end
def K_(h:Heap)(H:Hp):List Addr:=(List.range h.objs.size).filter λ a=>(H a).isSome
def qV(h:Heap)(H:Hp):Heap:=PySem.W.hideAll h (K_ h H)
theorem HI(h:Heap)(H:Hp):(qV h H).objs.size=h.objs.size:=PySem.W.hideAll_size _ _
theorem sT{h:Heap}{H:Hp}{b:Addr}{o:Obj}(e:h.get? b=some o)(n:H b=none):(qV h H).get? b=some o:=
 PySem.W.hideAll_get _ e λ hm=>by
  have q:(H b).isSome=true:=(List.mem_filter.mp hm).2;rw[n]at q;simp at q
theorem Lx{h:Heap}{H:Hp}{b:Addr}{o:Obj}(e:(qV h H).get? b=some o):h.get? b=some o/\H b=none:=by
 have e':h.get? b=some o:=PySem.W.of_hideAll (K_ h H) e;refine⟨e',?_⟩;cases q:H b with
 |none=>rfl
 |some x=>
  have hm:b∈K_ h H:=List.mem_filter.mpr ⟨Vt.mpr (Up e'),by simp[q]⟩;have z:(qV h H).get? b=none:=PySem.W.hideAll_none (K_ h H) hm;rw[z]at e;cases e
def LM(g h:Heap)(L:Addr):List (Addr×Obj):=(List.range h.objs.size).filterMap λ a=>if a=L\/(g.get? a).isSome=true then none else(h.get? a).map λ o=>(a,o)
def rest(g h:Heap)(L d:Addr):List (Addr×Obj):=(LM g h L).filter λ p=>decide (p.1≠d)
structure Mod(K:PySem.W.Frag)(mg:Str->Option Value)(base:Heap):Prop where
 GF:K.In base
 glob:base.Ns mainGlobals mg
 blt:∃mb,base.Ns builtinsNs mb/\∀x:Str,x≠"__name__"->mb x=bootBuiltins x
 nolimit:base.NoLimit
 seer:base.NoSeer
 bmain:∃bm ob,mg "__builtins__"=some (.ref bm)/\bm≠builtinsNs/\base.get? bm=some ob/\ob.cls= .type "module"/\ob.dict=some builtinsNs/\ob.data= .plain
structure Cx where
 prog:Program
 w:World
 K:PySem.W.Frag
 mg:Str->Option Value
 base:Heap
 A:Around
 N:List Str
 s₀:Shared
 H₀:Hp
 env:Env
 outer:List Env
 stack:List Env
 ex:List Addr
 fn:Str->Bool
 calm:Bool
 pn:List (Addr×Obj)
 xe:Value->Shared->Prop
def rS(l:List Env):List Addr:=l.filterMap (·.frame)
abbrev Cx.fs(X:Cx):List Addr:=rS X.outer
def AZ(sc:Scope)(x:Str):Prop:=sc.names.lookup x=some .local\/sc.names.lookup x=some .cell\/sc.names.lookup x=some .free
def Loc(sc:Scope)(x:Str):Prop:=sc.names.lookup x=some .local\/sc.names.lookup x=some .cell
def Look(env:Env)(h:Heap)(m:Str->Option Value)(x:Str)(u:Value):Prop:=
 (env.kindOf x=some .local/\m x=some u)\/((env.kindOf x=some .cell\/env.kindOf x=some .free)/\∃c,env.cells.lookup x=some c/\h.IsCell c (some u))
structure Cx.Ok(X:Cx):Prop where
 mod:Mod X.K X.mg X.base
 kind:X.env.scope.kind= .function
 glob:X.env.globals=mainGlobals
 blt:X.env.builtins=builtinsNs
 above:X.s₀.heap.objs.size<=X.env.locals
 inj:∀x y c,X.env.cells.lookup x=some c->X.env.cells.lookup y=some c->x=y
 has:∀x,(X.env.kindOf x=some .cell\/X.env.kindOf x=some .free)->∃c,X.env.cells.lookup x=some c
 BG:∀x c,X.fn x=true->X.env.cells.lookup x=some c->X.s₀.heap.objs.size<=c
 hd:X.calm=true->X.A.handled=none
 frames:X.A.frames=some X.stack
 Dn:X.stack=X.outer\/(X.stack=X.env::X.outer/\X.env.frame=some X.env.locals)
 Hy:∀b∈X.ex,b≠X.env.locals/\∀x c,X.env.cells.lookup x=some c->c≠b
 bs:∀b o,X.base.get? b=some o->X.s₀.heap.get? b=some o/\X.H₀ b=none
 uJ:X.base.objs.size<=X.s₀.heap.objs.size
 wA:∀b o,X.base.get? b=some o->b∉X.ex
 wu:∀b∈X.ex,b∉X.fs
 ma:X.s₀.heap.FunFrames X.base X.outer
 yh:∀b∈X.fs,X.H₀ b=none
 gt:X.prog.given.tree=none
structure Inv(X:Cx)(pins:List (Addr×Obj))(σ:List (Option V))(H:Hp)(s:Shared):Prop where
 ok:X.Ok
 os:s.os=X.s₀.os
 bare:AllBare s.gens
 base:Un X.fs X.ex X.H₀ H X.s₀.heap s.heap
 loc:∃m,s.heap.Ns X.env.locals m/\∀(i:Nat) (x:Str) (v:V),X.N[i]?=some x->σ[i]?=some (some v)->AZ X.env.scope x->∃u,RelV v u/\Look X.env s.heap m x u
 cell:∀x c,X.env.cells.lookup x=some c->∃v,s.heap.IsCell c v
 free:H X.env.locals=none
 ju:∀x c,X.env.cells.lookup x=some c->H c=none
 pin:∀p∈X.pn++pins,s.heap.get? p.1=some p.2/\H p.1=none/\p.1≠X.env.locals/\p.1∉X.fs/\∀v,p.2.data≠ .cell v
 aO:i8 X.prog X.w H s.heap
 len:σ.length=X.N.length
section
variable {X:Cx}{pins:List (Addr×Obj)}{σ:List (Option V)}{H H':Hp}{s:Shared}{h':Heap}
theorem Cx.Ok.SO(ok:X.Ok){b:Addr}{o:Obj}(e:X.base.get? b=some o):b∉X.fs:=λ hb=>by
 have:=(ok.ma.mem hb).1;rw[e]at this;cases this
theorem Inv.bs(I:Inv X pins σ H s):∀b o,X.base.get? b=some o->s.heap.get? b=some o/\H b=none:=λ b o e=>
 ⟨I.base.keep b o (I.ok.bs b o e).1 (I.ok.bs b o e).2 (I.ok.SO e) (I.ok.wA b o e),I.base.free b o (I.ok.bs b o e).1 (I.ok.bs b o e).2 (I.ok.wA b o e)⟩
theorem Inv.bk(I:Inv X pins σ H s):∀b o,X.base.get? b=some o->s.heap.get? b=some o:=λ b o e=>(I.bs b o e).1
theorem Inv.mod(I:Inv X pins σ H s):Mod X.K X.mg X.base:=I.ok.mod
theorem Inv.iG(I:Inv X pins σ H s):X.K.In s.heap:=I.ok.mod.GF.keeps I.bk
theorem Inv.nolimit(I:Inv X pins σ H s):s.heap.NoLimit:=I.ok.mod.nolimit.keeps I.bk
theorem Inv.lt(I:Inv X pins σ H s):X.env.locals<s.heap.objs.size:=let⟨_,hn,_⟩:=I.loc;hn.lt
theorem Inv.sz(I:Inv X pins σ H s):X.s₀.heap.objs.size<=s.heap.objs.size:=Uj I.ok.above (VM I.lt)
theorem Inv.Oq(I:Inv X pins σ H s){a:Addr}(h:s.heap.objs.size<=a):a∉X.fs:=λ hb=>by
 obtain⟨_,o,ho,_⟩:=I.ok.ma.mem hb;exact absurd (UE (Up ho) (Uj I.sz h)) (U0 _)
theorem Inv.Ci(I:Inv X pins σ H s):∀x c,X.env.cells.lookup x=some c->c≠X.env.locals:=λ x c e z=>by
 obtain⟨v,o,ho,hd⟩:=I.cell x c e;obtain⟨m,⟨o',es,ep,ho',hd',_⟩,_⟩:=I.loc;rw[z,ho']at ho;cases ho;rw[hd']at hd;cases hd
theorem Inv.ma(I:Inv X pins σ H s):s.heap.FunFrames X.base X.outer:=by
 have all:∀(l:List Env),(∀b∈rS l,b∈X.fs)->X.s₀.heap.FunFrames X.base l->s.heap.FunFrames X.base l:=by
  intro l;induction l with
  |nil=>intro _ _;trivial
  |cons env r ih=>
   intro hs hl;obtain⟨hk,⟨L,o,hf,hn,ho,hd⟩,hr⟩:=hl;have hL:L∈X.fs:=hs L (by unfold rS;rw[WW,hf];exact UB);obtain⟨sl,e⟩:=I.base.slot L o ho (I.ok.yh L hL) hL λ z=>I.ok.wu L z hL;exact⟨hk,⟨L,_,hf,hn,e,hd⟩,ih (λ b hb=>hs b (by unfold rS;rw[WW,hf];exact Uu _ hb)) hr⟩
 exact all X.outer (λ _ hb=>hb) I.ok.ma
theorem Inv.stack(I:Inv X pins σ H s):s.heap.FunFrames X.base X.stack:=by
 rcases I.ok.Dn with e|⟨e,hf⟩
 . rw[e];exact I.ma
 . rw[e];obtain⟨m,hn,_⟩:=I.loc;refine .cons (by rw[I.ok.kind];decide) hf hn ?_ I.ma;exact Heap.get?_none_of_le (Uj I.ok.uJ I.ok.above)
theorem Inv.BP(I:Inv X pins σ H s):∀b∈rS X.stack,b∈X.env.locals::X.fs:=λ b hb=>by
 rcases I.ok.Dn with e|⟨e,hf⟩
 . rw[e]at hb;exact Uu _ hb
 . rw[e]at hb;unfold rS at hb;rw[WW,hf]at hb;exact hb
theorem Inv.yx(I:Inv X pins σ H s):∀b∈rS X.stack,H b=none:=λ b hb=>by
 rcases Ux.mp (I.BP b hb)with e|hb
 . rw[e];exact I.free
 . obtain⟨_,o,ho,_⟩:=I.ok.ma.mem hb;exact I.base.free b o ho (I.ok.yh b hb) λ z=>I.ok.wu b z hb
theorem Inv.step{g':Array GenState}{t':Nat}{d':Drawn}{ch:List Addr}(I:Inv X pins σ H s)
 (hch:∀b∈ch,(b∈X.ex\/X.s₀.heap.objs.size<=b)/\b≠X.env.locals/\(∀x c,X.env.cells.lookup x=some c->c≠b)/\∀p∈X.pn++pins,p.1≠b)
 (keep:∀b o,b≠X.env.locals->b∉X.fs->b∉ch->s.heap.get? b=some o->H b=none->h'.get? b=some o)
 (slot:∀b o,b≠X.env.locals->b∈X.fs->b∉ch->s.heap.get? b=some o->H b=none->∃sl,h'.get? b=some {o with slots:=sl}) (free:∀b o,b∉ch->s.heap.get? b=some o->H b=none->H' b=none)
 (there:∀b o,b∉ch->s.heap.get? b=some o->∃o',h'.get? b=some o')
 (qO:∀b xs,H b=some (.tup xs)->H' b=some (.tup xs)) (pW:∀b o u,H b=some (.ia o u)->H' b=some (.ia o u)) (pH:∀b ps,H b=some (.lG ps)->∃more,H' b=some (.lG (ps++more)))
 (ns:∀m,s.heap.Ns X.env.locals m->h'.Ns X.env.locals m) (aO:i8 X.prog X.w H' h') (hg:AllBare g'):
 Inv X pins σ H' {s with heap:=h',gens:=g',drawn:=d',toks:=t'}:=by
 have neL:∀b o,X.s₀.heap.get? b=some o->b≠X.env.locals:=λ b o e=>UG (UE (Up e) I.ok.above)
 have neC:∀b o,X.s₀.heap.get? b=some o->b∉X.ex->b∉ch:=λ b o e hx hb=>by
  rcases(hch b hb).1 with z|z
  . exact hx z
  . exact absurd (UE (Up e) z) (U0 _)
 have cellK:∀x c,X.env.cells.lookup x=some c->∀v,s.heap.IsCell c v->h'.IsCell c v:=λ x c e v ⟨o,ho,hd⟩=>by
  have nch:c∉ch:=λ z=>(hch c z).2.2.1 x c e rfl;by_cases hc:c∈X.fs
  . obtain⟨sl,q⟩:=slot c o (I.Ci x c e) hc nch ho (I.ju x c e);exact⟨_,q,hd⟩
  . exact⟨o,keep c o (I.Ci x c e) hc nch ho (I.ju x c e),hd⟩
 refine⟨I.ok,I.os,hg,⟨λ b o e n hb hx=>?_,λ b o e n hb hx=>?_,λ b o e n hx=>?_,λ b o e hx=>?_,λ b xs e=>qO b xs (I.base.qO b xs e),λ b o xs e=>pW b o xs (I.base.pW b o xs e),λ b ps e=>?_⟩,?_,λ x c e=>?_,?_,λ x c e=>?_,λ p hp=>?_,aO,I.len⟩
 . exact keep b o (neL b o e) hb (neC b o e hx) (I.base.keep b o e n hb hx) (I.base.free b o e n hx)
 . obtain⟨sl,e1⟩:=I.base.slot b o e n hb hx;obtain⟨sl',e2⟩:=slot b _ (neL b o e) hb (neC b o e hx) e1 (I.base.free b o e n hx);exact⟨sl',e2⟩
 . obtain⟨o',e1⟩:=I.base.there b o e hx;exact free b o' (neC b o e hx) e1 (I.base.free b o e n hx)
 . obtain⟨o',e1⟩:=I.base.there b o e hx;exact there b o' (neC b o e hx) e1
 . obtain⟨m1,e1⟩:=I.base.pH b ps e;obtain⟨m2,e2⟩:=pH b _ e1;exact⟨m1++m2,by rw[e2,Array.append_assoc]⟩
 . obtain⟨m,hn,hl⟩:=I.loc;refine⟨m,ns m hn,λ i x v e1 e2 e3=>?_⟩;obtain⟨u,r,l⟩:=hl i x v e1 e2 e3;refine⟨u,r,?_⟩;rcases l with l|⟨k,c,e,z⟩
   . exact .inl l
   . exact .inr ⟨k,c,e,cellK x c e _ z⟩
 . obtain⟨v,z⟩:=I.cell x c e;exact⟨v,cellK x c e v z⟩
 . obtain⟨m,⟨o,_,_,ho,_⟩,_⟩:=I.loc;exact free _ o (λ z=>(hch _ z).2.1 rfl) ho I.free
 . obtain⟨v,o,ho,hd⟩:=I.cell x c e;exact free c o (λ z=>(hch c z).2.2.1 x c e rfl) ho (I.ju x c e)
 . obtain⟨e,n,ne,nf,d⟩:=I.pin p hp;have nch:p.1∉ch:=λ z=>(hch p.1 z).2.2.2 p hp rfl;exact⟨keep p.1 p.2 ne nf nch e n,free p.1 p.2 nch e n,ne,nf,d⟩
theorem Inv.un{t':Nat}(I:Inv X pins σ H s)(u:Un X.fs [] H H' s.heap h')(aO:i8 X.prog X.w H' h'):Inv X pins σ H' {s with heap:=h',toks:=t'}:=by
 obtain⟨m,⟨o,es,ep,ho,r⟩,_⟩:=id I.loc;obtain⟨sl,hL⟩:=u.any ho I.free (by simp)
 exact I.step (g':=s.gens) (d':=s.drawn) (ch:=[]) (λ _ z=>nomatch z) (λ b o _ hb _ e n=>u.keep b o e n hb (by simp)) (λ b o _ hb _ e n=>u.slot b o e n hb (by simp)) (λ b o _ e n=>u.free b o e n (by simp)) (λ b o _ e=>u.there b o e (by simp)) u.qO u.pW u.pH (λ m' hm=>by
  obtain⟨o',es',ep',ho',r'⟩:=hm;rw[ho]at ho';cases ho';exact⟨_,es',ep',hL,r'⟩) aO I.bare
theorem Inv.call{g':Array GenState}{t':Nat}{d':Drawn}{ch:List Addr}(I:Inv X pins σ H s)(u:Un (rS X.stack) ch H H' s.heap h')(aO:i8 X.prog X.w H' h')(hg:AllBare g')
 (hch:∀b∈ch,(b∈X.ex\/X.s₀.heap.objs.size<=b)/\b≠X.env.locals/\(∀x c,X.env.cells.lookup x=some c->c≠b)/\∀p∈X.pn++pins,p.1≠b):
 Inv X pins σ H' {s with heap:=h',gens:=g',drawn:=d',toks:=t'}:=by
 obtain⟨m,⟨o,es,ep,ho,r⟩,_⟩:=id I.loc;obtain⟨sl,hL⟩:=u.any ho I.free λ z=>(hch _ z).2.1 rfl
 exact I.step (ch:=ch) hch (λ b o hL hb hc e n=>u.keep b o e n (λ z=>(Ux.mp (I.BP b z)).elim hL hb) hc) (λ b o _ _ hc e n=>u.any e n hc) (λ b o hc e n=>u.free b o e n hc) (λ b o hc e=>u.there b o e hc) u.qO u.pW u.pH (λ m' hm=>by
  obtain⟨o',es',ep',ho',r'⟩:=hm;rw[ho]at ho';cases ho';exact⟨_,es',ep',hL,r'⟩) aO hg
theorem Inv.turned{t':Nat}{it:Addr}(I:Inv X pins σ H s)(k:∀b o,b≠it->s.heap.get? b=some o->h'.get? b=some o)(hn:H it=none)(hL:it≠X.env.locals)
 (h1:it∈X.ex\/X.s₀.heap.objs.size<=it) (h2:∀x c,X.env.cells.lookup x=some c->c≠it) (h3:∀p∈X.pn++pins,p.1≠it):Inv X pins σ H {s with heap:=h',toks:=t'}:=by
 have nit:∀b u,H b=some u->b≠it:=λ b u e z=>by rw[z,hn]at e;cases e
 refine I.step (g':=s.gens) (d':=s.drawn) (ch:=[it]) (λ b hb=>?_) (λ b o _ _ hc e _=>k b o (λ z=>hc (by simp[z])) e) (λ b o _ _ hc e _=>⟨o.slots,k b o (λ z=>hc (by simp[z])) e⟩) (λ _ _ _ _ n=>n)
  (λ b o hc e=>⟨o,k b o (λ z=>hc (by simp[z])) e⟩) (λ _ _ e=>e) (λ _ _ _ e=>e) (λ b ps e=>⟨#[],by rw[e];simp⟩) (λ m hm=>?_) (λ b u e=>?_) I.bare
 . have e:b=it:=by simpa using hb
   subst e;exact⟨h1,hL,h2,h3⟩
 . obtain⟨o,es,ep,ho,r⟩:=hm;exact⟨o,es,ep,k _ o (Ui hL) ho,r⟩
 . refine(I.aO b u e).qQ (λ c v hc q=>k c v ?_ q) (λ _ q=>q) λ _ _ q=>q;rcases hc with z|z
   . rw[z];exact nit b u e
   . exact nit c _ z
theorem Inv.tok(I:Inv X pins σ H s)(t:Nat):Inv X pins σ H {s with toks:=t}:=I.un (h':=s.heap) (t':=t) Un.refl I.aO
theorem Inv.kept{t':Nat}(I:Inv X pins σ H s)(k:∀b u,s.heap.get? b=some u->h'.get? b=some u):Inv X pins σ H {s with heap:=h',toks:=t'}:=I.un (Un.kept k) (I.aO.kept k)
theorem Inv.laid{a:Addr}{o:HO}{t':Nat}(I:Inv X pins σ H s)(k:∀b u,s.heap.get? b=some u->h'.get? b=some u)(hp:s.heap.objs.size<=a)(new:dP X.prog X.w (upd H a o) h' a o):
 Inv X pins σ (upd H a o) {s with heap:=h',toks:=t'}:=I.un (Un.laid k hp (I.aO.fresh hp)) (I.aO.laid k hp new)
theorem Inv.write{x e:Addr}{o:HO}{t':Nat}(I:Inv X pins σ H s)(mu:KC (H x))(he:e=x\/H e=some (.own x))(k:∀b u,b≠e->s.heap.get? b=some u->h'.get? b=some u)(heo:∃u,h'.get? e=some u)
 (new:dP X.prog X.w (upd H x o) h' x o):Inv X pins σ (upd H x o) {s with heap:=h',toks:=t'}:=I.un (Un.write mu he k heo) (I.aO.write mu he k heo new)
theorem Inv.vg{pins':List (Addr×Obj)}(I:Inv X pins σ H s)(h:∀p∈pins',s.heap.get? p.1=some p.2/\H p.1=none/\p.1≠X.env.locals/\p.1∉X.fs/\∀v,p.2.data≠ .cell v):Inv X pins' σ H s:=
 ⟨I.ok,I.os,I.bare,I.base,I.loc,I.cell,I.free,I.ju,λ p hp=>(UM.mp hp).elim (λ z=>I.pin p (VG _ z)) (h p),I.aO,I.len⟩
theorem BU{N:List Str}(hN:N.Nodup){i j:Nat}{x:Str}(a:N[i]?=some x)(b:N[j]?=some x):i=j:=by
 obtain⟨h1,e1⟩:=Ua.mp a;obtain⟨h2,e2⟩:=Ua.mp b;exact(List.getElem_inj hN).mp (e1.trans e2.symm)
theorem zQ{M:Model}{A:Around}{E:Value->Shared->Prop}{i:Nat}{x:Str}{v:V}{u:Value}{Q:Unit->Shared->Prop}(I:Inv X pins σ H s)(hN:X.N.Nodup)(hi:X.N[i]?=some x)(hx:Loc X.env.scope x)(r:RelV v u)
 (h:∀s',Inv X pins (σ.set i (some v)) H s'->(∃a,Heap.SameBut a s.heap s'.heap/\(a=X.env.locals\/X.env.cells.lookup x=some a))->Q () s') (hf:X.fn x=true\/X.env.scope.names.lookup x=some .local:=by first|exact .inl rfl|exact .inr rfl|assumption):wpAny M A (storeName X.env x u) Q E s:=by
 obtain⟨m,hn,hl⟩:=id I.loc;have hcls:(X.env.scope.kind== .class||(X.env.scope.kind== .module&&X.env.locals != X.env.globals))=false:=by rw[I.ok.kind];rfl
 have hiσ:i<σ.length:=by rw[I.len];exact(Ua.mp hi).1
 have Ci:=I.Ci
 have tracked:∀ {a:Addr} {h':Heap},(∃o,s.heap.get? a=some o/\H a=none)->Heap.SameBut a s.heap h'->i8 X.prog X.w H h':=λ{a h'} ha hs b ob e=>by
  obtain⟨_,_,hfree⟩:=ha;refine(I.aO b ob e).qQ (λ c w' hc q=>(hs.2 c ?_).trans q) (λ _ q=>q) λ _ _ q=>q;rintro rfl;rcases hc with rfl|hc
  . rw[hfree]at e;cases e
  . rw[hfree]at hc;cases hc
 rcases hx with hk|hk
 . refine wpAny_storeName_local hk hn (λ h' hn' hs=>?_) hcls;obtain⟨oL,_,_,hoL,_⟩:=id hn;refine h _ ⟨I.ok,I.os,I.bare,⟨λ b o e n hb hx=>?_,λ b o e n hb hx=>?_,I.base.free,λ b o e hx=>?_,I.base.qO,I.base.pW,I.base.pH⟩,⟨_,hn',λ j y v' e1 e2 e3=>?_⟩,λ y c e=>?_,I.free,I.ju,λ p hp=>?_,tracked ⟨oL,hoL,I.free⟩ hs,by simpa using I.len⟩ ⟨_,hs,.inl rfl⟩
   . exact(hs.2 b (UG (UE (Up e) I.ok.above))).trans (I.base.keep b o e n hb hx)
   . obtain⟨sl,e1⟩:=I.base.slot b o e n hb hx;exact⟨sl,(hs.2 b (UG (UE (Up e) I.ok.above))).trans e1⟩
   . obtain⟨o',e1⟩:=I.base.there b o e hx;exact⟨o',(hs.2 b (UG (UE (Up e) I.ok.above))).trans e1⟩
   . by_cases hj:j=i
     . subst hj;rw[hi]at e1;cases e1;rw[Uo hiσ]at e2;cases e2;exact⟨u,r,.inl ⟨hk,by simp⟩⟩
     . rw[Ug (Ui hj)]at e2;obtain⟨u',r',q⟩:=hl j y v' e1 e2 e3;refine⟨u',r',?_⟩;rcases q with⟨k,e⟩|⟨k,c,e,z⟩
       . refine .inl ⟨k,?_⟩;have:y≠x:=λ e=>hj (BU hN e1 (e▸hi));simp[this,e]
       . exact .inr ⟨k,c,e,z.sameBut hs (Ci y c e)⟩
   . obtain⟨w',z⟩:=I.cell y c e;exact⟨w',z.sameBut hs (Ci y c e)⟩
   . obtain⟨e,n,ne,nf,d⟩:=I.pin p hp;exact⟨(hs.2 p.1 ne).trans e,n,ne,nf,d⟩
 . have hfn:X.fn x=true:=by
    rcases hf with z|z
    . exact z
    . rw[z]at hk;cases hk
   obtain⟨c,hc⟩:=I.ok.has x (.inl hk);obtain⟨w',z⟩:=I.cell x c hc;refine wpAny_storeName_cell I.ok.kind hk hc z (λ h' hc' hs=>?_);obtain⟨oc,hoc,hocd⟩:=id z;refine h {s with heap:=h'} ⟨I.ok,I.os,I.bare,⟨λ b o e n hb hx=>?_,λ b o e n hb hx=>?_,I.base.free,λ b o e hx=>?_,I.base.qO,I.base.pW,I.base.pH⟩,⟨m,hn.sameBut hs (Ui (Ci x c hc)),λ j y v' e1 e2 e3=>?_⟩,λ y c' e=>?_,I.free,I.ju,λ p hp=>?_,tracked ⟨oc,hoc,I.ju x c hc⟩ hs,by simpa using I.len⟩ ⟨c,hs,.inr hc⟩
   . exact(hs.2 b (UG (UE (Up e) (I.ok.BG x c hfn hc)))).trans (I.base.keep b o e n hb hx)
   . obtain⟨sl,e1⟩:=I.base.slot b o e n hb hx;exact⟨sl,(hs.2 b (UG (UE (Up e) (I.ok.BG x c hfn hc)))).trans e1⟩
   . obtain⟨o',e1⟩:=I.base.there b o e hx;exact⟨o',(hs.2 b (UG (UE (Up e) (I.ok.BG x c hfn hc)))).trans e1⟩
   . by_cases hj:j=i
     . subst hj;rw[hi]at e1;cases e1;rw[Uo hiσ]at e2;cases e2;exact⟨u,r,.inr ⟨.inl hk,c,hc,hc'⟩⟩
     . rw[Ug (Ui hj)]at e2;obtain⟨u',r',q⟩:=hl j y v' e1 e2 e3;refine⟨u',r',?_⟩;rcases q with q|⟨k,c',e,z'⟩
       . exact .inl q
       . refine .inr ⟨k,c',e,z'.sameBut hs ?_⟩;rintro rfl;exact hj (BU hN e1 (I.ok.inj _ _ _ e hc▸hi))
   . by_cases hcc:c'=c
     . subst hcc;exact⟨_,hc'⟩
     . obtain⟨w2,z2⟩:=I.cell y c' e;exact⟨w2,z2.sameBut hs hcc⟩
   . obtain⟨e,n,ne,nf,d⟩:=I.pin p hp;refine⟨(hs.2 p.1 ?_).trans e,n,ne,nf,d⟩;intro q;rw[q,hoc]at e;have q':oc=p.2:=U6 e;exact d w' (by rw[<-q'];exact hocd)
theorem pE{M:Model}{A:Around}{E:Value->Shared->Prop}{i:Nat}{x:Str}{v:V}{u:Value}{Q:Unit->Shared->Prop}(I:Inv X pins σ H s)(hN:X.N.Nodup)(hi:X.N[i]?=some x)(hx:Loc X.env.scope x)(r:RelV v u)
 (h:∀s',Inv X pins (σ.set i (some v)) H s'->Q () s') (hf:X.fn x=true\/X.env.scope.names.lookup x=some .local:=by first|exact .inl rfl|exact .inr rfl|assumption):wpAny M A (storeName X.env x u) Q E s:=
 zQ I hN hi hx r (λ s' I' _=>h s' I') hf
theorem Inv.EM{s':Shared}{ch:List Addr}(I:Inv X pins σ H s)(ho:s'.os=s.os)(u:Un (rS X.stack) ch H H' s.heap s'.heap)(aO:i8 X.prog X.w H' s'.heap)(hg:AllBare s'.gens)
 (hch:∀b∈ch,(b∈X.ex\/X.s₀.heap.objs.size<=b)/\b≠X.env.locals/\(∀x c,X.env.cells.lookup x=some c->c≠b)/\∀p∈X.pn++pins,p.1≠b):Inv X pins σ H' s':=by
 obtain⟨h',g',d',t',o'⟩:=s';have e:o'=s.os:=ho;subst e;exact I.call (g':=g') (t':=t') (d':=d') u aO hg hch
end
abbrev XK:=Value->Option Addr->Hp->Prop
abbrev St:=List (Option V)
abbrev VK:=V->Hp->Prop
abbrev TE:=St->Hp->VK->Prop
abbrev TT:=St->Hp->(Bool->Hp->Prop)->Prop
abbrev TA:=St->Hp->(List V->Hp->Prop)->Prop
structure Ends where
 nx:St->Hp->Prop
 rt:VK
 bk:St->Hp->Prop:=λ _ _=>False
 ct:St->Hp->Prop:=λ _ _=>False
abbrev TS:=Ends->St->Hp->Prop
def EP(X:Cx)(pins:List (Addr×Obj))(σ:St)(Q:VK)(u:Value)(s':Shared):Prop:=∃v H',Inv X pins σ H' s'/\RelV v u/\Q v H'
def TP(X:Cx)(pins:List (Addr×Obj))(σ:St)(Q:Bool->Hp->Prop)(b:Bool)(s':Shared):Prop:=∃H',Inv X pins σ H' s'/\Q b H'
def AP(X:Cx)(pins:List (Addr×Obj))(σ:St)(Q:List V->Hp->Prop)(us:List Value)(s':Shared):Prop:=∃vs H',Inv X pins σ H' s'/\Vals vs us/\Q vs H'
def SP(X:Cx)(pins:List (Addr×Obj))(D:Ends)(f:Flow)(s':Shared):Prop:=
 match f with
 | .next=>∃σ' H',Inv X pins σ' H' s'/\D.nx σ' H'
 | .brk=>∃σ' H',Inv X pins σ' H' s'/\D.bk σ' H'
 | .cont=>∃σ' H',Inv X pins σ' H' s'/\D.ct σ' H'
 | .ret u=>∃v σ' H',Inv X pins σ' H' s'/\RelV v u/\D.rt v H'
def PE(X:Cx)(e:Expr)(t:TE):Prop:=
 ∀(pins:List (Addr×Obj)) (s:Shared) (σ:St) (H:Hp) (Q:VK),Inv X pins σ H s->t σ H Q->wpAny (model X.prog X.w) X.A (eval e X.env) (EP X pins σ Q) X.xe s
def PT(X:Cx)(e:Expr)(t:TT):Prop:=
 ∀(pins:List (Addr×Obj)) (s:Shared) (σ:St) (H:Hp) (Q:Bool->Hp->Prop),Inv X pins σ H s->t σ H Q->wpAny (model X.prog X.w) X.A (isTrue e X.env (eval e X.env)) (TP X pins σ Q) X.xe s
def PW(X:Cx)(e:Expr)(t:TT):Prop:=
 ∀(whole:Sem Value) (pins:List (Addr×Obj)) (s:Shared) (σ:St) (H:Hp) (Q:Bool->Hp->Prop),Inv X pins σ H s->t σ H Q->wpAny (model X.prog X.w) X.A (isTrue e X.env whole) (TP X pins σ Q) X.xe s
theorem PW.pt{X:Cx}{e:Expr}{t:TT}(h:PW X e t):PT X e t:=h _
def PA(X:Cx)(es:List Expr)(t:TA):Prop:=
 ∀(pos:Pos) (pins:List (Addr×Obj)) (s:Shared) (σ:St) (H:Hp) (Q:List V->Hp->Prop),Inv X pins σ H s->t σ H Q->wpAny (model X.prog X.w) X.A (spliced (backTo pos (starEach es X.env))) (AP X pins σ Q) X.xe s
def PS(X:Cx)(st:Stmt)(t:TS):Prop:=
 ∀(pins:List (Addr×Obj)) (s:Shared) (σ:St) (H:Hp) (D:Ends),Inv X pins σ H s->t D σ H->wpAny (model X.prog X.w) X.A (exec st X.env) (SP X pins D) X.xe s
def iK(X:Cx)(st:List Stmt)(t:TS):Prop:=
 ∀(pins:List (Addr×Obj)) (s:Shared) (σ:St) (H:Hp) (D:Ends),Inv X pins σ H s->t D σ H->wpAny (model X.prog X.w) X.A (execs st X.env) (SP X pins D) X.xe s
theorem b_{α:Type}{t:Sem α}{Q Q':α->Shared->Prop}{M:Model}{A:Around}{E:Value->Shared->Prop}{s:Shared}(h:wpAny M A t Q E s)(hQ:∀a s,Q a s->Q' a s):wpAny M A t Q' E s:=V1 h hQ λ _ _ x=>x
section
variable {X:Cx}
def OI(i:Nat):TE:=λ σ H Q=>∃v,σ[i]?=some (some v)/\Q v H
def tC(v:V):TE:=λ _ H Q=>Q v H
theorem Ox{i:Nat}{x:Str}{pos:Pos}(hN:X.N[i]?=some x)(hv:AZ X.env.scope x)(hd:(x==("__debug__":Str))=false:=by decide)(hcd:(x==("__classdict__":Str))=false:=by decide):PE X (.Name x pos) (OI i):=by
 intro pins s σ H Q I h;obtain⟨v,e,h⟩:=h;obtain⟨m,hn,hl⟩:=I.loc;obtain⟨u,r,l⟩:=hl i x v hN e hv;have fin:EP X pins σ Q u s:=⟨v,H,I,r,h⟩
 rcases l with⟨hk,hm⟩|⟨hk,c,hc,hcell⟩
 . exact wpAny_Name (wpAny_loadName_local I.ok.kind hk hn hm fin) hd
 . rcases hk with hk|hk
   . exact wpAny_Name (wpAny_loadName_cell I.ok.kind hk hc hcell fin) hd
   . exact wpAny_Name (wpAny_loadName_free I.ok.kind hk hc hcell fin hcd) hd
theorem N1{i j pos}:PE X (.Constant (.int i) j pos) (tC (.int i)):=λ _ _ _ H _ I h=>wpAny_Constant_int ⟨.int i,H,I.tok _,⟨_,rfl⟩,h⟩
theorem Q_{b j pos}:PE X (.Constant (.bool b) j pos) (tC (.bl b)):=λ _ _ _ H _ I h=>Constant_bool ⟨.bl b,H,I,rfl,h⟩
theorem OJ{j pos}:PE X (.Constant .none j pos) (tC .aF):=λ _ _ _ H _ I h=>Constant_none ⟨.aF,H,I,rfl,h⟩
theorem NJ{x j pos}:PE X (.Constant (.str x) j pos) (tC (.str x)):=λ _ _ _ H _ I h=>Calls.Constant_str ⟨.str x,H,I.tok _,⟨_,rfl⟩,h⟩
def Gl(X:Cx)(x:Str):Prop:=X.env.kindOf x=some .globalImplicit
theorem D9{E:Value->Shared->Prop}{pins:List (Addr×Obj)}{s:Shared}{σ:St}{H:Hp}{x:Str}{u:Value}{pos:Pos}{Q:Value->Shared->Prop}(I:Inv X pins σ H s)(hg:Gl X x)(hm:X.mg x=some u)(h:Q u s)
 (hd:(x==("__debug__":Str))=false:=by decide):wpAny (model X.prog X.w) X.A (eval (.Name x pos) X.env) Q E s:=
 XY I.ok.kind hg (Calls.loadGlobal_global (by rw[I.ok.glob];exact I.mod.glob.keeps I.bk) hm h) hd
theorem kB{E:Value->Shared->Prop}{pins:List (Addr×Obj)}{s:Shared}{σ:St}{H:Hp}{x:Str}{u:Value}{pos:Pos}{Q:Value->Shared->Prop}(I:Inv X pins σ H s)(hg:Gl X x)(hm:X.mg x=none)(hv:bootBuiltins x=some u)(h:Q u s)
 (hn:x≠"__name__":=by decide) (hd:(x==("__debug__":Str))=false:=by decide):wpAny (model X.prog X.w) X.A (eval (.Name x pos) X.env) Q E s:=by
 obtain⟨mb,h1,h2⟩:=I.mod.blt;exact XY I.ok.kind hg (Calls.loadGlobal_builtin (by rw[I.ok.glob];exact I.mod.glob.keeps I.bk) hm (by rw[I.ok.blt];exact h1.keeps I.bk) ((h2 x hn).trans hv) h) hd
theorem MG{x:Str}{v:V}{u:Value}{pos:Pos}(hg:Gl X x)(hm:X.mg x=none)(hv:bootBuiltins x=some u)(r:RelV v u)(hn:x≠"__name__":=by decide)(hd:(x==("__debug__":Str))=false:=by decide):PE X (.Name x pos) (tC v):=
 λ _ _ _ H _ I h=>kB I hg hm hv ⟨v,H,I,r,h⟩ hn hd
variable {a b:Expr}{ta tb:TE}{pos:Pos}
def tB(t:TE):TT:=λ σ H Q=>t σ H λ x H1=>∃c,x= .bl c/\Q c H1
theorem N4{e:Expr}{t:TE}(h:PE X e t)(he:∀whole,isTrue e X.env whole=(do let v <-whole;standAt e.pos;holding [v] (truthy v)):=by intro _;rfl):PT X e (tB t):=by
 intro pins s σ H Q I hw;refine isTrue_plain (b_ (h pins s σ H _ I hw) λ v s1 ⟨x,H1,I1,r1,q1⟩=>?_) (he _);obtain⟨d,rfl,q⟩:=q1;cases r1;exact wpAny_truthy_bool ⟨H1,I1,q⟩
variable {tA tB':TT}{rest:List Expr}
def NU(t u:TT):TT:=λ σ H Q=>t σ H λ c H1=>if c=true then u σ H1 Q else Q false H1
def RQ(t u:TT):TT:=λ σ H Q=>t σ H λ c H1=>if c=true then Q true H1 else u σ H1 Q
def SG(t:TT):TT:=λ σ H Q=>t σ H λ c H1=>Q (!c) H1
theorem pw_and1(ha:PT X a tA):PW X (.BoolOp .And [a] pos) tA:=by
 intro wh pins s σ H Q I h;refine isTrue_and (b_ (ha pins s σ H Q I h) λ c s1 e=>?_);cases c with
 |true=>exact isTrue_and_nil e
 |false=>exact e
theorem pw_or1(ha:PT X a tA):PW X (.BoolOp .Or [a] pos) tA:=by
 intro wh pins s σ H Q I h;refine isTrue_or (b_ (ha pins s σ H Q I h) λ c s1 e=>?_);cases c with
 |false=>exact isTrue_or_nil e
 |true=>exact e
theorem pw_and(ha:PT X a tA)(hb:PW X (.BoolOp .And (b::rest) pos) tB'):PW X (.BoolOp .And (a::b::rest) pos) (NU tA tB'):=by
 intro wh pins s σ H Q I h;refine isTrue_and (b_ (ha pins s σ H _ I h) λ c s1 ⟨H1,I1,q1⟩=>?_);cases c with
 |true=>exact hb wh pins s1 σ H1 Q I1 q1
 |false=>exact⟨H1,I1,q1⟩
theorem pw_or(ha:PT X a tA)(hb:PW X (.BoolOp .Or (b::rest) pos) tB'):PW X (.BoolOp .Or (a::b::rest) pos) (RQ tA tB'):=by
 intro wh pins s σ H Q I h;refine isTrue_or (b_ (ha pins s σ H _ I h) λ c s1 ⟨H1,I1,q1⟩=>?_);cases c with
 |true=>exact⟨H1,I1,q1⟩
 |false=>exact hb wh pins s1 σ H1 Q I1 q1
theorem OS(ha:PT X a tA):PT X (.UnaryOp .Not a pos) (SG tA):=by
 intro pins s σ H Q I h;exact isTrue_not (ha pins s σ H (λ c H1=>Q (!c) H1) I h)
def Tu(t:TT)(ta tb:TE):TE:=λ σ H Q=>t σ H λ c H1=>if c=true then ta σ H1 Q else tb σ H1 Q
theorem Jn{c:Expr}(hc:PT X c tA)(ha:PE X a ta)(hb:PE X b tb):PE X (.IfExp c a b pos) (Tu tA ta tb):=by
 intro pins s σ H Q I h;refine wpAny_IfExp (b_ (hc pins s σ H _ I h) λ d s1 ⟨H1,I1,q1⟩=>?_);cases d with
 |true=>exact ha pins s1 σ H1 Q I1 q1
 |false=>exact hb pins s1 σ H1 Q I1 q1
end
def nP(K:PySem.W.Frag)(H:Hp)(a:Addr)(xs:List V):Prop:=
 Rd H a (.lst xs)\/
  ∃(o:Obj) (its:Array Value) (n:Nat),K.lookup a=some o/\o.cls= .type "list"/\o.dict=none/\o.data= .seq its n/\its.size<=sizeLine/\Vals xs its.toList
def jH(K:PySem.W.Frag)(H:Hp)(a:Addr)(xs:List V):Prop:=
 Rd H a (.tup xs)\/
  ∃(o:Obj) (its:Array Value) (n:Nat),K.lookup a=some o/\o.cls= .type "tuple"/\o.data= .seq its n/\its.size<=sizeLine/\Vals xs its.toList
def Tj:Value->Option V
 | .none=>some .aF
 | .bool b=>some (.bl b)
 | .int i _=>some (.int i)
 | .str x _=>some (.str x)
 | .bytes b _=>some (.vR b)
 | .float b _=>some (.vJ b)
 | .ref a=>some (.ref a)
 | .type n=>some (.ty n)
 |_=>none
theorem RelV.abs{x:V}{u:Value}(r:RelV x u):Tj u=some x:=by
 cases x with
 |aF=>cases r;rfl
 |bl _=>cases r;rfl
 |int _=>obtain⟨t,rfl⟩:=r;rfl
 |str _=>obtain⟨t,rfl⟩:=r;rfl
 |vR _=>obtain⟨t,rfl⟩:=r;rfl
 |vJ _=>obtain⟨t,rfl⟩:=r;rfl
 |ref _=>cases r;rfl
 |ty _=>cases r;rfl
theorem RelV.inj{x y:V}{u:Value}(r:RelV x u)(q:RelV y u):x=y:=U6 (r.abs.symm.trans q.abs)
theorem Vals.inj:∀ {xs ys:List V} {us:List Value},Vals xs us->Vals ys us->xs=ys
 |_,_,_,.nil,.nil=>rfl
 |_,_,_,.cons r t,.cons r' t'=>by rw[r.inj r',Vals.inj t t']
section
variable {X:Cx}{pins:List (Addr×Obj)}{σ:St}{H:Hp}{s:Shared}{a:Addr}{xs ys:List V}
theorem nP.of{K:PySem.W.Frag}(h:H a=some (.lst xs)):nP K H a xs:= .inl (.inl h)
theorem jH.of{K:PySem.W.Frag}(h:H a=some (.tup xs)):jH K H a xs:= .inl (.inl h)
theorem Inv.list(I:Inv X pins σ H s)(h:nP X.K H a xs):∃its:List Value,Vals xs its/\PlainL s.heap a its.toArray/\xs.length<=sizeLine:=by
 rcases h with h|⟨o,its,n,hk,hc,hd,hs,hz,r⟩
 . obtain⟨z,its,n,r,e⟩:=h.ok I.aO;exact⟨its,r,⟨_,n,e,rfl,rfl,rfl⟩,z⟩
 . refine⟨its.toList,r,⟨o,n,I.iG a o hk,hc,hd,by simpa using hs⟩,?_⟩;have e:=r.length;simp only[Wy]at e;omega
theorem Inv.tuple(I:Inv X pins σ H s)(h:jH X.K H a xs):∃its:List Value,Vals xs its/\IsTup s.heap a its.toArray/\xs.length<=sizeLine:=by
 rcases h with h|⟨o,its,n,hk,hc,hs,hz,r⟩
 . obtain⟨z,its,r,p⟩:=h.ok I.aO;exact⟨its,r,p,z⟩
 . refine⟨its.toList,r,⟨o,I.iG a o hk,hc,n,by simpa using hs⟩,?_⟩;have e:=r.length;simp only[Wy]at e;omega
theorem Inv.B6(I:Inv X pins σ H s)(h:nP X.K H a xs)(h':nP X.K H a ys):xs=ys:=by
 obtain⟨its,r,⟨o,n,e,_,_,d⟩,_⟩:=I.list h;obtain⟨its',r',⟨o',n',e',_,_,d'⟩,_⟩:=I.list h';rw[e]at e';cases e';rw[d]at d';injection d' with d1 _;have:its=its':=by simpa using VH Array.toList d1
 subst this;exact r.inj r'
theorem Inv.zm(I:Inv X pins σ H s)(h:jH X.K H a xs)(h':jH X.K H a ys):xs=ys:=by
 obtain⟨its,r,⟨o,e,_,n,d⟩,_⟩:=I.tuple h;obtain⟨its',r',⟨o',e',_,n',d'⟩,_⟩:=I.tuple h';rw[e]at e';cases e';rw[d]at d';injection d' with d1 _;have:its=its':=by simpa using VH Array.toList d1
 subst this;exact r.inj r'
end
abbrev Cx.qR(X:Cx)(E:Value->Shared->Prop):Cx:={X with xe:=E}
abbrev Cx.xN(X:Cx):Cx:=X.qR λ _ _=>False
theorem Cx.Ok.qR{X:Cx}(ok:X.Ok)(E:Value->Shared->Prop):(X.qR E).Ok:=
 ⟨ok.mod,ok.kind,ok.glob,ok.blt,ok.above,ok.inj,ok.has,ok.BG,ok.hd,ok.frames,ok.Dn,ok.Hy,ok.bs,ok.uJ,ok.wA,ok.wu,ok.ma,ok.yh,ok.gt⟩
theorem Cx.Ok.nK{X:Cx}{E:Value->Shared->Prop}(ok:(X.qR E).Ok):X.Ok:=
 ⟨ok.mod,ok.kind,ok.glob,ok.blt,ok.above,ok.inj,ok.has,ok.BG,ok.hd,ok.frames,ok.Dn,ok.Hy,ok.bs,ok.uJ,ok.wA,ok.wu,ok.ma,ok.yh,ok.gt⟩
section
variable {X:Cx}{pins:List (Addr×Obj)}{σ:St}{H:Hp}{s:Shared}{E:Value->Shared->Prop}
theorem Inv.qR(I:Inv X pins σ H s)(E:Value->Shared->Prop):Inv (X.qR E) pins σ H s:=⟨I.ok.qR E,I.os,I.bare,I.base,I.loc,I.cell,I.free,I.ju,I.pin,I.aO,I.len⟩
theorem Inv.nK(I:Inv (X.qR E) pins σ H s):Inv X pins σ H s:=⟨I.ok.nK,I.os,I.bare,I.base,I.loc,I.cell,I.free,I.ju,I.pin,I.aO,I.len⟩
theorem SP.nK{D:Ends}{f:Flow}{s':Shared}(h:SP (X.qR E) pins D f s'):SP X pins D f s':=by
 cases f with
 |next=>obtain⟨σ',H',I,q⟩:=h;exact⟨σ',H',I.nK,q⟩
 |brk=>obtain⟨σ',H',I,q⟩:=h;exact⟨σ',H',I.nK,q⟩
 |cont=>obtain⟨σ',H',I,q⟩:=h;exact⟨σ',H',I.nK,q⟩
 |ret u=>obtain⟨v,σ',H',I,r,q⟩:=h;exact⟨v,σ',H',I.nK,r,q⟩
theorem iK.xN{st:List Stmt}{t:TS}(h:iK X.xN st t):iK X st t:=λ pins s σ H D I hw=>
 V1 (h pins s σ H D (I.qR _) hw) (λ _ _ q=>q.nK) λ _ _ z=>False.elim z
end
section
variable {X:Cx}{st:Stmt}{rest:List Stmt}{t u:TS}{e:Expr}{te:TE}{pos:Pos}
def QX:TS:=λ D σ H=>D.nx σ H
def SM(t u:TS):TS:=λ D σ H=>t {D with nx:=u D} σ H
theorem LJ:iK X [] QX:=λ _ _ σ H _ I h=>Xz ⟨σ,H,I,h⟩
theorem JN(h1:PS X st t)(h2:iK X rest u):iK X (st::rest) (SM t u):=by
 intro pins s σ H D I h;refine wpAny_execs_cons (b_ (h1 pins s σ H {D with nx:=u D} I h) λ f s1 q=>?_);cases f with
 |next=>
  obtain⟨σ',H',I',q⟩:=q;exact h2 pins s1 σ' H' D I' q
 |ret v=>exact q
 |brk=>exact q
 |cont=>exact q
theorem Ma(h1:PS X st t):iK X [st] t:=by
 intro pins s σ H D I h;refine wpAny_execs_cons (b_ (h1 pins s σ H D I h) λ f s1 q=>?_);cases f with
 |next=>exact Xz q
 |ret v=>exact q
 |brk=>exact q
 |cont=>exact q
def Qv:TS:=λ D σ H=>D.ct σ H
theorem CT:PS X (.Continue pos) Qv:=λ _ _ σ H _ I h=>wpAny_Continue ⟨σ,H,I,h⟩
theorem Inv.quiet{pins:List (Addr×Obj)}{σ:St}{H:Hp}{s:Shared}(I:Inv X pins σ H s):interactive X.env=false:=by simp[interactive,I.ok.kind]
def QZ(te:TE):TS:=λ D σ H=>te σ H λ _ H1=>D.nx σ H1
theorem ML(he:PE X e te)(hs:swapsWith e none pos.line X.env=pure false:=by rfl):PS X (.Expr e pos) (QZ te):=by
 intro pins s σ H D I h;exact wpAny_Expr_any (b_ (he pins s σ H _ I h) λ v s1 ⟨x,H1,I1,r1,q1⟩=>⟨σ,H1,I1,q1⟩) I.quiet hs
def Tc(te:TE):TS:=λ D σ H=>te σ H D.rt
theorem Pf(he:PE X e te):PS X (.Return (some e) pos) (Tc te):=by
 intro pins s σ H D I h;exact wpAny_Return_some (b_ (he pins s σ H _ I h) λ v s1 ⟨x,H1,I1,r1,q1⟩=>⟨x,σ,H1,I1,r1,q1⟩)
def QU:TS:=λ D _ H=>D.rt .aF H
theorem M0:PS X (.Return none pos) QU:=λ _ _ σ H _ I h=>wpAny_Return_none ⟨.aF,σ,H,I,rfl,h⟩
def SV(c:TT)(t u:TS):TS:=λ D σ H=>c σ H λ b H1=>if b=true then t D σ H1 else u D σ H1
theorem QT{c:Expr}{a b:List Stmt}{tc:TT}(hc:PT X c tc)(ha:iK X a t)(hb:iK X b u):PS X (.If c a b pos) (SV tc t u):=by
 intro pins s σ H D I h;refine wpAny_If (b_ (hc pins s σ H _ I h) λ d s1 ⟨H1,I1,q1⟩=>?_);cases d with
 |true=>exact ha pins s1 σ H1 D I1 q1
 |false=>exact hb pins s1 σ H1 D I1 q1
end
abbrev TG:=V->St->Hp->(St->Hp->Prop)->Prop
abbrev Cq:=List V->St->Hp->(St->Hp->Prop)->Prop
def PG(X:Cx)(target:Expr)(t:TG):Prop:=
 ∀(pins:List (Addr×Obj)) (s:Shared) (σ:St) (H:Hp) (v:V) (u:Value) (Q:St->Hp->Prop),Inv X pins σ H s->RelV v u->t v σ H Q->
  wpAny (model X.prog X.w) X.A (assign target X.env u) (λ _ s'=>∃σ' H',Inv X pins σ' H' s'/\Q σ' H') X.xe s
def K9(X:Cx)(ts:List Expr)(t:Cq):Prop:=
 ∀(pins:List (Addr×Obj)) (s:Shared) (σ:St) (H:Hp) (vs:List V) (us:List Value) (Q:St->Hp->Prop),Inv X pins σ H s->Vals vs us->t vs σ H Q->
  wpAny (model X.prog X.w) X.A (assignInOrder ((assignEach ts X.env).map (·.2)) us) (λ _ s'=>∃σ' H',Inv X pins σ' H' s'/\Q σ' H') X.xe s
abbrev CJ:=V->V->V->Hp->(Hp->Prop)->Prop
def J9(X:Cx)(t:CJ):Prop:=
 ∀(pins:List (Addr×Obj)) (s:Shared) (σ:St) (H:Hp) (o i v:V) (ov iv u:Value) (Q:Hp->Prop),Inv X pins σ H s->RelV o ov->RelV i iv->RelV v u->t o i v H Q->
  wpAny (model X.prog X.w) X.A (setItem ov iv u) (λ _ s'=>∃H',Inv X pins σ H' s'/\Q H') X.xe s
abbrev DP:=V->V->Hp->VK->Prop
def BV(X:Cx)(op:Operator)(t:DP):Prop:=
 ∀(pins:List (Addr×Obj)) (s:Shared) (σ:St) (H:Hp) (x y:V) (v u:Value) (Q:VK),Inv X pins σ H s->RelV x v->RelV y u->t x y H Q->
  wpAny (model X.prog X.w) X.A (inplaceOp op v u) (EP X pins σ Q) X.xe s
section
variable {X:Cx}{pos:Pos}
def kO(i:Nat):TG:=λ v σ H Q=>Q (σ.set i (some v)) H
theorem o9{i:Nat}{x:Str}(hN:X.N.Nodup)(hi:X.N[i]?=some x)(hx:Loc X.env.scope x)(hf:X.fn x=true\/X.env.scope.names.lookup x=some .local:=by first|exact .inl rfl|exact .inr rfl|assumption):PG X (.Name x pos) (kO i):=by
 intro pins s σ H v u Q I r h;exact wpAny_assign_Name (pE I hN hi hx r (λ s' I'=>⟨_,H,I',h⟩) hf)
def Iu:Cq:=λ vs σ H Q=>vs=[]/\Q σ H
def vh(t:TG)(u:Cq):Cq:=λ vs σ H Q=>∃v r,vs=v::r/\t v σ H λ σ' H'=>u r σ' H' Q
theorem DV:K9 X [] Iu:=by
 intro pins s σ H vs us Q I r h;obtain⟨e,h⟩:=h;subst e;cases r;exact assignInOrder_nil ⟨σ,H,I,h⟩
theorem pC{e:Expr}{es:List Expr}{t:TG}{u:Cq}(h1:PG X e t)(h2:K9 X es u)
 (hs:(assignEach (e::es) X.env).map (·.2)=assign e X.env::(assignEach es X.env).map (·.2):=by rfl):K9 X (e::es) (vh t u):=by
 intro pins s σ H vs us Q I r h;obtain⟨v,vr,e1,h⟩:=h;subst e1;cases r with
 |cons r rr=>
  rw[hs];refine XS (b_ (h1 pins s σ H _ _ _ I r h) λ _ s1 ⟨σ1,H1,I1,q1⟩=>?_);exact h2 pins s1 σ1 H1 _ _ Q I1 rr q1
def Jd(K:PySem.W.Frag)(n:Nat)(t:Cq):TG:=λ v σ H Q=>∃a xs,v= .ref a/\jH K H a xs/\xs.length=n/\t xs σ H Q
theorem F8{es:List Expr}{k:Nat}{t:Cq}{n:Nat}(hc:X.calm=true)(h:K9 X es t)
 (hn:(assignEach es X.env).length=n:=by rfl) (hst:(assignEach es X.env).findIdx? (·.1)=none:=by rfl):PG X (.Tuple es k pos) (Jd X.K n t):=by
 intro pins s σ H v u Q I r hw;obtain⟨a,xs,e1,hq,hl,hw⟩:=hw;subst e1;cases r;obtain⟨its,rv,ht,hz⟩:=I.tuple hq;refine assign_Tuple_tuple (I.ok.hd hc) ht (by simp[hn,<-hl,rv.length]) hst λ h' hx=>?_;have I1:Inv X pins σ H {s with heap:=h'}:=I.kept (t':=s.toks) λ b o e=>hx b o (UG (Up e)) e;exact h pins _ σ H xs _ Q I1 (by simpa using rv) hw
def E_(to ti:TE)(t:CJ):TG:=λ v σ H Q=>to σ H λ o H1=>ti σ H1 λ i H2=>t o i v H2 λ H3=>Q σ H3
theorem Ol{o i:Expr}{to ti:TE}{t:CJ}(ho:PE X o to)(hi:PE X i ti)(hs:J9 X t)
 (ha:∀v,assign (.Subscript o i pos) X.env v=(do
   let ov <-holding [v] (eval o X.env)
   let iv <-holding [v,ov] (eval i X.env)
   standAt pos
   holding [v,ov,iv] (setItem ov iv v)
   release [v,ov,iv] []):=by intro _;rfl):PG X (.Subscript o i pos) (E_ to ti t):=by
 intro pins s σ H v u Q I r h;rw[ha];refine T_ (WA (b_ (ho pins s σ H _ I h) λ ov s1 ⟨x,H1,I1,r1,q1⟩=>?_));refine T_ (WA (b_ (hi pins s1 σ H1 _ I1 q1) λ iv s2 ⟨y,H2,I2,r2,q2⟩=>?_));refine T_ (Xo (T_ (WA (b_ (hs pins s2 σ H2 x y v ov iv u _ I2 r1 r2 r q2) λ _ s3 ⟨H3,I3,q3⟩=>?_))));exact wpAny_release ⟨σ,H3,I3,q3⟩
def sr(te:TE)(g:TG):TS:=λ D σ H=>te σ H λ x H1=>g x σ H1 D.nx
theorem Pa{tg e:Expr}{te:TE}{g:TG}(he:PE X e te)(hg:PG X tg g)(hs:swapsWithSole [tg] e pos.line X.env=pure false:=by rfl)(hw:swappedStores [tg] e X.env=pure none:=by rfl)
 (h1:(assignEach [tg] X.env).map (·.2)=[assign tg X.env]:=by rfl):PS X (.Assign [tg] e pos) (sr te g):=by
 intro pins s σ H D I h;refine wpAny_Assign_stores (b_ (he pins s σ H _ I h) λ v s1 ⟨x,H1,I1,r1,q1⟩=>?_) hs hw;rw[h1];exact b_ (hg pins s1 σ H1 x v _ I1 r1 q1) λ _ s2 q=>q
theorem OW{i:Nat}{x:Str}{e:Expr}{te:TE}{pos':Pos}(hN:X.N.Nodup)(hi:X.N[i]?=some x)(hx:Loc X.env.scope x)(he:PE X e te)(hs:swapsWith e (some (.Name x pos')) pos.line X.env=pure false:=by rfl)(hf:X.fn x=true\/X.env.scope.names.lookup x=some .local:=by first|exact .inl rfl|exact .inr rfl|assumption):
 PS X (.Assign [.Name x pos'] e pos) (sr te (kO i)):=by
 intro pins s σ H D I h;refine wpAny_Assign_Name (b_ (he pins s σ H _ I h) λ v s1 ⟨y,H1,I1,r1,q1⟩=>?_) hs;exact pE I1 hN hi hx r1 (λ s2 I2=>⟨_,H1,I2,q1⟩) hf
def ND(i j:Nat)(ta:TA):TS:=λ D σ H=>ta σ H λ vs H1=>∃v w,vs=[v,w]/\D.nx ((σ.set i (some v)).set j (some w)) H1
theorem NP{i j:Nat}{x y:Str}{a b:Expr}{ta:TA}{px py pt:Pos}{kt k2 pt2}(hc:X.calm=true)(hN:X.N.Nodup)(hi:X.N[i]?=some x)(hj:X.N[j]?=some y)(hij:i≠j)
 (hx:X.env.scope.names.lookup x=some .local) (hy:X.env.scope.names.lookup y=some .local) (ha:PA X [a,b] ta)
 (hw:swappedStores [.Tuple [.Name x px,.Name y py] kt pt] (.Tuple [a,b] k2 pt2) X.env=pure (some [x,y]))
 (hs:swapsWithSole [.Tuple [.Name x px,.Name y py] kt pt] (.Tuple [a,b] k2 pt2) pos.line X.env=pure false:=by rfl):
 PS X (.Assign [.Tuple [.Name x px,.Name y py] kt pt] (.Tuple [a,b] k2 pt2) pos) (ND i j ta):=by
 intro pins s σ H D I h;rw[exec_Assign_arm];refine T_ (Xo ?_);rw[hs];refine T_ (Ul ?_);rw[Ub (by decide)];refine T_ (Tuple_ (b_ (ha _ pins s σ H _ I h) λ us s1 ⟨vs,H1,I1,r1,q1⟩=>?_));obtain⟨v,w,e1,q1⟩:=q1;subst e1
 obtain⟨u1,u2,rfl,rv,rw'⟩:∃u1 u2,us=[u1,u2]/\RelV v u1/\RelV w u2:=by
  cases r1 with
  |cons p q=>
   cases q with
   |cons p' q'=>
    cases q';exact⟨_,_,rfl,p,p'⟩
 refine V_ ?_ (by show 2<=sizeLine;decide);have I2:Inv X pins σ H1 {s1 with heap:=s1.heap.push {cls:= .type "tuple",data:= .seq [u1,u2].toArray}}:=I1.kept (t':=s1.toks) λ b o e=>Uc _ e;rw[hw];refine T_ (Ul ?_);show wpAny (model X.prog X.w) X.A (do rule "assign.swapped-stores";let items <-unpackItems (.ref s1.heap.objs.size) 2 none;assignInOrder [λ v=>bindName X.env y v,λ v=>bindName X.env x v] items.reverse;pure Flow.next) _ _ _;refine T_ (WQ (T_ (unpackItems_tuple (items:= #[u1,u2]) (I.ok.hd hc) (IsTup.new s1.heap _) λ h' hx'=>?_)));have I3:=I2.kept (h':=h') (t':=s1.toks) λ b o e=>hx' b o (UG (Up e)) e;show wpAny _ _ (assignInOrder [λ v=>bindName X.env y v,λ v=>bindName X.env x v] [u2,u1] >>= λ _=>pure Flow.next) _ _ _;refine T_ (XS (wpAny_bindName (pE I3 hN hj (.inl hy) rw' (λ s2 I4=>?_) (.inr hy))));refine XS (wpAny_bindName (pE I4 hN hi (.inl hx) rv (λ s3 I5=>assignInOrder_nil (Ul ?_)) (.inr hx)));rw[List.set_comm _ _ (Ui hij)]at I5;exact⟨_,H1,I5,q1⟩
def Pg(i:Nat)(te:TE)(ti:DP):TS:=λ D σ H=>∃x,σ[i]?=some (some x)/\te σ H λ y H1=>ti x y H1 λ z H2=>D.nx (σ.set i (some z)) H2
theorem OO{i:Nat}{x:Str}{e:Expr}{te:TE}{op:Operator}{ti:DP}{pos':Pos}(hN:X.N.Nodup)(hi:X.N[i]?=some x)(hx:Loc X.env.scope x)(he:PE X e te)(ho:BV X op ti)(hf:X.fn x=true\/X.env.scope.names.lookup x=some .local:=by first|exact .inl rfl|exact .inr rfl|assumption):
 PS X (.AugAssign (.Name x pos') op e pos) (Pg i te ti):=by
 intro pins s σ H D I h;obtain⟨v,e1,h⟩:=h;obtain⟨m,hn,hl⟩:=I.loc;have vis:AZ X.env.scope x:=by rcases hx with k|k;exact .inl k;exact .inr (.inl k)
 obtain⟨u,r,l⟩:=hl i x v hi e1 vis;refine wpAny_AugAssign_Name ?_
 have go:wpAny (model X.prog X.w) X.A (eval e X.env) (λ w s₂=>wpAny (model X.prog X.w) X.A (inplaceOp op u w) (λ r s₃=>wpAny (model X.prog X.w) X.A (storeName X.env x r) (λ _=>SP X pins D .next) X.xe s₃) X.xe s₂) X.xe s:=by
  refine b_ (he pins s σ H _ I h) λ w s1 ⟨y,H1,I1,r1,q1⟩=>?_;refine b_ (ho pins s1 σ H1 v y u w _ I1 r r1 q1) λ z s2 ⟨zv,H2,I2,r2,q2⟩=>?_;exact pE I2 hN hi hx r2 (λ s3 I3=>⟨_,H2,I3,q2⟩) hf
 rcases l with⟨hk,hm⟩|⟨hk,c,hc,hcell⟩
 . exact wpAny_loadName_local I.ok.kind hk hn hm go
 . rcases hk with hk|hk
   . exact wpAny_loadName_cell I.ok.kind hk hc hcell go
   . rcases hx with k|k
     . have:X.env.scope.names.lookup x=some .free:=hk;rw[k]at this;cases this
     . have:X.env.scope.names.lookup x=some .free:=hk;rw[k]at this;cases this
def Q8(to ti te:TE)(tget:V->V->Hp->VK->Prop)(tip:DP)(tset:CJ):TS:=λ D σ H=>to σ H λ o H1=>ti σ H1 λ i H2=>tget o i H2 λ x H3=>te σ H3 λ y H4=>tip x y H4 λ z H5=>tset o i z H5 λ H6=>D.nx σ H6
def NF(X:Cx)(t:V->V->Hp->VK->Prop):Prop:=
 ∀(pins:List (Addr×Obj)) (s:Shared) (σ:St) (H:Hp) (o i:V) (ov iv:Value) (Q:VK),Inv X pins σ H s->RelV o ov->RelV i iv->t o i H Q->
  wpAny (model X.prog X.w) X.A (getItem ov iv) (EP X pins σ Q) X.xe s
theorem MX{o i e:Expr}{to ti te:TE}{tget:V->V->Hp->VK->Prop}{tip:DP}{tset:CJ}{op:Operator}{tpos:Pos}(ho:PE X o to)(hi:PE X i ti)(hg:NF X tget)(he:PE X e te)(hp:BV X op tip)(hs:J9 X tset)
 (ha:∀ov iv new,augStore i ov iv new=(do holding [new,ov,iv] (setItem ov iv new);release [new,ov,iv] [];pure .next):=by intros;rfl):PS X (.AugAssign (.Subscript o i tpos) op e pos) (Q8 to ti te tget tip tset):=by
 intro pins s σ H D I h;refine wpAny_AugAssign_SubscriptAny (b_ (ho pins s σ H _ I h) λ ov s1 ⟨x1,H1,I1,r1,q1⟩=>?_) ha;refine b_ (hi pins s1 σ H1 _ I1 q1) λ iv s2 ⟨x2,H2,I2,r2,q2⟩=>?_;refine b_ (hg pins s2 σ H2 x1 x2 ov iv _ I2 r1 r2 q2) λ old s3 ⟨x3,H3,I3,r3,q3⟩=>?_;refine b_ (he pins s3 σ H3 _ I3 q3) λ v s4 ⟨x4,H4,I4,r4,q4⟩=>?_;refine b_ (hp pins s4 σ H4 x3 x4 old v _ I4 r3 r4 q4) λ new s5 ⟨x5,H5,I5,r5,q5⟩=>?_;exact b_ (hs pins s5 σ H5 x1 x2 x5 ov iv new _ I5 r1 r2 r5 q5) λ _ s6 ⟨H6,I6,q6⟩=>⟨σ,H6,I6,q6⟩
def D_(f:Int->Int->Int):DP:=λ x y H Q=>∃i j,x= .int i/\y= .int j/\Q (.int (f i j)) H
theorem FV:BV X .Add (D_ λ i j=>i+j):=by
 intro pins s σ H x y v u Q I r1 r2 h;obtain⟨i,j,e1,e2,q⟩:=h;subst e1;subst e2;obtain⟨t,rfl⟩:=r1;obtain⟨t',rfl⟩:=r2;exact iadd_int ⟨.int _,H,I.tok _,⟨_,rfl⟩,q⟩
theorem Nz:BV X .Sub (D_ λ i j=>i-j):=by
 intro pins s σ H x y v u Q I r1 r2 h;obtain⟨i,j,e1,e2,q⟩:=h;subst e1;subst e2;obtain⟨t,rfl⟩:=r1;obtain⟨t',rfl⟩:=r2;exact isub_int ⟨.int _,H,I.tok _,⟨_,rfl⟩,q⟩
def GO(c:TT)(tb:TS):TS:=λ D σ H=>∃W:Nat->St->Hp->Prop,(∃m,W m σ H)/\∀m σ H,W m σ H->
 c σ H λ b H1=>if b=true then∃N:St->Hp->Prop,(∀σ' H',N σ' H'->∃m',m'<m/\W m' σ' H')/\tb {D with nx:=N,ct:=N,bk:=D.nx} σ H1 else D.nx σ H1
theorem JH{c:Expr}{body:List Stmt}{tc:TT}{tb:TS}(hp:PassesOwn (model X.prog X.w) X.A X.env X.xe)(hc:PT X c tc)(hb:iK X body tb):PS X (.While c body [] pos) (GO tc tb):=by
 intro pins s σ H D I h;obtain⟨W,⟨m0,w0⟩,turn⟩:=h;refine wpAny_While (codeAny_whileLoop (λ n s'=>∃σ' H',Inv X pins σ' H' s'/\W n σ' H') ?_ m0 ⟨σ,H,I,w0⟩);rintro n s1 ⟨σ1,H1,I1,w1⟩;refine Wk hp (b_ (hc pins s1 σ1 H1 _ I1 (turn n σ1 H1 w1)) λ b s2 ⟨H2,I2,q2⟩=>?_);cases b with
 |true=>
  obtain⟨N,hN,q2⟩:=q2;rw[Ud rfl];refine Wk hp (b_ (hb pins s2 σ1 H2 _ I2 q2) λ f s3 q3=>?_);cases f with
  |next=>
   obtain⟨σ3,H3,I3,n3⟩:=q3;obtain⟨m',hm,w3⟩:=hN σ3 H3 n3;exact⟨m',hm,σ3,H3,I3,w3⟩
  |cont=>
   obtain⟨σ3,H3,I3,n3⟩:=q3;obtain⟨m',hm,w3⟩:=hN σ3 H3 n3;exact⟨m',hm,σ3,H3,I3,w3⟩
  |brk=>exact q3
  |ret v=>exact q3
 |false=>
  rw[Ub Vg];exact Xz ⟨σ1,H2,I2,q2⟩
end
structure It where
 go:Nat->Hp->Prop
 pK:Nat->Hp->V->Hp->Prop
 stop:Nat->Hp->Prop
def mN(X:Cx)(pins:List (Addr×Obj))(H:Hp)(b:Addr):Prop:=
 H b=none/\b≠X.env.locals/\b∉X.fs/\(b∈X.ex\/X.s₀.heap.objs.size<=b)/\(∀x c,X.env.cells.lookup x=some c->c≠b)/\∀p∈X.pn++pins,p.1≠b
theorem Inv.uE{X:Cx}{pins:List (Addr×Obj)}{σ:St}{H H':Hp}{s:Shared}{b:Addr}(I:Inv X pins σ H s)(hb:s.heap.objs.size<=b)(hn:H' b=none):mN X pins H' b:=by
 refine⟨hn,VX (UE I.lt hb),I.Oq hb,.inr (Uj I.sz hb),λ x c e z=>?_,λ p hp z=>?_⟩
 . obtain⟨v,q⟩:=I.cell x c e;exact absurd (UE q.lt (by rw[z];exact hb)) (U0 _)
 . exact absurd (UE (Up (I.pin p hp).1) (by rw[z];exact hb)) (U0 _)
structure Turn(P:Program)(w:World)(K:PySem.W.Frag)(tg:Expr)(J:It)(fp:List Addr)(it:Addr)(tn:Nat->Heap->Prop):Prop where
 mem:it∈fp
 obj:∀i h,tn i h->∀b∈fp,∃o,h.get? b=some o/\∀v,o.data≠ .cell v
 keep:∀i h h',tn i h->(∀b∈fp,∀o,h.get? b=some o->h'.get? b=some o)->tn i h'
 item:∀(X:Cx),X.prog=P->X.w=w->X.K=K->X.calm=true->∀(i:Nat) (pins:List (Addr×Obj)) (s:Shared) (σ:St) (H:Hp) (E:Value->Shared->Prop),Inv X pins σ H s->(∀b∈fp,mN X pins H b)->tn i s.heap->J.go i H->
  wpAny (model P w) X.A (pyNext (.ref it)) (λ r s1=>∃u,r=some u/\
   wpAny (model P w) X.A (letOwnedTupleGo tg (.ref it) u) (λ _ s2=>∃x H',Inv X pins σ H' s2/\RelV x u/\J.pK i H x H'/\tn (i+1) s2.heap/\∀b∈fp,H' b=none) E s1) E s
 done:∀(X:Cx),X.prog=P->X.w=w->X.K=K->X.calm=true->∀(i:Nat) (pins:List (Addr×Obj)) (s:Shared) (σ:St) (H:Hp) (E:Value->Shared->Prop),Inv X pins σ H s->(∀b∈fp,mN X pins H b)->tn i s.heap->J.stop i H->
  wpAny (model P w) X.A (pyNext (.ref it)) (λ r s1=>r=none/\Inv X pins σ H s1) E s
 self:∀(A:Around) (i:Nat) (s:Shared) (Q:Value->Shared->Prop) (E:Value->Shared->Prop),tn i s.heap->Q (.ref it) s->wpAny (model P w) A (pyIter (.ref it)) Q E s
abbrev TI:=St->Hp->(It->Hp->Prop)->Prop
def Kj(X:Cx)(pins:List (Addr×Obj))(σ:St)(tg:Expr)(R:It->Hp->Prop)(itv:Value)(s2:Shared):Prop:=
 ∃(it:Addr) (fp:List Addr) (tn:Nat->Heap->Prop) (J:It) (H':Hp),itv= .ref it/\Inv X pins σ H' s2/\Turn X.prog X.w X.K tg J fp it tn/\tn 0 s2.heap/\(∀b∈fp,mN X pins H' b)/\R J H'
def PI(X:Cx)(tg iter:Expr)(wi:TI):Prop:=
 ∀(pins:List (Addr×Obj)) (s:Shared) (σ:St) (H:Hp) (R:It->Hp->Prop),Inv X pins σ H s->wi σ H R->
  wpAny (model X.prog X.w) X.A (eval iter X.env) (λ v s1=>wpAny (model X.prog X.w) X.A (pyIter v) (Kj X pins σ tg R) X.xe s1) X.xe s
theorem AB{M:Model}{A:Around}{E:Value->Shared->Prop}{s:Shared}{tg:Expr}{it:Addr}{u:Value}{o:Obj}{n:String}{vs:Array Value}{Q:Unit->Shared->Prop}(ho:s.heap.get? it=some o)(hc:o.cls= .type n)(hd:o.data= .fields vs)
 (hn: ["enumerate","zip","dict_itemiterator","dict_reverseitemiterator","odict_iterator","itertools.zip_longest","itertools.pairwise"].contains n=false) (hQ:Q () s):wpAny M A (letOwnedTupleGo tg (.ref it) u) Q E s:=by
 unfold letOwnedTupleGo
 cases tg<;>first
  |exact Ul hQ
  |(cases u<;>first
     |exact Ul hQ
     |(refine T_ (wpAny_load ho ?_)
       rw[hc,hd];show wpAny M A (if(["enumerate","zip","dict_itemiterator","dict_reverseitemiterator","odict_iterator","itertools.zip_longest","itertools.pairwise"].contains n&&vs[0]?==some (rawInt _))=true then _ else _) Q E s;rw[Ub (by intro h;rw[hn,Bool.false_and]at h;cases h)];exact Ul hQ))
def NB(K:PySem.W.Frag)(a:Addr):It:=
 ⟨λ i H=>∃xs x,nP K H a xs/\xs[i]?=some x,λ i H x H'=>H'=H/\∀xs,nP K H a xs->xs[i]?=some x,λ i H=>∃xs,nP K H a xs/\xs.length<=i⟩
def Qb(K:PySem.W.Frag)(a:Addr):It:=
 ⟨λ i H=>∃xs x,jH K H a xs/\xs[i]?=some x,λ i H x H'=>H'=H/\∀xs,jH K H a xs->xs[i]?=some x,λ i H=>∃xs,jH K H a xs/\xs.length<=i⟩
def zF(lo:Int)(n:Nat):It:=⟨λ i _=>i<n,λ i H x H'=>H'=H/\x= .int (lo+i),λ i _=>n<=i⟩
theorem F7{P:Program}{w:World}{K:PySem.W.Frag}{tg:Expr}(a it:Addr):Turn P w K tg (NB K a) [it] it (λ i h=>h.IsListIter it a i) where
 mem:=by simp
 obj:=λ i h st b hb=>by
  have e:b=it:=by simpa using hb
  subst e;obtain⟨o,e,c,d⟩:=st;exact⟨o,e,λ v z=>by rw[d]at z;cases z⟩
 keep:=λ i h h' st k=>st.at λ o e=>k it (by simp) o e
 item:=by
  intro X hP hw hK hc i pins s σ H E I hf st hg;subst hP hw hK;obtain⟨xs,x,hq,hx⟩:=hg;obtain⟨its,rv,p,hz⟩:=I.list hq;obtain⟨u,hu,ru⟩:=rv.get hx;obtain⟨f0,f1,f2,f3,f4,f5⟩:=hf it (by simp);refine wpAny_pyNext_list_item st p.isList (x:=u) (by simpa using hu) λ h' st' sb=>?_;have I1:Inv X pins σ H {s with heap:=h'}:=I.turned (t':=s.toks) (λ b o hb e=>(sb.2 b hb).trans e) f0 f1 f3 f4 f5;obtain⟨o,e,c,d⟩:=id st';exact⟨u,rfl,AB (s:={s with heap:=h'}) e c d (by decide) ⟨x,H,I1,ru,⟨rfl,λ ys hy=>by rw[I.B6 hy hq];exact hx⟩,st',λ b hb=>(hf b hb).1⟩⟩
 done:=by
  intro X hP hw hK hc i pins s σ H E I hf st hg;subst hP hw hK;obtain⟨xs,hq,hx⟩:=hg;obtain⟨its,rv,p,hz⟩:=I.list hq;obtain⟨f0,f1,f2,f3,f4,f5⟩:=hf it (by simp);have hl:=rv.length;exact wpAny_pyNext_list_end (I.ok.hd hc) st p.isList (by simp;omega) λ h' eb=>⟨rfl,I.turned (t':=s.toks) (λ b o hb e=>eb b o hb e) f0 f1 f3 f4 f5⟩
 self:=λ _ _ _ _ _ st h=>wpAny_pyIter_listiter st h
theorem EG{P:Program}{w:World}{K:PySem.W.Frag}{tg:Expr}(a it:Addr):Turn P w K tg (Qb K a) [it] it (λ i h=>h.IsTupleIter it a i) where
 mem:=by simp
 obj:=λ i h st b hb=>by
  have e:b=it:=by simpa using hb
  subst e;obtain⟨o,e,c,d⟩:=st;exact⟨o,e,λ v z=>by rw[d]at z;cases z⟩
 keep:=λ i h h' st k=>st.at λ o e=>k it (by simp) o e
 item:=by
  intro X hP hw hK hc i pins s σ H E I hf st hg;subst hP hw hK;obtain⟨xs,x,hq,hx⟩:=hg;obtain⟨its,rv,p,hz⟩:=I.tuple hq;obtain⟨u,hu,ru⟩:=rv.get hx;obtain⟨f0,f1,f2,f3,f4,f5⟩:=hf it (by simp);refine wpAny_pyNext_tuple_item st (show s.heap.IsTuple a its.toArray from p) (x:=u) (by simpa using hu) λ h' st' sb=>?_;have I1:Inv X pins σ H {s with heap:=h'}:=I.turned (t':=s.toks) (λ b o hb e=>(sb.2 b hb).trans e) f0 f1 f3 f4 f5;obtain⟨o,e,c,d⟩:=id st';exact⟨u,rfl,AB (s:={s with heap:=h'}) e c d (by decide) ⟨x,H,I1,ru,⟨rfl,λ ys hy=>by rw[I.zm hy hq];exact hx⟩,st',λ b hb=>(hf b hb).1⟩⟩
 done:=by
  intro X hP hw hK hc i pins s σ H E I hf st hg;subst hP hw hK;obtain⟨xs,hq,hx⟩:=hg;obtain⟨its,rv,p,hz⟩:=I.tuple hq;obtain⟨f0,f1,f2,f3,f4,f5⟩:=hf it (by simp);have hl:=rv.length;exact wpAny_pyNext_tuple_end (I.ok.hd hc) st (show s.heap.IsTuple a its.toArray from p) (by simp;omega) λ h' eb=>⟨rfl,I.turned (t':=s.toks) (λ b o hb e=>eb b o hb e) f0 f1 f3 f4 f5⟩
 self:=λ _ _ _ _ _ st h=>wpAny_pyIter_tupleiter st h
theorem Ej{P:Program}{w:World}{K:PySem.W.Frag}{tg:Expr}(it:Addr)(lo:Int)(n:Nat):Turn P w K tg (zF lo n) [it] it (λ i h=>IsRangeIter h it (lo+(i:Nat)*1) ((n:Int)-(i:Nat)) 1) where
 mem:=by simp
 obj:=λ i h st b hb=>by
  have e:b=it:=by simpa using hb
  subst e
  exact⟨_,st,λ v z=>by
   have z':Data.fields _=Data.cell v:=z;cases z'⟩
 keep:=λ i h h' st k=>k it (by simp) _ st
 item:=by
  intro X hP hw hK hc i pins s σ H E I hf st hg;subst hP hw hK;obtain⟨f0,f1,f2,f3,f4,f5⟩:=hf it (by simp);have W:=Walks.range (prog:=X.prog) (w:=X.w) (I.ok.hd hc) it lo 1 n;refine W.item i s _ _ hg st λ v h' tk hv st' kk=>?_;obtain⟨t,rfl⟩:=hv;have I1:Inv X pins σ H {s with heap:=h',toks:=tk}:=I.turned (λ b o hb e=>kk b o (by simpa using hb) e) f0 f1 f3 f4 f5;refine⟨_,rfl,AB (s:={s with heap:=h',toks:=tk}) (n:="range_iterator") st' rfl rfl (by decide) ⟨.int (lo+i),H,I1,⟨t,?_⟩,⟨rfl,rfl⟩,st',λ b hb=>(hf b hb).1⟩⟩;rw[Int.mul_one]
 done:=by
  intro X hP hw hK hc i pins s σ H E I hf st hg;subst hP hw hK;obtain⟨f0,f1,f2,f3,f4,f5⟩:=hf it (by simp);exact YC (I.ok.hd hc) st (by have:n<=i:=hg;omega) λ h' eb=>⟨rfl,I.turned (t':=s.toks) (λ b o hb e=>eb b o hb e) f0 f1 f3 f4 f5⟩
 self:=λ _ _ _ _ _ st h=>YD st h
section
variable {X:Cx}{tg:Expr}
theorem AN{pins:List (Addr×Obj)}{σ:St}{H:Hp}{s:Shared}{R:It->Hp->Prop}{E:Value->Shared->Prop}{lo hi:Int}{t u v:Tok}{tk:Nat}(I:Inv X pins σ H s)(h1: -(2^62)<=lo)(h2:lo<2^62)(h3: -(2^62)<=hi)(h4:hi<2^62)
 (q:R (zF lo (hi-lo).toNat) H):wpAny (model X.prog X.w) X.A (pyIter (.ref s.heap.objs.size)) (Kj X pins σ tg R) E {s with heap:=s.heap.push {cls:= .type "range",data:= .fields #[.int lo t,.int hi u,.int 1 v]},toks:=tk}:=by
 refine wpAny_pyIter_range (IsRange.new ..) (small_one h1 h2 h3 h4) ?_;have I1:Inv X pins σ H {s with heap:=s.heap.push {cls:= .type "range",data:= .fields #[.int lo t,.int hi u,.int 1 v]},toks:=tk}:=I.kept λ b o e=>Uc _ e
 refine⟨(s.heap.push {cls:= .type "range",data:= .fields #[.int lo t,.int hi u,.int 1 v]}).objs.size,[(s.heap.push {cls:= .type "range",data:= .fields #[.int lo t,.int hi u,.int 1 v]}).objs.size],_,_,H,rfl,
  I1.kept (t':=tk) λ b o e=>Uc _ e,Ej _ lo (hi-lo).toNat,?_,λ b hb=>?_,q⟩
 . have e1:lo+((0:Nat):Int)*1=lo:=by simp
   have e2:(((hi-lo).toNat:Nat):Int)-((0:Nat):Int)=Builtin.Range.rangeSize lo hi 1:=by rw[rangeSize_one];split<;>omega
   show IsRangeIter _ _ (lo+((0:Nat):Int)*1) ((((hi-lo).toNat:Nat):Int)-((0:Nat):Int)) 1;rw[e1,e2];exact Ut _ rfl
 . have e:b=(s.heap.push {cls:= .type "range",data:= .fields #[.int lo t,.int hi u,.int 1 v]}).objs.size:=by simpa using hb
   subst e;exact I1.uE (Ue _) (I1.aO.fresh (Ue _))
def FF(ta:TA):TI:=λ σ H R=>ta σ H λ vs H1=>∃j:Int,vs=[.int j]/\ -(2^62)<=j/\j<2^62/\R (zF 0 j.toNat) H1
def EX(ta:TA):TI:=λ σ H R=>ta σ H λ vs H1=>∃i j:Int,vs=[.int i,.int j]/\(-(2^62)<=i/\i<2^62/\ -(2^62)<=j/\j<2^62)/\R (zF i (j-i).toNat) H1
theorem G8{a:Expr}{ta:TA}{p pos:Pos}(hg:Gl X "range")(hm:X.mg "range"=none)(ha:PA X [a] ta)(hs:starEach [a] X.env=[(false,eval a X.env)]:=by rfl):PI X tg (.Call (.Name "range" p) [a] [] pos) (FF ta):=by
 intro pins s σ H R I h;refine Call_ (kB I hg hm boot_range (Vr (b_ (ha pos pins s σ H _ I h) λ us s1 ⟨vs,H1,I1,r1,q1⟩=>?_) hs rfl));obtain⟨j,e,q1,q2,q⟩:=q1;subst e;cases r1 with
 |cons r rr=>
  cases rr;obtain⟨t,rfl⟩:=r;exact call_range_1 (AN I1 (by omega) (by omega) q1 q2 (by simpa using q))
theorem Hl{a b:Expr}{ta:TA}{p pos:Pos}(hg:Gl X "range")(hm:X.mg "range"=none)(ha:PA X [a,b] ta)(hs:starEach [a,b] X.env=[(false,eval a X.env),(false,eval b X.env)]:=by rfl)(hs2:starEach [b] X.env=[(false,eval b X.env)]:=by rfl):
 PI X tg (.Call (.Name "range" p) [a,b] [] pos) (EX ta):=by
 intro pins s σ H R I h;refine Call_ (kB I hg hm boot_range (Vr (b_ (ha pos pins s σ H _ I h) λ us s1 ⟨vs,H1,I1,r1,q1⟩=>?_) (by rw[hs,hs2]) (by rw[hs2];rfl)));obtain⟨i,j,e,⟨q1,q2,q3,q4⟩,q⟩:=q1;subst e;cases r1 with
 |cons r rr=>
  cases rr with
  |cons r' rr=>
   cases rr;obtain⟨t,rfl⟩:=r;obtain⟨t',rfl⟩:=r';exact call_range_2 (AN I1 q1 q2 q3 q4 q)
def OT(wi:TI)(g:TG)(tb:TS):TS:=λ D σ H=>wi σ H λ J H1=>∃W:Nat->Nat->St->Hp->Prop,(∃m,W 0 m σ H1)/\∀i m σ H,W i m σ H->
 (J.stop i H/\D.nx σ H)\/(J.go i H/\∃N:St->Hp->Prop,(∀σ' H',N σ' H'->∃m',m'<m/\W (i+1) m' σ' H')/\∀x H',J.pK i H x H'->g x σ H' λ σ2 H2=>tb {D with nx:=N,ct:=N,bk:=D.nx} σ2 H2)
def uN(fp:List Addr)(h:Heap):List (Addr×Obj):=fp.filterMap λ b=>(h.get? b).map λ o=>(b,o)
theorem oz{fp:List Addr}{h:Heap}{b:Addr}{o:Obj}(hb:b∈fp)(e:h.get? b=some o):(b,o)∈uN fp h:=W4.mpr ⟨b,hb,by rw[e];rfl⟩
theorem HF{fp:List Addr}{h:Heap}{p:Addr×Obj}(hp:p∈uN fp h):p.1∈fp/\h.get? p.1=some p.2:=by
 obtain⟨b,hb,e⟩:=W4.mp hp;cases q:h.get? b with
 |none=>rw[q]at e;cases e
 |some o=>
  rw[q]at e;have e':(b,o)=p:=U6 e;subst e';exact⟨hb,q⟩
theorem Inv.pinned{pins:List (Addr×Obj)}{σ:St}{H:Hp}{s:Shared}{fp:List Addr}(I:Inv X pins σ H s)(hf:∀b∈fp,mN X pins H b)(ho:∀b∈fp,∃o,s.heap.get? b=some o/\∀v,o.data≠ .cell v):Inv X (pins++uN fp s.heap) σ H s:=
 I.vg λ p hp=>(UM.mp hp).elim (λ z=>I.pin p (Uy _ z)) λ z=>by
  obtain⟨hb,e⟩:=HF z;obtain⟨f0,f1,f2,_⟩:=hf p.1 hb;obtain⟨o,e',d⟩:=ho p.1 hb;rw[e]at e';cases e';exact⟨e,f0,f1,f2,d⟩
theorem Inv.iQ{pins pl:List (Addr×Obj)}{σ:St}{H:Hp}{s:Shared}(I:Inv X (pins++pl) σ H s):Inv X pins σ H s:=I.vg λ p hp=>I.pin p (Uy _ (VG _ hp))
theorem N7{iter:Expr}{body:List Stmt}{wi:TI}{g:TG}{tb:TS}{pos:Pos}(hp:PassesOwn (model X.prog X.w) X.A X.env X.xe)(hc:X.calm=true)(hi:PI X tg iter wi)(hg:PG X tg g)(hb:iK X body tb)
 (hs:∀x,foldedSetIterable iter X.env x=pure x:=by intro _;rfl):PS X (.For tg iter body [] pos) (OT wi g tb):=by
 intro pins s σ H D I h;refine wpAny_For (b_ (hi pins s σ H _ I h) λ v s1 h1=>b_ h1 λ itv s2 h2=>?_) hs;obtain⟨it,fp,tn,J,H2,e,I2,T,st2,f2,W,⟨m0,w0⟩,turn⟩:=h2;subst e;have stat:∀ {H':Hp},(∀b∈fp,H' b=none)->∀b∈fp,mN X pins H' b:=λ hn b hb=>⟨hn b hb,(f2 b hb).2⟩
 refine codeAny_forLoop_any (λ n s'=>∃i σ' H',Inv X pins σ' H' s'/\tn i s'.heap/\(∀b∈fp,H' b=none)/\W i n σ' H') ?_ m0 ⟨0,σ,H2,I2,st2,λ b hb=>(f2 b hb).1,w0⟩;rintro n s3 ⟨i,σ3,H3,I3,st3,fr3,w3⟩;rcases turn i n σ3 H3 w3 with⟨stop,qn⟩|⟨go,N,hN,step⟩
 . refine Wk hp (b_ (T.done X rfl rfl rfl hc i pins s3 σ3 H3 X.xe I3 (stat fr3) st3 stop) λ r s4 ⟨hr,I4⟩=>?_);subst hr;exact Xz ⟨σ3,H3,I4,qn⟩
 . refine Wk hp (b_ (T.item X rfl rfl rfl hc i pins s3 σ3 H3 X.xe I3 (stat fr3) st3 go) λ r s4 ⟨u,hr,h4⟩=>?_);subst hr;refine Wk hp (b_ h4 λ _ s5 ⟨x,H5,I5,r5,y5,st5,fr5⟩=>?_);have I5':=I5.pinned (stat fr5) (T.obj _ _ st5);refine Wk hp (b_ (hg _ s5 σ3 H5 x u _ I5' r5 (step x H5 y5)) λ _ s6 ⟨σ6,H6,I6,q6⟩=>?_);refine Wk hp (b_ (hb _ s6 σ6 H6 _ I6 q6) λ f s7 q7=>?_)
   have again:∀ {σ7:St} {H7:Hp},Inv X (pins++uN fp s5.heap) σ7 H7 s7->N σ7 H7->∃m,m<n/\∃i σ' H',Inv X pins σ' H' s7/\tn i s7.heap/\(∀b∈fp,H' b=none)/\W i m σ' H':=λ{σ7 H7} I7 n7=>by
    obtain⟨m',hm,w7⟩:=hN σ7 H7 n7;refine⟨m',hm,i+1,σ7,H7,I7.iQ,T.keep _ _ _ st5 λ b hb o e=>(I7.pin (b,o) (Uy _ (Uy _ (oz hb e)))).1,λ b hb=>?_,w7⟩;obtain⟨o,e,d⟩:=T.obj _ _ st5 b hb;exact(I7.pin (b,o) (Uy _ (Uy _ (oz hb e)))).2.1
   cases f with
   |next=>obtain⟨σ7,H7,I7,n7⟩:=q7;exact again I7 n7
   |cont=>obtain⟨σ7,H7,I7,n7⟩:=q7;exact again I7 n7
   |brk=>obtain⟨σ7,H7,I7,q7⟩:=q7;exact⟨σ7,H7,I7.iQ,q7⟩
   |ret v=>obtain⟨x7,σ7,H7,I7,r7,q7⟩:=q7;exact⟨x7,σ7,H7,I7.iQ,r7,q7⟩
end
theorem jX{lo:Int}{n:Nat}{g:TG}{tb:TS}{D:Ends}{σ:St}{H:Hp}(Pv:Nat->St->Hp->Prop)(h0:Pv 0 σ H)
 (hs:∀i σ H,i<n->Pv i σ H->g (.int (lo+i)) σ H λ σ2 H2=>tb {D with nx:=Pv (i+1),ct:=Pv (i+1),bk:=D.nx} σ2 H2) (hd:∀σ H,Pv n σ H->D.nx σ H):
 ∃W:Nat->Nat->St->Hp->Prop,(∃m,W 0 m σ H)/\∀i m σ H,W i m σ H->
  ((zF lo n).stop i H/\D.nx σ H)\/((zF lo n).go i H/\∃N:St->Hp->Prop,(∀σ' H',N σ' H'->∃m',m'<m/\W (i+1) m' σ' H')/\∀x H',(zF lo n).pK i H x H'->g x σ H' λ σ2 H2=>tb {D with nx:=N,ct:=N,bk:=D.nx} σ2 H2):=by
 refine⟨λ i m σ H=>m=n-i/\i<=n/\Pv i σ H,⟨n,by simp,UK _,h0⟩,?_⟩;rintro i m σ H ⟨rfl,hi,p⟩;by_cases hlt:i<n
 . refine .inr ⟨hlt,Pv (i+1),λ σ' H' p'=>⟨n-(i+1),by omega,rfl,hlt,p'⟩,λ x H' y=>?_⟩;obtain⟨e,y⟩:=y;subst e y;exact hs i σ _ hlt p
 . have e:i=n:=by omega
   subst e;exact .inl ⟨Ue _,hd σ H p⟩
abbrev R2:=V->V->Hp->VK->Prop
def cp(X:Cx)(f:Value->Value->Sem Value)(r:R2):Prop:=
 ∀(pins:List (Addr×Obj)) (s:Shared) (σ:St) (H:Hp) (x y:V) (v u:Value) (Q:VK),Inv X pins σ H s->RelV x v->RelV y u->r x y H Q->
  wpAny (model X.prog X.w) X.A (f v u) (EP X pins σ Q) X.xe s
def DQ(X:Cx)(f:Value->Sem Value)(r:V->Hp->VK->Prop):Prop:=
 ∀(pins:List (Addr×Obj)) (s:Shared) (σ:St) (H:Hp) (x:V) (v:Value) (Q:VK),Inv X pins σ H s->RelV x v->r x H Q->
  wpAny (model X.prog X.w) X.A (f v) (EP X pins σ Q) X.xe s
def cO(X:Cx)(f:Value)(r:List V->Hp->VK->Prop):Prop:=
 ∀(pins:List (Addr×Obj)) (s:Shared) (σ:St) (H:Hp) (xs:List V) (us:List Value) (Q:VK),Inv X pins σ H s->Vals xs us->r xs H Q->
  wpAny (model X.prog X.w) X.A (call f us) (EP X pins σ Q) X.xe s
def H_(r:R2)(ta tb:TE):TE:=λ σ H Q=>ta σ H λ x H1=>tb σ H1 λ y H2=>r x y H2 Q
def RT(r:V->Hp->VK->Prop)(ta:TE):TE:=λ σ H Q=>ta σ H λ x H1=>r x H1 Q
def rI(C:Int->Int->Prop)(g:Int->Int->V):R2:=λ x y H Q=>∃i j,x= .int i/\y= .int j/\C i j/\Q (g i j) H
def zl(g:Int->Int->V):R2:=λ x y H Q=>∃i j,x= .int i/\y= .int j/\Q (g i j) H
def rU(g:Int->V):V->Hp->VK->Prop:=λ x H Q=>∃i,x= .int i/\Q (g i) H
section
variable {X:Cx}{a b c:Expr}{ta tb tc:TE}{pos:Pos}
theorem Jk(ha:PE X a ta)(hb:PE X b tb){pins:List (Addr×Obj)}{s:Shared}{σ:St}{H:Hp}{R:V->V->Hp->Prop}(I:Inv X pins σ H s)
 (h:ta σ H λ x H1=>tb σ H1 λ y H2=>R x y H2) {Q:Value->Shared->Prop} {f:Value->Value->Sem Value}
 (hf:∀v u s2 x y H2,Inv X pins σ H2 s2->RelV x v->RelV y u->R x y H2->wpAny (model X.prog X.w) X.A (f v u) Q X.xe s2):
 wpAny (model X.prog X.w) X.A (eval a X.env) (λ v s₁=>wpAny (model X.prog X.w) X.A (eval b X.env) (λ u s₂=>wpAny (model X.prog X.w) X.A (f v u) Q X.xe s₂) X.xe s₁) X.xe s:=by
 refine b_ (ha pins s σ H _ I h) λ v s1 ⟨x,H1,I1,r1,q1⟩=>?_;refine b_ (hb pins s1 σ H1 _ I1 q1) λ u s2 ⟨y,H2,I2,r2,q2⟩=>?_;exact hf v u s2 x y H2 I2 r1 r2 q2
theorem Qq{op:Operator}{r:R2}(ho:cp X (binaryOp op) r)(ha:PE X a ta)(hb:PE X b tb):PE X (.BinOp a op b pos) (H_ r ta tb):=by
 intro pins s σ H Q I h;exact wpAny_BinOp (Jk ha hb I h λ v u s2 x y H2 I2 rx ry q=>ho pins s2 σ H2 x y v u Q I2 rx ry q)
theorem RB{op:UnaryOp}{r:V->Hp->VK->Prop}(ho:DQ X (unaryOp op) r)(ha:PE X a ta):PE X (.UnaryOp op a pos) (RT r ta):=by
 intro pins s σ H Q I h;exact UnaryOp_ (b_ (ha pins s σ H _ I h) λ v s1 ⟨x,H1,I1,r1,q1⟩=>ho pins s1 σ H1 x v Q I1 r1 q1)
theorem J_{f:Value->Value->Sem Value}{C:Int->Int->Prop}{g:Int->Int->Int}
 (rule:∀(i j:Int) (t u:Tok) (s:Shared) (Q:Value->Shared->Prop) (E:Value->Shared->Prop),C i j->Q (.int (g i j) s.toks) {s with toks:=s.toks+1}->wpAny (model X.prog X.w) X.A (f (.int i t) (.int j u)) Q E s):
 cp X f (rI C λ i j=> .int (g i j)):=by
 intro pins s σ H x y v u Q I rx ry h;obtain⟨i,j,rfl,rfl,hc,q⟩:=h;obtain⟨t,rfl⟩:=rx;obtain⟨t',rfl⟩:=ry;exact rule i j t t' s _ _ hc ⟨.int (g i j),H,I.tok _,⟨_,rfl⟩,q⟩
theorem Pu{f:Value->Value->Sem Value}{g:Int->Int->Int}
 (rule:∀(i j:Int) (t u:Tok) (s:Shared) (Q:Value->Shared->Prop) (E:Value->Shared->Prop),Q (.int (g i j) s.toks) {s with toks:=s.toks+1}->wpAny (model X.prog X.w) X.A (f (.int i t) (.int j u)) Q E s):
 cp X f (zl λ i j=> .int (g i j)):=by
 intro pins s σ H x y v u Q I rx ry h;obtain⟨i,j,rfl,rfl,q⟩:=h;obtain⟨t,rfl⟩:=rx;obtain⟨t',rfl⟩:=ry;exact rule i j t t' s _ _ ⟨.int (g i j),H,I.tok _,⟨_,rfl⟩,q⟩
theorem Ja{f:Value->Value->Sem Value}{g:Int->Int->Bool}
 (rule:∀(i j:Int) (t u:Tok) (s:Shared) (Q:Value->Shared->Prop) (E:Value->Shared->Prop),Q (.bool (g i j)) s->wpAny (model X.prog X.w) X.A (f (.int i t) (.int j u)) Q E s):
 cp X f (zl λ i j=> .bl (g i j)):=by
 intro pins s σ H x y v u Q I rx ry h;obtain⟨i,j,rfl,rfl,q⟩:=h;obtain⟨t,rfl⟩:=rx;obtain⟨t',rfl⟩:=ry;exact rule i j t t' s _ _ ⟨.bl (g i j),H,I,rfl,q⟩
def Ih(i j:Int):Prop:=0<=j/\j<=1000000/\i.natAbs<2^64
theorem PX:cp X (binaryOp .Add) (zl λ i j=> .int (i+j)):=Pu λ _ _ _ _ _ _ _ q=>add_int q
theorem Qa:cp X (binaryOp .Sub) (zl λ i j=> .int (i-j)):=Pu λ _ _ _ _ _ _ _ q=>sub_int q
theorem MB:cp X (binaryOp .Mod) (rI (λ _ j=>j≠0) λ i j=> .int (i.fmod j)):=J_ λ _ _ _ _ _ _ _ hc q=>mod_int' hc q
theorem OR:cp X (binaryOp .Pow) (rI Ih λ i j=> .int (i^j.toNat)):=J_ λ _ _ _ _ _ _ _ hc q=>pow_int_small hc.1 hc.2.1 hc.2.2 q
theorem T6{f:Value->Sem Value}{g:Int->Int}
 (rule:∀(i:Int) (t:Tok) (s:Shared) (Q:Value->Shared->Prop) (E:Value->Shared->Prop),Q (.int (g i) s.toks) {s with toks:=s.toks+1}->wpAny (model X.prog X.w) X.A (f (.int i t)) Q E s):
 DQ X f (rU λ i=> .int (g i)):=by
 intro pins s σ H x v Q I rx h;obtain⟨i,rfl,q⟩:=h;obtain⟨t,rfl⟩:=rx;exact rule i t s _ _ ⟨.int (g i),H,I.tok _,⟨_,rfl⟩,q⟩
theorem PH:DQ X (unaryOp .USub) (rU λ i=> .int (-i)):=T6 λ _ _ _ _ _ q=>neg_int q
end
def SI:V->V->Bool
 | .aF,.aF=>true| .aF,.int _=>true| .int _,.aF=>true| .aF,.bl _=>true| .bl _,.aF=>true| .aF,.str _=>true| .str _,.aF=>true
 | .int _,.int _=>true| .bl _,.bl _=>true| .str _,.str _=>true| .vR _,.vR _=>true
 | .int _,.str _=>true| .str _,.int _=>true| .bl _,.str _=>true| .str _,.bl _=>true
 |_,_=>false
def TK:R2:=λ x y H Q=>SI x y=true/\Q (.bl (!decide (x=y))) H
theorem LZ{i j:Int}:decide (V.int i=V.int j)=(i==j):=by
 rw[XA];simp
theorem NA{i j:Bool}:decide (V.bl i=V.bl j)=(i==j):=by
 rw[XA];simp
theorem Ls{i j:Str}:decide (V.str i=V.str j)=(i==j):=by
 rw[XA];simp
theorem MH{i j:Array UInt8}:decide (V.vR i=V.vR j)=(i.toList==j.toList):=by
 rw[XA];cases i;cases j;simp
section
variable {X:Cx}{a b c:Expr}{ta tb tc:TE}{pos:Pos}
theorem fP{pins:List (Addr×Obj)}{σ:St}{H:Hp}{s:Shared}{Q:VK}{k k':Bool}(I:Inv X pins σ H s)(q:Q (.bl k) H)(e:k=k'):EP X pins σ Q (.bool k') s:=by
 subst e;exact⟨.bl k,H,I,rfl,q⟩
theorem Ro:cp X (compareOp .NotEq) TK:=by
 intro pins s σ H x y v u Q I rx ry h;obtain⟨hs,q⟩:=h;cases x with
 |aF=>
  cases rx;cases y with
  |aF=>cases ry;exact PySem.EqNone.ne_none_none (fP I q (by simp))
  |bl j=>cases ry;exact PySem.EqNone.ne_none_bool (fP I q (by simp))
  |int j=>obtain⟨t',rfl⟩:=ry;exact PySem.EqNone.ne_none_int (fP I q (by simp))
  |str j=>obtain⟨t',rfl⟩:=ry;exact PySem.EqNone.ne_none_str (fP I q (by simp))
  |_=>exact absurd (show false=true from hs) Vg
 |bl i=>
  cases rx;cases y with
  |aF=>cases ry;exact PySem.EqNone.ne_bool_none (fP I q (by simp))
  |bl j=>cases ry;exact ne_bool (fP I q (VH not NA))
  |str j=>obtain⟨t',rfl⟩:=ry;exact PySem.EqMixed.ne_bool_str (fP I q (by simp))
  |_=>exact absurd (show false=true from hs) Vg
 |int i=>
  obtain⟨t,rfl⟩:=rx;cases y with
  |aF=>cases ry;exact PySem.EqNone.ne_int_none (fP I q (by simp))
  |int j=>obtain⟨t',rfl⟩:=ry;exact ne_int (fP I q (VH not LZ))
  |str j=>obtain⟨t',rfl⟩:=ry;exact PySem.EqMixed.ne_int_str (fP I q (by simp))
  |_=>exact absurd (show false=true from hs) Vg
 |str i=>
  obtain⟨t,rfl⟩:=rx;cases y with
  |aF=>cases ry;exact PySem.EqNone.ne_str_none (fP I q (by simp))
  |bl j=>cases ry;exact PySem.EqMixed.ne_str_bool (fP I q (by simp))
  |int j=>obtain⟨t',rfl⟩:=ry;exact PySem.EqMixed.ne_str_int (fP I q (by simp))
  |str j=>obtain⟨t',rfl⟩:=ry;exact ne_str (fP I q (VH not Ls))
  |_=>exact absurd (show false=true from hs) Vg
 |vR i=>
  obtain⟨t,rfl⟩:=rx;cases y with
  |vR j=>obtain⟨t',rfl⟩:=ry;exact PySem.W.ne_bytes (fP I q (VH not MH))
  |_=>exact absurd (show false=true from hs) Vg
 |_=>cases y<;>exact absurd (show false=true from hs) Vg
theorem Q5:cp X (compareOp .Lt) (zl λ i j=> .bl (decide (i<j))):=Ja λ _ _ _ _ _ _ _ q=>lt_int q
theorem Qy:cp X (compareOp .Gt) (zl λ i j=> .bl (decide (j<i))):=Ja λ _ _ _ _ _ _ _ q=>gt_int q
theorem Rz:cp X (compareOp .GtE) (zl λ i j=> .bl (decide (j<=i))):=Ja λ _ _ _ _ _ _ _ q=>ge_int q
theorem NS:cp X (compareOp .Is) (λ x y H Q=>y= .aF/\Q (.bl (decide (x= .aF))) H):=by
 intro pins s σ H x y v u Q I rx ry h;obtain⟨rfl,q⟩:=h;cases ry;refine is_none_gen (fP I q ?_)
 cases x<;>first
  |(cases rx;rfl)
  |(obtain⟨t,rfl⟩:=rx;rfl)
theorem Mp:cp X (compareOp .IsNot) (λ x y H Q=>y= .aF/\Q (.bl (!decide (x= .aF))) H):=by
 intro pins s σ H x y v u Q I rx ry h;obtain⟨rfl,q⟩:=h;cases ry;refine isnot_none_gen (fP I q ?_)
 cases x<;>first
  |(cases rx;rfl)
  |(obtain⟨t,rfl⟩:=rx;rfl)
theorem cJ(b:Expr){op:CmpOp}(h:op≠ .In:=by decide)(h2:op≠ .NotIn:=by decide):behindInMarks op b=false:=by
 have e1:(op==CmpOp.In)=false:=by cases op<;>first|rfl|exact absurd rfl h
 have e2:(op==CmpOp.NotIn)=false:=by cases op<;>first|rfl|exact absurd rfl h2
 cases b<;>simp[behindInMarks,e1,e2]
theorem Nf{op:CmpOp}{r:R2}(ho:cp X (compareOp op) r)(ha:PE X a ta)(hb:PE X b tb)(hm:behindInMarks op b=false):PE X (.Compare a [op] [b] pos) (H_ r ta tb):=by
 intro pins s σ H Q I h;exact wpAny_Compare1 (Jk ha hb I h λ v u s2 x y H2 I2 rx ry q=>ho pins s2 σ H2 x y v u Q I2 rx ry q) hm
def RC(t:TE):TT:=λ σ H Q=>t σ H λ x H'=>∃k,x= .bl k/\Q k H'
theorem Lo{op:CmpOp}{r:R2}(ho:cp X (compareOp op) r)(ha:PE X a ta)(hb:PE X b tb)(hm:behindInMarks op b=false):PT X (.Compare a [op] [b] pos) (RC (H_ r ta tb)):=by
 intro pins s σ H Q I h
 refine wpAny_isTrue_Compare1 (b_ (ha pins s σ H _ I h) λ v s1 ⟨x,H1,I1,r1,q1⟩=>b_ (hb pins s1 σ H1 _ I1 q1) λ u s2 ⟨y,H2,I2,r2,q2⟩=>
  b_ (ho pins s2 σ H2 x y v u _ I2 r1 r2 q2) λ c s3 ⟨z,H3,I3,r3,k,e,q3⟩=>?_) hm
 subst e;cases r3;exact wpAny_truthy_bool ⟨H3,I3,q3⟩
theorem rG:(sizeLine:Nat)<2^63:=by rw[Vi];decide
theorem EE:cp X (binaryOp .Add) (λ x y H Q=>∃i j,x= .str i/\y= .str j/\i.length+j.length<=sizeLine/\Q (.str (i++j)) H):=by
 intro pins s σ H x y v u Q I rx ry h;obtain⟨i,j,rfl,rfl,hz,q⟩:=h;obtain⟨t,rfl⟩:=rx;obtain⟨t',rfl⟩:=ry;exact add_str (λ t' tk=>⟨.str (i++j),H,I.tok _,⟨_,rfl⟩,q⟩) hz
theorem vals1{x:V}{us:List Value}(r:Vals [x] us):∃u,us=[u]/\RelV x u:=by
 cases r with
 |cons r1 r2=>cases r2;exact⟨_,rfl,r1⟩
theorem vals2{x y:V}{us:List Value}(r:Vals [x,y] us):∃u w',us=[u,w']/\RelV x u/\RelV y w':=by
 cases r with
 |cons r1 r2=>
  cases r2 with
  |cons r3 r4=>cases r4;exact⟨_,_,rfl,r1,r3⟩
theorem J8:cO X (.builtin "abs") (λ xs H Q=>∃i,xs=[.int i]/\Q (.int (if i<0 then-i else i)) H):=by
 intro pins s σ H xs us Q I r h;obtain⟨i,rfl,q⟩:=h;obtain⟨u,rfl,t,rfl⟩:=vals1 r;exact call_abs_int λ u tk=>⟨.int (if i<0 then-i else i),H,I.tok _,⟨_,rfl⟩,q⟩
theorem Hb(hc:X.calm=true):cO X (.builtin "max") (λ xs H Q=>∃i j,xs=[.int i,.int j]/\Q (.int (if j>i then j else i)) H):=by
 intro pins s σ H xs us Q I r h;obtain⟨i,j,rfl,q⟩:=h;obtain⟨u,w',rfl,⟨t,rfl⟩,⟨t',rfl⟩⟩:=vals2 r;refine max_two_ints (I.ok.hd hc) λ h' tk k=>⟨_,H,I.kept k,?_,q⟩
 by_cases hj:j>i
 . rw[Ud hj,Ud hj];exact⟨_,rfl⟩
 . rw[Ub hj,Ub hj];exact⟨_,rfl⟩
end
structure wx(h:Heap)(x dx C:Addr)(mA:Str->Option Value):Prop where
 obj:h.get? x=some (PySem.W.instObj C dx)
 ns:h.Ns1 dx mA
 ne:dx≠x
theorem G7{h:Heap}{dx:Addr}{mA:Str->Option Value}(n:h.Ns1 dx mA):∃od,h.get? dx=some od/\∀name,PySem.W.lookIn name od=some (mA name):=by
 obtain⟨o,es,ep,ho,hd,hk,_,hm⟩:=n;refine⟨o,ho,λ name=>?_⟩;have e:=hm name;unfold nsFind findBy at e;rw[<-Array.find?_toList]at e;unfold PySem.W.lookIn;rw[hd];dsimp only;split
 . rename_i y q;rw[q]at e;exact VH some e
 . rename_i q;rw[q]at e
   have a:es.toList.any (·.refKey)=false:=by
    rw[List.any_eq_false];intro y hy;obtain⟨z,t,hkey⟩:=hk y (Array.mem_toList_iff.mp hy);simp[DictEntry.refKey,hkey]
   have a':¬es.toList.any (·.refKey)=true:=by rw[a];exact Vg
   rw[Ub a'];exact VH some e
theorem wx.look{h:Heap}{x dx C:Addr}{mA:Str->Option Value}(I:wx h x dx C mA):∃od,PySem.W.InstAt h x (PySem.W.instObj C dx) C (some od)/\∀name,PySem.W.lookIn name od=some (mA name):=
 let⟨od,ho,hl⟩:=G7 I.ns
 ⟨od,⟨I.obj,rfl,rfl,ho⟩,hl⟩
section
variable {prog:Program}{w:World}{A:Around}{E:Value->Shared->Prop}{s:Shared}{K:PySem.W.Frag}{x dx C f:Addr}{mA:Str->Option Value}{name:Str}{v:Value}
theorem get_map{expr:Bool}{Q:Value->Shared->Prop}(X:K.In s.heap)(I:wx s.heap x dx C mA)(hg:PySem.W.plainGet K C name=true)(hh:PySem.W.hasDictIn K C=true)
 (ha:PySem.W.findIn K (.ref C) name=some none) (hv:mA name=some v) (hv':PySem.W.handedIn v=true) (h:Q v {s with toks:=s.toks+1}):
 wpAny (model prog w) A (getAttr (.ref x) name expr) Q E s:=by
 obtain⟨od,J,hl⟩:=I.look;exact PySem.W.get_value X J (XN hg).1 (PySem.W.findObj_own hh ha rfl (by rw[hl,hv])) hv' h
theorem JK{pl:Sem Bool}{Q:Value×List Value->Shared->Prop}(X:K.In s.heap)(I:wx s.heap x dx C mA)(hg:PySem.W.plainGet K C name=true)
 (hf:PySem.W.findIn K (.ref C) name=some (some (.ref f))) (ht:PySem.W.isFn K (.ref f)=true) (hv:mA name=none) (h:Q (.ref f,[.ref x]) s):
 wpAny (model prog w) A (getMethod (.ref x) name pl) Q E s:=by
 obtain⟨od,J,hl⟩:=I.look;exact PySem.W.method_fn X J (XN hg).1 (XN hg).2 hf (Wg.mp ht) (by show(PySem.W.lookIn name od).map (·.isSome)=some false;rw[hl,hv];rfl) h
theorem je{ns:List Str}{Q:Unit->Shared->Prop}(X:K.In s.heap)(I:wx s.heap x dx C mA)
 (hs:PySem.W.findIn K (.ref C) "__setattr__"=some (some (.builtin "object.__setattr__"))) (hp:PySem.W.plainOver K C=true) (ht:PySem.W.takerIn K C name=some none) (hh:PySem.W.hasDictIn K C=true)
 (hw:PySem.Within mA ns) (hsz:ns.length<=sizeLine)
 (h:∀h',wx h' x dx C (λ y=>if y=name then some v else mA y)->Heap.SameBut dx s.heap h'->Q () {s with heap:=h',toks:=s.toks+2}):
 wpAny (model prog w) A (setAttr (.ref x) name v) Q E s:=by
 obtain⟨od,J,hl⟩:=I.look;refine PySem.W.set_plain X J hs (PySem.W.osa_open (s:={s with toks:=s.toks+1}) (r:=none) X J hp ht λ b=>?_);obtain⟨cd,hc,hd'⟩:=PySem.W.any_some hh;have hx:s.heap.get? x=some ⟨.ref C,some dx,.plain,#[]⟩:=I.obj;refine T_ (Ul (T_ (T_ (wpAny_loadPart hx (T_ (PySem.W.Looks.here (s:={s with toks:=s.toks+1}) (PySem.W.looks_clsIn X hc) ?_))))));rw[hd'];refine Ul (a:=some dx) (T_ (Ul (T_ ?_)));refine wpAny_nsSet1 (s:={s with toks:=s.toks+1}) I.ns λ h' hn2 hs2=>?_;obtain⟨oD,esD,epD,hoD,hdD,hcD⟩:=hn2.count (PySem.Within.cons name v hw);refine T_ (wpAny_lookBehind hoD (by rw[hdD];exact pastItsLine_dict (Uj hcD (by rw[UQ];omega))) ?_);exact Ul (h _ ⟨(hs2.2 _ (Ui I.ne)).trans I.obj,hn2,I.ne⟩ hs2)
theorem J4{R:Result->Shared->Prop}{vs:List Value}{kw:List (Str×Value)}(X:K.In s.heap)(hm:PySem.W.makesIn K C=true)
 (hi:PySem.W.findIn K (.ref C) "__init__"=some (some (.ref f))) (hf:PySem.W.typeIn K (.ref f)=some (.type "function"))
 (h:codeAny (model prog w) (A.under (.builtin "type.__call__" ⟨.ref C::vs,kw⟩)) (.call (.ref f) ⟨.ref (s.heap.objs.size+1)::vs,kw⟩) (PySem.W.InitBack (s.heap.objs.size+1) R)
   {s with heap:=(s.heap.push PySem.W.emptyDict).push (PySem.W.instObj C s.heap.objs.size)}):
 codeAny (model prog w) A (.call (.ref C) ⟨vs,kw⟩) R s:=by
 obtain⟨hh,g,d,t,os⟩:=s;exact PySem.W.make_core (PySem.W.makes_of X hm) (PySem.W.looks_findIn X hi) (λ self=>PySem.W.bind_fn X self hf) (.inl rfl) h
end
def iH(f:Str)(v:V):List (Str×V)->List (Str×V)
 | []=>[(f,v)]
 |(g,x)::r=>if g=f then(g,v)::r else(g,x)::iH f v r
theorem vG(f g:Str)(v:V):∀fs:List (Str×V),(iH f v fs).lookup g=if g=f then some v else fs.lookup g
 | []=>by
   show List.lookup g [(f,v)]=_;by_cases h:g=f
   . have hb:(g==f)=true:=Wg.mpr h;simp only[List.lookup,hb,Ud h]
   . have hb:(g==f)=false:=Wc.mpr h;simp only[List.lookup,hb,Ub h]
 |(k,x)::r=>by
  have ih:=vG f g v r;rw[show iH f v ((k,x)::r)=(if k=f then(k,v)::r else(k,x)::iH f v r)from rfl];by_cases hk:k=f
  . rw[Ud hk];by_cases h:g=k
    . have hb:(g==k)=true:=Wg.mpr h;simp only[List.lookup,hb,Ud (h.trans hk)]
    . have hb:(g==k)=false:=Wc.mpr h;simp only[List.lookup,hb,Ub (λ e:g=f=>h (e.trans hk.symm))]
  . rw[Ub hk];by_cases h:g=k
    . have hb:(g==k)=true:=Wg.mpr h;simp only[List.lookup,hb,Ub (λ e:g=f=>hk (h.symm.trans e))]
    . have hb:(g==k)=false:=Wc.mpr h;simp only[List.lookup,hb];exact ih
theorem uu(f:Str)(v:V):∀fs:List (Str×V),f∈(iH f v fs).map (·.1)/\∀g,g∈fs.map (·.1)->g∈(iH f v fs).map (·.1)
 | []=>⟨by simp[iH],λ g h=>by simp at h⟩
 |(k,x)::r=>by
  obtain⟨i1,i2⟩:=uu f v r;rw[show iH f v ((k,x)::r)=(if k=f then(k,v)::r else(k,x)::iH f v r)from rfl];by_cases hk:k=f
  . rw[Ud hk];subst hk;exact⟨by simp,λ g h=>by simpa using h⟩
  . rw[Ub hk];refine⟨?_,λ g h=>?_⟩
    . rw[UP];exact Uu _ i1
    . rw[UP]at h⊢;rcases Ux.mp h with e|e
      . exact Ux.mpr (.inl e)
      . exact Uu _ (i2 g e)
theorem vL(f:Str)(v:V):∀fs:List (Str×V),(iH f v fs).length<=fs.length+1
 | []=>by simp[iH]
 |(k,x)::r=>by
  have ih:=vL f v r;rw[show iH f v ((k,x)::r)=(if k=f then(k,v)::r else(k,x)::iH f v r)from rfl];by_cases hk:k=f
  . rw[Ud hk,UQ,UQ];omega
  . rw[Ub hk,UQ,UQ];omega
theorem qX.some_of{v:V}{o:Option Value}(r:qX (some v) o):∃u,o=some u/\RelV v u:=by
 cases o with
 |none=>exact(show False from r).elim
 |some u=>exact⟨u,rfl,r⟩
theorem qX.none_of{o:Option Value}(r:qX none o):o=none:=by
 cases o with
 |none=>rfl
 |some u=>exact(show False from r).elim
theorem GY{v:V}{u:Value}(r:RelV v u):PySem.W.handedIn u=true:=by
 cases v with
 |aF=>cases (show u=Value.none from r);rfl
 |bl b=>cases (show u=Value.bool b from r);rfl
 |int i=>obtain⟨t,e⟩:=(show∃t,u=Value.int i t from r);cases e;rfl
 |str x=>obtain⟨t,e⟩:=(show∃t,u=Value.str x t from r);cases e;rfl
 |vR b=>obtain⟨t,e⟩:=(show∃t,u=Value.bytes b t from r);cases e;rfl
 |vJ b=>obtain⟨t,e⟩:=(show∃t,u=Value.float b t from r);cases e;rfl
 |ref a=>cases (show u=Value.ref a from r);rfl
 |ty n=>cases (show u=Value.type n from r);rfl
section
variable {P:Program}{w:World}{H H':Hp}{h h':Heap}{a C dx:Addr}{fs fs':List (Str×V)}
theorem qY(aO:i8 P w H h)(e:H a=some (.ins C dx fs)):∃mA,wx h a dx C mA/\(∀f,qX (fs.lookup f) (mA f))/\PySem.Within mA (fs.map (·.1))/\fs.length<=1000/\H dx=some (.own a):=by
 obtain⟨d,z,ne,ob,mA,n,r,q⟩:=(show dP P w H h a (.ins C dx fs)from aO a _ e)
 exact⟨mA,⟨ob,n,ne⟩,r,q,z,d⟩
end
structure nZ(K:PySem.W.Frag)(C:Addr):Prop where
 pg:PySem.W.plainGet K C Str.empty=true
 hd:PySem.W.hasDictIn K C=true
 po:PySem.W.plainOver K C=true
 sa:PySem.W.findIn K (.ref C) "__setattr__"=some (some (.builtin "object.__setattr__"))
theorem nZ.get{K:PySem.W.Frag}{C:Addr}(c:nZ K C)(f:Str):PySem.W.plainGet K C f=true:=c.pg
def gf(K:PySem.W.Frag)(C:Addr)(f:Str):Prop:=PySem.W.findIn K (.ref C) f=some none
theorem gf.Qz{K:PySem.W.Frag}{C:Addr}{f:Str}(n:gf K C f):PySem.W.takerIn K C f=some none:=by
 unfold PySem.W.takerIn;rw[show PySem.W.findIn K (.ref C) f=some none from n];rfl
structure Meth(K:PySem.W.Frag)(C:Addr)(m:Str)(f:Addr):Prop where
 at_:PySem.W.findIn K (.ref C) m=some (some (.ref f))
 fn:PySem.W.isFn K (.ref f)=true
 kp:PySem.W.keepIn K (.ref f)=true
section
variable {X:Cx}{pins:List (Addr×Obj)}{σ:St}{H:Hp}{s:Shared}{a C dx:Addr}{fs:List (Str×V)}{f:Str}{v:V}{A:Around}{E:Value->Shared->Prop}
theorem FD{b:Bool}{Q:Value->Shared->Prop}(I:Inv X pins σ H s)(e:H a=some (.ins C dx fs))(c:nZ X.K C)(n:gf X.K C f)(l:fs.lookup f=some v)
 (h:∀u s',Inv X pins σ H s'->RelV v u->Q u s'):wpAny (model X.prog X.w) A (getAttr (.ref a) f b) Q E s:=by
 obtain⟨mA,O,r,_,_,_⟩:=qY I.aO e;obtain⟨u,hu,ru⟩:=qX.some_of (v:=v) (o:=mA f) (by rw[<-l];exact r f);exact get_map I.iG O (c.get f) c.hd n hu (GY ru) (h u _ (I.tok _) ru)
theorem xY{m:Str}{g:Addr}{pl:Sem Bool}{Q:Value×List Value->Shared->Prop}(I:Inv X pins σ H s)(e:H a=some (.ins C dx fs))(c:nZ X.K C)(k:Meth X.K C m g)(l:fs.lookup m=none)
 (h:Q (.ref g,[.ref a]) s):wpAny (model X.prog X.w) A (getMethod (.ref a) m pl) Q E s:=by
 obtain⟨mA,O,r,_,_,_⟩:=qY I.aO e;have hn:mA m=none:=qX.none_of (by rw[<-l];exact r m);exact JK I.iG O (c.get m) k.at_ k.fn hn h
theorem Ex{y:V}{u:Value}{Q:Unit->Shared->Prop}(I:Inv X pins σ H s)(e:H a=some (.ins C dx fs))(c:nZ X.K C)(n:gf X.K C f)(hl:fs.length<1000)(ry:RelV y u)
 (h:∀s',Inv X pins σ (upd H a (.ins C dx (iH f y fs))) s'->Q () s'):wpAny (model X.prog X.w) A (setAttr (.ref a) f u) Q E s:=by
 obtain⟨mA,O,r,wi,_,ho⟩:=qY I.aO e;have hz:(fs.map (·.1)).length<=sizeLine:=by rw[Uk,Vi];omega
 refine je I.iG O c.sa c.po n.Qz c.hd wi hz λ h' O' sb=>h _ ?_;have hd:∃o,h'.get? dx=some o:=let⟨o,_,_,e',_⟩:=O'.ns;⟨o,e'⟩
 refine I.write (x:=a) (e:=dx) (by rw[e];exact True.intro) (.inr ho) (λ b q hb z=>(sb.2 b hb).trans z) hd ?_;refine⟨by rw[aB O.ne];exact ho,?_,O.ne,O'.obj,_,O'.ns,λ g=>?_,λ g hg=>?_⟩
 . have:=vL f y fs;omega
 . show qX ((iH f y fs).lookup g) (if g=f then some u else mA g);rw[vG];by_cases q:g=f
   . rw[Ud q,Ud q];exact ry
   . rw[Ub q,Ub q];exact r g
 . by_cases q:g=f
   . rw[q];exact(uu f y fs).1
   . refine(uu f y fs).2 g (wi g λ z=>hg ?_);show(if g=f then some u else mA g)=none;rw[Ub q];exact z
theorem Inv.made(I:Inv X pins σ H s):Inv X pins σ (upd (upd H s.heap.objs.size (.own (s.heap.objs.size+1))) (s.heap.objs.size+1) (.ins C s.heap.objs.size []))
 {s with heap:=(s.heap.push PySem.W.emptyDict).push (PySem.W.instObj C s.heap.objs.size)}:=by
 have e1:(s.heap.push PySem.W.emptyDict).get? s.heap.objs.size=some PySem.W.emptyDict:=Ut s.heap rfl
 have e2:((s.heap.push PySem.W.emptyDict).push (PySem.W.instObj C s.heap.objs.size)).get? (s.heap.objs.size+1)=some (PySem.W.instObj C s.heap.objs.size):=by
  have:=Ut (s.heap.push PySem.W.emptyDict) (o:=PySem.W.instObj C s.heap.objs.size) rfl;rwa [U7]at this
 have e3:(s.heap.push PySem.W.emptyDict).Ns s.heap.objs.size (λ _=>none):=⟨PySem.W.emptyDict,#[],_,e1,rfl,(λ e he=>absurd he (by simp)),λ _=>rfl⟩
 have I1:=I.laid (a:=s.heap.objs.size) (o:= .own (s.heap.objs.size+1)) (h':=s.heap.push PySem.W.emptyDict) (t':=s.toks) (λ b u q=>Uc _ q) (Ue _) ⟨_,e1⟩;refine I1.laid (a:=s.heap.objs.size+1) (o:= .ins C s.heap.objs.size []) (t':=s.toks) (λ b u q=>Uc _ q) (Yo (U7 _ _)) ?_;have ne:s.heap.objs.size≠s.heap.objs.size+1:=UG (UN _);refine⟨by rw[aB ne,bc],UK _,ne,e2,λ _=>none,(Heap.Ns1.of_empty e3).at λ o q=>Uc _ q,λ _=>True.intro,λ y hy=>absurd rfl hy⟩
theorem LF{prog:Program}{w:World}{env:Env}{e:Expr}{f:Str}{pos:Pos}{s:Shared}{Q:Value->Shared->Prop}(hb:attributeBase e f env (eval e env)=eval e env)
 (h:wpAny (model prog w) A (eval e env) (λ o s₁=>wpAny (model prog w) A (getAttr o f true) Q E s₁) E s):wpAny (model prog w) A (eval (.Attribute e f pos) env) Q E s:=
 Attribute_any_ h (by rw[arm_eval_Attribute,hb])
end
def SE(K:PySem.W.Frag)(ta:TE)(f:Str):TE:=λ σ H Q=>ta σ H λ x H1=>∃a C dx fs v,x= .ref a/\H1 a=some (.ins C dx fs)/\nZ K C/\gf K C f/\fs.lookup f=some v/\Q v H1
def Sy(K:PySem.W.Frag)(ta tv:TE)(f:Str):TS:=λ D σ H=>tv σ H λ y H1=>ta σ H1 λ x H2=>∃a C dx fs,x= .ref a/\H2 a=some (.ins C dx fs)/\nZ K C/\gf K C f/\fs.length<1000/\
 D.nx σ (upd H2 a (.ins C dx (iH f y fs)))
section
variable {X:Cx}{o e value:Expr}{f:Str}{pos pos' tpos:Pos}{ta tv:TE}
theorem Qe(he:PE X e ta)(hb:attributeBase e f X.env (eval e X.env)=eval e X.env):PE X (.Attribute e f pos) (SE X.K ta f):=by
 intro pins s σ H Q I h;refine LF hb (b_ (he pins s σ H _ I h) λ u s1 ⟨x,H1,I1,rx,a,C,dx,fs,v,ex,ea,c,n,l,q⟩=>?_);subst ex;obtain rfl:u=Value.ref a:=rx;exact FD I1 ea c n l λ u' s2 I2 ru=>⟨v,H1,I2,ru,q⟩
theorem Py(ha:PE X o ta)(hv:PE X value tv)(hs:swapsWith value (some (.Attribute o f pos')) pos.line X.env=pure false):PS X (.Assign [.Attribute o f pos'] value pos) (Sy X.K ta tv f):=by
 intro pins s σ H D I h;refine plainObj_wpAny_Assign_Attribute (b_ (hv pins s σ H _ I h) λ u s1 ⟨y,H1,I1,ry,q⟩=>b_ (ha pins s1 σ H1 _ I1 q) λ ov s2 ⟨x,H2,I2,rx,a,C,dx,fs,ex,ea,c,n,l,q2⟩=>?_) hs;subst ex;obtain rfl:ov=Value.ref a:=rx;exact Ex I2 ea c n l ry λ s3 I3=>⟨σ,_,I3,q2⟩
end
section
variable {X:Cx}{pins:List (Addr×Obj)}{σ:St}{H:Hp}{s:Shared}{A:Around}{E:Value->Shared->Prop}{Q:Value->Shared->Prop}{c:Value}{b:Bool}
inductive kl(K:PySem.W.Frag)(H:Hp):V->Value->Prop where
 |aF:kl K H .aF (.type "NoneType")
 |bl (x:Bool):kl K H (.bl x) (.type "bool")
 |int (i:Int):kl K H (.int i) (.type "int")
 |str (x:Str):kl K H (.str x) (.type "str")
 |vJ (x:UInt64):kl K H (.vJ x) (.type "float")
 |lst {a:Addr} {xs:List V} (e:H a=some (.lst xs)):kl K H (.ref a) (.type "list")
 |ia {a:Addr} {o:Obj} {xs:List V} (e:H a=some (.ia o (.lst xs))):kl K H (.ref a) (.type "list")
 |tup {a:Addr} {xs:List V} (e:H a=some (.tup xs)):kl K H (.ref a) (.type "tuple")
 |dK {a:Addr} {kvs:List (Key×V)} (e:H a=some (.dK kvs)):kl K H (.ref a) (.type "dict")
 |dT {a:Addr} {kvs:List (List Key×V)} (e:H a=some (.dT kvs)):kl K H (.ref a) (.type "dict")
 |ins {a C dx:Addr} {fs:List (Str×V)} (e:H a=some (.ins C dx fs)) (cl:nZ K C) (ha:PySem.W.findIn K (.ref C) "__class__"=some (some (.builtin "object.__class__")))
   (hn:PySem.W.specialIn K (.builtin "object.__class__") "__get__"=some (some (.builtin "getset_descriptor.__get__"))) (htk:PySem.W.takesIn K (.builtin "object.__class__")=some true)
   (hm:PySem.W.mroIn K C (.type "object")=some true):kl K H (.ref a) (.ref C)
theorem Ia{x:V}{u t:Value}(I:Inv X pins σ H s)(rx:RelV x u)(ty:kl X.K H x t)(e:PySem.W.kitOne X.K t c=some b)(h:∀tk,Q (.bool b) {s with toks:=tk}):
 wpAny (model X.prog X.w) A (call (.builtin "isinstance") [u,c]) Q E s:=by
 cases ty with
 |aF=>cases (show u=Value.none from rx);exact VA PySem.W.kitx_none I.iG True.intro e (λ z=>nomatch z) h
 |bl y=>cases (show u=Value.bool y from rx);exact VA PySem.W.kitx_bool I.iG True.intro e (λ z=>nomatch z) h
 |int i=>obtain⟨t,q⟩:=(show∃t,u=Value.int i t from rx);cases q;exact VA PySem.W.kitx_int I.iG True.intro e (λ z=>nomatch z) h
 |str y=>obtain⟨t,q⟩:=(show∃t,u=Value.str y t from rx);cases q;exact VA PySem.W.kitx_str I.iG True.intro e (λ z=>nomatch z) h
 |vJ y=>obtain⟨t,q⟩:=(show∃t,u=Value.float y t from rx);cases q;exact VA PySem.W.kitx_float I.iG True.intro e (λ z=>nomatch z) h
 | @lst a xs ea=>
   cases (show u=Value.ref a from rx);obtain⟨_,_,n,_,h1⟩:=(show dP X.prog X.w H s.heap a (.lst xs)from I.aO a _ ea)
   exact VA Xd I.iG ⟨_,h1,rfl⟩ e (λ z=>nomatch z) h
 | @ia a ob xs ea=>
   cases (show u=Value.ref a from rx);obtain⟨_,_,_,n,_,h1⟩:=(show dP X.prog X.w H s.heap a (.ia ob (.lst xs))from I.aO a _ ea)
   exact VA Xd I.iG ⟨_,h1,rfl⟩ e (λ z=>nomatch z) h
 | @tup a xs ea=>
   cases (show u=Value.ref a from rx);obtain⟨_,_,_,p⟩:=(show dP X.prog X.w H s.heap a (.tup xs)from I.aO a _ ea)
   obtain⟨o,h1,h2,_⟩:=p;exact VA PySem.W.kitx_tuple I.iG ⟨o,h1,h2⟩ e (λ z=>nomatch z) h
 | @dK a kvs ea=>
   cases (show u=Value.ref a from rx);obtain⟨_,_,vs,_,p⟩:=(show dP X.prog X.w H s.heap a (.dK kvs)from I.aO a _ ea)
   obtain⟨o,es,ep,h1,h2,_⟩:=p;exact VA Xe I.iG ⟨o,h1,h2.1⟩ e (λ z=>nomatch z) h
 | @dT a kvs ea=>
   cases (show u=Value.ref a from rx);obtain⟨_,_,xs,_,o,es,ep,h1,h2,_⟩:=(show dP X.prog X.w H s.heap a (.dT kvs)from I.aO a _ ea)
   exact VA Xe I.iG ⟨o,h1,h2.1⟩ e (λ z=>nomatch z) h
 | @ins a C dx fs ea cl ha hn htk hm=>
   cases (show u=Value.ref a from rx);obtain⟨mA,O,_⟩:=qY I.aO ea;obtain⟨od,J,_⟩:=O.look;exact VA (PySem.W.kitx_own (cl.get _) cl.hd ha hn htk hm) I.iG J e (λ z=>nomatch z) h
end
structure cT(k:Nat)(A:Around):Prop where
 hd:A.handled=none
 dp:A.depth+3*k+105<recursionLimit
 un:A.units+16*k+200<cLine
theorem cT.mono{j k:Nat}{A:Around}(r:cT k A)(h:j<=k):cT j A:=⟨r.hd,by have:=r.dp;omega,by have:=r.un;omega⟩
theorem cT.deeper{k:Nat}{A:Around}(r:cT (k+1) A)(env:Env):cT k (A.deeper env):=
 ⟨r.hd,by have:=r.dp;show A.depth+1+3*k+105<_;omega,by have:=r.un;show A.units+3+16*k+200<_;omega⟩
theorem Fi{A:Around}{C:Addr}{us:List Value}{kw:List (Str×Value)}:(A.under (.builtin "type.__call__" ⟨.ref C::us,kw⟩)).depth=A.depth+1:=by
 first|rfl|simp[Around.under,Code.weight,Code.isCreation,Code.isGuard,Code.isCaller,Code.frames,Code.isFrame,guardIds]
theorem Fy{A:Around}{C:Addr}{us:List Value}{kw:List (Str×Value)}:(A.under (.builtin "type.__call__" ⟨.ref C::us,kw⟩)).units=A.units+1:=by
 first|rfl|simp[Around.under,Code.cUnits,Code.frames,Code.isFrame]
theorem cT.make{k:Nat}{A:Around}(r:cT (k+1) A)(C:Addr)(us:List Value)(kw:List (Str×Value)):cT k (A.under (.builtin "type.__call__" ⟨.ref C::us,kw⟩)):=
 ⟨r.hd,by have:=r.dp;rw[Fi];omega,by have:=r.un;rw[Fy];omega⟩
theorem cT.depth{k:Nat}{A:Around}(r:cT k A):A.depth<recursionLimit:=by have:=r.dp;omega
theorem cT.units{k:Nat}{A:Around}(r:cT k A):A.units+64<cLine:=by have:=r.un;omega
def PV:TA:=λ _ H Q=>Q [] H
def QQ(ta:TE)(tr:TA):TA:=λ σ H Q=>ta σ H λ x H1=>tr σ H1 λ xs H2=>Q (x::xs) H2
section
variable {X:Cx}{e:Expr}{es:List Expr}{te:TE}{t:TA}{pos:Pos}
theorem PB:PA X [] PV:=λ _ _ _ _ H Q I h=>Calls.spliced_nil ⟨[],H,I,.nil,h⟩
theorem LQ(ha:PE X e te)(hr:PA X es t)(hs:starEach (e::es) X.env=(false,eval e X.env)::starEach es X.env:=by rfl):PA X (e::es) (QQ te t):=by
 intro pos pins s σ H Q I h;rw[hs];show wpAny _ _ (spliced ((false,eval e X.env)::backTo pos (starEach es X.env))) _ _ s;refine Calls.spliced_cons (b_ (ha pins s σ H _ I h) λ u s1 ⟨x,H1,I1,r1,q1⟩=>?_);exact b_ (hr pos pins s1 σ H1 _ I1 q1) λ us s2 ⟨xs,H2,I2,r2,q2⟩=>⟨x::xs,H2,I2,.cons r1 r2,q2⟩
def Sw(t:TA):TE:=λ σ H Q=>t σ H λ xs H1=>xs.length<=sizeLine/\∀p,H1 p=none->Q (.ref p) (upd H1 p (.tup xs))
def Tq(t:TA):TE:=λ σ H Q=>t σ H λ xs H1=>xs.length<=sizeLine/\∀p,H1 p=none->Q (.ref p) (upd H1 p (.lst xs))
theorem O9{x1}(h:PA X es t):PE X (.Tuple es x1 pos) (Sw t):=by
 intro pins s σ H Q I hq;refine wpAny_Tuple_spliced (b_ (h pos pins s σ H _ I hq) λ us s1 ⟨xs,H1,I1,r,z,q⟩=>⟨by rw[<-r.length];exact z,?_⟩);have hf:H1 s1.heap.objs.size=none:=I1.aO.fresh (Ue _);refine⟨.ref s1.heap.objs.size,upd H1 s1.heap.objs.size (.tup xs),I1.laid (t':=s1.toks) (λ b u e=>Uc _ e) (Ue _) ?_,rfl,q _ hf⟩;exact⟨z,us,r,⟨_,Ut _ rfl,rfl,_,rfl⟩⟩
theorem Gx(h:PA X es t):PE X (.List es pos) (Tq t):=by
 intro pins s σ H Q I hq;refine wpAny_List_spliced (b_ (h pos pins s σ H _ I hq) λ us s1 ⟨xs,H1,I1,r,z,q⟩=>⟨by rw[<-r.length];exact z,?_⟩);have hf:H1 s1.heap.objs.size=none:=I1.aO.fresh (Ue _);refine⟨.ref s1.heap.objs.size,upd H1 s1.heap.objs.size (.lst xs),I1.laid (t':=s1.toks) (λ b u e=>Uc _ e) (Ue _) ?_,rfl,q _ hf⟩;exact⟨z,us,0,r,Ut _ rfl⟩
end
abbrev Sp:=List V->Hp->VK->XK->Prop
abbrev vN:=List Env->Hp->Shared->XK->Value->Shared->Prop
structure we(P:Program)(w:World)(K:PySem.W.Frag)(mg:Str->Option Value)(base:Heap)(A:Around)(outer:List Env)(s:Shared)(H:Hp):Prop where
 frames:A.frames=some outer
 mod:Mod K mg base
 bs:∀b o,base.get? b=some o->s.heap.get? b=some o/\H b=none
 uJ:base.objs.size<=s.heap.objs.size
 ma:s.heap.FunFrames base outer
 yh:∀b∈rS outer,H b=none
 aO:i8 P w H s.heap
 bare:AllBare s.gens
 gt:P.given.tree=none
def CE(outer:List Env)(P:Program)(w:World)(H:Hp)(s:Shared)(Q:VK)(u:Value)(s':Shared):Prop:=
 ∃v H',s'.os=s.os/\AllBare s'.gens/\Un (rS outer) [] H H' s.heap s'.heap/\i8 P w H' s'.heap/\RelV v u/\Q v H'
def CR(CX:vN)(outer:List Env)(P:Program)(w:World)(H:Hp)(s:Shared)(Q:VK)(E:XK)(r:Result)(s':Shared):Prop:=
 match r with
 | .ok (.ret u)=>CE outer P w H s Q u s'
 | .ok _=>False
 | .error e=>CX outer H s E e s'
structure bj(P:Program)(w:World)(K:PySem.W.Frag)(mg:Str->Option Value)(base:Heap)(CX:vN)(k:Nat)(f:Addr)(fd:FuncData)(ps:List Str)(sp:Sp):Prop where
 len:∀vs H Q E,sp vs H Q E->vs.length=ps.length
 run:∀(A:Around) (outer:List Env) (s:Shared) (H:Hp) (args:Args) (us:List Value) (vs:List V) (Q:VK) (E:XK),cT k A->we P w K mg base A outer s H->BindsTo s fd args (ps.zip us)->Vals vs us->sp vs H Q E->
  codeAny (model P w) A (.call (.ref f) args) (CR CX outer P w H s Q E) s
theorem bj.imp{P:Program}{w:World}{K:PySem.W.Frag}{mg:Str->Option Value}{base:Heap}{CX:vN}{k:Nat}{f:Addr}{fd:FuncData}{ps:List Str}{sp sp':Sp}(F:bj P w K mg base CX k f fd ps sp)
 (h:∀vs H Q E,sp' vs H Q E->sp vs H Q E):bj P w K mg base CX k f fd ps sp':=
 ⟨λ vs H Q E q=>F.len vs H Q E (h _ _ _ _ q),λ A outer s H args us vs Q E hr he hb hv hs=>F.run A outer s H args us vs Q E hr he hb hv (h _ _ _ _ hs)⟩
theorem we.make{P:Program}{w:World}{K:PySem.W.Frag}{mg:Str->Option Value}{base:Heap}{A:Around}{outer:List Env}{s:Shared}{H:Hp}(e:we P w K mg base A outer s H)(C:Addr)(us:List Value)(kw:List (Str×Value)):
 we P w K mg base (A.under (.builtin "type.__call__" ⟨.ref C::us,kw⟩)) outer s H:=⟨by first|exact e.frames|(simpa[Around.under,Code.envs,Code.isFrame,pushEnvs]using e.frames),e.mod,e.bs,e.uJ,e.ma,e.yh,e.aO,e.bare,e.gt⟩
section
variable {X:Cx}{pins:List (Addr×Obj)}{σ:St}{H:Hp}{s s':Shared}
theorem Inv.N8(I:Inv X pins σ H s):we X.prog X.w X.K X.mg X.base X.A X.stack s H:=
 ⟨I.ok.frames,I.ok.mod,I.bs,Uj I.ok.uJ I.sz,I.stack,I.yx,I.aO,I.bare,I.ok.gt⟩
theorem Inv.after{Q:VK}{u:Value}(I:Inv X pins σ H s)(h:CE X.stack X.prog X.w H s Q u s'):EP X pins σ Q u s':=by
 obtain⟨v,H',os,bare,un,aO,r,q⟩:=h;obtain⟨hh,g,d,t,os'⟩:=s';obtain rfl:os'=s.os:=os;exact⟨v,H',I.call (h':=hh) (g':=g) (d':=d) (t':=t) (ch:=[]) un aO bare (λ b z=>absurd z (by simp)),r,q⟩
end
def Ld(sp:Sp)(dvs:List V)(E:XK)(t:TA):TE:=λ σ H Q=>t σ H λ vs H1=>sp (vs++dvs) H1 Q E
def EB(C:Addr)(m:Str)(sp:Sp)(dvs:List V)(E:XK)(ta:TE)(t:TA):TE:=λ σ H Q=>ta σ H λ x H1=>∃a dx fs,x= .ref a/\H1 a=some (.ins C dx fs)/\fs.lookup m=none/\
 t σ H1 λ vs H2=>sp (x::(vs++dvs)) H2 Q E
def KH(C:Addr)(sp:Sp)(dvs:List V)(E:XK)(t:TA):TE:=λ σ H Q=>t σ H λ vs H1=>∀x dx,H1 x=none->H1 dx=none->dx≠x->
 sp (.ref x::(vs++dvs)) (upd (upd H1 dx (.own x)) x (.ins C dx [])) (λ v H2=>v= .aF/\Q (.ref x) H2) E
def Binds(K:PySem.W.Frag)(fd:FuncData)(ps:List Str)(ds:List Value):Prop:=
 ∀(s:Shared) (us:List Value),K.In s.heap->(us++ds).length=ps.length->BindsTo s fd ⟨us,[]⟩ (ps.zip (us++ds))
theorem Binds.all{K:PySem.W.Frag}{fd:FuncData}{ps:List Str}(h:∀us:List Value,us.length=ps.length->bindArgs fd ⟨us,[]⟩=pure (ps.zip us)):Binds K fd ps []:=λ s us _ hl=>by
 rw[VV]at hl⊢;exact .of_eq (h us hl)
def Passes(CX:vN)(X:Cx)(E:XK):Prop:=∀(pins:List (Addr×Obj)) (σ:St) (H:Hp) (s:Shared) (e:Value) (s':Shared),Inv X pins σ H s->CX X.stack H s E e s'->X.xe e s'
section
variable {X:Cx}{CX:vN}{k:Nat}{f C:Addr}{fd:FuncData}{ps:List Str}{sp:Sp}{dvs:List V}{ds:List Value}{E:XK}{x m:Str}{p pos apos:Pos}{e o:Expr}{es:List Expr}{ta:TE}{t:TA}
theorem Cj{pins:List (Addr×Obj)}{σ:St}{H:Hp}{s:Shared}{Q:VK}{us:List Value}{vs:List V}(F:bj X.prog X.w X.K X.mg X.base CX k f fd ps sp)(hr:cT k X.A)(hb:Binds X.K fd ps ds)(hd:Vals dvs ds)(hx:Passes CX X E)
 (I:Inv X pins σ H s) (r:Vals vs us) (h:sp (vs++dvs) H Q E):wpAny (model X.prog X.w) X.A (call (.ref f) us) (EP X pins σ Q) X.xe s:=by
 have r2:Vals (vs++dvs) (us++ds):=r.append hd;have hl:(us++ds).length=ps.length:=by rw[<-r2.length];exact F.len _ _ _ _ h
 refine wpAny_call (Yp (F.run X.A X.stack s H ⟨us,[]⟩ (us++ds) (vs++dvs) Q E hr I.N8 (hb s us I.iG hl) r2 h) λ r s' hq=>?_);cases r with
 |error e=>exact hx pins σ H s e s' I hq
 |ok fl=>
  cases fl with
  |ret u=>exact I.after hq
  |next=>exact False.elim hq
  |brk=>exact False.elim hq
  |cont=>exact False.elim hq
theorem Mw(F:bj X.prog X.w X.K X.mg X.base CX k f fd ps sp)(hr:cT k X.A)(hg:Gl X x)(hm:X.mg x=some (.ref f))(hk:PySem.W.keepIn X.K (.ref f)=true)(hb:Binds X.K fd ps ds)(hd:Vals dvs ds)(hx:Passes CX X E)
 (ha:PA X (e::es) t) (hdb:(x==("__debug__":Str))=false:=by decide) (he:starEach (e::es) X.env=(false,eval e X.env)::starEach es X.env:=by rfl) (hpl:(backTo pos (starEach es X.env)).any (·.1)=false:=by rfl):
 PE X (.Call (.Name x p) (e::es) [] pos) (Ld sp dvs E t):=by
 intro pins s σ H Q I h;refine WC (D9 I hg hm ?_ hdb);refine XT (h₀:=X.base) I.ok.mod.GF hk (b_ (ha pos pins s σ H _ I h) λ us s1 ⟨vs,H1,I1,r,q⟩=>⟨I1.iG,?_⟩) he hpl;exact Cj F hr hb hd hx I1 r q
theorem LU{pl:Sem Bool}(he:PE X o ta)(c:nZ X.K C)(hm:Meth X.K C m f)(F:bj X.prog X.w X.K X.mg X.base CX k f fd ps sp)(hr:cT k X.A)(hb:Binds X.K fd ps ds)(hd:Vals dvs ds)(hx:Passes CX X E)(ha:PA X (e::es) t)
 (hst:starEach (e::es) X.env=(false,eval e X.env)::starEach es X.env:=by rfl) (hpl:(backTo pos (starEach es X.env)).any (·.1)=false:=by rfl)
 (ht:eval (.Call (.Attribute o m apos) (e::es) [] pos) X.env=(do
   let ov <-eval o X.env
   standAt apos.atName
   let(f,first) <-holding [ov] (getMethod ov m pl)
   callWith pos f first (backTo pos (starEach (e::es) X.env)) (backToKw pos (keywordEach [] X.env))):=by rfl):
 PE X (.Call (.Attribute o m apos) (e::es) [] pos) (EB C m sp dvs E ta t):=by
 intro pins s σ H Q I h;refine YL (pl:=pl) (b_ (he pins s σ H _ I h) λ u s1 ⟨x,H1,I1,rx,a,dx,fs,ex,ea,l,q⟩=>?_) ht;subst ex;obtain rfl:u=Value.ref a:=rx;refine xY I1 ea c hm l ?_;refine XT (first:=[.ref a]) (h₀:=X.base) I.ok.mod.GF hm.kp (b_ (ha pos pins s1 σ H1 _ I1 q) λ us s2 ⟨vs,H2,I2,r,q2⟩=>⟨I2.iG,?_⟩) hst hpl;exact Cj (us:= .ref a::us) (vs:= .ref a::vs) F hr hb hd hx I2 (.cons rfl r) q2
theorem IC{pl:Sem Bool}(he:PE X o ta)(c:nZ X.K C)(hm:Meth X.K C m f)(F:bj X.prog X.w X.K X.mg X.base CX k f fd ps sp)(hr:cT k X.A)(hb:Binds X.K fd ps ds)(hd:Vals dvs ds)(hx:Passes CX X E)
 (ht:eval (.Call (.Attribute o m apos) [] [] pos) X.env=(do
   let ov <-eval o X.env
   standAt apos.atName
   let(f,first) <-holding [ov] (getMethod ov m pl)
   callWith pos f first (backTo pos (starEach [] X.env)) (backToKw pos (keywordEach [] X.env))):=by rfl):
 PE X (.Call (.Attribute o m apos) [] [] pos) (EB C m sp dvs E ta PV):=by
 intro pins s σ H Q I h;refine YL (pl:=pl) (b_ (he pins s σ H _ I h) λ u s1 ⟨x,H1,I1,rx,a,dx,fs,ex,ea,l,q⟩=>?_) ht;subst ex;obtain rfl:u=Value.ref a:=rx;refine xY I1 ea c hm l ?_;exact PySem.W.callWith_K0 (first:=[.ref a]) I1.iG hm.kp (Cj (us:=[.ref a]) (vs:=[.ref a]) F hr hb hd hx I1 (.cons rfl .nil) q)
structure Mk(K:PySem.W.Frag)(C f:Addr):Prop where
 makes:PySem.W.makesIn K C=true
 init:PySem.W.findIn K (.ref C) "__init__"=some (some (.ref f))
 fn:PySem.W.isFn K (.ref f)=true
 kp:PySem.W.keepIn K (.ref C)=true
theorem JP{pins:List (Addr×Obj)}{σ:St}{H:Hp}{s:Shared}{Q:VK}{us:List Value}{vs:List V}(M:Mk X.K C f)(F:bj X.prog X.w X.K X.mg X.base CX k f fd ps sp)(hr:cT (k+1) X.A)(hb:Binds X.K fd ps ds)(hd:Vals dvs ds)
 (hx:Passes CX X E) (I:Inv X pins σ H s) (r:Vals vs us)
 (h:∀x dx,H x=none->H dx=none->dx≠x->sp (.ref x::(vs++dvs)) (upd (upd H dx (.own x)) x (.ins C dx [])) (λ v H2=>v= .aF/\Q (.ref x) H2) E):
 wpAny (model X.prog X.w) X.A (call (.ref C) us) (EP X pins σ Q) X.xe s:=by
 have hq:=h (s.heap.objs.size+1) s.heap.objs.size (I.aO.fresh (Nat.le_succ _)) (I.aO.fresh (Ue _)) (UG (UN _));have I2:=Inv.made (C:=C) I;have r2:Vals (V.ref (s.heap.objs.size+1)::(vs++dvs)) (Value.ref (s.heap.objs.size+1)::(us++ds)):= .cons rfl (r.append hd)
 have hl:(Value.ref (s.heap.objs.size+1)::us++ds).length=ps.length:=by
  have e:=r2.length;rw[F.len _ _ _ _ hq]at e;exact e.symm
 refine wpAny_call (J4 (f:=f) I.iG M.makes M.init (Wg.mp M.fn) (Yp (F.run _ X.stack _ _ ⟨Value.ref (s.heap.objs.size+1)::us,[]⟩ (Value.ref (s.heap.objs.size+1)::(us++ds)) _ _ E (hr.make C us [])
  (I2.N8.make C us []) (hb _ (Value.ref (s.heap.objs.size+1)::us) I2.iG hl) r2 hq) λ r s' hq'=>?_))
 cases r with
 |error e=>exact hx pins σ _ _ e s' I2 hq'
 |ok fl=>
  cases fl with
  |ret u=>
   obtain⟨v,H',I3,rv,ev,q3⟩:=I2.after hq';subst ev;exact⟨rv,⟨V.ref (s.heap.objs.size+1),H',I3,rfl,q3⟩⟩
  |next=>exact False.elim hq'
  |brk=>exact False.elim hq'
  |cont=>exact False.elim hq'
theorem Nb(M:Mk X.K C f)(F:bj X.prog X.w X.K X.mg X.base CX k f fd ps sp)(hr:cT (k+1) X.A)(hg:Gl X x)(hm:X.mg x=some (.ref C))(hb:Binds X.K fd ps ds)(hd:Vals dvs ds)(hx:Passes CX X E)
 (ha:PA X (e::es) t) (hdb:(x==("__debug__":Str))=false:=by decide) (he:starEach (e::es) X.env=(false,eval e X.env)::starEach es X.env:=by rfl) (hpl:(backTo pos (starEach es X.env)).any (·.1)=false:=by rfl):
 PE X (.Call (.Name x p) (e::es) [] pos) (KH C sp dvs E t):=by
 intro pins s σ H Q I h;refine WC (D9 I hg hm ?_ hdb);refine XT (h₀:=X.base) I.ok.mod.GF M.kp (b_ (ha pos pins s σ H _ I h) λ us s1 ⟨vs,H1,I1,r,q⟩=>⟨I1.iG,?_⟩) he hpl;exact JP M F hr hb hd hx I1 r q
end
section
variable {X:Cx}{CX:vN}{k:Nat}{f C:Addr}{fd:FuncData}{ps ks:List Str}{sp:Sp}{E:XK}{x m:Str}{p pos apos kpos:Pos}{e o:Expr}{es:List Expr}{kws:List Keyword}{te ta:TE}{t tk:TA}{nm:Option Str}
variable {g:List Value->List Value->List Value}{gV:List V->List V->List V}
end
structure aN(N P:List Str)(sc:Scope):Prop where
 kind:sc.kind= .function
 co:sc.isCoroutine=false
 gen:sc.isGenerator=false
 nd:N.Nodup
 pre:N.take P.length=P
 par:∀x∈P,sc.names.lookup x=some .local\/sc.names.lookup x=some .cell
 NT:∀y∈sc.names,y.2≠ .free
theorem zo{kindOf:Str->Option NameKind}{x:Str}:∀ {binds:List (Str×Value)} {m:Str->Option Value},(∀v,(x,v)∉binds)->bindL kindOf binds m x=m x
 | [],_,_=>rfl
 |(n,v)::r,m,h=>by
  unfold bindL;rw[zo λ w hw=>h w (Uu _ hw)];split
  . have:x≠n:=by rintro rfl;exact h v UB
    simp[this]
  . rfl
theorem zC{kindOf:Str->Option NameKind}{x:Str}:∀ {binds:List (Str×Value)} {m:Str->Option Value},(∀v,(x,v)∉binds)->bindC kindOf binds m x=m x
 | [],_,_=>rfl
 |(n,v)::r,m,h=>by
  unfold bindC;rw[zC λ w hw=>h w (Uu _ hw)];split
  . rfl
  . have:x≠n:=by rintro rfl;exact h v UB
    simp[this]
theorem zy{kindOf:Str->Option NameKind}{x:Str}{v:Value}:∀ {P:List Str} {vs:List Value} {i:Nat} {m:Str->Option Value},P.Nodup->P[i]?=some x->vs[i]?=some v->kindOf x=some .local->
 bindL kindOf (P.zip vs) m x=some v
 | [],_,_,_,_,h,_,_=>by simp at h
 |_::_,[],_,_,_,_,h,_=>by simp at h
 |p::P,w::vs,0,m,nd,h1,h2,hk=>by
  simp at h1 h2;subst h1;subst h2;show bindL kindOf ((p,w)::P.zip vs) m p=_;unfold bindL;rw[zo λ v hv=>(Wl.mp nd).1 (XB hv).1,Ud hk];simp
 |p::P,w::vs,i+1,m,nd,h1,h2,hk=>by
  show bindL kindOf ((p,w)::P.zip vs) m x=_;unfold bindL;exact zy (i:=i) (Wl.mp nd).2 (by simpa using h1) (by simpa using h2) hk
theorem zR{kindOf:Str->Option NameKind}{x:Str}{v:Value}:∀ {P:List Str} {vs:List Value} {i:Nat} {m:Str->Option Value},P.Nodup->P[i]?=some x->vs[i]?=some v->kindOf x≠some .local->
 bindC kindOf (P.zip vs) m x=some v
 | [],_,_,_,_,h,_,_=>by simp at h
 |_::_,[],_,_,_,_,h,_=>by simp at h
 |p::P,w::vs,0,m,nd,h1,h2,hk=>by
  simp at h1 h2;subst h1;subst h2;show bindC kindOf ((p,w)::P.zip vs) m p=_;unfold bindC;rw[zC λ v hv=>(Wl.mp nd).1 (XB hv).1,Ub hk];simp
 |p::P,w::vs,i+1,m,nd,h1,h2,hk=>by
  show bindC kindOf ((p,w)::P.zip vs) m x=_;unfold bindC;exact zR (i:=i) (Wl.mp nd).2 (by simpa using h1) (by simpa using h2) hk
def start(N:List Str)(vs:List V):St:=vs.map some++List.replicate (N.length-vs.length) none
def sN(CX:vN)(P:Program)(w:World)(K:PySem.W.Frag)(mg:Str->Option Value)(base:Heap)(N:List Str)(qual:Str)(scope:Scope)(f:Addr)(cd:Value)(A:Around)(outer:List Env)(s:Shared)(H:Hp)(E:XK):Cx where
 prog:=P
 w:=w
 K:=K
 mg:=mg
 base:=base
 A:=A.deeper (envOfC qual scope s.heap.objs.size f cd)
 N:=N
 s₀:=s
 H₀:=H
 env:=envOfC qual scope s.heap.objs.size f cd
 outer:=outer
 stack:=envOfC qual scope s.heap.objs.size f cd::outer
 ex:=[]
 calm:=true
 fn:=λ _=>true
 pn:=[]
 xe:=λ e s'=>wpAny (model P w) (A.deeper (envOfC qual scope s.heap.objs.size f cd)) (leaving (envOfC qual scope s.heap.objs.size f cd) e) (λ _ s''=>CX outer H s E e s'') (λ e' s''=>CX outer H s E e' s'') s'
theorem A6{sc:Scope}{n:Nat}{x:Str}(h:sc.names.lookup x=some .cell):∃c,(cellsFrom n sc.names []).lookup x=some c:=by
 have q:=Wh sc.names n [] (.inl h);exact Wv.mp q
theorem HJ{CX:vN}{P:Program}{w:World}{K:PySem.W.Frag}{mg:Str->Option Value}{base:Heap}{N ps:List Str}{qual:Str}{scope:Scope}{f:Addr}{cd:Value}{A:Around}{outer:List Env}{s s1:Shared}{H:Hp}{E:XK}{us:List Value}{vs:List V}
 (S:aN N ps scope) (hd:A.handled=none) (e0:we P w K mg base A outer s H) (hl:vs.length=ps.length) (r:Vals vs us)
 (x:InCallC s s.heap.objs.size (bindL (envOfC qual scope s.heap.objs.size f cd).kindOf (ps.zip us) λ _=>none) (cellsFrom (s.heap.objs.size+1) scope.names []) (bindC (envOfC qual scope s.heap.objs.size f cd).kindOf (ps.zip us) λ _=>none) s1):
 Inv (sN CX P w K mg base N qual scope f cd A outer s H E) [] (start N vs) H s1:=by
 have hpl:ps.length<=N.length:=by have:=VH List.length S.pre;rw[Vn]at this;omega
 obtain⟨h1,tk,rfl,hk⟩:=x.done;have noA:∀b:Addr,b∉(sN CX P w K mg base N qual scope f cd A outer s H E).ex:=λ b z=>absurd (show b∈([]:List Addr)from z) (by simp)
 refine⟨⟨e0.mod,S.kind,rfl,rfl,Ue _,λ y z c h1 h2=>?_,λ y hy=>?_,λ y c _ h=>?_,λ _=>hd,Around.frames_deeper e0.frames,.inr ⟨rfl,rfl⟩,λ b z=>absurd z (noA b),e0.bs,e0.uJ,λ b _ _=>noA b,λ b z=>absurd z (noA b),e0.ma,e0.yh,e0.gt⟩,
  rfl,e0.bare,Un.kept hk,⟨_,x.toInCall.ns,λ i y v h1 h2 h3=>?_⟩,λ y c h=>⟨_,x.cell y c h⟩,e0.aO.fresh (Ue _),λ y c h=>?_,λ p hp=>absurd (show p∈([]:List (Addr×Obj))from hp) (by simp),e0.aO.kept hk,?_⟩
 . exact name_of_addr x.apart (UW h1) (UW h2)
 . have hy:scope.names.lookup y=some .cell\/scope.names.lookup y=some .free:=hy;rcases hy with hy|hy
   . exact A6 hy
   . exact absurd rfl (S.NT _ (UW hy))
 . exact VM (x.above y c (UW h))
 . have hi:i<vs.length:=by
    unfold start at h2;by_cases hi:i<vs.length
    . exact hi
    . rw[UH (by simpa using hi)]at h2;rw[Yz]at h2;split at h2<;>cases h2
   have ha:vs[i]?=some v:=by
    unfold start at h2;rw[Uh (by simpa using hi),Uw]at h2;cases e:vs[i]? with
    |none=>rw[e]at h2;cases h2
    |some a=>rw[e]at h2;cases h2;rfl
   obtain⟨u,hu,rv⟩:=r.get ha
   have hp:ps[i]?=some y:=by
    rw[<-S.pre,W5 (by omega)];exact h1
   have ndP:ps.Nodup:=by rw[<-S.pre];exact S.nd.sublist (List.take_sublist _ _)
   refine⟨u,rv,?_⟩;rcases S.par y (UJ hp)with k|k
   . exact .inl ⟨k,zy ndP hp hu k⟩
   . obtain⟨c,e⟩:=A6 (n:=s.heap.objs.size+1) k;refine .inr ⟨.inl k,c,e,?_⟩;have q:=x.cell y c e;rw[zR ndP hp hu (by show scope.names.lookup y≠_;rw[k];decide)]at q;exact q
 . exact e0.aO.fresh (VM (x.above y c (UW h)))
 . unfold start;show _=N.length;rw[VN,Uk,List.length_replicate];omega
theorem Kr{CX:vN}{P:Program}{w:World}{K:PySem.W.Frag}{mg:Str->Option Value}{base:Heap}{k:Nat}{f:Addr}{name qual:Str}{params:Arguments}{body:List Stmt}{scope:Scope}{dV kV doc pm cdv ct oc:Value}{an od:Option Addr}
 {osl:Array (Option Value)} {N ps:List Str} {sp:Sp} (lk:K.lookup f=some ⟨oc,od,.func (PySem.W.fnOf name qual params body scope dV kV doc pm an cdv ct),osl⟩) (hcd:PySem.W.codeIn K cdv qual=true) (S:aN N ps scope)
 (len:∀vs H Q E,sp vs H Q E->vs.length=ps.length)
 (hbody:∀(A:Around) (outer:List Env) (s:Shared) (H:Hp) (vs:List V) (Q:VK) (E:XK),cT k (A.deeper (envOfC qual scope s.heap.objs.size f cdv))->sp vs H Q E->
   ∃t,iK (sN CX P w K mg base N qual scope f cdv A outer s H E) body t/\t {nx:=λ _ H'=>Q .aF H',rt:=Q} (start N vs) H):
 bj P w K mg base CX (k+1) f (PySem.W.fnOf name qual params body scope dV kV doc pm an cdv ct) ps sp:=by
 refine⟨len,λ A outer s H args us vs Q E hr e0 hb r hsp=>?_⟩;have hl:=len _ _ _ _ hsp;have KX:K.In s.heap:=e0.mod.GF.keeps λ b o e=>(e0.bs b o e).1;have lim:s.heap.NoLimit:=e0.mod.nolimit.keeps λ b o e=>(e0.bs b o e).1
 have hkind:∀y∈ps.zip us,scope.names.lookup y.1=some .local\/(scope.names.lookup y.1=some .cell/\((cellsFrom (s.heap.objs.size+1) scope.names []).lookup y.1).isSome=true):=λ⟨n,v⟩ hy=>by
  rcases S.par n (XB hy).1 with q|q
  . exact .inl q
  . exact .inr ⟨q,Wh _ _ _ (.inl q)⟩
 refine codeAny_call_function hr.depth (KX _ _ lk) rfl S.co S.gen rfl (PySem.W.codeRec_of KX hcd) (hb _ _ _ _ ?_);refine wpAny_newFunctionEnv_cells S.kind hkind λ env he s1 x=>?_;subst he;refine⟨lim.keeps x.toInCall.keep,codeAny_func ?_⟩;obtain⟨t,ht,hq⟩:=hbody A outer s H vs Q E (hr.deeper _) hsp;have I:Inv (sN CX P w K mg base N qual scope f cdv A outer s H E) [] (start N vs) H s1:=HJ S hr.hd e0 hl r x;refine V1 (ht [] s1 (start N vs) H _ I hq) (λ fl s' hs=>?_) λ e s' hs=>hs
 have fin:∀ {σ':St} {H':Hp} {v:V} {u:Value},Inv (sN CX P w K mg base N qual scope f cdv A outer s H E) [] σ' H' s'->RelV v u->Q v H'->CE outer P w H s Q u s':=
  λ{σ' H' v u} J rv q=>⟨v,H',J.os,J.bare,J.base,J.aO,rv,q⟩
 cases fl with
 |ret u=>
  obtain⟨v,σ',H',J,rv,q⟩:=hs;exact fin J rv q
 |next=>
  obtain⟨σ',H',J,q⟩:=hs;exact fin (v:=V.aF) (u:=Value.none) J rfl q
 |brk=>
  obtain⟨_,_,_,q⟩:=hs;exact False.elim q
 |cont=>
  obtain⟨_,_,_,q⟩:=hs;exact False.elim q
section
variable {X:Cx}{x:Str}{p pos:Pos}{e:Expr}{es:List Expr}{t:TA}{id T:String}{r:List V->Hp->VK->Prop}
def Oc(r:List V->Hp->VK->Prop)(t:TA):TE:=λ σ H Q=>t σ H λ vs H1=>r vs H1 Q
theorem Ic(hc:cO X (.builtin id) r)(hg:Gl X x)(hm:X.mg x=none)(hv:bootBuiltins x=some (.builtin id))(ha:PA X (e::es) t)(hn:x≠"__name__":=by decide)(hdb:(x==("__debug__":Str))=false:=by decide)
 (he:starEach (e::es) X.env=(false,eval e X.env)::starEach es X.env:=by rfl) (hpl:(backTo pos (starEach es X.env)).any (·.1)=false:=by rfl):PE X (.Call (.Name x p) (e::es) [] pos) (Oc r t):=by
 intro pins s σ H Q I h;refine WC (kB I hg hm hv ?_ hn hdb);exact PyProof.Rows.callWith_builtin1 (b_ (ha pos pins s σ H _ I h) λ us s1 ⟨vs,H1,I1,r1,q1⟩=>hc pins s1 σ H1 vs us Q I1 r1 q1) he hpl
theorem GL(hc:cO X (.type T) r)(hg:Gl X x)(hm:X.mg x=none)(hv:bootBuiltins x=some (.type T))(ha:PA X (e::es) t)(hn:x≠"__name__":=by decide)(hdb:(x==("__debug__":Str))=false:=by decide)
 (he:starEach (e::es) X.env=(false,eval e X.env)::starEach es X.env:=by rfl) (hpl:(backTo pos (starEach es X.env)).any (·.1)=false:=by rfl):PE X (.Call (.Name x p) (e::es) [] pos) (Oc r t):=by
 intro pins s σ H Q I h;refine WC (kB I hg hm hv ?_ hn hdb);exact Vr (b_ (ha pos pins s σ H _ I h) λ us s1 ⟨vs,H1,I1,r1,q1⟩=>hc pins s1 σ H1 vs us Q I1 r1 q1) he hpl
end
end L2
namespace HT
open PySem PyProof.Rows
section
open PySem.SeqAt
open PySem.AutoSeq1 (wpAny_loadPart')
open PySem.MeetsSeq PySem.MeetsSeq2 PySem.MeetsSeq3
end
section
variable {prog:Program}{w:World}{A:Around}{E:Value->Shared->Prop}{s:Shared}
theorem Ly{t b:Addr}{vs ws:List Value}{Q:Value->Shared->Prop}(ht:IsTup s.heap t vs.toArray)(hb:IsTup s.heap b ws.toArray)(hv:vs≠ [])
 (h1:ws=[]->Q (.ref t) s) (h2:ws≠ []->Q (.ref s.heap.objs.size) {s with heap:=s.heap.push {cls:= .type "tuple",data:= .seq (vs++ws).toArray}})
 (hsz:vs.length+ws.length<=sizeLine):wpAny (model prog w) A (binaryOp .Add (.ref t) (.ref b)) Q E s:=by
 obtain⟨⟨cls,dd,data,sl⟩,ho,hc,n,hd⟩:=id ht;obtain⟨⟨cls2,dd2,data2,sl2⟩,ho2,hc2,n2,hd2⟩:=id hb;simp only at hc hd hc2 hd2;subst hc hd hc2 hd2;have e:vs.toArray++ws.toArray=(vs++ws).toArray:=by simp
 by_cases hw:ws=[]
 . exact Y2 ⟨_,ho,rfl⟩ ⟨_,ho2,rfl⟩ Yq YX Xh Xa (W6 _ _)
    (tuple_addW1 t b vs.toArray ws.toArray n n2 dd dd2 sl sl2 (by simpa using hv) (by simp[hw])) ⟨ho,ho2,h1 hw⟩
 . refine Y2 ⟨_,ho,rfl⟩ ⟨_,ho2,rfl⟩ Yq YX Xh Xa (W6 _ _)
    (tuple_addW2 t b vs.toArray ws.toArray n n2 dd dd2 sl sl2 (by simpa using hv) (by simpa using hw) (by rw[Um,Um];exact hsz)) ⟨ho,ho2,?_⟩
   rw[e];exact h2 hw
def cB(n d:Nat):Option Int->Nat
 |none=>d
 |some v=>if v<0 then(v+(n:Int)).toNat else min v.toNat n
theorem wz(n d:Nat):cB n d none=d:=rfl
theorem y6(n d k:Nat):cB n d (some (k:Int))=min k n:=by
 show(if(k:Int)<0 then((k:Int)+(n:Int)).toNat else min (k:Int).toNat n)=min k n;rw[Ub (by omega),UL]
theorem OK(n d:Nat)(hd:d<=n)(o:Option Int):cB n d o<=n:=by
 cases o with
 |none=>exact hd
 |some v=>
  show(if v<0 then(v+(n:Int)).toNat else min v.toNat n)<=n;by_cases hv:v<0
  . rw[Ud hv];omega
  . rw[Ub hv];exact Nat.min_le_right _ _
theorem Dj(v:Int)(n d:Nat):(if v<0 then max (v+(n:Int)) 0 else min v (n:Int))=((cB n d (some v):Nat):Int):=by
 show(if v<0 then max (v+(n:Int)) 0 else min v (n:Int))=(((if v<0 then(v+(n:Int)).toNat else min v.toNat n):Nat):Int)
 by_cases hv:v<0
 . simp only[Ud hv];omega
 . simp only[Ub hv];omega
theorem E2(lo hi:Option Int)(n:Nat):Builtin.Slice.sliceAdjust lo hi 1 (n:Int)=(((cB n 0 lo:Nat):Int),((cB n n hi:Nat):Int)):=by
 have h1:¬((1:Int)<0):=by omega
 unfold Builtin.Slice.sliceAdjust;simp only[h1,WR];refine Prod.ext ?_ ?_
 . cases lo with
   |none=>rfl
   |some v=>exact Dj v n 0
 . cases hi with
   |none=>rfl
   |some v=>exact Dj v n n
theorem EI(i j:Nat):Builtin.Slice.slicePlaces (i:Int) (j:Int) 1=j-i:=by
 unfold Builtin.Slice.slicePlaces;have h1:(1:Int)>0:=by omega
 simp only[h1,Wm,Int.ediv_one];split<;>omega
theorem xM{v:Value}{o:Option Int}{Q:Option Int->Shared->Prop}(p:IsPart v o)(h:Q o s):wpAny (model prog w) A (Builtin.Slice.slicePartIndex v) Q E s:=by
 cases p with
 |none=>exact slicePart_none h
 |int i t=>exact slicePart_int h
theorem pP{sl:Addr}{vl vu:Value}{lo hi:Option Int}{n:Nat}{Q:Int×Int×Nat->Shared->Prop}(hs:s.heap.IsSliceOf sl vl vu .none)(pl:IsPart vl lo)(pu:IsPart vu hi)
 (h:Q (((cB n 0 lo:Nat):Int),1,cB n n hi-cB n 0 lo) s):wpAny (model prog w) A (Builtin.Slice.sliceApplied (.ref sl) (pure (n:Int))) Q E s:=by
 obtain⟨os,hos,hcs,hds⟩:=id hs;unfold Builtin.Slice.sliceApplied Builtin.Slice.sliceFields;refine T_ (T_ (UY hos hds (x:=vl) rfl (T_ (UY hos hds (x:=vu) rfl (T_ (UY hos hds (x:= .none) rfl (Ul ?_)))))));refine T_ (slicePart_none ?_);show wpAny _ _ (if((1:Int)==0)=true then _ else _) _ _ s;rw[Ub (by decide)];refine T_ (xM pl (T_ (xM pu (T_ (Ul ?_)))));show wpAny _ _ (match Builtin.Slice.sliceAdjust lo hi 1 (n:Int)with|(lo,hi)=>pure (lo,(1:Int),Builtin.Slice.slicePlaces lo hi 1)) _ _ s;rw[E2 lo hi n];show wpAny _ _ (pure (((cB n 0 lo:Nat):Int),(1:Int),Builtin.Slice.slicePlaces ((cB n 0 lo:Nat):Int) ((cB n n hi:Nat):Int) 1)) _ _ s;rw[EI];exact Ul h
theorem Jg(xs:Array Value)(i k:Nat):((List.range k).filterMap λ(m:Nat)=>xs[((i:Int)+(m:Int)*1).toNat]?).toArray=((xs.toList.drop i).take k).toArray:=by
 have e:(λ(m:Nat)=>xs[((i:Int)+(m:Int)*1).toNat]?)=λ m=>xs[i+m]?:=by
  funext m;have:((i:Int)+(m:Int)*1).toNat=i+m:=by omega
  rw[this]
 rw[e];have:=pick_run xs i k;rw[List.filterMap_map]at this;have e2:((λ x=>xs[x]?)∘λ x=>i+x)=λ m=>xs[i+m]?:=rfl;rw[e2]at this;rw[this]
theorem vE{t sl:Addr}{items:Array Value}{vl vu:Value}{lo hi:Option Int}{Q:Value->Shared->Prop}(ht:IsTup s.heap t items)(hs:s.heap.IsSliceOf sl vl vu .none)(pl:IsPart vl lo)(pu:IsPart vu hi)
 (hw:¬(cB items.size 0 lo=0/\cB items.size items.size hi=items.size))
 (h:Q (.ref s.heap.objs.size) {s with heap:=s.heap.push {cls:= .type "tuple",data:= .seq ((items.toList.drop (cB items.size 0 lo)).take (cB items.size items.size hi-cB items.size 0 lo)).toArray}})
 (hsz:items.size<=sizeLine):wpAny (model prog w) A (getItem (.ref t) (.ref sl)) Q E s:=by
 have htake:sizeOk (.seq ((items.toList.drop (cB items.size 0 lo)).take (cB items.size items.size hi-cB items.size 0 lo)).toArray):=by
  show((items.toList.drop (cB items.size 0 lo)).take (cB items.size items.size hi-cB items.size 0 lo)).toArray.size<=sizeLine;rw[Um,Vn,Xq,Wy];omega
 have hj:cB items.size items.size hi<=items.size:=OK _ _ (Ue _) hi;obtain⟨os,hos,hcs,hds⟩:=id hs;have hTs:s.TypeIs (.ref sl) "slice":=⟨os,hos,hcs⟩
 unfold getItem;try with_reducible refine WA ?_
 first|refine T_ (Ul ?_)|skip
 refine T_ (wpAny_sequenceKey ht.typeIs (by decide) ?_)
 refine T_ (Vh (name:=Str.ofString "__getitem__") ht.typeIs Vs
  (VO Vs ht.typeIs entry_tuple_getitem ?_ (args_tuple_getitem _ _)))
 show wpAny _ _ (Builtin.Tuple.tupleItemsOf (.ref t) >>= _) _ _ s;refine T_ (tupleItemsOf_ ht ?_);refine T_ (Y3 hTs ?_);rw[Ud (by decide)];refine T_ (pP hs pl pu ?_)
 have hno:¬((((cB items.size 0 lo:Nat):Int)==0&&(1:Int)==1&&(cB items.size items.size hi-cB items.size 0 lo)==items.size)=true):=by
  intro q;rw[Vb,Vb]at q;have q1:((cB items.size 0 lo:Nat):Int)=0:=eq_of_beq q.1.1;have q2:cB items.size items.size hi-cB items.size 0 lo=items.size:=eq_of_beq q.2;exact hw ⟨by omega,by omega⟩
 show wpAny _ _ (if(((cB items.size 0 lo:Nat):Int)==0&&(1:Int)==1&&(cB items.size items.size hi-cB items.size 0 lo)==items.size)=true then _ else _) _ _ s;rw[Ub hno,Jg]
 first
  |exact T_ (m:=Builtin.Tuple.tupleExact _) (V_ (Ul ⟨_,rfl,Ul h⟩) htake)
  |exact T_ (m:=Builtin.Tuple.tupleExact _) (V_ (T_ (Ul (Ul ⟨_,rfl,Ul h⟩))) htake)
  |exact T_ (T_ (m:=Builtin.Tuple.tupleExact _) (V_ (Ul (Ul ⟨_,rfl,Ul h⟩)) htake))
  |exact T_ (T_ (m:=Builtin.Tuple.tupleExact _) (V_ (Ul ⟨_,rfl,Ul h⟩) htake))
end
end HT
namespace L2
open PySem PySem.Spec PyProof.Rows
abbrev TO:=St->Hp->(Option Int->Hp->Prop)->Prop
def PO(X:Cx)(e:Option Expr)(t:TO):Prop:=
 ∀(pins:List (Addr×Obj)) (s:Shared) (σ:St) (H:Hp) (Q:Option Int->Hp->Prop),Inv X pins σ H s->t σ H Q->
  wpAny (model X.prog X.w) X.A (evalPart e X.env) (λ u s'=>∃o H',Inv X pins σ H' s'/\IsPart u o/\Q o H') X.xe s
def M7:TO:=λ _ H Q=>Q none H
def Q4(t:TE):TO:=λ σ H Q=>t σ H λ x H1=>∃i,x= .int i/\Q (some i) H1
section
variable {X:Cx}{e:Expr}{te:TE}{lo hi:Option Expr}{tl th:TO}{pos p2:Pos}
theorem MP:PO X none M7:=by
 intro pins s σ H Q I h;rw[evalPart_none];exact Ul ⟨none,H,I,.none,h⟩
theorem L5(h:PE X e te):PO X (some e) (Q4 te):=by
 intro pins s σ H Q I hw;rw[evalPart_some];refine b_ (h pins s σ H _ I hw) λ u s1 ⟨x,H1,I1,r1,q1⟩=>?_;obtain⟨i,rfl,q⟩:=q1;obtain⟨t,rfl⟩:=r1;exact⟨some i,H1,I1,.int i t,q⟩
def Ho(X:Cx)(r:V->Option Int->Option Int->Hp->VK->Prop):Prop:=
 ∀(pins:List (Addr×Obj)) (s:Shared) (σ:St) (H:Hp) (x:V) (v vl vu:Value) (lo hi:Option Int) (sl:Addr) (Q:VK),Inv X pins σ H s->RelV x v->s.heap.IsSliceOf sl vl vu .none->IsPart vl lo->IsPart vu hi->r x lo hi H Q->
  ∃T id,typeLookup (.type T) "__getitem__"=pure (some (.builtin id))/\s.TypeIs v T/\wpAny (model X.prog X.w) X.A (getItem v (.ref sl)) (EP X pins σ Q) X.xe s
def Tx(r:V->Option Int->Option Int->Hp->VK->Prop)(te:TE)(tl th:TO):TE:=λ σ H Q=>te σ H λ x H1=>tl σ H1 λ l H2=>th σ H2 λ u H3=>r x l u H3 Q
theorem Ji{r:V->Option Int->Option Int->Hp->VK->Prop}(hr:Ho X r)(he:PE X e te)(hl:PO X lo tl)(hu:PO X hi th):PE X (.Subscript e (.Slice lo hi none p2) pos) (Tx r te tl th):=by
 intro pins s σ H Q I h;refine Subscript_ (b_ (he pins s σ H _ I h) λ v s1 ⟨x,H1,I1,r1,q1⟩=>?_);refine wpAny_Slice (b_ (hl pins s1 σ H1 _ I1 q1) λ vl s2 ⟨l,H2,I2,pl,q2⟩=>b_ (hu pins s2 σ H2 _ I2 q2) λ vu s3 ⟨u,H3,I3,pu,q3⟩=>?_);rw[evalPart_none];refine Ul ?_;have I4:Inv X pins σ H3 {s3 with heap:=s3.heap.push {cls:= .type "slice",data:= .fields #[vl,vu,.none]}}:=I3.kept (t':=s3.toks) λ b ob q=>Uc _ q;obtain⟨T,id,hT,ht,hg⟩:=hr pins {s3 with heap:=s3.heap.push {cls:= .type "slice",data:= .fields #[vl,vu,.none]}} σ H3 x v vl vu l u s3.heap.objs.size Q I4 r1 (Heap.IsSliceOf.new ..) pl pu q3;show wpAny (model X.prog X.w) X.A (subscriptTail e (.Slice lo hi none p2) v (.ref s3.heap.objs.size)) (EP X pins σ Q) X.xe {s3 with heap:=s3.heap.push {cls:= .type "slice",data:= .fields #[vl,vu,.none]}};exact tail_any (ops:=[.ref s3.heap.objs.size,v]) ht hT hg (by with_unfolding_all rfl)
def sd(xs:List V)(lo hi:Option Int):List V:=(xs.drop (HT.cB xs.length 0 lo)).take (HT.cB xs.length xs.length hi-HT.cB xs.length 0 lo)
theorem vI(xs:List V)(lo hi:Option Int):(sd xs lo hi).length<=xs.length:=by
 unfold sd;rw[Vn,Xq];omega
def SS(K:PySem.W.Frag):V->Option Int->Option Int->Hp->VK->Prop:=λ x lo hi H Q=>∃a xs,x= .ref a/\jH K H a xs/\
 ¬(HT.cB xs.length 0 lo=0/\HT.cB xs.length xs.length hi=xs.length)/\∀p,H p=none->Q (.ref p) (upd H p (.tup (sd xs lo hi)))
theorem OP:Ho X (SS X.K):=by
 intro pins s σ H x v vl vu lo hi sl Q I rx hs pl pu h;obtain⟨a,xs,rfl,hx,hw,q⟩:=h;cases rx;obtain⟨its,r,ht,hz⟩:=I.tuple hx;have hlen:its.toArray.size=xs.length:=by rw[Um];exact r.length.symm
 refine⟨"tuple",_,Vs.lookup,ht.typeIs,?_⟩;refine HT.vE ht hs pl pu (by rw[hlen];exact hw) ?_ (by rw[hlen];exact hz);rw[hlen];refine⟨.ref s.heap.objs.size,_,I.laid (t':=s.toks) (o:= .tup (sd xs lo hi)) (λ b ob q=>Uc _ q) (Ue _) ?_,rfl,q _ (I.aO.fresh (Ue _))⟩;exact⟨Uj (vI xs lo hi) hz,_,(r.drop (HT.cB xs.length 0 lo)).take (HT.cB xs.length xs.length hi-HT.cB xs.length 0 lo),IsTup.new _ _⟩
def Qh(K:PySem.W.Frag):R2:=λ x y H Q=>∃a b xs ys,x= .ref a/\y= .ref b/\jH K H a xs/\jH K H b ys/\xs≠ []/\xs.length+ys.length<=sizeLine/\
 (ys=[]->Q (.ref a) H)/\(ys≠ []->∀p,H p=none->Q (.ref p) (upd H p (.tup (xs++ys))))
theorem Vals.uT{xs:List V}{us:List Value}(r:Vals xs us):us=[]↔xs=[]:=by
 cases r with
 |nil=>simp
 |cons _ _=>simp
theorem Nt:cp X (binaryOp .Add) (Qh X.K):=by
 intro pins s σ H x y v u Q I rx ry h;obtain⟨a,b,xs,ys,rfl,rfl,ha,hb,hx,hz,q1,q2⟩:=h;cases rx;cases ry;obtain⟨its,r1,p1,_⟩:=I.tuple ha;obtain⟨its2,r2,p2,_⟩:=I.tuple hb;refine HT.Ly p1 p2 (λ z=>hx (r1.uT.mp z)) (λ z=>⟨.ref a,H,I,rfl,q1 (r2.uT.mp z)⟩) (λ z=>?_) (by rw[<-r1.length,<-r2.length];exact hz);refine⟨.ref s.heap.objs.size,_,I.laid (t':=s.toks) (o:= .tup (xs++ys)) (λ b ob q=>Uc _ q) (Ue _) ?_,rfl,q2 (λ w=>z (r2.uT.mpr w)) _ (I.aO.fresh (Ue _))⟩;exact⟨by rw[VN];exact hz,_,r1.append r2,IsTup.new _ _⟩
end
def lO(n:Nat)(i:Int):Option Nat:=if 0<=i then(if i<n then some i.toNat else none)else if-(n:Int)<=i then some (i+n).toNat else none
def dY{α:Type}(xs:List α)(i:Int):Option α:=(lO xs.length i).bind λ j=>xs[j]?
theorem yw{n:Nat}{i:Int}{j:Nat}(h:lO n i=some j):seqIndex? i n=some j/\j<n/\ -(n:Int)<=i/\i<n:=by
 unfold lO at h;by_cases h0:0<=i
 . rw[Ud h0]at h;by_cases h1:i<n
   . rw[Ud h1]at h;have e:i.toNat=j:=U6 h;exact⟨by rw[YE h0 h1,e],by omega,by omega,h1⟩
   . rw[Ub h1]at h;cases h
 . rw[Ub h0]at h;by_cases h1: -(n:Int)<=i
   . rw[Ud h1]at h;have e:(i+n).toNat=j:=U6 h;exact⟨by rw[seqIndex_neg (by omega) h1,e],by omega,h1,by omega⟩
   . rw[Ub h1]at h;cases h
theorem yt{α:Type}{xs:List α}{i:Int}{v:α}(h:dY xs i=some v):∃j,seqIndex? i xs.length=some j/\xs[j]?=some v/\j<xs.length/\ -(xs.length:Int)<=i/\i<xs.length:=by
 unfold dY at h;cases e:lO xs.length i with
 |none=>rw[e]at h;cases h
 |some j=>
  rw[e]at h;obtain⟨h1,h2,h3,h4⟩:=yw e;exact⟨j,h1,h,h2,h3,h4⟩
theorem iC{α:Type}{xs:List α}{j:Nat}{v:α}(h:xs[j]?=some v):dY xs (j:Int)=some v:=by
 have hj:j<xs.length:=(Ua.mp h).1
 have e:lO xs.length (j:Int)=some j:=by
  unfold lO;rw[Ud (by omega),Ud (by omega)];simp
 unfold dY;rw[e];exact h
theorem JJ{α:Type}(xs:List α)(v:α):dY (xs++[v]) (-1)=some v:=by
 have hl:(xs++[v]).length=xs.length+1:=by simp
 have e:lO (xs++[v]).length (-1)=some xs.length:=by
  unfold lO;rw[hl,Ub (by decide),Ud (by omega)];congr 1;omega
 unfold dY;rw[e];show(xs++[v])[xs.length]?=some v;simp
def u_(b:Expr):Prop:=∀o i,subscripted b false o i=operate [o,i] (getItem o i)
def KG(X:Cx)(r:R2):Prop:=
 ∀(value slice:Expr) (pins:List (Addr×Obj)) (s:Shared) (σ:St) (H:Hp) (x y:V) (v u:Value) (Q:VK),Inv X pins σ H s->RelV x v->RelV y u->r x y H Q->
  subscripted slice false v u=operate [v,u] (getItem v u)->wpAny (model X.prog X.w) X.A (subscriptTail value slice v u) (EP X pins σ Q) X.xe s
def RP(X:Cx)(id:String)(r:V->List V->Hp->VK->Prop):Prop:=
 ∀(pins:List (Addr×Obj)) (s:Shared) (σ:St) (H:Hp) (x:V) (xs:List V) (v:Value) (us:List Value) (Q:VK),Inv X pins σ H s->RelV x v->Vals xs us->r x xs H Q->
  wpAny (model X.prog X.w) X.A (call (.builtin id) (v::us)) (EP X pins σ Q) X.xe s
section
variable {X:Cx}{a b:Expr}{ta tb:TE}{pos:Pos}
theorem QG{r:R2}(hr:KG X r)(ha:PE X a ta)(hb:PE X b tb)(hs:u_ b):PE X (.Subscript a b pos) (H_ r ta tb):=by
 intro pins s σ H Q I h;exact Subscript_ (Jk ha hb I h λ v u s2 x y H2 I2 rx ry q=>hr a b pins s2 σ H2 x y v u Q I2 rx ry q (hs _ _))
def Td(K:PySem.W.Frag):R2:=λ x y H Q=>∃p xs i v,x= .ref p/\y= .int i/\nP K H p xs/\dY xs i=some v/\Q v H
def S9(K:PySem.W.Frag):R2:=λ x y H Q=>∃p xs i v,x= .ref p/\y= .int i/\jH K H p xs/\dY xs i=some v/\Q v H
theorem DR:KG X (Td X.K):=by
 intro value slice pins s σ H x y v u Q I rx ry h hs;obtain⟨p,xs,i,z,rfl,rfl,hq,he,q⟩:=h;cases rx;obtain⟨t,rfl⟩:=ry;obtain⟨its,r,pl,hz⟩:=I.list hq;obtain⟨j,h1,h2,h3,h4,h5⟩:=yt he;obtain⟨w,ew,rw'⟩:=r.get h2;have hl:=r.length;have hn:=rG;have fin:EP X pins σ Q w s:=⟨z,H,I,rw',q⟩
 by_cases h0:0<=i
 . have hj:i.toNat=j:=by
    rw[YE h0 h5]at h1;exact U6 h1
   exact item_listR pl.isList h0 (by omega) (by rw[hj];simpa using ew) fin hs
 . have hj:(i+(its.toArray.size:Int)).toNat=j:=by
    rw[seqIndex_neg (by omega) h4]at h1;rw[Um,<-hl];exact U6 h1
   exact subscriptTail_builtinR (x:=w) pl.isList.typeIs slot_list_getitem.lookup
    (wpAny_getItem_list_neg (Q:=λ r s'=>r=w/\EP X pins σ Q r s') pl.isList (by omega) (by rw[Um]<;>omega) (by omega) (by rw[hj];simpa using ew) ⟨rfl,fin⟩) hs
theorem Pw:KG X (S9 X.K):=by
 intro value slice pins s σ H x y v u Q I rx ry h hs;obtain⟨p,xs,i,z,rfl,rfl,hq,he,q⟩:=h;cases rx;obtain⟨t,rfl⟩:=ry;obtain⟨its,r,pl,hz⟩:=I.tuple hq;obtain⟨j,h1,h2,h3,h4,h5⟩:=yt he;obtain⟨w,ew,rw'⟩:=r.get h2;have hl:=r.length;have hn:=rG;have fin:EP X pins σ Q w s:=⟨z,H,I,rw',q⟩
 exact subscriptTail_builtinR (x:=w) pl.typeIs slot_tuple_getitem.lookup
  (getItem_tuple (j:=j) (Q:=λ r s'=>r=w/\EP X pins σ Q r s') pl (by omega) (by omega) (by rw[Um,<-hl];exact h1) (by simpa using ew) ⟨rfl,fin⟩) hs
theorem EW(its:List Value)(n j:Nat)(u:Value):Obj.mapSeq (·.setIfInBounds j u) {cls:= .type "list",data:= .seq its.toArray n}= {cls:= .type "list",data:= .seq (its.set j u).toArray n}:=by
 simp[Obj.mapSeq]
theorem Inv.lst{pins:List (Addr×Obj)}{σ:St}{H:Hp}{s:Shared}{p:Addr}{xs:List V}(I:Inv X pins σ H s)(h:H p=some (.lst xs)):
 ∃(its:List Value) (n:Nat),Vals xs its/\s.heap.get? p=some {cls:= .type "list",data:= .seq its.toArray n}/\xs.length<=sizeLine:=by
 obtain⟨z,its,n,r,e⟩:=I.aO p _ h;exact⟨its,n,r,e,z⟩
theorem Inv.NH{pins:List (Addr×Obj)}{σ:St}{H:Hp}{s:Shared}{p:Addr}{xs ys:List V}{its its':List Value}{n n':Nat}{f:Obj->Obj}(I:Inv X pins σ H s)(h:H p=some (.lst xs))
 (ho:s.heap.get? p=some {cls:= .type "list",data:= .seq its.toArray n}) (hf:f {cls:= .type "list",data:= .seq its.toArray n}= {cls:= .type "list",data:= .seq its'.toArray n'}) (r:Vals ys its') (hz:ys.length<=sizeLine) (t:Nat):
 Inv X pins σ (upd H p (.lst ys)) {s with heap:=s.heap.update p f,toks:=t}:=by
 have e:(s.heap.update p f).get? p=some {cls:= .type "list",data:= .seq its'.toArray n'}:=by
  rw[Xw f ho (by rw[hf]<;>rfl),hf]
 refine I.write (x:=p) (e:=p) (by rw[h];trivial) (.inl rfl) (λ b u hb q=>(YF _ _ (Ui hb)).trans q) ⟨_,e⟩ ?_;exact⟨hz,its',n',r,e⟩
def Ai:V->V->V->Hp->(Hp->Prop)->Prop:=λ o i v H Q=>∃p xs k j,o= .ref p/\i= .int k/\H p=some (.lst xs)/\lO xs.length k=some j/\Q (upd H p (.lst (xs.set j v)))
theorem set_list:J9 X Ai:=by
 intro pins s σ H o i v ov iv u Q I ro ri rv h;obtain⟨p,xs,k,j,rfl,rfl,hp,hj,q⟩:=h;cases ro;obtain⟨t,rfl⟩:=ri;obtain⟨its,n,r,ho,hz⟩:=I.lst hp;obtain⟨h1,h2,h3,h4⟩:=yw hj;have hl:=r.length;have hn:=rG
 have I':Inv X pins σ (upd H p (.lst (xs.set j v))) {s with heap:=s.heap.update p (Obj.mapSeq (·.setIfInBounds j u))}:=
  I.NH hp ho (EW its n j u) (r.set rv j) (by rw[Us];exact hz) s.toks
 by_cases h0:0<=k
 . have hk:k.toNat=j:=by
    rw[YE h0 h4]at h1;exact U6 h1
   exact PySem.W.ki_setAt ho h0 (by omega) (by rw[Um,<-hl];exact h4) (by rw[hk];exact⟨_,I',q⟩)
 . have hk:(k+(its.toArray.size:Int)).toNat=j:=by
    rw[seqIndex_neg (by omega) h3]at h1;rw[Um,<-hl];exact U6 h1
   exact PySem.W.ki_setBack ho (by omega) (by rw[Um,<-hl];exact h3) (by omega) (by rw[hk];exact⟨_,I',q⟩)
theorem CM(lo hi:Option Int)(n:Nat):(sliceBounds lo hi none n).1=((HT.cB n 0 lo:Nat):Int)/\(sliceBounds lo hi none n).2.1=((HT.cB n n hi:Nat):Int)/\(sliceBounds lo hi none n).2.2=1:=by
 refine⟨?_,?_,rfl⟩
 . cases lo with
   |none=>simp[sliceBounds,HT.cB]
   |some i=>
    simp only[sliceBounds,HT.cB,Option.getD_none,show(1:Int)>0 by decide,Wm];by_cases h:i<0
    . simp only[h,Wm]<;>omega
    . simp only[h,WR]<;>omega
 . cases hi with
   |none=>simp[sliceBounds,HT.cB]
   |some i=>
    simp only[sliceBounds,HT.cB,Option.getD_none,show(1:Int)>0 by decide,Wm];by_cases h:i<0
    . simp only[h,Wm]<;>omega
    . simp only[h,WR]<;>omega
theorem zX(its:List Value)(lo hi:Option Int):slicePick its.toArray lo hi none=((its.drop (HT.cB its.length 0 lo)).take (HT.cB its.length its.length hi-HT.cB its.length 0 lo)).toArray:=by
 obtain⟨h1,h2,h3⟩:=CM lo hi its.toArray.size;unfold slicePick;rw[h1,h2,h3];simp only[sliceRange_one,pick_run,Um]<;>rfl
def Sv(K:PySem.W.Frag):V->Option Int->Option Int->Hp->VK->Prop:=λ x lo hi H Q=>∃a xs,x= .ref a/\nP K H a xs/\∀p,H p=none->Q (.ref p) (upd H p (.lst (sd xs lo hi)))
theorem DC:Ho X (Sv X.K):=by
 intro pins s σ H x v vl vu lo hi sl Q I rx hs pl pu h;obtain⟨a,xs,rfl,hx,q⟩:=h;cases rx;obtain⟨its,r,ht,hz⟩:=I.list hx;have hlen:=r.length;refine⟨"list",_,slot_list_getitem.lookup,ht.isList.typeIs,?_⟩;refine wpAny_getItem_list_slice ht.isList hs pl pu .none (by simp) ?_ (by rw[Um]<;>omega);rw[zX,<-hlen];refine⟨.ref s.heap.objs.size,_,I.laid (t':=s.toks) (o:= .lst (sd xs lo hi)) (λ b ob q=>Uc _ q) (Ue _) ?_,rfl,q _ (I.aO.fresh (Ue _))⟩;exact⟨Uj (vI xs lo hi) hz,_,0,(r.drop (HT.cB xs.length 0 lo)).take (HT.cB xs.length xs.length hi-HT.cB xs.length 0 lo),Ut _ rfl⟩
theorem CK:cO X (.builtin "len") (λ xs H Q=>∃p ys,xs=[.ref p]/\(nP X.K H p ys\/jH X.K H p ys)/\Q (.int ys.length) H):=by
 intro pins s σ H xs us Q I r h;obtain⟨p,ys,rfl,hq,q⟩:=h;obtain⟨u,rfl,rx⟩:=vals1 r;cases rx;have hn:=rG;rcases hq with hq|hq
 . obtain⟨its,r',pl,hz⟩:=I.list hq;have hlen:=r'.length;exact Calls.call_len_list pl.isList (by simp only[Um]<;>omega) ⟨.int ys.length,H,I.tok _,⟨s.toks+1,by rw[Um,hlen]⟩,q⟩
 . obtain⟨its,r',pl,hz⟩:=I.tuple hq;have hlen:=r'.length;exact len_tuple pl (by simp only[Um]<;>omega) ⟨.int ys.length,H,I.tok _,⟨s.toks+1,by rw[Um,hlen]⟩,q⟩
theorem BR:cO X (.builtin "len") (λ xs H Q=>∃z,xs=[.str z]/\z.length<=sizeLine/\Q (.int z.length) H):=by
 intro pins s σ H xs us Q I r h;obtain⟨z,rfl,hz,q⟩:=h;obtain⟨u,rfl,t,rfl⟩:=vals1 r;have hn:=rG;exact len_str (by omega) ⟨.int z.length,H,I.tok _,⟨_,rfl⟩,q⟩
theorem uK:cO X (.type "list") (λ xs H Q=>∃p ys,xs=[.ref p]/\(nP X.K H p ys\/jH X.K H p ys)/\∀l,H l=none->Q (.ref l) (upd H l (.lst ys))):=by
 intro pins s σ H xs us Q I r h;obtain⟨p,ys,rfl,hq,q⟩:=h;obtain⟨u,rfl,rx⟩:=vals1 r;cases rx
 have fin:∀(its:List Value),Vals ys its->ys.length<=sizeLine->∀(h':Heap) (c':Nat),(∀b o',s.heap.get? b=some o'->h'.get? b=some o')->
  h'.get? s.heap.objs.size=some {cls:= .type "list",dict:=none,data:= .seq its.toArray c',slots:= #[]}->EP X pins σ Q (.ref s.heap.objs.size) {s with heap:=h'}:=λ its r' hz h' c' kp e=>
  ⟨.ref s.heap.objs.size,_,I.laid (t':=s.toks) kp (Ue _) (show dP X.prog X.w _ h' _ (.lst ys)from⟨hz,its,c',r',e⟩),rfl,q _ (I.aO.fresh (Ue _))⟩
 rcases hq with hq|hq
 . obtain⟨its,r',pl,hz⟩:=I.list hq;have hlen:=r'.length;obtain⟨o,ho,hc,n,hd⟩:=pl.isList;exact call_list_seq p (.inl rfl) ho hc hd (λ h' c' kp e=>fin its r' hz h' c' kp e) (by simp only[Um]<;>omega)
 . obtain⟨its,r',pl,hz⟩:=I.tuple hq;have hlen:=r'.length;obtain⟨o,ho,hc,n,hd⟩:=pl;exact call_list_seq p (.inr rfl) ho hc hd (λ h' c' kp e=>fin its r' hz h' c' kp e) (by simp only[Um]<;>omega)
theorem Ab:cO X (.type "tuple") (λ xs H Q=>∃p ys,xs=[.ref p]/\((nP X.K H p ys/\∀l,H l=none->Q (.ref l) (upd H l (.tup ys)))\/(jH X.K H p ys/\Q (.ref p) H))):=by
 intro pins s σ H xs us Q I r h;obtain⟨p,ys,rfl,h⟩:=h;obtain⟨u,rfl,rx⟩:=vals1 r;cases rx;rcases h with⟨hq,q⟩|⟨hq,q⟩
 . obtain⟨its,r',pl,hz⟩:=I.list hq;have hlen:=r'.length;refine call_tuple_list pl.isList (λ h' kp=>?_) (by simp only[Um]<;>omega);have I1:Inv X pins σ H {s with heap:=h'}:=I.kept (t':=s.toks) kp
   have I2:Inv X pins σ (upd H h'.objs.size (.tup ys)) {s with heap:=h'.push {cls:= .type "tuple",data:= .seq its.toArray}}:=
    I1.laid (t':=s.toks) (λ b o e=>Uc _ e) (Ue _) (show dP X.prog X.w _ _ _ (.tup ys)from⟨hz,its,r',IsTup.new _ _⟩)
   exact⟨.ref h'.objs.size,_,I2,rfl,q _ (I1.aO.fresh (Ue _))⟩
 . obtain⟨its,r',pl,hz⟩:=I.tuple hq;exact call_tuple_same pl ⟨.ref p,H,I,rfl,q⟩
def RI(K:PySem.W.Frag)(T:String)(x:V)(H:Hp):Prop:=match x with
 | .str _=>T="str"
 | .int _=>T="int"
 | .ref p=>(T="list"/\∃xs,nP K H p xs)\/(T="tuple"/\∃o,K.lookup p=some o/\o.cls= .type "tuple"/\o.dict=none)\/
    (T="dict"/\((∃kvs,H p=some (.dK kvs))\/∃kvs,H p=some (.dT kvs)))\/(T="set"/\∃S n,H p=some (.set S n))
 |_=>False
theorem Oa{pins:List (Addr×Obj)}{σ:St}{H:Hp}{s:Shared}{T:String}{x:V}{v:Value}(I:Inv X pins σ H s)(r:RelV x v)(ty:RI X.K T x H):
 s.TypeIs v T/\∀a,v= .ref a->∃ob,s.heap.get? a=some ob/\ob.dict=none:=by
 cases x with
 |str z=>
  obtain⟨t,rfl⟩:=r;cases (show T="str" from ty);exact⟨typeIs_str s z t,λ _ e=>nomatch e⟩
 |int i=>
  obtain⟨t,rfl⟩:=r;cases (show T="int" from ty);exact⟨Yh s i t,λ _ e=>nomatch e⟩
 |ref p=>
  cases r;rcases ty with⟨rfl,xs,hq⟩|⟨rfl,o,hk,hc,hd⟩|⟨rfl,hk⟩|⟨rfl,S,n,hk⟩
  . obtain⟨its,_,pl,_⟩:=I.list hq;refine⟨pl.isList.typeIs,λ a e=>?_⟩;cases e;obtain⟨o,n,e,c,hd,_⟩:=pl;exact⟨o,e,hd⟩
  . refine⟨⟨o,I.iG p o hk,hc⟩,λ a e=>?_⟩;cases e;exact⟨o,I.iG _ o hk,hd⟩
  . have z:∃o,s.heap.get? p=some o/\o.ExactDict:=by
     rcases hk with⟨kvs,hk⟩|⟨kvs,hk⟩
     . obtain⟨_,_,_,_,o,_,_,e,ex,_⟩:=I.aO p _ hk;exact⟨o,e,ex⟩
     . obtain⟨_,_,_,_,o,_,_,e,ex,_⟩:=I.aO p _ hk;exact⟨o,e,ex⟩
    obtain⟨o,e,ex⟩:=z;refine⟨⟨o,e,ex.1⟩,λ a e2=>?_⟩;cases e2;exact⟨o,e,ex.2.1⟩
  . obtain⟨o,_,_,_,e,ex,_⟩:=I.aO p _ hk;refine⟨⟨o,e,ex.1⟩,λ a e2=>?_⟩;cases e2;exact⟨o,e,ex.2.1⟩
 |_=>exact False.elim ty
def R0(K:PySem.W.Frag)(T:String)(r:V->List V->Hp->VK->Prop)(to:TE)(t:TA):TE:=λ σ H Q=>to σ H λ x H1=>RI K T x H1/\t σ H1 λ xs H2=>r x xs H2 Q
variable {o e:Expr}{es:List Expr}{to:TE}{t:TA}{name:Str}{apos cpos:Pos}{T id:String}{r:V->List V->Hp->VK->Prop}
theorem QH(pa:PlainAttrs T)(slot:Slot T name id)(hty:typeOf (.builtin id)=pure (.type "method_descriptor"))(hm:RP X id r)(ho:PE X o to)(ha:PA X (e::es) t)
 (hbase:attributeBase o name X.env (eval o X.env)=eval o X.env:=by rfl)
 (hfew:((backTo cpos (starEach (e::es) X.env)).all (λ x=> !x.1)&&(backToKw cpos (keywordEach [] X.env)).all (λ x=>x.1.isSome)
   &&decide ((e::es).length+([]:List Keyword).length+(if([]:List Keyword).isEmpty then 0 else 1)<30))=true:=by rfl)
 (hline:(apos.endLine==cpos.line)=true:=by rfl) (hs:starEach (e::es) X.env=(false,eval e X.env)::starEach es X.env:=by rfl) (hplain:(backTo cpos (starEach es X.env)).any (·.1)=false:=by rfl):
 PE X (.Call (.Attribute o name apos) (e::es) [] cpos) (R0 X.K T r to t):=by
 intro pins s σ H Q I h;refine wpAny_Call_method_late hbase hfew hline rfl (b_ (ho pins s σ H _ I h) λ v s1 ⟨x,H1,I1,r1,ty,q1⟩=>?_);obtain⟨h1,h2⟩:=Oa I1 r1 ty;refine⟨T,id,pa,slot,hty,h1,h2,?_⟩;have hA:=ha cpos pins s1 σ H1 _ I1 q1;rw[hs]at hA⊢;refine Calls.callWith_builtin (by show(false||(backTo cpos (starEach es X.env)).any (·.1))=false;rw[hplain]<;>rfl) (Calls.evalArgs_plain ?_);exact b_ hA λ us s2 ⟨vs,H2,I2,r2,q2⟩=>hm pins s2 σ H2 x vs v us Q I2 r1 r2 q2
/-xs.append(e),list.index on a module's tuple .. are RP facts of 06m-/
end
def TQ(X:Cx)(id:String)(r:V->List V->Hp->VK->Prop):Prop:=
 ∀(pins:List (Addr×Obj)) (s:Shared) (σ:St) (H:Hp) (x:V) (xs:List V) (v:Value) (us:List Value) (Q:VK),Inv X pins σ H s->RelV x v->Vals xs us->r x xs H Q->
  wpAny (model X.prog X.w) X.A (call (.builtin id) (v::us)) (EP X pins σ Q) X.xe s
theorem Vals.one:∀ {x:V} {us:List Value},Vals [x] us->∃u,us=[u]/\RelV x u
 |_,_,.cons r .nil=>⟨_,rfl,r⟩
theorem Vals.rep{xs:List V}{us:List Value}(h:Vals xs us):∀k:Nat,Vals (List.replicate k xs).flatten (List.replicate k us).flatten
 |0=> .nil
 |k+1=>by
  rw[VI,VI,Wa,Wa];exact Vals.append h (Vals.rep h k)
theorem foldl_rep(its:List Value):∀(k:Nat) (acc:List Value),
 List.foldl (λ x1 x2=>x1++x2) acc.toArray (List.replicate k its.toArray)=(acc++(List.replicate k its).flatten).toArray
 |0,acc=>by simp
 |k+1,acc=>by
  have e:acc.toArray++its.toArray=(acc++its).toArray:=by simp
  have e2:(acc++its)++(List.replicate k its).flatten=acc++(List.replicate (k+1) its).flatten:=by
   rw[VI,Wa,VU]
  rw[<-e2,<-foldl_rep its k (acc++its),<-e,VI,List.foldl_cons]
section
variable {X:Cx}{pins:List (Addr×Obj)}{σ:St}{H:Hp}{s:Shared}{l b:Addr}{xs ys zs:List V}
theorem Inv.SF{its its':List Value}{n:Nat}{f:Array Value->Array Value}{t':Nat}(I:Inv X pins σ H s)(hH:H l=some (.lst xs))
 (e:s.heap.get? l=some {cls:= .type "list",data:= .seq its.toArray n}) (hf:f its.toArray=its'.toArray) (hv:Vals ys its') (hz:ys.length<=sizeLine):
 Inv X pins σ (upd H l (.lst ys)) {s with heap:=s.heap.update l (Obj.mapSeq f),toks:=t'}:=by
 have q:=PySem.IsL.update e f;rw[hf]at q;refine I.write (x:=l) (e:=l) (by rw[hH];exact trivial) (.inl rfl) (λ b' u hb hu=>(YF s.heap (Obj.mapSeq f) (Ui hb)).trans hu) ⟨_,q⟩ ?_;exact⟨hz,its',_,hv,q⟩
theorem Inv.IT{its:List Value}{t':Nat}(I:Inv X pins σ H s)(hv:Vals ys its)(hz:ys.length<=sizeLine):
 Inv X pins σ (upd H s.heap.objs.size (.lst ys)) {s with heap:=s.heap.push {cls:= .type "list",data:= .seq its.toArray},toks:=t'}:=
 I.laid (λ _ _ q=>Uc _ q) (Ue _) ⟨hz,its,0,hv,Ut _ rfl⟩
theorem Inv.fresh(I:Inv X pins σ H s):H s.heap.objs.size=none:=I.aO.fresh (Ue _)
theorem Inv.SD(I:Inv X pins σ H s)(hH:H l=some (.lst xs)):xs.length<=sizeLine/\∃(its:List Value) (n:Nat),Vals xs its/\xs.length=its.length/\s.heap.get? l=some {cls:= .type "list",data:= .seq its.toArray n}:=by
 obtain⟨z,its,n,r,e⟩:=I.aO l _ hH;exact⟨z,its,n,r,r.length,e⟩
theorem Iw{n:Nat}(h:n<=sizeLine):Builtin.List.listTooLong n=false:=by
 unfold Builtin.List.listTooLong;exact UT (by omega)
end
section
variable {X:Cx}
def DN:V->List V->Hp->VK->Prop:=λ x vs H Q=>∃l xs y,x= .ref l/\vs=[y]/\H l=some (.lst xs)/\xs.length<sizeLine/\Q .aF (upd H l (.lst (xs++[y])))
theorem zg:TQ X "list.append" DN:=by
 intro pins s σ H x vs v us Q I rx rv h;obtain⟨l,xs,y,rfl,rfl,hH,hz,q⟩:=h;cases rx;obtain⟨u,rfl,ru⟩:=rv.one;obtain⟨z,its,n,r,hl,e⟩:=I.SD hH;refine W9 F.slot_list_append ⟨_,e,rfl⟩ F.entry_list_append (F.args_list_append_2 _ _) (PySem.list_append l its.toArray n u (by rw[Um];omega)) ⟨e,?_⟩;refine⟨.aF,_,I.SF (its':=its++[u]) hH e (by simp) (r.append (.cons ru .nil)) ?_,rfl,q⟩;rw[VN,YM];omega
theorem len_rep{α:Type}(xs:List α)(k:Nat):(List.replicate k xs).flatten.length=k*xs.length:=by
 induction k with
 |zero=>simp
 |succ k ih=>rw[VI,Wa,VN,ih,Y4,Nat.add_comm]
end
section
variable {prog:Program}{w:World}{A:Around}{E:Value->Shared->Prop}{s:Shared}
set_option maxRecDepth 100000 in
end
section
variable {X:Cx}
end
end L2
namespace Att
open PySem PySem.W PySem.Calls PyProof.Rows
theorem w_{P:Params}{h:Heap}:∀(ns:List Int) (vs:List Value),WellAll P h vs (ns.map WData.int)->IntsAre vs ns:=by
 intro ns;induction ns with
 |nil=>
  intro vs w;rw[List.map_nil]at w;cases w;exact .nil
 |cons n ns ih=>
  intro vs w;rw[UP]at w;cases w with
  |cons a b=>
   cases a;exact .cons _ _ (ih _ b)
theorem HD{l:OpenLaw}{n:Nat}(hn:l.most=some n){P:Params}{h:Heap}{args:List WData}{vals:List Value}
 (hpre:l.row.toRowW.claim.pre args=true) (hwl:WellAll P h vals args):
 ∃a vs ns,vals=[Value.ref a]/\args=[WData.list (ns.map WData.int)]/\h.get? a=some {cls:= .type "list",data:= .seq vs.toArray}/\IntsAre vs ns/\ns.length<=n:=by
 have hsh:WShape.hasAll [] args [.list .int]=true:=(pre_splitW hpre).1;have hc:l.pre.holds [] {args:=args}=true:=(pre_splitW hpre).2;obtain⟨d,r,rfl,h1,h2⟩:=hasAllW_cons hsh;obtain rfl:=hasAllW_nil h2;obtain⟨xs,rfl,h3⟩:=hasW_list h1;obtain⟨ns,rfl⟩:=items_int h3
 have hlen:ns.length<=n:=by
  unfold OpenLaw.pre at hc
  have h4:(WTm.not (.lt (.lit (.int (n:Int))) (.len (.arg 0)))).holds [] {args:=[.list (ns.map .int)]}=true:=by
   have h4:=(holds_andW hc).1;rw[hn]at h4;exact h4
  have h5:=condW_of h4 (w_not (w_lt w_lit (w_len_list (w_arg rfl))));rw[Uk]at h5;refine Wd λ q=>?_;have q':(n:Int)<((ns.length:Nat):Int):=by omega
  first
   |(rw[We q']at h5;exact absurd h5 (by decide))
   |(simp at h5;omega)
 cases hwl with
 |cons w1 w2=>
  cases w2;cases w1 with
  |list ho hall=>exact⟨_,_,ns,rfl,rfl,ho,w_ ns _ hall,hlen⟩
theorem HY(l:OpenLaw)(args:List WData):l.row.toRowW.claim.post args (.bool true) args=true:=
 postW_of (r:=l.row.toRowW) (X:=(true==true))
  (show WShape.has [] (.bool true) .bool=true by first|rfl|decide|simp[WShape.has,WShape.arms,WShape.armsAll])
  (show(WTm.eq .res (.lit (.bool true))).value [] {args:=args,res:=some (.bool true),after:=args}=some (.bool (true==true))from w_eq_bool (w_res rfl) w_lit) rfl
theorem CZ{l:OpenLaw}{n:Nat}{q:Program}{loose:List Str}{XP:(Str->Option Value)->Heap->Prop}{YP:World->Heap->Prop}{d:DefRec}
 (hn:l.most=some n) (hdf:d.params.defaults=[])
 (call:∀(w:World) (s₀ s₁:Shared) (mg mb:Str->Option Value) (fa:Addr) (o:Obj) (pm cd doc:Value) (a:Addr) (vs:List Value) (ns:List Int),
   Ground q loose [] XP w s₀ mg mb s₁.heap->YP w s₁.heap->
   s₁.heap.get? fa=some o->o.data= .func (docDef d.name d.params d.body d.scope pm cd doc)->s₁.heap.CodeRec cd d.name->mg d.name=some (.ref fa)->
   s₁.heap.get? a=some {cls:= .type "list",data:= .seq vs.toArray}->IntsAre vs ns->ns.length<=n->s₁.gens= #[]->
   codeAny (model l.prog w) callerA (.call (.ref fa) ⟨[.ref a],[]⟩) (λ r s'=>r= .ok (.ret (.bool true))/\OldK s₁.heap s'.heap/\s'.os=s₁.os/\AllBare s'.gens) s₁):
 WalkO q loose XP YP l.row.toRowW d [] (λ f vs=>PySem.call f vs):=by
 intro w s₀ s₁ mg mb G Y fa o pm cd doc dV kV ho hd hcd hD hmg hg args vals as hpre hlay hrd hwl hlo;obtain rfl:dV= .none:=Dflts.none hD hdf;obtain rfl:kV= .none:=Dflts.noKw hD;obtain⟨a,vs,ns,rfl,rfl,hobj,hints,hlen⟩:=HD hn hpre hwl;refine enter_call (Yp (call w s₀ s₁ mg mb fa o pm cd doc a vs ns G Y ho (fd_plain hd) hcd hmg hobj hints hlen hg) λ r s' hq=>?_);obtain⟨rfl,h2,h3,h4⟩:=hq;exact⟨.inl ⟨.bool true,.bool true,[],rfl,λ _=>rfl,.bool true,HY l _,λ _=>⟨List.Pairwise.nil,λ _ hm=>(nomatch hm)⟩⟩,h2,h3,h4⟩
section
variable {prog:Program}{w:World}{A:Around}{E:Value->Shared->Prop}{s:Shared}{K:Frag}
end
end Att
namespace L2
open PySem PySem.Spec PyProof.Rows
theorem qC:∀ {vs:List Value} {ns:List Int},IntsAre vs ns->Vals (ns.map V.int) vs
 |_,_,.nil=> .nil
 |_,_,.cons n t h=> .cons ⟨t,rfl⟩ (qC h)
end L2
/-THE LAST THEOREM (shape;LID,My.*are yours):
 My.Adr:a structure of the addresses that your layer names (classes,functions);My.Txt K t:a structure (Prop) of the equations over K;
 My.txt_mk:{K} {implicit addresses ..} (e1:nsIn K mainGlobals "law"=some (some (.ref f))) (e2:K.lookup f=some ⟨oc,od,.func (fnOf "law" "law" params body scope dV kV doc pm an cdv ct),sl⟩) (e3:codeIn K cdv "law"=true) .. :∃t,My.Txt K t
set_option maxRecDepth 100000 in
set_option maxHeartbeats 0 in
(the tactic k_is has no namespace:write k_is)-/
namespace L2
open PySem PySem.Spec PyProof.Rows
def inClass(s:Stmt)(j:Nat):Stmt:=match s with
 | .ClassDef _ _ _ body _ _ _ _ _ _ _=>body.getD j (.Pass ⟨0,0,0,0⟩)
 |_=> .Pass ⟨0,0,0,0⟩
def kh(s:Stmt):Arguments:=match s with
 | .FunctionDef _ a _ _ _ _ _ _ _ _=>a
 |_=>{posonlyargs:=[],args:=[],vararg:=none,kwonlyargs:=[],kw_defaults:=[],kwarg:=none,defaults:=[]}
def gW(s:Stmt):List Stmt:=match s with
 | .FunctionDef _ _ b _ _ _ _ _ _ _=>b
 |_=>[]
def ai(s:Stmt):Scope:=match s with
 | .FunctionDef _ _ _ _ _ _ sc _ _ _=>sc
 |_=>{kind:= .function,names:=[],isGenerator:=false,isCoroutine:=false}
abbrev cF:vN:=λ _ _ _ _ _ _=>False
abbrev E0:XK:=λ _ _ _=>False
theorem Ap{X:Cx}:Passes cF X E0:=λ _ _ _ _ _ _ _ h=>h.elim
structure pB(K:PySem.W.Frag)(x qual:Str)(st:Stmt)(f:Addr)(fd:FuncData):Prop where
 ex:∃(oc:Value) (od:Option Addr) (kV doc pm:Value) (an:Option Addr) (cdv ct:Value) (osl:Array (Option Value)),
  fd=PySem.W.fnOf x qual (kh st) (gW st) (ai st) .none kV doc pm an cdv ct/\K.lookup f=some ⟨oc,od,.func fd,osl⟩/\PySem.W.codeIn K cdv qual=true
 kp:PySem.W.keepIn K (.ref f)=true
section
variable {P:Program}{w:World}{K:PySem.W.Frag}{mg:Str->Option Value}{base:Heap}
theorem pB.ok{x qual:Str}{st:Stmt}{f:Addr}{fd:FuncData}{N ps:List Str}{k:Nat}{sp:Sp}(F:pB K x qual st f fd)(S:aN N ps (ai st))(len:∀vs H Q E,sp vs H Q E->vs.length=ps.length)
 (hbody:∀(cdv:Value) (A:Around) (outer:List Env) (s:Shared) (H:Hp) (vs:List V) (Q:VK) (E:XK),cT k (A.deeper (envOfC qual (ai st) s.heap.objs.size f cdv))->sp vs H Q E->
   ∃t,iK (sN cF P w K mg base N qual (ai st) f cdv A outer s H E).xN (gW st) t/\t {nx:=λ _ H'=>Q .aF H',rt:=Q} (start N vs) H):bj P w K mg base cF (k+1) f fd ps sp:=by
 obtain⟨oc,od,kV,doc,pm,an,cdv,ct,osl,rfl,lk,hcd⟩:=F.ex;refine Kr lk hcd S len λ A outer s H vs Q E hr hsp=>?_;obtain⟨t,h,q⟩:=hbody cdv A outer s H vs Q E hr hsp;exact⟨t,h.xN,q⟩
theorem pB.binds{x qual:Str}{st:Stmt}{f:Addr}{fd:FuncData}{ps:List Str}(F:pB K x qual st f fd)
 (h:∀(kV doc pm:Value) (an:Option Addr) (cdv ct:Value) (us:List Value),us.length=ps.length->bindArgs (PySem.W.fnOf x qual (kh st) (gW st) (ai st) .none kV doc pm an cdv ct) ⟨us,[]⟩=pure (ps.zip us)):Binds K fd ps []:=by
 obtain⟨oc,od,kV,doc,pm,an,cdv,ct,osl,rfl,lk,hcd⟩:=F.ex;exact .all (h kV doc pm an cdv ct)
theorem FI{x qual:Str}{st:Stmt}{f:Addr}{oc:Value}{od an:Option Addr}{osl:Array (Option Value)}{kV doc pm cdv ct:Value}(l:K.lookup f=some ⟨oc,od,.func (PySem.W.fnOf x qual (kh st) (gW st) (ai st) .none kV doc pm an cdv ct),osl⟩)
 (c:PySem.W.codeIn K cdv qual=true) (k:PySem.W.keepIn K (.ref f)=true):pB K x qual st f (PySem.W.fnOf x qual (kh st) (gW st) (ai st) .none kV doc pm an cdv ct):=⟨⟨oc,od,kV,doc,pm,an,cdv,ct,osl,rfl,l,c⟩,k⟩
end
section
variable {X:Cx}
end
theorem jn{A B:Prop}(h:A):if true=true then A else B:=by
 rw[Ud rfl];exact h
def IX(H H':Hp):Prop:=∀b o,H b=some o->H' b=some o
end L2
set_option maxHeartbeats 4000000
namespace Hd
open PySem PySem.W PySem.Calls PyProof.Rows
noncomputable def bt (P:Params):BT:=(.node (boot_o_0 P) (.node (boot_o_1 P) (.node (boot_o_3 P) (.node (boot_o_7 P) .nil .nil) .nil) (.node (boot_o_5 P) (.node (boot_o_9 P) .nil .nil) .nil)) (.node (boot_o_2 P) (.node (boot_o_4 P) (.node (boot_o_8 P) .nil .nil) .nil) (.node (boot_o_6 P) (.node (boot_o_10 P) .nil .nil) .nil)))
theorem Qf(P:Params):absHeap (bt P) 11 (boot_heap P).life=boot_heap P:=by kernel_rfl
noncomputable def run (p:Program) (w:World) (n:Nat) (ann:Option Value):Nat->SharedT->Thread->Option SharedT
 |0,_,_=>none
 |k+1,s,t=>match through t with
  |true=>some s
  |false=>match Fast.tw6613529449190102663 n ann t with
   |false=>none
   |true=>match Fast.tw10156331382660048174 (Fast.tw11892475500146522536 Fast.tw14364793385576792824) p w s t with
    |some (s',t')=>run p w n ann k s' t'
    |none=>none
theorem Hu{p:Program}{w:World}{n:Nat}{ann:Option Value}:∀ {k:Nat} {s s':SharedT} {t:Thread},run p w n ann k s t=some s'->topRun treeTable p w n ann k s.abs t=some s'.abs
 |0,_,_,_,h=>by cases h
 |k+1,s,s',t,h=>by
  unfold run at h;unfold topRun;cases he:through t with
  |true=>rw[he]at h;cases h;rfl
  |false=>
   rw[he]at h;rw[<-Fast.te6613529449190102663,<-Fast.te10156331382660048174,<-Fast.te11892475500146522536,<-Fast.te14364793385576792824]at h;cases hk:stepOk n ann t with
   |false=>simp only[hk]at h;cases h
   |true=>
    simp only[hk]at h;cases hs:stepT (denote treeTable) p w s t with
    |none=>rw[hs]at h;cases h
    |some r=>obtain⟨s2,t2⟩:=r;rw[hs]at h;rw[stepT_spec hs];exact Hu h
noncomputable def b0 (w:World) (os:OsState):SharedT:=⟨bt w.params,11,(boot_heap w.params).life,⟨[]⟩,boot_drawn,boot_toks,os⟩
theorem OA(w:World)(os:OsState):(b0 w os).abs=⟨boot_heap w.params,⟨[]⟩,boot_drawn,boot_toks,os⟩:=by
 unfold b0 SharedT.abs;dsimp only;rw[Qf]
theorem left{p q:Program}{loose:List Str}{α:Type}{Yf:Shared->α}{Ya:World->α}{N:Nat}
 (e:opening p=plainProg p.main.scope.names) (f:∀s,fenceModules? p s=some s) (hN:Nat.ble 600 N=true)
 (h:∀(w:World) (os:OsState),(run p w 11 (some (.ref 6)) N (b0 w os) (topStub p)).bind (λ s=>match staticsOk (importedModules p.main.body) (boot_heap w.params) s.abs.heap&&namesBound p s.abs.heap&&gensDone s.abs&&laidKept (boot_heap w.params) s.abs.heap with
   |true=>some (Fast.tw4187177175401517315 q loose (importedModules p.main.body) (λ _=>true) true s.abs,Yf s.abs)
   |false=>none)=some (openGood q loose,Ya w)):LeftO p q loose (λ _=>true) Yf Ya N:=λ w=>by
 obtain⟨⟨hp,gs,d,k,os⟩,e1,e2⟩:=Option.map_eq_some_iff.mp (boot_open e hN f w);obtain⟨rfl,rfl,rfl,rfl⟩:hp=boot_heap w.params/\gs=⟨[]⟩/\d=boot_drawn/\k=boot_toks:=by simpa using e2
 obtain⟨s,r1,r2⟩:=Option.bind_eq_some_iff.mp (h w os);have r3:=Hu r1;rw[OA]at r3;rw[<-Fast.te4187177175401517315]at r2;unfold openEnds;rw[e1];show(topFrom treeTable p w N _).map _=_;unfold topFrom;rw[show((boot_heap w.params).isNs mainGlobals&&(⟨[]⟩:Array GenState).size==0)=true from by kernel_rfl];dsimp only;rw[show(boot_heap w.params).objs.size=11 from by kernel_rfl,show(boot_heap w.params).nsMap mainGlobals "__annotations__"=some (.ref 6)from by kernel_rfl,r3];show((match staticsOk (importedModules p.main.body) (boot_heap w.params) s.abs.heap&&namesBound p s.abs.heap&&gensDone s.abs&&laidKept (boot_heap w.params) s.abs.heap with|true=>some s.abs|false=>none):Option Shared).map _=_;cases z:(staticsOk (importedModules p.main.body) (boot_heap w.params) s.abs.heap&&namesBound p s.abs.heap&&gensDone s.abs&&laidKept (boot_heap w.params) s.abs.heap)with
 |false=>rw[z]at r2;cases r2
 |true=>rw[z]at r2;exact r2
def fo(st:Stmt)(x q:Str)(pm cd:Value):Obj:=⟨.type "function",none,.func (fnOf x q (L2.kh st) (L2.gW st) (L2.ai st) .none .none .none pm none cd .none),#[]⟩
abbrev e(x:Str)(t:Nat)(v:Value):Str×Nat×Value:=(x,t,v)
abbrev k(a:Addr)(o:Obj):Addr×Obj:=(a,o)
def no(P:Params)(n:Nat)(l:List (Str×Nat×Value)):Obj:=⟨.type "dict",none,.dict (l.map λ e=>⟨PyData.keyHash P e.1,.str e.1 e.2.1,e.2.2⟩).toArray n,#[]⟩
def fd(st:Stmt)(x q:Str)(pm:Value)(c:Addr):FuncData:=fnOf x q (L2.kh st) (L2.gW st) (L2.ai st) .none .none .none pm none (.ref c) .none
def fq(st:Stmt)(x q:Str)(pm:Value)(c:Addr):Obj:=⟨.type "function",none,.func (fd st x q pm c),#[]⟩
def co(x q:Str)(t:Nat)(line argc:Int)(a b:Addr)(u v:Value)(d:Addr)(i:Int)(z:Nat):Obj:=⟨.type "code",none,.fields #[.str x t,.str q (t+1),.str "/claim/cut.py" (t+2),.int line 0,.int argc 0,.int 0 0,.int 0 0,.int 3 0,.ref a,.bool true,.int 181 0,.ref b,.none,u,v,.ref d,.int i 0,.int line 0,.str "/claim/cut.py" z],#[]⟩
end Hd
namespace Row
open PySem L2
open PySem.Spec hiding items?
open PyProof.Rows hiding St
def top(i:Nat):Stmt:=PySem.Challenge.pw_latticeworks_k35_the_same_sums.main.body.getD i (.Pass ⟨0,0,0,0⟩)
abbrev PW:Program:=PySem.Challenge.pw_latticeworks_k35_the_same_sums
abbrev mW:Stmt:=top 4
abbrev rf:Stmt:=top 5
abbrev rl:Stmt:=top 6
abbrev pf:Stmt:=top 7
abbrev ph:Stmt:=top 8
abbrev rN:Stmt:=top 9
abbrev oY:Stmt:=top 10
abbrev jG:Stmt:=top 12
abbrev mZ:Stmt:=top 13
abbrev mG:Stmt:=top 14
abbrev jT:Stmt:=top 15
abbrev kZ:Stmt:=top 16
abbrev f6:Stmt:=top 17
abbrev iV:Stmt:=top 18
abbrev hV:Stmt:=top 19
abbrev si:Stmt:=top 20
abbrev lE:Stmt:=top 22
abbrev ly:Stmt:=top 23
abbrev kg:Stmt:=top 24
abbrev lB:Stmt:=top 26
abbrev eV:Stmt:=top 27
abbrev jd:Stmt:=top 28
abbrev jD:Stmt:=top 29
abbrev cW:Stmt:=inClass (top 30) 0
abbrev iA:Stmt:=inClass (top 30) 1
abbrev fI:Stmt:=inClass (top 30) 2
abbrev dZ:Stmt:=inClass (top 30) 3
abbrev de:Stmt:=inClass (top 30) 4
abbrev gu:Stmt:=inClass (top 30) 5
abbrev d6:Stmt:=inClass (top 30) 6
abbrev j0:Stmt:=top 31
abbrev lT:Stmt:=top 32
abbrev fk:Stmt:=inClass (top 34) 0
abbrev fD:Stmt:=inClass (top 34) 1
abbrev fS:Stmt:=inClass (top 34) 2
abbrev fu:Stmt:=inClass (top 34) 3
abbrev gQ:Stmt:=inClass (top 34) 4
abbrev fH:Stmt:=inClass (top 34) 5
abbrev pA:Stmt:=top 35
abbrev jf:Stmt:=top 37
abbrev jh:Stmt:=top 38
abbrev fR:Stmt:=top 39
abbrev mR:Stmt:=top 40
abbrev mO:Stmt:=top 42
abbrev j5:Stmt:=top 43
abbrev jc:Stmt:=top 44
abbrev iB:Stmt:=top 45
abbrev iW:Stmt:=top 46
abbrev gq:Stmt:=top 47
abbrev jC:Stmt:=top 48
abbrev lp:Stmt:=top 49
abbrev fY:Stmt:=top 50
abbrev iF:Stmt:=top 51
abbrev oF:Stmt:=top 52
def kr:Value:=(.str "latticeworks.fractions" 223)
def iw:Value:=(.str "latticeworks.rows" 284)
def yf:Value:=(.str "latticeworks.shares" 346)
def e7:Value:=(.str "latticeworks.standing" 384)
def ku:Value:=(.str "latticeworks.short" 527)
def sV:Value:=(.str "latticeworks.inside" 623)
def fQ:Value:=(.str "law_latticeworks_k35_the_same_sums" 670)
def KX(P:Params):PySem.W.Frag:=[Hd.k 3 (Hd.no P 54 [Hd.e "__name__" 165 (.str "law_latticeworks_k35_the_same_sums" 670),Hd.e "__doc__" 166 .none,Hd.e "__package__" 167 .none,Hd.e "__loader__" 168 (.builtin "__main__.__loader__#opaque"),Hd.e "__spec__" 169 .none,Hd.e "__annotations__" 170 (.ref 6),Hd.e "__builtins__" 171 (.ref 4),Hd.e "__file__" 173 (.str "/claim/cut.py" 172),Hd.e "__cached__" 174 .none,Hd.e "LatticeError" 206 (.ref 24),Hd.e "NoSteps" 222 (.ref 37),Hd.e "common" 235 (.ref 46),Hd.e "part" 244 (.ref 53),Hd.e "plus" 252 (.ref 60),Hd.e "minus" 260 (.ref 67),Hd.e "times" 268 (.ref 74),Hd.e "over" 276 (.ref 81),Hd.e "whole" 283 (.ref 88),Hd.e "as_rows" 291 (.ref 93),Hd.e "added" 297 (.ref 98),Hd.e "sum_by" 309 (.ref 105),Hd.e "product" 315 (.ref 110),Hd.e "column" 321 (.ref 115),Hd.e "turned_over" 327 (.ref 120),Hd.e "unit_row" 333 (.ref 125),Hd.e "unit_rows" 339 (.ref 130),Hd.e "dot" 345 (.ref 135),Hd.e "cleared" 361 (.ref 142),Hd.e "line_of" 373 (.ref 149),Hd.e "table_of" 383 (.ref 156),Hd.e "lead_of" 394 (.ref 163),Hd.e "nearest_quotient" 402 (.ref 170),Hd.e "exchanged" 412 (.ref 177),Hd.e "negated" 418 (.ref 182),Hd.e "Bench" 502 (.ref 237),Hd.e "standing" 513 (.ref 248),Hd.e "weighed" 526 (.ref 255),Hd.e "Stairs" 613 (.ref 307),Hd.e "short" 622 (.ref 318),Hd.e "parts_dot" 635 (.ref 325),Hd.e "bottom_at" 645 (.ref 332),Hd.e "parts_against" 658 (.ref 339),Hd.e "inside" 669 (.ref 346),Hd.e "_law_at" 679 (.ref 353),Hd.e "_law_left" 691 (.ref 360),Hd.e "_law_digit" 700 (.ref 367),Hd.e "_law_number" 709 (.ref 374),Hd.e "_law_rows" 715 (.ref 379),Hd.e "_law_drawn" 725 (.ref 386),Hd.e "_law_dot" 731 (.ref 391),Hd.e "_law_own" 747 (.ref 398),Hd.e "_law_product" 753 (.ref 403),Hd.e "_law_inside" 762 (.ref 410),Hd.e "law" 768 (.ref 415)]),
 Hd.k 45 (Hd.co "common" "common" 225 7 2 40 41 (.ref 42) (.ref 43) 44 233 234),
 Hd.k 46 (Hd.fq mW "common" "common" kr 45),
 Hd.k 52 (Hd.co "part" "part" 236 15 2 47 48 (.ref 49) (.ref 50) 51 242 243),
 Hd.k 53 (Hd.fq rf "part" "part" kr 52),
 Hd.k 59 (Hd.co "plus" "plus" 245 20 2 54 55 (.ref 56) (.ref 57) 58 250 251),
 Hd.k 60 (Hd.fq rl "plus" "plus" kr 59),
 Hd.k 66 (Hd.co "minus" "minus" 253 22 2 61 62 (.ref 63) (.ref 64) 65 258 259),
 Hd.k 67 (Hd.fq pf "minus" "minus" kr 66),
 Hd.k 73 (Hd.co "times" "times" 261 24 2 68 69 (.ref 70) (.ref 71) 72 266 267),
 Hd.k 74 (Hd.fq ph "times" "times" kr 73),
 Hd.k 80 (Hd.co "over" "over" 269 26 2 75 76 (.ref 77) (.ref 78) 79 274 275),
 Hd.k 81 (Hd.fq rN "over" "over" kr 80),
 Hd.k 87 (Hd.co "whole" "whole" 277 28 1 82 83 (.ref 84) (.ref 85) 86 281 282),
 Hd.k 88 (Hd.fq oY "whole" "whole" kr 87),
 Hd.k 92 (Hd.co "as_rows" "as_rows" 286 31 1 89 90 .none .none 91 289 290),
 Hd.k 93 (Hd.fq jG "as_rows" "as_rows" iw 92),
 Hd.k 97 (Hd.co "added" "added" 292 33 3 94 95 .none .none 96 295 296),
 Hd.k 98 (Hd.fq mZ "added" "added" iw 97),
 Hd.k 104 (Hd.co "sum_by" "sum_by" 298 35 3 99 100 (.ref 101) (.ref 102) 103 307 308),
 Hd.k 105 (Hd.fq mG "sum_by" "sum_by" iw 104),
 Hd.k 109 (Hd.co "product" "product" 310 40 2 106 107 .none .none 108 313 314),
 Hd.k 110 (Hd.fq jT "product" "product" iw 109),
 Hd.k 114 (Hd.co "column" "column" 316 43 2 111 112 .none .none 113 319 320),
 Hd.k 115 (Hd.fq kZ "column" "column" iw 114),
 Hd.k 119 (Hd.co "turned_over" "turned_over" 322 45 2 116 117 .none .none 118 325 326),
 Hd.k 120 (Hd.fq f6 "turned_over" "turned_over" iw 119),
 Hd.k 124 (Hd.co "unit_row" "unit_row" 328 47 2 121 122 .none .none 123 331 332),
 Hd.k 125 (Hd.fq iV "unit_row" "unit_row" iw 124),
 Hd.k 129 (Hd.co "unit_rows" "unit_rows" 334 49 1 126 127 .none .none 128 337 338),
 Hd.k 130 (Hd.fq hV "unit_rows" "unit_rows" iw 129),
 Hd.k 134 (Hd.co "dot" "dot" 340 51 2 131 132 .none .none 133 343 344),
 Hd.k 135 (Hd.fq si "dot" "dot" iw 134),
 Hd.k 141 (Hd.co "cleared" "cleared" 348 54 4 136 137 (.ref 138) (.ref 139) 140 359 360),
 Hd.k 142 (Hd.fq lE "cleared" "cleared" yf 141),
 Hd.k 148 (Hd.co "line_of" "line_of" 362 60 3 143 144 (.ref 145) (.ref 146) 147 371 372),
 Hd.k 149 (Hd.fq ly "line_of" "line_of" yf 148),
 Hd.k 155 (Hd.co "table_of" "table_of" 374 66 1 150 151 (.ref 152) (.ref 153) 154 381 382),
 Hd.k 156 (Hd.fq kg "table_of" "table_of" yf 155),
 Hd.k 162 (Hd.co "lead_of" "lead_of" 386 75 1 157 158 (.ref 159) (.ref 160) 161 392 393),
 Hd.k 163 (Hd.fq lB "lead_of" "lead_of" e7 162),
 Hd.k 169 (Hd.co "nearest_quotient" "nearest_quotient" 395 80 2 164 165 (.ref 166) (.ref 167) 168 400 401),
 Hd.k 170 (Hd.fq eV "nearest_quotient" "nearest_quotient" e7 169),
 Hd.k 176 (Hd.co "exchanged" "exchanged" 403 82 3 171 172 (.ref 173) (.ref 174) 175 410 411),
 Hd.k 177 (Hd.fq jd "exchanged" "exchanged" e7 176),
 Hd.k 181 (Hd.co "negated" "negated" 413 87 1 178 179 .none .none 180 416 417),
 Hd.k 182 (Hd.fq jD "negated" "negated" e7 181),
 Hd.k 193 (Hd.co "__init__" "Bench.__init__" 431 91 2 190 191 .none .none 192 434 435),
 Hd.k 194 (Hd.fq cW "__init__" "Bench.__init__" e7 193),
 Hd.k 200 (Hd.co "take" "Bench.take" 437 96 4 195 196 (.ref 197) (.ref 198) 199 444 445),
 Hd.k 201 (Hd.fq iA "take" "Bench.take" e7 200),
 Hd.k 207 (Hd.co "exchange" "Bench.exchange" 447 101 3 202 203 (.ref 204) (.ref 205) 206 453 454),
 Hd.k 208 (Hd.fq fI "exchange" "Bench.exchange" e7 207),
 Hd.k 214 (Hd.co "change_sign" "Bench.change_sign" 456 106 2 209 210 (.ref 211) (.ref 212) 213 461 462),
 Hd.k 215 (Hd.fq dZ "change_sign" "Bench.change_sign" e7 214),
 Hd.k 219 (Hd.co "live_rows" "Bench.live_rows" 464 111 3 216 217 .none .none 218 467 468),
 Hd.k 220 (Hd.fq de "live_rows" "Bench.live_rows" e7 219),
 Hd.k 226 (Hd.co "gather" "Bench.gather" 470 115 3 221 222 (.ref 223) (.ref 224) 225 479 480),
 Hd.k 227 (Hd.fq gu "gather" "Bench.gather" e7 226),
 Hd.k 233 (Hd.co "lower_above" "Bench.lower_above" 482 129 3 228 229 (.ref 230) (.ref 231) 232 489 490),
 Hd.k 234 (Hd.fq d6 "lower_above" "Bench.lower_above" e7 233),
 Hd.k 236 (Hd.no P 4 [Hd.e "__module__" 426 (.str "latticeworks.standing" 384),Hd.e "__firstlineno__" 430 (.int (89) 429),Hd.e "__init__" 436 (.ref 194),Hd.e "take" 446 (.ref 201),Hd.e "exchange" 455 (.ref 208),Hd.e "change_sign" 463 (.ref 215),Hd.e "live_rows" 469 (.ref 220),Hd.e "gather" 481 (.ref 227),Hd.e "lower_above" 491 (.ref 234),Hd.e "__static_attributes__" 495 (.ref 235),Hd.e "__dict__" 497 (.ref 238),Hd.e "__weakref__" 499 (.ref 239),Hd.e "__doc__" 500 .none]),
 Hd.k 237 (⟨(.type "type"),none,.cls {name:="Bench",bases:=[(.type "object")],mro:=[(.ref 237),(.type "object")],ns:=236,qualname:="Bench",hasDict:=true,subclasses:=[],abstract:=false,hasDel:=false},#[none,none,(some (.str "Bench" 419)),(some (.str "Bench" 427)),(some (.builtin "object.__new__")),(some (.bool true))]⟩),
 Hd.k 247 (Hd.co "standing" "standing" 503 132 1 242 243 (.ref 244) (.ref 245) 246 511 512),
 Hd.k 248 (Hd.fq j0 "standing" "standing" e7 247),
 Hd.k 254 (Hd.co "weighed" "weighed" 514 141 2 249 250 (.ref 251) (.ref 252) 253 524 525),
 Hd.k 255 (Hd.fq lT "weighed" "weighed" e7 254),
 Hd.k 268 (Hd.co "__init__" "Stairs.__init__" 541 153 2 263 264 (.ref 265) (.ref 266) 267 546 547),
 Hd.k 269 (Hd.fq fk "__init__" "Stairs.__init__" ku 268),
 Hd.k 275 (Hd.co "last_of" "Stairs.last_of" 549 157 2 270 271 (.ref 272) (.ref 273) 274 554 555),
 Hd.k 276 (Hd.fq fD "last_of" "Stairs.last_of" ku 275),
 Hd.k 282 (Hd.co "lessen" "Stairs.lessen" 557 160 3 277 278 (.ref 279) (.ref 280) 281 565 566),
 Hd.k 283 (Hd.fq fS "lessen" "Stairs.lessen" ku 282),
 Hd.k 289 (Hd.co "is_steep" "Stairs.is_steep" 568 168 2 284 285 (.ref 286) (.ref 287) 288 575 576),
 Hd.k 290 (Hd.fq fu "is_steep" "Stairs.is_steep" ku 289),
 Hd.k 296 (Hd.co "swap" "Stairs.swap" 578 173 2 291 292 (.ref 293) (.ref 294) 295 592 593),
 Hd.k 297 (Hd.fq gQ "swap" "Stairs.swap" ku 296),
 Hd.k 303 (Hd.co "shorten" "Stairs.shorten" 595 188 1 298 299 (.ref 300) (.ref 301) 302 601 602),
 Hd.k 304 (Hd.fq fH "shorten" "Stairs.shorten" ku 303),
 Hd.k 306 (Hd.no P 4 [Hd.e "__module__" 536 (.str "latticeworks.short" 527),Hd.e "__firstlineno__" 540 (.int (151) 539),Hd.e "__init__" 548 (.ref 269),Hd.e "last_of" 556 (.ref 276),Hd.e "lessen" 567 (.ref 283),Hd.e "is_steep" 577 (.ref 290),Hd.e "swap" 594 (.ref 297),Hd.e "shorten" 603 (.ref 304),Hd.e "__static_attributes__" 606 (.ref 305),Hd.e "__dict__" 608 (.ref 308),Hd.e "__weakref__" 610 (.ref 309),Hd.e "__doc__" 611 .none]),
 Hd.k 307 (⟨(.type "type"),none,.cls {name:="Stairs",bases:=[(.type "object")],mro:=[(.ref 307),(.type "object")],ns:=306,qualname:="Stairs",hasDict:=true,subclasses:=[],abstract:=false,hasDel:=false},#[none,none,(some (.str "Stairs" 529)),(some (.str "Stairs" 537)),(some (.builtin "object.__new__")),(some (.bool true))]⟩),
 Hd.k 317 (Hd.co "short" "short" 614 199 1 312 313 (.ref 314) (.ref 315) 316 620 621),
 Hd.k 318 (Hd.fq pA "short" "short" ku 317),
 Hd.k 324 (Hd.co "parts_dot" "parts_dot" 625 205 2 319 320 (.ref 321) (.ref 322) 323 633 634),
 Hd.k 325 (Hd.fq jf "parts_dot" "parts_dot" sV 324),
 Hd.k 331 (Hd.co "bottom_at" "bottom_at" 636 210 3 326 327 (.ref 328) (.ref 329) 330 643 644),
 Hd.k 332 (Hd.fq jh "bottom_at" "bottom_at" sV 331),
 Hd.k 338 (Hd.co "parts_against" "parts_against" 646 215 2 333 334 (.ref 335) (.ref 336) 337 656 657),
 Hd.k 339 (Hd.fq fR "parts_against" "parts_against" sV 338),
 Hd.k 345 (Hd.co "inside" "inside" 659 225 2 340 341 (.ref 342) (.ref 343) 344 667 668),
 Hd.k 346 (Hd.fq mR "inside" "inside" sV 345),
 Hd.k 352 (Hd.co "_law_at" "_law_at" 672 233 2 347 348 (.ref 349) (.ref 350) 351 677 678),
 Hd.k 353 (Hd.fq mO "_law_at" "_law_at" fQ 352),
 Hd.k 359 (Hd.co "_law_left" "_law_left" 680 237 2 354 355 (.ref 356) (.ref 357) 358 689 690),
 Hd.k 360 (Hd.fq j5 "_law_left" "_law_left" fQ 359),
 Hd.k 366 (Hd.co "_law_digit" "_law_digit" 692 247 2 361 362 (.ref 363) (.ref 364) 365 698 699),
 Hd.k 367 (Hd.fq jc "_law_digit" "_law_digit" fQ 366),
 Hd.k 373 (Hd.co "_law_number" "_law_number" 701 251 2 368 369 (.ref 370) (.ref 371) 372 707 708),
 Hd.k 374 (Hd.fq iB "_law_number" "_law_number" fQ 373),
 Hd.k 378 (Hd.co "_law_rows" "_law_rows" 710 258 4 375 376 .none .none 377 713 714),
 Hd.k 379 (Hd.fq iW "_law_rows" "_law_rows" fQ 378),
 Hd.k 385 (Hd.co "_law_drawn" "_law_drawn" 716 260 1 380 381 (.ref 382) (.ref 383) 384 723 724),
 Hd.k 386 (Hd.fq gq "_law_drawn" "_law_drawn" fQ 385),
 Hd.k 390 (Hd.co "_law_dot" "_law_dot" 726 270 2 387 388 .none .none 389 729 730),
 Hd.k 391 (Hd.fq jC "_law_dot" "_law_dot" fQ 390),
 Hd.k 397 (Hd.co "_law_own" "_law_own" 732 272 1 392 393 (.ref 394) (.ref 395) 396 745 746),
 Hd.k 398 (Hd.fq lp "_law_own" "_law_own" fQ 397),
 Hd.k 402 (Hd.co "_law_product" "_law_product" 748 289 2 399 400 .none .none 401 751 752),
 Hd.k 403 (Hd.fq fY "_law_product" "_law_product" fQ 402),
 Hd.k 409 (Hd.co "_law_inside" "_law_inside" 754 297 2 404 405 (.ref 406) (.ref 407) 408 760 761),
 Hd.k 410 (Hd.fq iF "_law_inside" "_law_inside" fQ 409),
 Hd.k 414 (Hd.co "law" "law" 763 302 1 411 412 .none .none 413 766 767),
 Hd.k 415 (Hd.fq oF "law" "law" fQ 414)]
def KA:List Addr:=[3,45,46,52,53,59,60,66,67,73,74,80,81,87,88,92,93,97,98,104,105,109,110,114,115,119,120,124,125,129,130,134,135,141,142,148,149,155,156,162,163,169,170,176,177,181,182,193,194,200,201,207,208,214,215,219,220,226,227,233,234,236,237,247,248,254,255,268,269,275,276,282,283,289,290,296,297,303,304,306,307,317,318,324,325,331,332,338,339,345,346,352,353,359,360,366,367,373,374,378,379,385,386,390,391,397,398,402,403,409,410,414,415]
set_option maxHeartbeats 0 in
theorem left:PySem.W.LeftO PW (PySem.W.view PW [1,2,4,5,6,7,8,9,10,12,13,14,15,16,17,18,19,20,22,23,24,26,27,28,29,30,31,32,34,35,37,38,39,40,42,43,44,45,46,47,48,49,50,51,52]) [] (λ _=>true) (PySem.W.kmHook Row.KX Row.KA (λ _=>rfl) [217]).obs (PySem.W.kmHook Row.KX Row.KA (λ _=>rfl) [217]).val 5176:=
 Hd.left (by kernel_rfl) (λ s=>by kernel_rfl) rfl λ w os=>by kernel_rfl
end Row
namespace L3
open PySem PySem.Spec PyProof.Rows L2
section
variable {prog:Program}{w:World}{A:Around}{R:Result->Shared->Prop}{s:Shared}
theorem C1{elt target iter:Expr}{ifs:List Expr}{scope:Scope}{pos:Pos}{it acc:Value}{env:Env}(I:Nat->Shared->Prop)
 (turn:∀n s,I n s->wpAny (model prog w) A (pyNext it) (λ r s₁=>match r with
   |none=>R (.ok .next) s₁
   |some v=>wpAny (model prog w) A (letOwnedTupleGo target it v) (λ _ s₀=>wpAny (model prog w) A (assign target env v) (λ _ s₂=>
     wpAny (model prog w) A (forIn ifs true λ c r=>if r=true then do let ok <-isTrue c env (eval c env);pure (ForInStep.yield ok)else pure (ForInStep.yield r)) (λ ok s₃=>
      if ok=true then wpAny (model prog w) A (eval elt env) (λ x s₄=>
       wpAny (model prog w) A (call (.builtin "list.append") [acc,x]) (λ _ s₅=>∃m,m<n/\I m s₅) (λ _ _=>False) s₄) (λ _ _=>False) s₃
      else∃m,m<n/\I m s₃) (λ _ _=>False) s₂) (λ _ _=>False) s₀) (λ _ _=>False) s₁) (λ _ _=>False) s)
 (n:Nat) (h:I n s):
 codeAny (model prog w) A (.compLoop (.ListComp elt [⟨target,iter,ifs,0⟩] scope pos) 0 it acc env) R s:=by
 refine codeAny_loop rfl I (λ n s hI=>?_) n h;show wpAny _ A ((compTurn (.ListComp elt [⟨target,iter,ifs,0⟩] scope pos) 0 it acc env).onRaise (λ x=>do noteFrame x env;theTreesLotGoes x)) _ _ s;refine wpAny_noted ?_;rw[compTurn_list];refine T_ (Xo (T_ (V1 (turn n s hI) (λ r s₁ h₁=>?_) λ _ _ h'=>h'.elim)));cases r with
 |none=>exact Ul h₁
 |some v=>
  refine T_ (V1 h₁ (λ _ s₀ h₀=>?_) λ _ _ h'=>h'.elim);refine T_ (V1 h₀ (λ _ s₂ h₂=>T_ (V1 h₂ (λ ok s₃ h₃=>?_) λ _ _ h'=>h'.elim)) λ _ _ h'=>h'.elim);cases ok with
  |false=>exact Ul ⟨rfl,h₃⟩
  |true=>
   exact T_ (T_ (V1 h₃ (λ x s₄ h₄=>T_ (V1 h₄ (λ _ s₅ h₅=>Ul (Ul ⟨rfl,h₅⟩)) λ _ _ h'=>h'.elim)) λ _ _ h'=>h'.elim))
end
def dw(cells:List (Str×Addr)):List (Str×NameKind)->List (Str×Addr)->List (Str×Addr)
 | [],acc=>acc
 |(n,k)::r,acc=>if k== .free then(match cells.lookup n with|some c=>dw cells r ((n,c)::acc)|none=>dw cells r acc)else dw cells r acc
theorem cX{cells:List (Str×Addr)}:∀(names:List (Str×NameKind)) (acc:List (Str×Addr)),(∀x c,acc.lookup x=some c->cells.lookup x=some c)->
 ∀x c,(dw cells names acc).lookup x=some c->cells.lookup x=some c
 | [],acc,h,x,c,e=>h x c e
 |(n,k)::r,acc,h,x,c,e=>by
  unfold dw at e;split at e
  . split at e
    . rename_i d q;refine cX r _ (λ y b e'=>?_) x c e;rw[UR]at e';split at e'
      . rename_i z;cases e';have z':y=n:=by simpa using z
        rw[z'];exact q
      . exact h y b e'
    . exact cX r _ h x c e
  . exact cX r _ h x c e
theorem jQ{cells:List (Str×Addr)}{x:Str}:∀(names:List (Str×NameKind)) (acc:List (Str×Addr)),(∃c,cells.lookup x=some c)->((x,NameKind.free)∈names\/∃c,acc.lookup x=some c)->
 ∃c,(dw cells names acc).lookup x=some c
 | [],acc,_,h=>by
   rcases h with h|h
   . simp at h
   . exact h
 |(n,k)::r,acc,hc,h=>by
  unfold dw;split
  . rename_i hk;split
    . rename_i d q;refine jQ r _ hc ?_;rcases h with h|⟨c,h⟩
      . rcases Ux.mp h with e|e
        . cases e;exact .inr ⟨d,by simp[UR]⟩
        . exact .inl e
      . refine .inr ?_;rw[UR];split
        . exact⟨_,rfl⟩
        . exact⟨c,h⟩
    . rename_i q;refine jQ r _ hc ?_;rcases h with h|h
      . rcases Ux.mp h with e|e
        . cases e;obtain⟨c,hc⟩:=hc;rw[hc]at q;cases q
        . exact .inl e
      . exact .inr h
  . rename_i hk;refine jQ r _ hc ?_;rcases h with h|h
    . rcases Ux.mp h with e|e
      . cases e;exact absurd rfl hk
      . exact .inl e
    . exact .inr h
theorem oi{scope:Scope}{env:Env}(h:∀x∈scope.names,x.2= .free->∃c,env.cells.lookup x.1=some c):closureFor scope env=pure (dw env.cells scope.names []):=by
 have key:∀(names:List (Str×NameKind)) (acc:List (Str×Addr)),(∀x∈names,x.2= .free->∃c,env.cells.lookup x.1=some c)->
  (forIn names acc (λ(x:Str×NameKind) (cs:List (Str×Addr))=>if(x.2==NameKind.free)=true then(do let a <-cellOf env x.1;pure (ForInStep.yield ((x.1,a)::cs)):Sem (ForInStep (List (Str×Addr))))else pure (ForInStep.yield cs)))=(pure (dw env.cells names acc):Sem (List (Str×Addr))):=by
  intro names;induction names with
  |nil=>intro acc _;rfl
  |cons p r ih=>
   intro acc hh;obtain⟨n,k⟩:=p;rw[W0];have ih':=ih;by_cases hk:(k==NameKind.free)=true
   . obtain⟨c,e⟩:=hh (n,k) UB (by simpa using hk);simp only[hk,Wm]
     have e1:cellOf env n=pure c:=by
      unfold cellOf;rw[e]
     rw[e1];simp only[pure_bind];rw[ih _ λ x hx=>hh x (Uu _ hx)];conv=>rhs;unfold dw
     simp only[hk,Wm];rw[show env.cells.lookup n=some c from e]
   . have hk':(k==NameKind.free)=false:=by simpa using hk
     simp only[hk',WD,WR,pure_bind];rw[ih _ λ x hx=>hh x (Uu _ hx)];conv=>rhs;unfold dw
     simp only[hk',WD,WR]
 unfold closureFor;have:=key scope.names [] h;rw[bind_pure]
 first
  |exact this
  |(simp only[bind_pure]at this⊢;exact this)
end L3
namespace L3
open PySem PySem.Spec L2
open PyProof.Rows hiding St
theorem kc(env:Env):∀(names:List (Str×NameKind)) (x:Str),
 (names.map λ(n,k)=>if(k==NameKind.free&&env.scope.kind== .function&&env.kindOf n==some .cell)then(n,NameKind.cell)else(n,k)).lookup x=
   (names.lookup x).map λ k=>if(k==NameKind.free&&env.scope.kind== .function&&env.kindOf x==some .cell)then NameKind.cell else k
 | [],_=>rfl
 |(n,k)::r,x=>by
  show List.lookup x ((if(k==NameKind.free&&env.scope.kind== .function&&env.kindOf n==some .cell)=true then(n,NameKind.cell)else(n,k))::_)=_;cases hx:x==n with
  |true=>
   have e:x=n:=by simpa using hx
   subst e;by_cases hc:(k==NameKind.free&&env.scope.kind== .function&&env.kindOf x==some .cell)=true
   . rw[Ud hc];simp only[UR,Xr,WE];rw[Ud hc]
   . rw[Ub hc];simp only[UR,Xr,WE];rw[Ub hc]
  |false=>
   by_cases hc:(k==NameKind.free&&env.scope.kind== .function&&env.kindOf n==some .cell)=true
   . rw[Ud hc];simp only[UR,hx];exact kc env r x
   . rw[Ub hc];simp only[UR,hx];exact kc env r x
theorem BZ{env:Env}{scope:Scope}{x:Str}(h:scope.names.lookup x=some .free):(relabel scope env).names.lookup x=some .cell\/(relabel scope env).names.lookup x=some .free:=by
 have e:(relabel scope env).names.lookup x=_:=kc env scope.names x;rw[e,h];simp only[WE];split
 . exact .inl rfl
 . exact .inr rfl
theorem Bz{env:Env}{scope:Scope}{x:Str}(h:(relabel scope env).names.lookup x=some .cell\/(relabel scope env).names.lookup x=some .free):(x,NameKind.free)∈scope.names\/scope.names.lookup x=some .cell:=by
 have e:(relabel scope env).names.lookup x=_:=kc env scope.names x;rw[e]at h;cases q:scope.names.lookup x with
 |none=>rw[q]at h;rcases h with h|h<;>cases h
 |some k=>
  rw[q]at h;simp only[WE]at h;have m:=UW q;by_cases hc:(k==NameKind.free&&env.scope.kind== .function&&env.kindOf x==some .cell)=true
  . have:k= .free:=by
     simp only[Vb]at hc;simpa using hc.1.1
    subst this;exact .inl m
  . rw[Ub hc]at h;rcases h with h|h
    . cases h;exact .inr rfl
    . cases h;exact .inl m
theorem g5:∀(names:List (Str×NameKind)) (L:Nat) (acc:List (Str×Addr)),cellsFrom L names acc=cellsFrom L names []++acc
 | [],_,_=>rfl
 |(n,k)::r,L,acc=>by
  unfold cellsFrom;by_cases hk:(k==NameKind.cell)=true
  . rw[Ud hk,Ud hk,g5 r (L+1) ((n,L)::acc),g5 r (L+1) [(n,L)],VU];rfl
  . rw[Ub hk,Ub hk];exact g5 r L acc
theorem tK:∀ {names:List (Str×NameKind)} {L:Nat} {x:Str} {c:Addr},(x,c)∈cellsFrom L names []->(x,NameKind.cell)∈names
 | [],_,_,_,h=>by unfold cellsFrom at h;cases h
 |(n,k)::r,L,x,c,h=>by
  unfold cellsFrom at h;by_cases hk:(k==NameKind.cell)=true
  . rw[Ud hk,g5]at h;have hk':k= .cell:=by simpa using hk
    subst hk';rcases UM.mp h with h|h
    . exact Uu _ (tK h)
    . have:(x,c)=(n,L):=by simpa using h
      cases this;exact UB
  . rw[Ub hk]at h;exact Uu _ (tK h)
theorem r8:∀ {l1 l2:List (Str×Addr)} {x:Str} {c:Addr},(l1++l2).lookup x=some c->l1.lookup x=some c\/(l1.lookup x=none/\l2.lookup x=some c)
 | [],_,_,_,h=> .inr ⟨rfl,h⟩
 |(n,d)::l1,l2,x,c,h=>by
  rw[List.cons_append,UR]at h;rw[UR];cases hx:x==n with
  |true=>rw[hx]at h;exact .inl h
  |false=>rw[hx]at h;exact r8 h
theorem vO:∀ {l1 l2:List (Str×Addr)} {x:Str},l1.lookup x=none->(l1++l2).lookup x=l2.lookup x
 | [],_,_,_=>rfl
 |(n,d)::l1,l2,x,h=>by
  rw[UR]at h;rw[List.cons_append,UR];cases hx:x==n with
  |true=>rw[hx]at h;cases h
  |false=>rw[hx]at h;exact vO h
def n_(scope:Scope)(C:Addr)(cl:List (Str×Addr)):List (Str×Addr):=cellsFrom (C+1) scope.names cl
theorem jU{scope:Scope}{C:Addr}{cl:List (Str×Addr)}{x:Str}{c:Addr}(h:(n_ scope C cl).lookup x=some c):(x,c)∈cellsFrom (C+1) scope.names []\/cl.lookup x=some c:=by
 unfold n_ at h;rw[g5]at h;rcases r8 h with h|h
 . exact .inl (UW h)
 . exact .inr h.2
theorem Pe(names:List (Str×NameKind))(h:Heap){C:Addr}(e:h.objs.size=C+1):CellsOk (pushCells h names) (C+1) (cellsFrom (C+1) names []):=by
 have:=cellsFrom_ok names h (C+1) [] ⟨λ _ _ hm=>(nomatch hm),List.Pairwise.nil⟩ (by rw[e];exact Ue _);rw[e]at this;exact this
theorem pD{names:List (Str×NameKind)}{C:Addr}{x:Str}{c:Addr}:∀ {L:Nat},C<=L->(x,c)∈cellsFrom L names []->C<=c:=by
 induction names with
 |nil=>intro L _ h;unfold cellsFrom at h;cases h
 |cons p r ih=>
  obtain⟨n,k⟩:=p;intro L hL h;unfold cellsFrom at h;by_cases hk:(k==NameKind.cell)=true
  . rw[Ud hk,g5]at h;rcases UM.mp h with h|h
    . exact ih (Uj hL (Nat.le_succ L)) h
    . have:(x,c)=(n,L):=by simpa using h
      cases this;exact hL
  . rw[Ub hk]at h;exact ih hL h
theorem own_apart{names:List (Str×NameKind)}{x y:Str}{c:Addr}:∀ {L:Nat},(x,c)∈cellsFrom L names []->(y,c)∈cellsFrom L names []->x=y:=by
 induction names with
 |nil=>intro L h;unfold cellsFrom at h;cases h
 |cons p r ih=>
  obtain⟨n,k⟩:=p;intro L h1 h2;unfold cellsFrom at h1 h2;by_cases hk:(k==NameKind.cell)=true
  . rw[Ud hk,g5]at h1 h2;rcases UM.mp h1 with g1|g1<;>rcases UM.mp h2 with g2|g2
    . exact ih g1 g2
    . have e2:(y,c)=(n,L):=by simpa using g2
      have ec:c=L:=(YG e2).2;have:=pD (C:=L+1) (Ue _) g1;rw[ec]at this;exact absurd this (Nat.not_succ_le_self _)
    . have e1:(x,c)=(n,L):=by simpa using g1
      have ec:c=L:=(YG e1).2;have:=pD (C:=L+1) (Ue _) g2;rw[ec]at this;exact absurd this (Nat.not_succ_le_self _)
    . have e1:(x,c)=(n,L):=by simpa using g1
      have e2:(y,c)=(n,L):=by simpa using g2
      exact(YG e1).1.trans (YG e2).1.symm
  . rw[Ub hk]at h1 h2;exact ih h1 h2
theorem w4{M:Model}{A:Around}{E:Value->Shared->Prop}{s:Shared}{scope:Scope}{globals:Addr}{cl:List (Str×Addr)}{qual:Str}{env:Env}{Q:Env->Shared->Prop}
 (hQ:Q (newEnv scope s.heap.objs.size globals (n_ scope s.heap.objs.size cl) qual none .none (some env) builtinsNs) {s with heap:=pushCells (s.heap.push {cls:= .type "dict",data:= .dict #[]}) scope.names}):
 wpAny M A (newFunctionEnv scope globals cl [] qual none .none (some env)) Q E s:=by
 simp only[newFunctionEnv,Option.isSome_some,Wm];refine T_ (wpAny_alloc ?_);refine T_ (wpAny_layCells _ (λ name kind cells=>by cases hkc:kind==NameKind.cell<;>simp[hkc]) _ _ _ _ ?_);rw[show({s with heap:=s.heap.push {cls:= .type "dict",data:= .dict #[]}}:Shared).heap.objs.size=s.heap.objs.size+1 from U7 ..];rw[W_];exact T_ (Ul (Ul hQ))
structure cz(X:Cx)(scope:Scope)(Nc:List Str)(fr:List (Option Nat)):Prop where
 kind:scope.kind= .function
 cells:∀x∈scope.names,x.2= .cell->scope.names.lookup x.1=some .cell
 names:∀x∈scope.names,x.2= .local->scope.names.lookup x.1=some .local
 free:∀x∈scope.names,x.2= .free->X.env.kindOf x.1=some .cell\/X.env.kindOf x.1=some .free
 len:fr.length=Nc.length
 map:∀(i j:Nat) (x:Str),Nc[i]?=some x->fr[i]?=some (some j)->X.N[j]?=some x/\scope.names.lookup x=some .free/\(X.env.kindOf x=some .cell\/X.env.kindOf x=some .free)
def σC(fr:List (Option Nat))(σ:St):St:=fr.map λ o=>o.bind λ j=>(σ[j]?).join
def gB(X:Cx)(scope:Scope)(Nc:List Str)(C:Addr)(s:Shared)(H:Hp)(ex:List Addr):Cx:=
 {X with N:=Nc,s₀:=s,H₀:=H,env:=compEnvC scope (n_ scope C (dw X.env.cells scope.names [])) C X.env,outer:=X.stack,stack:=X.stack,ex:=ex,fn:=λ x=>scope.names.lookup x==some .cell,pn:=[],xe:=λ _ _=>False}
def xv(wi:TI)(fr:List (Option Nat))(g:TG)(c:TT)(te:TE):TE:=λ σ H Q=>wi σ H λ J H1=>∀l,H1 l=none->
 ∃W:Nat->Nat->L2.St->Hp->Prop,(∃m,W 0 m (σC fr σ) (upd H1 l (.lst [])))/\∀i m σ H,W i m σ H->
  (J.stop i H/\Q (.ref l) H)\/(J.go i H/\∃N:L2.St->Hp->Prop,(∀σ' H',N σ' H'->∃m',m'<m/\W (i+1) m' σ' H')/\∀x H',J.pK i H x H'->
    g x σ H' λ σ2 H2=>c σ2 H2 λ b H3=>if b=true then te σ2 H3 λ y H4=>∃ys,H4 l=some (.lst ys)/\ys.length<sizeLine/\N σ2 (upd H4 l (.lst (ys++[y])))else N σ2 H3)
def uQ(X:Cx)(ifs:List Expr)(t:TT):Prop:=
 ∀(pins:List (Addr×Obj)) (s:Shared) (σ:St) (H:Hp) (Q:Bool->Hp->Prop),Inv X pins σ H s->t σ H Q->
  wpAny (model X.prog X.w) X.A (forIn ifs true λ c r=>if r=true then do let ok <-isTrue c X.env (eval c X.env);pure (ForInStep.yield ok)else pure (ForInStep.yield r)) (TP X pins σ Q) X.xe s
def Q3:TT:=λ _ H Q=>Q true H
theorem Ll{X:Cx}:uQ X [] Q3:=λ _ _ _ H _ I h=>wpAny_tests_nil ⟨H,I,h⟩
theorem Ms{X:Cx}{c:Expr}{t:TT}(h:PT X c t):uQ X [c] t:=λ pins s σ H Q I q=>wpAny_tests_one (h pins s σ H Q I q)
section
variable {X:Cx}{scope:Scope}{Nc:List Str}{fr:List (Option Nat)}{pins:List (Addr×Obj)}{σ:St}{H:Hp}{s:Shared}
theorem O4{C:Addr}{fp:List Addr}(S:cz X scope Nc fr)(I:Inv X pins σ H s)(hC:C=s.heap.objs.size)(hf:∀b∈fp,mN X pins H b)(hlt:∀b∈fp,b<s.heap.objs.size)(hnc:∀b∈fp,∀x c,X.env.cells.lookup x=some c->c≠b):
 (gB X scope Nc C s H fp).Ok where
 mod:=I.ok.mod
 kind:=S.kind
 glob:=I.ok.glob
 blt:=I.ok.blt
 above:=Yo hC.symm
 inj:=λ x y c h1 h2=>by
  have low:∀ {z},(dw X.env.cells scope.names []).lookup z=some c->c<s.heap.objs.size:=λ{z} hz=>by
   obtain⟨v,q⟩:=I.cell z c (cX _ [] (λ _ _ e=>by cases e) z c hz);exact q.lt
  rcases jU h1 with h1|h1<;>rcases jU h2 with h2|h2
  . exact own_apart h1 h2
  . have a:=pD (C:=C+1) (Ue _) h1;have b:c<C:=by rw[hC];exact low h2
    exact absurd a (Nat.not_le_of_gt (US b))
  . have a:=pD (C:=C+1) (Ue _) h2;have b:c<C:=by rw[hC];exact low h1
    exact absurd a (Nat.not_le_of_gt (US b))
  . exact I.ok.inj x y c (cX _ [] (λ _ _ e=>by cases e) x c h1) (cX _ [] (λ _ _ e=>by cases e) y c h2)
 has:=λ x hx=>by
  rcases Bz hx with m|m
  . obtain⟨c,e⟩:=jQ scope.names [] (I.ok.has x (S.free _ m rfl)) (.inl m);exact Wv.mp (Wh _ _ _ (.inr (by rw[e];rfl)))
  . exact Wv.mp (Wh _ _ _ (.inl m))
 BG:=λ x c hf h=>by
  have hl:scope.names.lookup x=some .cell:=by
   have:(scope.names.lookup x==some .cell)=true:=hf;simpa using this
  obtain⟨c',e⟩:=Wv.mp (Wh (x:=x) scope.names (C+1) [] (.inl hl))
  have h':(cellsFrom (C+1) scope.names []++dw X.env.cells scope.names []).lookup x=some c:=by
   rw[<-g5];exact h
  rcases r8 h' with q|q
  . have:=pD (C:=C+1) (Ue _) (UW q);show s.heap.objs.size<=c;rw[<-hC];exact X8 this
  . rw[q.1]at e;cases e
 hd:=I.ok.hd
 frames:=I.ok.frames
 Dn:= .inl rfl
 Hy:=λ b hb=>⟨by rw[show(gB X scope Nc C s H fp).env.locals=s.heap.objs.size from hC];exact UG (hlt b hb),λ x c h=>by
  rcases jU h with h|h
  . have a:=pD (C:=C+1) (Ue _) h;have b':b<C:=by rw[hC];exact hlt b hb
    exact VX (UE b' (X8 a))
  . exact hnc b hb x c (cX _ [] (λ _ _ e=>by cases e) x c h)⟩
 bs:=I.bs
 uJ:=Uj I.ok.uJ I.sz
 wA:=λ b o e hb=>by
  have hn:=(hf b hb).2.2.2.1;rcases hn with hn|hn
  . exact I.ok.wA b o e hn
  . exact absurd (Up (I.ok.bs b o e).1) (Nat.not_lt.mpr hn)
 wu:=λ b hb z=>by
  have q:=I.BP b z;rcases Ux.mp q with q|q
  . exact(hf b hb).2.1 q
  . exact(hf b hb).2.2.1 q
 ma:=I.stack
 yh:=λ b hb=>I.yx b hb
 gt:=I.ok.gt
theorem Dt{i:Nat}{v:V}(h:(σC fr σ)[i]?=some (some v)):∃j,fr[i]?=some (some j)/\σ[j]?=some (some v):=by
 unfold σC at h;rw[Uw]at h;cases q:fr[i]? with
 |none=>rw[q]at h;cases h
 |some o=>
  rw[q]at h;cases o with
  |none=>simp at h
  |some j=>
   simp only[WE,Option.some.injEq,Option.bind_some]at h;refine⟨j,rfl,?_⟩;cases r:σ[j]? with
   |none=>rw[r]at h;cases h
   |some u=>rw[r]at h;simp at h;rw[h]
theorem Jy{s':Shared}{h':Heap}{C:Addr}{fp:List Addr}{t':Nat}(S:cz X scope Nc fr)(I:Inv X pins σ H s)(hC:C=s.heap.objs.size)(ok:(gB X scope Nc C s H fp).Ok)(hfr:∀b∈fp,H b=none)
 (k:∀b o,s.heap.get? b=some o->h'.get? b=some o) (hn:h'.Ns C (λ _=>none)) (hcs:∀x c,(x,c)∈cellsFrom (C+1) scope.names []->h'.IsCell c none):Inv (gB X scope Nc C s H fp) [] (σC fr σ) H {s with heap:=h',toks:=t'} where
 ok:=ok
 os:=rfl
 bare:=I.bare
 base:=Un.kept k
 loc:=⟨_,hn,λ i x v h1 h2 h3=>by
  obtain⟨j,q1,q2⟩:=Dt h2;obtain⟨n1,n2,n3⟩:=S.map i j x h1 q1;obtain⟨m,hm,hl⟩:=I.loc
  have vis:AZ X.env.scope x:=by
   rcases n3 with z|z
   . exact .inr (.inl z)
   . exact .inr (.inr z)
  obtain⟨u,r,lk⟩:=hl j x v n1 q2 vis;refine⟨u,r,?_⟩;rcases lk with⟨z,_⟩|⟨z,c,e,ic⟩
  . rcases n3 with y|y
    . rw[y]at z;cases z
    . rw[y]at z;cases z
  . refine .inr ⟨BZ n2,?_⟩;obtain⟨c',e'⟩:=jQ scope.names [] ⟨c,e⟩ (.inl (UW n2));have e2:=cX _ [] (λ _ _ e=>by cases e) x c' e';rw[e]at e2;cases e2;refine⟨c,?_,ic.keeps k⟩;show(n_ scope C (dw X.env.cells scope.names [])).lookup x=some c;unfold n_;rw[g5,vO ?_]
    . exact e'
    . cases q:(cellsFrom (C+1) scope.names []).lookup x with
      |none=>rfl
      |some c2=>
       have:=S.cells _ (tK (UW q)) rfl;rw[n2]at this;cases this⟩
 cell:=λ x c h=>by
  rcases jU h with h|h
  . exact⟨_,hcs x c h⟩
  obtain⟨v,q⟩:=I.cell x c (cX _ [] (λ _ _ e=>by cases e) x c h);exact⟨v,q.keeps k⟩
 free:=by show H C=none;rw[hC];exact I.aO.fresh (Ue _)
 ju:=λ x c h=>by
  rcases jU h with h|h
  . have a:=pD (C:=C+1) (Ue _) h;exact I.aO.fresh (by rw[<-hC];exact X8 a)
  . exact I.ju x c (cX _ [] (λ _ _ e=>by cases e) x c h)
 pin:=λ p hp=>by cases hp
 aO:=I.aO.kept k
 len:=by unfold σC;rw[Uk];exact S.len
theorem Inv.forget{C:Addr}{h':Heap}(I:Inv X pins σ H s)(f:mN X pins H C)(hs:Heap.SameBut C s.heap h'):Inv X pins σ H {s with heap:=h'}:=by
 refine I.EM (s':={s with heap:=h'}) (ch:=[C]) rfl ?_ ?_ I.bare λ b hb=>?_
 . have ne:∀b,b∉[C]->b≠C:=λ b hb z=>hb (by simp[z]);exact{keep:=λ b o q _ _ hx=>(hs.2 b (ne b hx)).trans q,slot:=λ b o q _ _ hx=>⟨o.slots,(hs.2 b (ne b hx)).trans q⟩,free:=λ b o q n _=>n,there:=λ b o q hx=>⟨o,(hs.2 b (ne b hx)).trans q⟩,qO:=λ _ _ e=>e,pW:=λ _ _ _ e=>e,pH:=λ b ps e=>⟨#[],by rw[e];simp⟩}
 . intro a o q;have na:∀b u,H b=some u->b≠C:=λ b u q z=>by rw[z,f.1]at q;cases q
   refine(I.aO a o q).qQ (λ b u hb e=>?_) (λ _ q=>q) λ _ _ q=>q;rw[hs.2 b ?_]
   . exact e
   . rcases hb with rfl|hb
     . exact na _ _ q
     . exact na _ _ hb
 . have:b=C:=by simpa using hb
   subst this;exact⟨f.2.2.2.1,f.2.1,f.2.2.2.2.1,f.2.2.2.2.2⟩
theorem xp{elt tg iter:Expr}{ifs:List Expr}{wi:TI}{g:TG}{c:TT}{te:TE}{pos:Pos}{Q:VK}{RR:Value->Addr->Result->Shared->Prop}(hx:X.xe=λ _ _=>False)(hc:X.calm=true)(S:cz X scope Nc fr)(hi:PI X tg iter wi)
 (hg:∀C s H ex,PG (gB X scope Nc C s H ex) tg g) (ht:∀C s H ex,uQ (gB X scope Nc C s H ex) ifs c) (he:∀C s H ex,PE (gB X scope Nc C s H ex) elt te) (I:Inv X pins σ H s) (h:xv wi fr g c te σ H Q)
 (fin:∀(l C:Addr) (s6:Shared) (H5:Hp) (m:Str->Option Value),s6.heap.Ns C m->mN X pins H5 C->Inv X pins σ H5 s6->Q (.ref l) H5->RR (.ref l) C (.ok .next) s6):
 wpAny (model X.prog X.w) X.A (eval iter X.env) (λ x s₁=>wpAny (model X.prog X.w) X.A (pyIter x) (λ it s₂=>wpAny (model X.prog X.w) X.A (newList []) (λ acc s₃=>
  wpAny (model X.prog X.w) X.A (newFunctionEnv scope X.env.globals (dw X.env.cells scope.names []) [] X.env.qual none .none (some X.env)) (λ cenv s₄=>
   codeAny (model X.prog X.w) X.A (.compStart (.ListComp elt [⟨tg,iter,ifs,0⟩] scope pos) 0 it acc {cenv with scope:=relabel scope X.env}) (RR acc cenv.locals) s₄) X.xe s₃) X.xe s₂) X.xe s₁) X.xe s:=by
 refine b_ (hi pins s σ H _ I h) λ v s1 h1=>b_ h1 λ itv s2 h2=>?_;obtain⟨it,fp,tn,J,H2,e,I2,T,st2,f2,hR⟩:=h2;subst e;refine YY ?_ (UK _);have I3:=I2.IT (t':=s2.toks) (its:=[]) (ys:=[]) .nil (UK _);generalize e3:({s2 with heap:=s2.heap.push {cls:= .type "list",data:= .seq ([]:List Value).toArray}}:Shared)=s3;have I3:Inv X pins σ (upd H2 s2.heap.objs.size (.lst [])) s3:=by rw[<-e3];exact I3
 have ml:s2.heap.objs.size<s3.heap.objs.size:=by rw[<-e3];show _<(s2.heap.push _).objs.size;rw[U7];omega
 have k3:∀b o,s2.heap.get? b=some o->s3.heap.get? b=some o:=λ b o q=>by rw[<-e3];exact Uc _ q
 obtain⟨W,⟨m0,w0⟩,turn⟩:=hR s2.heap.objs.size (I2.aO.fresh (Ue _));refine w4 ?_;have hn:(pushCells (s3.heap.push {cls:= .type "dict",data:= .dict #[]}) scope.names).Ns s3.heap.objs.size (λ _=>none):=(Heap.Ns.new s3.heap (.type "dict")).keeps (pushCells_keeps _ _);have hcs:∀x c,(x,c)∈cellsFrom (s3.heap.objs.size+1) scope.names []->(pushCells (s3.heap.push {cls:= .type "dict",data:= .dict #[]}) scope.names).IsCell c none:=λ x c h=>((Pe scope.names _ (U7 ..)).empty x c h).1;have k4:∀b o,s3.heap.get? b=some o->(pushCells (s3.heap.push {cls:= .type "dict",data:= .dict #[]}) scope.names).get? b=some o:=λ b o q=>pushCells_keeps _ _ b o (Uc _ q);generalize(pushCells (s3.heap.push {cls:= .type "dict",data:= .dict #[]}) scope.names)=h' at hn hcs k4⊢;have hobj:∀b∈fp,∃o,s2.heap.get? b=some o/\∀v,o.data≠ .cell v:=T.obj _ _ st2;have hlt2:∀b∈fp,b<s3.heap.objs.size:=λ b hb=>let⟨o,q,_⟩:=hobj b hb;Up (k3 b o q)
 have hnl:∀b∈fp,b≠s2.heap.objs.size:=λ b hb=>by
  obtain⟨o,q,_⟩:=hobj b hb;exact UG (Up q)
 have f3:∀b∈fp,mN X pins (upd H2 s2.heap.objs.size (.lst [])) b:=λ b hb=>⟨by rw[aB (hnl b hb)];exact(f2 b hb).1,(f2 b hb).2⟩
 have ok:=O4 (C:=s3.heap.objs.size) (fp:=fp) S I3 rfl f3 hlt2 λ b hb=>(f2 b hb).2.2.2.2.1
 have I4:Inv (gB X scope Nc s3.heap.objs.size s3 (upd H2 s2.heap.objs.size (.lst [])) fp) [] (σC fr σ) (upd H2 s2.heap.objs.size (.lst [])) {s3 with heap:=h',toks:=s3.toks}:=
  Jy (s':=s3) S I3 rfl ok (λ b hb=>(f3 b hb).1) k4 hn hcs
 have st4:tn 0 h':=T.keep _ _ _ st2 λ b _ o q=>k4 b o (k3 b o q);generalize hXc:gB X scope Nc s3.heap.objs.size s3 (upd H2 s2.heap.objs.size (.lst [])) fp=Xc at I4;have hgc:PG Xc tg g:=by rw[<-hXc];exact hg _ _ _ _
 have htc:uQ Xc ifs c:=by rw[<-hXc];exact ht _ _ _ _
 have hec:PE Xc elt te:=by rw[<-hXc];exact he _ _ _ _
 have xP:Xc.prog=X.prog:=by rw[<-hXc];rfl
 have xW:Xc.w=X.w:=by rw[<-hXc];rfl
 have xK:Xc.K=X.K:=by rw[<-hXc];rfl
 have xc:Xc.calm=true:=by rw[<-hXc];exact hc
 have xA:Xc.A=X.A:=by rw[<-hXc];rfl
 have xE:Xc.env=compEnvC scope (n_ scope s3.heap.objs.size (dw X.env.cells scope.names [])) s3.heap.objs.size X.env:=by rw[<-hXc];rfl
 have xx:Xc.xe=λ _ _=>False:=by rw[<-hXc];rfl
 have fpc:∀ {H':Hp},(∀b∈fp,H' b=none)->∀b∈fp,mN Xc [] H' b:=λ{H'} hn b hb=>by
  rw[<-hXc];refine⟨hn b hb,UG (hlt2 b hb),ok.wu b hb,.inl hb,(ok.Hy b hb).2,λ p hp=>by cases hp⟩
 have loop:codeAny (model X.prog X.w) X.A (.compLoop (.ListComp elt [⟨tg,iter,ifs,0⟩] scope pos) 0 (.ref it) (.ref s2.heap.objs.size) (compEnvC scope (n_ scope s3.heap.objs.size (dw X.env.cells scope.names [])) s3.heap.objs.size X.env))
  (RR (.ref s2.heap.objs.size) s3.heap.objs.size) {s3 with heap:=h',toks:=s3.toks}:=by
  refine C1 (λ n s'=>∃i σ' H',Inv Xc [] σ' H' s'/\tn i s'.heap/\(∀b∈fp,H' b=none)/\W i n σ' H') ?_ m0 ⟨0,_,_,I4,st4,λ b hb=>(f3 b hb).1,w0⟩;rintro n s5 ⟨i,σ5,H5,I5,st5,fr5,w5⟩;rcases turn i n σ5 H5 w5 with⟨stop,qn⟩|⟨go,N,hN,step⟩
  . have q:=T.done Xc xP xW xK xc i [] s5 σ5 H5 (λ _ _=>False) I5 (fpc fr5) st5 stop;rw[xA]at q;refine b_ q λ r s6 ⟨hr,I6⟩=>?_;subst hr;obtain⟨m,hm,_⟩:=I6.loc;rw[xE]at hm;have free6:H5 s3.heap.objs.size=none:=by have:=I6.free;rw[xE]at this;exact this
    have un6:Un (rS X.stack) fp (upd H2 s2.heap.objs.size (.lst [])) H5 s3.heap s6.heap:=by have:=I6.base;rw[<-hXc]at this;exact this
    have os6:s6.os=s3.os:=by have:=I6.os;rw[<-hXc]at this;exact this
    have hok6:i8 X.prog X.w H5 s6.heap:=by have:=I6.aO;rw[xP,xW]at this;exact this
    have J:=I3.EM (s':=s6) (ch:=fp) os6 un6 hok6 I6.bare λ b hb=>⟨(f3 b hb).2.2.2.1,(f3 b hb).2.1,(f3 b hb).2.2.2.2.1,(f3 b hb).2.2.2.2.2⟩
    exact fin _ _ s6 H5 m hm (I3.uE (Ue _) free6) J qn
  . have q:=T.item Xc xP xW xK xc i [] s5 σ5 H5 (λ _ _=>False) I5 (fpc fr5) st5 go;rw[xA]at q;refine b_ q λ r s6 ⟨u,hr,h6⟩=>?_;subst hr;refine b_ h6 λ _ s7 ⟨x,H7,I7,r7,y7,st7,fr7⟩=>?_;have I7':=I7.pinned (fpc fr7) (T.obj _ _ st7);have q8:=hgc _ s7 σ5 H7 x u _ I7' r7 (step x H7 y7);rw[xP,xW,xA,xE,xx]at q8;refine b_ q8 λ _ s8 ⟨σ8,H8,I8,q8⟩=>?_;have q9:=htc _ s8 σ8 H8 _ I8 q8;rw[xP,xW,xA,xE,xx]at q9;refine b_ q9 λ b s9 ⟨H9,I9,q9⟩=>?_
    have again:∀ {H':Hp} {s':Shared},Inv Xc ([]++uN fp s7.heap) σ8 H' s'->N σ8 H'->∃m,m<n/\∃i σ' H',Inv Xc [] σ' H' s'/\tn i s'.heap/\(∀b∈fp,H' b=none)/\W i m σ' H':=λ{H' s'} J nn=>by
     obtain⟨m',hm,w7⟩:=hN σ8 H' nn;refine⟨m',hm,i+1,σ8,H',J.iQ,T.keep _ _ _ st7 λ b hb o e=>(J.pin (b,o) (Uy _ (Uy _ (oz hb e)))).1,λ b hb=>?_,w7⟩;obtain⟨o,e,d⟩:=T.obj _ _ st7 b hb;exact(J.pin (b,o) (Uy _ (Uy _ (oz hb e)))).2.1
    cases b with
    |false=>exact again I9 q9
    |true=>
     have qe:=hec _ s9 σ8 H9 _ I9 q9;rw[xP,xW,xA,xE,xx]at qe;refine b_ qe λ y s10 ⟨vy,H10,I10,ry,ys,hy,hlt,qN⟩=>?_;have qa:=zg (X:=Xc) _ s10 σ8 H10 (.ref s2.heap.objs.size) [vy] (.ref s2.heap.objs.size) [y] (λ _ H'=>N σ8 H') I10 rfl (.cons ry .nil) ⟨_,ys,vy,rfl,rfl,hy,hlt,qN⟩;rw[xP,xW,xA,xx]at qa;exact b_ qa λ _ s11 ⟨_,H11,I11,_,q11⟩=>again I11 q11
 refine codeAny_compStart_list ?_ ?_
 . exact loop
 . exact T.self _ 0 _ _ _ st4 loop
theorem DF{elt tg iter:Expr}{ifs:List Expr}{wi:TI}{g:TG}{c:TT}{te:TE}{pos:Pos}(hx:X.xe=λ _ _=>False)(hc:X.calm=true)(S:cz X scope Nc fr)(hi:PI X tg iter wi)
 (hg:∀C s H ex,PG (gB X scope Nc C s H ex) tg g) (ht:∀C s H ex,uQ (gB X scope Nc C s H ex) ifs c) (he:∀C s H ex,PE (gB X scope Nc C s H ex) elt te)
 (hs:∀x,foldedSetIterable iter X.env x=pure x:=by intro _;rfl):PE X (.ListComp elt [⟨tg,iter,ifs,0⟩] scope pos) (xv wi fr g c te):=by
 intro pins s σ H Q I h;rw[eval_ListComp];have hcl:closureFor scope X.env=pure (dw X.env.cells scope.names []):=oi λ x hx hk=>I.ok.has x.1 (S.free x hx hk);refine Yr rfl hs hcl S.kind S.names ?_;exact xp (RR:=λ acc C=>compPost (model X.prog X.w) X.A X.xe none (EP X pins σ Q) acc C) hx hc S hi hg ht he I h λ l C s6 H5 m hm f J q=>⟨m,hm,λ h'' hs''=>⟨.ref l,H5,Inv.forget J f hs'',rfl,q⟩⟩
theorem LD{elt tg iter:Expr}{ifs:List Expr}{wi:TI}{g:TG}{c:TT}{te:TE}{pos pos' spos:Pos}{i:Nat}{x:Str}(hx:X.xe=λ _ _=>False)(hc:X.calm=true)(S:cz X scope Nc fr)(hi:PI X tg iter wi)
 (hg:∀C s H ex,PG (gB X scope Nc C s H ex) tg g) (ht:∀C s H ex,uQ (gB X scope Nc C s H ex) ifs c) (he:∀C s H ex,PE (gB X scope Nc C s H ex) elt te) (hN:X.N.Nodup) (hni:X.N[i]?=some x) (hl:Loc X.env.scope x) (hf:X.fn x=true\/X.env.scope.names.lookup x=some .local)
 (hsw:swapsWith (.ListComp elt [⟨tg,iter,ifs,0⟩] scope pos) (some (.Name x pos')) spos.line X.env=pure true)
 (hs:∀x,foldedSetIterable iter X.env x=pure x:=by intro _;rfl):PS X (.Assign [.Name x pos'] (.ListComp elt [⟨tg,iter,ifs,0⟩] scope pos) spos) (sr (xv wi fr g c te) (kO i)):=by
 intro pins s σ H D I h;have hcl:closureFor scope X.env=pure (dw X.env.cells scope.names []):=oi λ x hx hk=>I.ok.has x.1 (S.free x hx hk);rw[exec_Assign_Name_used _ _ _ _ hsw];refine T_ (Xo (T_ ?_));show wpAny _ X.A (do let _ <-comprehension (.ListComp elt [⟨tg,iter,ifs,0⟩] scope pos) scope X.env _ (newList []) false (eval iter X.env) (some (assign (.Name x pos') X.env))) _ _ s
 refine T_ (V1 (Yr (use:=some (assign (.Name x pos') X.env)) (Q:=λ _ s'=>SP X pins D .next s') rfl hs hcl S.kind S.names
  (xp (RR:=λ acc C=>compPost (model X.prog X.w) X.A X.xe (some (assign (.Name x pos') X.env)) (λ _ s'=>SP X pins D .next s') acc C) hx hc S hi hg ht he I h λ l C s6 H5 m hm f J q=>?_)) (λ _ s' hq=>Ul (Ul hq)) λ _ _ e=>e)
 show wpAny _ X.A (assign (.Name x pos') X.env (.ref l)) _ _ _;refine wpAny_assign_Name (zQ J hN hni hl (show RelV (.ref l) (.ref l)from rfl) (λ s7 J7 hch=>?_) hf);obtain⟨a,hsame,ha⟩:=hch
 have hCa:C≠a:=by
  rcases ha with rfl|ha
  . exact f.2.1
  . exact λ z=>f.2.2.2.2.1 x a ha z.symm
 refine⟨m,hm.sameBut hsame hCa,λ h'' hs''=>⟨σ.set i (some (.ref l)),H5,Inv.forget J7 f hs'',q⟩⟩
end
inductive D where
 |aF|bl (b:Bool)|int (i:Int)|str (x:Str)|ty (n:String)|ref (n:Nat)|lst (xs:List D)|tup (xs:List D)
inductive Cell where
 |lst (xs:List D)|ins (C:Addr) (fs:List (Str×D))|dead
  |tab (P:Addr) (pos:Pos) (qual:Str) (b:Bool)
abbrev ag:=List Cell
abbrev cy:=List (Option D)
mutual
def Rep(α:List (Option Addr))(H:Hp):D->V->Prop
 | .aF,v=>v= .aF
 | .bl b,v=>v= .bl b
 | .int i,v=>v= .int i
 | .str x,v=>v= .str x
 | .ty n,v=>v= .ty n
 | .ref n,v=>α[n]?=some none\/∃a,α[n]?=some (some a)/\v= .ref a
 | .lst xs,v=>∃a vs,v= .ref a/\some a∉α/\Rd H a (.lst vs)/\aI α H xs vs
 | .tup xs,v=>∃a vs,v= .ref a/\some a∉α/\H a=some (.tup vs)/\aI α H xs vs
def aI(α:List (Option Addr))(H:Hp):List D->List V->Prop
 | [],vs=>vs=[]
 |d::ds,vs=>∃v r,vs=v::r/\Rep α H d v/\aI α H ds r
end
theorem aY{α:List (Option Addr)}{H:Hp}:∀ {ds:List D} {vs:List V},aI α H ds vs↔Paired (Rep α H) ds vs
 | [],vs=>by
   unfold aI;constructor
   . rintro rfl;exact .nil
   . intro h;cases h;rfl
 |d::ds,vs=>by
  unfold aI;constructor
  . rintro⟨v,r,rfl,h1,h2⟩;exact .cons h1 (aY.mp h2)
  . intro h;cases h with|cons h1 h2=>exact⟨_,_,rfl,h1,aY.mpr h2⟩
section
variable {α:List (Option Addr)}{H:Hp}
theorem aI.length{ds:List D}{vs:List V}(h:aI α H ds vs):ds.length=vs.length:=Paired.length (aY.mp h)
theorem xy{A B:Type}{F:A->B->Prop}:∀ {xs:List A} {ys:List B} {i:Nat} {x:A},Paired F xs ys->xs[i]?=some x->∃y,ys[i]?=some y/\F x y
 |_,_,_,_,.nil,e=>by simp at e
 |_,_,0,_,.cons r _,e=>by simp at e;subst e;exact⟨_,rfl,r⟩
 |_,_,i+1,x,.cons _ t,e=>by
  obtain⟨u,h1,h2⟩:=xy (i:=i) (x:=x) t (by simpa using e);exact⟨u,by simpa using h1,h2⟩
theorem fw{A B:Type}{F:A->B->Prop}:∀ {xs xs':List A} {ys ys':List B},Paired F xs ys->Paired F xs' ys'->Paired F (xs++xs') (ys++ys')
 |_,_,_,_,.nil,s=>s
 |_,_,_,_,.cons r t,s=> .cons r (fw t s)
theorem vM{A B:Type}{F:A->B->Prop}:∀ {xs:List A} {ys:List B} (n:Nat),Paired F xs ys->Paired F (xs.take n) (ys.take n)
 |_,_,0,_=> .nil
 |_,_,_+1,.nil=> .nil
 |_,_,n+1,.cons r t=> .cons r (vM n t)
theorem vU{A B:Type}{F:A->B->Prop}:∀ {xs:List A} {ys:List B} (n:Nat),Paired F xs ys->Paired F (xs.drop n) (ys.drop n)
 |_,_,0,r=>r
 |_,_,_+1,.nil=> .nil
 |_,_,n+1,.cons _ t=>vU n t
theorem sS{A B:Type}{F:A->B->Prop}{x:A}{y:B}(r:F x y):∀ {xs:List A} {ys:List B} (i:Nat),Paired F xs ys->Paired F (xs.set i x) (ys.set i y)
 |_,_,_,.nil=> .nil
 |_,_,0,.cons _ t=> .cons r t
 |_,_,i+1,.cons q t=> .cons q (sS r i t)
theorem nB{A B:Type}{F:A->B->Prop}{xs:List A}{ys:List B}(h:Paired F xs ys):∀k:Nat,Paired F (List.replicate k xs).flatten (List.replicate k ys).flatten
 |0=> .nil
 |k+1=>by
  rw[VI,VI,Wa,Wa];exact fw h (nB h k)
theorem aI.get{ds:List D}{vs:List V}{i:Nat}{d:D}(h:aI α H ds vs)(e:ds[i]?=some d):∃v,vs[i]?=some v/\Rep α H d v:=xy (aY.mp h) e
end
structure Step(α:List (Option Addr))(H:Hp)(α':List (Option Addr))(H':Hp):Prop where
 ext:∀b o,some b∉α->H b=some o->H' b=some o
 pre:∀(n:Nat) (x:Option Addr),α[n]?=some x->α'[n]?=some x\/α'[n]?=some none
 new:∀b,some b∈α'->some b∉α->H b=none
theorem Step.refl{α:List (Option Addr)}{H:Hp}:Step α H α H:=⟨λ _ _ _ h=>h,λ _ _ h=> .inl h,λ _ h n=>absurd h n⟩
theorem Step.trans{α α1 α2:List (Option Addr)}{H H1 H2:Hp}(a:Step α H α1 H1)(b:Step α1 H1 α2 H2):Step α H α2 H2 where
 ext:=λ c o hc e=>b.ext c o (λ z=>by rw[a.new c z hc]at e;cases e) (a.ext c o hc e)
 pre:=λ n x e=>by
  rcases a.pre n x e with h|h
  . exact b.pre n x h
  . rcases b.pre n none h with h'|h'
    . exact .inr h'
    . exact .inr h'
 new:=λ c hc n=>by
  by_cases h1:some c∈α1
  . exact a.new c h1 n
  . have:=b.new c hc h1;cases q:H c with
    |none=>rfl
    |some o=>rw[a.ext c o n q]at this;cases this
theorem Step.laid{α:List (Option Addr)}{H:Hp}{p:Addr}{o:HO}(h:H p=none):Step α H α (upd H p o):=
 ⟨λ b u _ e=>by rw[aB (dJ e h)];exact e,λ _ _ h=> .inl h,λ _ h n=>absurd h n⟩
theorem Step.cell{α:List (Option Addr)}{H:Hp}{p:Addr}{o:HO}(h:H p=none):Step α H (α++[some p]) (upd H p o):=
 ⟨λ b u _ e=>by rw[aB (dJ e h)];exact e,λ n x e=> .inl (by rw[Uh (Ua.mp e).1];exact e),λ b hb n=>by
  rcases UM.mp hb with z|z
  . exact absurd z n
  . have:b=p:=by simpa using z
    subst this;exact h⟩
theorem Step.write{α:List (Option Addr)}{H:Hp}{p:Addr}{o:HO}(h:some p∈α):Step α H α (upd H p o):=
 ⟨λ b u n e=>by rw[aB (λ z=>by subst z;exact n h)];exact e,λ _ _ h=> .inl h,λ _ h n=>absurd h n⟩
mutual
theorem Rep.step{α α':List (Option Addr)}{H H':Hp}(s:Step α H α' H'):∀ {d:D} {v:V},Rep α H d v->Rep α' H' d v
 | .aF,_,h=>by unfold Rep at h⊢;exact h
 | .bl _,_,h=>by unfold Rep at h⊢;exact h
 | .int _,_,h=>by unfold Rep at h⊢;exact h
 | .str _,_,h=>by unfold Rep at h⊢;exact h
 | .ty _,_,h=>by unfold Rep at h⊢;exact h
 | .ref n,_,h=>by
   unfold Rep at h⊢;rcases h with h|⟨a,e,r⟩
   . rcases s.pre _ _ h with z|z<;>exact .inl z
   . rcases s.pre _ _ e with z|z
     . exact .inr ⟨a,z,r⟩
     . exact .inl z
 | .lst xs,_,h=>by
   unfold Rep at h⊢;obtain⟨a,vs,e,n,r,q⟩:=h;refine⟨a,vs,e,λ z=>?_,?_,aI.step s q⟩
   . have:=s.new a z n;rcases r with r|⟨o,r⟩<;>(rw[this]at r;cases r)
   . rcases r with r|⟨o,r⟩
     . exact .inl (s.ext _ _ n r)
     . exact .inr ⟨o,s.ext _ _ n r⟩
 | .tup xs,_,h=>by
   unfold Rep at h⊢;obtain⟨a,vs,e,n,r,q⟩:=h;exact⟨a,vs,e,(λ z=>by rw[s.new a z n]at r;exact nomatch r),s.ext _ _ n r,aI.step s q⟩
theorem aI.step{α α':List (Option Addr)}{H H':Hp}(s:Step α H α' H'):∀ {ds:List D} {vs:List V},aI α H ds vs->aI α' H' ds vs
 | [],_,h=>by unfold aI at h⊢;exact h
 |d::ds,_,h=>by
  unfold aI at h⊢;obtain⟨v,r,e,h1,h2⟩:=h;exact⟨v,r,e,Rep.step s h1,aI.step s h2⟩
end
structure cC(G F H:Hp):Prop where
 eq:∀b,H b=(G b).or (F b)
 Bs:∀b o,G b=some o->F b=none
section
variable {G F H:Hp}
theorem cC.get(P:cC G F H){b:Addr}{o:HO}(h:G b=some o):H b=some o:=by rw[P.eq b,h];rfl
theorem cC.same(P:cC G F H):IX G H:=λ _ _ h=>P.get h
theorem cC.none(P:cC G F H){b:Addr}(h:H b=none):G b=none/\F b=none:=by
 have e:=P.eq b;rw[h]at e;cases q:G b with
 |none=>rw[q]at e;exact⟨rfl,e.symm⟩
 |some o=>rw[q]at e;cases e
theorem cC.frame(P:cC G F H){b:Addr}{o:HO}(h:F b=some o):H b=some o/\G b=Option.none:=by
 have hn:G b=Option.none:=by
  cases q:G b with
  |none=>rfl
  |some u=>rw[P.Bs b u q]at h;cases h
 exact⟨by rw[P.eq b,hn,h];rfl,hn⟩
theorem cC.laid(P:cC G F H){p:Addr}{o:HO}(h:H p=Option.none):cC (upd G p o) F (upd H p o):=by
 obtain⟨h1,h2⟩:=P.none h;refine⟨λ b=>?_,λ b u e=>?_⟩
 . by_cases hb:b=p
   . subst hb;rw[bc,bc];rfl
   . rw[aB hb,aB hb];exact P.eq b
 . by_cases hb:b=p
   . subst hb;exact h2
   . rw[aB hb]at e;exact P.Bs b u e
theorem cC.write(P:cC G F H){p:Addr}{o o':HO}(h:G p=some o):cC (upd G p o') F (upd H p o'):=by
 refine⟨λ b=>?_,λ b u e=>?_⟩
 . by_cases hb:b=p
   . subst hb;rw[bc,bc];rfl
   . rw[aB hb,aB hb];exact P.eq b
 . by_cases hb:b=p
   . subst hb;exact P.Bs b o h
   . rw[aB hb]at e;exact P.Bs b u e
theorem cC.hide(P:cC G F H){p:Addr}{o:HO}(h:H p=Option.none):cC G (upd F p o) (upd H p o):=by
 obtain⟨h1,h2⟩:=P.none h;refine⟨λ b=>?_,λ b u e=>?_⟩
 . by_cases hb:b=p
   . subst hb;rw[bc,bc,h1];rfl
   . rw[aB hb,aB hb];exact P.eq b
 . by_cases hb:b=p
   . subst hb;rw[h1]at e;cases e
   . rw[aB hb];exact P.Bs b u e
theorem cC.TC(P:cC G F H){p:Addr}{o o':HO}(h:F p=some o):cC G (upd F p o') (upd H p o'):=by
 have h1:=(P.frame h).2;refine⟨λ b=>?_,λ b u e=>?_⟩
 . by_cases hb:b=p
   . subst hb;rw[bc,bc,h1];rfl
   . rw[aB hb,aB hb];exact P.eq b
 . by_cases hb:b=p
   . subst hb;rw[h1]at e;cases e
   . rw[aB hb];exact P.Bs b u e
theorem cC.show{p:Addr}{o:HO}(P:cC G (upd F p o) H)(h:F p=Option.none):cC (upd G p o) F H:=by
 have h1:=(P.frame (b:=p) bc)
 refine⟨λ b=>?_,λ b u e=>?_⟩
 . by_cases hb:b=p
   . subst hb;rw[bc,h1.1];rfl
   . rw[aB hb,P.eq b,aB hb]
 . by_cases hb:b=p
   . subst hb;exact h
   . rw[aB hb]at e;have:=P.Bs b u e;rw[aB hb]at this;exact this
end
mutual
theorem Rep.mono{α:List (Option Addr)}{G H:Hp}(s:IX G H):∀ {d:D} {v:V},Rep α G d v->Rep α H d v
 | .aF,_,h=>by unfold Rep at h⊢;exact h
 | .bl _,_,h=>by unfold Rep at h⊢;exact h
 | .int _,_,h=>by unfold Rep at h⊢;exact h
 | .str _,_,h=>by unfold Rep at h⊢;exact h
 | .ty _,_,h=>by unfold Rep at h⊢;exact h
 | .ref n,_,h=>by unfold Rep at h⊢;exact h
 | .lst xs,_,h=>by
   unfold Rep at h⊢;obtain⟨a,vs,e,n,r,q⟩:=h;refine⟨a,vs,e,n,?_,aI.mono s q⟩;rcases r with r|⟨o,r⟩
   . exact .inl (s _ _ r)
   . exact .inr ⟨o,s _ _ r⟩
 | .tup xs,_,h=>by
   unfold Rep at h⊢;obtain⟨a,vs,e,n,r,q⟩:=h;exact⟨a,vs,e,n,s _ _ r,aI.mono s q⟩
theorem aI.mono{α:List (Option Addr)}{G H:Hp}(s:IX G H):∀ {ds:List D} {vs:List V},aI α G ds vs->aI α H ds vs
 | [],_,h=>by unfold aI at h⊢;exact h
 |d::ds,_,h=>by
  unfold aI at h⊢;obtain⟨v,r,e,h1,h2⟩:=h;exact⟨v,r,e,Rep.mono s h1,aI.mono s h2⟩
end
def k_(α:List (Option Addr))(H:Hp):List (Str×D)->List (Str×V)->Prop:=Paired λ p q=>p.1=q.1/\Rep α H p.2 q.2
def l9(α:List (Option Addr))(H:Hp)(a:Addr):Cell->Prop
 | .lst xs=>∃vs,H a=some (.lst vs)/\aI α H xs vs
 | .ins C fs=>∃dx vs,H a=some (.ins C dx vs)/\k_ α H fs vs
 | .dead=>False
 | .tab P pos qual b=>a=P/\∃ps:Array Value,H a=some (.lG ps)/\TriplesOk ps.toList/\
    ((b=false/\codeAmong pos ps.toList=none)\/(b=true/\∃c o vs t,codeAmong pos ps.toList=some (.ref c)/\some c∉α/\H c=some (.ia o (.own c))/\o.data= .fields vs/\vs[1]?=some (.str qual t)))
structure a7(α:List (Option Addr))(st:ag)(H:Hp):Prop where
 len:α.length=st.length
 nd:∀(i j:Nat) (a:Addr),α[i]?=some (some a)->α[j]?=some (some a)->i=j
 at':∀(n:Nat) (c:Cell),st[n]?=some c->(c= .dead/\α[n]?=some none)\/∃a,α[n]?=some (some a)/\l9 α H a c
theorem k_.step{α α':List (Option Addr)}{H H':Hp}(s:Step α H α' H'){ds:List (Str×D)}{vs:List (Str×V)}(h:k_ α H ds vs):k_ α' H' ds vs:=Paired.Js h λ _ _ z=>⟨z.1,z.2.step s⟩
theorem l9.same{α α':List (Option Addr)}{H H':Hp}{a:Addr}{c:Cell}(s:Step α H α' H')(e:H' a=H a)(h:l9 α H a c):l9 α' H' a c:=by
 cases c with
 |lst xs=>obtain⟨vs,h1,h2⟩:=h;exact⟨vs,e.trans h1,h2.step s⟩
 |ins C fs=>obtain⟨dx,vs,h1,h2⟩:=h;exact⟨dx,vs,e.trans h1,h2.step s⟩
 |dead=>exact h.elim
 |tab P pos qual b=>
  obtain⟨z,ps,h1,h2,h3⟩:=h;refine⟨z,ps,e.trans h1,h2,?_⟩;rcases h3 with h3|⟨hb,c,o,vs,t,q1,q2,q3,q4⟩
  . exact .inl h3
  . exact .inr ⟨hb,c,o,vs,t,q1,(λ y=>by rw[s.new c y q2]at q3;cases q3),s.ext c _ q2 q3,q4⟩
theorem l9.some{α:List (Option Addr)}{H:Hp}{a:Addr}{c:Cell}(h:l9 α H a c):∃o,H a=some o:=by
 cases c with
 |lst xs=>obtain⟨vs,h1,h2⟩:=h;exact⟨_,h1⟩
 |ins C fs=>obtain⟨dx,vs,h1,h2⟩:=h;exact⟨_,h1⟩
 |dead=>exact h.elim
 |tab P pos qual b=>obtain⟨_,ps,h1,_⟩:=h;exact⟨_,h1⟩
theorem cY{α:List (Option Addr)}{H:Hp}{n:Nat}{v:V}{a:Addr}(e:α[n]?=Option.some (Option.some a))(r:Rep α H (.ref n) v):v= .ref a:=by
 unfold Rep at r;rcases r with r|⟨b,eb,rfl⟩
 . rw[e]at r;cases r
 . rw[e]at eb;cases eb;rfl
section
variable {α:List (Option Addr)}{st:ag}{H:Hp}
theorem a7.iZ(S:a7 α st H){n:Nat}{xs:List D}(e:st[n]?=Option.some (.lst xs)):∃a,α[n]?=Option.some (Option.some a)/\∃vs,H a=Option.some (.lst vs)/\aI α H xs vs:=by
 rcases S.at' n _ e with⟨z,_⟩|z
 . cases z
 . exact z
theorem a7.x8(S:a7 α st H){n:Nat}{C:Addr}{fs:List (Str×D)}(e:st[n]?=Option.some (.ins C fs)):∃a,α[n]?=Option.some (Option.some a)/\∃dx vs,H a=Option.some (.ins C dx vs)/\k_ α H fs vs:=by
 rcases S.at' n _ e with⟨z,_⟩|z
 . cases z
 . exact z
theorem a7.mem(S:a7 α st H){a:Addr}(h:Option.some a∈α):∃(n:Nat) (c:Cell),α[n]?=Option.some (Option.some a)/\st[n]?=Option.some c/\l9 α H a c:=by
 obtain⟨n,hn,e⟩:=UC.mp h;have hl:n<st.length:=by rw[<-S.len];exact hn
 have e':α[n]?=Option.some (Option.some a):=by rw[Uq hn,e]
 rcases S.at' n st[n] (by simp[hl])with⟨_,q⟩|⟨a',q,ca⟩
 . rw[e']at q;cases q
 . rw[e']at q;cases q;exact⟨n,_,e',by simp[hl],ca⟩
theorem a7.kF(S:a7 α st H){p:Addr}(h:H p=none):Option.some p∉α:=λ z=>by
 obtain⟨n,c,_,_,ca⟩:=S.mem z;obtain⟨o,e⟩:=ca.some;rw[h]at e;cases e
theorem a7.laid(S:a7 α st H){p:Addr}{o:HO}(h:H p=none):a7 α st (upd H p o):=
 ⟨S.len,S.nd,λ n c e=>by
  rcases S.at' n c e with z|⟨a,q,ca⟩
  . exact .inl z
  . exact .inr ⟨a,q,ca.same (Step.laid h) (aB (by obtain⟨u,z⟩:=ca.some;exact dJ z h))⟩⟩
theorem a7.cell(S:a7 α st H){p:Addr}{o:HO}{c:Cell}(h:H p=none)(hc:l9 (α++[Option.some p]) (upd H p o) p c):a7 (α++[Option.some p]) (st++[c]) (upd H p o) where
 len:=by rw[VN,VN,S.len];rfl
 nd:=λ i j a ei ej=>by
  have key:∀(i:Nat) (a:Addr),(α++[Option.some p])[i]?=Option.some (Option.some a)->(i<α.length/\α[i]?=Option.some (Option.some a))\/(i=α.length/\a=p):=by
   intro i a e;by_cases hi:i<α.length
   . rw[Uh hi]at e;exact .inl ⟨hi,e⟩
   . rw[UH (Wd hi)]at e
     have h0:i-α.length=0:=by
      cases q:i-α.length with
      |zero=>rfl
      |succ k=>rw[q]at e;simp at e
     rw[h0]at e;have:p=a:=by simpa using e
     exact .inr ⟨by omega,this.symm⟩
  rcases key i a ei with⟨h1,e1⟩|⟨h1,e1⟩<;>rcases key j a ej with⟨h2,e2⟩|⟨h2,e2⟩
  . exact S.nd i j a e1 e2
  . subst e2;exact absurd (UJ e1) (S.kF h)
  . subst e1;exact absurd (UJ e2) (S.kF h)
  . omega
 at':=λ n d e=>by
  by_cases hn:n<st.length
  . rw[Uh hn]at e;have hl:n<α.length:=by rw[S.len];exact hn
    rcases S.at' n d e with⟨z,q⟩|⟨a,q,ca⟩
    . exact .inl ⟨z,by rw[Uh hl];exact q⟩
    . exact .inr ⟨a,by rw[Uh hl];exact q,ca.same (Step.cell h) (aB (by obtain⟨u,z⟩:=ca.some;exact dJ z h))⟩
  . rw[UH (Wd hn)]at e
    have h0:n-st.length=0:=by
     cases q:n-st.length with
     |zero=>rfl
     |succ k=>rw[q]at e;simp at e
    rw[h0]at e;have hd:c=d:=by simpa using e
    subst hd;refine .inr ⟨p,?_,hc⟩;rw[UH (by rw[S.len];exact Wd hn),S.len,h0];rfl
theorem a7.write(S:a7 α st H){p:Addr}{o:HO}{c:Cell}{n:Nat}(e:α[n]?=Option.some (Option.some p))(hc:l9 α (upd H p o) p c):a7 α (st.set n c) (upd H p o) where
 len:=by rw[Us];exact S.len
 nd:=S.nd
 at':=λ m d q=>by
  have hp:Option.some p∈α:=UJ e;by_cases hm:m=n
  . subst hm
    have hl:m<st.length:=by
     have:=(Ua.mp q).1;rw[Us]at this;exact this
    rw[Uo hl]at q;cases q;exact .inr ⟨p,e,hc⟩
  . rw[Ug (Ui hm)]at q;rcases S.at' m d q with z|⟨a,r,ca⟩
    . exact .inl z
    . refine .inr ⟨a,r,ca.same (Step.write hp) (aB λ z=>?_)⟩;subst z;exact hm (S.nd m n _ r e)
end
abbrev DK:=D->ag->Prop
abbrev DE:=cy->ag->DK->Prop
abbrev DT:=cy->ag->(Bool->ag->Prop)->Prop
abbrev DA:=cy->ag->(List D->ag->Prop)->Prop
structure kQ where
 nx:cy->ag->Prop
 rt:DK
 bk:cy->ag->Prop:=λ _ _=>False
 ct:cy->ag->Prop:=λ _ _=>False
abbrev DS:=kQ->cy->ag->Prop
structure eZ(α:List (Option Addr))(H:Hp)(σd:cy)(σ:L2.St):Prop where
 len:σd.length=σ.length
 at':∀(i:Nat) (d:D),σd[i]?=some (some d)->∃v,σ[i]?=some (some v)/\Rep α H d v
theorem eZ.step{α α':List (Option Addr)}{H H':Hp}{σd:cy}{σ:L2.St}(s:Step α H α' H')(h:eZ α H σd σ):eZ α' H' σd σ:=
 ⟨h.len,λ i d e=>let⟨v,q,r⟩:=h.at' i d e;⟨v,q,r.step s⟩⟩
theorem eZ.set{α:List (Option Addr)}{H:Hp}{σd:cy}{σ:L2.St}(h:eZ α H σd σ)(i:Nat){d:D}{v:V}(r:Rep α H d v):eZ α H (σd.set i (some d)) (σ.set i (some v)):=by
 refine⟨by rw[Us,Us,h.len],λ j e q=>?_⟩;have hl:=h.len;by_cases hj:j=i
 . subst hj
   have hlt:j<σd.length:=by
    have:=(Ua.mp q).1;rw[Us]at this;exact this
   rw[Uo hlt]at q;cases q;exact⟨v,Uo (by omega),r⟩
 . rw[Ug (Ui hj)]at q;rw[Ug (Ui hj)];exact h.at' j e q
def LK(α:List (Option Addr))(G F:Hp)(K:DK)(Q:VK):Prop:=∀d st',K d st'->∀α' G' H' v,Step α G α' G'->cC G' F H'->a7 α' st' G'->Rep α' G' d v->Q v H'
def K3(α:List (Option Addr))(G F:Hp)(K:Bool->ag->Prop)(Q:Bool->Hp->Prop):Prop:=∀b st',K b st'->∀α' G' H',Step α G α' G'->cC G' F H'->a7 α' st' G'->Q b H'
def TN(α:List (Option Addr))(G F:Hp)(K:List D->ag->Prop)(Q:List V->Hp->Prop):Prop:=∀ds st',K ds st'->∀α' G' H' vs,Step α G α' G'->cC G' F H'->a7 α' st' G'->aI α' G' ds vs->Q vs H'
inductive R9(t:DE)(σ:L2.St)(H:Hp)(Q:VK):Prop
 |mk (α:List (Option Addr)) (σd:cy) (st:ag) (K:DK) (G F:Hp) (P:cC G F H) (R:eZ α G σd σ) (S:a7 α st G) (h:t σd st K) (k:LK α G F K Q):R9 t σ H Q
def LE(t:DE):TE:=R9 t
inductive Sf(t:DT)(σ:L2.St)(H:Hp)(Q:Bool->Hp->Prop):Prop
 |mk (α:List (Option Addr)) (σd:cy) (st:ag) (K:Bool->ag->Prop) (G F:Hp) (P:cC G F H) (R:eZ α G σd σ) (S:a7 α st G) (h:t σd st K) (k:K3 α G F K Q):Sf t σ H Q
def LT(t:DT):TT:=Sf t
inductive R_(t:DA)(σ:L2.St)(H:Hp)(Q:List V->Hp->Prop):Prop
 |mk (α:List (Option Addr)) (σd:cy) (st:ag) (K:List D->ag->Prop) (G F:Hp) (P:cC G F H) (R:eZ α G σd σ) (S:a7 α st G) (h:t σd st K) (k:TN α G F K Q):R_ t σ H Q
def LA(t:DA):TA:=R_ t
theorem LK.here{α:List (Option Addr)}{G F H:Hp}{K:DK}{Q:VK}(h:LK α G F K Q)(P:cC G F H){d:D}{st:ag}{v:V}(k:K d st)(S:a7 α st G)(r:Rep α G d v):Q v H:=h d st k α G H v Step.refl P S r
theorem LK.at{α α1:List (Option Addr)}{G F G1:Hp}{K:DK}{Q:VK}(h:LK α G F K Q)(s:Step α G α1 G1):LK α1 G1 F K Q:=λ d st' k α' G' H' v s' P S r=>h d st' k α' G' H' v (s.trans s') P S r
theorem K3.at{α α1:List (Option Addr)}{G F G1:Hp}{K:Bool->ag->Prop}{Q:Bool->Hp->Prop}(h:K3 α G F K Q)(s:Step α G α1 G1):K3 α1 G1 F K Q:=λ d st' k α' G' H' s' P S=>h d st' k α' G' H' (s.trans s') P S
section
variable {X:Cx}{a b c e:Expr}{es:List Expr}{ta tb tc te:DE}{pos:Pos}
theorem PE.imp{t t':TE}(h:PE X e t)(f:∀σ H Q,t' σ H Q->t σ H Q):PE X e t':=λ pins s σ H Q I q=>h pins s σ H Q I (f σ H Q q)
theorem PT.imp{t t':TT}(h:PT X e t)(f:∀σ H Q,t' σ H Q->t σ H Q):PT X e t':=λ pins s σ H Q I q=>h pins s σ H Q I (f σ H Q q)
theorem PW.imp{t t':TT}(h:PW X e t)(f:∀σ H Q,t' σ H Q->t σ H Q):PW X e t':=λ w pins s σ H Q I q=>h w pins s σ H Q I (f σ H Q q)
theorem PA.imp{t t':TA}(h:PA X es t)(f:∀σ H Q,t' σ H Q->t σ H Q):PA X es t':=λ p pins s σ H Q I q=>h p pins s σ H Q I (f σ H Q q)
def aa(i:Nat):DE:=λ σ st K=>match σ[i]? with|some (some d)=>K d st|_=>False
def dC(d:D):DE:=λ _ st K=>K d st
theorem QW{i:Nat}{x:Str}(h:PE X (.Name x pos) (OI i)):PE X (.Name x pos) (LE (aa i)):=PE.imp h λ σ H Q ⟨α,σd,st,K,G,F,P,R,S,t,k⟩=>by
 unfold aa at t;split at t
 . rename_i d q;obtain⟨v,e,r⟩:=R.at' i d q;exact⟨v,e,k.here P t S r⟩
 . exact t.elim
theorem rJ{v:V}{d:D}(h:PE X e (tC v))(r:∀α H,Rep α H d v):PE X e (LE (dC d)):=PE.imp h λ σ H Q ⟨α,σd,st,K,G,F,P,R,S,t,k⟩=>k.here P t S (r α G)
theorem RD{i:Int}{j:Nat}:PE X (.Constant (.int i) j pos) (LE (dC (.int i))):=rJ N1 λ _ _=>by unfold Rep;rfl
theorem Su{i:Bool}{j:Nat}:PE X (.Constant (.bool i) j pos) (LE (dC (.bl i))):=rJ Q_ λ _ _=>by unfold Rep;rfl
theorem Qu{i:Str}{j:Nat}:PE X (.Constant (.str i) j pos) (LE (dC (.str i))):=rJ NJ λ _ _=>by unfold Rep;rfl
theorem Rn{j:Nat}:PE X (.Constant .none j pos) (LE (dC .aF)):=rJ OJ λ _ _=>by unfold Rep;rfl
abbrev cZ:=D->D->ag->DK->Prop
abbrev Cb:=D->ag->DK->Prop
abbrev ie:=List D->ag->DK->Prop
inductive RN(r:cZ)(x y:V)(H:Hp)(Q:VK):Prop
 |mk (α:List (Option Addr)) (d e:D) (st:ag) (K:DK) (G F:Hp) (P:cC G F H) (rx:Rep α G d x) (ry:Rep α G e y) (S:a7 α st G) (h:r d e st K) (k:LK α G F K Q):RN r x y H Q
def LR(r:cZ):R2:=RN r
inductive Pz(r:Cb)(x:V)(H:Hp)(Q:VK):Prop
 |mk (α:List (Option Addr)) (d:D) (st:ag) (K:DK) (G F:Hp) (P:cC G F H) (rx:Rep α G d x) (S:a7 α st G) (h:r d st K) (k:LK α G F K Q):Pz r x H Q
def KQ(r:Cb):V->Hp->VK->Prop:=Pz r
inductive Qg(r:ie)(xs:List V)(H:Hp)(Q:VK):Prop
 |mk (α:List (Option Addr)) (ds:List D) (st:ag) (K:DK) (G F:Hp) (P:cC G F H) (rx:aI α G ds xs) (S:a7 α st G) (h:r ds st K) (k:LK α G F K Q):Qg r xs H Q
def jN(r:ie):List V->Hp->VK->Prop:=Qg r
def ak(r:cZ)(ta tb:DE):DE:=λ σ st K=>ta σ st λ x st1=>tb σ st1 λ y st2=>r x y st2 K
def kD(r:Cb)(ta:DE):DE:=λ σ st K=>ta σ st λ x st1=>r x st1 K
theorem LE.op{r:cZ}{σ:L2.St}{H:Hp}{Q:VK}(h:LE (ak r ta tb) σ H Q):H_ (LR r) (LE ta) (LE tb) σ H Q:=by
 obtain⟨α,σd,st,K,G,F,P,R,S,t,k⟩:=h;refine⟨α,σd,st,_,G,F,P,R,S,t,λ d st1 q α1 G1 H1 v s1 P1 S1 r1=>?_⟩;refine⟨α1,σd,st1,_,G1,F,P1,R.step s1,S1,q,λ d2 st2 q2 α2 G2 H2 v2 s2 P2 S2 r2=>?_⟩;exact⟨α2,d,d2,st2,K,G2,F,P2,r1.step s2,r2,S2,q2,(k.at s1).at s2⟩
theorem LE.un{r:Cb}{σ:L2.St}{H:Hp}{Q:VK}(h:LE (kD r ta) σ H Q):RT (KQ r) (LE ta) σ H Q:=by
 obtain⟨α,σd,st,K,G,F,P,R,S,t,k⟩:=h;refine⟨α,σd,st,_,G,F,P,R,S,t,λ d st1 q α1 G1 H1 v s1 P1 S1 r1=>?_⟩;exact⟨α1,d,st1,K,G1,F,P1,r1,S1,q,k.at s1⟩
theorem S0{op:Operator}{r:cZ}(ho:cp X (binaryOp op) (LR r))(ha:PE X a (LE ta))(hb:PE X b (LE tb)):PE X (.BinOp a op b pos) (LE (ak r ta tb)):=PE.imp (Qq ho ha hb) λ _ _ _ h=>LE.op h
theorem Tg{op:UnaryOp}{r:Cb}(ho:DQ X (unaryOp op) (KQ r))(ha:PE X a (LE ta)):PE X (.UnaryOp op a pos) (LE (kD r ta)):=PE.imp (RB ho ha) λ _ _ _ h=>LE.un h
theorem Qp{op:CmpOp}{r:cZ}(ho:cp X (compareOp op) (LR r))(ha:PE X a (LE ta))(hb:PE X b (LE tb))(hm:behindInMarks op b=false:=by first|exact cJ _|rfl):PE X (.Compare a [op] [b] pos) (LE (ak r ta tb)):=PE.imp (Nf ho ha hb hm) λ _ _ _ h=>LE.op h
def cK(t:DE):DT:=λ σ st K=>t σ st λ d st1=>match d with| .bl b=>K b st1|_=>False
theorem LT.test{σ:L2.St}{H:Hp}{Q:Bool->Hp->Prop}(h:LT (cK te) σ H Q):LE te σ H λ x H'=>∃k,x= .bl k/\Q k H':=by
 obtain⟨α,σd,st,K,G,F,P,R,S,t,k⟩:=h;refine⟨α,σd,st,_,G,F,P,R,S,t,λ d st1 q α1 G1 H1 v s1 P1 S1 r1=>?_⟩;cases d with
 |bl b=>
  unfold Rep at r1;exact⟨b,r1,k b st1 q α1 G1 H1 s1 P1 S1⟩
 |_=>exact q.elim
theorem OY{op:CmpOp}{r:cZ}(ho:cp X (compareOp op) (LR r))(ha:PE X a (LE ta))(hb:PE X b (LE tb))(hm:behindInMarks op b=false:=by first|exact cJ _|rfl):PT X (.Compare a [op] [b] pos) (LT (cK (ak r ta tb))):=PT.imp (Lo ho ha hb hm) λ σ H Q h=>by
 have q:=LT.test h;exact LE.op (Q:=λ x H'=>∃k,x= .bl k/\Q k H') q
theorem Ot(he:PE X e (LE te))(hv:∀whole,isTrue e X.env whole=(do let v <-whole;standAt e.pos;holding [v] (truthy v)):=by intro _;rfl):PT X e (LT (cK te)):=PT.imp (N4 he hv) λ σ H Q h=>LT.test h
def Am(t:DT):DT:=λ σ st K=>t σ st λ b st1=>K (!b) st1
def AD(t u:DT):DT:=λ σ st K=>t σ st λ b st1=>if b=true then u σ st1 K else K false st1
def v_(t u:DT):DT:=λ σ st K=>t σ st λ b st1=>if b=true then K true st1 else u σ st1 K
theorem OF{t:DT}(ha:PT X a (LT t)):PT X (.UnaryOp .Not a pos) (LT (Am t)):=PT.imp (OS ha) λ σ H Q ⟨α,σd,st,K,G,F,P,R,S,t,k⟩=>
 ⟨α,σd,st,_,G,F,P,R,S,t,λ b st1 q α1 G1 H1 s1 P1 S1=>k _ st1 q α1 G1 H1 s1 P1 S1⟩
theorem LT.and{t u:DT}{σ:L2.St}{H:Hp}{Q:Bool->Hp->Prop}(h:LT (AD t u) σ H Q):NU (LT t) (LT u) σ H Q:=by
 obtain⟨α,σd,st,K,G,F,P,R,S,t,k⟩:=h;refine⟨α,σd,st,_,G,F,P,R,S,t,λ b st1 q α1 G1 H1 s1 P1 S1=>?_⟩;cases b with
 |true=>exact⟨α1,σd,st1,K,G1,F,P1,R.step s1,S1,q,k.at s1⟩
 |false=>exact k _ st1 q α1 G1 H1 s1 P1 S1
theorem LT.or{t u:DT}{σ:L2.St}{H:Hp}{Q:Bool->Hp->Prop}(h:LT (v_ t u) σ H Q):RQ (LT t) (LT u) σ H Q:=by
 obtain⟨α,σd,st,K,G,F,P,R,S,t,k⟩:=h;refine⟨α,σd,st,_,G,F,P,R,S,t,λ b st1 q α1 G1 H1 s1 P1 S1=>?_⟩;cases b with
 |false=>exact⟨α1,σd,st1,K,G1,F,P1,R.step s1,S1,q,k.at s1⟩
 |true=>exact k _ st1 q α1 G1 H1 s1 P1 S1
theorem L_{t:DT}(ha:PT X a (LT t)):PW X (.BoolOp .And [a] pos) (LT t):=pw_and1 ha
theorem Oi{t:DT}(ha:PT X a (LT t)):PW X (.BoolOp .Or [a] pos) (LT t):=pw_or1 ha
theorem NZ{t u:DT}(ha:PT X a (LT t))(hb:PW X (.BoolOp .And (b::es) pos) (LT u)):PW X (.BoolOp .And (a::b::es) pos) (LT (AD t u)):=PW.imp (pw_and ha hb) λ _ _ _ h=>LT.and h
theorem Q6{t u:DT}(ha:PT X a (LT t))(hb:PW X (.BoolOp .Or (b::es) pos) (LT u)):PW X (.BoolOp .Or (a::b::es) pos) (LT (v_ t u)):=PW.imp (pw_or ha hb) λ _ _ _ h=>LT.or h
def Kw(t:DT)(ta tb:DE):DE:=λ σ st K=>t σ st λ b st1=>if b=true then ta σ st1 K else tb σ st1 K
theorem Rp{t:DT}(hc:PT X c (LT t))(ha:PE X a (LE ta))(hb:PE X b (LE tb)):PE X (.IfExp c a b pos) (LE (Kw t ta tb)):=PE.imp (Jn hc ha hb) λ σ H Q ⟨α,σd,st,K,G,F,P,R,S,t,k⟩=>by
 refine⟨α,σd,st,_,G,F,P,R,S,t,λ b st1 q α1 G1 H1 s1 P1 S1=>?_⟩;cases b with
 |true=>exact⟨α1,σd,st1,K,G1,F,P1,R.step s1,S1,q,k.at s1⟩
 |false=>exact⟨α1,σd,st1,K,G1,F,P1,R.step s1,S1,q,k.at s1⟩
def aq:DA:=λ _ st K=>K [] st
def ae(ta:DE)(tr:DA):DA:=λ σ st K=>ta σ st λ x st1=>tr σ st1 λ xs st2=>K (x::xs) st2
theorem A3:PA X [] (LA aq):=PA.imp PB λ σ H Q ⟨α,σd,st,K,G,F,P,R,S,t,k⟩=>k [] st t α G H [] Step.refl P S (by unfold aI;rfl)
theorem yO{tr:DA}(ha:PE X e (LE te))(hr:PA X es (LA tr))(hs:starEach (e::es) X.env=(false,eval e X.env)::starEach es X.env:=by rfl):PA X (e::es) (LA (ae te tr)):=PA.imp (LQ ha hr hs) λ σ H Q ⟨α,σd,st,K,G,F,P,R,S,t,k⟩=>by
 refine⟨α,σd,st,_,G,F,P,R,S,t,λ d st1 q α1 G1 H1 v s1 P1 S1 r1=>?_⟩;refine⟨α1,σd,st1,_,G1,F,P1,R.step s1,S1,q,λ ds st2 q2 α2 G2 H2 vs s2 P2 S2 r2=>?_⟩;exact k _ st2 q2 α2 G2 H2 (v::vs) (s1.trans s2) P2 S2 (by unfold aI;exact⟨v,vs,rfl,r1.step s2,r2⟩)
def p9(t:DA):DE:=λ σ st K=>t σ st λ ds st1=>ds.length<=sizeLine/\K (.tup ds) st1
def mr(t:DA):DE:=λ σ st K=>t σ st λ ds st1=>ds.length<=sizeLine/\K (.lst ds) st1
def og(t:DA):DE:=λ σ st K=>t σ st λ ds st1=>ds.length<=sizeLine/\K (.ref st1.length) (st1++[.lst ds])
theorem LK.tup{α:List (Option Addr)}{G F H:Hp}{K:DK}{Q:VK}{ds:List D}{vs:List V}{st:ag}{p:Addr}(k:LK α G F K Q)(P:cC G F H)(q:K (.tup ds) st)(S:a7 α st G)(r:aI α G ds vs)(hp:H p=none):Q (.ref p) (upd H p (.tup vs)):=
 have hg:=(P.none hp).1
 k _ st q α _ _ _ (Step.laid hg) (P.laid hp) (S.laid hg) (by unfold Rep;exact⟨p,vs,rfl,S.kF hg,bc,r.step (Step.laid hg)⟩)
theorem LK.lst{α:List (Option Addr)}{G F H:Hp}{K:DK}{Q:VK}{ds:List D}{vs:List V}{st:ag}{p:Addr}(k:LK α G F K Q)(P:cC G F H)(q:K (.lst ds) st)(S:a7 α st G)(r:aI α G ds vs)(hp:H p=none):Q (.ref p) (upd H p (.lst vs)):=
 have hg:=(P.none hp).1
 k _ st q α _ _ _ (Step.laid hg) (P.laid hp) (S.laid hg) (by unfold Rep;exact⟨p,vs,rfl,S.kF hg,.of bc,r.step (Step.laid hg)⟩)
theorem LK.new{α:List (Option Addr)}{G F H:Hp}{K:DK}{Q:VK}{ds:List D}{vs:List V}{st:ag}{p:Addr}(k:LK α G F K Q)(P:cC G F H)(q:K (.ref st.length) (st++[.lst ds]))(S:a7 α st G)(r:aI α G ds vs)(hp:H p=none):Q (.ref p) (upd H p (.lst vs)):=
 have hg:=(P.none hp).1
 k _ _ q (α++[some p]) _ _ _ (Step.cell hg) (P.laid hp) (S.cell hg ⟨vs,bc,r.step (Step.cell hg)⟩) (by
  unfold Rep;refine .inr ⟨p,?_,rfl⟩;rw[UH (by rw[S.len];exact Ue _),S.len,VY];rfl)
theorem Qo{n:Nat}{t:DA}(h:PA X es (LA t)):PE X (.Tuple es n pos) (LE (p9 t)):=PE.imp (O9 h) λ σ H Q ⟨α,σd,st,K,G,F,P,R,S,t,k⟩=>
 ⟨α,σd,st,_,G,F,P,R,S,t,λ ds st1 q α1 G1 H1 vs s1 P1 S1 r1=>⟨by rw[<-r1.length];exact q.1,λ p hp=>(k.at s1).tup P1 q.2 S1 r1 hp⟩⟩
theorem Q0{t:DA}(h:PA X es (LA t)):PE X (.List es pos) (LE (mr t)):=PE.imp (Gx h) λ σ H Q ⟨α,σd,st,K,G,F,P,R,S,t,k⟩=>
 ⟨α,σd,st,_,G,F,P,R,S,t,λ ds st1 q α1 G1 H1 vs s1 P1 S1 r1=>⟨by rw[<-r1.length];exact q.1,λ p hp=>(k.at s1).lst P1 q.2 S1 r1 hp⟩⟩
theorem Qi{t:DA}(h:PA X es (LA t)):PE X (.List es pos) (LE (og t)):=PE.imp (Gx h) λ σ H Q ⟨α,σd,st,K,G,F,P,R,S,t,k⟩=>
 ⟨α,σd,st,_,G,F,P,R,S,t,λ ds st1 q α1 G1 H1 vs s1 P1 S1 r1=>⟨by rw[<-r1.length];exact q.1,λ p hp=>(k.at s1).new P1 q.2 S1 r1 hp⟩⟩
abbrev cE:=List D->ag->DK->Prop
inductive Pj(T:cE)(vs:List V)(H:Hp)(Q:VK):Prop
 |mk (α:List (Option Addr)) (ds:List D) (st:ag) (K:DK) (G F:Hp) (P:cC G F H) (rx:aI α G ds vs) (S:a7 α st G) (h:T ds st K) (k:LK α G F K Q):Pj T vs H Q
def cH(S:cE):Sp:=λ vs H Q _=>Pj S vs H Q
def aJ(S:cE)(t:DA):DE:=λ σ st K=>t σ st λ ds st1=>S ds st1 K
theorem LE.call{S:cE}{t:DA}{σ:L2.St}{H:Hp}{Q:VK}(h:LE (aJ S t) σ H Q):Ld (cH S) [] E0 (LA t) σ H Q:=by
 obtain⟨α,σd,st,K,G,F,P,R,S,t,k⟩:=h;refine⟨α,σd,st,_,G,F,P,R,S,t,λ ds st1 q α1 G1 H1 vs s1 P1 S1 r1=>?_⟩;try dsimp only
 rw[VV];exact⟨α1,ds,st1,K,G1,F,P1,r1,S1,q,k.at s1⟩
theorem OD{S:cE}{k:Nat}{f:Addr}{fd:FuncData}{ps:List Str}{x:Str}{p:Pos}{t:DA}(F:bj X.prog X.w X.K X.mg X.base cF k f fd ps (cH S))(hr:cT k X.A)(hg:Gl X x)(hm:X.mg x=some (.ref f))(hk:PySem.W.keepIn X.K (.ref f)=true)(hb:Binds X.K fd ps [])
 (ha:PA X (e::es) (LA t)) (hdb:(x==("__debug__":Str))=false:=by decide) (he:starEach (e::es) X.env=(false,eval e X.env)::starEach es X.env:=by rfl) (hpl:(backTo pos (starEach es X.env)).any (·.1)=false:=by rfl):
 PE X (.Call (.Name x p) (e::es) [] pos) (LE (aJ S t)):=PE.imp (Mw F hr hg hm hk hb .nil Ap ha hdb he hpl) λ _ _ _ h=>LE.call h
def cP(r:ie)(t:DA):DE:=λ σ st K=>t σ st λ ds st1=>r ds st1 K
theorem LE.cb{r:ie}{t:DA}{σ:L2.St}{H:Hp}{Q:VK}(h:LE (cP r t) σ H Q):Oc (jN r) (LA t) σ H Q:=by
 obtain⟨α,σd,st,K,G,F,P,R,S,t,k⟩:=h;refine⟨α,σd,st,_,G,F,P,R,S,t,λ ds st1 q α1 G1 H1 vs s1 P1 S1 r1=>?_⟩;exact⟨α1,ds,st1,K,G1,F,P1,r1,S1,q,k.at s1⟩
end
section
variable {X:Cx}
theorem cp.imp{f:Value->Value->Sem Value}{r r':R2}(h:cp X f r)(k:∀x y H Q,r' x y H Q->r x y H Q):cp X f r':=λ pins s σ H x y v u Q I rx ry q=>h pins s σ H x y v u Q I rx ry (k x y H Q q)
theorem cO.imp{f:Value}{r r':List V->Hp->VK->Prop}(h:cO X f r)(k:∀xs H Q,r' xs H Q->r xs H Q):cO X f r':=λ pins s σ H xs us Q I rs q=>h pins s σ H xs us Q I rs (k xs H Q q)
def xa(C:Int->Int->Prop)(g:Int->Int->D):cZ:=λ x y st K=>match x,y with| .int i,.int j=>C i j/\K (g i j) st|_,_=>False
theorem nV{f:Value->Value->Sem Value}{C:Int->Int->Prop}{g:Int->Int->D}{g':Int->Int->V}(hg:∀i j α H,Rep α H (g i j) (g' i j))(h:cp X f (rI C g')):cp X f (LR (xa C g)):=cp.imp h λ x y H Q ⟨α,d,e,st,K,G,F',P,r1,r2,S,q,k⟩=>by
 cases d<;>cases e<;>first
  |exact q.elim
  |(unfold Rep at r1 r2;exact⟨_,_,r1,r2,q.1,k.here P q.2 S (hg _ _ _ _)⟩)
abbrev T2:Int->Int->Prop:=λ _ _=>True
theorem Az{g:Int->Int->V}{f:Value->Value->Sem Value}(h:cp X f (zl g)):cp X f (rI T2 g):=cp.imp h λ x y H Q ⟨i,j,e1,e2,_,q⟩=>⟨i,j,e1,e2,q⟩
abbrev Kh:cZ:=xa T2 λ i j=> .int (i-j)
abbrev HQ:cZ:=xa (λ _ j=>j≠0/\j.natAbs.log2<9000) λ i j=> .int (i.fdiv j)
abbrev Ky:cZ:=xa (λ _ j=>j≠0) λ i j=> .int (i.fmod j)
abbrev Lb:cZ:=xa Ih λ i j=> .int (i^j.toNat)
abbrev NI:cZ:=xa T2 λ i j=> .bl (decide (i<j))
abbrev Nx:cZ:=xa T2 λ i j=> .bl (decide (j<i))
abbrev OC:cZ:=xa T2 λ i j=> .bl (decide (j<=i))
theorem QA:cp X (binaryOp .Sub) (LR Kh):=nV (λ _ _ _ _=>by unfold Rep;rfl) (Az Qa)
theorem PK:cp X (binaryOp .FloorDiv) (LR HQ):=nV (λ _ _ _ _=>by unfold Rep;rfl) (J_ λ i j _ _ _ _ _ hc q=>floordiv_int hc.1 q (.inl (Ys hc.2)))
theorem QY:cp X (binaryOp .Mod) (LR Ky):=nV (λ _ _ _ _=>by unfold Rep;rfl) MB
theorem Rg:cp X (binaryOp .Pow) (LR Lb):=nV (λ _ _ _ _=>by unfold Rep;rfl) OR
theorem SW:cp X (compareOp .Lt) (LR NI):=nV (λ _ _ _ _=>by unfold Rep;rfl) (Az Q5)
theorem Sz:cp X (compareOp .Gt) (LR Nx):=nV (λ _ _ _ _=>by unfold Rep;rfl) (Az Qy)
theorem SA:cp X (compareOp .GtE) (LR OC):=nV (λ _ _ _ _=>by unfold Rep;rfl) (Az Rz)
def KY:Cb:=λ x st K=>match x with| .int i=>K (.int (-i)) st|_=>False
theorem QL:DQ X (unaryOp .USub) (KQ KY):=λ pins s σ H x v Q I rx ⟨α,d,st,K,G,F',P,r,S,q,k⟩=>by
 cases d<;>first
  |exact q.elim
  |(unfold Rep at r;exact PH pins s σ H x v Q I rx ⟨_,r,k.here P q S (by unfold Rep;rfl)⟩)
theorem Inv.CC{pins:List (Addr×Obj)}{σ:L2.St}{H:Hp}{s:Shared}{l:Addr}{xs:List V}(I:Inv X pins σ H s)(h:Rd H l (.lst xs)):
 xs.length<=sizeLine/\∃(its:List Value) (n:Nat),Vals xs its/\xs.length=its.length/\s.heap.get? l=some {cls:= .type "list",data:= .seq its.toArray n}:=by
 obtain⟨z,its,n,r,e⟩:=h.ok I.aO;exact⟨z,its,n,r,r.length,e⟩
theorem gK{G F H:Hp}(P:cC G F H){a:Addr}{u:HO}(h:Rd G a u):Rd H a u:=by
 rcases h with h|⟨o,h⟩
 . exact .inl (P.get h)
 . exact .inr ⟨o,P.get h⟩
theorem yC:cp X (binaryOp .Add) (λ x y H Q=>∃l b xs zs,x= .ref l/\y= .ref b/\Rd H l (.lst xs)/\Rd H b (.lst zs)/\xs.length+zs.length<=sizeLine/\∀p,H p=none->Q (.ref p) (upd H p (.lst (xs++zs)))):=by
 intro pins s σ H x y v u Q I rx ry h;obtain⟨l,b,xs,zs,rfl,rfl,hH,hB,hz,q⟩:=h;cases rx;cases ry;obtain⟨z,its,n,r,hl,e⟩:=Inv.CC I hH;obtain⟨z2,its2,n2,r2,hl2,e2⟩:=Inv.CC I hB;refine PySem.P.add_list e e2 ?_ (by rw[Um,Um];omega);have ea:its.toArray++its2.toArray=(its++its2).toArray:=by simp
 rw[ea];exact⟨.ref _,_,I.IT (t':=s.toks) (r.append r2) (by rw[VN];omega),rfl,q _ I.fresh⟩
theorem DG:cp X (binaryOp .Mult) (λ x y H Q=>∃l k xs,x= .ref l/\y= .int k/\Rd H l (.lst xs)/\ -(2^63)<=k/\k<2^63/\xs.length*k.toNat<=sizeLine/\
 ∀p,H p=none->Q (.ref p) (upd H p (.lst (List.replicate k.toNat xs).flatten))):=by
 intro pins s σ H x y v u Q I rx ry h;obtain⟨l,k,xs,rfl,rfl,hH,h1,h2,hz,q⟩:=h;cases rx;obtain⟨t,rfl⟩:=ry;obtain⟨z,its,n,r,hl,e⟩:=Inv.CC I hH;have hlen:its.toArray.size*k.toNat<=sizeLine:=by rw[Um,<-hl];exact hz
 have hcap:¬its.toArray.size*k.toNat>(2^63-1)/8:=by
  have:(sizeLine:Nat)<=(2^63-1)/8:=by decide
  omega
 have hfit:¬(!Builtin.List.listFitsIndex k)=true:=by
  rw[fitsIndex_both h1 h2];exact Vg
 have hlong:¬Builtin.List.listTooLong (its.toArray.size*k.toNat)=true:=by
  rw[Iw hlen];exact Vg
 have hnew:List.foldl (λ x1 x2=>x1++x2) #[] (List.replicate (if its.toArray.isEmpty=true then 0 else k.toNat) its.toArray)=(List.replicate k.toNat its).flatten.toArray:=by
  have f0:∀m:Nat,List.foldl (λ x1 x2=>x1++x2) #[] (List.replicate m its.toArray)=(List.replicate m its).flatten.toArray:=λ m=>by
   have:=foldl_rep its m [];rw[List.nil_append]at this;exact this
  rw[f0];cases its with
  |nil=>simp
  |cons a r'=>rw[Ub (by simp)]
 refine Yi (T:="list") (U:="int") (by decide) ⟨_,e,rfl⟩ (λ s'=>Yh s' k t) noFill_list_mul F.fills_int_mul XC repeat_list F.slot_int_index.lookup
  (W9 XC (Yh s k t) F.entry_int_rmul (F.args_int_rmul_2 _ _) (int___rmul___int_list k t l its.toArray n)
    ⟨e,rfl,⟨_,e,rfl⟩,W9 F.slot_list_mul ⟨_,e,rfl⟩ F.entry_list_mul (F.args_list_mul_2 _ _) (AutoListH.list___mul___list_int_3 l its.toArray n k t hfit hcap hlong) ⟨e,?_⟩⟩)
 rw[hnew];exact⟨.ref _,_,I.IT (t':=s.toks) (r.rep k.toNat) (by rw[len_rep,Wi];exact hz),rfl,q _ I.fresh⟩
theorem IZ:cp X (binaryOp .Add) (λ x y H Q=>∃a b xs ys,x= .ref a/\y= .ref b/\H a=some (.tup xs)/\H b=some (.tup ys)/\xs.length+ys.length<=sizeLine/\
 (xs=[]->Q (.ref b) H)/\(xs≠ []->ys=[]->Q (.ref a) H)/\(xs≠ []->ys≠ []->∀p,H p=none->Q (.ref p) (upd H p (.tup (xs++ys))))):=by
 intro pins s σ H x y v u Q I rx ry h;obtain⟨a,b,xs,ys,rfl,rfl,ha,hb,hz,q0,q1,q2⟩:=h;by_cases hx:xs=[]
 . cases rx;cases ry;obtain⟨its,r1,p1,_⟩:=I.tuple (.of ha);obtain⟨its2,r2,p2,_⟩:=I.tuple (.of hb);obtain⟨⟨cls,dd,data,sl⟩,ho,hc,n,hd⟩:=id p1;obtain⟨⟨cls2,dd2,data2,sl2⟩,ho2,hc2,n2,hd2⟩:=id p2;simp only at hc hd hc2 hd2;subst hc hd hc2 hd2;have hi:its=[]:=(L2.Vals.uT r1).mpr hx
   exact Y2 ⟨_,ho,rfl⟩ ⟨_,ho2,rfl⟩ Yq YX Xh Xa (W6 _ _)
    (tuple_addW0 a b its.toArray its2.toArray n n2 dd dd2 sl sl2 (by simp[hi])) ⟨ho,ho2,⟨.ref b,H,I,rfl,q0 hx⟩⟩
 . exact Nt pins s σ H _ _ v u Q I rx ry ⟨a,b,xs,ys,rfl,rfl,.of ha,.of hb,hx,hz,q1 hx,q2 hx⟩
theorem yV:fillsNumberSlot (.type "tuple") "mul"=pure false:=
 PySem.fillsNumberSlot_seq (id:="tuple.__mul__") (r:=some (.builtin "tuple.__rmul__")) WS.lookup (by decide+kernel) F.slot_tuple_rmul.lookup (by decide+kernel)
theorem EZ:seqRepeat? (.type "tuple")=pure (some (.builtin "tuple.__mul__")):=by
 unfold seqRepeat?;rw[PySem.seqSlot_of (T:="tuple") (name:="__mul__") (id:="tuple.__mul__") WS.lookup (by decide+kernel),PySem.seqSlot_of (T:="tuple") (name:="__rmul__") (id:="tuple.__rmul__") F.slot_tuple_rmul.lookup (by decide+kernel)];rfl
theorem B0(a:Int)(t:Tok)(l:Addr)(its:Array Value)(n:Nat)(dd:Option Addr)(sl:Array (Option Value)):Meets (Builtin.«int.__rmul__» ⟨[.int a t,.ref l],[]⟩) (λ _ R s=>s.heap.get? l=some {cls:= .type "tuple",dict:=dd,data:= .seq its n,slots:=sl}/\R (.ok (.ret Value.notImplemented)) s):=
 .of_wp λ P w A R s h=>by
  obtain⟨hp,g,d,tk,os⟩:=s;obtain⟨hl,h⟩:=h
  wp_walk
  exact⟨_,rfl,h⟩
theorem Bd(l:Addr)(its:Array Value)(n:Nat)(dd:Option Addr)(sl:Array (Option Value))(x:Int)(u:Tok)(h0:(decide (x< -(2^63))||decide (x>=2^63))=false)(h1:(its.isEmpty||x==1)=true):
 Meets (Builtin.«tuple.__mul__» ⟨[.ref l,.int x u],[]⟩) (λ _ R s=>s.heap.get? l=some {cls:= .type "tuple",dict:=dd,data:= .seq its n,slots:=sl}/\R (.ok (.ret (.ref l))) s):=
 .of_wp λ P w A R s h=>by
  obtain⟨hp,g,d,tk,os⟩:=s;obtain⟨hl,h⟩:=h
  wp_walk
  refine XD (by rw[h0];rfl) ?_
  wp_walk
  exact⟨_,rfl,h⟩
theorem Bm(l:Addr)(its:Array Value)(n:Nat)(dd:Option Addr)(sl:Array (Option Value))(x:Int)(u:Tok)(h0:(decide (x< -(2^63))||decide (x>=2^63))=false)(h1:(its.isEmpty||x==1)=false)(h2:(decide (x<=0)||its.isEmpty)=true):
 Meets (Builtin.«tuple.__mul__» ⟨[.ref l,.int x u],[]⟩) (λ _ R s=>s.heap.get? l=some {cls:= .type "tuple",dict:=dd,data:= .seq its n,slots:=sl}/\R (.ok (.ret (.ref s.heap.objs.size))) {s with heap:=s.heap.push {cls:= .type "tuple",data:= .seq #[]}}):=
 .of_wp λ P w A R s h=>by
  obtain⟨hp,g,d,tk,os⟩:=s;obtain⟨hl,h⟩:=h
  wp_walk
  refine XD (by rw[h0];rfl) ?_
  wp_walk
  exact⟨_,rfl,h⟩
theorem Bg(l:Addr)(its:Array Value)(n:Nat)(dd:Option Addr)(sl:Array (Option Value))(x:Int)(u:Tok)(h0:(decide (x< -(2^63))||decide (x>=2^63))=false)(h1:(its.isEmpty||x==1)=false)(h2:(decide (x<=0)||its.isEmpty)=false)(h3:¬((its.size:Int)*x>(2^63-1)/8))(h4:Builtin.Tuple.tupleTooMany (its.size*x)=false)
 (hz:(List.foldl (λ x1 x2=>x1++x2) #[] (List.replicate x.toNat its)).size<=sizeLine):
 Meets (Builtin.«tuple.__mul__» ⟨[.ref l,.int x u],[]⟩) (λ _ R s=>s.heap.get? l=some {cls:= .type "tuple",dict:=dd,data:= .seq its n,slots:=sl}/\R (.ok (.ret (.ref s.heap.objs.size))) {s with heap:=s.heap.push {cls:= .type "tuple",data:= .seq (List.foldl (λ x1 x2=>x1++x2) #[] (List.replicate x.toNat its))}}):=
 .of_wp λ P w A R s h=>by
  obtain⟨hp,g,d,tk,os⟩:=s;obtain⟨hl,h⟩:=h
  wp_walk
  refine XD (by rw[h0];rfl) ?_
  wp_walk
  refine XD (UT h3) ?_
  wp_walk
  exact⟨_,rfl,h⟩
theorem Nd:cp X (binaryOp .Mult) (λ x y H Q=>∃l k xs,x= .ref l/\y= .int k/\H l=some (.tup xs)/\ -(2^63)<=k/\k<2^63/\xs.length*k.toNat<=sizeLine/\
 ((xs=[]\/k=1)->Q (.ref l) H)/\(¬(xs=[]\/k=1)->∀p,H p=none->Q (.ref p) (upd H p (.tup (List.replicate k.toNat xs).flatten)))):=by
 intro pins s σ H x y v u Q I rx ry h;obtain⟨l,k,xs,rfl,rfl,hH,h1,h2,hz,q1,q2⟩:=h;cases rx;obtain⟨t,rfl⟩:=ry;obtain⟨its,r,p1,_⟩:=I.tuple (.of hH);obtain⟨⟨cls,dd,data,sl⟩,ho,hc,n,hd⟩:=id p1;simp only at hc hd;subst hc hd;have hl:xs.length=its.length:=r.length
 have f0:(decide (k< -(2^63))||decide (k>=2^63))=false:=by
  rw[UT (by omega),UT (by omega)];rfl
 refine Yi (T:="tuple") (U:="int") (by decide) ⟨_,ho,rfl⟩ (λ s'=>Yh s' k t) yV F.fills_int_mul XC EZ F.slot_int_index.lookup
  (W9 XC (Yh s k t) F.entry_int_rmul (F.args_int_rmul_2 _ _) (B0 k t l its.toArray n dd sl) ⟨ho,rfl,⟨_,ho,rfl⟩,?_⟩)
 by_cases hs:xs=[]\/k=1
 . have f1:(its.toArray.isEmpty||k==1)=true:=by
    rcases hs with z|z
    . have:its=[]:=VT.mp (by rw[<-hl,z];rfl);rw[this];rfl
    . rw[z];simp
   exact W9 WS ⟨_,ho,rfl⟩ X9 (XU _ _) (Bd l its.toArray n dd sl k t f0 f1) ⟨ho,⟨.ref l,H,I,rfl,q1 hs⟩⟩
 . have hne:its≠ []:=λ z=>hs (.inl (VT.mp (by rw[hl,z];rfl)));have hk1:k≠1:=λ z=>hs (.inr z);have e1:its.toArray.isEmpty=false:=by simpa using hne
   have f1:(its.toArray.isEmpty||k==1)=false:=by rw[e1];simpa using hk1
   have new:∀(us:List Value) (ys:List V),Vals ys us->ys.length<=sizeLine->Inv X pins σ (upd H s.heap.objs.size (.tup ys)) {s with heap:=s.heap.push {cls:= .type "tuple",data:= .seq us.toArray}}:=λ us ys hv hy=>
    I.laid (t':=s.toks) (λ _ _ q=>Uc _ q) (Ue _) ⟨hy,us,hv,⟨_,Ut _ rfl,rfl,_,rfl⟩⟩
   by_cases h0:k<=0
   . have f2:(decide (k<=0)||its.toArray.isEmpty)=true:=by rw[We h0];rfl
     refine W9 WS ⟨_,ho,rfl⟩ X9 (XU _ _) (Bm l its.toArray n dd sl k t f0 f1 f2) ⟨ho,?_⟩;have ez:k.toNat=0:=by omega
     rw[ez]at q2;exact⟨.ref _,_,new [] [] .nil (UK _),rfl,q2 hs _ I.fresh⟩
   . have f2:(decide (k<=0)||its.toArray.isEmpty)=false:=by rw[UT h0,e1];rfl
     have hk:(k.toNat:Int)=k:=by omega
     have hlen:its.toArray.size*k.toNat<=sizeLine:=by rw[Um,<-hl];exact hz
     have hsz:((its.toArray.size:Nat):Int)*k<=(sizeLine:Int):=by
      rw[<-hk]
      exact_mod_cast hlen
     have f3:¬(((its.toArray.size:Nat):Int)*k>(2^63-1)/8):=by
      have:((sizeLine:Nat):Int)<=(2^63-1)/8:=by decide
      omega
     have f4:Builtin.Tuple.tupleTooMany (((its.toArray.size:Nat):Int)*k)=false:=by
      unfold Builtin.Tuple.tupleTooMany;exact UT (by omega)
     have hnew:List.foldl (λ x1 x2=>x1++x2) #[] (List.replicate k.toNat its.toArray)=(List.replicate k.toNat its).flatten.toArray:=by
      have:=foldl_rep its k.toNat [];rw[List.nil_append]at this;exact this
     have hfl:(List.replicate k.toNat its).flatten.length=its.length*k.toNat:=by rw[len_rep,Wi]
     refine W9 WS ⟨_,ho,rfl⟩ X9 (XU _ _) (Bg l its.toArray n dd sl k t f0 f1 f2 f3 f4 (by rw[hnew,Um,hfl];exact hlen)) ⟨ho,?_⟩;rw[hnew];exact⟨.ref _,_,new _ _ (r.rep k.toNat) (by rw[len_rep,Wi];exact hz),rfl,q2 hs _ I.fresh⟩
def K7:cZ:=λ x y st K=>match x,y with
 | .int i,.int j=>K (.int (i+j)) st
 | .tup xs,.tup ys=>xs.length+ys.length<=sizeLine/\K (.tup (xs++ys)) st
 | .lst xs,.lst ys=>xs.length+ys.length<=sizeLine/\K (.lst (xs++ys)) st
 | .str x,.str y=>x.length+y.length<=sizeLine/\K (.str (x++y)) st
 |_,_=>False
theorem Qs:cp X (binaryOp .Add) (LR K7):=λ pins s σ H x y v u Q I rx ry ⟨α,d,e,st,K,G,F',P,r1,r2,S,q,k⟩=>by
 cases d<;>cases e<;>try exact q.elim
 . unfold Rep at r1 r2;exact PX pins s σ H x y v u Q I rx ry ⟨_,_,r1,r2,k.here P q S (by unfold Rep;rfl)⟩
 . unfold Rep at r1 r2;exact EE pins s σ H x y v u Q I rx ry ⟨_,_,r1,r2,q.1,k.here P q.2 S (by unfold Rep;rfl)⟩
 . unfold Rep at r1 r2;obtain⟨a,vs,rfl,na,ha,ra⟩:=r1;obtain⟨b,ws,rfl,nb,hb,rb⟩:=r2;refine yC pins s σ H _ _ v u Q I rx ry ⟨a,b,vs,ws,rfl,rfl,gK P ha,gK P hb,by rw[<-ra.length,<-rb.length];exact q.1,λ p hp=>?_⟩;exact k.lst P q.2 S (aY.mpr (fw (aY.mp ra) (aY.mp rb))) hp
 . rename_i xs ys;unfold Rep at r1 r2;obtain⟨a,vs,rfl,na,ha,ra⟩:=r1;obtain⟨b,ws,rfl,nb,hb,rb⟩:=r2;have hl1:=ra.length;have hl2:=rb.length;refine IZ pins s σ H _ _ v u Q I rx ry ⟨a,b,vs,ws,rfl,rfl,P.get ha,P.get hb,by rw[<-hl1,<-hl2];exact q.1,λ z=>?_,λ _ z=>?_,λ _ _ p hp=>?_⟩
   . refine k.here P q.2 S ?_;unfold Rep;have:xs=[]:=by rw[z]at hl1;exact VT.mp hl1
     subst this;exact⟨b,ws,rfl,nb,hb,rb⟩
   . refine k.here P q.2 S ?_;unfold Rep;have:ys=[]:=by rw[z]at hl2;exact VT.mp hl2
     subst this;rw[VV];exact⟨a,vs,rfl,na,ha,ra⟩
   . exact k.tup P q.2 S (aY.mpr (fw (aY.mp ra) (aY.mp rb))) hp
def Li:cZ:=λ x y st K=>match x,y with
 | .int i,.int j=>IntMulOk i j/\K (.int (i*j)) st
 | .lst xs,.int k=>(-(2^63)<=k/\k<2^63/\xs.length*k.toNat<=sizeLine)/\K (.lst (List.replicate k.toNat xs).flatten) st
 | .tup xs,.int k=>(-(2^63)<=k/\k<2^63/\xs.length*k.toNat<=sizeLine)/\K (.tup (List.replicate k.toNat xs).flatten) st
 |_,_=>False
theorem QE:cp X (binaryOp .Mult) (LR Li):=λ pins s σ H x y v u Q I rx ry ⟨α,d,e,st,K,G,F',P,r1,r2,S,q,k⟩=>by
 cases d<;>cases e<;>try exact q.elim
 . unfold Rep at r1 r2;have h:cp X (binaryOp .Mult) (rI IntMulOk λ i j=> .int (i*j)):=J_ λ _ _ _ _ _ _ _ hc q=>mul_int q hc;exact h pins s σ H x y v u Q I rx ry ⟨_,_,r1,r2,q.1,k.here P q.2 S (by unfold Rep;rfl)⟩
 . unfold Rep at r1 r2;obtain⟨a,vs,rfl,na,ha,ra⟩:=r1;refine DG pins s σ H _ _ v u Q I rx ry ⟨a,_,vs,rfl,r2,gK P ha,q.1.1,q.1.2.1,by rw[<-ra.length];exact q.1.2.2,λ p hp=>?_⟩;exact k.lst P q.2 S (aY.mpr (nB (aY.mp ra) _)) hp
 . rename_i xs m;have r1':=r1;unfold Rep at r1 r2;obtain⟨a,vs,rfl,na,ha,ra⟩:=r1;refine Nd pins s σ H _ _ v u Q I rx ry ⟨a,_,vs,rfl,r2,P.get ha,q.1.1,q.1.2.1,by rw[<-ra.length];exact q.1.2.2,λ hs=>?_,λ _ p hp=>k.tup P q.2 S (aY.mpr (nB (aY.mp ra) _)) hp⟩
   have e:(List.replicate m.toNat xs).flatten=xs:=by
    rcases hs with z|z
    . have:xs=[]:=VT.mp (by rw[ra.length,z];rfl);rw[this];simp
    . rw[z];simp
   have q2:=q.2;rw[e]at q2;exact k.here P q2 S r1'
def live(st:ag):D->Bool
 | .ref n=>(match st[n]? with|some (.lst _)=>true|some (.ins _ _)=>true|_=>false)
 |_=>true
theorem wq{α:List (Option Addr)}{H:Hp}{st:ag}{n:Nat}{v:V}(S:a7 α st H)(h:live st (.ref n)=true)(r:Rep α H (.ref n) v):∃a,v= .ref a:=by
 unfold live at h;simp only at h;split at h
 . rename_i e;obtain⟨a,ea,_⟩:=S.iZ e;exact⟨a,cY ea r⟩
 . rename_i e;obtain⟨a,ea,_⟩:=S.x8 e;exact⟨a,cY ea r⟩
 . cases h
def MY:cZ:=λ x y st K=>match y with| .aF=>live st x=true/\K (.bl (match x with| .aF=>false|_=>true)) st|_=>False
theorem Nl:cp X (compareOp .IsNot) (LR MY):=cp.imp Mp λ x y H Q ⟨α,d,e,st,K,G,F',P,r1,r2,S,q,k⟩=>by
 cases e<;>try exact q.elim
 unfold Rep at r2;refine⟨r2,k.here P q.2 S ?_⟩;unfold Rep;cases d
 case ref n=>
  obtain⟨a,rfl⟩:=wq S q.1 r1;rfl
 all_goals(unfold Rep at r1;first|(rw[r1];rfl)|(obtain⟨a,vs,rfl,_⟩:=r1;rfl))
def sQ:cZ:=λ x y st K=>match y with
 | .int i=>(match x with
   | .lst xs=>(match dY xs i with|some d=>K d st|none=>False)
   | .tup xs=>(match dY xs i with|some d=>K d st|none=>False)
   | .ref n=>(match st[n]? with|some (.lst xs)=>(match dY xs i with|some d=>K d st|none=>False)|_=>False)
   |_=>False)
 |_=>False
theorem aI.dY{α:List (Option Addr)}{H:Hp}{ds:List D}{vs:List V}{i:Int}{d:D}(h:aI α H ds vs)(e:L2.dY ds i=some d):∃v,L2.dY vs i=some v/\Rep α H d v:=by
 unfold L2.dY at e⊢;rw[<-h.length];cases q:lO ds.length i with
 |none=>rw[q]at e;cases e
 |some j=>rw[q]at e;exact h.get e
theorem To:KG X (LR sQ):=λ value slice pins s σ H x y v u Q I rx ry ⟨α,d,e,st,K,G,F',P,r1,r2,S,q,k⟩ hs=>by
 cases e<;>try exact q.elim
 unfold Rep at r2;cases d<;>try exact q.elim
 . rename_i i n;unfold sQ at q;simp only at q;split at q
   . split at q
     . rename_i xs e1 _ d' e2;obtain⟨a,ea,vs,hv,rv⟩:=S.iZ e1;have r1':=cY ea r1;subst r1';obtain⟨z,ez,rz⟩:=rv.dY e2;exact DR value slice pins s σ H _ _ v u Q I rx ry ⟨a,vs,_,z,rfl,r2,.of (P.get hv),ez,k.here P q S rz⟩ hs
     . exact q.elim
   . exact q.elim
 . unfold sQ at q;simp only at q;split at q
   . rename_i xs d' e2;unfold Rep at r1;obtain⟨a,vs,rfl,na,ha,ra⟩:=r1;obtain⟨z,ez,rz⟩:=ra.dY e2;exact DR value slice pins s σ H _ _ v u Q I rx ry ⟨a,vs,_,z,rfl,r2,.inl (gK P ha),ez,k.here P q S rz⟩ hs
   . exact q.elim
 . unfold sQ at q;simp only at q;split at q
   . rename_i xs d' e2;unfold Rep at r1;obtain⟨a,vs,rfl,na,ha,ra⟩:=r1;obtain⟨z,ez,rz⟩:=ra.dY e2;exact Pw value slice pins s σ H _ _ v u Q I rx ry ⟨a,vs,_,z,rfl,r2,.of (P.get ha),ez,k.here P q S rz⟩ hs
   . exact q.elim
theorem Sn{a b:Expr}{ta tb:DE}{pos:Pos}(ha:PE X a (LE ta))(hb:PE X b (LE tb))(hs:u_ b:=by intro _ _;rfl):PE X (.Subscript a b pos) (LE (ak sQ ta tb)):=PE.imp (QG To ha hb hs) λ _ _ _ h=>LE.op h
def items?(st:ag):D->Option (List D)
 | .lst xs=>some xs
 | .tup xs=>some xs
 | .ref n=>(match st[n]? with|some (.lst xs)=>some xs|_=>none)
 |_=>none
@[simp] theorem RL(st:ag)(xs:List D):items? st (.lst xs)=some xs:=rfl
@[simp] theorem Sg(st:ag)(xs:List D):items? st (.tup xs)=some xs:=rfl
@[simp] theorem items_int(st:ag)(i:Int):items? st (.int i)=none:=rfl
@[simp] theorem Tp(st:ag)(i:Bool):items? st (.bl i)=none:=rfl
@[simp] theorem items_str(st:ag)(i:Str):items? st (.str i)=none:=rfl
@[simp] theorem RU(st:ag):items? st .aF=none:=rfl
theorem aC{st:ag}{n:Nat}{xs:List D}(h:st[n]?=some (.lst xs)):items? st (.ref n)=some xs:=by unfold items?;simp only[h]
theorem qE{α:List (Option Addr)}{H:Hp}{st:ag}{d:D}{v:V}{xs:List D}(S:a7 α st H)(r:Rep α H d v)(e:items? st d=some xs):
 ∃p vs,v= .ref p/\aI α H xs vs/\(Rd H p (.lst vs)\/H p=some (.tup vs)):=by
 cases d<;>try(cases e;done)
 . unfold items? at e;simp only at e;split at e
   . rename_i ys q;cases e;obtain⟨a,ea,vs,h1,h2⟩:=S.iZ q;have r':=cY ea r;subst r';exact⟨a,vs,rfl,h2,.inl (.of h1)⟩
   . cases e
 . cases e;unfold Rep at r;obtain⟨a,vs,rfl,_,h1,h2⟩:=r;exact⟨a,vs,rfl,h2,.inl h1⟩
 . cases e;unfold Rep at r;obtain⟨a,vs,rfl,_,h1,h2⟩:=r;exact⟨a,vs,rfl,h2,.inr h1⟩
theorem E7{K:PySem.W.Frag}{G F H:Hp}(P:cC G F H){p:Addr}{vs:List V}(h:Rd G p (.lst vs)\/G p=some (.tup vs)):nP K H p vs\/jH K H p vs:=h.elim (λ z=> .inl (.inl (gK P z))) λ z=> .inr (.of (P.get z))
theorem mv{α:List (Option Addr)}{H:Hp}{ds:List D}{xs:List V}{d:D}(r:aI α H ds xs)(e:ds=[d]):∃v,xs=[v]/\Rep α H d v:=by
 subst e;unfold aI at r;obtain⟨v,q,rfl,h1,h2⟩:=r;unfold aI at h2;subst h2;exact⟨v,rfl,h1⟩
theorem qh{α:List (Option Addr)}{H:Hp}{ds:List D}{xs:List V}{d e:D}(r:aI α H ds xs)(q:ds=[d,e]):∃v u,xs=[v,u]/\Rep α H d v/\Rep α H e u:=by
 subst q;unfold aI at r;obtain⟨v,q,rfl,h1,h2⟩:=r;obtain⟨u,rfl,h3⟩:=mv h2 rfl;exact⟨v,u,rfl,h1,h3⟩
def An:ie:=λ ds st K=>match ds with
 | [.str x]=>x.length<=sizeLine/\K (.int x.length) st
 | [d]=>(match items? st d with|some xs=>K (.int xs.length) st|none=>False)
 |_=>False
theorem Rr:cO X (.builtin "len") (jN An):=λ pins s σ H xs us Q I rs ⟨α,ds,st,K,G,F',P,r,S,q,k⟩=>by
 unfold An at q;split at q
 . rename_i x;obtain⟨v,rfl,r1⟩:=mv r rfl;unfold Rep at r1;subst r1;exact BR pins s σ H _ us Q I rs ⟨x,rfl,q.1,k.here P q.2 S (by unfold Rep;rfl)⟩
 . rename_i d _;split at q
   . rename_i ys e;obtain⟨v,rfl,r1⟩:=mv r rfl;obtain⟨p,vs,rfl,r2,h⟩:=qE S r1 e;refine CK pins s σ H _ us Q I rs ⟨p,vs,rfl,E7 P h,k.here P q S (by unfold Rep;rw[r2.length])⟩
   . exact q.elim
 . exact q.elim
def Sb(g:Int->Int):ie:=λ ds st K=>match ds with| [.int i]=>K (.int (g i)) st|_=>False
abbrev EY:ie:=Sb λ i=>if i<0 then-i else i
theorem QV:cO X (.builtin "abs") (jN EY):=cO.imp J8 λ xs H Q ⟨α,ds,st,K,G,F',P,r,S,q,k⟩=>by
 unfold EY Sb at q;split at q
 . obtain⟨v,rfl,r1⟩:=mv r rfl;unfold Rep at r1;subst r1;exact⟨_,rfl,k.here P q S (by unfold Rep;rfl)⟩
 . exact q.elim
def OM(g:Int->Int->Int):ie:=λ ds st K=>match ds with| [.int i,.int j]=>K (.int (g i j)) st|_=>False
abbrev EL:ie:=OM λ i j=>if j>i then j else i
theorem Rv(hc:X.calm=true):cO X (.builtin "max") (jN EL):=cO.imp (Hb hc) λ xs H Q ⟨α,ds,st,K,G,F',P,r,S,q,k⟩=>by
 unfold EL OM at q;split at q
 . obtain⟨v,u,rfl,r1,r2⟩:=qh r rfl;unfold Rep at r1 r2;subst r1 r2;exact⟨_,_,rfl,k.here P q S (by unfold Rep;rfl)⟩
 . exact q.elim
def uZ:ie:=λ ds st K=>match ds with| [d]=>(match items? st d with|some xs=>K (.tup xs) st|none=>False)|_=>False
theorem LV:cO X (.type "tuple") (jN uZ):=cO.imp Ab λ xs H Q ⟨α,ds,st,K,G,F',P,r,S,q,k⟩=>by
 unfold uZ at q;split at q
 . rename_i d;split at q
   . rename_i ys e;obtain⟨v,rfl,r1⟩:=mv r rfl;cases d with
     |tup zs=>
      cases e;have r0:=r1;unfold Rep at r1;obtain⟨a,vs,rfl,na,h1,h2⟩:=r1;exact⟨a,vs,rfl,.inr ⟨.of (P.get h1),k.here P q S r0⟩⟩
     |_=>
      obtain⟨p,vs,rfl,r2,h⟩:=qE S r1 e;refine⟨p,vs,rfl,?_⟩;rcases h with h|h
      . exact .inl ⟨.inl (gK P h),λ l hl=>k.tup P q S r2 hl⟩
      . first
         |(cases e;done)
         |(exfalso
           unfold items? at e;simp only at e
           first
            |(split at e
              . rename_i z;obtain⟨a,ea,vs',h1,h2⟩:=S.iZ z;have e':=cY ea r1;cases e';rw[h]at h1;cases h1
              . cases e)
            |(unfold Rep at r1
              obtain⟨a,vs',e',_,h1,_⟩:=r1;cases e';rcases h1 with h1|⟨o,h1⟩<;>(rw[h]at h1;cases h1)))
   . exact q.elim
 . exact q.elim
def xw:ie:=λ ds st K=>match ds with| [d]=>(match items? st d with|some xs=>K (.lst xs) st|none=>False)|_=>False
theorem N9:cO X (.type "list") (jN xw):=cO.imp uK λ xs H Q ⟨α,ds,st,K,G,F',P,r,S,q,k⟩=>by
 unfold xw at q;split at q
 . split at q
   . rename_i ys e;obtain⟨v,rfl,r1⟩:=mv r rfl;obtain⟨p,vs,rfl,r2,h⟩:=qE S r1 e;exact⟨p,vs,rfl,E7 P h,λ l hl=>k.lst P q S r2 hl⟩
   . exact q.elim
 . exact q.elim
def uY:ie:=λ ds st K=>match ds with| [d]=>(match items? st d with|some xs=>K (.ref st.length) (st++[.lst xs])|none=>False)|_=>False
theorem Mn:cO X (.type "list") (jN uY):=cO.imp uK λ xs H Q ⟨α,ds,st,K,G,F',P,r,S,q,k⟩=>by
 unfold uY at q;split at q
 . split at q
   . rename_i ys e;obtain⟨v,rfl,r1⟩:=mv r rfl;obtain⟨p,vs,rfl,r2,h⟩:=qE S r1 e;exact⟨p,vs,rfl,E7 P h,λ l hl=>k.new P q S r2 hl⟩
   . exact q.elim
 . exact q.elim
def qf:List D->Option (List Int)
 | []=>some []
 | .int b::r=>(qf r).map (b:: ·)
 |_::_=>none
theorem zB{α:List (Option Addr)}{H:Hp}:∀ {ds:List D} {vs:List V} {bs:List Int},aI α H ds vs->qf ds=some bs->vs=bs.map V.int
 | [],vs,bs,r,e=>by
   unfold aI at r;cases e;exact r
 |d::ds,vs,bs,r,e=>by
  unfold aI at r;obtain⟨v,q,rfl,h1,h2⟩:=r;cases d<;>try(cases e;done)
  unfold qf at e;cases z:qf ds with
  |none=>rw[z]at e;cases e
  |some cs=>
   rw[z]at e;cases e;unfold Rep at h1;rw[h1,zB h2 z];rfl
def kb(st:ag):D->Option String
 | .aF=>some "NoneType"
 | .bl _=>some "bool"
 | .int _=>some "int"
 | .str _=>some "str"
 | .lst _=>some "list"
 | .tup _=>some "tuple"
 | .ref n=>(match st[n]? with|some (.lst _)=>some "list"|_=>none)
 | .ty _=>none
@[simp] theorem TZ(st:ag)(xs:List D):kb st (.lst xs)=some "list":=rfl
@[simp] theorem TV(st:ag)(xs:List D):kb st (.tup xs)=some "tuple":=rfl
@[simp] theorem ty_int(st:ag)(i:Int):kb st (.int i)=some "int":=rfl
@[simp] theorem T8(st:ag)(i:Bool):kb st (.bl i)=some "bool":=rfl
@[simp] theorem ty_str(st:ag)(i:Str):kb st (.str i)=some "str":=rfl
@[simp] theorem TB(st:ag):kb st .aF=some "NoneType":=rfl
def wG(t c:String):Bool:=t==c||(t=="bool"&&c=="int")
theorem AL{α:List (Option Addr)}{H:Hp}{st:ag}{K:PySem.W.Frag}{d:D}{v:V}{t:String}(S:a7 α st H)(r:Rep α H d v)(e:kb st d=some t):kl K H v (.type t):=by
 cases d<;>unfold kb at e<;>try(cases e;done)
 . unfold Rep at r;cases e;subst r;exact .aF
 . unfold Rep at r;cases e;subst r;exact .bl _
 . unfold Rep at r;cases e;subst r;exact .int _
 . unfold Rep at r;cases e;subst r;exact .str _
 . simp only at e;split at e
   . rename_i z;cases e;obtain⟨a,ea,vs',h1,h2⟩:=S.iZ z;have r':=cY ea r;subst r';exact .lst h1
   . cases e
 . cases e;unfold Rep at r;obtain⟨a,vs,rfl,na,h1,h2⟩:=r;rcases h1 with h1|⟨o,h1⟩
   . exact .lst h1
   . exact .ia h1
 . cases e;unfold Rep at r;obtain⟨a,vs,rfl,na,h1,h2⟩:=r;exact .tup h1
theorem D8{G F H:Hp}{K:PySem.W.Frag}(P:cC G F H){x:V}{t:Value}(h:kl K G x t):kl K H x t:=by
 cases h with
 |aF=>exact .aF
 |bl x=>exact .bl x
 |int x=>exact .int x
 |str x=>exact .str x
 |vJ x=>exact .vJ x
 |lst e=>exact .lst (P.get e)
 |ia e=>exact .ia (P.get e)
 |tup e=>exact .tup (P.get e)
 |dK e=>exact .dK (P.get e)
 |dT e=>exact .dT (P.get e)
 |ins e a b c d f=>exact .ins (P.get e) a b c d f
def vf:List String:=["NoneType","bool","int","str","list","tuple"]
def oZ:List String:=["bool","int","str","list","tuple"]
theorem Eg(K:PySem.W.Frag){t c:String}(ht:t∈vf)(hc:c∈oZ):PySem.W.kitOne K (.type t) (.type c)=some (wG t c):=by
 simp only[vf,oZ,Ux,UD,Ww]at ht hc;rcases ht with rfl|rfl|rfl|rfl|rfl|rfl<;>rcases hc with rfl|rfl|rfl|rfl|rfl<;>with_unfolding_all rfl
theorem Bj{st:ag}{d:D}{t:String}(e:kb st d=some t):t∈vf:=by
 cases d<;>unfold kb at e<;>first
  |(cases e;done)
  |(cases e;decide)
  |(simp only at e;split at e<;>cases e;decide)
theorem kitx_of{pins:List (Addr×Obj)}{σ:L2.St}{H:Hp}{s:Shared}{x:V}{u:Value}{t:String}(I:Inv X pins σ H s)(rx:RelV x u)(ty:kl X.K H x (.type t)):
 ∃Hh:Heap->Prop,PySem.W.KitX X.K u (.type t) Hh/\Hh s.heap/\u≠ .builtin "__main__.__loader__#opaque":=by
 cases ty with
 |aF=>cases (show u=Value.none from rx);exact⟨_,PySem.W.kitx_none,True.intro,λ z=>nomatch z⟩
 |bl y=>cases (show u=Value.bool y from rx);exact⟨_,PySem.W.kitx_bool,True.intro,λ z=>nomatch z⟩
 |int i=>obtain⟨t,q⟩:=(show∃t,u=Value.int i t from rx);cases q;exact⟨_,PySem.W.kitx_int,True.intro,λ z=>nomatch z⟩
 |str y=>obtain⟨t,q⟩:=(show∃t,u=Value.str y t from rx);cases q;exact⟨_,PySem.W.kitx_str,True.intro,λ z=>nomatch z⟩
 |vJ y=>obtain⟨t,q⟩:=(show∃t,u=Value.float y t from rx);cases q;exact⟨_,PySem.W.kitx_float,True.intro,λ z=>nomatch z⟩
 | @lst a xs ea=>
   cases (show u=Value.ref a from rx);obtain⟨_,_,n,_,h1⟩:=(show dP X.prog X.w H s.heap a (.lst xs)from I.aO a _ ea)
   exact⟨_,Xd,⟨_,h1,rfl⟩,λ z=>nomatch z⟩
 | @ia a ob xs ea=>
   cases (show u=Value.ref a from rx);obtain⟨_,_,_,n,_,h1⟩:=(show dP X.prog X.w H s.heap a (.ia ob (.lst xs))from I.aO a _ ea)
   exact⟨_,Xd,⟨_,h1,rfl⟩,λ z=>nomatch z⟩
 | @tup a xs ea=>
   cases (show u=Value.ref a from rx);obtain⟨_,_,_,p⟩:=(show dP X.prog X.w H s.heap a (.tup xs)from I.aO a _ ea)
   obtain⟨o,h1,h2,_⟩:=p;exact⟨_,PySem.W.kitx_tuple,⟨o,h1,h2⟩,λ z=>nomatch z⟩
 | @dK a kvs ea=>
   cases (show u=Value.ref a from rx);obtain⟨_,_,vs,_,p⟩:=(show dP X.prog X.w H s.heap a (.dK kvs)from I.aO a _ ea)
   obtain⟨o,es,ep,h1,h2,_⟩:=p;exact⟨_,Xe,⟨o,h1,h2.1⟩,λ z=>nomatch z⟩
 | @dT a kvs ea=>
   cases (show u=Value.ref a from rx);obtain⟨_,_,xs,_,o,es,ep,h1,h2,_⟩:=(show dP X.prog X.w H s.heap a (.dT kvs)from I.aO a _ ea)
   exact⟨_,Xe,⟨o,h1,h2.1⟩,λ z=>nomatch z⟩
def rE:List D->Option (List String)
 | []=>some []
 | .ty b::r=>(rE r).map (b:: ·)
 |_::_=>none
theorem A_{α:List (Option Addr)}{H:Hp}:∀ {ds:List D} {vs:List V} {bs:List String},aI α H ds vs->rE ds=some bs->vs=bs.map V.ty
 | [],vs,bs,r,e=>by
   unfold aI at r;cases e;exact r
 |d::ds,vs,bs,r,e=>by
  unfold aI at r;obtain⟨v,q,rfl,h1,h2⟩:=r;cases d<;>try(cases e;done)
  unfold rE at e;cases z:rE ds with
  |none=>rw[z]at e;cases e
  |some cs=>
   rw[z]at e;cases e;unfold Rep at h1;rw[h1,A_ h2 z];rfl
theorem Cs:∀ {bs:List String} {us:List Value},Vals (bs.map V.ty) us->us=bs.map Value.type
 | [],_,.nil=>rfl
 |b::bs,_,.cons h t=>by
  have h:_=Value.type b:=h;rw[h,Cs t];rfl
theorem Di(K:PySem.W.Frag){t:String}(ht:t∈vf):∀cs:List String,(∀c∈cs,c∈oZ)->PySem.W.kitAny K (.type t) (cs.map Value.type)=some (cs.any (wG t))
 | [],_=>rfl
 |c::cs,h=>by
  show(match PySem.W.kitOne K (.type t) (.type c)with|some true=>some true|some false=>PySem.W.kitAny K (.type t) (cs.map Value.type)|none=>none)=_;rw[Eg K ht (h c UB),List.any_cons];cases wG t c with
  |true=>rfl
  |false=>exact Di K ht cs λ c hc=>h c (Uu _ hc)
def Aw:ie:=λ ds st K=>match ds with
 | [d,.ty c]=>(match kb st d with|some t=>c∈oZ/\K (.bl (wG t c)) st|none=>False)
 | [d,.tup cs]=>(match kb st d,rE cs with|some t,some cl=>(∀c∈cl,c∈oZ)/\K (.bl (cl.any (wG t))) st|_,_=>False)
 |_=>False
theorem Rb:cO X (.builtin "isinstance") (jN Aw):=λ pins s σ H xs us Q I rs ⟨α,ds,st,K,G,F',P,r,S,q,k⟩=>by
 unfold Aw at q;split at q
 . rename_i d c;split at q
   . rename_i t e;obtain⟨v,v2,rfl,r1,r2⟩:=qh r rfl;obtain⟨u,u2,rfl,ru,ru2⟩:=vals2 rs;unfold Rep at r2;subst r2;cases (show u2=Value.type c from ru2);exact Ia I ru (D8 P (AL S r1 e)) (Eg _ (Bj e) q.1) λ tk=>⟨.bl (wG t c),H,I.tok tk,rfl,k.here P q.2 S (by unfold Rep;rfl)⟩
   . exact q.elim
 . rename_i d cs;split at q
   . rename_i t cl e ec;obtain⟨v,v2,rfl,r1,r2⟩:=qh r rfl;obtain⟨u,u2,rfl,ru,ru2⟩:=vals2 rs;unfold Rep at r2;obtain⟨a,vs,rfl,na,h1,h2⟩:=r2;cases (show u2=Value.ref a from ru2);have hv:=A_ h2 ec;subst hv;obtain⟨Hh,Z,hh,hne⟩:=kitx_of I ru (D8 P (AL S r1 e));obtain⟨its,r',pl,hz⟩:=I.tuple (jH.of (P.get h1));have hi:=Cs r';subst hi;obtain⟨⟨cls,dd,data,sl⟩,ho,hc,n,hd⟩:=pl;simp only at hc hd;subst hc hd;exact PySem.W.kia_tup Z I.iG hh ho (Di _ (Bj e) cl q.1) hne λ tk=>⟨.bl _,H,I.tok tk,rfl,k.here P q.2 S (by unfold Rep;rfl)⟩
   . exact q.elim
 . exact q.elim
end
end L3
namespace L3
open PySem PySem.Spec L2 PySem.SeqAt
open PyProof.Rows hiding St
mutual
def cU:D->D->Bool
 | .aF,.aF=>true
 | .bl a,.bl b=>a==b
 | .bl a,.int b=>(if a then 1 else 0)==b
 | .int a,.bl b=>a==(if b then 1 else 0)
 | .int a,.int b=>a==b
 | .str a,.str b=>a==b
 | .lst xs,.lst ys=>mK xs ys
 | .tup xs,.tup ys=>mK xs ys
 |_,_=>false
def mK:List D->List D->Bool
 | [],[]=>true
 |x::xs,y::ys=>cU x y&&mK xs ys
 |_,_=>false
end
def pl:Nat->D->Bool
 |_,.aF=>true
 |_,.bl _=>true
 |_,.int _=>true
 |_,.str _=>true
 |n+1,.lst xs=>xs.all (pl n)
 |n+1,.tup xs=>xs.all (pl n)
 |_,_=>false
mutual
theorem rZ:∀(n:Nat) (d:D),pl n d=true->cU d d=true
 |_,.aF,_=>rfl
 |_,.bl _,_=>by simp[cU]
 |_,.int _,_=>by simp[cU]
 |_,.str _,_=>by simp[cU]
 |n+1,.lst xs,h=>by unfold cU;exact ui n xs (by unfold pl at h;exact h)
 |n+1,.tup xs,h=>by unfold cU;exact ui n xs (by unfold pl at h;exact h)
 |0,.lst xs,h=>by cases h
 |0,.tup xs,h=>by cases h
 |_,.ref _,h=>by unfold pl at h;cases h
 |_,.ty _,h=>by unfold pl at h;cases h
theorem ui:∀(n:Nat) (xs:List D),xs.all (pl n)=true->mK xs xs=true
 |_,[],_=>by unfold mK;rfl
 |n,x::xs,h=>by
  rw[YZ,Vb]at h;unfold mK;rw[rZ n x h.1,ui n xs h.2];rfl
end
mutual
theorem Rep.inj{α:List (Option Addr)}{H:Hp}:∀ {d e:D} {v:V} (n:Nat),pl n d=true->pl n e=true->Rep α H d v->Rep α H e v->d=e
 | .aF,e,v,n,_,he,h1,h2=>by
   unfold Rep at h1;subst h1;cases e<;>first|(unfold pl at he;cases he;done)|(unfold Rep at h2;cases h2;rfl)|(unfold Rep at h2;cases h2;done)|(unfold Rep at h2;obtain⟨_,_,h2,_⟩:=h2;cases h2)|rfl|(cases h2;done)|(obtain⟨_,_,h2,_⟩:=h2;cases h2)|(obtain⟨_,_,h2⟩:=h2;cases h2)
 | .bl b,e,v,n,_,he,h1,h2=>by
   unfold Rep at h1;subst h1;cases e<;>first|(unfold pl at he;cases he;done)|(unfold Rep at h2;cases h2;rfl)|(unfold Rep at h2;cases h2;done)|(unfold Rep at h2;obtain⟨_,_,h2,_⟩:=h2;cases h2)|(cases h2;rfl)|(cases h2;done)|(obtain⟨_,_,h2,_⟩:=h2;cases h2)|(obtain⟨_,_,h2⟩:=h2;cases h2)
 | .int b,e,v,n,_,he,h1,h2=>by
   unfold Rep at h1;subst h1;cases e<;>first|(unfold pl at he;cases he;done)|(unfold Rep at h2;cases h2;rfl)|(unfold Rep at h2;cases h2;done)|(unfold Rep at h2;obtain⟨_,_,h2,_⟩:=h2;cases h2)|(cases h2;rfl)|(cases h2;done)|(obtain⟨_,_,h2,_⟩:=h2;cases h2)|(obtain⟨_,_,h2⟩:=h2;cases h2)
 | .str b,e,v,n,_,he,h1,h2=>by
   unfold Rep at h1;subst h1;cases e<;>first|(unfold pl at he;cases he;done)|(unfold Rep at h2;cases h2;rfl)|(unfold Rep at h2;cases h2;done)|(unfold Rep at h2;obtain⟨_,_,h2,_⟩:=h2;cases h2)|(cases h2;rfl)|(cases h2;done)|(obtain⟨_,_,h2,_⟩:=h2;cases h2)|(obtain⟨_,_,h2⟩:=h2;cases h2)
 | .ty b,e,v,n,hd,he,h1,h2=>by unfold pl at hd;cases hd
 | .ref b,e,v,n,hd,he,h1,h2=>by unfold pl at hd;cases hd
 | .lst xs,e,v,0,hd,he,h1,h2=>by cases hd
 | .tup xs,e,v,0,hd,he,h1,h2=>by cases hd
 | .lst xs,e,v,n+1,hd,he,h1,h2=>by
   unfold Rep at h1;obtain⟨a,vs,rfl,na,ha,ra⟩:=h1;cases e<;>unfold Rep at h2<;>try(cases h2;done)
   . unfold pl at he;cases he
   . obtain⟨a',vs',e',na',ha',ra'⟩:=h2;cases e'
     have:vs=vs':=by
      rcases ha with ha|⟨o,ha⟩<;>rcases ha' with ha'|⟨o',ha'⟩<;>(rw[ha]at ha';first|(cases ha';rfl)|(cases ha';done))
     subst this;rw[aI.inj n (by unfold pl at hd;exact hd) (by unfold pl at he;exact he) ra ra']
   . obtain⟨a',vs',e',na',ha',ra'⟩:=h2;cases e';rcases ha with ha|⟨o,ha⟩<;>(rw[ha]at ha';cases ha')
 | .tup xs,e,v,n+1,hd,he,h1,h2=>by
   unfold Rep at h1;obtain⟨a,vs,rfl,na,ha,ra⟩:=h1;cases e<;>unfold Rep at h2<;>try(cases h2;done)
   . unfold pl at he;cases he
   . obtain⟨a',vs',e',na',ha',ra'⟩:=h2;cases e';rcases ha' with ha'|⟨o,ha'⟩<;>(rw[ha]at ha';cases ha')
   . obtain⟨a',vs',e',na',ha',ra'⟩:=h2;cases e';rw[ha]at ha';cases ha';rw[aI.inj n (by unfold pl at hd;exact hd) (by unfold pl at he;exact he) ra ra']
theorem aI.inj{α:List (Option Addr)}{H:Hp}:∀ {ds es:List D} {vs:List V} (n:Nat),ds.all (pl n)=true->es.all (pl n)=true->aI α H ds vs->aI α H es vs->ds=es
 | [],es,vs,n,_,_,h1,h2=>by
   unfold aI at h1;subst h1;cases es with
   |nil=>rfl
   |cons e es=>unfold aI at h2;obtain⟨_,_,h,_⟩:=h2;cases h
 |d::ds,es,vs,n,hd,he,h1,h2=>by
  unfold aI at h1;obtain⟨v,r,rfl,r1,r2⟩:=h1;cases es with
  |nil=>unfold aI at h2;cases h2
  |cons e es=>
   unfold aI at h2;obtain⟨v',r',h,q1,q2⟩:=h2;cases h;rw[YZ,Vb]at hd he;rw[Rep.inj n hd.1 he.1 r1 q1,aI.inj n hd.2 he.2 r2 q2]
end
theorem pR:∀ {xs ys:List D},xs.length≠ys.length->mK xs ys=false
 | [],[],h=>absurd rfl h
 | [],_::_,_=>by unfold mK;rfl
 |_::_,[],_=>by unfold mK;rfl
 |x::xs,y::ys,h=>by
  unfold mK;rw[pR (by simpa using h),YN]
theorem p7:∀ {xs ys:List D},xs.length=ys.length->mK xs ys=(List.range xs.length).all λ j=>cU (xs.getD j .aF) (ys.getD j .aF)
 | [],[],_=>by unfold mK;rfl
 | [],_::_,h=>by cases h
 |_::_,[],h=>by cases h
 |x::xs,y::ys,h=>by
  unfold mK;rw[UQ,VZ,YZ,List.all_map,p7 (by simpa using h)];rfl
section
variable {X:Cx}{pins:List (Addr×Obj)}{σ:L2.St}{H:Hp}{s:Shared}{α:List (Option Addr)}
theorem lI{xs:List D}{vs:List V}{its:List Value}(r:aI α H xs vs)(v:Vals vs its)(j:Nat)(hj:j<its.length):∃x,xs[j]?=some (xs.getD j .aF)/\Rep α H (xs.getD j .aF) x/\RelV x its[j]:=by
 have h1:=r.length;have h2:=v.length;have hx:j<xs.length:=by omega
 have e:xs[j]?=some (xs.getD j .aF):=by rw[Uq hx,Uv,Uq hx];rfl
 obtain⟨x,q,rr⟩:=r.get e;obtain⟨u,q2,rv⟩:=v.get q;rw[Uq hj]at q2;cases q2;exact⟨x,e,rr,rv⟩
theorem jF{xs:List D}{n:Nat}(h:xs.all (pl n)=true)(j:Nat):pl n (xs.getD j .aF)=true:=by
 rw[Uv];cases e:xs[j]? with
 |none=>cases n<;>rfl
 |some d=>exact U_.mp h d (UJ e)
def zi:D->Bool
 | .aF=>true
 | .bl _=>true
 | .int _=>true
 | .str _=>true
 |_=>false
theorem DH{A:Around}{d e:D}{x y:V}{u v:Value}(hd:zi d=true)(he:zi e=true)(rd:Rep α H d x)(re:Rep α H e y)(rx:RelV x u)(ry:RelV y v):RcAt A s u v (cU d e)/\EqAt A s u v (cU d e):=by
 cases d<;>cases e<;>try(first|(cases hd;done)|(cases he;done))
 all_goals(unfold Rep at rd re;subst rd re)
 all_goals(first|(obtain⟨t,rfl⟩:=rx;obtain⟨t',rfl⟩:=ry)|(obtain⟨t,rfl⟩:=rx;cases ry)|(cases rx;obtain⟨t,rfl⟩:=ry)|(cases rx;cases ry))
 all_goals unfold cU
 . exact⟨RcAt.none_none,EqAt.same _⟩
 . exact⟨RcAt.none_bool _,EqAt.none_bool _⟩
 . exact⟨RcAt.none_int _ _,EqAt.none_int _ _⟩
 . exact⟨RcAt.none_str _ _,EqAt.none_str _ _⟩
 . exact⟨RcAt.bool_none _,EqAt.bool_none _⟩
 . exact⟨RcAt.bool_bool _ _,EqAt.bool_bool _ _⟩
 . exact⟨RcAt.bool_int _ _ _,EqAt.bool_int _ _ _⟩
 . exact⟨RcAt.bool_str _ _ _,EqAt.bool_str _ _ _⟩
 . exact⟨RcAt.int_none _ _,EqAt.int_none _ _⟩
 . exact⟨RcAt.int_bool _ _ _,EqAt.int_bool _ _ _⟩
 . exact⟨RcAt.int_int _ _ _ _,EqAt.int_int _ _ _ _⟩
 . exact⟨RcAt.int_str _ _ _ _,EqAt.int_str _ _ _ _⟩
 . exact⟨RcAt.str_none _ _,EqAt.str_none _ _⟩
 . exact⟨RcAt.str_bool _ _ _,EqAt.str_bool _ _ _⟩
 . exact⟨RcAt.str_int _ _ _ _,EqAt.str_int _ _ _ _⟩
 . exact⟨RcAt.str_str _ _ _ _,EqAt.str_str _ _ _ _⟩
theorem lst_is(I:Inv X pins σ H s){xs:List D}{x:V}{u:Value}(r:Rep α H (.lst xs) x)(rx:RelV x u):∃a vs its,u= .ref a/\aI α H xs vs/\Vals vs its/\s.heap.IsList a its.toArray:=by
 unfold Rep at r;obtain⟨a,vs,rfl,na,ha,ra⟩:=r;cases rx;obtain⟨z,its,n,rv,hl,eo⟩:=Inv.CC I ha;exact⟨a,vs,its,rfl,ra,rv,⟨_,eo,rfl,n,rfl⟩⟩
theorem tup_is(I:Inv X pins σ H s){xs:List D}{x:V}{u:Value}(r:Rep α H (.tup xs) x)(rx:RelV x u):∃a vs its,u= .ref a/\aI α H xs vs/\Vals vs its/\s.heap.IsTuple a its.toArray:=by
 unfold Rep at r;obtain⟨a,vs,rfl,na,ha,ra⟩:=r;cases rx;obtain⟨its,r',p,hz⟩:=I.tuple (jH.of ha);exact⟨a,vs,its,rfl,ra,r',p⟩
theorem ze(I:Inv X pins σ H s){A:Around}{xs:List D}{e:D}{x y:V}{u v:Value}(he:zi e=true)(rd:Rep α H (.lst xs) x)(re:Rep α H e y)(rx:RelV x u)(ry:RelV y v)(hu:A.units<cLine):
 (RcAt A s u v (cU (.lst xs) e)/\EqAt A s u v (cU (.lst xs) e))/\RcAt A s v u (cU e (.lst xs))/\EqAt A s v u (cU e (.lst xs)):=by
 obtain⟨a,vs,its,rfl,_,_,hl⟩:=lst_is I rd rx;cases e<;>try(cases he;done)
 all_goals(unfold Rep at re;subst re)
 all_goals(first|(obtain⟨t,rfl⟩:=ry)|(cases ry))
 all_goals unfold cU
 . exact⟨⟨RcAt.list_none hl hu,EqAt.list_none hl hu⟩,RcAt.none_list hl hu,EqAt.none_list hl hu⟩
 . exact⟨⟨RcAt.list_bool _ hl hu,EqAt.list_bool _ hl hu⟩,RcAt.bool_list _ hl hu,EqAt.bool_list _ hl hu⟩
 . exact⟨⟨RcAt.list_int _ _ hl hu,EqAt.list_int _ _ hl hu⟩,RcAt.int_list _ _ hl hu,EqAt.int_list _ _ hl hu⟩
 . exact⟨⟨RcAt.list_str _ _ hl hu,EqAt.list_str _ _ hl hu⟩,RcAt.str_list _ _ hl hu,EqAt.str_list _ _ hl hu⟩
theorem zD(I:Inv X pins σ H s){A:Around}{xs:List D}{e:D}{x y:V}{u v:Value}(he:zi e=true)(rd:Rep α H (.tup xs) x)(re:Rep α H e y)(rx:RelV x u)(ry:RelV y v)(hu:A.units<cLine):
 (RcAt A s u v (cU (.tup xs) e)/\EqAt A s u v (cU (.tup xs) e))/\RcAt A s v u (cU e (.tup xs))/\EqAt A s v u (cU e (.tup xs)):=by
 obtain⟨a,vs,its,rfl,_,_,hl⟩:=tup_is I rd rx;cases e<;>try(cases he;done)
 all_goals(unfold Rep at re;subst re)
 all_goals(first|(obtain⟨t,rfl⟩:=ry)|(cases ry))
 all_goals unfold cU
 . exact⟨⟨RcAt.tuple_none hl hu,EqAt.tuple_none hl hu⟩,RcAt.none_tuple hl hu,EqAt.none_tuple hl hu⟩
 . exact⟨⟨RcAt.tuple_bool _ hl hu,EqAt.tuple_bool _ hl hu⟩,RcAt.bool_tuple _ hl hu,EqAt.bool_tuple _ hl hu⟩
 . exact⟨⟨RcAt.tuple_int _ _ hl hu,EqAt.tuple_int _ _ hl hu⟩,RcAt.int_tuple _ _ hl hu,EqAt.int_tuple _ _ hl hu⟩
 . exact⟨⟨RcAt.tuple_str _ _ hl hu,EqAt.tuple_str _ _ hl hu⟩,RcAt.str_tuple _ _ hl hu,EqAt.str_tuple _ _ hl hu⟩
theorem Ea{A:Around}{n:Nat}{d e:D}{x y:V}{a b:Addr}(hd:pl n d=true)(he:pl n e=true)(rd:Rep α H d x)(re:Rep α H e y)(rx:RelV x (.ref a))(ry:RelV y (.ref b))(h:RcAt A s (.ref a) (.ref b) (cU d e)):
 RcAt A s (.ref a) (.ref b) (cU d e)/\EqAt A s (.ref a) (.ref b) (cU d e):=by
 refine⟨h,?_⟩;by_cases hab:a=b
 . subst hab;have hx:x=y:=RelV.inj rx ry;subst hx;have:=Rep.inj n hd he rd re;subst this;rw[rZ n d hd];exact EqAt.same _
 . exact EqAt.of_refs hab h
theorem Fm(I:Inv X pins σ H s):∀(n:Nat) (A:Around) (d e:D) (x y:V) (u v:Value),pl n d=true->pl n e=true->Rep α H d x->Rep α H e y->RelV x u->RelV y v->A.units+n<cLine->
 RcAt A s u v (cU d e)/\EqAt A s u v (cU d e):=by
 intro n;induction n with
 |zero=>
  intro A d e x y u v hd he rd re rx ry hu;refine DH ?_ ?_ rd re rx ry
  . cases d<;>first|rfl|(cases hd)
  . cases e<;>first|rfl|(cases he)
 |succ n ih=>
  intro A d e x y u v hd he rd re rx ry hu;have hu0:A.units<cLine:=by omega
  have hin:A.in1.units+n<cLine:=by rw[Around.in1_units];omega
  cases d<;>try(cases hd;done)
  case lst xs=>
   cases e<;>try(cases he;done)
   case lst ys=>
    have rd0:=rd;have re0:=re;have rx0:=rx;have ry0:=ry;obtain⟨a,vs,its,rfl,r1,v1,l1⟩:=lst_is I rd rx;obtain⟨b,ws,jts,rfl,r2,v2,l2⟩:=lst_is I re ry;have e1:=r1.length;have e2:=v1.length;have e3:=r2.length;have e4:=v2.length;refine Ea hd he rd0 re0 rx0 ry0 ?_;unfold cU;by_cases hlen:xs.length=ys.length
    . rw[p7 hlen];have hsz:its.toArray.size=jts.toArray.size:=by simp only[Um];omega
      have hx:xs.length=its.toArray.size:=by simp only[Um];omega
      rw[hx];refine RcAt.lists l1 l2 hsz hu0 λ j h1 h2=>?_;have h1':j<its.length:=by simpa using h1
      have h2':j<jts.length:=by simpa using h2
      obtain⟨p,_,q1,q2⟩:=lI r1 v1 j h1';obtain⟨p',_,q1',q2'⟩:=lI r2 v2 j h2';exact(ih A.in1 _ _ p p' _ _ (jF (by unfold pl at hd;exact hd) j) (jF (by unfold pl at he;exact he) j) q1 q1' (by simpa using q2) (by simpa using q2') hin).2
    . rw[pR hlen];exact RcAt.lists_lengths l1 l2 (by simp only[Um,Yj,ne_eq];omega) hu0
   case tup ys=>
    obtain⟨a,vs,its,rfl,r1,v1,l1⟩:=lst_is I rd rx;obtain⟨b,ws,jts,rfl,r2,v2,l2⟩:=tup_is I re ry;unfold cU;exact⟨RcAt.list_tuple l1 l2 hu0,EqAt.list_tuple l1 l2 hu0⟩
   all_goals exact(ze I rfl rd re rx ry hu0).1
  case tup xs=>
   cases e<;>try(cases he;done)
   case tup ys=>
    have rd0:=rd;have re0:=re;have rx0:=rx;have ry0:=ry;obtain⟨a,vs,its,rfl,r1,v1,l1⟩:=tup_is I rd rx;obtain⟨b,ws,jts,rfl,r2,v2,l2⟩:=tup_is I re ry;have e1:=r1.length;have e2:=v1.length;have e3:=r2.length;have e4:=v2.length;refine Ea hd he rd0 re0 rx0 ry0 ?_;unfold cU
    have key:=RcAt.tuples (e:=λ j=>cU (xs.getD j .aF) (ys.getD j .aF)) l1 l2 hu0 λ j h1 h2=>by
     have h1':j<its.length:=by simpa using h1
     have h2':j<jts.length:=by simpa using h2
     obtain⟨p,_,q1,q2⟩:=lI r1 v1 j h1';obtain⟨p',_,q1',q2'⟩:=lI r2 v2 j h2';exact(ih A.in1 _ _ p p' _ _ (jF (by unfold pl at hd;exact hd) j) (jF (by unfold pl at he;exact he) j) q1 q1' (by simpa using q2) (by simpa using q2') hin).2
    by_cases hlen:xs.length=ys.length
    . rw[p7 hlen];have hsz:its.toArray.size=jts.toArray.size:=by simp only[Um];omega
      have hx:xs.length=its.toArray.size:=by simp only[Um];omega
      rw[hsz,Y5,Xr,Bool.and_true,<-hsz,<-hx]at key;exact key
    . rw[pR hlen];have hne:(its.toArray.size==jts.toArray.size)=false:=by simp only[Um,Wc,ne_eq];omega
      rw[hne,YN]at key;exact key
   case lst ys=>
    obtain⟨a,vs,its,rfl,r1,v1,l1⟩:=tup_is I rd rx;obtain⟨b,ws,jts,rfl,r2,v2,l2⟩:=lst_is I re ry;unfold cU;exact⟨RcAt.tuple_list l1 l2 hu0,EqAt.tuple_list l1 l2 hu0⟩
   all_goals exact(zD I rfl rd re rx ry hu0).1
  all_goals
   cases e<;>try(cases he;done)
   case lst ys=>exact(ze I rfl re rd ry rx hu0).2
   case tup ys=>exact(zD I rfl re rd ry rx hu0).2
   all_goals exact DH rfl rfl rd re rx ry
def Qc:cZ:=λ x y st K=>pl 40 x=true/\pl 40 y=true/\K (.bl (cU x y)) st
theorem SH{k:Nat}(hr:cT k X.A):cp X (compareOp .Eq) (LR Qc):=λ pins s σ H x y v u Q I rx ry ⟨α,d,e,st,K,G,F',P,r1,r2,S,q,k⟩=>by
 have hu:=hr.units;exact(Fm I 40 X.A d e x y v u q.1 q.2.1 (r1.mono P.same) (r2.mono P.same) rx ry (by omega)).1 _ _ _ _ ⟨.bl (cU d e),H,I,rfl,k.here P q.2.2 S (by unfold Rep;rfl)⟩
def Nw:cZ:=λ x y st K=>match x,y with
 | .int i,.int j=>K (.bl (!decide (i=j))) st
 | .bl i,.bl j=>K (.bl (!decide (i=j))) st
 | .str i,.str j=>K (.bl (!decide (i=j))) st
 |_,_=>False
theorem So:cp X (compareOp .NotEq) (LR Nw):=cp.imp Ro λ x y H Q ⟨α,d,e,st,K,G,F',P,r1,r2,S,q,k⟩=>by
 cases d<;>cases e<;>try exact q.elim
 all_goals(unfold Rep at r1 r2;subst r1 r2)
 . exact⟨rfl,k.here P q S (by unfold Rep;congr 2;exact Yt.mpr ⟨λ h=>by cases h;rfl,λ h=>by rw[h]⟩)⟩
 . exact⟨rfl,k.here P q S (by unfold Rep;congr 2;exact Yt.mpr ⟨λ h=>by cases h;rfl,λ h=>by rw[h]⟩)⟩
 . exact⟨rfl,k.here P q S (by unfold Rep;congr 2;exact Yt.mpr ⟨λ h=>by cases h;rfl,λ h=>by rw[h]⟩)⟩
end
end L3
namespace L3
open PySem PySem.Spec L2
open PyProof.Rows hiding St
def LC(α:List (Option Addr))(G F:Hp)(K:cy->ag->Prop)(Q:L2.St->Hp->Prop):Prop:=∀σd' st',K σd' st'->∀α' G' H' σ',Step α G α' G'->cC G' F H'->eZ α' G' σd' σ'->a7 α' st' G'->Q σ' H'
structure AG(α:List (Option Addr))(G F:Hp)(DD:kQ)(D:Ends):Prop where
 nx:LC α G F DD.nx D.nx
 rt:LK α G F DD.rt D.rt
 bk:LC α G F DD.bk D.bk
 ct:LC α G F DD.ct D.ct
inductive RV(t:DS)(D:Ends)(σ:L2.St)(H:Hp):Prop
 |mk (α:List (Option Addr)) (σd:cy) (st:ag) (DD:kQ) (G F:Hp) (P:cC G F H) (R:eZ α G σd σ) (S:a7 α st G) (h:t DD σd st) (k:AG α G F DD D):RV t D σ H
def LS(t:DS):TS:=RV t
theorem LC.at{α α1:List (Option Addr)}{G F G1:Hp}{K:cy->ag->Prop}{Q:L2.St->Hp->Prop}(h:LC α G F K Q)(s:Step α G α1 G1):LC α1 G1 F K Q:=λ d st' k α' G' H' v s' P R S=>h d st' k α' G' H' v (s.trans s') P R S
theorem LC.here{α:List (Option Addr)}{G F H:Hp}{K:cy->ag->Prop}{Q:L2.St->Hp->Prop}(h:LC α G F K Q)(P:cC G F H){σd:cy}{st:ag}{σ:L2.St}(k:K σd st)(R:eZ α G σd σ)(S:a7 α st G):Q σ H:=h σd st k α G H σ Step.refl P R S
theorem AG.at{α α1:List (Option Addr)}{G F G1:Hp}{DD:kQ}{D:Ends}(h:AG α G F DD D)(s:Step α G α1 G1):AG α1 G1 F DD D:=⟨h.nx.at s,h.rt.at s,h.bk.at s,h.ct.at s⟩
section
variable {X:Cx}{a b c e o i:Expr}{es:List Expr}{ta tb tc te:DE}{pos:Pos}{st:Stmt}{sts:List Stmt}{t u:DS}
theorem PS.imp{t t':TS}(h:PS X st t)(f:∀D σ H,t' D σ H->t D σ H):PS X st t':=λ pins s σ H D I q=>h pins s σ H D I (f D σ H q)
theorem iK.imp{t t':TS}(h:iK X sts t)(f:∀D σ H,t' D σ H->t D σ H):iK X sts t':=λ pins s σ H D I q=>h pins s σ H D I (f D σ H q)
def e_:DS:=λ D σ st=>D.nx σ st
def aA(t u:DS):DS:=λ D σ st=>t {D with nx:=u D} σ st
theorem LL:iK X [] (LS e_):=iK.imp LJ λ D σ H ⟨α,σd,st,DD,G,F,P,R,S,t,k⟩=>k.nx.here P t R S
theorem MZ(h:PS X st (LS t)):iK X [st] (LS t):=Ma h
theorem I_(h:PS X st (LS t))(h2:iK X sts (LS u)):iK X (st::sts) (LS (aA t u)):=iK.imp (JN h h2) λ D σ H ⟨α,σd,st,DD,G,F,P,R,S,t,k⟩=>
 ⟨α,σd,st,_,G,F,P,R,S,t,λ σd' st' q α' G' H' σ' s' P' R' S'=>⟨α',σd',st',DD,G',F,P',R',S',q,k.at s'⟩,k.rt,k.bk,k.ct⟩
def Er:DS:=λ D σ st=>D.ct σ st
theorem Dd:PS X (.Continue pos) (LS Er):=PS.imp CT λ D σ H ⟨α,σd,st,DD,G,F,P,R,S,t,k⟩=>k.ct.here P t R S
def bK(te:DE):DS:=λ D σ st=>te σ st D.rt
theorem NX(h:PE X e (LE te)):PS X (.Return (some e) pos) (LS (bK te)):=PS.imp (Pf h) λ D σ H ⟨α,σd,st,DD,G,F,P,R,S,t,k⟩=>⟨α,σd,st,_,G,F,P,R,S,t,k.rt⟩
def Fp:DS:=λ D _ st=>D.rt .aF st
theorem Mb:PS X (.Return none pos) (LS Fp):=PS.imp M0 λ D σ H ⟨α,σd,st,DD,G,F,P,R,S,t,k⟩=>k.rt.here P t S (by unfold Rep;rfl)
def fh(te:DE):DS:=λ D σ st=>te σ st λ _ st1=>D.nx σ st1
theorem Ml(h:PE X e (LE te))(hs:swapsWith e none pos.line X.env=pure false:=by rfl):PS X (.Expr e pos) (LS (fh te)):=PS.imp (ML h hs) λ D σ H ⟨α,σd,st,DD,G,F,P,R,S,t,k⟩=>
 ⟨α,σd,st,_,G,F,P,R,S,t,λ d st1 q α1 G1 H1 v s1 P1 S1 r1=>(k.nx.at s1).here P1 q (R.step s1) S1⟩
def gj(c:DT)(t u:DS):DS:=λ D σ st=>c σ st λ b st1=>if b=true then t D σ st1 else u D σ st1
theorem Q9{x y:List Stmt}{tc:DT}(hc:PT X c (LT tc))(ha:iK X x (LS t))(hb:iK X y (LS u)):PS X (.If c x y pos) (LS (gj tc t u)):=PS.imp (QT hc ha hb) λ D σ H ⟨α,σd,st,DD,G,F,P,R,S,t,k⟩=>by
 refine⟨α,σd,st,_,G,F,P,R,S,t,λ b st1 q α1 G1 H1 s1 P1 S1=>?_⟩;cases b with
 |true=>exact⟨α1,σd,st1,DD,G1,F,P1,R.step s1,S1,q,k.at s1⟩
 |false=>exact⟨α1,σd,st1,DD,G1,F,P1,R.step s1,S1,q,k.at s1⟩
abbrev ib:=D->cy->Option cy
def bT(i:Nat):ib:=λ d σ=>some (σ.set i (some d))
def jx(i j:Nat):ib:=λ d σ=>match d with| .tup [x,y]=>some ((σ.set i (some x)).set j (some y))|_=>none
inductive Sk(t:ib)(v:V)(σ:L2.St)(H:Hp)(Q:L2.St->Hp->Prop):Prop
 |mk (α:List (Option Addr)) (σd:cy) (st:ag) (d:D) (K:cy->ag->Prop) (G F:Hp) (P:cC G F H) (R:eZ α G σd σ) (S:a7 α st G) (r:Rep α G d v) (h:∃σ',t d σd=some σ'/\K σ' st) (k:LC α G F K Q):Sk t v σ H Q
def LG(t:ib):TG:=Sk t
theorem PG.imp{tg:Expr}{t t':TG}(h:PG X tg t)(f:∀v σ H Q,t' v σ H Q->t v σ H Q):PG X tg t':=λ pins s σ H v u Q I r q=>h pins s σ H v u Q I r (f v σ H Q q)
theorem MQ{tg:Expr}{i:Nat}(h:PG X tg (kO i)):PG X tg (LG (bT i)):=PG.imp h λ v σ H Q ⟨α,σd,st,d,K,G,F,P,R,S,r,⟨σ',e,q⟩,k⟩=>by
 cases e;exact k.here P q (R.set i r) S
theorem Og{tg:Expr}{i j:Nat}(h:PG X tg (Jd X.K 2 (vh (kO i) (vh (kO j) Iu)))):PG X tg (LG (jx i j)):=PG.imp h λ v σ H Q ⟨α,σd,st,d,K,G,F,P,R,S,r,⟨σ',e,q⟩,k⟩=>by
 unfold jx at e;split at e
 . rename_i x y;cases e;unfold Rep at r;obtain⟨a,vs,rfl,na,h1,h2⟩:=r;obtain⟨v1,v2,rfl,r1,r2⟩:=qh h2 rfl;exact⟨a,_,rfl,.of (P.get h1),rfl,v1,_,rfl,v2,_,rfl,rfl,k.here P q ((R.set i r1).set j r2) S⟩
 . cases e
def aQ(i:Nat)(te:DE):DS:=λ D σ st=>te σ st λ d st1=>D.nx (σ.set i (some d)) st1
theorem P_{i:Nat}(h:PS X st (sr (LE te) (kO i))):PS X st (LS (aQ i te)):=PS.imp h λ D σ H ⟨α,σd,st,DD,G,F,P,R,S,t,k⟩=>
 ⟨α,σd,st,_,G,F,P,R,S,t,λ d st1 q α1 G1 H1 v s1 P1 S1 r1=>(k.nx.at s1).here P1 q ((R.step s1).set i r1) S1⟩
def Jo(i j:Nat)(ta:DA):DS:=λ D σ st=>ta σ st λ ds st1=>match ds with| [x,y]=>D.nx ((σ.set i (some x)).set j (some y)) st1|_=>False
theorem OE{i j:Nat}{ta:DA}(h:PS X st (ND i j (LA ta))):PS X st (LS (Jo i j ta)):=PS.imp h λ D σ H ⟨α,σd,st,DD,G,F,P,R,S,t,k⟩=>by
 refine⟨α,σd,st,_,G,F,P,R,S,t,λ ds st1 q α1 G1 H1 vs s1 P1 S1 r1=>?_⟩;match ds,q,r1 with
 | [x,y],q,r1=>
   obtain⟨v1,v2,rfl,q1,q2⟩:=qh r1 rfl;exact⟨v1,v2,rfl,(k.nx.at s1).here P1 q (((R.step s1).set i q1).set j q2) S1⟩
def Ce(i:Nat)(r:cZ)(te:DE):DS:=λ D σ st=>match σ[i]? with|some (some x)=>te σ st λ y st1=>r x y st1 λ z st2=>D.nx (σ.set i (some z)) st2|_=>False
def xi(f:Int->Int->Int):cZ:=λ x y st K=>match x,y with| .int i,.int j=>K (.int (f i j)) st|_,_=>False
theorem N3{i:Nat}{f:Int->Int->Int}(h:PS X st (Pg i (LE te) (D_ f))):PS X st (LS (Ce i (xi f) te)):=PS.imp h λ D σ H ⟨α,σd,st,DD,G,F,P,R,S,t,k⟩=>by
 unfold Ce at t;split at t
 . rename_i x e;obtain⟨v,ev,rv⟩:=R.at' i x e;refine⟨v,ev,α,σd,st,_,G,F,P,R,S,t,λ y st1 q α1 G1 H1 w s1 P1 S1 r1=>?_⟩;cases x<;>cases y<;>try exact q.elim
   have rv':=rv;unfold Rep at rv r1;exact⟨_,_,rv,r1,(k.nx.at s1).here P1 q ((R.step s1).set i (by unfold Rep;rfl)) S1⟩
 . exact t.elim
def wa(x y d:D)(st:ag)(K:ag->Prop):Prop:=match x,y with
 | .ref n,.int k=>(match st[n]? with
   |some (.lst xs)=>(match lO xs.length k with|some j=>K (st.set n (.lst (xs.set j d)))|none=>False)
   |_=>False)
 |_,_=>False
def PJ(to ti te:DE):DS:=λ D σ st=>te σ st λ d st1=>to σ st1 λ x st2=>ti σ st2 λ y st3=>wa x y d st3 λ st4=>D.nx σ st4
theorem JF{to ti:DE}(h:PS X st (sr (LE te) (E_ (LE to) (LE ti) Ai))):PS X st (LS (PJ to ti te)):=PS.imp h λ D σ H ⟨α,σd,st,DD,G,F,P,R,S,t,k⟩=>by
 refine⟨α,σd,st,_,G,F,P,R,S,t,λ d st1 q α1 G1 H1 v s1 P1 S1 r1=>?_⟩;refine⟨α1,σd,st1,_,G1,F,P1,R.step s1,S1,q,λ x st2 q2 α2 G2 H2 v2 s2 P2 S2 r2=>?_⟩;refine⟨α2,σd,st2,_,G2,F,P2,(R.step s1).step s2,S2,q2,λ y st3 q3 α3 G3 H3 v3 s3 P3 S3 r3=>?_⟩;cases x<;>cases y<;>try exact q3.elim
 rename_i n kk;unfold wa at q3;simp only at q3;split at q3
 . rename_i xs e;split at q3
   . rename_i j ej;obtain⟨p,ep,vs,hv,rv⟩:=S3.iZ e;have r2':=cY ep (r2.step s3);subst r2';unfold Rep at r3;have hm:some p∈α3:=UJ ep;have rd:=(r1.step s2).step s3;refine⟨p,vs,kk,j,rfl,r3,P3.get hv,by rw[<-rv.length];exact ej,?_⟩;refine(((k.nx.at s1).at s2).at s3) σd _ q3 α3 (upd G3 p (.lst (vs.set j v))) _ σ (Step.write hm) (P3.write hv) ((((R.step s1).step s2).step s3).step (Step.write hm)) ?_;exact S3.write ep ⟨vs.set j v,bc,(aY.mpr (sS rd j (aY.mp rv))).step (Step.write hm)⟩
   . exact q3.elim
 . exact q3.elim
def uM(c:DT)(tb:DS):DS:=λ D σ st=>∃W:Nat->cy->ag->Prop,(∃m,W m σ st)/\∀m σ st,W m σ st->
 c σ st λ b st1=>if b=true then tb {D with nx:=λ σ' st'=>∃m',m'<m/\W m' σ' st',ct:=λ σ' st'=>∃m',m'<m/\W m' σ' st',bk:=D.nx} σ st1 else D.nx σ st1
theorem IV{tc:DT}(h:PS X st (GO (LT tc) (LS t))):PS X st (LS (uM tc t)):=PS.imp h λ D σ H ⟨α,σd,st,DD,G,F,P,R,S,⟨W,⟨m0,w0⟩,turn⟩,k⟩=>by
 refine⟨λ m σ' H'=>∃α' σd' st' G',Step α G α' G'/\cC G' F H'/\eZ α' G' σd' σ'/\a7 α' st' G'/\W m σd' st',⟨m0,α,σd,st,G,Step.refl,P,R,S,w0⟩,?_⟩;rintro m σ1 H1 ⟨α1,σd1,st1,G1,s1,P1,R1,S1,w1⟩;refine⟨α1,σd1,st1,_,G1,F,P1,R1,S1,turn m σd1 st1 w1,λ b st2 q α2 G2 H2 s2 P2 S2=>?_⟩;cases b with
 |false=>exact((k.nx.at s1).at s2).here P2 q (R1.step s2) S2
 |true=>
  refine⟨λ σ' H'=>∃m',m'<m/\∃α' σd' st' G',Step α G α' G'/\cC G' F H'/\eZ α' G' σd' σ'/\a7 α' st' G'/\W m' σd' st',λ σ' H' z=>z,?_⟩;refine⟨α2,σd1,st2,_,G2,F,P2,R1.step s2,S2,q,?_⟩;refine⟨?_,(k.rt.at s1).at s2,(k.nx.at s1).at s2,?_⟩
  . rintro σd3 st3 ⟨m',hm,w3⟩ α3 G3 H3 σ3 s3 P3 R3 S3;exact⟨m',hm,α3,σd3,st3,G3,(s1.trans s2).trans s3,P3,R3,S3,w3⟩
  . rintro σd3 st3 ⟨m',hm,w3⟩ α3 G3 H3 σ3 s3 P3 R3 S3;exact⟨m',hm,α3,σd3,st3,G3,(s1.trans s2).trans s3,P3,R3,S3,w3⟩
abbrev DI:=cy->ag->(List D->(ag->Prop)->ag->Prop)->Prop
structure uR(J:It)(α:List (Option Addr))(G:Hp)(ok:ag->Prop)(xs:List D):Prop where
 stop:∀(n:Nat) α' G' F' H' st',Step α G α' G'->cC G' F' H'->a7 α' st' G'->ok st'->xs.length<=n->J.stop n H'
 go:∀(n:Nat) d α' G' F' H' st',Step α G α' G'->cC G' F' H'->a7 α' st' G'->ok st'->xs[n]?=some d->J.go n H'
 pK:∀(n:Nat) d α' G' F' H' st' x H'',Step α G α' G'->cC G' F' H'->a7 α' st' G'->ok st'->xs[n]?=some d->J.pK n H' x H''->∃G'',Step α' G' α' G''/\cC G'' F' H''/\a7 α' st' G''/\Rep α' G'' d x
def LI(t:DI):TI:=λ σ H R=>∃α σd st K G F,cC G F H/\eZ α G σd σ/\a7 α st G/\t σd st K/\∀xs ok st1,K xs ok st1->∀J α1 G1 H1,Step α G α1 G1->cC G1 F H1->a7 α1 st1 G1->uR J α1 G1 ok xs->R J H1
def yT(d:D)(st1:ag)(K:List D->(ag->Prop)->ag->Prop):Prop:=match d with
 | .lst xs=>K xs (λ _=>True) st1
 | .tup xs=>K xs (λ _=>True) st1
 | .ref n=>(match st1[n]? with|some (.lst xs)=>K xs (λ st'=>st'[n]?=some (.lst xs)) st1|_=>False)
 |_=>False
def RF(t:DE):DI:=λ σ st K=>t σ st λ d st1=>yT d st1 K
theorem Dl{K:PySem.W.Frag}{a:Addr}{α:List (Option Addr)}{G:Hp}{ok:ag->Prop}{xs:List D}
 (h:∀α' G' st',Step α G α' G'->a7 α' st' G'->ok st'->∃vs,Rd G' a (.lst vs)/\aI α' G' xs vs):uR (NB K a) α G ok xs where
 stop:=λ n α' G' F' H' st' s P S o hn=>by
  obtain⟨vs,h1,h2⟩:=h α' G' st' s S o;exact⟨vs,.inl (gK P h1),by rw[<-h2.length];exact hn⟩
 go:=λ n d α' G' F' H' st' s P S o hn=>by
  obtain⟨vs,h1,h2⟩:=h α' G' st' s S o;obtain⟨v,e,_⟩:=h2.get hn;exact⟨vs,v,.inl (gK P h1),e⟩
 pK:=λ n d α' G' F' H' st' x H'' s P S o hn y=>by
  obtain⟨vs,h1,h2⟩:=h α' G' st' s S o;obtain⟨v,e,r⟩:=h2.get hn;obtain⟨rfl,y⟩:=y;have:=y vs (.inl (gK P h1));rw[e]at this;cases this;exact⟨G',Step.refl,P,S,r⟩
theorem PM{K:PySem.W.Frag}{a:Addr}{α:List (Option Addr)}{G:Hp}{ok:ag->Prop}{xs:List D}
 (h:∀α' G' st',Step α G α' G'->a7 α' st' G'->ok st'->∃vs,G' a=some (.tup vs)/\aI α' G' xs vs):uR (Qb K a) α G ok xs where
 stop:=λ n α' G' F' H' st' s P S o hn=>by
  obtain⟨vs,h1,h2⟩:=h α' G' st' s S o;exact⟨vs,.of (P.get h1),by rw[<-h2.length];exact hn⟩
 go:=λ n d α' G' F' H' st' s P S o hn=>by
  obtain⟨vs,h1,h2⟩:=h α' G' st' s S o;obtain⟨v,e,_⟩:=h2.get hn;exact⟨vs,v,.of (P.get h1),e⟩
 pK:=λ n d α' G' F' H' st' x H'' s P S o hn y=>by
  obtain⟨vs,h1,h2⟩:=h α' G' st' s S o;obtain⟨v,e,r⟩:=h2.get hn;obtain⟨rfl,y⟩:=y;have:=y vs (.of (P.get h1));rw[e]at this;cases this;exact⟨G',Step.refl,P,S,r⟩
theorem IA{α α':List (Option Addr)}{G G':Hp}{a:Addr}{vs:List V}{xs:List D}(s:Step α G α' G')(na:some a∉α)(h1:Rd G a (.lst vs))(h2:aI α G xs vs):Rd G' a (.lst vs)/\aI α' G' xs vs:=by
 refine⟨?_,h2.step s⟩;rcases h1 with h|⟨o,h⟩
 . exact .inl (s.ext _ _ na h)
 . exact .inr ⟨o,s.ext _ _ na h⟩
theorem OX{l tg:Expr}{tl:DE}(hl:PE X l (LE tl)):PI X tg l (LI (RF tl)):=by
 intro pins s σ H R I h;obtain⟨α,σd,st,K,G,F,P,RS,S,t,k⟩:=h;refine b_ (hl pins s σ H (λ x H1=>∃d α1 G1 st1,Step α G α1 G1/\cC G1 F H1/\a7 α1 st1 G1/\Rep α1 G1 d x/\yT d st1 K) I ⟨α,σd,st,_,G,F,P,RS,S,t,λ d st1 q α1 G1 H1 v s1 P1 S1 r1=>⟨d,α1,G1,st1,s1,P1,S1,r1,q⟩⟩) λ v s1 ⟨x,H1,I1,rx,d,α1,G1,st1,s1',P1,S1,r1,q⟩=>?_;unfold yT at q
 have viaL:∀ {a:Addr} {vs:List V},x= .ref a->Rd H1 a (.lst vs)->R (NB X.K a) H1->wpAny (model X.prog X.w) X.A (pyIter v) (Kj X pins σ tg R) X.xe s1:=by
  intro a vs ex hr hR;subst ex;cases rx;obtain⟨its,rv,p,hz⟩:=I1.list (.inl hr);refine X_ p.isList ?_;refine⟨s1.heap.objs.size,[s1.heap.objs.size],_,_,H1,rfl,I1.kept (t':=s1.toks) λ b o e=>Uc _ e,F7 a _,⟨_,Ut _ rfl,rfl,rfl⟩,λ b hb=>?_,hR⟩;have e:b=s1.heap.objs.size:=by simpa using hb
  subst e;exact I1.uE (Ue _) (I1.aO.fresh (Ue _))
 have viaT:∀ {a:Addr} {vs:List V},x= .ref a->H1 a=some (.tup vs)->R (Qb X.K a) H1->wpAny (model X.prog X.w) X.A (pyIter v) (Kj X pins σ tg R) X.xe s1:=by
  intro a vs ex hr hR;subst ex;cases rx;obtain⟨its,rv,p,hz⟩:=I1.tuple (jH.of hr);refine WG (show s1.heap.IsTuple a its.toArray from p) ?_;refine⟨s1.heap.objs.size,[s1.heap.objs.size],_,_,H1,rfl,I1.kept (t':=s1.toks) λ b o e=>Uc _ e,EG a _,⟨_,Ut _ rfl,rfl,rfl⟩,λ b hb=>?_,hR⟩;have e:b=s1.heap.objs.size:=by simpa using hb
  subst e;exact I1.uE (Ue _) (I1.aO.fresh (Ue _))
 cases d<;>try exact q.elim
 . rename_i n;simp only at q;split at q
   . rename_i xs e;obtain⟨a,ea,vs,h1,h2⟩:=S1.iZ e;have r1':=cY ea r1;subst r1';refine viaL rfl (gK P1 (.of h1)) (k _ _ st1 q _ α1 G1 H1 s1' P1 S1 (Dl λ α' G' st' s S o=>?_));obtain⟨b,eb,ws,g1,g2⟩:=S.iZ o
     have hb:b=a:=by
      rcases s.pre _ _ ea with z|z<;>(rw[z]at eb;cases eb)
      rfl
     subst hb;exact⟨ws,.of g1,g2⟩
   . exact q.elim
 . unfold Rep at r1;obtain⟨a,vs,rfl,na,ha,ra⟩:=r1;exact viaL rfl (gK P1 ha) (k _ _ st1 q _ α1 G1 H1 s1' P1 S1 (Dl λ α' G' st' s S o=>⟨vs,IA s na ha ra⟩))
 . unfold Rep at r1;obtain⟨a,vs,rfl,na,ha,ra⟩:=r1;exact viaT rfl (P1.get ha) (k _ _ st1 q _ α1 G1 H1 s1' P1 S1 (PM λ α' G' st' s S o=>⟨vs,s.ext _ _ na ha,ra.step s⟩))
def dq(lo:Int)(n:Nat):List D:=(List.range n).map λ(k:Nat)=>D.int (lo+(k:Int))
theorem xG{lo:Int}{n k:Nat}:(dq lo n)[k]?=if k<n then some (.int (lo+(k:Int)))else none:=by
 unfold dq;rw[Uw];by_cases h:k<n
 . rw[WX h,Ud h];rfl
 . rw[WJ (by simpa using h),Ub h];rfl
theorem g6{lo:Int}{n:Nat}:(dq lo n).length=n:=by unfold dq;simp
theorem Bq{α:List (Option Addr)}{G:Hp}{lo:Int}{n:Nat}:uR (zF lo n) α G (λ _=>True) (dq lo n) where
 stop:=λ m α' G' F' H' st' s P S o hn=>by rw[g6]at hn;exact hn
 go:=λ m d α' G' F' H' st' s P S o hn=>by
  rw[xG]at hn;split at hn
  . assumption
  . cases hn
 pK:=λ m d α' G' F' H' st' x H'' s P S o hn y=>by
  obtain⟨rfl,rfl⟩:=y;rw[xG]at hn;split at hn
  . cases hn;exact⟨G',Step.refl,P,S,by unfold Rep;rfl⟩
  . cases hn
theorem PI.imp{tg iter:Expr}{t t':TI}(h:PI X tg iter t)(f:∀σ H R,t' σ H R->t σ H R):PI X tg iter t':=λ pins s σ H R I q=>h pins s σ H R I (f σ H R q)
def Kp(ds:List D)(st1:ag)(K:List D->(ag->Prop)->ag->Prop):Prop:=match ds with
 | [.int j]=>(-(2^62)<=j/\j<2^62)/\K (dq 0 j.toNat) (λ _=>True) st1
 |_=>False
def Lj(ds:List D)(st1:ag)(K:List D->(ag->Prop)->ag->Prop):Prop:=match ds with
 | [.int i,.int j]=>(-(2^62)<=i/\i<2^62/\ -(2^62)<=j/\j<2^62)/\K (dq i (j-i).toNat) (λ _=>True) st1
 |_=>False
def MI(t:DA):DI:=λ σ st K=>t σ st λ ds st1=>Kp ds st1 K
def Nv(t:DA):DI:=λ σ st K=>t σ st λ ds st1=>Lj ds st1 K
theorem HK{tg iter:Expr}{t:DA}(h:PI X tg iter (FF (LA t))):PI X tg iter (LI (MI t)):=PI.imp h λ σ H R ⟨α,σd,st,K,G,F,P,RS,S,t,k⟩=>by
 refine⟨α,σd,st,_,G,F,P,RS,S,t,λ ds st1 q α1 G1 H1 vs s1 P1 S1 r1=>?_⟩;match ds,q,r1 with
 | [.int j],q,r1=>
   obtain⟨v,rfl,r2⟩:=mv r1 rfl;unfold Rep at r2;subst r2;exact⟨j,rfl,q.1.1,q.1.2,k _ _ st1 q.2 _ α1 G1 H1 s1 P1 S1 Bq⟩
theorem HW{tg iter:Expr}{t:DA}(h:PI X tg iter (EX (LA t))):PI X tg iter (LI (Nv t)):=PI.imp h λ σ H R ⟨α,σd,st,K,G,F,P,RS,S,t,k⟩=>by
 refine⟨α,σd,st,_,G,F,P,RS,S,t,λ ds st1 q α1 G1 H1 vs s1 P1 S1 r1=>?_⟩;match ds,q,r1 with
 | [.int i,.int j],q,r1=>
   obtain⟨v,u,rfl,r2,r3⟩:=qh r1 rfl;unfold Rep at r2 r3;subst r2 r3;exact⟨i,j,rfl,q.1,k _ _ st1 q.2 _ α1 G1 H1 s1 P1 S1 Bq⟩
def jO(tg:ib)(body:DS)(ok:ag->Prop)(E:kQ):List D->cy->ag->Prop
 | [],σ,st=>ok st/\E.nx σ st
 |x::xs,σ,st=>ok st/\∃σ1,tg x σ=some σ1/\body {E with nx:=jO tg body ok E xs,ct:=jO tg body ok E xs,bk:=E.nx} σ1 st
def fj(src:DI)(tg:ib)(body:DS):DS:=λ D σ st=>src σ st λ xs ok st1=>jO tg body ok D xs σ st1
theorem N5{src:DI}{tg:ib}(h:PS X st (OT (LI src) (LG tg) (LS t))):PS X st (LS (fj src tg t)):=PS.imp h λ D σ H ⟨α,σd,st,DD,G,F,P,R,S,tt,k⟩=>by
 refine⟨α,σd,st,_,G,F,P,R,S,tt,λ xs ok st1 q J α1 G1 H1 s1 P1 S1 it=>?_⟩;refine⟨λ i m σ' H'=>∃α' σd' st' G',Step α1 G1 α' G'/\cC G' F H'/\eZ α' G' σd' σ'/\a7 α' st' G'/\jO tg t ok DD (xs.drop i) σd' st'/\m=xs.length-i,⟨xs.length,α1,σd,st1,G1,Step.refl,P1,R.step s1,S1,q,rfl⟩,?_⟩;rintro i m σ2 H2 ⟨α2,σd2,st2,G2,s2,P2,R2,S2,q2,rfl⟩;cases e:xs[i]? with
 |none=>
  have hl:xs.length<=i:=Yk.mp e;rw[V0 hl]at q2;unfold jO at q2;exact .inl ⟨it.stop i α2 G2 F H2 st2 s2 P2 S2 q2.1 hl,((k.nx.at s1).at s2).here P2 q2.2 R2 S2⟩
 |some d=>
  have hl:i<xs.length:=(Ua.mp e).1
  have ed:xs.drop i=d::xs.drop (i+1):=by
   rw[UI hl];congr 1;rw[Uq hl]at e;exact U6 e
  rw[ed]at q2;unfold jO at q2;obtain⟨aO,σ3,e3,q3⟩:=q2;refine .inr ⟨it.go i d α2 G2 F H2 st2 s2 P2 S2 aO e,λ σ' H'=>∃α' σd' st' G',Step α1 G1 α' G'/\cC G' F H'/\eZ α' G' σd' σ'/\a7 α' st' G'/\jO tg t ok DD (xs.drop (i+1)) σd' st',?_,?_⟩
  . rintro σ' H' ⟨α',σd',st',G',z1,z2,z3,z4,z5⟩;exact⟨xs.length-(i+1),by omega,α',σd',st',G',z1,z2,z3,z4,z5,rfl⟩
  . intro x H' y;obtain⟨G3,s3,P3,S3,r3⟩:=it.pK i d α2 G2 F H2 st2 x H' s2 P2 S2 aO e y;refine⟨α2,σd2,st2,d,λ σ' st'=>σ'=σ3/\st'=st2,G3,F,P3,R2.step s3,S3,r3,⟨σ3,e3,rfl,rfl⟩,?_⟩;rintro σ' st' ⟨rfl,rfl⟩ α4 G4 H4 σ4 s4 P4 R4 S4;have s24:=(s2.trans s3).trans s4;refine⟨α4,σ',st',_,G4,F,P4,R4,S4,q3,?_,((k.rt.at s1).at s24),(k.nx.at s1).at s24,?_⟩
    . intro σd5 st5 q5 α5 G5 H5 σ5 s5 P5 R5 S5;exact⟨α5,σd5,st5,G5,s24.trans s5,P5,R5,S5,q5⟩
    . intro σd5 st5 q5 α5 G5 H5 σ5 s5 P5 R5 S5;exact⟨α5,σd5,st5,G5,s24.trans s5,P5,R5,S5,q5⟩
end
def iy(fr:List (Option Nat))(σ:cy):cy:=fr.map λ o=>o.bind λ j=>(σ[j]?).join
theorem eZ.comp{α:List (Option Addr)}{G:Hp}{σd:cy}{σ:L2.St}{fr:List (Option Nat)}(h:eZ α G σd σ):eZ α G (iy fr σd) (σC fr σ):=by
 refine⟨by unfold iy σC;simp,λ i d e=>?_⟩;unfold iy at e;rw[Uw]at e;cases q:fr[i]? with
 |none=>rw[q]at e;cases e
 |some o=>
  rw[q]at e;cases o with
  |none=>simp at e
  |some j=>
   simp only[WE,Option.some.injEq,Option.bind_some]at e
   have ej:σd[j]?=some (some d):=by
    cases r:σd[j]? with
    |none=>rw[r]at e;cases e
    |some u=>rw[r]at e;simp at e;rw[e]
   obtain⟨v,ev,rv⟩:=h.at' j d ej;refine⟨v,?_,rv⟩;unfold σC;rw[Uw,q];simp[ev]
def dG(tg:ib)(c:DT)(te:DE)(ok:ag->Prop)(σc:cy):List D->List D->ag->(List D->ag->Prop)->Prop
 | [],acc,st,K=>ok st/\K acc st
 |x::xs,acc,st,K=>ok st/\∃σ2,tg x σc=some σ2/\c σ2 st λ b st1=>if b=true then te σ2 st1 λ y st2=>dG tg c te ok σc xs (acc++[y]) st2 K else dG tg c te ok σc xs acc st1 K
def fT(src:DI)(fr:List (Option Nat))(tg:ib)(c:DT)(te:DE):DE:=λ σ st K=>src σ st λ xs ok st1=>xs.length<=sizeLine/\dG tg c te ok (iy fr σ) xs [] st1 λ ys st2=>K (.lst ys) st2
def ug(src:DI)(fr:List (Option Nat))(tg:ib)(c:DT)(te:DE):DE:=λ σ st K=>src σ st λ xs ok st1=>xs.length<=sizeLine/\dG tg c te ok (iy fr σ) xs [] st1 λ ys st2=>K (.ref st2.length) (st2++[.lst ys])
def du:DT:=λ _ st K=>K true st
def vS(fr:List (Option Nat))(tg:ib):Prop:=∀(σ:cy) (d:D) (σ2:cy),tg d (iy fr σ)=some σ2->σ2.length=(iy fr σ).length/\∀(i:Nat) (e:D),(iy fr σ)[i]?=some (some e)->σ2[i]?=some (some e)
theorem uD{fr:List (Option Nat)}{σ:cy}{k:Nat}(h:fr[k]?=some none){e:D}(q:(iy fr σ)[k]?=some (some e)):False:=by
 unfold iy at q;rw[Uw,h]at q;simp at q
theorem eK{fr:List (Option Nat)}{k:Nat}(h:fr[k]?=some none:=by rfl):vS fr (bT k):=λ σ d σ2 e=>by
 cases e;refine⟨Us,λ i x q=>?_⟩;by_cases hi:i=k
 . subst hi;exact(uD h q).elim
 . rw[Ug (Ui hi)];exact q
theorem vd{fr:List (Option Nat)}{k j:Nat}(h:fr[k]?=some none:=by rfl)(h':fr[j]?=some none:=by rfl):vS fr (jx k j):=λ σ d σ2 e=>by
 unfold jx at e;split at e
 . cases e;refine⟨by rw[Us,Us],λ i x q=>?_⟩;by_cases hi:i=k
   . subst hi;exact(uD h q).elim
   . by_cases hj:i=j
     . subst hj;exact(uD h' q).elim
     . rw[Ug (Ui hj),Ug (Ui hi)];exact q
 . cases e
section
variable {X:Cx}
theorem Om{c:Expr}{t:DT}(h:PT X c (LT t)):uQ X [c] (LT t):=Ms h
theorem Jf:uQ X [] (LT du):=λ pins s σ H Q I ⟨α,σd,st,K,G,F,P,R,S,t,k⟩=>Ll pins s σ H Q I (k true st t α G H Step.refl P S)
theorem LE.comp{src:DI}{fr:List (Option Nat)}{tg:ib}{c:DT}{te:DE}(fit:vS fr tg){σ:L2.St}{H:Hp}{Q:VK}{α:List (Option Addr)}{σd:cy}{st:ag}{KE:List D->ag->Prop}{G F:Hp}(P:cC G F H)(R:eZ α G σd σ)(S:a7 α st G)
 (t:src σd st λ xs ok st1=>xs.length<=sizeLine/\dG tg c te ok (iy fr σd) xs [] st1 KE)
 (fin:∀ys st2 α2 G2 H2 l vs,KE ys st2->Step α G α2 G2->cC G2 (upd F l (.lst vs)) H2->F l=none->a7 α2 st2 G2->aI α2 G2 ys vs->Q (.ref l) H2):
 xv (LI src) fr (LG tg) (LT c) (LE te) σ H Q:=by
 refine⟨α,σd,st,_,G,F,P,R,S,t,λ xs ok st1 q J α1 G1 H1 s1 P1 S1 it l hl=>?_⟩;obtain⟨hsz,q⟩:=q;obtain⟨hG,hF⟩:=P1.none hl
 refine⟨λ i m σ' H'=>∃α' st' G' acc vs,Step α1 G1 α' G'/\cC G' (upd F l (.lst vs)) H'/\eZ α' G' (iy fr σd) σ'/\a7 α' st' G'/\aI α' G' acc vs/\acc.length<=i/\i<=xs.length/\dG tg c te ok (iy fr σd) (xs.drop i) acc st' KE/\m=xs.length-i,
  ⟨xs.length,α1,st1,G1,[],[],Step.refl,P1.hide hl,(R.step s1).comp,S1,by unfold aI;rfl,Ue _,UK _,q,rfl⟩,?_⟩
 rintro i m σ2 H2 ⟨α2,st2,G2,acc,vs,s2,P2,R2,S2,ra,hacc,hi,q2,rfl⟩;cases e:xs[i]? with
 |none=>
  have hl2:xs.length<=i:=Yk.mp e;rw[V0 hl2]at q2;unfold dG at q2;exact .inl ⟨it.stop i α2 G2 _ H2 st2 s2 P2 S2 q2.1 hl2,fin acc st2 α2 G2 H2 l vs q2.2 (s1.trans s2) P2 hF S2 ra⟩
 |some d=>
  have hl2:i<xs.length:=(Ua.mp e).1
  have ed:xs.drop i=d::xs.drop (i+1):=by
   rw[UI hl2];congr 1;rw[Uq hl2]at e;exact U6 e
  rw[ed]at q2;unfold dG at q2;obtain⟨aO,σ3,e3,q3⟩:=q2;refine .inr ⟨it.go i d α2 G2 _ H2 st2 s2 P2 S2 aO e,λ σ' H'=>∃α' st' G' acc vs,Step α1 G1 α' G'/\cC G' (upd F l (.lst vs)) H'/\eZ α' G' (iy fr σd) σ'/\a7 α' st' G'/\aI α' G' acc vs/\acc.length<=i+1/\dG tg c te ok (iy fr σd) (xs.drop (i+1)) acc st' KE,?_,?_⟩
  . rintro σ' H' ⟨α',st',G',acc',vs',z1,z2,z3,z4,z5,z6,z7⟩;exact⟨xs.length-(i+1),by omega,α',st',G',acc',vs',z1,z2,z3,z4,z5,z6,hl2,z7,rfl⟩
  . intro x H' y;obtain⟨G3,s3,P3,S3,r3⟩:=it.pK i d α2 G2 _ H2 st2 x H' s2 P2 S2 aO e y;refine⟨α2,iy fr σd,st2,d,λ σ' st'=>σ'=σ3/\st'=st2,G3,_,P3,R2.step s3,S3,r3,⟨σ3,e3,rfl,rfl⟩,?_⟩;rintro σ' st' ⟨rfl,rfl⟩ α4 G4 H4 σ4 s4 P4 R4 S4;have s24:=(s2.trans s3).trans s4;have Rc:eZ α4 G4 (iy fr σd) σ4:=⟨by rw[<-(fit σd d σ' e3).1];exact R4.len,λ j z hz=>R4.at' j z ((fit σd d σ' e3).2 j z hz)⟩
    refine⟨α4,σ',st',_,G4,_,P4,R4,S4,q3,λ b st5 q5 α5 G5 H5 s5 P5 S5=>?_⟩;cases b with
    |false=>exact⟨α5,st5,G5,acc,vs,s24.trans s5,P5,Rc.step s5,S5,((ra.step s3).step s4).step s5,by omega,q5⟩
    |true=>
     refine⟨α5,σ',st5,_,G5,_,P5,R4.step s5,S5,q5,λ z st6 q6 α6 G6 H6 v6 s6 P6 S6 r6=>?_⟩;have hr:=(((ra.step s3).step s4).step s5).step s6;refine⟨vs,(P6.frame bc).1,by rw[<-hr.length];omega,α6,st6,G6,acc++[z],vs++[v6],(s24.trans s5).trans s6,?_,(Rc.step s5).step s6,S6,aY.mpr (fw (aY.mp hr) (.cons r6 .nil)),by rw[VN,YM];omega,q6⟩;have:=P6.TC (p:=l) (o':= .lst (vs++[v6])) bc;rw[MS]at this;exact this
theorem O_{scope:Scope}{Nc:List Str}{elt tg iter:Expr}{ifs:List Expr}{pos:Pos}{src:DI}{fr:List (Option Nat)}{dtg:ib}{c:DT}{te:DE}(S:cz X scope Nc fr)(hi:PI X tg iter (LI src))
 (hg:∀C s H ex,PG (gB X scope Nc C s H ex) tg (LG dtg)) (ht:∀C s H ex,uQ (gB X scope Nc C s H ex) ifs (LT c)) (he:∀C s H ex,PE (gB X scope Nc C s H ex) elt (LE te)) (fit:vS fr dtg)
 (hx:X.xe=λ _ _=>False:=by rfl) (hc:X.calm=true:=by rfl) (hs:∀x,foldedSetIterable iter X.env x=pure x:=by intro _;rfl):PE X (.ListComp elt [⟨tg,iter,ifs,0⟩] scope pos) (LE (fT src fr dtg c te)):=
 PE.imp (DF hx hc S hi hg ht he hs) λ σ H Q ⟨α,σd,st,K,G,F,P,R,S,t,k⟩=>LE.comp fit P R S t λ ys st2 α2 G2 H2 l vs q s2 P2 hl S2 r=>by
  have hg:G2 l=none:=(P2.frame bc).2;refine k _ st2 q α2 (upd G2 l (.lst vs)) H2 (.ref l) (s2.trans (Step.laid hg)) (P2.show hl) (S2.laid hg) ?_;unfold Rep;exact⟨l,vs,rfl,S2.kF hg,.of bc,r.step (Step.laid hg)⟩
theorem Nn{scope:Scope}{Nc:List Str}{elt tg iter:Expr}{ifs:List Expr}{pos:Pos}{src:DI}{fr:List (Option Nat)}{dtg:ib}{c:DT}{te:DE}(S:cz X scope Nc fr)(hi:PI X tg iter (LI src))
 (hg:∀C s H ex,PG (gB X scope Nc C s H ex) tg (LG dtg)) (ht:∀C s H ex,uQ (gB X scope Nc C s H ex) ifs (LT c)) (he:∀C s H ex,PE (gB X scope Nc C s H ex) elt (LE te)) (fit:vS fr dtg)
 (hx:X.xe=λ _ _=>False:=by rfl) (hc:X.calm=true:=by rfl) (hs:∀x,foldedSetIterable iter X.env x=pure x:=by intro _;rfl):PE X (.ListComp elt [⟨tg,iter,ifs,0⟩] scope pos) (LE (ug src fr dtg c te)):=
 PE.imp (DF hx hc S hi hg ht he hs) λ σ H Q ⟨α,σd,st,K,G,F,P,R,S,t,k⟩=>LE.comp fit P R S t λ ys st2 α2 G2 H2 l vs q s2 P2 hl S2 r=>by
  have hg:G2 l=none:=(P2.frame bc).2;refine k _ _ q (α2++[some l]) (upd G2 l (.lst vs)) H2 (.ref l) (s2.trans (Step.cell hg)) (P2.show hl) (S2.cell hg ⟨vs,bc,r.step (Step.cell hg)⟩) ?_;unfold Rep;refine .inr ⟨l,?_,rfl⟩;rw[UH (by rw[S2.len];exact Ue _),S2.len,VY];rfl
theorem Mt{st:Stmt}{k:Nat}{src:DI}{fr:List (Option Nat)}{dtg:ib}{c:DT}{te:DE}(fit:vS fr dtg)(h:PS X st (sr (xv (LI src) fr (LG dtg) (LT c) (LE te)) (kO k))):PS X st (LS (aQ k (fT src fr dtg c te))):=
 PS.imp h λ D σ H ⟨α,σd,st,DD,G,F,P,R,S,t,q⟩=>LE.comp fit P R S t λ ys st2 α2 G2 H2 l vs qq s2 P2 hl S2 r=>by
  have hg:G2 l=none:=(P2.frame bc).2;have s3:=s2.trans (Step.laid (o:= .lst vs) hg);refine q.nx _ st2 qq α2 (upd G2 l (.lst vs)) H2 _ s3 (P2.show hl) ((R.step s3).set k ?_) (S2.laid hg);unfold Rep;exact⟨l,vs,rfl,S2.kF hg,.of bc,r.step (Step.laid hg)⟩
def aV(N:List Str)(ds:List D):cy:=ds.map some++List.replicate (N.length-ds.length) none
theorem eZ.start{α:List (Option Addr)}{G:Hp}{N:List Str}{ds:List D}{vs:List V}(r:aI α G ds vs):eZ α G (aV N ds) (L2.start N vs):=by
 have hl:=r.length;refine⟨by unfold aV L2.start;simp[hl],λ i d e=>?_⟩;unfold aV at e;by_cases hi:i<ds.length
 . rw[Uh (by simpa using hi),Uw]at e;cases q:ds[i]? with
   |none=>rw[q]at e;cases e
   |some x=>
    rw[q]at e;cases e;obtain⟨v,ev,rv⟩:=r.get q;refine⟨v,?_,rv⟩;unfold L2.start;rw[Uh (by rw[Uk];omega),Uw,ev];rfl
 . rw[UH (by simpa using hi),Yz]at e;split at e<;>cases e
theorem Ry{P:Program}{w:World}{K:PySem.W.Frag}{mg:Str->Option Value}{base:Heap}{x qual:Str}{st:Stmt}{f:Addr}{fd:FuncData}{N ps:List Str}{k:Nat}{sp:cE}{t:DS}(F:pB K x qual st f fd)(S:aN N ps (ai st))
 (hbody:∀(cdv:Value) (A:Around) (outer:List Env) (s:Shared) (H:Hp) (E:XK),cT k (A.deeper (envOfC qual (ai st) s.heap.objs.size f cdv))->iK (sN cF P w K mg base N qual (ai st) f cdv A outer s H E).xN (gW st) (LS t))
 (hsp:∀ds st K,sp ds st K->ds.length=ps.length/\t {nx:=λ _ st'=>K .aF st',rt:=K} (aV N ds) st):bj P w K mg base cF (k+1) f fd ps (cH sp):=by
 refine F.ok S (λ vs H Q E h=>?_) λ cdv A outer s H vs Q E hr h=>⟨_,hbody cdv A outer s H E hr,?_⟩
 . obtain⟨α,ds,st,K,G,F,P,r,S,q,k⟩:=h;rw[<-r.length];exact(hsp ds st K q).1
 . obtain⟨α,ds,st,K,G,F,P,r,S,q,k⟩:=h;refine⟨α,aV N ds,st,_,G,F,P,eZ.start r,S,(hsp ds st K q).2,?_,k,?_,?_⟩
   . intro σd' st' kk α' G' H' σ' s' P' R' S';exact k .aF st' kk α' G' H' .aF s' P' S' (by unfold Rep;rfl)
   . intro σd' st' kk;exact kk.elim
   . intro σd' st' kk;exact kk.elim
def rg(to te:DE):DE:=λ σ st K=>to σ st λ x st1=>match x with
 | .ref n=>(match st1[n]? with
   |some (.lst _)=>te σ st1 λ y st2=>∃y',[y]=[y']/\(match st2[n]? with|some (.lst xs)=>xs.length<sizeLine/\K .aF (st2.set n (.lst (xs++[y'])))|_=>False)
   |_=>False)
 |_=>False
end
structure bV(K:PySem.W.Frag)(mg:Str->Option Value)(x qual:Str)(st:Stmt)(ps:List Str)(f:Addr)(fd:FuncData):Prop where
 fn:pB K x qual st f fd
 mg:mg x=some (.ref f)
 bd:Binds K fd ps []
def xO(sc:Scope)(N:List Str)(scope:Scope)(Nc:List Str)(fr:List (Option Nat)):Bool:=
 (scope.kind== .function)&&scope.names.all (λ x=>x.2 != .cell||scope.names.lookup x.1==some .cell)&&scope.names.all (λ x=>x.2 != .local||scope.names.lookup x.1==some .local)&&
 scope.names.all (λ x=>x.2 != .free||sc.names.lookup x.1==some .cell||sc.names.lookup x.1==some .free)&&(fr.length==Nc.length)&&
 (List.range fr.length).all λ i=>match fr[i]?,Nc[i]? with
   |some (some j),some x=>(N[j]?==some x)&&(scope.names.lookup x==some .free)&&(sc.names.lookup x==some .cell||sc.names.lookup x==some .free)
   |_,_=>true
theorem cz.look{X:Cx}{scope:Scope}{Nc:List Str}{fr:List (Option Nat)}(sc:Scope)(N:List Str)(h:xO sc N scope Nc fr=true)(hsc:X.env.scope=sc:=by rfl)(hN:X.N=N:=by rfl):cz X scope Nc fr:=by
 unfold xO at h;simp only[Vb]at h;obtain⟨⟨⟨⟨⟨h1,h2⟩,h3⟩,h4⟩,h5⟩,h6⟩:=h;subst hsc hN;refine⟨by simpa using h1,λ x hx hk=>?_,λ x hx hk=>?_,λ x hx hk=>?_,by simpa using h5,λ i j x e1 e2=>?_⟩
 . have:=U_.mp h2 x hx;rw[hk]at this;simpa using this
 . have:=U_.mp h3 x hx;rw[hk]at this;simpa using this
 . have:=U_.mp h4 x hx;rw[hk]at this;have z:X.env.scope.names.lookup x.1=some .cell\/X.env.scope.names.lookup x.1=some .free:=by simpa using this
   exact z
 . have hi:i<fr.length:=(Ua.mp e2).1;have:=U_.mp h6 i (Vt.mpr hi);rw[e1,e2]at this;simp only[Vb,XE,Wg]at this;exact⟨this.1.1,this.1.2,this.2⟩
section
variable {X:Cx}
theorem SY{e:Expr}{es:List Expr}{pos p:Pos}{x:Str}{id:String}{r:ie}{t:DA}(hc:cO X (.builtin id) (jN r))(ha:PA X (e::es) (LA t))(hm:X.mg x=none)(hv:bootBuiltins x=some (.builtin id))(hg:Gl X x:=by rfl)(hn:x≠"__name__":=by decide)(hdb:(x==("__debug__":Str))=false:=by decide)
 (he:starEach (e::es) X.env=(false,eval e X.env)::starEach es X.env:=by rfl) (hpl:(backTo pos (starEach es X.env)).any (·.1)=false:=by rfl):PE X (.Call (.Name x p) (e::es) [] pos) (LE (cP r t)):=PE.imp (Ic hc hg hm hv ha hn hdb he hpl) λ _ _ _ h=>LE.cb h
theorem SX{e:Expr}{es:List Expr}{pos p:Pos}{x:Str}{T:String}{r:ie}{t:DA}(hc:cO X (.type T) (jN r))(ha:PA X (e::es) (LA t))(hm:X.mg x=none)(hv:bootBuiltins x=some (.type T))(hg:Gl X x:=by rfl)(hn:x≠"__name__":=by decide)(hdb:(x==("__debug__":Str))=false:=by decide)
 (he:starEach (e::es) X.env=(false,eval e X.env)::starEach es X.env:=by rfl) (hpl:(backTo pos (starEach es X.env)).any (·.1)=false:=by rfl):PE X (.Call (.Name x p) (e::es) [] pos) (LE (cP r t)):=PE.imp (GL hc hg hm hv ha hn hdb he hpl) λ _ _ _ h=>LE.cb h
theorem SN{pos:Pos}{x:Str}{T:String}(hm:X.mg x=none)(hv:bootBuiltins x=some (.type T))(hg:Gl X x:=by rfl)(hn:x≠"__name__":=by decide)(hdb:(x==("__debug__":Str))=false:=by decide):PE X (.Name x pos) (LE (dC (.ty T))):=
 rJ (v:= .ty T) (MG hg hm hv rfl hn hdb) λ _ _=>by unfold Rep;rfl
theorem S_{e:Expr}{es:List Expr}{pos p:Pos}{x qual:Str}{st:Stmt}{ps:List Str}{f:Addr}{fd:FuncData}{k:Nat}{S:cE}{t:DA}(A:bV X.K X.mg x qual st ps f fd)(F:bj X.prog X.w X.K X.mg X.base cF k f fd ps (cH S))(hr:cT k X.A)
 (ha:PA X (e::es) (LA t)) (hg:Gl X x:=by rfl) (hdb:(x==("__debug__":Str))=false:=by decide) (he:starEach (e::es) X.env=(false,eval e X.env)::starEach es X.env:=by rfl) (hpl:(backTo pos (starEach es X.env)).any (·.1)=false:=by rfl):
 PE X (.Call (.Name x p) (e::es) [] pos) (LE (aJ S t)):=OD F hr hg A.mg A.fn.kp A.bd ha hdb he hpl
theorem Dh{M:Model}{A:Around}{E:Value->Shared->Prop}{s:Shared}{Q:Value->Shared->Prop}{x:V}{v:Value}{b:Bool}(r:RelV x v)(h:Q (.bool (v== .bool b)) s):wpAny M A (compareOp .Is v (.bool b)) Q E s:=by
 cases x
 case bl c=>
  cases r;have e:(Value.bool c==Value.bool b)=(c==b):=by cases c<;>cases b<;>rfl
  rw[e]at h;exact is_bool h
 all_goals first
  |(cases r;exact Ul h)
  |(obtain⟨t,rfl⟩:=r;exact Ul h)
def GX(d:D)(b:Bool):Bool:=match d with| .bl c=>c==b|_=>false
def KI(d:D):Bool:=match d with| .aF=>true|_=>false
def Ko:cZ:=λ x y st K=>match y with| .aF=>live st x=true/\K (.bl (KI x)) st| .bl b=>live st x=true/\K (.bl (GX x b)) st|_=>False
theorem DZ{α:List (Option Addr)}{H:Hp}{st:ag}{d:D}{v:V}{u:Value}{b:Bool}(S:a7 α st H)(hl:live st d=true)(r:Rep α H d v)(ru:RelV v u):(u==Value.bool b)=GX d b:=by
 cases d
 case ref n=>
  obtain⟨a,rfl⟩:=wq S hl r;cases ru;rfl
 all_goals unfold Rep at r
 case bl c=>
  subst r;cases ru;cases c<;>cases b<;>rfl
 all_goals first
  |(subst r;first|(cases ru;rfl)|(obtain⟨t,rfl⟩:=ru;rfl))
  |(obtain⟨a,vs,rfl,_⟩:=r;cases ru;rfl)
theorem QI:cp X (compareOp .Is) (LR Ko):=λ pins s σ H x y v u Q I rx ry ⟨α,d,e,st,K,G,F',P,r1,r2,S,q,k⟩=>by
 cases e<;>try exact q.elim
 . unfold Rep at r2;refine NS pins s σ H x y v u Q I rx ry ⟨r2,k.here P q.2 S ?_⟩;unfold Rep;cases d
   case ref n=>
    obtain⟨a,rfl⟩:=wq S q.1 r1;rfl
   all_goals(unfold Rep at r1;first|(rw[r1];rfl)|(obtain⟨a,vs,rfl,_⟩:=r1;rfl))
 . rename_i b;unfold Rep at r2;subst r2;cases ry;refine Dh rx ?_;rw[DZ S q.1 r1 rx];exact⟨.bl (GX d b),H,I,rfl,k.here P q.2 S (by unfold Rep;rfl)⟩
theorem LE.append{to te:DE}{σ:L2.St}{H:Hp}{Q:VK}(h:LE (rg to te) σ H Q):R0 X.K "list" DN (LE to) (LA (ae te aq)) σ H Q:=by
 obtain⟨α,σd,st,K,G,F,P,R,S,t,k⟩:=h;refine⟨α,σd,st,_,G,F,P,R,S,t,λ x st1 q α1 G1 H1 v s1 P1 S1 r1=>?_⟩;cases x<;>try exact q.elim
 rename_i n;simp only at q;split at q
 . rename_i ys e;obtain⟨p,ep,vs,h1,h2⟩:=S1.iZ e;have r1':=cY ep r1;subst r1';refine⟨.inl ⟨rfl,vs,.inl (.of (P1.get h1))⟩,α1,σd,st1,λ ds st2=>∃y,ds=[y]/\(match st2[n]? with|some (.lst xs)=>xs.length<sizeLine/\K .aF (st2.set n (.lst (xs++[y])))|_=>False),G1,F,P1,R.step s1,S1,?_,?_⟩
   . refine Eq.mp ?_ q;rfl
   . rintro ds st2 ⟨y,rfl,q2⟩ α2 G2 H2 ws s2 P2 S2 r2;obtain⟨w,rfl,rw'⟩:=mv r2 rfl;split at q2
     . rename_i xs e2;obtain⟨p2,ep2,us,g1,g2⟩:=S2.iZ e2
       have:p2=p:=by
        rcases s2.pre _ _ ep with z|z<;>(rw[z]at ep2;cases ep2)
        rfl
       subst this;have hm:some p2∈α2:=UJ ep2;refine⟨p2,us,w,rfl,rfl,P2.get g1,by rw[<-g2.length];exact q2.1,?_⟩;refine((k.at s1).at s2) _ _ q2.2 α2 (upd G2 p2 (.lst (us++[w]))) _ .aF (Step.write hm) (P2.write g1) ?_ (by unfold Rep;rfl);exact S2.write ep2 ⟨us++[w],bc,(aY.mpr (fw (aY.mp g2) (.cons rw' .nil))).step (Step.write hm)⟩
     . exact q2.elim
 . exact q.elim
theorem ID{o e:Expr}{to te:DE}{apos cpos:Pos}(ho:PE X o (LE to))(he:PE X e (LE te))(hbase:attributeBase o "append" X.env (eval o X.env)=eval o X.env:=by rfl)
 (hfew:((backTo cpos (starEach [e] X.env)).all (λ x=> !x.1)&&(backToKw cpos (keywordEach [] X.env)).all (λ x=>x.1.isSome)
   &&decide (([e]:List Expr).length+([]:List Keyword).length+(if([]:List Keyword).isEmpty then 0 else 1)<30))=true:=by rfl)
 (hline:(apos.endLine==cpos.line)=true:=by rfl) (hs:starEach [e] X.env=(false,eval e X.env)::starEach [] X.env:=by rfl) (hplain:(backTo cpos (starEach [] X.env)).any (·.1)=false:=by rfl):PE X (.Call (.Attribute o "append" apos) [e] [] cpos) (LE (rg to te)):=
 PE.imp (QH PySem.F.plainAttrs_list PySem.F.slot_list_append PySem.F.type_list_append zg ho (yO he A3 hs) hbase hfew hline hs hplain) λ _ _ _ h=>LE.append h
end
end L3
namespace L3
open PySem L2
open PySem.Spec hiding items?
open PyProof.Rows hiding St
section
variable {X:Cx}
@[irreducible] def cQ:cZ:=K7
theorem dv:cp X (binaryOp .Add) (LR cQ):=by unfold cQ;exact Qs
@[irreducible] def dM:cZ:=Kh
theorem dU:cp X (binaryOp .Sub) (LR dM):=by unfold dM;exact QA
@[irreducible] def bY:cZ:=Li
theorem cD:cp X (binaryOp .Mult) (LR bY):=by unfold bY;exact QE
@[irreducible] def j7:cZ:=HQ
theorem pQ:cp X (binaryOp .FloorDiv) (LR j7):=by unfold j7;exact PK
@[irreducible] def jW:cZ:=Ky
theorem oP:cp X (binaryOp .Mod) (LR jW):=by unfold jW;exact QY
@[irreducible] def wC:cZ:=Lb
theorem Et:cp X (binaryOp .Pow) (LR wC):=by unfold wC;exact Rg
@[irreducible] def rF:cZ:=NI
theorem yJ:cp X (compareOp .Lt) (LR rF):=by unfold rF;exact SW
@[irreducible] def zw:cZ:=Nx
theorem Th:cp X (compareOp .Gt) (LR zw):=by unfold zw;exact Sz
@[irreducible] def x9:cZ:=OC
theorem PC:cp X (compareOp .GtE) (LR x9):=by unfold x9;exact SA
@[irreducible] def tf:cZ:=Nw
theorem Bh:cp X (compareOp .NotEq) (LR tf):=by unfold tf;exact So
@[irreducible] def Eb:cZ:=Ko
theorem OV:cp X (compareOp .Is) (LR Eb):=by unfold Eb;exact QI
@[irreducible] def lH:cZ:=Qc
theorem oh{k:Nat}(hr:cT k X.A):cp X (compareOp .Eq) (LR lH):=by unfold lH;exact SH hr
@[irreducible] def gH:Cb:=KY
theorem RG:DQ X (unaryOp .USub) (KQ gH):=by unfold gH;exact QL
@[irreducible] def aU:cZ:=sQ
theorem Te{a b:Expr}{ta tb:DE}{pos:Pos}(ha:PE X a (LE ta))(hb:PE X b (LE tb))(hs:u_ b:=by intro _ _;rfl):PE X (.Subscript a b pos) (LE (ak aU ta tb)):=by unfold aU;exact Sn ha hb hs
@[irreducible] def fZ:ie:=An
theorem fV:cO X (.builtin "len") (jN fZ):=by unfold fZ;exact Rr
@[irreducible] def qS:ie:=EY
theorem u5:cO X (.builtin "abs") (jN qS):=by unfold qS;exact QV
@[irreducible] def yP:ie:=EL
theorem KJ(hc:X.calm=true):cO X (.builtin "max") (jN yP):=by unfold yP;exact Rv hc
@[irreducible] def eS:ie:=uZ
theorem fm:cO X (.type "tuple") (jN eS):=by unfold eS;exact LV
@[irreducible] def nj:ie:=xw
theorem rj:cO X (.type "list") (jN nj):=by unfold nj;exact N9
@[irreducible] def uA:ie:=uY
theorem Mv:cO X (.type "list") (jN uA):=by unfold uA;exact Mn
@[irreducible] def AO:ie:=Aw
theorem Rk:cO X (.builtin "isinstance") (jN AO):=by unfold AO;exact Rb
@[irreducible] def qJ:D->ag->(List D->(ag->Prop)->ag->Prop)->Prop:=yT
def g8(t:DE):DI:=λ σ st K=>t σ st λ d st1=>qJ d st1 K
theorem Qd{l tg:Expr}{tl:DE}(hl:PE X l (LE tl)):PI X tg l (LI (g8 tl)):=by unfold g8 qJ;exact OX hl
@[irreducible] def AH:List D->ag->(List D->(ag->Prop)->ag->Prop)->Prop:=Kp
@[irreducible] def Av:List D->ag->(List D->(ag->Prop)->ag->Prop)->Prop:=Lj
def dN(t:DA):DI:=λ σ st K=>t σ st λ ds st1=>AH ds st1 K
def pj(t:DA):DI:=λ σ st K=>t σ st λ ds st1=>Av ds st1 K
theorem HN{tg iter:Expr}{t:DA}(h:PI X tg iter (FF (LA t))):PI X tg iter (LI (dN t)):=by unfold dN AH;exact HK h
theorem GV{tg iter:Expr}{t:DA}(h:PI X tg iter (EX (LA t))):PI X tg iter (LI (pj t)):=by unfold pj Av;exact HW h
@[irreducible] def Fe:D->D->D->ag->(ag->Prop)->Prop:=wa
def fO(to ti te:DE):DS:=λ D σ st=>te σ st λ d st1=>to σ st1 λ x st2=>ti σ st2 λ y st3=>Fe x y d st3 λ st4=>D.nx σ st4
theorem Im{st:Stmt}{to ti te:DE}(h:PS X st (sr (LE te) (E_ (LE to) (LE ti) Ai))):PS X st (LS (fO to ti te)):=by unfold fO Fe;exact JF h
end
section
variable {st:ag}{K:DK}{i j:Int}{b c:Bool}{xs ys:List D}{d e:D}{n:Nat}
theorem c6(k:K (.int (i+j)) st):cQ (.int i) (.int j) st K:=by unfold cQ;exact k
theorem D6(h:xs.length+ys.length<=sizeLine)(k:K (.lst (xs++ys)) st):cQ (.lst xs) (.lst ys) st K:=by unfold cQ;exact⟨h,k⟩
theorem dm(k:K (.int (i-j)) st):dM (.int i) (.int j) st K:=by unfold dM;exact⟨trivial,k⟩
theorem cS(h:IntMulOk i j)(k:K (.int (i*j)) st):bY (.int i) (.int j) st K:=by unfold bY;exact⟨h,k⟩
theorem D4(h: -(2^63)<=i/\i<2^63/\xs.length*i.toNat<=sizeLine)(k:K (.lst (List.replicate i.toNat xs).flatten) st):bY (.lst xs) (.int i) st K:=by unfold bY;exact⟨h,k⟩
theorem mV(h0:j≠0)(h:j.natAbs.log2<9000)(k:K (.int (i.fdiv j)) st):j7 (.int i) (.int j) st K:=by unfold j7;exact⟨⟨h0,h⟩,k⟩
theorem nU(h0:j≠0)(k:K (.int (i.fmod j)) st):jW (.int i) (.int j) st K:=by unfold jW;exact⟨h0,k⟩
theorem Cn(h:Ih i j)(k:K (.int (i^j.toNat)) st):wC (.int i) (.int j) st K:=by unfold wC;exact⟨h,k⟩
theorem FC(k:K (.bl (decide (i<j))) st):rF (.int i) (.int j) st K:=by unfold rF;exact⟨trivial,k⟩
theorem Kf(k:K (.bl (decide (j<i))) st):zw (.int i) (.int j) st K:=by unfold zw;exact⟨trivial,k⟩
theorem Ks(k:K (.bl (decide (j<=i))) st):x9 (.int i) (.int j) st K:=by unfold x9;exact⟨trivial,k⟩
theorem K2(k:K (.bl (!decide (i=j))) st):tf (.int i) (.int j) st K:=by unfold tf;exact k
theorem Cw(h:live st d=true)(k:K (.bl (KI d)) st):Eb d .aF st K:=by unfold Eb;exact⟨h,k⟩
theorem KL(h1:pl 40 d=true)(h2:pl 40 e=true)(k:K (.bl (cU d e)) st):lH d e st K:=by unfold lH;exact⟨h1,h2,k⟩
theorem LH(a b:Int):(a==b)=decide (a=b):=by
 by_cases h:a=b
 . subst h;simp
 . simp[h]
theorem HZ(k:K (.bl (decide (i=j))) st):lH (.int i) (.int j) st K:=by
 refine KL rfl rfl ?_;have:cU (.int i) (.int j)=decide (i=j):=by unfold cU;exact LH i j
 rw[this];exact k
theorem gI(k:K (.int (-i)) st):gH (.int i) st K:=by unfold gH;exact k
theorem IB(h:items? st d=some xs)(a:dY xs i=some e)(k:K e st):sQ d (.int i) st K:=by
 cases d<;>unfold items? at h<;>first
  |(cases h;done)
  |(cases h;simp only[sQ,a];exact k)
  |(simp only at h
    split at h
    . rename_i q;cases h;simp only[sQ,q,a];exact k
    . cases h)
theorem aM(h:items? st d=some xs)(a:dY xs i=some e)(k:K e st):aU d (.int i) st K:=by unfold aU;exact IB h a k
theorem fB(h:items? st d=some xs)(k:K (.int xs.length) st):fZ [d] st K:=by
 unfold fZ An;split
 . rename_i z;cases z;cases h
 . rename_i z;cases z;rw[h];exact k
 . rename_i z1 z2;exact absurd rfl (z2 d)
theorem MU(i:Int):(if i<0 then-i else i)=((i.natAbs:Nat):Int):=by split<;>omega
theorem B_(k:K (.int ((i.natAbs:Nat):Int)) st):qS [.int i] st K:=by unfold qS;show K (.int (if i<0 then-i else i)) st;rw[MU];exact k
theorem HH(k:K (.int (if j>i then j else i)) st):yP [.int i,.int j] st K:=by unfold yP;exact k
theorem eN(h:items? st d=some xs)(k:K (.tup xs) st):eS [d] st K:=by unfold eS uZ;simp only[h];exact k
theorem pe(h:items? st d=some xs)(k:K (.lst xs) st):nj [d] st K:=by unfold nj xw;simp only[h];exact k
theorem IF(h:items? st d=some xs)(k:K (.ref st.length) (st++[.lst xs])):uA [d] st K:=by unfold uA uY;simp only[h];exact k
theorem NV{t c:String}(h:kb st d=some t)(hc:c∈oZ)(k:K (.bl (wG t c)) st):AO [d,.ty c] st K:=by unfold AO Aw;simp only[h];exact⟨hc,k⟩
theorem tY{K:List D->(ag->Prop)->ag->Prop}(h:items? st d=some xs)(k:∀ok:ag->Prop,ok st->K xs ok st):qJ d st K:=by
 unfold qJ yT
 cases d<;>unfold items? at h<;>first
  |(cases h;done)
  |(cases h;exact k _ trivial)
  |(simp only at h
    split at h
    . rename_i q;cases h;simp only[q];exact k _ q
    . cases h)
theorem y_{K:List D->(ag->Prop)->ag->Prop}(k:K xs (λ _=>True) st):qJ (.lst xs) st K:=by unfold qJ;exact k
theorem pk{K:List D->(ag->Prop)->ag->Prop}(k:K xs (λ _=>True) st):qJ (.tup xs) st K:=by unfold qJ;exact k
theorem gO{K:List D->(ag->Prop)->ag->Prop}(h: -(2^62)<=j/\j<2^62)(k:K (dq 0 j.toNat) (λ _=>True) st):AH [.int j] st K:=by unfold AH;exact⟨h,k⟩
theorem yY{K:List D->(ag->Prop)->ag->Prop}(h: -(2^62)<=i/\i<2^62/\ -(2^62)<=j/\j<2^62)(k:K (dq i (j-i).toNat) (λ _=>True) st):Av [.int i,.int j] st K:=by unfold Av;exact⟨h,k⟩
theorem i7{K:ag->Prop}{m:Nat}(h:st[n]?=some (.lst xs))(e:lO xs.length i=some m)(k:K (st.set n (.lst (xs.set m d)))):Fe (.ref n) (.int i) d st K:=by unfold Fe wa;simp only[h,e];exact k
end
def Hw(K:PySem.W.Frag):Bool:=K.all λ p=>p.2.cls != .type "list"
theorem vP{a:Addr}{o:Obj}:∀ {l:List (Addr×Obj)},l.lookup a=some o->(a,o)∈l
 | [],h=>by cases h
 |(b,u)::r,h=>by
  rw[UR]at h;split at h
  . rename_i z;cases h;have:a=b:=by simpa using z
    subst this;exact UB
  . exact Uu _ (vP h)
theorem Ag{K:PySem.W.Frag}(h:Hw K=true){a:Addr}{o:Obj}(e:K.lookup a=some o):o.cls≠ .type "list":=by
 have:=U_.mp h (a,o) (vP e);simpa using this
theorem zN{α:List (Option Addr)}{G:Hp}:∀ns:List Int,aI α G (ns.map D.int) (ns.map V.int)
 | []=>by unfold aI;rfl
 |n::ns=>by
  rw[UP,UP];unfold aI;exact⟨_,_,rfl,by unfold Rep;rfl,zN ns⟩
def notStar:Expr->Bool
 | .Starred .. =>false
 |_=>true
theorem cM{e:Expr}{es:List Expr}{env:Env}(h:notStar e=true):starEach (e::es) env=(false,eval e env)::starEach es env:=by
 cases e<;>first|rfl|cases h
def gS:List Expr->Bool
 | []=>true
 |e::es=>notStar e&&gS es
theorem kT{pos:Pos}{env:Env}:∀ {es:List Expr},gS es=true->(backTo pos (starEach es env)).any (·.1)=false
 | [],_=>rfl
 |e::es,h=>by
  unfold gS at h;rw[Vb]at h;rw[cM h.1];have ih:=kT (pos:=pos) (env:=env) h.2;unfold backTo at ih⊢;rw[UP,List.any_cons,ih];rfl
def p8:Expr->Bool
 | .Slice .. =>false
 |_=>true
def tL:Expr->Bool
 | .Name .. =>true
 | .Call .. =>true
 | .Subscript .. =>true
 | .Attribute .. =>true
 |_=>false
def mE:Expr->Bool
 | .ListComp .. =>false
 | .SetComp .. =>false
 | .DictComp .. =>false
 |_=>true
section
variable {X:Cx}
theorem Io{b:Expr}(h:p8 b=true):u_ b:=by
 intro o i;cases b<;>first|rfl|cases h
theorem Ff{e:Expr}(h:tL e=true):∀whole,isTrue e X.env whole=(do let v <-whole;standAt e.pos;holding [v] (truthy v)):=by
 intro whole;cases e<;>first|(cases h;done)|rfl
theorem ym{e:Expr}{tg:Option Expr}{n:Nat}{env:Env}(h:mE e=true):swapsWith e tg n env=pure false:=by
 cases e<;>first|(cases h;done)|rfl
theorem Ik{e:Expr}{es:List Expr}{te:DE}{tr:DA}(ha:PE X e (LE te))(hr:PA X es (LA tr))(hs:notStar e=true:=by rfl):PA X (e::es) (LA (ae te tr)):=yO ha hr (cM hs)
theorem Rl{e:Expr}{es:List Expr}{pos p:Pos}{x:Str}{id:String}{r:ie}{t:DA}(hc:cO X (.builtin id) (jN r))(ha:PA X (e::es) (LA t))(hm:X.mg x=none)(hv:bootBuiltins x=some (.builtin id))(hn:x≠"__name__")(hdb:(x==("__debug__":Str))=false)(hg:Gl X x:=by rfl)(hs:notStar e=true:=by rfl)(hs2:gS es=true:=by rfl):
 PE X (.Call (.Name x p) (e::es) [] pos) (LE (cP r t)):=SY hc ha hm hv hg hn hdb (cM hs) (kT hs2)
theorem QS{e:Expr}{es:List Expr}{pos p:Pos}{x:Str}{T:String}{r:ie}{t:DA}(hc:cO X (.type T) (jN r))(ha:PA X (e::es) (LA t))(hm:X.mg x=none)(hv:bootBuiltins x=some (.type T))(hn:x≠"__name__")(hdb:(x==("__debug__":Str))=false)(hg:Gl X x:=by rfl)(hs:notStar e=true:=by rfl)(hs2:gS es=true:=by rfl):
 PE X (.Call (.Name x p) (e::es) [] pos) (LE (cP r t)):=SX hc ha hm hv hg hn hdb (cM hs) (kT hs2)
theorem Qx{e:Expr}{es:List Expr}{pos p:Pos}{x qual:Str}{st:Stmt}{ps:List Str}{f:Addr}{fd:FuncData}{k:Nat}{S:cE}{t:DA}(A:bV X.K X.mg x qual st ps f fd)(F:bj X.prog X.w X.K X.mg X.base cF k f fd ps (cH S))(hr:cT k X.A)
 (ha:PA X (e::es) (LA t)) (hdb:(x==("__debug__":Str))=false) (hg:Gl X x:=by rfl) (hs:notStar e=true:=by rfl) (hs2:gS es=true:=by rfl):
 PE X (.Call (.Name x p) (e::es) [] pos) (LE (aJ S t)):=S_ A F hr ha hg hdb (cM hs) (kT hs2)
theorem Qr{a b:Expr}{ta tb:DE}{pos:Pos}(ha:PE X a (LE ta))(hb:PE X b (LE tb))(hs:p8 b=true:=by rfl):PE X (.Subscript a b pos) (LE (ak aU ta tb)):=Te ha hb (Io hs)
theorem Np{e:Expr}{te:DE}(he:PE X e (LE te))(h:tL e=true:=by rfl):PT X e (LT (cK te)):=Ot he (Ff h)
theorem Jl{e:Expr}{te:DE}{pos:Pos}(he:PE X e (LE te))(h:mE e=true:=by rfl):PS X (.Expr e pos) (LS (fh te)):=Ml he (ym h)
theorem Mc{i:Nat}{x:Str}{e:Expr}{te:TE}{pos pos':Pos}(hN:X.N.Nodup)(hi:X.N[i]?=some x)(hx:Loc X.env.scope x)(he:PE X e te)(hf:X.fn x=true\/X.env.scope.names.lookup x=some .local:=by first|exact .inl rfl|exact .inr rfl)(h:mE e=true:=by rfl):
 PS X (.Assign [.Name x pos'] e pos) (sr te (kO i)):=OW hN hi hx he (ym h) hf
theorem MC{i:Nat}{x:Str}{pos:Pos}(hd:(x==("__debug__":Str))=false)(hcd:(x==("__classdict__":Str))=false)(hv:AZ X.env.scope x)(hN:X.N[i]?=some x:=by rfl):PE X (.Name x pos) (LE (aa i)):=QW (Ox hN hv hd hcd)
theorem O3{o i e:Expr}{to ti te:TE}{pos pos':Pos}(he:PE X e te)(ho:PE X o to)(hi:PE X i ti)(h1:mE e=true:=by rfl)(h2:p8 i=true:=by rfl):PS X (.Assign [.Subscript o i pos'] e pos) (sr te (E_ to ti Ai)):=
 Pa he (Ol ho hi set_list (by intro v;cases i<;>first|rfl|cases h2)) (by unfold swapsWithSole;exact ym h1) (by cases e<;>rfl) rfl
end
@[irreducible] def JE(X:Cx)(e:Expr)(t:DE):Prop:=PE X e (LE t)
@[irreducible] def JT(X:Cx)(e:Expr)(t:DT):Prop:=PT X e (LT t)
@[irreducible] def JW(X:Cx)(e:Expr)(t:DT):Prop:=PW X e (LT t)
@[irreducible] def JA(X:Cx)(es:List Expr)(t:DA):Prop:=PA X es (LA t)
@[irreducible] def JS(X:Cx)(s:Stmt)(t:DS):Prop:=PS X s (LS t)
@[irreducible] def JB(X:Cx)(s:List Stmt)(t:DS):Prop:=iK X s (LS t)
@[irreducible] def JG(X:Cx)(e:Expr)(t:ib):Prop:=PG X e (LG t)
@[irreducible] def JI(X:Cx)(tg e:Expr)(t:DI):Prop:=PI X tg e (LI t)
@[irreducible] def JC(X:Cx)(es:List Expr)(t:DT):Prop:=uQ X es (LT t)
section
variable {X:Cx}{a b c e o i:Expr}{es:List Expr}{ta tb tc te to ti:DE}{t u:DT}{ar:DA}{pos p pos':Pos}{s:Stmt}{ss:List Stmt}{T U:DS}
theorem GS{n:Nat}{x:Str}(hd:(x==("__debug__":Str))=false)(hcd:(x==("__classdict__":Str))=false)(hv:AZ X.env.scope x)(hN:X.N[n]?=some x:=by rfl):JE X (.Name x pos) (aa n):=by unfold JE;exact MC hd hcd hv hN
theorem Tr{x:Str}{T:String}(hm:X.mg x=none)(hv:bootBuiltins x=some (.type T))(hn:x≠"__name__")(hdb:(x==("__debug__":Str))=false)(hg:Gl X x):JE X (.Name x pos) (dC (.ty T)):=by unfold JE;exact SN hm hv hg hn hdb
theorem av{k:Int}{j:Nat}:JE X (.Constant (.int k) j pos) (dC (.int k)):=by unfold JE;exact RD
theorem yo{k:Bool}{j:Nat}:JE X (.Constant (.bool k) j pos) (dC (.bl k)):=by unfold JE;exact Su
theorem Ek{k:Str}{j:Nat}:JE X (.Constant (.str k) j pos) (dC (.str k)):=by unfold JE;exact Qu
theorem xQ{j:Nat}:JE X (.Constant .none j pos) (dC .aF):=by unfold JE;exact Rn
theorem aG{op:Operator}{r:cZ}(ho:cp X (binaryOp op) (LR r))(ha:JE X a ta)(hb:JE X b tb):JE X (.BinOp a op b pos) (ak r ta tb):=by unfold JE at*;exact S0 ho ha hb
theorem gM(ha:JE X a ta):JE X (.UnaryOp .USub a pos) (kD gH ta):=by unfold JE at*;exact Tg RG ha
theorem KP{op:CmpOp}{r:cZ}(ho:cp X (compareOp op) (LR r))(hm:behindInMarks op b=false)(ha:JE X a ta)(hb:JE X b tb):JE X (.Compare a [op] [b] pos) (ak r ta tb):=by unfold JE at*;exact Qp ho ha hb hm
theorem Kq(hc:JT X c t)(ha:JE X a ta)(hb:JE X b tb):JE X (.IfExp c a b pos) (Kw t ta tb):=by unfold JE at*;unfold JT at hc;exact Rp hc ha hb
theorem oX{n:Nat}(h:JA X es ar):JE X (.Tuple es n pos) (p9 ar):=by unfold JE;unfold JA at h;exact Qo h
theorem m7(h:JA X es ar):JE X (.List es pos) (mr ar):=by unfold JE;unfold JA at h;exact Q0 h
theorem oM(h:JA X es ar):JE X (.List es pos) (og ar):=by unfold JE;unfold JA at h;exact Qi h
theorem aj:JA X [] aq:=by unfold JA;exact A3
theorem ab(ha:JE X e te)(hr:JA X es ar)(hs:notStar e=true:=by rfl):JA X (e::es) (ae te ar):=by unfold JA at*;unfold JE at ha;exact Ik ha hr hs
theorem aL(ha:JE X a ta)(hb:JE X b tb)(hs:p8 b=true:=by rfl):JE X (.Subscript a b pos) (ak aU ta tb):=by unfold JE at*;exact Qr ha hb hs
theorem eH{x:Str}{id:String}{r:ie}(hc:cO X (.builtin id) (jN r))(ha:JA X (e::es) ar)(hm:X.mg x=none)(hv:bootBuiltins x=some (.builtin id))(hn:x≠"__name__")(hdb:(x==("__debug__":Str))=false)(hg:Gl X x)(hs:notStar e=true:=by rfl)(hs2:gS es=true:=by rfl):JE X (.Call (.Name x p) (e::es) [] pos) (cP r ar):=by
 unfold JE;unfold JA at ha;exact Rl hc ha hm hv hn hdb hg hs hs2
theorem gE{x:Str}{T:String}{r:ie}(hc:cO X (.type T) (jN r))(ha:JA X (e::es) ar)(hm:X.mg x=none)(hv:bootBuiltins x=some (.type T))(hn:x≠"__name__")(hdb:(x==("__debug__":Str))=false)(hg:Gl X x)(hs:notStar e=true:=by rfl)(hs2:gS es=true:=by rfl):JE X (.Call (.Name x p) (e::es) [] pos) (cP r ar):=by
 unfold JE;unfold JA at ha;exact QS hc ha hm hv hn hdb hg hs hs2
theorem bf{x qual:Str}{st:Stmt}{ps:List Str}{f:Addr}{fd:FuncData}{k:Nat}{S:cE}(A:bV X.K X.mg x qual st ps f fd)(F:bj X.prog X.w X.K X.mg X.base cF k f fd ps (cH S))(hr:cT k X.A)(ha:JA X (e::es) ar)(hdb:(x==("__debug__":Str))=false)(hg:Gl X x)(hs:notStar e=true:=by rfl)(hs2:gS es=true:=by rfl):
 JE X (.Call (.Name x p) (e::es) [] pos) (aJ S ar):=by unfold JE;unfold JA at ha;exact Qx A F hr ha hdb hg hs hs2
theorem IW{apos cpos:Pos}(ho:JE X o to)(he:JE X e te)(hbase:attributeBase o "append" X.env (eval o X.env)=eval o X.env:=by rfl)(hline:(apos.endLine==cpos.line)=true:=by rfl)(hs:notStar e=true:=by rfl):JE X (.Call (.Attribute o "append" apos) [e] [] cpos) (rg to te):=by
 unfold JE at*;refine ID ho he hbase ?_ hline (cM hs) rfl;rw[cM hs];rfl
theorem cR{op:CmpOp}{r:cZ}(ho:cp X (compareOp op) (LR r))(hm:behindInMarks op b=false)(ha:JE X a ta)(hb:JE X b tb):JT X (.Compare a [op] [b] pos) (cK (ak r ta tb)):=by unfold JE at*;unfold JT;exact OY ho ha hb hm
theorem FT(ha:JT X a t):JT X (.UnaryOp .Not a pos) (Am t):=by unfold JT at*;exact OF ha
theorem xo(he:JE X e te)(h:tL e=true:=by rfl):JT X e (cK te):=by unfold JT;unfold JE at he;exact Np he h
theorem Mg(ha:JT X a t):JW X (.BoolOp .And [a] pos) t:=by unfold JW;unfold JT at ha;exact L_ ha
theorem Gp(ha:JT X a t):JW X (.BoolOp .Or [a] pos) t:=by unfold JW;unfold JT at ha;exact Oi ha
theorem Oo(ha:JT X a t)(hb:JW X (.BoolOp .And (b::es) pos) u):JW X (.BoolOp .And (a::b::es) pos) (AD t u):=by unfold JW at*;unfold JT at ha;exact NZ ha hb
theorem As(ha:JT X a t)(hb:JW X (.BoolOp .Or (b::es) pos) u):JW X (.BoolOp .Or (a::b::es) pos) (v_ t u):=by unfold JW at*;unfold JT at ha;exact Q6 ha hb
theorem ER(h:JW X e t):JT X e t:=by unfold JT;unfold JW at h;exact PW.pt h
theorem jt{l tg:Expr}(hl:JE X l ta):JI X tg l (g8 ta):=by unfold JI;unfold JE at hl;exact Qd hl
theorem fW{tg:Expr}(hg:Gl X "range")(hm:X.mg "range"=none)(ha:JA X [a] ar)(hs:notStar a=true:=by rfl):JI X tg (.Call (.Name "range" p) [a] [] pos) (dN ar):=by unfold JI;unfold JA at ha;exact HN (G8 hg hm ha (cM hs))
theorem wI{tg:Expr}(hg:Gl X "range")(hm:X.mg "range"=none)(ha:JA X [a,b] ar)(hs:notStar a=true:=by rfl)(hs2:notStar b=true:=by rfl):JI X tg (.Call (.Name "range" p) [a,b] [] pos) (pj ar):=by unfold JI;unfold JA at ha;exact GV (Hl hg hm ha (by rw[cM hs,cM hs2];rfl) (cM hs2))
theorem eJ{k:Nat}{x:Str}(hN:X.N.Nodup)(hx:Loc X.env.scope x:=by first|exact Or.inl rfl|exact Or.inr rfl)(hf:X.fn x=true\/X.env.scope.names.lookup x=some .local:=by first|exact .inl rfl|exact .inr rfl)(hi:X.N[k]?=some x:=by rfl):JG X (.Name x pos) (bT k):=by unfold JG;exact MQ (o9 hN hi hx hf)
theorem oC{k j n:Nat}{x y:Str}{px py:Pos}(hc:X.calm=true)(hN:X.N.Nodup)(hx:Loc X.env.scope x:=by first|exact Or.inl rfl|exact Or.inr rfl)(hf:X.fn x=true\/X.env.scope.names.lookup x=some .local:=by first|exact .inl rfl|exact .inr rfl)(hy:Loc X.env.scope y:=by first|exact Or.inl rfl|exact Or.inr rfl)(hg:X.fn y=true\/X.env.scope.names.lookup y=some .local:=by first|exact .inl rfl|exact .inr rfl)(hi:X.N[k]?=some x:=by rfl)(hj:X.N[j]?=some y:=by rfl):
 JG X (.Tuple [.Name x px,.Name y py] n pos) (jx k j):=by unfold JG;exact Og (F8 hc (pC (o9 hN hi hx hf) (pC (o9 hN hj hy hg) DV)))
theorem d4:JC X [] du:=by unfold JC;exact Jf
theorem OB(h:JT X c t):JC X [c] t:=by unfold JC;unfold JT at h;exact Om h
theorem iE{scope:Scope}{Nc:List Str}{elt tg iter:Expr}{ifs:List Expr}{src:DI}{fr:List (Option Nat)}{dtg:ib}(S:cz X scope Nc fr)(hi:JI X tg iter src)(hg:∀C s H ex,JG (gB X scope Nc C s H ex) tg dtg)(ht:∀C s H ex,JC (gB X scope Nc C s H ex) ifs t)(he:∀C s H ex,JE (gB X scope Nc C s H ex) elt te)(fit:vS fr dtg)
 (hx:X.xe=λ _ _=>False:=by rfl) (hc:X.calm=true:=by rfl) (hs:∀x,foldedSetIterable iter X.env x=pure x:=by intro _;rfl):JE X (.ListComp elt [⟨tg,iter,ifs,0⟩] scope pos) (fT src fr dtg t te):=by
 unfold JE JI JG JC at*;exact O_ S hi hg ht he fit hx hc hs
theorem yB{scope:Scope}{Nc:List Str}{elt tg iter:Expr}{ifs:List Expr}{src:DI}{fr:List (Option Nat)}{dtg:ib}(S:cz X scope Nc fr)(hi:JI X tg iter src)(hg:∀C s H ex,JG (gB X scope Nc C s H ex) tg dtg)(ht:∀C s H ex,JC (gB X scope Nc C s H ex) ifs t)(he:∀C s H ex,JE (gB X scope Nc C s H ex) elt te)(fit:vS fr dtg)
 (hx:X.xe=λ _ _=>False:=by rfl) (hc:X.calm=true:=by rfl) (hs:∀x,foldedSetIterable iter X.env x=pure x:=by intro _;rfl):JE X (.ListComp elt [⟨tg,iter,ifs,0⟩] scope pos) (ug src fr dtg t te):=by
 unfold JE JI JG JC at*;exact Nn S hi hg ht he fit hx hc hs
theorem d_:JB X [] e_:=by unfold JB;exact LL
theorem az(h:JS X s T):JB X [s] T:=by unfold JB;unfold JS at h;exact MZ h
theorem ao(h:JS X s T)(h2:JB X ss U):JB X (s::ss) (aA T U):=by unfold JB at*;unfold JS at h;exact I_ h h2
theorem C8:JS X (.Continue pos) Er:=by unfold JS;exact Dd
theorem a9(h:JE X e te):JS X (.Return (some e) pos) (bK te):=by unfold JS;unfold JE at h;exact NX h
theorem MO:JS X (.Return none pos) Fp:=by unfold JS;exact Mb
theorem dH(h:JE X e te)(hc:mE e=true:=by rfl):JS X (.Expr e pos) (fh te):=by unfold JS;unfold JE at h;exact Jl h hc
theorem fy{x y:List Stmt}(hc:JT X c t)(ha:JB X x T)(hb:JB X y U):JS X (.If c x y pos) (gj t T U):=by unfold JS;unfold JB at*;unfold JT at hc;exact Q9 hc ha hb
theorem wL{x:List Stmt}(hc:JT X c t)(hb:JB X x T)(hx:X.xe=λ _ _=>False:=by rfl):JS X (.While c x [] pos) (uM t T):=by unfold JS;unfold JB at hb;unfold JT at hc;exact IV (JH (by rw[hx];exact PassesOwn.never) hc hb)
theorem dR{tg iter:Expr}{x:List Stmt}{src:DI}{dtg:ib}(hi:JI X tg iter src)(hg:JG X tg dtg)(hb:JB X x T)(hx:X.xe=λ _ _=>False:=by rfl)(hc:X.calm=true:=by rfl)(hs:∀x,foldedSetIterable iter X.env x=pure x:=by intro _;rfl):JS X (.For tg iter x [] pos) (fj src dtg T):=by
 unfold JS;unfold JI at hi;unfold JG at hg;unfold JB at hb;exact N5 (N7 (by rw[hx];exact PassesOwn.never) hc hi hg hb hs)
theorem aH{k:Nat}{x:Str}(hN:X.N.Nodup)(hx:Loc X.env.scope x)(he:JE X e te)(hf:X.fn x=true\/X.env.scope.names.lookup x=some .local:=by first|exact .inl rfl|exact .inr rfl)(h:mE e=true:=by rfl)(hi:X.N[k]?=some x:=by rfl):JS X (.Assign [.Name x pos'] e pos) (aQ k te):=by
 unfold JS;unfold JE at he;exact P_ (Mc hN hi hx he hf h)
theorem yZ{scope:Scope}{Nc:List Str}{elt tg iter:Expr}{ifs:List Expr}{src:DI}{fr:List (Option Nat)}{dtg:ib}{k:Nat}{x:Str}(hN:X.N.Nodup)(hl:Loc X.env.scope x)(S:cz X scope Nc fr)(hi:JI X tg iter src)(hg:∀C s H ex,JG (gB X scope Nc C s H ex) tg dtg)(ht:∀C s H ex,JC (gB X scope Nc C s H ex) ifs t)(he:∀C s H ex,JE (gB X scope Nc C s H ex) elt te)(fit:vS fr dtg)
 (hf:X.fn x=true\/X.env.scope.names.lookup x=some .local:=by first|exact .inl rfl|exact .inr rfl) (hsw:swapsWith (.ListComp elt [⟨tg,iter,ifs,0⟩] scope p) (some (.Name x pos')) pos.line X.env=pure true:=by rfl) (hni:X.N[k]?=some x:=by rfl) (hx:X.xe=λ _ _=>False:=by rfl) (hc:X.calm=true:=by rfl) (hs:∀x,foldedSetIterable iter X.env x=pure x:=by intro _;rfl):
 JS X (.Assign [.Name x pos'] (.ListComp elt [⟨tg,iter,ifs,0⟩] scope p) pos) (aQ k (fT src fr dtg t te)):=by
 unfold JS;unfold JE JI JG JC at*;exact Mt fit (LD hx hc S hi hg ht he hN hni hl hf hsw hs)
theorem ff(he:JE X e te)(ho:JE X o to)(hi:JE X i ti)(h1:mE e=true:=by rfl)(h2:p8 i=true:=by rfl):JS X (.Assign [.Subscript o i pos'] e pos) (fO to ti te):=by unfold JS;unfold JE at*;exact Im (O3 he ho hi h1 h2)
theorem HC{k:Nat}{x:Str}{op:Operator}{f:Int->Int->Int}(hN:X.N.Nodup)(hx:Loc X.env.scope x)(he:JE X e te)(ho:BV X op (D_ f))(hf:X.fn x=true\/X.env.scope.names.lookup x=some .local:=by first|exact .inl rfl|exact .inr rfl)(hi:X.N[k]?=some x:=by rfl):JS X (.AugAssign (.Name x pos') op e pos) (Ce k (xi f) te):=by
 unfold JS;unfold JE at he;exact N3 (OO hN hi hx he ho hf)
theorem PQ{k j kt k2:Nat}{x y:Str}{px py pt pt2:Pos}(hN:X.N.Nodup)(hij:k≠j)(hx:X.env.scope.names.lookup x=some .local)(hy:X.env.scope.names.lookup y=some .local)(ha:JA X [a,b] ar)
 (hw:swappedStores [.Tuple [.Name x px,.Name y py] kt pt] (.Tuple [a,b] k2 pt2) X.env=pure (some [x,y]):=by rfl) (hc:X.calm=true:=by rfl) (hi:X.N[k]?=some x:=by rfl) (hj:X.N[j]?=some y:=by rfl) (hs:swapsWithSole [.Tuple [.Name x px,.Name y py] kt pt] (.Tuple [a,b] k2 pt2) pos.line X.env=pure false:=by rfl):
 JS X (.Assign [.Tuple [.Name x px,.Name y py] kt pt] (.Tuple [a,b] k2 pt2) pos) (Jo k j ar):=by unfold JS;unfold JA at ha;exact OE (NP hc hN hi hj hij hx hy ha hw hs)
end
theorem bI{P:Program}{w:World}{K:PySem.W.Frag}{mg:Str->Option Value}{base:Heap}{x qual:Str}{st:Stmt}{f:Addr}{fd:FuncData}{N ps:List Str}{k:Nat}{sp:cE}{t:DS}(F:pB K x qual st f fd)(S:aN N ps (ai st))
 (hbody:∀(cdv:Value) (A:Around) (outer:List Env) (s:Shared) (H:Hp) (E:XK),cT k (A.deeper (envOfC qual (ai st) s.heap.objs.size f cdv))->JB (sN cF P w K mg base N qual (ai st) f cdv A outer s H E).xN (gW st) t)
 (hsp:∀ds st K,sp ds st K->ds.length=ps.length/\t {nx:=λ _ st'=>K .aF st',rt:=K} (aV N ds) st):bj P w K mg base cF (k+1) f fd ps (cH sp):=by
 unfold JB at hbody;exact Ry F S hbody hsp
end L3
namespace HT
open PySem PyProof.Rows
section
variable {prog:Program}{w:World}{A:Around}{E:Value->Shared->Prop}{s:Shared}
theorem tE{t sl:Addr}{items:Array Value}{vl vu:Value}{lo hi:Option Int}{Q:Value->Shared->Prop}(ht:IsTup s.heap t items)(hs:s.heap.IsSliceOf sl vl vu .none)(pl:IsPart vl lo)(pu:IsPart vu hi)
 (hw:cB items.size 0 lo=0/\cB items.size items.size hi=items.size) (h:Q (.ref t) s):wpAny (model prog w) A (getItem (.ref t) (.ref sl)) Q E s:=by
 obtain⟨os,hos,hcs,hds⟩:=id hs;have hTs:s.TypeIs (.ref sl) "slice":=⟨os,hos,hcs⟩
 unfold getItem;try with_reducible refine WA ?_
 first|refine T_ (Ul ?_)|skip
 refine T_ (wpAny_sequenceKey ht.typeIs (by decide) ?_)
 refine T_ (Vh (name:=Str.ofString "__getitem__") ht.typeIs Vs
  (VO Vs ht.typeIs entry_tuple_getitem ?_ (args_tuple_getitem _ _)))
 show wpAny _ _ (Builtin.Tuple.tupleItemsOf (.ref t) >>= _) _ _ s;refine T_ (tupleItemsOf_ ht ?_);refine T_ (Y3 hTs ?_);rw[Ud (by decide)];refine T_ (pP hs pl pu ?_)
 have hyes:(((cB items.size 0 lo:Nat):Int)==0&&(1:Int)==1&&(cB items.size items.size hi-cB items.size 0 lo)==items.size)=true:=by
  rw[hw.1,hw.2];simp
 show wpAny _ _ (if(((cB items.size 0 lo:Nat):Int)==0&&(1:Int)==1&&(cB items.size items.size hi-cB items.size 0 lo)==items.size)=true then _ else _) _ _ s;rw[Ud hyes];refine T_ ?_;unfold Builtin.Tuple.tupleIsExact;exact T_ (Y3 ht.typeIs (Ul (T_ (WQ (Ul ⟨_,rfl,Ul h⟩)))))
end
end HT
namespace L3
open PySem L2
open PySem.Spec hiding items?
open PyProof.Rows hiding St
abbrev DO:=cy->ag->(Option Int->ag->Prop)->Prop
def j6:DO:=λ _ st K=>K none st
def mx(t:DE):DO:=λ σ st K=>t σ st λ d st1=>match d with| .int i=>K (some i) st1|_=>False
def cutD(xs:List D)(lo hi:Option Int):List D:=(xs.drop (HT.cB xs.length 0 lo)).take (HT.cB xs.length xs.length hi-HT.cB xs.length 0 lo)
def BW(d:D)(lo hi:Option Int)(st:ag)(K:DK):Prop:=match d with
 | .lst xs=>K (.lst (cutD xs lo hi)) st
 | .tup xs=>K (.tup (cutD xs lo hi)) st
 | .ref n=>(match st[n]? with|some (.lst xs)=>K (.lst (cutD xs lo hi)) st|_=>False)
 |_=>False
@[irreducible] def l7:D->Option Int->Option Int->ag->DK->Prop:=BW
def ky(t:DE)(lo hi:DO):DE:=λ σ st K=>t σ st λ d st1=>lo σ st1 λ l st2=>hi σ st2 λ u st3=>l7 d l u st3 K
theorem wX{α:List (Option Addr)}{G:Hp}{xs:List D}{vs:List V}{lo hi:Option Int}(r:aI α G xs vs):aI α G (cutD xs lo hi) (sd vs lo hi):=by
 unfold cutD sd;rw[<-r.length];exact aY.mpr (vM _ (vU _ (aY.mp r)))
def TU(α:List (Option Addr))(G F:Hp)(K:Option Int->ag->Prop)(Q:Option Int->Hp->Prop):Prop:=∀o st',K o st'->∀α' G' H',Step α G α' G'->cC G' F H'->a7 α' st' G'->Q o H'
inductive R7(t:DO)(σ:L2.St)(H:Hp)(Q:Option Int->Hp->Prop):Prop
 |mk (α:List (Option Addr)) (σd:cy) (st:ag) (K:Option Int->ag->Prop) (G F:Hp) (P:cC G F H) (R:eZ α G σd σ) (S:a7 α st G) (h:t σd st K) (k:TU α G F K Q):R7 t σ H Q
def LO(t:DO):TO:=R7 t
section
variable {X:Cx}
theorem PO.imp{e:Option Expr}{t t':TO}(h:PO X e t)(f:∀σ H Q,t' σ H Q->t σ H Q):PO X e t':=λ pins s σ H Q I q=>h pins s σ H Q I (f σ H Q q)
theorem Mo:PO X none (LO j6):=PO.imp MP λ σ H Q ⟨α,σd,st,K,G,F,P,R,S,t,k⟩=>k none st t α G H Step.refl P S
theorem LW{e:Expr}{te:DE}(h:PE X e (LE te)):PO X (some e) (LO (mx te)):=PO.imp (L5 h) λ σ H Q ⟨α,σd,st,K,G,F,P,R,S,t,k⟩=>by
 refine⟨α,σd,st,_,G,F,P,R,S,t,λ d st1 q α1 G1 H1 v s1 P1 S1 r1=>?_⟩;cases d<;>try exact q.elim
 unfold Rep at r1;exact⟨_,r1,k _ st1 q α1 G1 H1 s1 P1 S1⟩
def Tv(x:V)(lo hi:Option Int)(H:Hp)(Q:VK):Prop:=∃α d st K G F,cC G F H/\Rep α G d x/\a7 α st G/\l7 d lo hi st K/\LK α G F K Q
theorem Ln:Ho X (λ x lo hi H Q=>∃a xs,x= .ref a/\H a=some (.tup xs)/\((HT.cB xs.length 0 lo=0/\HT.cB xs.length xs.length hi=xs.length)->Q (.ref a) H)/\(¬(HT.cB xs.length 0 lo=0/\HT.cB xs.length xs.length hi=xs.length)->∀p,H p=none->Q (.ref p) (upd H p (.tup (sd xs lo hi))))):=by
 intro pins s σ H x v vl vu lo hi sl Q I rx hs pl pu h;obtain⟨a,xs,rfl,hx,q1,q2⟩:=h;by_cases hw:HT.cB xs.length 0 lo=0/\HT.cB xs.length xs.length hi=xs.length
 . cases rx;obtain⟨its,r,ht,hz⟩:=I.tuple (jH.of hx);have hlen:its.toArray.size=xs.length:=by rw[Um];exact r.length.symm
   exact⟨"tuple",_,Vs.lookup,ht.typeIs,HT.tE ht hs pl pu (by rw[hlen];exact hw) ⟨.ref a,H,I,rfl,q1 hw⟩⟩
 . exact OP pins s σ H _ v vl vu lo hi sl Q I rx hs pl pu ⟨a,xs,rfl,.of hx,hw,q2 hw⟩
theorem Hv{xs:List D}{lo hi:Option Int}(hw:HT.cB xs.length 0 lo=0/\HT.cB xs.length xs.length hi=xs.length):cutD xs lo hi=xs:=by
 unfold cutD;rw[hw.1,hw.2];simp
theorem PF:Ho X Tv:=by
 intro pins s σ H x v vl vu lo hi sl Q I rx hs pl pu ⟨α,d,st,K,G,F',P,r1,S,q,k⟩;unfold l7 BW at q;cases d<;>try exact q.elim
 . rename_i n;simp only at q;split at q
   . rename_i xs e;obtain⟨a,ea,vs,h1,h2⟩:=S.iZ e;have r1':=cY ea r1;subst r1';exact DC pins s σ H _ v vl vu lo hi sl Q I rx hs pl pu ⟨a,vs,rfl,.inl (.of (P.get h1)),λ p hp=>k.lst P q S (wX h2) hp⟩
   . exact q.elim
 . unfold Rep at r1;obtain⟨a,vs,rfl,na,ha,ra⟩:=r1;exact DC pins s σ H _ v vl vu lo hi sl Q I rx hs pl pu ⟨a,vs,rfl,.inl (gK P ha),λ p hp=>k.lst P q S (wX ra) hp⟩
 . rename_i xs;have r0:=r1;unfold Rep at r1;obtain⟨a,vs,rfl,na,ha,ra⟩:=r1;refine Ln pins s σ H _ v vl vu lo hi sl Q I rx hs pl pu ⟨a,vs,rfl,P.get ha,λ hw=>?_,λ _ p hp=>k.tup P q S (wX ra) hp⟩;rw[<-ra.length]at hw;simp only at q;rw[Hv hw]at q;exact k.here P q S r0
theorem Nh{e:Expr}{lo hi:Option Expr}{te:DE}{tl th:DO}{p2 pos:Pos}(he:PE X e (LE te))(hl:PO X lo (LO tl))(hh:PO X hi (LO th)):PE X (.Subscript e (.Slice lo hi none p2) pos) (LE (ky te tl th)):=PE.imp (Ji PF he hl hh) λ σ H Q ⟨α,σd,st,K,G,F,P,R,S,t,k⟩=>by
 refine⟨α,σd,st,_,G,F,P,R,S,t,λ d st1 q α1 G1 H1 v s1 P1 S1 r1=>?_⟩;refine⟨α1,σd,st1,_,G1,F,P1,R.step s1,S1,q,λ l st2 q2 α2 G2 H2 s2 P2 S2=>?_⟩;refine⟨α2,σd,st2,_,G2,F,P2,(R.step s1).step s2,S2,q2,λ u st3 q3 α3 G3 H3 s3 P3 S3=>?_⟩;exact⟨α3,d,st3,K,G3,F,P3,(r1.step s2).step s3,S3,q3,((k.at s1).at s2).at s3⟩
@[irreducible] def JO(X:Cx)(e:Option Expr)(t:DO):Prop:=PO X e (LO t)
theorem m4:JO X none j6:=by unfold JO;exact Mo
theorem j9{e:Expr}{te:DE}(h:JE X e te):JO X (some e) (mx te):=by unfold JO;unfold JE at h;exact LW h
theorem lx{e:Expr}{lo hi:Option Expr}{te:DE}{tl th:DO}{p2 pos:Pos}(he:JE X e te)(hl:JO X lo tl)(hh:JO X hi th):JE X (.Subscript e (.Slice lo hi none p2) pos) (ky te tl th):=by unfold JE at*;unfold JO at*;exact Nh he hl hh
end
theorem Gk{st:ag}{K:DK}{xs:List D}{lo hi:Option Int}(k:K (.lst (cutD xs lo hi)) st):l7 (.lst xs) lo hi st K:=by unfold l7;exact k
theorem zx{st:ag}{K:DK}{xs:List D}{lo hi:Option Int}(k:K (.tup (cutD xs lo hi)) st):l7 (.tup xs) lo hi st K:=by unfold l7;exact k
theorem nJ{st:ag}{K:DK}{xs:List D}{lo hi:Option Int}{n:Nat}(h:st[n]?=some (.lst xs))(k:K (.lst (cutD xs lo hi)) st):l7 (.ref n) lo hi st K:=by unfold l7 BW;simp only[h];exact k
section
variable {prog:Program}{w:World}{A:Around}{E:Value->Shared->Prop}{s:Shared}
theorem Ft{iT tp:Addr}{n:Nat}{its:Array Value}{v:Value}{Q:Value->Shared->Prop}(hI:s.heap.IsTupleIter iT tp n)(hT:s.heap.IsTuple tp its)(hv:its[n]?=some v)
 (q:∀g,g.IsTupleIter iT tp (n+1)->Heap.SameBut iT s.heap g->Q v {s with heap:=g}):wpAny (model prog w) A (Builtin.SmallTypes.nextOf (.ref iT)) Q E s:=by
 obtain⟨oI,eI,cI,dI⟩:=id hI;obtain⟨oT,eT,_,nT,dT⟩:=hT;unfold Builtin.SmallTypes.nextOf;refine T_ (Vh (name:=Str.ofString "__next__") hI.typeIs Wn (VO Wn hI.typeIs XW ?_ (XR _)));show wpAny _ _ (field (.ref iT) 0 >>= _) _ _ s;refine T_ (UY eI dI (x:= .ref tp) rfl ?_);show wpAny _ _ (if(Value.ref tp==Value.none)=true then _ else _) _ _ s;rw[Ub (show¬((Value.ref tp==Value.none)=true)from Vg)];show wpAny _ _ (field (.ref iT) 1 >>= _) _ _ s;refine T_ (UY eI dI (x:= .int n 0) rfl ?_);show wpAny _ _ (seqItems? (.ref tp) >>= _) _ _ s;refine T_ (Vc eT dT ?_);simp only[UL,hv];refine T_ (wpAny_setField eI dI (by simp) (Ul ⟨v,rfl,Ul (q _ ?_ (VJ ..))⟩));refine⟨_,Xw _ eI (Obj.isFreed_of_fields (Obj.data_mapFields dI _)),(Obj.cls_mapFields ..).trans cI,?_⟩;rw[Obj.data_mapFields dI];simp[rawInt]
theorem FH{iT tp:Addr}{n:Nat}{its:Array Value}{Q:Value->Shared->Prop}(hh:A.handled=none)(hI:s.heap.IsTupleIter iT tp n)(hT:s.heap.IsTuple tp its)(hv:its[n]?=none)
 (q:∀g e,Heap.ExtBut iT s.heap g->(∃o,g.get? e=some o/\o.cls= .type "StopIteration")->E (.ref e) {s with heap:=g}):wpAny (model prog w) A (Builtin.SmallTypes.nextOf (.ref iT)) Q E s:=by
 obtain⟨oI,eI,cI,dI⟩:=id hI;obtain⟨oT,eT,_,nT,dT⟩:=hT;unfold Builtin.SmallTypes.nextOf;refine T_ (Vh (name:=Str.ofString "__next__") hI.typeIs Wn (VO Wn hI.typeIs XW ?_ (XR _)));show wpAny _ _ (field (.ref iT) 0 >>= _) _ _ s;refine T_ (UY eI dI (x:= .ref tp) rfl ?_);show wpAny _ _ (if(Value.ref tp==Value.none)=true then _ else _) _ _ s;rw[Ub (show¬((Value.ref tp==Value.none)=true)from Vg)];show wpAny _ _ (field (.ref iT) 1 >>= _) _ _ s;refine T_ (UY eI dI (x:= .int n 0) rfl ?_);show wpAny _ _ (seqItems? (.ref tp) >>= _) _ _ s;refine T_ (Vc eT dT ?_);simp only[UL,hv];refine T_ (WQ (T_ (wpAny_setField eI dI (by simp) ?_)));show wpAny _ _ (newExc (.type "StopIteration") [] >>= _) _ _ _;refine T_ ?_;simp only[newExc,newTuple];refine T_ (V_ ?_ (by size_fits));refine T_ (m:=firstArgMember _ _) (wpAny_of_eq (a:=Value.none) (by first|rfl|(simp only[firstArgMember];rfl)) ?_);refine V_ ?_ (by size_fits);simp only[raiseNew];refine T_ (wpAny_handled ?_);first|rw[show A.in1.handled=none from hh]|rw[hh]
 refine T_ (Ul (wpAny_throw ?_));exact q _ _ (((VJ ..).extBut.push _).push _) ⟨_,Ut _ rfl,rfl⟩
end
section
variable {st:ag}{K:DK}{i j:Int}{b c:Bool}{xs ys:List D}{d e:D}{n:Nat}
theorem eqT(h:i=j)(k:K (.bl true) st):lH (.int i) (.int j) st K:=HZ (by rw[We h];exact k)
theorem N2(h:i≠j)(k:K (.bl false) st):lH (.int i) (.int j) st K:=HZ (by rw[UT h];exact k)
theorem eq2(h1:i=j->K (.bl true) st)(h2:i≠j->K (.bl false) st):lH (.int i) (.int j) st K:=by
 by_cases h:i=j
 . exact eqT h (h1 h)
 . exact N2 h (h2 h)
theorem neT(h:i≠j)(k:K (.bl true) st):tf (.int i) (.int j) st K:=K2 (by rw[UT h];exact k)
theorem Ob(h:i=j)(k:K (.bl false) st):tf (.int i) (.int j) st K:=K2 (by rw[We h];exact k)
theorem ne2(h1:i≠j->K (.bl true) st)(h2:i=j->K (.bl false) st):tf (.int i) (.int j) st K:=by
 by_cases h:i=j
 . exact Ob h (h2 h)
 . exact neT h (h1 h)
theorem TX(h:i<j)(k:K (.bl true) st):rF (.int i) (.int j) st K:=FC (by rw[We h];exact k)
theorem TY(h:j<=i)(k:K (.bl false) st):rF (.int i) (.int j) st K:=FC (by rw[UT (by omega)];exact k)
theorem NM(h1:i<j->K (.bl true) st)(h2:j<=i->K (.bl false) st):rF (.int i) (.int j) st K:=by
 by_cases h:i<j
 . exact TX h (h1 h)
 . exact TY (by omega) (h2 (by omega))
theorem TH(h:j<i)(k:K (.bl true) st):zw (.int i) (.int j) st K:=Kf (by rw[We h];exact k)
theorem TL(h:i<=j)(k:K (.bl false) st):zw (.int i) (.int j) st K:=Kf (by rw[UT (by omega)];exact k)
theorem TJ(h1:j<i->K (.bl true) st)(h2:i<=j->K (.bl false) st):zw (.int i) (.int j) st K:=by
 by_cases h:j<i
 . exact TH h (h1 h)
 . exact TL (by omega) (h2 (by omega))
theorem RJ(h:j<=i)(k:K (.bl true) st):x9 (.int i) (.int j) st K:=Ks (by rw[We h];exact k)
theorem RH(h:i<j)(k:K (.bl false) st):x9 (.int i) (.int j) st K:=Ks (by rw[UT (by omega)];exact k)
theorem Tz(h1:j<=i->K (.bl true) st)(h2:i<j->K (.bl false) st):x9 (.int i) (.int j) st K:=by
 by_cases h:j<=i
 . exact RJ h (h1 h)
 . exact RH (by omega) (h2 (by omega))
theorem Ts{P:Prop}(h:xs.length<=1000)(k:P):xs.length<=sizeLine/\P:=⟨by rw[Vi];omega,k⟩
theorem fb{m:Nat}(h:m<=1000):m<=sizeLine:=by rw[Vi];omega
theorem yt(h0:0<=i)(e:xs[i.toNat]?=some d):dY xs i=some d:=by
 have:=iC e;rw[WY h0]at this;exact this
theorem O0{m:Nat}(h0:0<=i)(h:i.toNat<m):lO m i=some i.toNat:=by
 unfold lO;have:i<(m:Int):=by omega
 simp[h0,this]
end
theorem fG{tg:ib}{body:DS}{ok:ag->Prop}{E:kQ}(I:List D->cy->ag->Prop)(hend:∀σ st,I [] σ st->ok st/\E.nx σ st)
 (hstep:∀x xs σ st,I (x::xs) σ st->(∀σ' st',I xs σ' st'->jO tg body ok E xs σ' st')->ok st/\∃σ1,tg x σ=some σ1/\body {E with nx:=jO tg body ok E xs,ct:=jO tg body ok E xs,bk:=E.nx} σ1 st):
 ∀xs σ st,I xs σ st->jO tg body ok E xs σ st
 | [],σ,st,h=>by unfold jO;exact hend σ st h
 |x::xs,σ,st,h=>by unfold jO;exact hstep x xs σ st h λ σ' st' h'=>fG I hend hstep xs σ' st' h'
theorem iP{tg:ib}{c:DT}{te:DE}{ok:ag->Prop}{σc:cy}{K:List D->ag->Prop}(I:List D->List D->ag->Prop)(hend:∀acc st,I [] acc st->ok st/\K acc st)
 (hstep:∀x xs acc st,I (x::xs) acc st->(∀acc' st',I xs acc' st'->dG tg c te ok σc xs acc' st' K)->ok st/\∃σ2,tg x σc=some σ2/\c σ2 st λ b st1=>if b=true then te σ2 st1 λ y st2=>dG tg c te ok σc xs (acc++[y]) st2 K else dG tg c te ok σc xs acc st1 K):
 ∀xs acc st,I xs acc st->dG tg c te ok σc xs acc st K
 | [],acc,st,h=>by unfold dG;exact hend acc st h
 |x::xs,acc,st,h=>by unfold dG;exact hstep x xs acc st h λ acc' st' h'=>iP I hend hstep xs acc' st' h'
theorem comp_map{tg:ib}{te:DE}{ok:ag->Prop}{σc:cy}{st:ag}{K:List D->ag->Prop}{g:D->D}(aO:ok st)(xs:List D)(hx:∀x∈xs,∀K',K' (g x) st->∃σ2,tg x σc=some σ2/\te σ2 st K')(k:K (xs.map g) st):dG tg du te ok σc xs [] st K:=by
 refine iP (λ r acc st'=>st'=st/\(∀x∈r,x∈xs)/\acc++r.map g=xs.map g) (λ acc st' h=>?_) (λ x r acc st' h next=>?_) xs [] st ⟨rfl,λ _ h=>h,rfl⟩
 . obtain⟨rfl,_,e⟩:=h;rw[List.map_nil,VV]at e;rw[e];exact⟨aO,k⟩
 . obtain⟨rfl,hm,e⟩:=h;obtain⟨σ2,e2,q⟩:=hx x (hm x UB) (λ y st2=>dG tg du te ok σc r (acc++[y]) st2 K) (next _ _ ⟨rfl,λ z hz=>hm z (Uu _ hz),by rw[<-e];simp⟩);exact⟨aO,σ2,e2,q⟩
theorem yN{A B:DS}{E:kQ}{σ:cy}{st:ag}(J:cy->ag->Prop)(h:∀nx,(∀σ' st',J σ' st'->nx σ' st')->A {E with nx:=nx} σ st)(k:∀σ' st',J σ' st'->B E σ' st'):aA A B E σ st:=h (B E) k
def Oy(n:Nat)(K:DK)(y:D)(st2:ag):Prop:=∃y',[y]=[y']/\(match st2[n]? with|some (.lst xs)=>xs.length<sizeLine/\K .aF (st2.set n (.lst (xs++[y'])))|_=>False)
theorem lh{n:Nat}{K:DK}{y:D}{st:ag}{xs:List D}(e:st[n]?=some (.lst xs))(h:xs.length<sizeLine)(k:K .aF (st.set n (.lst (xs++[y])))):Oy n K y st:=by
 refine⟨y,rfl,?_⟩;simp only[e];exact⟨h,k⟩
@[irreducible] def gz(to te:DE):DE:=rg to te
theorem nF{σ:cy}{st:ag}{K:DK}{i n:Nat}{xs:List D}{te:DE}(ei:σ[i]?=some (some (.ref n)))(e:st[n]?=some (.lst xs))(h:te σ st (Oy n K)):gz (aa i) te σ st K:=by
 unfold gz rg aa;simp only[ei,e];exact h
theorem iJ{X:Cx}{o e:Expr}{to te:DE}{apos cpos:Pos}(ho:JE X o to)(he:JE X e te)(hbase:attributeBase o "append" X.env (eval o X.env)=eval o X.env:=by rfl)(hline:(apos.endLine==cpos.line)=true:=by rfl)(hs:notStar e=true:=by rfl):JE X (.Call (.Attribute o "append" apos) [e] [] cpos) (gz to te):=by
 unfold gz;exact IW ho he hbase hline hs
section
variable {X:Cx}
end
structure Src(P:Program)(w:World)(t a:Addr)(J:Nat->Heap->Prop)(us:Array Value):Prop where
 fr:∀n g k,J n g->(∀b,b=t\/b=a->∀o,g.get? b=some o->k.get? b=some o)->J n k
 lv:∀n g,J n g->(∃o,g.get? t=some o)/\∃o,g.get? a=some o
 nx:∀n (A:Around) (s:Shared) (Q:Value->Shared->Prop) (E:Value->Shared->Prop) v,J n s.heap->us[n]?=some v->(∀k,J (n+1) k->Heap.SameBut t s.heap k->Q v {s with heap:=k})->wpAny (model P w) A (Builtin.SmallTypes.nextOf (.ref t)) Q E s
 en:∀n (A:Around) (s:Shared) (Q:Value->Shared->Prop) (E:Value->Shared->Prop),A.handled=none->J n s.heap->us[n]?=none->(∀k e,Heap.ExtBut t s.heap k->(∃o,k.get? e=some o/\o.cls= .type "StopIteration")->E (.ref e) {s with heap:=k})->wpAny (model P w) A (Builtin.SmallTypes.nextOf (.ref t)) Q E s
section
variable {P:Program}{w:World}
theorem src_list(t a:Addr)(hne:a≠t)(us:Array Value):Src P w t a (λ n g=>g.IsListIter t a n/\g.IsList a us) us where
 fr:=λ n g k j kp=>⟨j.1.at λ o e=>kp t (.inl rfl) o e,j.2.at λ o e=>kp a (.inr rfl) o e⟩
 lv:=λ n g j=>⟨let⟨o,e,_⟩:=j.1;⟨o,e⟩,let⟨o,e,_⟩:=j.2;⟨o,e⟩⟩
 nx:=λ n A s Q E v j hv q=>wpAny_nextOf_list_item j.1 j.2 hv λ k jk sb=>q k ⟨jk,j.2.extBut sb.extBut hne⟩ sb
 en:=λ n A s Q E hh j hv q=>wpAny_nextOf_list_end hh j.1 j.2 hv q
theorem Mu(t a:Addr)(hne:a≠t)(us:Array Value):Src P w t a (λ n g=>g.IsTupleIter t a n/\g.IsTuple a us) us where
 fr:=λ n g k j kp=>by
  obtain⟨⟨o,e,r⟩,⟨o2,e2,r2⟩⟩:=j;exact⟨⟨o,kp t (.inl rfl) o e,r⟩,⟨o2,kp a (.inr rfl) o2 e2,r2⟩⟩
 lv:=λ n g j=>⟨let⟨o,e,_⟩:=j.1;⟨o,e⟩,let⟨o,e,_⟩:=j.2;⟨o,e⟩⟩
 nx:=λ n A s Q E v j hv q=>Ft j.1 j.2 hv λ k jk sb=>q k ⟨jk,j.2.extBut sb.extBut hne⟩ sb
 en:=λ n A s Q E hh j hv q=>FH hh j.1 j.2 hv q
theorem Src.ext{t a c:Addr}{J:Nat->Heap->Prop}{us:Array Value}(S:Src P w t a J us){n:Nat}{g k:Heap}(j:J n g)(x:Heap.ExtBut c g k)(h1:c≠t)(h2:c≠a):J n k:=
 S.fr n g k j λ b hb o e=>x b o (by rcases hb with rfl|rfl;exact Ui h1;exact Ui h2) e
structure Ee(z ti to t1 t2 a1 a2:Addr):Prop where
 nd: [z,ti,to,t1,t2].Nodup
 a1:a1∉[z,ti,to,t1,t2]
 a2:a2∉[z,ti,to,t1,t2]
section
variable {z ti to t1 t2 a1 a2:Addr}
theorem Ee.n(D:Ee z ti to t1 t2 a1 a2):(ti≠z/\to≠z/\t1≠z/\t2≠z)/\(ti≠to/\ti≠t1/\ti≠t2)/\(to≠t1/\to≠t2)/\t1≠t2:=by
 have:=D.nd;simp only[Wl,Ux,WK,UD,Ve,Wo,List.nodup_nil]at this;obtain⟨⟨b1,b2,b3,b4⟩,⟨b5,b6,b7⟩,⟨b8,b9⟩,b10⟩:=this;exact⟨⟨Ui b1,Ui b2,Ui b3,Ui b4⟩,⟨b5,b6,b7⟩,⟨b8,b9⟩,b10⟩
theorem GK{A:Around}{s:Shared}{E:Value->Shared->Prop}{J1 J2:Nat->Heap->Prop}{us vs:Array Value}{n:Nat}{x y a b:Value}{Q:Value->Shared->Prop}(D:Ee z ti to t1 t2 a1 a2)(S1:Src P w t1 a1 J1 us)(S2:Src P w t2 a2 J2 vs)
 (Z:IsZip s.heap z ti to .none) (pI:IsPair s.heap ti (.ref t1) (.ref t2)) (pO:IsPair s.heap to a b) (j1:J1 n s.heap) (j2:J2 n s.heap) (ex:us[n]?=some x) (ey:vs[n]?=some y)
 (q:∀k,IsZip k z ti to (rawInt s.heap.objs.size)->IsPair k to x y->J1 (n+1) k->J2 (n+1) k->IsPair k s.heap.objs.size x y->k.objs.size=s.heap.objs.size+1->
   (∀c o,c≠z->c≠to->c≠t1->c≠t2->s.heap.get? c=some o->k.get? c=some o)->Q (.ref s.heap.objs.size) {s with heap:=k}):
 wpAny (model P w) A (Builtin.«zip.__next__» ⟨[.ref z],[]⟩) (λ fin s'=>∃v,fin= .done (.ret v)/\Q v s') E s:=by
 obtain⟨⟨n1,n2,n3,n4⟩,⟨n5,n6,n7⟩,⟨n8,n9⟩,n10⟩:=D.n;have m1:=D.a1;have m2:=D.a2;simp only[Ux,WK,UD,Ve,Wo]at m1 m2;show wpAny _ _ (field (.ref z) 2 >>= _) _ _ _;refine T_ (UY Z rfl (x:= .bool false) rfl ?_);show wpAny _ _ (field (.ref z) 3 >>= _) _ _ _;refine T_ (UY Z rfl (x:= .ref ti) rfl ?_);refine T_ (Vc pI rfl ?_);show wpAny _ _ (Builtin.SmallTypes.ownedTupleIsFree (.ref z) >>= _) _ _ _;refine T_ ?_;unfold Builtin.SmallTypes.ownedTupleIsFree;refine T_ (UY Z rfl (x:= .none) rfl (Ul ?_));simp only[Wm];refine T_ (WQ ?_);refine T_ (UY Z rfl (x:= .ref to) rfl ?_);refine T_ (Va Z (by simp) λ k1 Z1 b1=>?_);replace Z1:IsZip k1 z ti to .ellipsis:=Z1;refine T_ ?_;simp only[Xs,XF,W0,W_];refine T_ (T_ (V2 ?_));show wpAny _ _ (Builtin.SmallTypes.nextOf (.ref t1) >>= _) _ _ _;refine T_ (S1.nx n _ _ _ _ x (S1.ext j1 b1.extBut (Ui n3) (Ui m1.1)) ex λ k2 j1b b2=>Ul ?_);have pO2:IsPair k2 to a b:=b2.extBut _ _ n8 (b1.extBut _ _ n2 pO);refine T_ (Vc pO2 rfl ?_);refine T_ (XG pO2 λ k3 pO3 b3=>?_);replace pO3:IsPair k3 to x b:=pO3;refine T_ (Wr (Ul ?_));refine T_ (T_ (V2 ?_));show wpAny _ _ (Builtin.SmallTypes.nextOf (.ref t2) >>= _) _ _ _;have j2c:J2 n k3:=S2.ext (S2.ext (S2.ext j2 b1.extBut (Ui n4) (Ui m2.1)) b2.extBut n10 (Ui m2.2.2.2.1)) b3.extBut n9 (Ui m2.2.2.1);refine T_ (S2.nx n _ _ _ _ y j2c ey λ k4 j2d b4=>Ul ?_);have pO4:IsPair k4 to x b:=b4.extBut _ _ n9 pO3;refine T_ (Vc pO4 rfl ?_);refine T_ (XG pO4 λ k5 pO5 b5=>?_);replace pO5:IsPair k5 to x y:=pO5;refine T_ (Wr (Ul (Ul ?_)));refine T_ (Vc pO5 rfl ?_);refine T_ (YO ?_);have sz:k5.objs.size=s.heap.objs.size:=by rw[b5.1,b4.1,b3.1,b2.1,b1.1]
 have Z5:IsZip k5 z ti to .ellipsis:=b5.extBut _ _ (Ui n2) (b4.extBut _ _ (Ui n4) (b3.extBut _ _ (Ui n2) (b2.extBut _ _ (Ui n3) Z1)));have kp5:∀c o,c≠z->c≠to->c≠t1->c≠t2->s.heap.get? c=some o->k5.get? c=some o:=λ c o c1 c2 c3 c4 e=>b5.extBut _ _ c2 (b4.extBut _ _ c4 (b3.extBut _ _ c2 (b2.extBut _ _ c3 (b1.extBut _ _ c1 e))));have j1e:J1 (n+1) k5:=S1.ext (S1.ext (S1.ext j1b b3.extBut n8 (Ui m1.2.2.1)) b4.extBut (Ui n10) (Ui m1.2.2.2.2)) b5.extBut n8 (Ui m1.2.2.1);have j2e:J2 (n+1) k5:=S2.ext j2d b5.extBut n9 (Ui m2.2.2.1);have ltz:z<k5.objs.size:=Up Z5;show wpAny _ _ (Builtin.SmallTypes.ownedTupleHandOut (.ref z) (.ref k5.objs.size) >>= _) _ _ _;refine T_ ?_;unfold Builtin.SmallTypes.ownedTupleHandOut;have Z6:IsZip (k5.push {cls:= .type "tuple",data:= .seq #[x,y]}) z ti to .ellipsis:=Uc _ Z5;refine T_ (Va Z6 (by simp) λ k7 Z7 b7=>?_);replace Z7:IsZip k7 z ti to (rawInt k5.objs.size):=Z7;refine Va Z7 (by simp) λ k8 Z8 b8=>?_;replace Z8:IsZip k8 z ti to (rawInt k5.objs.size):=Z8;have up:∀c o,c≠z->k5.get? c=some o->k8.get? c=some o:=λ c o c1 e=>b8.extBut _ _ c1 (b7.extBut _ _ c1 (Uc _ e));have pT:IsPair k8 k5.objs.size x y:=b8.extBut _ _ (VX ltz) (b7.extBut _ _ (VX ltz) (Ut _ rfl));have sz8:k8.objs.size=k5.objs.size+1:=by rw[b8.1,b7.1,U7]
 rw[sz]at Z8 pT sz8;refine Ul ⟨_,rfl,?_⟩;show Q (.ref k5.objs.size) _;rw[sz];refine q k8 Z8 (up _ _ n2 pO5) (S1.fr _ _ _ j1e λ b hb o e=>up b o ?_ e) (S2.fr _ _ _ j2e λ b hb o e=>up b o ?_ e) pT sz8 λ c o c1 c2 c3 c4 e=>up c o c1 (kp5 c o c1 c2 c3 c4 e)
 . rcases hb with rfl|rfl
   . exact n3
   . exact m1.1
 . rcases hb with rfl|rfl
   . exact n4
   . exact m2.1
theorem IL{A:Around}{s:Shared}{E:Value->Shared->Prop}{J1 J2:Nat->Heap->Prop}{us vs:Array Value}{n:Nat}{a b:Value}{Q:Fin->Shared->Prop}(hh:A.handled=none)(D:Ee z ti to t1 t2 a1 a2)(S1:Src P w t1 a1 J1 us)(S2:Src P w t2 a2 J2 vs)
 (Z:IsZip s.heap z ti to .none) (pI:IsPair s.heap ti (.ref t1) (.ref t2)) (pO:IsPair s.heap to a b) (j1:J1 n s.heap) (j2:J2 n s.heap) (he:us[n]?=none\/vs[n]?=none)
 (q:∀k e,(∀c o,c≠z->c≠to->c≠t1->c≠t2->s.heap.get? c=some o->k.get? c=some o)->(∃o,k.get? e=some o/\o.cls= .type "StopIteration")->E (.ref e) {s with heap:=k}):
 wpAny (model P w) A (Builtin.«zip.__next__» ⟨[.ref z],[]⟩) Q E s:=by
 obtain⟨⟨n1,n2,n3,n4⟩,⟨n5,n6,n7⟩,⟨n8,n9⟩,n10⟩:=D.n;have m1:=D.a1;have m2:=D.a2;simp only[Ux,WK,UD,Ve,Wo]at m1 m2;show wpAny _ _ (field (.ref z) 2 >>= _) _ _ _;refine T_ (UY Z rfl (x:= .bool false) rfl ?_);show wpAny _ _ (field (.ref z) 3 >>= _) _ _ _;refine T_ (UY Z rfl (x:= .ref ti) rfl ?_);refine T_ (Vc pI rfl ?_);show wpAny _ _ (Builtin.SmallTypes.ownedTupleIsFree (.ref z) >>= _) _ _ _;refine T_ ?_;unfold Builtin.SmallTypes.ownedTupleIsFree;refine T_ (UY Z rfl (x:= .none) rfl (Ul ?_));simp only[Wm];refine T_ (WQ ?_);refine T_ (UY Z rfl (x:= .ref to) rfl ?_);refine T_ (Va Z (by simp) λ k1 Z1 b1=>?_);replace Z1:IsZip k1 z ti to .ellipsis:=Z1;refine T_ ?_;simp only[Xs,XF,W0,W_];refine T_ (T_ (V2 ?_));show wpAny _ _ (Builtin.SmallTypes.nextOf (.ref t1) >>= _) _ _ _;have j1a:J1 n k1:=S1.ext j1 b1.extBut (Ui n3) (Ui m1.1);cases ex:us[n]? with
 |none=>
  refine T_ (S1.en n _ _ _ _ hh j1a ex λ k2 e b2 hx=>?_);obtain⟨oe,he1,he2⟩:=hx;have Z2:IsZip k2 z ti to .ellipsis:=b2 _ _ (Ui n3) Z1;have hez:e≠z:=λ c=>by subst c;rw[Z2]at he1;cases he1;simp at he2
  refine Va Z2 (by simp) λ k3 _ b3=>q k3 e (λ c o c1 _ c3 _ f=>b3.extBut _ _ c1 (b2 _ _ c3 (b1.extBut _ _ c1 f))) ⟨oe,b3.extBut _ _ hez he1,he2⟩
 |some x=>
  have ey:vs[n]?=none:=by
   rcases he with h|h
   . rw[ex]at h;cases h
   . exact h
  refine T_ (S1.nx n _ _ _ _ x j1a ex λ k2 j1b b2=>Ul ?_);have pO2:IsPair k2 to a b:=b2.extBut _ _ n8 (b1.extBut _ _ n2 pO);refine T_ (Vc pO2 rfl ?_);refine T_ (XG pO2 λ k3 pO3 b3=>?_);refine T_ (Wr (Ul ?_));refine T_ (T_ (V2 ?_));show wpAny _ _ (Builtin.SmallTypes.nextOf (.ref t2) >>= _) _ _ _;have j2c:J2 n k3:=S2.ext (S2.ext (S2.ext j2 b1.extBut (Ui n4) (Ui m2.1)) b2.extBut n10 (Ui m2.2.2.2.1)) b3.extBut n9 (Ui m2.2.2.1);refine T_ (S2.en n _ _ _ _ hh j2c ey λ k4 e b4 hx=>?_);obtain⟨oe,he1,he2⟩:=hx;have Z4:IsZip k4 z ti to .ellipsis:=b4 _ _ (Ui n4) (b3.extBut _ _ (Ui n2) (b2.extBut _ _ (Ui n3) Z1));have hez:e≠z:=λ c=>by subst c;rw[Z4]at he1;cases he1;simp at he2
  refine Va Z4 (by simp) λ k5 _ b5=>q k5 e (λ c o c1 c2 c3 c4 f=>b5.extBut _ _ c1 (b4 _ _ c4 (b3.extBut _ _ c2 (b2.extBut _ _ c3 (b1.extBut _ _ c1 f))))) ⟨oe,b5.extBut _ _ hez he1,he2⟩
end
end
theorem ED{X:Cx}{pins:List (Addr×Obj)}{σ:L2.St}{H:Hp}{s:Shared}{g:Heap}{tk:Nat}{fp:List Addr}{T:Addr}{xs:List V}(I:Inv X pins σ H s)(hf:∀b∈fp,mN X pins H b)
 (k:∀b o,b∉fp->s.heap.get? b=some o->g.get? b=some o) (hT:s.heap.objs.size<=T) (new:dP X.prog X.w (upd H T (.tup xs)) g T (.tup xs)):Inv X pins σ (upd H T (.tup xs)) {s with heap:=g,toks:=tk}:=by
 have hn:H T=none:=I.aO.fresh hT;have nfp:∀b u,H b=some u->b∉fp:=λ b u e z=>by rw[(hf b z).1]at e;cases e
 have nT:∀b u,H b=some u->b≠T:=λ b u e=>dJ e hn
 refine I.step (g':=s.gens) (d':=s.drawn) (ch:=fp) (λ b hb=>?_) (λ b o _ _ hc e _=>k b o hc e) (λ b o _ _ hc e _=>⟨o.slots,k b o hc e⟩) (λ b o _ e n=>?_) (λ b o hc e=>⟨o,k b o hc e⟩)
  (λ b ys e=>by rw[aB (nT b _ e)];exact e) (λ b o u e=>by rw[aB (nT b _ e)];exact e) (λ b ps e=>⟨#[],by rw[aB (nT b _ e),e];simp⟩) (λ m hm=>?_) (λ b u e=>?_) I.bare
 . obtain⟨f0,f1,f2,f3,f4,f5⟩:=hf b hb;exact⟨f3,f1,f4,f5⟩
 . rw[aB (UG (UE (Up e) hT))];exact n
 . obtain⟨o,es,ep,ho,r⟩:=hm;exact⟨o,es,ep,k _ o (λ z=>(hf _ z).2.1 rfl) ho,r⟩
 . by_cases hb:b=T
   . subst hb;rw[bc]at e;cases e;exact new
   . rw[aB hb]at e;refine(I.aO b u e).qQ (λ c v hc q=>k c v ?_ q) (λ c q=>by rw[aB (nT c _ q)];exact q) λ c ys q=>by rw[aB (nT c _ q)];exact q
     rcases hc with z|z
     . rw[z];exact nfp b u e
     . exact nfp c _ z
theorem ET{X:Cx}{pins:List (Addr×Obj)}{σ:L2.St}{H:Hp}{s:Shared}{g:Heap}{tk:Nat}{fp:List Addr}(I:Inv X pins σ H s)(hf:∀b∈fp,mN X pins H b)
 (k:∀b o,b∉fp->s.heap.get? b=some o->g.get? b=some o):Inv X pins σ H {s with heap:=g,toks:=tk}:=by
 have nfp:∀b u,H b=some u->b∉fp:=λ b u e z=>by rw[(hf b z).1]at e;cases e
 refine I.step (g':=s.gens) (d':=s.drawn) (ch:=fp) (λ b hb=>?_) (λ b o _ _ hc e _=>k b o hc e) (λ b o _ _ hc e _=>⟨o.slots,k b o hc e⟩) (λ b o _ e n=>n) (λ b o hc e=>⟨o,k b o hc e⟩)
  (λ b ys e=>e) (λ b o u e=>e) (λ b ps e=>⟨#[],by rw[e];simp⟩) (λ m hm=>?_) (λ b u e=>?_) I.bare
 . obtain⟨f0,f1,f2,f3,f4,f5⟩:=hf b hb;exact⟨f3,f1,f4,f5⟩
 . obtain⟨o,es,ep,ho,r⟩:=hm;exact⟨o,es,ep,k _ o (λ z=>(hf _ z).2.1 rfl) ho,r⟩
 . refine(I.aO b u e).qQ (λ c v hc q=>k c v ?_ q) (λ c q=>q) λ c ys q=>q;rcases hc with z|z
   . rw[z];exact nfp b u e
   . exact nfp c _ z
inductive SK where
 |l|t
def kj(k:SK)(K:PySem.W.Frag)(H:Hp)(a:Addr)(xs:List V):Prop:=match k with
 | .l=>nP K H a xs
 | .t=>jH K H a xs
def mD(k:SK)(t a:Addr)(n:Nat)(g:Heap):Prop:=match k with
 | .l=>g.IsListIter t a n
 | .t=>g.IsTupleIter t a n
def g_(k:SK)(g:Heap)(a:Addr)(us:Array Value):Prop:=match k with
 | .l=>g.IsList a us
 | .t=>g.IsTuple a us
def qc(k:SK)(a:Addr):Obj:=match k with
 | .l=>{cls:= .type "list_iterator",data:= .fields #[.ref a,.int 0 0]}
 | .t=>{cls:= .type "tuple_iterator",data:= .fields #[.ref a,.int 0 0]}
theorem iS{P:Program}{w:World}(k:SK)(t a:Addr)(hne:a≠t)(us:Array Value):Src P w t a (λ n g=>mD k t a n g/\g_ k g a us) us:=by
 cases k
 . exact src_list t a hne us
 . exact Mu t a hne us
theorem fA{X:Cx}{pins:List (Addr×Obj)}{σ:L2.St}{H:Hp}{s:Shared}{k:SK}{a:Addr}{xs:List V}(I:Inv X pins σ H s)(h:kj k X.K H a xs):∃its:List Value,Vals xs its/\g_ k s.heap a its.toArray:=by
 cases k
 . obtain⟨its,rv,p,_⟩:=I.list h;exact⟨its,rv,p.isList⟩
 . obtain⟨its,rv,p,_⟩:=I.tuple h;exact⟨its,rv,p⟩
theorem o7{X:Cx}{pins:List (Addr×Obj)}{σ:L2.St}{H:Hp}{s:Shared}{k:SK}{a:Addr}{xs ys:List V}(I:Inv X pins σ H s)(h:kj k X.K H a xs)(h':kj k X.K H a ys):xs=ys:=by
 cases k
 . exact I.B6 h h'
 . exact I.zm h h'
theorem uG{P:Program}{w:World}{A:Around}{s:Shared}{E:Value->Shared->Prop}{k:SK}{a:Addr}{us:Array Value}{Q:Value->Shared->Prop}(h:g_ k s.heap a us)(q:Q (.ref s.heap.objs.size) {s with heap:=s.heap.push (qc k a)}):wpAny (model P w) A (pyIter (.ref a)) Q E s:=by
 cases k
 . exact X_ h q
 . exact WG h q
theorem g_.push{k:SK}{g:Heap}{a:Addr}{us:Array Value}(h:g_ k g a us)(o:Obj):g_ k (g.push o) a us:=by
 cases k
 . obtain⟨o',e,r⟩:=h;exact⟨o',Uc _ e,r⟩
 . obtain⟨o',e,r⟩:=h;exact⟨o',Uc _ e,r⟩
theorem g_.some{k:SK}{g:Heap}{a:Addr}{us:Array Value}(h:g_ k g a us):∃o,g.get? a=Option.some o:=by
 cases k
 . obtain⟨o',e,r⟩:=h;exact⟨o',e⟩
 . obtain⟨o',e,r⟩:=h;exact⟨o',e⟩
theorem rk{k:SK}{g h:Heap}{t a:Addr}(e:g.get? t=Option.some (qc k a)):mD k t a 0 g:=by
 cases k
 . exact⟨_,e,rfl,rfl⟩
 . exact⟨_,e,rfl,rfl⟩
theorem i_{k:SK}{t a:Addr}{n:Nat}{g g':Heap}(h:mD k t a n g)(kp:∀o,g.get? t=Option.some o->g'.get? t=Option.some o):mD k t a n g':=by
 cases k
 . obtain⟨o,e,r⟩:=h;exact⟨o,kp o e,r⟩
 . obtain⟨o,e,r⟩:=h;exact⟨o,kp o e,r⟩
theorem gT{k:SK}{t a:Addr}{n:Nat}{g:Heap}(h:mD k t a n g):∃o,g.get? t=Option.some o/\∀v,o.data≠ .cell v:=by
 cases k
 . obtain⟨o,e,c,d⟩:=h;exact⟨o,e,λ v z=>by rw[d]at z;cases z⟩
 . obtain⟨o,e,c,d⟩:=h;exact⟨o,e,λ v z=>by rw[d]at z;cases z⟩
def RM(K:PySem.W.Frag)(k1 k2:SK)(a1 a2:Addr):It:=
 ⟨λ i H=>∃xs ys x y,kj k1 K H a1 xs/\kj k2 K H a2 ys/\xs[i]?=some x/\ys[i]?=some y,
  λ i H v H'=>∃T x y,H T=none/\v= .ref T/\H'=upd H T (.tup [x,y])/\(∀xs,kj k1 K H a1 xs->xs[i]?=some x)/\∀ys,kj k2 K H a2 ys->ys[i]?=some y,
  λ i H=>∃xs ys,kj k1 K H a1 xs/\kj k2 K H a2 ys/\(xs.length<=i\/ys.length<=i)⟩
def Qn(z ti to t1 t2 a1 a2:Addr)(k1 k2:SK)(i:Nat)(h:Heap):Prop:=IsZip h z ti to .none/\IsPair h ti (.ref t1) (.ref t2)/\(∃a b,IsPair h to a b)/\mD k1 t1 a1 i h/\mD k2 t2 a2 i h
theorem JY{P:Program}{w:World}{K:PySem.W.Frag}{elts:List Expr}{kx:Nat}{pos:Pos}{z ti to t1 t2 a1 a2:Addr}(k1 k2:SK)(D:Ee z ti to t1 t2 a1 a2):
 Turn P w K (.Tuple elts kx pos) (RM K k1 k2 a1 a2) [z,ti,to,t1,t2] z (Qn z ti to t1 t2 a1 a2 k1 k2) where
 mem:=by simp
 obj:=λ i h st b hb=>by
  obtain⟨Z,pI,⟨a,b',pO⟩,i1,i2⟩:=st;simp only[Ux,UD,Ww]at hb;rcases hb with rfl|rfl|rfl|rfl|rfl
  . exact⟨_,Z,λ v e=>by cases e⟩
  . exact⟨_,pI,λ v e=>by cases e⟩
  . exact⟨_,pO,λ v e=>by cases e⟩
  . exact gT i1
  . exact gT i2
 keep:=λ i h h' st k=>by
  obtain⟨Z,pI,⟨a,b',pO⟩,i1,i2⟩:=st;exact⟨k z (by simp) _ Z,k ti (by simp) _ pI,⟨a,b',k to (by simp) _ pO⟩,i_ i1 (k t1 (by simp)),i_ i2 (k t2 (by simp))⟩
 item:=by
  intro X hP hw hK hc i pins s σ H E I hf st hg;subst hP hw hK;obtain⟨Z,pI,⟨a,b',pO⟩,i1,i2⟩:=st;obtain⟨xs,ys,x,y,q1,q2,ex,ey⟩:=hg;obtain⟨us,r1,l1⟩:=fA I q1;obtain⟨vs,r2,l2⟩:=fA I q2;obtain⟨u,eu,ru⟩:=r1.get ex;obtain⟨v,ev,rv⟩:=r2.get ey;have m1:=D.a1;have m2:=D.a2;simp only[Ux,WK,UD,Ve,Wo]at m1 m2;obtain⟨⟨n1,n2,n3,n4⟩,⟨n5,n6,n7⟩,⟨n8,n9⟩,n10⟩:=D.n;have tz:s.TypeIs (.ref z) "zip":=⟨_,Z,rfl⟩
  unfold pyNext;refine T_ (WV (Vh (name:=Str.ofString "__next__") tz V5 (VO V5 tz Xu (GK D (iS k1 t1 a1 m1.2.2.2.1 us.toArray) (iS k2 t2 a2 m2.2.2.2.2 vs.toArray) Z pI pO ⟨i1,l1⟩ ⟨i2,l2⟩ (x:=u) (y:=v) (by simpa using eu) (by simpa using ev) λ k Z2 pO2 j1 j2 pT szk kp=>Ul ⟨_,rfl,?_⟩) (Xf _))));refine Yl (s:={s with heap:=k}) Z2 λ k' Z3 b3=>?_;have hT:s.heap.objs.size≠z:=VX (Up Z)
  have kp3:∀b o,b∉[z,ti,to,t1,t2]->s.heap.get? b=some o->k'.get? b=some o:=λ b o hb e=>by
   simp only[Ux,WK,UD,Ve,Wo]at hb;exact b3.extBut _ _ hb.1 (kp b o hb.1 hb.2.2.1 hb.2.2.2.1 hb.2.2.2.2 e)
  refine⟨.ref s.heap.objs.size,upd H s.heap.objs.size (.tup [x,y]),ED (s:=s) (tk:=s.toks) I hf kp3 (Ue _) ?_,rfl,⟨s.heap.objs.size,x,y,I.aO.fresh (Ue _),rfl,rfl,?_,?_⟩,?_,?_⟩
  . refine⟨Ur rfl,[u,v],.cons ru (.cons rv .nil),?_⟩;exact⟨_,b3.extBut _ _ hT pT,rfl,_,rfl⟩
  . intro xs' q';rw[o7 I q' q1];exact ex
  . intro ys' q';rw[o7 I q' q2];exact ey
  . refine⟨Z3,b3.extBut _ _ n1 (kp _ _ n1 n5 n6 n7 pI),⟨_,_,b3.extBut _ _ n2 pO2⟩,i_ j1.1 λ o e=>b3.extBut _ _ n3 e,i_ j2.1 λ o e=>b3.extBut _ _ n4 e⟩
  . intro b hb
    have:b≠s.heap.objs.size:=by
     obtain⟨o,e,_⟩:∃o,s.heap.get? b=some o/\True:=by
      simp only[Ux,UD,Ww]at hb;rcases hb with rfl|rfl|rfl|rfl|rfl
      . exact⟨_,Z,trivial⟩
      . exact⟨_,pI,trivial⟩
      . exact⟨_,pO,trivial⟩
      . obtain⟨o,e,_⟩:=gT i1;exact⟨o,e,trivial⟩
      . obtain⟨o,e,_⟩:=gT i2;exact⟨o,e,trivial⟩
     exact UG (Up e)
    rw[aB this];exact(hf b hb).1
 done:=by
  intro X hP hw hK hc i pins s σ H E I hf st hg;subst hP hw hK;obtain⟨Z,pI,⟨a,b',pO⟩,i1,i2⟩:=st;obtain⟨xs,ys,q1,q2,he⟩:=hg;obtain⟨us,r1,l1⟩:=fA I q1;obtain⟨vs,r2,l2⟩:=fA I q2;have e1:=r1.length;have e2:=r2.length;have m1:=D.a1;have m2:=D.a2;simp only[Ux,WK,UD,Ve,Wo]at m1 m2;have tz:s.TypeIs (.ref z) "zip":=⟨_,Z,rfl⟩
  unfold pyNext;refine T_ (WV (Vh (name:=Str.ofString "__next__") tz V5 (VO V5 tz Xu (IL (I.ok.hd hc) D (iS k1 t1 a1 m1.2.2.2.1 us.toArray) (iS k2 t2 a2 m2.2.2.2.2 vs.toArray) Z pI pO ⟨i1,l1⟩ ⟨i2,l2⟩ ?_ λ k e kp hx=>?_) (Xf _))))
  . rcases he with h|h
    . left;simp;omega
    . right;simp;omega
  . obtain⟨o,ho,hc2⟩:=hx;refine T_ (Yu (T:="StopIteration") (b:=true) ⟨o,ho,hc2⟩ YQ ?_);refine Ul ⟨rfl,ET (s:=s) (tk:=s.toks) I hf λ b o hb e=>?_⟩;simp only[Ux,WK,UD,Ve,Wo]at hb;exact kp b o hb.1 hb.2.2.1 hb.2.2.2.1 hb.2.2.2.2 e
 self:=λ _ _ _ _ _ st h=>Xv st.1 h
abbrev CH(h:Heap)(k1:SK)(a1:Addr):Heap:=h.push (qc k1 a1)
abbrev zU(h:Heap)(k1 k2:SK)(a1 a2:Addr):Heap:=(CH h k1 a1).push (qc k2 a2)
abbrev Kc(h:Heap)(k1 k2:SK)(a1 a2:Addr):Heap:=(zU h k1 k2 a1 a2).push {cls:= .type "tuple",data:= .seq #[.ref h.objs.size,.ref (CH h k1 a1).objs.size]}
abbrev Kn(h:Heap)(k1 k2:SK)(a1 a2:Addr):Heap:=(Kc h k1 k2 a1 a2).push {cls:= .type "tuple",data:= .seq #[.none,.none]}
abbrev Dk(h:Heap)(k1 k2:SK)(a1 a2:Addr):Heap:=(Kn h k1 k2 a1 a2).push {cls:= .type "zip",data:= .fields #[.none,.bool false,.bool false,.ref (zU h k1 k2 a1 a2).objs.size,.ref (Kc h k1 k2 a1 a2).objs.size]}
theorem Gs(k1 k2:SK)(a1 a2:Addr)(us vs:Array Value):Meets (Builtin.«zip.__new__» ⟨[.type "zip",.ref a1,.ref a2],[]⟩) (λ _ R s=>g_ k1 s.heap a1 us/\g_ k2 s.heap a2 vs/\
 R (.ok (.ret (.ref (Kn s.heap k1 k2 a1 a2).objs.size))) {s with heap:=Dk s.heap k1 k2 a1 a2}):=
 .of_wp λ P w A R s h=>by
  obtain⟨hp,g,d,tk,os⟩:=s;obtain⟨c1,c2,h⟩:=h;have hsub:=sub_zip;have L1:g_ k1 (Shared.heap ⟨hp,g,d,tk,os⟩) a1 us:=c1;have L2:g_ k2 (Shared.heap ⟨hp.push (qc k1 a1),g,d,tk,os⟩) a2 vs:=g_.push c2 _
  wp_walk using uG L1,uG L2
  exact⟨_,rfl,h⟩
theorem Jm{P:Program}{w:World}{A:Around}{s:Shared}{E:Value->Shared->Prop}{k1 k2:SK}{a1 a2:Addr}{us vs:Array Value}{Q:Value->Shared->Prop}(c1:g_ k1 s.heap a1 us)(c2:g_ k2 s.heap a2 vs)
 (q:∀g n,n=s.heap.objs.size->IsZip g (n+4) (n+2) (n+3) .none->IsPair g (n+2) (.ref n) (.ref (n+1))->IsPair g (n+3) .none .none->mD k1 n a1 0 g->mD k2 (n+1) a2 0 g->(∀c o,s.heap.get? c=some o->g.get? c=some o)->Q (.ref (n+4)) {s with heap:=g}):
 wpAny (model P w) A (call (.type "zip") [.ref a1,.ref a2]) Q E s:=by
 refine Y6 F.called_zip (by decide) (F.typeCall_zip_2 _ _) (F.newCall_zip_2 _ _) (λ ob=>F.args_object_init_3 ob _ _) F.entry_zip_new (Gs k1 k2 a1 a2 us vs) ⟨c1,c2,?_⟩;have y1:(CH s.heap k1 a1).objs.size=s.heap.objs.size+1:=U7 ..;have y2:(zU s.heap k1 k2 a1 a2).objs.size=s.heap.objs.size+2:=by rw[U7,y1]
 have y3:(Kc s.heap k1 k2 a1 a2).objs.size=s.heap.objs.size+3:=by rw[U7,y2]
 have y4:(Kn s.heap k1 k2 a1 a2).objs.size=s.heap.objs.size+4:=by rw[U7,y3]
 have e5:(Dk s.heap k1 k2 a1 a2).get? (Kn s.heap k1 k2 a1 a2).objs.size=some _:=Ut _ rfl;have e4:(Dk s.heap k1 k2 a1 a2).get? (Kc s.heap k1 k2 a1 a2).objs.size=some _:=Uc _ (Ut _ rfl);have e3:(Dk s.heap k1 k2 a1 a2).get? (zU s.heap k1 k2 a1 a2).objs.size=some _:=Uc _ (Uc _ (Ut _ rfl));have e2:(Dk s.heap k1 k2 a1 a2).get? (CH s.heap k1 a1).objs.size=some (qc k2 a2):=Uc _ (Uc _ (Uc _ (Ut _ (by cases k2<;>rfl))));have e1:(Dk s.heap k1 k2 a1 a2).get? s.heap.objs.size=some (qc k1 a1):=Uc _ (Uc _ (Uc _ (Uc _ (Ut _ (by cases k1<;>rfl)))));show _/\_;rw[y2,y3,y4]at e5;rw[y1,y2]at e3;rw[y3]at e4;rw[y1]at e2;rw[y4];exact⟨⟨_,e5,rfl⟩,q _ _ rfl e5 e3 e4 (rk (h:=s.heap) e1) (rk (h:=s.heap) e2) λ c o x=>Uc _ (Uc _ (Uc _ (Uc _ (Uc _ x))))⟩
def Bu:D->SK
 | .tup _=> .t
 |_=> .l
def zH(k:SK)(G:Hp)(a:Addr)(vs:List V):Prop:=match k with
 | .l=>Rd G a (.lst vs)
 | .t=>G a=some (.tup vs)
theorem eY{K:PySem.W.Frag}{k:SK}{G F H:Hp}(P:cC G F H){a:Addr}{vs:List V}(h:zH k G a vs):kj k K H a vs:=by
 cases k
 . exact .inl (gK P h)
 . exact jH.of (P.get h)
theorem gR{α:List (Option Addr)}{H:Hp}{st:ag}{d:D}{v:V}{xs:List D}(S:a7 α st H)(r:Rep α H d v)(e:items? st d=some xs):∃p vs,v= .ref p/\aI α H xs vs/\zH (Bu d) H p vs:=by
 cases d<;>try(cases e;done)
 . unfold items? at e;simp only at e;split at e
   . rename_i ys q;cases e;obtain⟨a,ea,vs,h1,h2⟩:=S.iZ q;exact⟨a,vs,cY ea r,h2,Rd.of h1⟩
   . cases e
 . cases e;unfold Rep at r;obtain⟨a,vs,rfl,_,h1,h2⟩:=r;exact⟨a,vs,rfl,h2,h1⟩
 . cases e;unfold Rep at r;obtain⟨a,vs,rfl,_,h1,h2⟩:=r;exact⟨a,vs,rfl,h2,h1⟩
def fX(xs ys:List D):List D:=(xs.zip ys).map λ p=> .tup [p.1,p.2]
theorem rW{xs ys:List D}:(fX xs ys).length=min xs.length ys.length:=by unfold fX;simp
theorem wN{xs ys:List D}{n:Nat}{d:D}(e:(fX xs ys)[n]?=some d):∃x y,xs[n]?=some x/\ys[n]?=some y/\d= .tup [x,y]:=by
 unfold fX at e;rw[Uw]at e;cases q:(xs.zip ys)[n]? with
 |none=>rw[q]at e;cases e
 |some p=>
  rw[q]at e;cases e;rw[List.getElem?_zip_eq_some]at q;exact⟨p.1,p.2,q.1,q.2,rfl⟩
theorem NG{K:PySem.W.Frag}{k1 k2:SK}{a1 a2:Addr}{α:List (Option Addr)}{G:Hp}{ok:ag->Prop}{xs ys:List D}
 (h:∀α' G' st',Step α G α' G'->a7 α' st' G'->ok st'->∃vs ws,zH k1 G' a1 vs/\zH k2 G' a2 ws/\aI α' G' xs vs/\aI α' G' ys ws):uR (RM K k1 k2 a1 a2) α G ok (fX xs ys) where
 stop:=λ n α' G' F' H' st' s P S o hn=>by
  obtain⟨vs,ws,h1,h2,r1,r2⟩:=h α' G' st' s S o;rw[rW]at hn;refine⟨vs,ws,eY P h1,eY P h2,?_⟩;have:=r1.length;have:=r2.length;omega
 go:=λ n d α' G' F' H' st' s P S o hn=>by
  obtain⟨vs,ws,h1,h2,r1,r2⟩:=h α' G' st' s S o;obtain⟨x,y,ex,ey,rfl⟩:=wN hn;obtain⟨v,ev,_⟩:=r1.get ex;obtain⟨u,eu,_⟩:=r2.get ey;exact⟨vs,ws,v,u,eY P h1,eY P h2,ev,eu⟩
 pK:=λ n d α' G' F' H' st' x H'' s P S o hn y=>by
  obtain⟨vs,ws,h1,h2,r1,r2⟩:=h α' G' st' s S o;obtain⟨c,e,ec,ee,rfl⟩:=wN hn;obtain⟨T,v,u,hT,rfl,rfl,y1,y2⟩:=y;obtain⟨v',ev,rv⟩:=r1.get ec;obtain⟨u',eu,ru⟩:=r2.get ee;rw[y1 vs (eY P h1)]at ev;rw[y2 ws (eY P h2)]at eu;cases ev;cases eu;have hg:=(P.none hT).1;refine⟨upd G' T (.tup [v,u]),Step.laid hg,P.laid hT,S.laid hg,?_⟩;unfold Rep;refine⟨T,[v,u],rfl,S.kF hg,bc,?_⟩;unfold aI;refine⟨v,[u],rfl,rv.step (Step.laid hg),?_⟩;unfold aI;exact⟨u,[],rfl,ru.step (Step.laid hg),by unfold aI;rfl⟩
def JL(ds:List D)(st1:ag)(K:List D->(ag->Prop)->ag->Prop):Prop:=match ds with
 | [x,y]=>(match items? st1 x,items? st1 y with
   |some xs,some ys=>K (fX xs ys) (λ st'=>items? st' x=some xs/\items? st' y=some ys) st1
   |_,_=>False)
 |_=>False
@[irreducible] def xl:List D->ag->(List D->(ag->Prop)->ag->Prop)->Prop:=JL
def qU(t:DA):DI:=λ σ st K=>t σ st λ ds st1=>xl ds st1 K
theorem Ni{n a1 a2:Nat}(h1:a1<n)(h2:a2<n):Ee (n+4) (n+2) (n+3) n (n+1) a1 a2:=by
 have e0:([n+4,n+2,n+3,n,n+1]:List Nat).Nodup:=by
  simp only[Wl,Ux,WK,UD,Ve,Wo,List.nodup_nil];omega
 have e1:∀a:Nat,a<n->a∉([n+4,n+2,n+3,n,n+1]:List Nat):=λ a ha=>by
  simp only[Ux,WK,UD,Ve,Wo];omega
 exact⟨e0,e1 a1 h1,e1 a2 h2⟩
theorem Oe{X:Cx}{a b:Expr}{elts:List Expr}{kx:Nat}{tpos p pos:Pos}{t:DA}(hg:Gl X "zip")(hm:X.mg "zip"=none)(ha:PA X [a,b] (LA t))(hs:starEach [a,b] X.env=[(false,eval a X.env),(false,eval b X.env)])(hs2:starEach [b] X.env=[(false,eval b X.env)]):
 PI X (.Tuple elts kx tpos) (.Call (.Name "zip" p) [a,b] [] pos) (LI (qU t)):=by
 intro pins s σ H R I h;obtain⟨α,σd,st,K,G,F,P,RS,S,t,k⟩:=h;refine Call_ (kB I hg hm boot_zip (Vr (b_ (ha pos pins s σ H (λ vs H1=>∃ds α1 G1 st1,Step α G α1 G1/\cC G1 F H1/\a7 α1 st1 G1/\aI α1 G1 ds vs/\xl ds st1 K) I ⟨α,σd,st,_,G,F,P,RS,S,t,λ ds st1 q α1 G1 H1 vs s1 P1 S1 r1=>⟨ds,α1,G1,st1,s1,P1,S1,r1,q⟩⟩) λ us s1 ⟨vs,H1,I1,rv,ds,α1,G1,st1,w1,P1,S1,r1,q⟩=>?_) (by rw[hs,hs2]) (by rw[hs2];rfl)));unfold xl JL at q;split at q
 . rename_i x y;split at q
   . rename_i xs ys ex ey;obtain⟨v1,v2,rfl,q1,q2⟩:=qh r1 rfl;obtain⟨p1,vs1,rfl,g1,c1⟩:=gR S1 q1 ex;obtain⟨p2,vs2,rfl,g2,c2⟩:=gR S1 q2 ey;obtain⟨u1,u2,rfl,ru1,ru2⟩:=vals2 rv;cases ru1;cases ru2;obtain⟨its1,_,l1⟩:=fA I1 (eY P1 c1);obtain⟨its2,_,l2⟩:=fA I1 (eY P1 c2);refine Jm l1 l2 λ g n hn Z pI pO i1 i2 kp=>?_;obtain⟨o1,eo1⟩:=l1.some;obtain⟨o2,eo2⟩:=l2.some;refine Xv (s:={s1 with heap:=g}) Z ?_;refine⟨n+4,[n+4,n+2,n+3,n,n+1],_,_,H1,rfl,I1.kept (t':=s1.toks) kp,JY (Bu x) (Bu y) (Ni (by rw[hn];exact Up eo1) (by rw[hn];exact Up eo2)),⟨Z,pI,⟨_,_,pO⟩,i1,i2⟩,λ b hb=>?_,?_⟩
     . have hb':s1.heap.objs.size<=b:=by
        simp only[Ux,UD,Ww]at hb;rcases hb with rfl|rfl|rfl|rfl|rfl<;>(rw[<-hn];first|exact Ue _|exact Yv _ _)
       exact I1.uE hb' (I1.aO.fresh hb')
     . refine k _ _ st1 q _ α1 G1 H1 w1 P1 S1 (NG λ α' G' st' s' S' o=>?_);obtain⟨p1',ws1,e1,f1,d1⟩:=gR S' (q1.step s') o.1;obtain⟨p2',ws2,e2,f2,d2⟩:=gR S' (q2.step s') o.2;cases e1;cases e2;exact⟨ws1,ws2,d1,d2,f1,f2⟩
   . exact q.elim
 . exact q.elim
theorem q_{st:ag}{x y:D}{xs ys:List D}{K:List D->(ag->Prop)->ag->Prop}(ex:items? st x=some xs)(ey:items? st y=some ys)(k:∀ok:ag->Prop,(∀st',items? st' x=some xs->items? st' y=some ys->ok st')->K (fX xs ys) ok st):xl [x,y] st K:=by
 unfold xl JL;simp only[ex,ey];exact k _ λ st' h1 h2=>⟨h1,h2⟩
theorem qH{X:Cx}{a b:Expr}{elts:List Expr}{kx:Nat}{tpos p pos:Pos}{ar:DA}(hg:Gl X "zip")(hm:X.mg "zip"=none)(ha:JA X [a,b] ar)(hs:notStar a=true:=by rfl)(hs2:notStar b=true:=by rfl):JI X (.Tuple elts kx tpos) (.Call (.Name "zip" p) [a,b] [] pos) (qU ar):=by
 unfold JI;unfold JA at ha;exact Oe hg hm ha (by rw[cM hs,cM hs2];rfl) (cM hs2)
theorem Bp(f:Nat->Int):∀n,preSum f (n+1)=f 0+preSum (λ i=>f (i+1)) n
 |0=>by show preSum f 0+f 0=f 0+0;show(0:Int)+f 0=f 0+0;omega
 |n+1=>by
  have h:=Bp f n;show preSum f (n+1)+f (n+1)=f 0+(preSum (λ i=>f (i+1)) n+f (n+1));rw[h];omega
theorem DX:∀ns:List Int,preSum (λ i=>ns.getD i 0) ns.length=ns.sum
 | []=>rfl
 |n::ns=>by
  rw[UQ,Bp];have:(λ i=>(n::ns).getD (i+1) 0)=λ i=>ns.getD i 0:=by funext i;simp
  rw[this,DX ns,List.sum_cons];rfl
section
variable {X:Cx}
def AA:ie:=λ ds st K=>match ds with| [.lst xs]=>(match qf xs with|some ns=>K (.int ns.sum) st|none=>False)|_=>False
theorem qC:∀ {ns:List Int} {us:List Value},Vals (ns.map V.int) us->∀(i:Nat) (u:Value),us[i]?=some u->∃t,u=Value.int (ns.getD i 0) t
 | [],_,.nil,i,u,e=>by simp at e
 |n::ns,_,.cons h t,0,u,e=>by
  obtain⟨tk,rfl⟩:=h;simp at e;exact⟨tk,by rw[<-e];rfl⟩
 |n::ns,_,.cons h t,i+1,u,e=>by
  obtain⟨tk,q⟩:=qC t i u (by simpa using e);exact⟨tk,by rw[q];simp⟩
theorem QF(hc:X.calm=true):cO X (.builtin "sum") (jN AA):=λ pins s σ H xs us Q I rs ⟨α,ds,st,K,G,F',P,r,S,q,k⟩=>by
 unfold AA at q;split at q
 . rename_i ys;split at q
   . rename_i ns e;obtain⟨v,rfl,r1⟩:=mv r rfl;unfold Rep at r1;obtain⟨a,vs,rfl,na,h1,h2⟩:=r1;obtain⟨u,rfl,ru⟩:=vals1 rs;cases ru;have hv:=zB h2 e;subst hv;obtain⟨z,its,n,rv,hl,eo⟩:=Inv.CC I (gK P h1);have isL:s.heap.IsList a its.toArray:=⟨_,eo,rfl,n,rfl⟩
     refine call_sum_walkAnyB (X_ isL ?_);have hne:a≠s.heap.objs.size:=UG (Up eo);refine⟨s.heap.objs.size,_,_,_,_,_,_,λ i=>ns.getD i 0,rfl,(Walks.list (A:=X.A.in1) (I.ok.hd hc) _ a hne its.toArray).toS,⟨⟨_,Ut _ rfl,rfl,rfl⟩,⟨_,Uc _ eo,rfl,n,rfl⟩⟩,?_,?_,?_⟩
     . intro b hb;rw[U7];simp only[Ux,UD,Ww]at hb;rcases hb with rfl|rfl
       . exact UN _
       . exact US (Up eo)
     . intro i w hw;obtain⟨t,e⟩:=qC rv i w (by simpa using hw);exact .inl ⟨t,e⟩
     . intro s' t' hm
       have kp:∀b o,s.heap.get? b=some o->s'.heap.get? b=some o:=λ b o q=>hm.heap b o (by
        intro hb;have:b=s.heap.objs.size:=by simpa using hb
        exact absurd (Up q) (by rw[this];exact U0 _)) (Uc _ q)
       have es:s'= {s with heap:=s'.heap,toks:=s'.toks}:=by
        have g:=hm.gens;have d:=hm.drawn;have o:=hm.os;cases s';cases s
        simp_all
       have en:preSum (λ i=>ns.getD i 0) its.toArray.size=ns.sum:=by
        have:its.toArray.size=ns.length:=by rw[Um,<-hl,Uk]
        rw[this];exact DX ns
       rw[en,es];exact⟨.int ns.sum,H,I.kept (t':=s'.toks) kp,⟨t',rfl⟩,k.here P q S (by unfold Rep;rfl)⟩
   . exact q.elim
 . exact q.elim
@[irreducible] def yz:ie:=AA
theorem Lh(hc:X.calm=true):cO X (.builtin "sum") (jN yz):=by unfold yz;exact QF hc
end
theorem ints_map:∀ns:List Int,qf (ns.map D.int)=some ns
 | []=>rfl
 |n::ns=>by simp[qf,ints_map ns]
theorem OH{st:ag}{K:DK}{xs:List D}{ns:List Int}(h:qf xs=some ns)(k:K (.int ns.sum) st):yz [.lst xs] st K:=by unfold yz AA;simp only[h];exact k
section
variable {X:Cx}{pos:Pos}
theorem Fh{α:List (Option Addr)}{H:Hp}{ds:List D}{xs:List V}{d e f:D}(r:aI α H ds xs)(q:ds=[d,e,f]):∃v u t,xs=[v,u,t]/\Rep α H d v/\Rep α H e u/\Rep α H f t:=by
 subst q;unfold aI at r;obtain⟨v,q,rfl,h1,h2⟩:=r;obtain⟨u,t,rfl,h3,h4⟩:=qh h2 rfl;exact⟨v,u,t,rfl,h1,h3,h4⟩
def vm(i j k:Nat):ib:=λ d σ=>match d with| .tup [x,y,z]=>some (((σ.set i (some x)).set j (some y)).set k (some z))|_=>none
theorem JM{tg:Expr}{i j k:Nat}(h:PG X tg (Jd X.K 3 (vh (kO i) (vh (kO j) (vh (kO k) Iu))))):PG X tg (LG (vm i j k)):=PG.imp h λ v σ H Q ⟨α,σd,st,d,K,G,F,P,R,S,r,⟨σ',e,q⟩,kk⟩=>by
 unfold vm at e;split at e
 . rename_i x y z;cases e;unfold Rep at r;obtain⟨a,vs,rfl,na,h1,h2⟩:=r;obtain⟨v1,v2,v3,rfl,r1,r2,r3⟩:=Fh h2 rfl;exact⟨a,_,rfl,.of (P.get h1),rfl,v1,_,rfl,v2,_,rfl,v3,_,rfl,rfl,kk.here P q (((R.set i r1).set j r2).set k r3) S⟩
 . cases e
theorem QD{i j k n:Nat}{x y z:Str}{px py pz:Pos}(hc:X.calm=true)(hN:X.N.Nodup)(hx:Loc X.env.scope x:=by first|exact Or.inl rfl|exact Or.inr rfl)(hf:X.fn x=true\/X.env.scope.names.lookup x=some .local:=by first|exact .inl rfl|exact .inr rfl)(hy:Loc X.env.scope y:=by first|exact Or.inl rfl|exact Or.inr rfl)(hg:X.fn y=true\/X.env.scope.names.lookup y=some .local:=by first|exact .inl rfl|exact .inr rfl)(hz:Loc X.env.scope z:=by first|exact Or.inl rfl|exact Or.inr rfl)(hh:X.fn z=true\/X.env.scope.names.lookup z=some .local:=by first|exact .inl rfl|exact .inr rfl)
 (hi:X.N[i]?=some x:=by rfl) (hj:X.N[j]?=some y:=by rfl) (hk:X.N[k]?=some z:=by rfl):JG X (.Tuple [.Name x px,.Name y py,.Name z pz] n pos) (vm i j k):=by
 unfold JG;exact JM (F8 hc (pC (o9 hN hi hx hf) (pC (o9 hN hj hy hg) (pC (o9 hN hk hz hh) DV))))
end
end L3
namespace L3
open PySem L2 PySem.SeqAt
open PySem.Spec hiding items?
open PyProof.Rows hiding St
section
variable {X:Cx}{pins:List (Addr×Obj)}{σ:L2.St}{H:Hp}{s:Shared}{α:List (Option Addr)}
theorem DL{A:Around}{d e:D}{x y:V}{u v:Value}(hd:zi d=true)(he:zi e=true)(rd:Rep α H d x)(re:Rep α H e y)(rx:RelV x u)(ry:RelV y v):RcNeAt A s u v (!cU d e):=by
 cases d<;>cases e<;>try(first|(cases hd;done)|(cases he;done))
 all_goals(unfold Rep at rd re;subst rd re)
 all_goals(first|(obtain⟨t,rfl⟩:=rx;obtain⟨t',rfl⟩:=ry)|(obtain⟨t,rfl⟩:=rx;cases ry)|(cases rx;obtain⟨t,rfl⟩:=ry)|(cases rx;cases ry))
 all_goals unfold cU
 . exact RcNeAt.none_none
 . exact RcNeAt.none_bool _
 . exact RcNeAt.none_int _ _
 . exact RcNeAt.none_str _ _
 . exact RcNeAt.bool_none _
 . exact RcNeAt.bool_bool _ _
 . exact RcNeAt.bool_int _ _ _
 . exact RcNeAt.bool_str _ _ _
 . exact RcNeAt.int_none _ _
 . exact RcNeAt.int_bool _ _ _
 . exact RcNeAt.int_int _ _ _ _
 . exact RcNeAt.int_str _ _ _ _
 . exact RcNeAt.str_none _ _
 . exact RcNeAt.str_bool _ _ _
 . exact RcNeAt.str_int _ _ _ _
 . exact RcNeAt.str_str _ _ _ _
theorem zk(I:Inv X pins σ H s){A:Around}{xs:List D}{e:D}{x y:V}{u v:Value}(he:zi e=true)(rd:Rep α H (.lst xs) x)(re:Rep α H e y)(rx:RelV x u)(ry:RelV y v)(hu:A.units<cLine):
 RcNeAt A s u v (!cU (.lst xs) e)/\RcNeAt A s v u (!cU e (.lst xs)):=by
 obtain⟨a,vs,its,rfl,_,_,hl⟩:=lst_is I rd rx;cases e<;>try(cases he;done)
 all_goals(unfold Rep at re;subst re)
 all_goals(first|(obtain⟨t,rfl⟩:=ry)|(cases ry))
 all_goals unfold cU
 . exact⟨RcNeAt.list_none hl hu,RcNeAt.none_list hl hu⟩
 . exact⟨RcNeAt.list_bool _ hl hu,RcNeAt.bool_list _ hl hu⟩
 . exact⟨RcNeAt.list_int _ _ hl hu,RcNeAt.int_list _ _ hl hu⟩
 . exact⟨RcNeAt.list_str _ _ hl hu,RcNeAt.str_list _ _ hl hu⟩
theorem zO(I:Inv X pins σ H s){A:Around}{xs:List D}{e:D}{x y:V}{u v:Value}(he:zi e=true)(rd:Rep α H (.tup xs) x)(re:Rep α H e y)(rx:RelV x u)(ry:RelV y v)(hu:A.units<cLine):
 RcNeAt A s u v (!cU (.tup xs) e)/\RcNeAt A s v u (!cU e (.tup xs)):=by
 obtain⟨a,vs,its,rfl,_,_,hl⟩:=tup_is I rd rx;cases e<;>try(cases he;done)
 all_goals(unfold Rep at re;subst re)
 all_goals(first|(obtain⟨t,rfl⟩:=ry)|(cases ry))
 all_goals unfold cU
 . exact⟨RcNeAt.tuple_none hl hu,RcNeAt.none_tuple hl hu⟩
 . exact⟨RcNeAt.tuple_bool _ hl hu,RcNeAt.bool_tuple _ hl hu⟩
 . exact⟨RcNeAt.tuple_int _ _ hl hu,RcNeAt.int_tuple _ _ hl hu⟩
 . exact⟨RcNeAt.tuple_str _ _ hl hu,RcNeAt.str_tuple _ _ hl hu⟩
theorem Qm(I:Inv X pins σ H s)(n:Nat)(A:Around)(d e:D)(x y:V)(u v:Value)(hd:pl n d=true)(he:pl n e=true)(rd:Rep α H d x)(re:Rep α H e y)(rx:RelV x u)(ry:RelV y v)(hu:A.units+n<cLine):RcNeAt A s u v (!cU d e):=by
 cases n with
 |zero=>
  refine DL ?_ ?_ rd re rx ry
  . cases d<;>first|rfl|(cases hd)
  . cases e<;>first|rfl|(cases he)
 |succ n=>
  have hu0:A.units<cLine:=by omega
  have hin:A.in1.units+n<cLine:=by rw[Around.in1_units];omega
  cases d<;>try(cases hd;done)
  case lst xs=>
   cases e<;>try(cases he;done)
   case lst ys=>
    obtain⟨a,vs,its,rfl,r1,v1,l1⟩:=lst_is I rd rx;obtain⟨b,ws,jts,rfl,r2,v2,l2⟩:=lst_is I re ry;have e1:=r1.length;have e2:=v1.length;have e3:=r2.length;have e4:=v2.length;unfold cU;by_cases hlen:xs.length=ys.length
    . rw[p7 hlen];have hsz:its.toArray.size=jts.toArray.size:=by simp only[Um];omega
      have hx:xs.length=its.toArray.size:=by simp only[Um];omega
      rw[hx];refine RcNeAt.lists l1 l2 hsz hu0 λ j h1 h2=>?_;obtain⟨p,_,q1,q2⟩:=lI r1 v1 j (by simpa using h1);obtain⟨p',_,q1',q2'⟩:=lI r2 v2 j (by simpa using h2);exact(Fm I n A.in1 _ _ p p' _ _ (jF (by unfold pl at hd;exact hd) j) (jF (by unfold pl at he;exact he) j) q1 q1' (by simpa using q2) (by simpa using q2') hin).2
    . rw[pR hlen];exact RcNeAt.lists_lengths l1 l2 (by simp only[Um,Yj,ne_eq];omega) hu0
   case tup ys=>
    obtain⟨a,vs,its,rfl,r1,v1,l1⟩:=lst_is I rd rx;obtain⟨b,ws,jts,rfl,r2,v2,l2⟩:=tup_is I re ry;unfold cU;exact RcNeAt.list_tuple l1 l2 hu0
   all_goals exact(zk I rfl rd re rx ry hu0).1
  case tup xs=>
   cases e<;>try(cases he;done)
   case tup ys=>
    obtain⟨a,vs,its,rfl,r1,v1,l1⟩:=tup_is I rd rx;obtain⟨b,ws,jts,rfl,r2,v2,l2⟩:=tup_is I re ry;have e1:=r1.length;have e2:=v1.length;have e3:=r2.length;have e4:=v2.length;unfold cU
    have key:=RcNeAt.tuples (e:=λ j=>cU (xs.getD j .aF) (ys.getD j .aF)) l1 l2 hu0 λ j h1 h2=>by
     obtain⟨p,_,q1,q2⟩:=lI r1 v1 j (by simpa using h1);obtain⟨p',_,q1',q2'⟩:=lI r2 v2 j (by simpa using h2);exact(Fm I n A.in1 _ _ p p' _ _ (jF (by unfold pl at hd;exact hd) j) (jF (by unfold pl at he;exact he) j) q1 q1' (by simpa using q2) (by simpa using q2') hin).2
    by_cases hlen:xs.length=ys.length
    . rw[p7 hlen];have hsz:its.toArray.size=jts.toArray.size:=by simp only[Um];omega
      have hx:xs.length=its.toArray.size:=by simp only[Um];omega
      rw[hsz,Y5,Xr,Bool.and_true,<-hsz,<-hx]at key;exact key
    . rw[pR hlen];have hne:(its.toArray.size==jts.toArray.size)=false:=by simp only[Um,Wc,ne_eq];omega
      rw[hne,YN]at key;exact key
   case lst ys=>
    obtain⟨a,vs,its,rfl,r1,v1,l1⟩:=tup_is I rd rx;obtain⟨b,ws,jts,rfl,r2,v2,l2⟩:=lst_is I re ry;unfold cU;exact RcNeAt.tuple_list l1 l2 hu0
   all_goals exact(zO I rfl rd re rx ry hu0).1
  all_goals
   cases e<;>try(cases he;done)
   case lst ys=>exact(zk I rfl re rd ry rx hu0).2
   case tup ys=>exact(zO I rfl re rd ry rx hu0).2
   all_goals exact DL rfl rfl rd re rx ry
def NW:cZ:=λ x y st K=>pl 40 x=true/\pl 40 y=true/\K (.bl (!cU x y)) st
theorem QC{k:Nat}(hr:cT k X.A):cp X (compareOp .NotEq) (LR NW):=λ pins s σ H x y v u Q I rx ry ⟨α,d,e,st,K,G,F',P,r1,r2,S,q,k⟩=>by
 have hu:=hr.units;exact Qm I 40 X.A d e x y v u q.1 q.2.1 (r1.mono P.same) (r2.mono P.same) rx ry (by omega) _ _ _ _ ⟨.bl (!cU d e),H,I,rfl,k.here P q.2.2 S (by unfold Rep;rfl)⟩
@[irreducible] def wV:cZ:=NW
theorem K6{k:Nat}(hr:cT k X.A):cp X (compareOp .NotEq) (LR wV):=by unfold wV;exact QC hr
end
theorem H0{st:ag}{K:DK}{d e:D}(h1:pl 40 d=true)(h2:pl 40 e=true)(k:K (.bl (!cU d e)) st):wV d e st K:=by unfold wV;exact⟨h1,h2,k⟩
theorem JR{st:ag}{K:DK}{d:D}(h:pl 40 d=true)(k:K (.bl false) st):wV d d st K:=H0 h h (by rw[rZ 40 d h];exact k)
theorem tJ{st:ag}{n:Nat}{xs:List D}(h:items? st (.ref n)=some xs):st[n]?=some (.lst xs):=by
 unfold items? at h;simp only at h;split at h
 . rename_i q;cases h;exact q
 . cases h
theorem Me{st:ag}{d:D}{xs:List D}{K:List D->(ag->Prop)->ag->Prop}(h:items? st d=some xs)(k:∀ok:ag->Prop,(∀st',items? st' d=some xs->ok st')->K xs ok st):qJ d st K:=by
 cases d with
 |lst ys=>cases h;exact y_ (k _ λ _ _=>trivial)
 |tup ys=>cases h;exact pk (k _ λ _ _=>trivial)
 |ref n=>
  have e:=tJ h;unfold qJ yT;simp only[e];exact k _ λ st' h'=>tJ h'
 |_=>cases h
theorem r9{env:Env}:∀(l:List (Str×NameKind)) (x:Str),(l.lookup x=some .cell\/l.lookup x=some .free)->
 ((l.map λ(n,k)=>if(k== .free&&env.scope.kind== .function&&env.kindOf n==some .cell)then(n,.cell)else(n,k)).lookup x=some .cell\/(l.map λ(n,k)=>if(k== .free&&env.scope.kind== .function&&env.kindOf n==some .cell)then(n,.cell)else(n,k)).lookup x=some .free)
 | [],x,h=>by simp at h
 |(n,k)::l,x,h=>by
  rw[UP];dsimp only;by_cases hx:x=n
  . subst hx;rw[Xx]at h;split
    . rw[Xx];exact .inl rfl
    . rw[Xx];exact h
  . have hb:(x==n)=false:=by simpa using hx
    have e1:List.lookup x ((n,k)::l)=List.lookup x l:=by rw[UR,hb]
    rw[e1]at h;have ih:=r9 (env:=env) l x h;split
    . rw[UR,hb];exact ih
    . rw[UR,hb];exact ih
theorem cz.KZ{X0:Cx}{scope0 scope:Scope}{Nc0 Nc:List Str}{C:Addr}{s:Shared}{H:Hp}{ex:List Addr}{fr:List (Option Nat)}(h:xO scope0 Nc0 scope Nc fr=true):cz (gB X0 scope0 Nc0 C s H ex) scope Nc fr:=by
 unfold xO at h;simp only[Vb]at h;obtain⟨⟨⟨⟨⟨h1,h2⟩,h3⟩,h4⟩,h5⟩,h6⟩:=h;refine⟨by simpa using h1,λ x hx hk=>?_,λ x hx hk=>?_,λ x hx hk=>?_,by simpa using h5,λ i j x e1 e2=>?_⟩
 . have:=U_.mp h2 x hx;rw[hk]at this;simpa using this
 . have:=U_.mp h3 x hx;rw[hk]at this;simpa using this
 . have:=U_.mp h4 x hx;rw[hk]at this;have z:scope0.names.lookup x.1=some .cell\/scope0.names.lookup x.1=some .free:=by simpa using this
   exact r9 _ _ z
 . have hi:i<fr.length:=(Ua.mp e2).1;have:=U_.mp h6 i (Vt.mpr hi);rw[e1,e2]at this;simp only[Vb,XE,Wg]at this;exact⟨this.1.1,this.1.2,r9 _ _ this.2⟩
end L3
namespace L3
open PySem L2
open PySem.Spec hiding items?
open PyProof.Rows hiding St
section
variable {X:Cx}
def K5:cZ:=λ x y st K=>match x,y with
 | .lst xs,.int k=>(-(2^63)<=k/\k<2^63/\xs.length*k.toNat<=sizeLine)/\K (.ref st.length) (st++[.lst (List.replicate k.toNat xs).flatten])
 |_,_=>False
theorem PY:cp X (binaryOp .Mult) (LR K5):=λ pins s σ H x y v u Q I rx ry ⟨α,d,e,st,K,G,F',P,r1,r2,S,q,k⟩=>by
 cases d<;>cases e<;>try exact q.elim
 unfold Rep at r1 r2;obtain⟨a,vs,rfl,na,ha,ra⟩:=r1;refine DG pins s σ H _ _ v u Q I rx ry ⟨a,_,vs,rfl,r2,gK P ha,q.1.1,q.1.2.1,by rw[<-ra.length];exact q.1.2.2,λ p hp=>?_⟩;exact k.new P q.2 S (aY.mpr (nB (aY.mp ra) _)) hp
@[irreducible] def E9:cZ:=K5
theorem O5:cp X (binaryOp .Mult) (LR E9):=by unfold E9;exact PY
end
theorem FO{n:Nat}{d:D}(h:d∈dq 0 n):∃i:Nat,i<n/\d= .int (i:Int):=by
 unfold dq at h;obtain⟨i,hi,rfl⟩:=Vy.mp h;rw[Vt]at hi;exact⟨i,hi,by rw[WL]⟩
theorem F0{f:Nat->D}(n:Nat):(dq 0 n).map (λ d=>match d with| .int i=>f i.toNat|_=> .aF)=(List.range n).map f:=by
 unfold dq;rw[Vo];refine UX λ i _=>?_;show f ((0:Int)+(i:Int)).toNat=f i;have:((0:Int)+(i:Int)).toNat=i:=by omega
 rw[this]
theorem sD{tg:ib}{te:DE}{σc:cy}{st:ag}{K:List D->ag->Prop}(f:Nat->D)(n:Nat)(hx:∀i:Nat,i<n->∀K',K' (f i) st->∃σ2,tg (.int (i:Int)) σc=some σ2/\te σ2 st K')(k:K ((List.range n).map f) st):dG tg du te (λ _=>True) σc (dq 0 n) [] st K:=by
 refine comp_map (g:=λ d=>match d with| .int i=>f i.toNat|_=> .aF) trivial _ (λ d hd K' q=>?_) (by rw[F0];exact k);obtain⟨i,hi,rfl⟩:=FO hd;exact hx i hi K' q
theorem jX{tg:ib}{body:DS}{E:kQ}(n:Nat)(I:Nat->cy->ag->Prop)(hend:∀σ st,I n σ st->E.nx σ st)
 (hstep:∀(j:Nat) σ st (rest:List D),j<n->I j σ st->(∀σ' st',I (j+1) σ' st'->jO tg body (λ _=>True) E rest σ' st')->∃σ1,tg (.int (j:Int)) σ=some σ1/\body {E with nx:=jO tg body (λ _=>True) E rest,ct:=jO tg body (λ _=>True) E rest,bk:=E.nx} σ1 st)
 {σ:cy} {st:ag} (h0:I 0 σ st):jO tg body (λ _=>True) E (dq 0 n) σ st:=by
 refine fG (λ rest σ st=>∃j:Nat,j<=n/\rest=(List.range (n-j)).map (λ i=>D.int (((j+i:Nat):Int)))/\I j σ st) ?_ ?_ _ _ _ ⟨0,UK _,by unfold dq;simp,h0⟩
 . rintro σ st ⟨j,hj,hr,hI⟩
   have:n-j=0:=by
    cases q:n-j with
    |zero=>rfl
    |succ m=>rw[q,VZ]at hr;cases hr
   have hjn:j=n:=by omega
   subst hjn;exact⟨trivial,hend σ st hI⟩
 . rintro d rest σ st ⟨j,hj,hr,hI⟩ next
   cases q:n-j with
   |zero=>rw[q]at hr;cases hr
   |succ m=>
    rw[q,VZ,UP,Vo]at hr;simp only[VB]at hr;obtain⟨rfl,hrest⟩:=hr;refine⟨trivial,hstep j σ st rest (by omega) hI λ σ' st' h'=>next σ' st' ⟨j+1,by omega,?_,h'⟩⟩;have:n-(j+1)=m:=by omega
    rw[this,hrest];refine UX λ i _=>?_;show D.int (((j+(i+1):Nat):Int))=D.int (((j+1+i:Nat):Int));congr 2;omega
section
variable {X:Cx}
end
section
variable {X:Cx}{pos:Pos}
end
section
variable {X:Cx}
theorem yD{M:Model}{A:Around}{E:Value->Shared->Prop}{s:Shared}{Q:Value->Shared->Prop}{x:V}{v:Value}{b:Bool}(r:RelV x v)(h:Q (.bool (!(v== .bool b))) s):wpAny M A (compareOp .IsNot v (.bool b)) Q E s:=by
 cases x
 case bl c=>
  cases r;cases c<;>cases b<;>exact Ul h
 all_goals first
  |(cases r;exact Ul h)
  |(obtain⟨t,rfl⟩:=r;exact Ul h)
def Cr:cZ:=λ x y st K=>match y with| .aF=>live st x=true/\K (.bl (!KI x)) st| .bl b=>live st x=true/\K (.bl (!GX x b)) st|_=>False
theorem IS:cp X (compareOp .IsNot) (LR Cr):=λ pins s σ H x y v u Q I rx ry ⟨α,d,e,st,K,G,F',P,r1,r2,S,q,k⟩=>by
 cases e<;>try exact q.elim
 . refine Nl pins s σ H x y v u Q I rx ry ⟨α,d,.aF,st,K,G,F',P,r1,r2,S,⟨q.1,?_⟩,k⟩;have q2:=q.2;cases d<;>exact q2
 . rename_i b;unfold Rep at r2;subst r2;cases ry;refine yD rx ?_;rw[DZ S q.1 r1 rx];exact⟨.bl (!GX d b),H,I,rfl,k.here P q.2 S (by unfold Rep;rfl)⟩
@[irreducible] def xV:cZ:=Cr
theorem Po:cp X (compareOp .IsNot) (LR xV):=by unfold xV;exact IS
end
section
variable {st:ag}{K:DK}{d:D}{b:Bool}
theorem NC(h:live st d=true)(k:K (.bl (!KI d)) st):xV d .aF st K:=by unfold xV;exact⟨h,k⟩
end
section
variable {X:Cx}
end
end L3
namespace L3
open PySem L2
open PySem.Spec hiding items?
open PyProof.Rows hiding St
open AutoSeq1 (wpAny_loadPart')
theorem M1{P:Program}{w:World}{A:Around}(hh:A.handled=none)(k:SK)(t a:Addr)(hne:a≠t)(us:Array Value):Draws P w A t [t,a] us.size (λ i v=>us[i]?=some v) (λ n g=>mD k t a n g/\g_ k g a us) where
 live:=λ i h z=>((iS (P:=P) (w:=w) k t a hne us).lv i h z).1
 frame:=λ i h h' z kp=>(iS (P:=P) (w:=w) k t a hne us).fr i h h' z λ b hb o e=>kp b (by rcases hb with rfl|rfl<;>simp) o e
 item:=λ i s Q E hi z q=>(iS (P:=P) (w:=w) k t a hne us).nx i A s Q E us[i] z (by simp[hi]) λ g j sb=>q _ g s.toks (by simp[hi]) j sb
 done:=λ s Q E z q=>(iS (P:=P) (w:=w) k t a hne us).en us.size A s Q E hh z (by simp) q
theorem su(l:Addr)(items:Array Value)(n:Nat)(dct:Option Addr)(sl:Array (Option Value)):
 Meets (Builtin.«enumerate.__new__» ⟨[.type "enumerate",.ref l],[]⟩) (λ _ R s=>s.heap.get? l=some {cls:= .type "tuple",dict:=dct,data:= .seq items n,slots:=sl}/\
  R (.ok (.ret (.ref (s.heap.push {cls:= .type "tuple_iterator",data:= .fields #[.ref l,.int 0 0]}).objs.size)))
   {s with heap:=(s.heap.push {cls:= .type "tuple_iterator",data:= .fields #[.ref l,.int 0 0]}).push {cls:= .type "enumerate",data:= .fields #[.none,.bool false,.ref s.heap.objs.size,rawInt 0,.none,.none]}}):=
 .of_wp λ prog w A R s h=>by
  obtain⟨hp,g,d,tk,os⟩:=s;obtain⟨hl,h⟩:=h;have hsub:=sub_enumerate;have hL:Heap.IsTuple (Shared.heap ⟨hp,g,d,tk,os⟩) l items:=⟨_,hl,rfl,n,rfl⟩
  wp_walk using wpAny_loadPart' hl
  refine wpAny_stack_any λ st=>Ul ?_;split
  . rename_i c _ _ _ _ _;cases (c==Value.type "enumerate")
    . wp_walk using wpAny_loadPart' hl,WG hL
      exact⟨_,rfl,h⟩
    . wp_walk using wpAny_loadPart' hl,WG hL
      exact⟨_,rfl,h⟩
  . wp_walk using wpAny_loadPart' hl,WG hL
    exact⟨_,rfl,h⟩
theorem Gn{P:Program}{w:World}{A:Around}{s:Shared}{E:Value->Shared->Prop}{k:SK}{a:Addr}{us:Array Value}{Q:Value->Shared->Prop}(c:g_ k s.heap a us)
 (q:∀g,IsEnum g (s.heap.objs.size+1) s.heap.objs.size 0 .none->mD k s.heap.objs.size a 0 g->(∀b o,s.heap.get? b=some o->g.get? b=some o)->Q (.ref (s.heap.objs.size+1)) {s with heap:=g}):
 wpAny (model P w) A (call (.type "enumerate") [.ref a]) Q E s:=by
 cases k
 . exact call_enumerate_list c λ g h1 h2 _ h4=>q g h1 h2 h4
 . obtain⟨⟨c,dct,dt,sl⟩,hl,hc,n,hd⟩:=c;replace hc:c= .type "tuple":=hc;replace hd:dt= .seq us n:=hd;subst hc hd
   refine Y6 F.called_enumerate (by decide) (F.typeCall_enumerate_1 _) (F.newCall_enumerate_1 _) (λ obj=>F.args_object_init_2 obj _) F.entry_enumerate_new
    (su a us n dct sl) ⟨hl,?_⟩
   have hz:(s.heap.push {cls:= .type "tuple_iterator",data:= .fields #[.ref a,.int 0 0]}).objs.size=s.heap.objs.size+1:=U7 ..;show _/\_;rw[hz]
   have he:IsEnum ((s.heap.push {cls:= .type "tuple_iterator",data:= .fields #[.ref a,.int 0 0]}).push
    {cls:= .type "enumerate",data:= .fields #[.none,.bool false,.ref s.heap.objs.size,rawInt 0,.none,.none]}) (s.heap.objs.size+1) s.heap.objs.size 0 .none:=by
    have:=Ut (s.heap.push {cls:= .type "tuple_iterator",data:= .fields #[.ref a,.int 0 0]})
     (o:={cls:= .type "enumerate",data:= .fields #[.none,.bool false,.ref s.heap.objs.size,rawInt 0,.none,.none]}) rfl
    rw[hz]at this;exact this
   exact⟨⟨_,he,rfl⟩,q _ he ⟨_,Uc _ (Ut _ rfl),rfl,rfl⟩ λ b o x=>Uc _ (Uc _ x)⟩
def Se(K:PySem.W.Frag)(k:SK)(a:Addr):It:=
 ⟨λ i H=>∃xs x,kj k K H a xs/\xs[i]?=some x,
  λ i H v H'=>∃T x,H T=none/\v= .ref T/\H'=upd H T (.tup [.int (i:Int),x])/\∀xs,kj k K H a xs->xs[i]?=some x,
  λ i H=>∃xs,kj k K H a xs/\xs.length<=i⟩
def Ti(e t a:Addr)(k:SK)(i:Nat)(h:Heap):Prop:=(∃old,IsEnum h e t i old)/\mD k t a i h
theorem GJ{P:Program}{w:World}{K:PySem.W.Frag}{elts:List Expr}{kx:Nat}{pos:Pos}{e t a:Addr}(k:SK)(n1:e≠t)(n2:a≠e)(n3:a≠t):
 Turn P w K (.Tuple elts kx pos) (Se K k a) [e,t] e (Ti e t a k) where
 mem:=by simp
 obj:=λ i h st b hb=>by
  obtain⟨⟨old,he⟩,i1⟩:=st;simp only[Ux,UD,Ww]at hb;rcases hb with rfl|rfl
  . exact⟨_,he,λ v z=>by cases z⟩
  . exact gT i1
 keep:=λ i h h' st kp=>by
  obtain⟨⟨old,he⟩,i1⟩:=st;exact⟨⟨old,kp e (by simp) _ he⟩,i_ i1 (kp t (by simp))⟩
 item:=by
  intro X hP hw hK hc i pins s σ H E I hf st hg;subst hP hw hK;obtain⟨⟨old,he⟩,i1⟩:=st;obtain⟨xs,x,q1,ex⟩:=hg;obtain⟨us,r1,l1⟩:=fA I q1;obtain⟨u,eu,ru⟩:=r1.get ex
  have hlt:i<us.toArray.size:=by
   have:=(Ua.mp eu).1;simpa using this
  refine wpAny_pyNext_enum_itemD (M1 (A:=X.A.in1) (show X.A.in1.handled=none from I.ok.hd hc) k t a n3 us.toArray) he ⟨i1,l1⟩ hlt n1 (by simp only[Ux,UD,Ww,WK];exact⟨n1,Ui n2⟩) λ y h' tk py ho hs hT hsz kp=>⟨_,rfl,?_⟩
  have hy:y=u:=by
   have:us[i]?=some y:=by simpa using py
   rw[eu]at this;cases this;rfl
  subst hy;refine wpAny_letOwnedTupleGo_enum (s:={s with heap:=h',toks:=tk+1}) ho λ k' he' sb=>?_;have hTe:s.heap.objs.size≠e:=VX (Up he)
  have kp3:∀b o,b∉[e,t]->s.heap.get? b=some o->k'.get? b=some o:=λ b o hb eb=>by
   simp only[Ux,WK,UD,Ve,Wo]at hb;exact sb.extBut _ _ hb.1 (kp b o hb.1 hb.2 eb)
  refine⟨.ref s.heap.objs.size,upd H s.heap.objs.size (.tup [.int (i:Int),x]),ED (s:=s) (tk:=tk+1) I hf kp3 (Ue _) ?_,rfl,⟨s.heap.objs.size,x,I.aO.fresh (Ue _),rfl,rfl,?_⟩,?_,?_⟩
  . refine⟨Ur rfl,[.int (i:Int) tk,y],.cons ⟨tk,rfl⟩ (.cons ru .nil),?_⟩;exact⟨_,sb.extBut _ _ hTe hT,rfl,_,rfl⟩
  . intro xs' q';rw[o7 I q' q1];exact ex
  . refine⟨⟨_,by simpa using he'⟩,i_ hs.1 λ o eo=>sb.extBut _ _ (Ui n1) eo⟩
  . intro b hb
    have:b≠s.heap.objs.size:=by
     obtain⟨o,eb⟩:∃o,s.heap.get? b=some o:=by
      simp only[Ux,UD,Ww]at hb;rcases hb with rfl|rfl
      . exact⟨_,he⟩
      . obtain⟨o,eo,_⟩:=gT i1;exact⟨o,eo⟩
     exact UG (Up eb)
    rw[aB this];exact(hf b hb).1
 done:=by
  intro X hP hw hK hc i pins s σ H E I hf st hg;subst hP hw hK;obtain⟨⟨old,he⟩,i1⟩:=st;obtain⟨xs,q1,hle⟩:=hg;obtain⟨us,r1,l1⟩:=fA I q1;have e1:=r1.length;have tz:s.TypeIs (.ref e) "enumerate":=⟨_,he,rfl⟩
  unfold pyNext;refine T_ (WV (Vh (name:=Str.ofString "__next__") tz F.slot_enumerate_next (VO F.slot_enumerate_next tz F.entry_enumerate_next ?_ (F.args_enumerate_next_1 _))));show wpAny _ _ (field (.ref e) 2 >>= _) _ _ _;refine T_ (UY he rfl (x:= .ref t) rfl ?_);refine T_ ((iS k t a n3 us.toArray).en i _ s _ _ (I.ok.hd hc) ⟨i1,l1⟩ (by simp;omega) λ g x sb hx=>?_);obtain⟨o,ho,hc2⟩:=hx;refine T_ (Yu (T:="StopIteration") (b:=true) ⟨o,ho,hc2⟩ YQ ?_);refine Ul ⟨rfl,ET (s:=s) (tk:=s.toks) I hf λ b o hb eb=>?_⟩;simp only[Ux,WK,UD,Ve,Wo]at hb;exact sb b o hb.2 eb
 self:=λ _ _ _ _ _ st h=>wpAny_pyIter_enum st.1.choose_spec h
def kG:Nat->List D->List D
 |_,[]=>[]
 |i,x::xs=> .tup [.int (i:Int),x]::kG (i+1) xs
theorem zI:∀ {xs:List D} {i:Nat},(kG i xs).length=xs.length
 | [],_=>rfl
 |_::xs,i=>by unfold kG;rw[UQ,UQ,zI]
theorem uq:∀ {xs:List D} {i n:Nat} {d:D},(kG i xs)[n]?=some d->∃x,xs[n]?=some x/\d= .tup [.int ((i+n:Nat):Int),x]
 | [],_,_,_,e=>by unfold kG at e;cases e
 |x::xs,i,0,d,e=>by
  unfold kG at e;rw[YA]at e;cases e;exact⟨x,rfl,rfl⟩
 |x::xs,i,n+1,d,e=>by
  unfold kG at e;rw[VF]at e;obtain⟨y,h1,h2⟩:=uq e;refine⟨y,by rw[VF];exact h1,?_⟩;rw[h2,show i+1+n=i+(n+1) by omega]
theorem M5{K:PySem.W.Frag}{k:SK}{a:Addr}{α:List (Option Addr)}{G:Hp}{ok:ag->Prop}{xs:List D}
 (h:∀α' G' st',Step α G α' G'->a7 α' st' G'->ok st'->∃vs,zH k G' a vs/\aI α' G' xs vs):uR (Se K k a) α G ok (kG 0 xs) where
 stop:=λ n α' G' F' H' st' s P S o hn=>by
  obtain⟨vs,h1,r1⟩:=h α' G' st' s S o;rw[zI]at hn;refine⟨vs,eY P h1,?_⟩;have:=r1.length;omega
 go:=λ n d α' G' F' H' st' s P S o hn=>by
  obtain⟨vs,h1,r1⟩:=h α' G' st' s S o;obtain⟨x,ex,rfl⟩:=uq hn;obtain⟨v,ev,_⟩:=r1.get ex;exact⟨vs,v,eY P h1,ev⟩
 pK:=λ n d α' G' F' H' st' x H'' s P S o hn y=>by
  obtain⟨vs,h1,r1⟩:=h α' G' st' s S o;obtain⟨c,ec,rfl⟩:=uq hn;obtain⟨T,v,hT,rfl,rfl,y1⟩:=y;obtain⟨v',ev,rv⟩:=r1.get ec;rw[y1 vs (eY P h1)]at ev;cases ev;have hg:=(P.none hT).1;refine⟨upd G' T (.tup [.int (n:Int),v]),Step.laid hg,P.laid hT,S.laid hg,?_⟩;unfold Rep;refine⟨T,[.int (n:Int),v],rfl,S.kF hg,bc,?_⟩;unfold aI;refine⟨.int (n:Int),[v],rfl,?_,?_⟩
  . unfold Rep;rw[WM]
  unfold aI;exact⟨v,[],rfl,rv.step (Step.laid hg),by unfold aI;rfl⟩
def E6(ds:List D)(st1:ag)(K:List D->(ag->Prop)->ag->Prop):Prop:=match ds with
 | [x]=>(match items? st1 x with
   |some xs=>K (kG 0 xs) (λ st'=>items? st' x=some xs) st1
   |_=>False)
 |_=>False
@[irreducible] def uj:List D->ag->(List D->(ag->Prop)->ag->Prop)->Prop:=E6
def EN(t:DA):DI:=λ σ st K=>t σ st λ ds st1=>uj ds st1 K
theorem Ge:bootBuiltins "enumerate"=some (.type "enumerate"):=by decide+kernel
theorem Ng{X:Cx}{a:Expr}{elts:List Expr}{kx:Nat}{tpos p pos:Pos}{t:DA}(hg:Gl X "enumerate")(hm:X.mg "enumerate"=none)(ha:PA X [a] (LA t))(hs:starEach [a] X.env=[(false,eval a X.env)]):
 PI X (.Tuple elts kx tpos) (.Call (.Name "enumerate" p) [a] [] pos) (LI (EN t)):=by
 intro pins s σ H R I h;obtain⟨α,σd,st,K,G,F,P,RS,S,t,k⟩:=h;refine Call_ (kB I hg hm Ge (Vr (b_ (ha pos pins s σ H (λ vs H1=>∃ds α1 G1 st1,Step α G α1 G1/\cC G1 F H1/\a7 α1 st1 G1/\aI α1 G1 ds vs/\uj ds st1 K) I ⟨α,σd,st,_,G,F,P,RS,S,t,λ ds st1 q α1 G1 H1 vs s1 P1 S1 r1=>⟨ds,α1,G1,st1,s1,P1,S1,r1,q⟩⟩) λ us s1 ⟨vs,H1,I1,rv,ds,α1,G1,st1,w1,P1,S1,r1,q⟩=>?_) (by rw[hs];rfl) (by rfl)));unfold uj E6 at q;split at q
 . rename_i x;split at q
   . rename_i xs ex;obtain⟨v1,rfl,q1⟩:=mv r1 rfl;obtain⟨p1,vs1,rfl,g1,c1⟩:=gR S1 q1 ex;obtain⟨u1,rfl,ru1⟩:=vals1 rv;cases ru1;obtain⟨its1,_,l1⟩:=fA I1 (eY P1 c1);refine Gn l1 λ g he i1 kp=>?_;obtain⟨o1,eo1⟩:=l1.some;have hp1:p1<s1.heap.objs.size:=Up eo1;refine wpAny_pyIter_enum (s:={s1 with heap:=g}) he ?_;refine⟨s1.heap.objs.size+1,[s1.heap.objs.size+1,s1.heap.objs.size],_,_,H1,rfl,I1.kept (t':=s1.toks) kp,GJ (Bu x) (VX (UN _)) (UG (US hp1)) (UG hp1),⟨⟨_,he⟩,i1⟩,λ b hb=>?_,?_⟩
     . have hb':s1.heap.objs.size<=b:=by
        simp only[Ux,UD,Ww]at hb;rcases hb with rfl|rfl
        . exact Nat.le_succ _
        . exact Ue _
       exact I1.uE hb' (I1.aO.fresh hb')
     . refine k _ _ st1 q _ α1 G1 H1 w1 P1 S1 (M5 λ α' G' st' s' S' o=>?_);obtain⟨p1',ws1,e1,f1,d1⟩:=gR S' (q1.step s') o;cases e1;exact⟨ws1,d1,f1⟩
   . exact q.elim
 . exact q.elim
theorem LP{st:ag}{x:D}{xs:List D}{K:List D->(ag->Prop)->ag->Prop}(ex:items? st x=some xs)(k:∀ok:ag->Prop,(∀st',items? st' x=some xs->ok st')->K (kG 0 xs) ok st):uj [x] st K:=by
 unfold uj E6;simp only[ex];exact k _ λ st' h1=>h1
theorem P9{X:Cx}{a:Expr}{elts:List Expr}{kx:Nat}{tpos p pos:Pos}{ar:DA}(hg:Gl X "enumerate")(hm:X.mg "enumerate"=none)(ha:JA X [a] ar)(hs:notStar a=true:=by rfl):JI X (.Tuple elts kx tpos) (.Call (.Name "enumerate" p) [a] [] pos) (EN ar):=by
 unfold JI;unfold JA at ha;exact Ng hg hm ha (cM hs)
end L3
namespace L3
open PySem L2
open PySem.Spec hiding items?
open PyProof.Rows hiding St
section
variable {prog:Program}{w:World}{A:Around}{E:Value->Shared->Prop}{s:Shared}
end
section
variable {X:Cx}{tg:Expr}
end
section
variable {X:Cx}
def Kz:cZ:=λ x y st K=>match x,y with
 | .lst xs,.lst ys=>xs.length+ys.length<=sizeLine/\K (.ref st.length) (st++[.lst (xs++ys)])
 |_,_=>False
theorem Pl:cp X (binaryOp .Add) (LR Kz):=λ pins s σ H x y v u Q I rx ry ⟨α,d,e,st,K,G,F',P,r1,r2,S,q,k⟩=>by
 cases d<;>cases e<;>try exact q.elim
 unfold Rep at r1 r2;obtain⟨a,vs,rfl,na,ha,ra⟩:=r1;obtain⟨b,ws,rfl,nb,hb,rb⟩:=r2;refine yC pins s σ H _ _ v u Q I rx ry ⟨a,b,vs,ws,rfl,rfl,gK P ha,gK P hb,by rw[<-ra.length,<-rb.length];exact q.1,λ p hp=>?_⟩;exact k.new P q.2 S (aY.mpr (fw (aY.mp ra) (aY.mp rb))) hp
@[irreducible] def sO:cZ:=Kz
theorem CG:cp X (binaryOp .Add) (LR sO):=by unfold sO;exact Pl
end
theorem za{st:ag}{K:DK}{xs ys:List D}(h:xs.length+ys.length<=sizeLine)(k:K (.ref st.length) (st++[.lst (xs++ys)])):sO (.lst xs) (.lst ys) st K:=by unfold sO;exact⟨h,k⟩
end L3
namespace L3
open PySem L2
open PySem.Spec hiding items?
open PyProof.Rows hiding St
open PySem PySem.Spec L2 PySem.SeqAt
section
variable {X:Cx}
end
end L3
namespace L3
open PySem L2
open PySem.Spec hiding items?
open PyProof.Rows hiding St
section
variable {X:Cx}
end
abbrev fL(h:Heap)(T:Addr)(a b c:Value):Prop:=h.get? T=some {cls:= .type "tuple",data:= .seq #[a,b,c]}
section
variable {P:Program}{w:World}
theorem fC{A:Around}{s:Shared}{E:Value->Shared->Prop}{T:Addr}{a b c x:Value}{k:Nat}{Q:Unit->Shared->Prop}(hT:fL s.heap T a b c)
 (h:∀h',h'.get? T=some {cls:= .type "tuple",data:= .seq ((#[a,b,c]:Array Value).setIfInBounds k x)}->Heap.SameBut T s.heap h'->Q () {s with heap:=h'}):
 wpAny (model P w) A (updateSeq T (·.setIfInBounds k x)) Q E s:=by
 refine wpAny_updateSeq hT rfl (h _ ?_ (VJ ..));rw[Xw _ hT rfl];simp[Obj.mapSeq]
structure Ka(z ti to t1 t2 t3 a1 a2 a3:Nat):Prop where
 f:(ti≠z/\to≠z/\t1≠z/\t2≠z/\t3≠z)/\(ti≠to/\ti≠t1/\ti≠t2/\ti≠t3)/\(to≠t1/\to≠t2/\to≠t3)/\(t1≠t2/\t1≠t3/\t2≠t3)
 a1:a1≠z/\a1≠to/\a1≠t1/\a1≠t2/\a1≠t3
 a2:a2≠z/\a2≠to/\a2≠t1/\a2≠t2/\a2≠t3
 a3:a3≠z/\a3≠to/\a3≠t1/\a3≠t2/\a3≠t3
section
variable {z ti to t1 t2 t3 a1 a2 a3:Addr}
theorem Gz{A:Around}{s:Shared}{E:Value->Shared->Prop}{J1 J2 J3:Nat->Heap->Prop}{us vs ws:Array Value}{n:Nat}{x y u a b c:Value}{Q:Value->Shared->Prop}(D:Ka z ti to t1 t2 t3 a1 a2 a3)(S1:Src P w t1 a1 J1 us)(S2:Src P w t2 a2 J2 vs)(S3:Src P w t3 a3 J3 ws)
 (Z:IsZip s.heap z ti to .none) (pI:fL s.heap ti (.ref t1) (.ref t2) (.ref t3)) (pO:fL s.heap to a b c) (j1:J1 n s.heap) (j2:J2 n s.heap) (j3:J3 n s.heap) (ex:us[n]?=some x) (ey:vs[n]?=some y) (ez:ws[n]?=some u)
 (q:∀k,IsZip k z ti to (rawInt s.heap.objs.size)->fL k to x y u->J1 (n+1) k->J2 (n+1) k->J3 (n+1) k->fL k s.heap.objs.size x y u->k.objs.size=s.heap.objs.size+1->
   (∀c o,c≠z->c≠to->c≠t1->c≠t2->c≠t3->s.heap.get? c=some o->k.get? c=some o)->Q (.ref s.heap.objs.size) {s with heap:=k}):
 wpAny (model P w) A (Builtin.«zip.__next__» ⟨[.ref z],[]⟩) (λ fin s'=>∃v,fin= .done (.ret v)/\Q v s') E s:=by
 obtain⟨⟨n1,n2,n3,n4,n4'⟩,⟨n5,n6,n7,n7'⟩,⟨n8,n9,n9'⟩,n10,n11,n12⟩:=D.f;obtain⟨p1,p2,p3,p4,p5⟩:=D.a1;obtain⟨q1,q2,q3,q4,q5⟩:=D.a2;obtain⟨r1,r2,r3,r4,r5⟩:=D.a3;show wpAny _ _ (field (.ref z) 2 >>= _) _ _ _;refine T_ (UY Z rfl (x:= .bool false) rfl ?_);show wpAny _ _ (field (.ref z) 3 >>= _) _ _ _;refine T_ (UY Z rfl (x:= .ref ti) rfl ?_);refine T_ (Vc pI rfl ?_);show wpAny _ _ (Builtin.SmallTypes.ownedTupleIsFree (.ref z) >>= _) _ _ _;refine T_ ?_;unfold Builtin.SmallTypes.ownedTupleIsFree;refine T_ (UY Z rfl (x:= .none) rfl (Ul ?_));simp only[Wm];refine T_ (WQ ?_);refine T_ (UY Z rfl (x:= .ref to) rfl ?_);refine T_ (Va Z (by simp) λ k1 Z1 b1=>?_);replace Z1:IsZip k1 z ti to .ellipsis:=Z1;refine T_ ?_;simp only[Xs,XF,W0,W_];refine T_ (T_ (V2 ?_));show wpAny _ _ (Builtin.SmallTypes.nextOf (.ref t1) >>= _) _ _ _;refine T_ (S1.nx n _ _ _ _ x (S1.ext j1 b1.extBut (Ui n3) (Ui p1)) ex λ k2 j1b b2=>Ul ?_);have pO2:fL k2 to a b c:=b2.extBut _ _ n8 (b1.extBut _ _ n2 pO);refine T_ (Vc pO2 rfl ?_);refine T_ (fC pO2 λ k3 pO3 b3=>?_);replace pO3:fL k3 to x b c:=pO3;refine T_ (Wr (Ul ?_));refine T_ (T_ (V2 ?_));show wpAny _ _ (Builtin.SmallTypes.nextOf (.ref t2) >>= _) _ _ _;have j2c:J2 n k3:=S2.ext (S2.ext (S2.ext j2 b1.extBut (Ui n4) (Ui q1)) b2.extBut n10 (Ui q3)) b3.extBut n9 (Ui q2);refine T_ (S2.nx n _ _ _ _ y j2c ey λ k4 j2d b4=>Ul ?_);have pO4:fL k4 to x b c:=b4.extBut _ _ n9 pO3;refine T_ (Vc pO4 rfl ?_);refine T_ (fC pO4 λ k5 pO5 b5=>?_);replace pO5:fL k5 to x y c:=pO5;refine T_ (Wr (Ul ?_));refine T_ (T_ (V2 ?_));show wpAny _ _ (Builtin.SmallTypes.nextOf (.ref t3) >>= _) _ _ _;have j3c:J3 n k5:=S3.ext (S3.ext (S3.ext (S3.ext (S3.ext j3 b1.extBut (Ui n4') (Ui r1)) b2.extBut n11 (Ui r3)) b3.extBut n9' (Ui r2)) b4.extBut n12 (Ui r4)) b5.extBut n9' (Ui r2);refine T_ (S3.nx n _ _ _ _ u j3c ez λ k6 j3d b6=>Ul ?_);have pO6:fL k6 to x y c:=b6.extBut _ _ n9' pO5;refine T_ (Vc pO6 rfl ?_);refine T_ (fC pO6 λ k7 pO7 b7=>?_);replace pO7:fL k7 to x y u:=pO7;refine T_ (Wr (Ul (Ul ?_)));refine T_ (Vc pO7 rfl ?_);refine T_ (YO ?_);have sz:k7.objs.size=s.heap.objs.size:=by rw[b7.1,b6.1,b5.1,b4.1,b3.1,b2.1,b1.1]
 have kp7:∀c o,c≠z->c≠to->c≠t1->c≠t2->c≠t3->s.heap.get? c=some o->k7.get? c=some o:=λ c o c1 c2 c3 c4 c5 e=>b7.extBut _ _ c2 (b6.extBut _ _ c5 (b5.extBut _ _ c2 (b4.extBut _ _ c4 (b3.extBut _ _ c2 (b2.extBut _ _ c3 (b1.extBut _ _ c1 e))))));have Z7:IsZip k7 z ti to .ellipsis:=b7.extBut _ _ (Ui n2) (b6.extBut _ _ (Ui n4') (b5.extBut _ _ (Ui n2) (b4.extBut _ _ (Ui n4) (b3.extBut _ _ (Ui n2) (b2.extBut _ _ (Ui n3) Z1)))));have j1e:J1 (n+1) k7:=S1.ext (S1.ext (S1.ext (S1.ext (S1.ext j1b b3.extBut n8 (Ui p2)) b4.extBut (Ui n10) (Ui p4)) b5.extBut n8 (Ui p2)) b6.extBut (Ui n11) (Ui p5)) b7.extBut n8 (Ui p2);have j2e:J2 (n+1) k7:=S2.ext (S2.ext (S2.ext j2d b5.extBut n9 (Ui q2)) b6.extBut (Ui n12) (Ui q5)) b7.extBut n9 (Ui q2);have j3e:J3 (n+1) k7:=S3.ext j3d b7.extBut n9' (Ui r2);have ltz:z<k7.objs.size:=Up Z7;show wpAny _ _ (Builtin.SmallTypes.ownedTupleHandOut (.ref z) (.ref k7.objs.size) >>= _) _ _ _;refine T_ ?_;unfold Builtin.SmallTypes.ownedTupleHandOut;have Z8:IsZip (k7.push {cls:= .type "tuple",data:= .seq #[x,y,u]}) z ti to .ellipsis:=Uc _ Z7;refine T_ (Va Z8 (by simp) λ k9 Z9 b9=>?_);replace Z9:IsZip k9 z ti to (rawInt k7.objs.size):=Z9;refine Va Z9 (by simp) λ k10 Z10 b10=>?_;replace Z10:IsZip k10 z ti to (rawInt k7.objs.size):=Z10;have up:∀c o,c≠z->k7.get? c=some o->k10.get? c=some o:=λ c o c1 e=>b10.extBut _ _ c1 (b9.extBut _ _ c1 (Uc _ e));have pT:fL k10 k7.objs.size x y u:=b10.extBut _ _ (VX ltz) (b9.extBut _ _ (VX ltz) (Ut _ rfl));have sz10:k10.objs.size=k7.objs.size+1:=by rw[b10.1,b9.1,U7]
 rw[sz]at Z10 pT sz10;refine Ul ⟨_,rfl,?_⟩;show Q (.ref k7.objs.size) _;rw[sz];refine q k10 Z10 (up _ _ n2 pO7) (S1.fr _ _ _ j1e λ b hb o e=>up b o ?_ e) (S2.fr _ _ _ j2e λ b hb o e=>up b o ?_ e) (S3.fr _ _ _ j3e λ b hb o e=>up b o ?_ e) pT sz10 λ c o c1 c2 c3 c4 c5 e=>up c o c1 (kp7 c o c1 c2 c3 c4 c5 e)
 . rcases hb with rfl|rfl
   . exact n3
   . exact p1
 . rcases hb with rfl|rfl
   . exact n4
   . exact q1
 . rcases hb with rfl|rfl
   . exact n4'
   . exact r1
theorem Iv{A:Around}{s:Shared}{E:Value->Shared->Prop}{J1 J2 J3:Nat->Heap->Prop}{us vs ws:Array Value}{n:Nat}{a b c:Value}{Q:Fin->Shared->Prop}(hh:A.handled=none)(D:Ka z ti to t1 t2 t3 a1 a2 a3)(S1:Src P w t1 a1 J1 us)(S2:Src P w t2 a2 J2 vs)(S3:Src P w t3 a3 J3 ws)
 (Z:IsZip s.heap z ti to .none) (pI:fL s.heap ti (.ref t1) (.ref t2) (.ref t3)) (pO:fL s.heap to a b c) (j1:J1 n s.heap) (j2:J2 n s.heap) (j3:J3 n s.heap) (he:us[n]?=none\/vs[n]?=none\/ws[n]?=none)
 (q:∀k e,(∀c o,c≠z->c≠to->c≠t1->c≠t2->c≠t3->s.heap.get? c=some o->k.get? c=some o)->(∃o,k.get? e=some o/\o.cls= .type "StopIteration")->E (.ref e) {s with heap:=k}):
 wpAny (model P w) A (Builtin.«zip.__next__» ⟨[.ref z],[]⟩) Q E s:=by
 obtain⟨⟨n1,n2,n3,n4,n4'⟩,⟨n5,n6,n7,n7'⟩,⟨n8,n9,n9'⟩,n10,n11,n12⟩:=D.f;obtain⟨p1,p2,p3,p4,p5⟩:=D.a1;obtain⟨q1,q2,q3,q4,q5⟩:=D.a2;obtain⟨r1,r2,r3,r4,r5⟩:=D.a3;show wpAny _ _ (field (.ref z) 2 >>= _) _ _ _;refine T_ (UY Z rfl (x:= .bool false) rfl ?_);show wpAny _ _ (field (.ref z) 3 >>= _) _ _ _;refine T_ (UY Z rfl (x:= .ref ti) rfl ?_);refine T_ (Vc pI rfl ?_);show wpAny _ _ (Builtin.SmallTypes.ownedTupleIsFree (.ref z) >>= _) _ _ _;refine T_ ?_;unfold Builtin.SmallTypes.ownedTupleIsFree;refine T_ (UY Z rfl (x:= .none) rfl (Ul ?_));simp only[Wm];refine T_ (WQ ?_);refine T_ (UY Z rfl (x:= .ref to) rfl ?_);refine T_ (Va Z (by simp) λ k1 Z1 b1=>?_);replace Z1:IsZip k1 z ti to .ellipsis:=Z1;refine T_ ?_;simp only[Xs,XF,W0,W_];refine T_ (T_ (V2 ?_));show wpAny _ _ (Builtin.SmallTypes.nextOf (.ref t1) >>= _) _ _ _;have j1a:J1 n k1:=S1.ext j1 b1.extBut (Ui n3) (Ui p1);cases ex:us[n]? with
 |none=>
  refine T_ (S1.en n _ _ _ _ hh j1a ex λ k2 e b2 hx=>?_);obtain⟨oe,he1,he2⟩:=hx;have Z2:IsZip k2 z ti to .ellipsis:=b2 _ _ (Ui n3) Z1;have hez:e≠z:=λ c=>by subst c;rw[Z2]at he1;cases he1;simp at he2
  refine Va Z2 (by simp) λ k3 _ b3=>q k3 e (λ c o c1 _ c3 _ _ f=>b3.extBut _ _ c1 (b2 _ _ c3 (b1.extBut _ _ c1 f))) ⟨oe,b3.extBut _ _ hez he1,he2⟩
 |some x=>
  refine T_ (S1.nx n _ _ _ _ x j1a ex λ k2 j1b b2=>Ul ?_);have pO2:fL k2 to a b c:=b2.extBut _ _ n8 (b1.extBut _ _ n2 pO);refine T_ (Vc pO2 rfl ?_);refine T_ (fC pO2 λ k3 pO3 b3=>?_);replace pO3:fL k3 to x b c:=pO3;refine T_ (Wr (Ul ?_));refine T_ (T_ (V2 ?_));show wpAny _ _ (Builtin.SmallTypes.nextOf (.ref t2) >>= _) _ _ _;have j2c:J2 n k3:=S2.ext (S2.ext (S2.ext j2 b1.extBut (Ui n4) (Ui q1)) b2.extBut n10 (Ui q3)) b3.extBut n9 (Ui q2);cases ey:vs[n]? with
  |none=>
   refine T_ (S2.en n _ _ _ _ hh j2c ey λ k4 e b4 hx=>?_);obtain⟨oe,he1,he2⟩:=hx;have Z4:IsZip k4 z ti to .ellipsis:=b4 _ _ (Ui n4) (b3.extBut _ _ (Ui n2) (b2.extBut _ _ (Ui n3) Z1));have hez:e≠z:=λ c=>by subst c;rw[Z4]at he1;cases he1;simp at he2
   refine Va Z4 (by simp) λ k5 _ b5=>q k5 e (λ c o c1 c2 c3 c4 _ f=>b5.extBut _ _ c1 (b4 _ _ c4 (b3.extBut _ _ c2 (b2.extBut _ _ c3 (b1.extBut _ _ c1 f))))) ⟨oe,b5.extBut _ _ hez he1,he2⟩
  |some y=>
   have ez:ws[n]?=none:=by
    rcases he with h|h|h
    . rw[ex]at h;cases h
    . rw[ey]at h;cases h
    . exact h
   refine T_ (S2.nx n _ _ _ _ y j2c ey λ k4 j2d b4=>Ul ?_);have pO4:fL k4 to x b c:=b4.extBut _ _ n9 pO3;refine T_ (Vc pO4 rfl ?_);refine T_ (fC pO4 λ k5 pO5 b5=>?_);refine T_ (Wr (Ul ?_));refine T_ (T_ (V2 ?_));show wpAny _ _ (Builtin.SmallTypes.nextOf (.ref t3) >>= _) _ _ _;have j3c:J3 n k5:=S3.ext (S3.ext (S3.ext (S3.ext (S3.ext j3 b1.extBut (Ui n4') (Ui r1)) b2.extBut n11 (Ui r3)) b3.extBut n9' (Ui r2)) b4.extBut n12 (Ui r4)) b5.extBut n9' (Ui r2);refine T_ (S3.en n _ _ _ _ hh j3c ez λ k6 e b6 hx=>?_);obtain⟨oe,he1,he2⟩:=hx;have Z6:IsZip k6 z ti to .ellipsis:=b6 _ _ (Ui n4') (b5.extBut _ _ (Ui n2) (b4.extBut _ _ (Ui n4) (b3.extBut _ _ (Ui n2) (b2.extBut _ _ (Ui n3) Z1))));have hez:e≠z:=λ c=>by subst c;rw[Z6]at he1;cases he1;simp at he2
   refine Va Z6 (by simp) λ k7 _ b7=>q k7 e (λ c o c1 c2 c3 c4 c5 f=>b7.extBut _ _ c1 (b6 _ _ c5 (b5.extBut _ _ c2 (b4.extBut _ _ c4 (b3.extBut _ _ c2 (b2.extBut _ _ c3 (b1.extBut _ _ c1 f))))))) ⟨oe,b7.extBut _ _ hez he1,he2⟩
end
end
def NR(K:PySem.W.Frag)(k1 k2 k3:SK)(a1 a2 a3:Addr):It:=
 ⟨λ i H=>∃xs ys zs x y z,kj k1 K H a1 xs/\kj k2 K H a2 ys/\kj k3 K H a3 zs/\xs[i]?=some x/\ys[i]?=some y/\zs[i]?=some z,
  λ i H v H'=>∃T x y z,H T=none/\v= .ref T/\H'=upd H T (.tup [x,y,z])/\(∀xs,kj k1 K H a1 xs->xs[i]?=some x)/\(∀ys,kj k2 K H a2 ys->ys[i]?=some y)/\∀zs,kj k3 K H a3 zs->zs[i]?=some z,
  λ i H=>∃xs ys zs,kj k1 K H a1 xs/\kj k2 K H a2 ys/\kj k3 K H a3 zs/\(xs.length<=i\/ys.length<=i\/zs.length<=i)⟩
def NL(z ti to t1 t2 t3 a1 a2 a3:Addr)(k1 k2 k3:SK)(i:Nat)(h:Heap):Prop:=IsZip h z ti to .none/\fL h ti (.ref t1) (.ref t2) (.ref t3)/\(∃a b c,fL h to a b c)/\mD k1 t1 a1 i h/\mD k2 t2 a2 i h/\mD k3 t3 a3 i h
theorem FJ{P:Program}{w:World}{K:PySem.W.Frag}{elts:List Expr}{kx:Nat}{pos:Pos}{z ti to t1 t2 t3 a1 a2 a3:Addr}(k1 k2 k3:SK)(D:Ka z ti to t1 t2 t3 a1 a2 a3):
 Turn P w K (.Tuple elts kx pos) (NR K k1 k2 k3 a1 a2 a3) [z,ti,to,t1,t2,t3] z (NL z ti to t1 t2 t3 a1 a2 a3 k1 k2 k3) where
 mem:=by simp
 obj:=λ i h st b hb=>by
  obtain⟨Z,pI,⟨a,b',c',pO⟩,i1,i2,i3⟩:=st;simp only[Ux,UD,Ww]at hb;rcases hb with rfl|rfl|rfl|rfl|rfl|rfl
  . exact⟨_,Z,λ v e=>by cases e⟩
  . exact⟨_,pI,λ v e=>by cases e⟩
  . exact⟨_,pO,λ v e=>by cases e⟩
  . exact gT i1
  . exact gT i2
  . exact gT i3
 keep:=λ i h h' st k=>by
  obtain⟨Z,pI,⟨a,b',c',pO⟩,i1,i2,i3⟩:=st;exact⟨k z (by simp) _ Z,k ti (by simp) _ pI,⟨a,b',c',k to (by simp) _ pO⟩,i_ i1 (k t1 (by simp)),i_ i2 (k t2 (by simp)),i_ i3 (k t3 (by simp))⟩
 item:=by
  intro X hP hw hK hc i pins s σ H E I hf st hg;subst hP hw hK;obtain⟨Z,pI,⟨a,b',c',pO⟩,i1,i2,i3⟩:=st;obtain⟨xs,ys,zs,x,y,zz,q1,q2,q3,ex,ey,ez⟩:=hg;obtain⟨us,r1,l1⟩:=fA I q1;obtain⟨vs,r2,l2⟩:=fA I q2;obtain⟨ws,r3,l3⟩:=fA I q3;obtain⟨u,eu,ru⟩:=r1.get ex;obtain⟨v,ev,rv⟩:=r2.get ey;obtain⟨wv,ew,rw'⟩:=r3.get ez;obtain⟨⟨n1,n2,n3,n4,n4'⟩,⟨n5,n6,n7,n7'⟩,⟨n8,n9,n9'⟩,n10,n11,n12⟩:=D.f;have tz:s.TypeIs (.ref z) "zip":=⟨_,Z,rfl⟩
  unfold pyNext;refine T_ (WV (Vh (name:=Str.ofString "__next__") tz V5 (VO V5 tz Xu (Gz D (iS k1 t1 a1 D.a1.2.2.1 us.toArray) (iS k2 t2 a2 D.a2.2.2.2.1 vs.toArray) (iS k3 t3 a3 D.a3.2.2.2.2 ws.toArray) Z pI pO ⟨i1,l1⟩ ⟨i2,l2⟩ ⟨i3,l3⟩ (x:=u) (y:=v) (u:=wv) (by simpa using eu) (by simpa using ev) (by simpa using ew) λ k Z2 pO2 j1 j2 j3 pT szk kp=>Ul ⟨_,rfl,?_⟩) (Xf _))));refine Yl (s:={s with heap:=k}) Z2 λ k' Z3 b3=>?_;have hT:s.heap.objs.size≠z:=VX (Up Z)
  have kp3:∀b o,b∉[z,ti,to,t1,t2,t3]->s.heap.get? b=some o->k'.get? b=some o:=λ b o hb e=>by
   simp only[Ux,WK,UD,Ve,Wo]at hb;exact b3.extBut _ _ hb.1 (kp b o hb.1 hb.2.2.1 hb.2.2.2.1 hb.2.2.2.2.1 hb.2.2.2.2.2 e)
  refine⟨.ref s.heap.objs.size,upd H s.heap.objs.size (.tup [x,y,zz]),ED (s:=s) (tk:=s.toks) I hf kp3 (Ue _) ?_,rfl,⟨s.heap.objs.size,x,y,zz,I.aO.fresh (Ue _),rfl,rfl,?_,?_,?_⟩,?_,?_⟩
  . refine⟨Ur rfl,[u,v,wv],.cons ru (.cons rv (.cons rw' .nil)),?_⟩;exact⟨_,b3.extBut _ _ hT pT,rfl,_,rfl⟩
  . intro xs' q';rw[o7 I q' q1];exact ex
  . intro ys' q';rw[o7 I q' q2];exact ey
  . intro zs' q';rw[o7 I q' q3];exact ez
  . refine⟨Z3,b3.extBut _ _ n1 (kp _ _ n1 n5 n6 n7 n7' pI),⟨_,_,_,b3.extBut _ _ n2 pO2⟩,i_ j1.1 λ o e=>b3.extBut _ _ n3 e,i_ j2.1 λ o e=>b3.extBut _ _ n4 e,i_ j3.1 λ o e=>b3.extBut _ _ n4' e⟩
  . intro b hb
    have:b≠s.heap.objs.size:=by
     obtain⟨o,e,_⟩:∃o,s.heap.get? b=some o/\True:=by
      simp only[Ux,UD,Ww]at hb;rcases hb with rfl|rfl|rfl|rfl|rfl|rfl
      . exact⟨_,Z,trivial⟩
      . exact⟨_,pI,trivial⟩
      . exact⟨_,pO,trivial⟩
      . obtain⟨o,e,_⟩:=gT i1;exact⟨o,e,trivial⟩
      . obtain⟨o,e,_⟩:=gT i2;exact⟨o,e,trivial⟩
      . obtain⟨o,e,_⟩:=gT i3;exact⟨o,e,trivial⟩
     exact UG (Up e)
    rw[L2.aB this];exact(hf b hb).1
 done:=by
  intro X hP hw hK hc i pins s σ H E I hf st hg;subst hP hw hK;obtain⟨Z,pI,⟨a,b',c',pO⟩,i1,i2,i3⟩:=st;obtain⟨xs,ys,zs,q1,q2,q3,he⟩:=hg;obtain⟨us,r1,l1⟩:=fA I q1;obtain⟨vs,r2,l2⟩:=fA I q2;obtain⟨ws,r3,l3⟩:=fA I q3;have e1:=r1.length;have e2:=r2.length;have e3:=r3.length;have tz:s.TypeIs (.ref z) "zip":=⟨_,Z,rfl⟩
  unfold pyNext;refine T_ (WV (Vh (name:=Str.ofString "__next__") tz V5 (VO V5 tz Xu (Iv (I.ok.hd hc) D (iS k1 t1 a1 D.a1.2.2.1 us.toArray) (iS k2 t2 a2 D.a2.2.2.2.1 vs.toArray) (iS k3 t3 a3 D.a3.2.2.2.2 ws.toArray) Z pI pO ⟨i1,l1⟩ ⟨i2,l2⟩ ⟨i3,l3⟩ ?_ λ k e kp hx=>?_) (Xf _))))
  . rcases he with h|h|h
    . left;simp;omega
    . right;left;simp;omega
    . right;right;simp;omega
  . obtain⟨o,ho,hc2⟩:=hx;refine T_ (Yu (T:="StopIteration") (b:=true) ⟨o,ho,hc2⟩ YQ ?_);refine Ul ⟨rfl,ET (s:=s) (tk:=s.toks) I hf λ b o hb e=>?_⟩;simp only[Ux,WK,UD,Ve,Wo]at hb;exact kp b o hb.1 hb.2.2.1 hb.2.2.2.1 hb.2.2.2.2.1 hb.2.2.2.2.2 e
 self:=λ _ _ _ _ _ st h=>Xv st.1 h
theorem yS(a b c:Value):checkTypeCall "zip" ⟨[a,b,c],[]⟩=pure ():=by kernel_rfl
theorem zV(a b c:Value):checkBuiltinCall "zip.__new__" ⟨[.type "zip",a,b,c],[]⟩=pure ():=by kernel_rfl
theorem tZ(a b c d:Value):argsOk "object.__init__" ⟨[a,b,c,d],[]⟩:=by
 unfold argsOk;rw[signature?_of (id:="object.__init__") (n:=['_','_','t','i','n','i','_','_']) (o:=['t','c','e','j','b','o']) (by kernel_rfl) F.owner_object];kernel_rfl
abbrev Lc(h:Heap)(k1 k2 k3:SK)(a1 a2 a3:Addr):Heap:=(zU h k1 k2 a1 a2).push (qc k3 a3)
abbrev Ku(h:Heap)(k1 k2 k3:SK)(a1 a2 a3:Addr):Heap:=(Lc h k1 k2 k3 a1 a2 a3).push {cls:= .type "tuple",data:= .seq #[.ref h.objs.size,.ref (CH h k1 a1).objs.size,.ref (zU h k1 k2 a1 a2).objs.size]}
abbrev KO(h:Heap)(k1 k2 k3:SK)(a1 a2 a3:Addr):Heap:=(Ku h k1 k2 k3 a1 a2 a3).push {cls:= .type "tuple",data:= .seq #[.none,.none,.none]}
abbrev CD(h:Heap)(k1 k2 k3:SK)(a1 a2 a3:Addr):Heap:=(KO h k1 k2 k3 a1 a2 a3).push {cls:= .type "zip",data:= .fields #[.none,.bool false,.bool false,.ref (Lc h k1 k2 k3 a1 a2 a3).objs.size,.ref (Ku h k1 k2 k3 a1 a2 a3).objs.size]}
theorem EF(k1 k2 k3:SK)(a1 a2 a3:Addr)(us vs ws:Array Value):Meets (Builtin.«zip.__new__» ⟨[.type "zip",.ref a1,.ref a2,.ref a3],[]⟩) (λ _ R s=>g_ k1 s.heap a1 us/\g_ k2 s.heap a2 vs/\g_ k3 s.heap a3 ws/\
 R (.ok (.ret (.ref (KO s.heap k1 k2 k3 a1 a2 a3).objs.size))) {s with heap:=CD s.heap k1 k2 k3 a1 a2 a3}):=
 .of_wp λ P w A R s h=>by
  obtain⟨hp,g,d,tk,os⟩:=s;obtain⟨c1,c2,c3,h⟩:=h;have hsub:=sub_zip;have L1:g_ k1 (Shared.heap ⟨hp,g,d,tk,os⟩) a1 us:=c1;have L2:g_ k2 (Shared.heap ⟨hp.push (qc k1 a1),g,d,tk,os⟩) a2 vs:=g_.push c2 _;have L3:g_ k3 (Shared.heap ⟨(hp.push (qc k1 a1)).push (qc k2 a2),g,d,tk,os⟩) a3 ws:=g_.push (g_.push c3 _) _
  wp_walk using uG L1,uG L2,uG L3
  exact⟨_,rfl,h⟩
theorem Gw{P:Program}{w:World}{A:Around}{s:Shared}{E:Value->Shared->Prop}{k1 k2 k3:SK}{a1 a2 a3:Addr}{us vs ws:Array Value}{Q:Value->Shared->Prop}(c1:g_ k1 s.heap a1 us)(c2:g_ k2 s.heap a2 vs)(c3:g_ k3 s.heap a3 ws)
 (q:∀g n,n=s.heap.objs.size->IsZip g (n+5) (n+3) (n+4) .none->fL g (n+3) (.ref n) (.ref (n+1)) (.ref (n+2))->fL g (n+4) .none .none .none->mD k1 n a1 0 g->mD k2 (n+1) a2 0 g->mD k3 (n+2) a3 0 g->(∀c o,s.heap.get? c=some o->g.get? c=some o)->Q (.ref (n+5)) {s with heap:=g}):
 wpAny (model P w) A (call (.type "zip") [.ref a1,.ref a2,.ref a3]) Q E s:=by
 refine Y6 F.called_zip (by decide) (yS _ _ _) (zV _ _ _) (λ ob=>tZ ob _ _ _) F.entry_zip_new (EF k1 k2 k3 a1 a2 a3 us vs ws) ⟨c1,c2,c3,?_⟩;have y1:(CH s.heap k1 a1).objs.size=s.heap.objs.size+1:=U7 ..;have y2:(zU s.heap k1 k2 a1 a2).objs.size=s.heap.objs.size+2:=by rw[U7,y1]
 have y3:(Lc s.heap k1 k2 k3 a1 a2 a3).objs.size=s.heap.objs.size+3:=by rw[U7,y2]
 have y4:(Ku s.heap k1 k2 k3 a1 a2 a3).objs.size=s.heap.objs.size+4:=by rw[U7,y3]
 have y5:(KO s.heap k1 k2 k3 a1 a2 a3).objs.size=s.heap.objs.size+5:=by rw[U7,y4]
 have e6:(CD s.heap k1 k2 k3 a1 a2 a3).get? (KO s.heap k1 k2 k3 a1 a2 a3).objs.size=some _:=Ut _ rfl;have e5:(CD s.heap k1 k2 k3 a1 a2 a3).get? (Ku s.heap k1 k2 k3 a1 a2 a3).objs.size=some _:=Uc _ (Ut _ rfl);have e4:(CD s.heap k1 k2 k3 a1 a2 a3).get? (Lc s.heap k1 k2 k3 a1 a2 a3).objs.size=some _:=Uc _ (Uc _ (Ut _ rfl));have e3:(CD s.heap k1 k2 k3 a1 a2 a3).get? (zU s.heap k1 k2 a1 a2).objs.size=some (qc k3 a3):=Uc _ (Uc _ (Uc _ (Ut _ (by cases k3<;>rfl))));have e2:(CD s.heap k1 k2 k3 a1 a2 a3).get? (CH s.heap k1 a1).objs.size=some (qc k2 a2):=Uc _ (Uc _ (Uc _ (Uc _ (Ut _ (by cases k2<;>rfl)))));have e1:(CD s.heap k1 k2 k3 a1 a2 a3).get? s.heap.objs.size=some (qc k1 a1):=Uc _ (Uc _ (Uc _ (Uc _ (Uc _ (Ut _ (by cases k1<;>rfl))))));show _/\_;rw[y3,y4,y5]at e6;rw[y1,y2,y3]at e4;rw[y4]at e5;rw[y2]at e3;rw[y1]at e2;rw[y5];exact⟨⟨_,e6,rfl⟩,q _ _ rfl e6 e4 e5 (rk (h:=s.heap) e1) (rk (h:=s.heap) e2) (rk (h:=s.heap) e3) λ c o x=>Uc _ (Uc _ (Uc _ (Uc _ (Uc _ (Uc _ x)))))⟩
def gh:List D->List D->List D->List D
 |x::xs,y::ys,z::zs=> .tup [x,y,z]::gh xs ys zs
 |_,_,_=>[]
theorem zf:∀ {xs ys zs:List D},(gh xs ys zs).length=min xs.length (min ys.length zs.length)
 | [],_,_=>by unfold gh;simp
 |_::_,[],_=>by unfold gh;simp
 |_::_,_::_,[]=>by unfold gh;simp
 |x::xs,y::ys,z::zs=>by unfold gh;rw[UQ,zf];simp only[UQ];omega
theorem uh:∀ {xs ys zs:List D} {n:Nat} {d:D},(gh xs ys zs)[n]?=some d->∃x y z,xs[n]?=some x/\ys[n]?=some y/\zs[n]?=some z/\d= .tup [x,y,z]
 | [],_,_,_,_,e=>by unfold gh at e;cases e
 |_::_,[],_,_,_,e=>by unfold gh at e;cases e
 |_::_,_::_,[],_,_,e=>by unfold gh at e;cases e
 |x::xs,y::ys,z::zs,0,d,e=>by
  unfold gh at e;rw[YA]at e;cases e;exact⟨x,y,z,rfl,rfl,rfl,rfl⟩
 |x::xs,y::ys,z::zs,n+1,d,e=>by
  unfold gh at e;rw[VF]at e;obtain⟨a,b,c,h1,h2,h3,h4⟩:=uh e;exact⟨a,b,c,by rw[VF];exact h1,by rw[VF];exact h2,by rw[VF];exact h3,h4⟩
theorem M6{K:PySem.W.Frag}{k1 k2 k3:SK}{a1 a2 a3:Addr}{α:List (Option Addr)}{G:Hp}{ok:ag->Prop}{xs ys zs:List D}
 (h:∀α' G' st',Step α G α' G'->a7 α' st' G'->ok st'->∃vs ws us,zH k1 G' a1 vs/\zH k2 G' a2 ws/\zH k3 G' a3 us/\aI α' G' xs vs/\aI α' G' ys ws/\aI α' G' zs us):uR (NR K k1 k2 k3 a1 a2 a3) α G ok (gh xs ys zs) where
 stop:=λ n α' G' F' H' st' s P S o hn=>by
  obtain⟨vs,ws,us,h1,h2,h3,r1,r2,r3⟩:=h α' G' st' s S o;rw[zf]at hn;refine⟨vs,ws,us,eY P h1,eY P h2,eY P h3,?_⟩;have:=r1.length;have:=r2.length;have:=r3.length;omega
 go:=λ n d α' G' F' H' st' s P S o hn=>by
  obtain⟨vs,ws,us,h1,h2,h3,r1,r2,r3⟩:=h α' G' st' s S o;obtain⟨x,y,z,ex,ey,ez,rfl⟩:=uh hn;obtain⟨v,ev,_⟩:=r1.get ex;obtain⟨u,eu,_⟩:=r2.get ey;obtain⟨t,et,_⟩:=r3.get ez;exact⟨vs,ws,us,v,u,t,eY P h1,eY P h2,eY P h3,ev,eu,et⟩
 pK:=λ n d α' G' F' H' st' x H'' s P S o hn y=>by
  obtain⟨vs,ws,us,h1,h2,h3,r1,r2,r3⟩:=h α' G' st' s S o;obtain⟨c,e,f,ec,ee,ef,rfl⟩:=uh hn;obtain⟨T,v,u,t,hT,rfl,rfl,y1,y2,y3⟩:=y;obtain⟨v',ev,rv⟩:=r1.get ec;obtain⟨u',eu,ru⟩:=r2.get ee;obtain⟨t',et,rt⟩:=r3.get ef;rw[y1 vs (eY P h1)]at ev;rw[y2 ws (eY P h2)]at eu;rw[y3 us (eY P h3)]at et;cases ev;cases eu;cases et;have hg:=(P.none hT).1;refine⟨L2.upd G' T (.tup [v,u,t]),Step.laid hg,P.laid hT,S.laid hg,?_⟩;unfold Rep;refine⟨T,[v,u,t],rfl,S.kF hg,bc,?_⟩;unfold aI;refine⟨v,[u,t],rfl,rv.step (Step.laid hg),?_⟩;unfold aI;refine⟨u,[t],rfl,ru.step (Step.laid hg),?_⟩;unfold aI;exact⟨t,[],rfl,rt.step (Step.laid hg),by unfold aI;rfl⟩
def Ei(ds:List D)(st1:ag)(K:List D->(ag->Prop)->ag->Prop):Prop:=match ds with
 | [x,y,z]=>(match items? st1 x,items? st1 y,items? st1 z with
   |some xs,some ys,some zs=>K (gh xs ys zs) (λ st'=>items? st' x=some xs/\items? st' y=some ys/\items? st' z=some zs) st1
   |_,_,_=>False)
 |_=>False
@[irreducible] def t_:List D->ag->(List D->(ag->Prop)->ag->Prop)->Prop:=Ei
def EK(t:DA):DI:=λ σ st K=>t σ st λ ds st1=>t_ ds st1 K
theorem M9{n a1 a2 a3:Nat}(h1:a1<n)(h2:a2<n)(h3:a3<n):Ka (n+5) (n+3) (n+4) n (n+1) (n+2) a1 a2 a3:=⟨by omega,by omega,by omega,by omega⟩
theorem vals3{vs:List V}{us:List Value}{a b c:V}(h:Vals vs us)(e:vs=[a,b,c]):∃u v w,us=[u,v,w]/\RelV a u/\RelV b v/\RelV c w:=by
 subst e;cases h with
 |cons p q=>
  cases q with
  |cons p' q'=>
   cases q' with
   |cons p'' q''=>
    cases q'';exact⟨_,_,_,rfl,p,p',p''⟩
theorem MN{X:Cx}{a b c:Expr}{elts:List Expr}{kx:Nat}{tpos p pos:Pos}{t:DA}(hg:Gl X "zip")(hm:X.mg "zip"=none)(ha:PA X [a,b,c] (LA t))(hs:starEach [a,b,c] X.env=(false,eval a X.env)::starEach [b,c] X.env)(hs2:starEach [b,c] X.env=[(false,eval b X.env),(false,eval c X.env)]):
 PI X (.Tuple elts kx tpos) (.Call (.Name "zip" p) [a,b,c] [] pos) (LI (EK t)):=by
 intro pins s σ H R I h;obtain⟨α,σd,st,K,G,F,P,RS,S,t,k⟩:=h;refine Call_ (kB I hg hm boot_zip (Vr (b_ (ha pos pins s σ H (λ vs H1=>∃ds α1 G1 st1,Step α G α1 G1/\cC G1 F H1/\a7 α1 st1 G1/\aI α1 G1 ds vs/\t_ ds st1 K) I ⟨α,σd,st,_,G,F,P,RS,S,t,λ ds st1 q α1 G1 H1 vs s1 P1 S1 r1=>⟨ds,α1,G1,st1,s1,P1,S1,r1,q⟩⟩) λ us s1 ⟨vs,H1,I1,rv,ds,α1,G1,st1,w1,P1,S1,r1,q⟩=>?_) hs (by rw[hs2];rfl)));unfold t_ Ei at q;split at q
 . rename_i x y z;split at q
   . rename_i xs ys zs ex ey ez;obtain⟨v1,v2,v3,rfl,q1,q2,q3⟩:=Fh r1 rfl;obtain⟨p1,vs1,rfl,g1,c1⟩:=gR S1 q1 ex;obtain⟨p2,vs2,rfl,g2,c2⟩:=gR S1 q2 ey;obtain⟨p3,vs3,rfl,g3,c3⟩:=gR S1 q3 ez;obtain⟨u1,u2,u3,rfl,ru1,ru2,ru3⟩:=vals3 rv rfl;cases ru1;cases ru2;cases ru3;obtain⟨its1,_,l1⟩:=fA I1 (eY P1 c1);obtain⟨its2,_,l2⟩:=fA I1 (eY P1 c2);obtain⟨its3,_,l3⟩:=fA I1 (eY P1 c3);refine Gw l1 l2 l3 λ g n hn Z pI pO i1 i2 i3 kp=>?_;obtain⟨o1,eo1⟩:=l1.some;obtain⟨o2,eo2⟩:=l2.some;obtain⟨o3,eo3⟩:=l3.some;refine Xv (s:={s1 with heap:=g}) Z ?_;refine⟨n+5,[n+5,n+3,n+4,n,n+1,n+2],_,_,H1,rfl,I1.kept (t':=s1.toks) kp,FJ (Bu x) (Bu y) (Bu z) (M9 (by rw[hn];exact Up eo1) (by rw[hn];exact Up eo2) (by rw[hn];exact Up eo3)),⟨Z,pI,⟨_,_,_,pO⟩,i1,i2,i3⟩,λ b hb=>?_,?_⟩
     . have hb':s1.heap.objs.size<=b:=by
        simp only[Ux,UD,Ww]at hb;rcases hb with rfl|rfl|rfl|rfl|rfl|rfl<;>(rw[<-hn];first|exact Ue _|exact Yv _ _)
       exact I1.uE hb' (I1.aO.fresh hb')
     . refine k _ _ st1 q _ α1 G1 H1 w1 P1 S1 (M6 λ α' G' st' s' S' o=>?_);obtain⟨p1',ws1,e1,f1,d1⟩:=gR S' (q1.step s') o.1;obtain⟨p2',ws2,e2,f2,d2⟩:=gR S' (q2.step s') o.2.1;obtain⟨p3',ws3,e3,f3,d3⟩:=gR S' (q3.step s') o.2.2;cases e1;cases e2;cases e3;exact⟨ws1,ws2,ws3,d1,d2,d3,f1,f2,f3⟩
   . exact q.elim
 . exact q.elim
theorem Lu{st:ag}{x y z:D}{xs ys zs:List D}{K:List D->(ag->Prop)->ag->Prop}(ex:items? st x=some xs)(ey:items? st y=some ys)(ez:items? st z=some zs)(k:∀ok:ag->Prop,(∀st',items? st' x=some xs->items? st' y=some ys->items? st' z=some zs->ok st')->K (gh xs ys zs) ok st):t_ [x,y,z] st K:=by
 unfold t_ Ei;simp only[ex,ey,ez];exact k _ λ st' h1 h2 h3=>⟨h1,h2,h3⟩
theorem Ph{X:Cx}{a b c:Expr}{elts:List Expr}{kx:Nat}{tpos p pos:Pos}{ar:DA}(hg:Gl X "zip")(hm:X.mg "zip"=none)(ha:JA X [a,b,c] ar)(hs:notStar a=true:=by rfl)(hs2:notStar b=true:=by rfl)(hs3:notStar c=true:=by rfl):JI X (.Tuple elts kx tpos) (.Call (.Name "zip" p) [a,b,c] [] pos) (EK ar):=by
 unfold JI;unfold JA at ha;exact MN hg hm ha (cM hs) (by rw[cM hs2,cM hs3];rfl)
def Hm:DS:=λ _ _ _=>False
theorem IP{X:Cx}{s:Stmt}:JS X s Hm:=by
 unfold JS;intro pins s σ H D I h;obtain⟨α,σd,st,DD,G,F,P,R,S,q,k⟩:=h;exact q.elim
section
variable {X:Cx}
def Ao:cZ:=λ x y st K=>match x,y with
 | .ref n,.lst ys=>(match st[n]? with|some (.lst xs)=>xs.length+ys.length<=sizeLine/\K (.lst (xs++ys)) st|_=>False)
 |_,_=>False
theorem Ow:cp X (binaryOp .Add) (LR Ao):=λ pins s σ H x y v u Q I rx ry ⟨α,d,e,st,K,G,F',P,r1,r2,S,q,k⟩=>by
 cases d<;>cases e<;>try exact q.elim
 rename_i n ys;unfold Ao at q;simp only at q;split at q
 . rename_i xs e;obtain⟨a,ea,vs,h1,h2⟩:=S.iZ e;have r1':=cY ea r1;subst r1';unfold Rep at r2;obtain⟨b,ws,rfl,nb,hb,rb⟩:=r2;refine yC pins s σ H _ _ v u Q I rx ry ⟨a,b,vs,ws,rfl,rfl,.of (P.get h1),gK P hb,by rw[<-h2.length,<-rb.length];exact q.1,λ p hp=>?_⟩;exact k.lst P q.2 S (aY.mpr (fw (aY.mp h2) (aY.mp rb))) hp
 . exact q.elim
@[irreducible] def u4:cZ:=Ao
theorem P8:cp X (binaryOp .Add) (LR u4):=by unfold u4;exact Ow
end
theorem M_{st:ag}{K:DK}{n:Nat}{xs ys:List D}(e:st[n]?=some (.lst xs))(h:xs.length+ys.length<=sizeLine)(k:K (.lst (xs++ys)) st):u4 (.ref n) (.lst ys) st K:=by unfold u4 Ao;simp only[e];exact⟨h,k⟩
end L3
namespace L3
open PySem L2
open PySem.Spec hiding items?
open PyProof.Rows hiding St
open Sem (wp)
section
variable {prog:Program}{w:World}{A:Around}{s:Shared}{E:Value->Shared->Prop}
end
section
variable {prog:Program}{w:World}{A:Around}{R:Result->Shared->Prop}{I:Addr}{fp wr:List Addr}{G:Array GenState->Array GenState->Prop}{n:Nat}{P:Nat->Value->Prop}{Sx:Nat->Shared->Prop}
end
section
variable {prog:Program}{w:World}{A:Around}{E:Value->Shared->Prop}{s:Shared}
end
section
variable {X:Cx}{pins:List (Addr×Obj)}{σ:L2.St}{H:Hp}{s:Shared}{α:List (Option Addr)}
end
end L3
namespace L3
open PySem L2
open PySem.Spec hiding items?
open PyProof.Rows hiding St
section
variable {X:Cx}
end
def putD(f:Str)(v:D):List (Str×D)->List (Str×D)
 | []=>[(f,v)]
 |(g,x)::r=>if g=f then(g,v)::r else(g,x)::putD f v r
theorem k_.look{α:List (Option Addr)}{H:Hp}{f:Str}{v:D}:∀ {fs:List (Str×D)} {vs:List (Str×V)},k_ α H fs vs->fs.lookup f=some v->∃u,vs.lookup f=some u/\Rep α H v u
 | [],_,_,e=>by cases e
 |(g,x)::fs,_,.cons (b:=q) h t,e=>by
  obtain⟨g',y⟩:=q;obtain⟨h1,h2⟩:=h;simp only at h1 h2;subst h1;rw[UR]at e⊢;cases hb:f==g with
  |true=>rw[hb]at e;cases e;exact⟨y,rfl,h2⟩
  |false=>rw[hb]at e;exact k_.look t e
theorem k_.none{α:List (Option Addr)}{H:Hp}{f:Str}:∀ {fs:List (Str×D)} {vs:List (Str×V)},k_ α H fs vs->fs.lookup f=Option.none->vs.lookup f=Option.none
 | [],_,.nil,_=>rfl
 |(g,x)::fs,_,.cons (b:=q) h t,e=>by
  obtain⟨g',y⟩:=q;obtain⟨h1,h2⟩:=h;simp only at h1 h2;subst h1;rw[UR]at e⊢;cases hb:f==g with
  |true=>rw[hb]at e;cases e
  |false=>rw[hb]at e;exact k_.none t e
theorem k_.put{α:List (Option Addr)}{H:Hp}{f:Str}{d:D}{v:V}(r:Rep α H d v):∀ {fs:List (Str×D)} {vs:List (Str×V)},k_ α H fs vs->k_ α H (putD f d fs) (iH f v vs)
 | [],_,.nil=> .cons ⟨rfl,r⟩ .nil
 |(g,x)::fs,_,.cons (b:=q) h t=>by
  obtain⟨g',y⟩:=q;obtain⟨h1,h2⟩:=h;simp only at h1 h2;subst h1;unfold putD iH;by_cases hb:g=f
  . rw[Ud hb,Ud hb];exact .cons ⟨rfl,r⟩ t
  . rw[Ub hb,Ub hb];exact .cons ⟨rfl,h2⟩ (k_.put r t)
def Ij(C:Addr)(f:Str)(d:D)(st:ag)(K:DK):Prop:=match d with
 | .ref n=>(match st[n]? with|some (.ins C' fs)=>C'=C/\∃v,fs.lookup f=some v/\K v st|_=>False)
 |_=>False
@[irreducible] def EC(C:Addr)(f:Str):D->ag->DK->Prop:=Ij C f
def cG(C:Addr)(f:Str)(te:DE):DE:=λ σ st K=>te σ st λ d st1=>EC C f d st1 K
theorem bp{C:Addr}{f:Str}{n:Nat}{st:ag}{K:DK}{fs:List (Str×D)}{v:D}(e:st[n]?=some (.ins C fs))(h:fs.lookup f=some v)(k:K v st):EC C f (.ref n) st K:=by
 unfold EC Ij;simp only[e];exact⟨trivial,v,h,k⟩
def EO(C:Addr)(f:Str)(x d:D)(st:ag)(K:ag->Prop):Prop:=match x with
 | .ref n=>(match st[n]? with|some (.ins C' fs)=>C'=C/\fs.length<1000/\K (st.set n (.ins C (putD f d fs)))|_=>False)
 |_=>False
@[irreducible] def Ax(C:Addr)(f:Str):D->D->ag->(ag->Prop)->Prop:=EO C f
def nc(C:Addr)(f:Str)(to te:DE):DS:=λ D σ st=>te σ st λ d st1=>to σ st1 λ x st2=>Ax C f x d st2 λ st3=>D.nx σ st3
theorem lJ{C:Addr}{f:Str}{n:Nat}{d:D}{st:ag}{K:ag->Prop}{fs:List (Str×D)}(e:st[n]?=some (.ins C fs))(h:fs.length<1000)(k:K (st.set n (.ins C (putD f d fs)))):Ax C f (.ref n) d st K:=by
 unfold Ax EO;simp only[e];exact⟨trivial,h,k⟩
def Ah(C:Addr)(m:Str)(x:D)(st:ag)(k:Prop):Prop:=match x with
 | .ref n=>(match st[n]? with|some (.ins C' fs)=>C'=C/\fs.lookup m=none/\k|_=>False)
 |_=>False
@[irreducible] def xt(C:Addr)(m:Str):D->ag->Prop->Prop:=Ah C m
theorem c_{C:Addr}{m:Str}{n:Nat}{st:ag}{k:Prop}{fs:List (Str×D)}(e:st[n]?=some (.ins C fs))(h:fs.lookup m=none)(q:k):xt C m (.ref n) st k:=by
 unfold xt Ah;simp only[e];exact⟨trivial,h,q⟩
def dn(C:Addr)(m:Str)(S:cE)(to:DE)(t:DA):DE:=λ σ st K=>to σ st λ x st1=>xt C m x st1 (t σ st1 λ ds st2=>S (x::ds) st2 K)
def x_(C:Addr)(S:cE)(t:DA):DE:=λ σ st K=>t σ st λ ds st1=>S (.ref st1.length::ds) (st1++[.ins C []]) λ r st2=>r= .aF/\K (.ref st1.length) st2
section
variable {X:Cx}{C f g:Addr}{fd:FuncData}{k:Nat}{x m fl:Str}{e o value:Expr}{es:List Expr}{p pos pos' apos:Pos}{te to:DE}{t:DA}{S:cE}{ps:List Str}
theorem Qk(c:nZ X.K C)(na:gf X.K C fl)(he:PE X e (LE te))(hb:attributeBase e fl X.env (eval e X.env)=eval e X.env):PE X (.Attribute e fl pos) (LE (cG C fl te)):=PE.imp (Qe he hb) λ σ H Q ⟨α,σd,st,K,G,F,P,R,S,t,k⟩=>by
 refine⟨α,σd,st,_,G,F,P,R,S,t,λ d st1 q α1 G1 H1 v s1 P1 S1 r1=>?_⟩;unfold EC Ij at q;cases d<;>try exact q.elim
 simp only at q;split at q
 . rename_i C' fs e';obtain⟨rfl,w,hw,q⟩:=q;obtain⟨a,ea,dx,vs,h1,h2⟩:=S1.x8 e';have r1':=cY ea r1;subst r1';obtain⟨u,hu,ru⟩:=h2.look hw;exact⟨a,_,dx,vs,u,rfl,P1.get h1,c,na,hu,(k.at s1).here P1 q S1 ru⟩
 . exact q.elim
theorem Pb(c:nZ X.K C)(na:gf X.K C fl)(ho:PE X o (LE to))(hv:PE X value (LE te))(hs:swapsWith value (some (.Attribute o fl pos')) pos.line X.env=pure false):PS X (.Assign [.Attribute o fl pos'] value pos) (LS (nc C fl to te)):=PS.imp (Py ho hv hs) λ D σ H ⟨α,σd,st,DD,G,F,P,R,S,t,k⟩=>by
 refine⟨α,σd,st,_,G,F,P,R,S,t,λ d st1 q α1 G1 H1 v s1 P1 S1 r1=>?_⟩;refine⟨α1,σd,st1,_,G1,F,P1,R.step s1,S1,q,λ x st2 q2 α2 G2 H2 v2 s2 P2 S2 r2=>?_⟩;unfold Ax EO at q2;cases x<;>try exact q2.elim
 simp only at q2;split at q2
 . rename_i C' fs e';obtain⟨rfl,hl,q2⟩:=q2;obtain⟨a,ea,dx,vs,h1,h2⟩:=S2.x8 e';have r2':=cY ea r2;subst r2';have hm:some a∈α2:=UJ ea;have lv:vs.length<1000:=by rw[<-h2.length];exact hl
   refine⟨a,_,dx,vs,rfl,P2.get h1,c,na,lv,?_⟩;refine((k.nx.at s1).at s2) σd _ q2 α2 (upd G2 a (.ins _ dx (iH fl v vs))) _ σ (Step.write hm) (P2.write h1) (((R.step s1).step s2).step (Step.write hm)) ?_;exact S2.write ea ⟨dx,iH fl v vs,bc,(h2.put (r1.step s2)).step (Step.write hm)⟩
 . exact q2.elim
theorem LE.QO{σ:L2.St}{H:Hp}{Q:VK}(h:LE (dn C m S to t) σ H Q):EB C m (cH S) [] E0 (LE to) (LA t) σ H Q:=by
 obtain⟨α,σd,st,K,G,F,P,R,Sr,tt,k⟩:=h;refine⟨α,σd,st,_,G,F,P,R,Sr,tt,λ d st1 q α1 G1 H1 v s1 P1 S1 r1=>?_⟩;unfold xt Ah at q;cases d<;>try exact q.elim
 simp only at q;split at q
 . rename_i n C' fs e';obtain⟨rfl,hl,q⟩:=q;obtain⟨a,ea,dx,vs,h1,h2⟩:=S1.x8 e';have r1':=cY ea r1;subst r1';refine⟨a,dx,vs,rfl,P1.get h1,h2.none hl,?_⟩;refine⟨α1,σd,st1,_,G1,F,P1,R.step s1,S1,q,λ ds st2 q2 α2 G2 H2 us s2 P2 S2 r2=>?_⟩;try dsimp only
   rw[VV];exact⟨α2,_,st2,K,G2,F,P2,by unfold aI;exact⟨_,_,rfl,r1.step s2,r2⟩,S2,q2,(k.at s1).at s2⟩
 . exact q.elim
theorem LE.make{σ:L2.St}{H:Hp}{Q:VK}(h:LE (x_ C S t) σ H Q):KH C (cH S) [] E0 (LA t) σ H Q:=by
 obtain⟨α,σd,st,K,G,F,P,R,Sr,tt,k⟩:=h;refine⟨α,σd,st,_,G,F,P,R,Sr,tt,λ ds st1 q α1 G1 H1 us s1 P1 S1 r1=>?_⟩;intro x dx hx hdx hne;have hgd:=(P1.none hdx).1;have P2:=P1.laid (o:= .own x) hdx;have S2:=S1.laid (o:= .own x) hgd;have hx2:upd H1 dx (.own x) x=none:=by rw[aB (Ui hne)];exact hx
 have hg2:=(P2.none hx2).1;have P3:=P2.laid (o:= .ins C dx []) hx2;have S3:=S2.cell (o:= .ins C dx []) (c:= .ins C []) hg2 ⟨dx,[],bc,.nil⟩;have s2:Step α1 G1 α1 (upd G1 dx (.own x)):=Step.laid hgd;have s3:Step α1 (upd G1 dx (.own x)) (α1++[some x]) (upd (upd G1 dx (.own x)) x (.ins C dx [])):=Step.cell hg2
 have rx:Rep (α1++[some x]) (upd (upd G1 dx (.own x)) x (.ins C dx [])) (.ref st1.length) (.ref x):=by
  unfold Rep;refine .inr ⟨x,?_,rfl⟩;rw[UH (by rw[S1.len];exact Ue _),S1.len,VY];rfl
 rw[VV];refine⟨α1++[some x],.ref st1.length::ds,st1++[.ins C []],_,_,F,P3,by unfold aI;exact⟨_,_,rfl,rx,(r1.step s2).step s3⟩,S3,q,λ d st2 q2 α' G' H' v s' P' S' r'=>?_⟩;obtain⟨rfl,q2⟩:=q2;unfold Rep at r';exact⟨r',(((k.at s1).at s2).at s3) _ st2 q2 α' G' H' _ s' P' S' (rx.step s')⟩
end
def Od(a:Int)(n:Nat):It:=⟨λ i _=>i<n,λ i H x H'=>H'=H/\x= .int (a+(i:Nat)*(-1)),λ i _=>n<=i⟩
theorem Hf{P:Program}{w:World}{K:PySem.W.Frag}{tg:Expr}(it:Addr)(a:Int)(n:Nat):Turn P w K tg (Od a n) [it] it (λ i h=>IsRangeIter h it (a+(i:Nat)*(-1)) ((n:Int)-(i:Nat)) (-1)) where
 mem:=by simp
 obj:=λ i h st b hb=>by
  have e:b=it:=by simpa using hb
  subst e
  exact⟨_,st,λ v z=>by
   have z':Data.fields _=Data.cell v:=z;cases z'⟩
 keep:=λ i h h' st k=>k it (by simp) _ st
 item:=by
  intro X hP hw hK hc i pins s σ H E I hf st hg;subst hP hw hK;obtain⟨f0,f1,f2,f3,f4,f5⟩:=hf it (by simp);have W:=Walks.range (prog:=X.prog) (w:=X.w) (I.ok.hd hc) it a (-1) n;refine W.item i s _ _ hg st λ v h' tk hv st' kk=>?_;obtain⟨t,rfl⟩:=hv;have I1:Inv X pins σ H {s with heap:=h',toks:=tk}:=I.turned (λ b o hb e=>kk b o (by simpa using hb) e) f0 f1 f3 f4 f5;exact⟨_,rfl,AB (s:={s with heap:=h',toks:=tk}) (n:="range_iterator") st' rfl rfl (by decide) ⟨.int (a+(i:Nat)*(-1)),H,I1,⟨t,rfl⟩,⟨rfl,rfl⟩,st',λ b hb=>(hf b hb).1⟩⟩
 done:=by
  intro X hP hw hK hc i pins s σ H E I hf st hg;subst hP hw hK;obtain⟨f0,f1,f2,f3,f4,f5⟩:=hf it (by simp);exact YC (I.ok.hd hc) st (by have:n<=i:=hg;omega) λ h' eb=>⟨rfl,I.turned (t':=s.toks) (λ b o hb e=>eb b o hb e) f0 f1 f3 f4 f5⟩
 self:=λ _ _ _ _ _ st h=>YD st h
theorem zd(a b:Int):Builtin.Range.rangeSize a b (-1)=((a-b).toNat:Int):=by
 unfold Builtin.Range.rangeSize;rw[Ub (by decide)];have e:(a-b-1)/(- -1:Int)=a-b-1:=by simp
 rw[e];split<;>omega
theorem small_down{a b:Int}(ha: -(2^62)<=a)(ha':a<2^62)(hb: -(2^62)<=b)(hb':b<2^62):Builtin.Range.small a b (-1)=true:=by
 unfold Builtin.Range.small;rw[zd];simp only[Builtin.Range.rangeFitsLong,Vb,XE,decide_eq_true_eq,Wg,show¬((-1:Int)>0) by decide,WR];omega
def Kb(ta:TA):TI:=λ σ H R=>ta σ H λ vs H1=>∃i j:Int,vs=[.int i,.int j,.int (-1)]/\(-(2^62)<=i/\i<2^62/\ -(2^62)<=j/\j<2^62)/\R (Od i (i-j).toNat) H1
section
variable {X:Cx}{tg:Expr}
theorem FY{a b c:Expr}{ta:TA}{p pos:Pos}(hg:Gl X "range")(hm:X.mg "range"=none)(ha:PA X [a,b,c] ta)(hs:notStar a=true:=by rfl)(hs2:notStar b=true:=by rfl)(hs3:notStar c=true:=by rfl):
 PI X tg (.Call (.Name "range" p) [a,b,c] [] pos) (Kb ta):=by
 intro pins s σ H R I h;refine Call_ (kB I hg hm boot_range (Vr (b_ (ha pos pins s σ H _ I h) λ us s1 ⟨vs,H1,I1,r1,q1⟩=>?_) (cM hs) (kT (by simp[gS,hs2,hs3]))));obtain⟨i,j,e,⟨q1,q2,q3,q4⟩,q⟩:=q1;subst e;cases r1 with
 |cons r rr=>
  cases rr with
  |cons r' rr=>
   cases rr with
   |cons r'' rr=>
    cases rr;obtain⟨t,rfl⟩:=r;obtain⟨t',rfl⟩:=r';obtain⟨t'',rfl⟩:=r'';refine call_range_3 (by decide) ?_ (Or.inl (Ys (by decide+kernel)));refine wpAny_pyIter_range (IsRange.new ..) (small_down q1 q2 q3 q4) ?_;have I2:Inv X pins σ H1 {s1 with heap:=s1.heap.push {cls:= .type "range",data:= .fields #[.int i t,.int j t',.int (-1) t'']},toks:=s1.toks}:=I1.kept λ b o e=>Uc _ e;generalize({s1 with heap:=s1.heap.push {cls:= .type "range",data:= .fields #[.int i t,.int j t',.int (-1) t'']},toks:=s1.toks}:Shared)=s2 at I2⊢;refine⟨s2.heap.objs.size,[s2.heap.objs.size],_,_,H1,rfl,I2.kept (t':=s2.toks) λ b o e=>Uc _ e,Hf _ i (i-j).toNat,?_,λ b hb=>?_,q⟩
    . show IsRangeIter _ _ (i+((0:Nat):Int)*(-1)) ((((i-j).toNat:Nat):Int)-((0:Nat):Int)) (-1);have e1:i+((0:Nat):Int)*(-1)=i:=by omega
      have e2:(((i-j).toNat:Nat):Int)-((0:Nat):Int)=Builtin.Range.rangeSize i j (-1):=by rw[zd];omega
      rw[e1,e2];exact Ut _ rfl
    . have e:b=s2.heap.objs.size:=by simpa using hb
      subst e;exact I2.uE (Ue _) (I2.aO.fresh (Ue _))
end
def kM(a:Int)(n:Nat):List D:=(List.range n).map λ(k:Nat)=>D.int (a+(k:Nat)*(-1))
theorem tI{a:Int}{n k:Nat}:(kM a n)[k]?=if k<n then some (.int (a+(k:Nat)*(-1)))else none:=by
 unfold kM;rw[Uw];by_cases h:k<n
 . rw[WX h,Ud h];rfl
 . rw[WJ (by simpa using h),Ub h];rfl
theorem qD{a:Int}{n:Nat}:(kM a n).length=n:=by unfold kM;simp
theorem L7{α:List (Option Addr)}{G:Hp}{a:Int}{n:Nat}:uR (Od a n) α G (λ _=>True) (kM a n) where
 stop:=λ m α' G' F' H' st' s P S o hn=>by rw[qD]at hn;exact hn
 go:=λ m d α' G' F' H' st' s P S o hn=>by
  rw[tI]at hn;split at hn
  . assumption
  . cases hn
 pK:=λ m d α' G' F' H' st' x H'' s P S o hn y=>by
  obtain⟨rfl,rfl⟩:=y;rw[tI]at hn;split at hn
  . cases hn;exact⟨G',Step.refl,P,S,by unfold Rep;rfl⟩
  . cases hn
def Qj(ds:List D)(st1:ag)(K:List D->(ag->Prop)->ag->Prop):Prop:=match ds with
 | [.int i,.int j,.int c]=>(c= -1/\ -(2^62)<=i/\i<2^62/\ -(2^62)<=j/\j<2^62)/\K (kM i (i-j).toNat) (λ _=>True) st1
 |_=>False
@[irreducible] def Au:List D->ag->(List D->(ag->Prop)->ag->Prop)->Prop:=Qj
def vj(t:DA):DI:=λ σ st K=>t σ st λ ds st1=>Au ds st1 K
theorem Hz{X:Cx}{tg iter:Expr}{t:DA}(h:PI X tg iter (Kb (LA t))):PI X tg iter (LI (vj t)):=PI.imp h λ σ H R ⟨α,σd,st,K,G,F,P,RS,S,t,k⟩=>by
 refine⟨α,σd,st,_,G,F,P,RS,S,t,λ ds st1 q α1 G1 H1 vs s1 P1 S1 r1=>?_⟩;unfold Au at q;match ds,q,r1 with
 | [.int i,.int j,.int c],q,r1=>
   obtain⟨v,u,w,rfl,r2,r3,r4⟩:=Fh r1 rfl;unfold Rep at r2 r3 r4;subst r2 r3 r4;obtain⟨⟨rfl,q1⟩,q2⟩:=q;exact⟨i,j,rfl,q1,k _ _ st1 q2 _ α1 G1 H1 s1 P1 S1 L7⟩
theorem Lw{st:ag}{i j:Int}{K:List D->(ag->Prop)->ag->Prop}(h: -(2^62)<=i/\i<2^62/\ -(2^62)<=j/\j<2^62)(k:K (kM i (i-j).toNat) (λ _=>True) st):Au [.int i,.int j,.int (-1)] st K:=by unfold Au;exact⟨⟨rfl,h⟩,k⟩
theorem Cf{X:Cx}{tg a b c:Expr}{p pos:Pos}{ar:DA}(hg:Gl X "range")(hm:X.mg "range"=none)(ha:JA X [a,b,c] ar)(hs:notStar a=true:=by rfl)(hs2:notStar b=true:=by rfl)(hs3:notStar c=true:=by rfl):JI X tg (.Call (.Name "range" p) [a,b,c] [] pos) (vj ar):=by
 unfold JI;unfold JA at ha;exact Hz (FY hg hm ha hs hs2 hs3)
section
variable {X:Cx}
def Ri:V->V->Hp->VK->Prop:=λ o i H Q=>∃p xs k j v,o= .ref p/\i= .int k/\H p=some (.lst xs)/\0<=k/\lO xs.length k=some j/\xs[j]?=some v/\Q v H
theorem F_:NF X Ri:=by
 intro pins s σ H o i ov iv Q I ro ri h;obtain⟨p,xs,k,j,v,rfl,rfl,hp,h0,hj,hv,q⟩:=h;cases ro;obtain⟨t,rfl⟩:=ri;obtain⟨its,n,r,ho,hz⟩:=I.lst hp;obtain⟨h1,h2,h3,h4⟩:=yw hj;have hl:=r.length;have hn:=rG
 have hk:k.toNat=j:=by
  rw[YE h0 h4]at h1;exact U6 h1
 obtain⟨w,ew,rw'⟩:=r.get hv;have isL:s.heap.IsList p its.toArray:=⟨_,ho,rfl,n,rfl⟩
 exact wpAny_getItem_list isL h0 (by omega) (by rw[hk];simpa using ew) ⟨v,H,I,rw',q⟩
end
def EH(x y:D)(st:ag)(K:DK):Prop:=match x,y with
 | .ref n,.int k=>(match st[n]? with|some (.lst xs)=>0<=k/\(match dY xs k with|some (.int u)=>K (.int u) st|_=>False)|_=>False)
 |_,_=>False
@[irreducible] def Ak:D->D->ag->DK->Prop:=EH
def E5(f:Int->Int->Int)(x y old d:D)(st:ag)(K:ag->Prop):Prop:=match old,d with
 | .int u,.int v=>wa x y (.int (f u v)) st K
 |_,_=>False
@[irreducible] def Ay(f:Int->Int->Int):D->D->D->D->ag->(ag->Prop)->Prop:=E5 f
def Bf(f:Int->Int->Int)(to ti te:DE):DS:=λ D σ st=>to σ st λ x st1=>ti σ st1 λ y st2=>Ak x y st2 λ u st3=>te σ st3 λ d st4=>Ay f x y u d st4 λ st5=>D.nx σ st5
theorem MM{n:Nat}{k u:Int}{xs:List D}{st:ag}{K:DK}(e:st[n]?=some (.lst xs))(h0:0<=k)(a:dY xs k=some (.int u))(q:K (.int u) st):Ak (.ref n) (.int k) st K:=by
 unfold Ak EH;simp only[e,a];exact⟨h0,q⟩
theorem Lz{f:Int->Int->Int}{n j:Nat}{k u v:Int}{xs:List D}{st:ag}{K:ag->Prop}(e:st[n]?=some (.lst xs))(a:lO xs.length k=some j)(q:K (st.set n (.lst (xs.set j (.int (f u v)))))):Ay f (.ref n) (.int k) (.int u) (.int v) st K:=by
 unfold Ay E5 wa;simp only[e,a];exact q
section
variable {X:Cx}{e o i value:Expr}{es:List Expr}{te to ti:DE}{t:DA}{pos pos' tpos apos p:Pos}{C f:Addr}{fl m x:Str}{S:cE}{k:Nat}{fd:FuncData}{ps:List Str}
theorem Jv{op:Operator}{g:Int->Int->Int}(ho:PE X o (LE to))(hi:PE X i (LE ti))(he:PE X e (LE te))(hp:BV X op (D_ g))
 (ha:∀ov iv new,augStore i ov iv new=(do holding [new,ov,iv] (setItem ov iv new);release [new,ov,iv] [];pure .next)):PS X (.AugAssign (.Subscript o i tpos) op e pos) (LS (Bf g to ti te)):=PS.imp (MX ho hi F_ he hp set_list ha) λ D σ H ⟨α,σd,st,DD,G,F,P,R,S,t,k⟩=>by
 refine⟨α,σd,st,_,G,F,P,R,S,t,λ x st1 q α1 G1 H1 v1 s1 P1 S1 r1=>?_⟩;refine⟨α1,σd,st1,_,G1,F,P1,R.step s1,S1,q,λ y st2 q2 α2 G2 H2 v2 s2 P2 S2 r2=>?_⟩;unfold Ak EH at q2;cases x<;>cases y<;>try exact q2.elim
 rename_i n kk;simp only at q2;split at q2
 . rename_i xs ex;obtain⟨h0,q2⟩:=q2;split at q2
   . rename_i u hu;obtain⟨a,ea,vs,hv,rv⟩:=S2.iZ ex;have r1':=cY ea (r1.step s2);subst r1';unfold Rep at r2;unfold dY at hu;cases ej:lO xs.length kk with
     |none=>rw[ej]at hu;cases hu
     |some j=>
      rw[ej]at hu;have hu2:xs[j]?=some (.int u):=hu;obtain⟨w,hw,rw'⟩:=rv.get hu2;unfold Rep at rw';subst rw';refine⟨a,vs,kk,j,.int u,rfl,r2,P2.get hv,h0,by rw[<-rv.length];exact ej,hw,?_⟩;refine⟨α2,σd,st2,_,G2,F,P2,(R.step s1).step s2,S2,q2,λ d st3 q4 α3 G3 H3 v3 s3 P3 S3 r3=>?_⟩;unfold Ay E5 at q4;cases d<;>try exact q4.elim
      rename_i v;unfold Rep at r3;refine⟨u,v,rfl,r3,?_⟩;unfold wa at q4;simp only at q4;split at q4
      . rename_i xs3 e3;split at q4
        . rename_i j3 ej3;obtain⟨a',ea',vs3,hv3,rv3⟩:=S3.iZ e3;have ra:=cY ea' ((r1.step s2).step s3);cases ra;have hm:some a∈α3:=UJ ea';refine⟨a,vs3,kk,j3,rfl,r2,P3.get hv3,by rw[<-rv3.length];exact ej3,?_⟩;refine(((k.nx.at s1).at s2).at s3) σd _ q4 α3 (upd G3 a (.lst (vs3.set j3 (.int (g u v))))) _ σ (Step.write hm) (P3.write hv3) ((((R.step s1).step s2).step s3).step (Step.write hm)) ?_;exact S3.write ea' ⟨_,bc,(aY.mpr (sS (show Rep α3 G3 (.int (g u v)) (.int (g u v)) by unfold Rep;rfl) j3 (aY.mp rv3))).step (Step.write hm)⟩
        . exact q4.elim
      . exact q4.elim
   . exact q2.elim
 . exact q2.elim
theorem He{value o:Expr}{fl:Str}{pos':Pos}{n:Nat}{env:Env}:swapsWith value (some (.Attribute o fl pos')) n env=pure false:=by cases value<;>rfl
theorem bO(c:nZ X.K C)(na:gf X.K C fl)(he:JE X e te)(hb:attributeBase e fl X.env (eval e X.env)=eval e X.env:=by rfl):JE X (.Attribute e fl pos) (cG C fl te):=by unfold JE at*;exact Qk c na he hb
theorem lu(c:nZ X.K C)(na:gf X.K C fl)(ho:JE X o to)(hv:JE X value te):JS X (.Assign [.Attribute o fl pos'] value pos) (nc C fl to te):=by unfold JS;unfold JE at*;exact Pb c na ho hv He
theorem JX{op:Operator}{g:Int->Int->Int}(ho:JE X o to)(hi:JE X i ti)(he:JE X e te)(hp:BV X op (D_ g))
 (ha:∀ov iv new,augStore i ov iv new=(do holding [new,ov,iv] (setItem ov iv new);release [new,ov,iv] [];pure .next):=by intros;rfl):JS X (.AugAssign (.Subscript o i tpos) op e pos) (Bf g to ti te):=by unfold JS;unfold JE at*;exact Jv ho hi he hp ha
theorem eQ{pl:Sem Bool}(he:JE X o to)(c:nZ X.K C)(hm:Meth X.K C m f)(F:bj X.prog X.w X.K X.mg X.base cF k f fd ps (cH S))(hr:cT k X.A)(hb:Binds X.K fd ps [])(ha:JA X (e::es) t)
 (hs:notStar e=true:=by rfl) (hs2:gS es=true:=by rfl)
 (ht:eval (.Call (.Attribute o m apos) (e::es) [] pos) X.env=(do
   let ov <-eval o X.env
   standAt apos.atName
   let(f,first) <-holding [ov] (getMethod ov m pl)
   callWith pos f first (backTo pos (starEach (e::es) X.env)) (backToKw pos (keywordEach [] X.env))):=by rfl):
 JE X (.Call (.Attribute o m apos) (e::es) [] pos) (dn C m S to t):=by
 unfold JE at*;unfold JA at ha;exact PE.imp (LU he c hm F hr hb .nil Ap ha (cM hs) (kT hs2) ht) λ _ _ _ h=>LE.QO h
theorem LN{pl:Sem Bool}(he:JE X o to)(c:nZ X.K C)(hm:Meth X.K C m f)(F:bj X.prog X.w X.K X.mg X.base cF k f fd ps (cH S))(hr:cT k X.A)(hb:Binds X.K fd ps [])
 (ht:eval (.Call (.Attribute o m apos) [] [] pos) X.env=(do
   let ov <-eval o X.env
   standAt apos.atName
   let(f,first) <-holding [ov] (getMethod ov m pl)
   callWith pos f first (backTo pos (starEach [] X.env)) (backToKw pos (keywordEach [] X.env))):=by rfl):
 JE X (.Call (.Attribute o m apos) [] [] pos) (dn C m S to aq):=by
 unfold JE at*;refine PE.imp (IC he c hm F hr hb .nil Ap ht) λ σ H Q h=>?_;obtain⟨α,σd,st,K,G,F,P,R,Sr,tt,k⟩:=h;refine⟨α,σd,st,_,G,F,P,R,Sr,tt,λ d st1 q α1 G1 H1 v s1 P1 S1 r1=>?_⟩;unfold xt Ah at q;cases d<;>try exact q.elim
 simp only at q;split at q
 . rename_i n C' fs e';obtain⟨rfl,hl,q⟩:=q;obtain⟨a,ea,dx,vs,h1,h2⟩:=S1.x8 e';have r1':=cY ea r1;subst r1';exact⟨a,dx,vs,rfl,P1.get h1,h2.none hl,α1,_,st1,K,G1,F,P1,by unfold aI;exact⟨_,_,rfl,r1,by unfold aI;rfl⟩,S1,q,k.at s1⟩
 . exact q.elim
theorem Cu(M:Mk X.K C f)(F:bj X.prog X.w X.K X.mg X.base cF k f fd ps (cH S))(hr:cT (k+1) X.A)(hg:Gl X x)(hmg:X.mg x=some (.ref C))(hb:Binds X.K fd ps [])(ha:JA X (e::es) t)(hdb:(x==("__debug__":Str))=false)
 (hs:notStar e=true:=by rfl) (hs2:gS es=true:=by rfl):JE X (.Call (.Name x p) (e::es) [] pos) (x_ C S t):=by
 unfold JE;unfold JA at ha;exact PE.imp (Nb M F hr hg hmg hb .nil Ap ha hdb (cM hs) (kT hs2)) λ _ _ _ h=>LE.make h
end
end L3
namespace L2
open PySem PySem.Spec PyProof.Rows
structure Entry(K:PySem.W.Frag)(ts:List (Addr×Addr))(a:Addr)(ns:List Int)(H:Hp):Prop where
 lst:nP K H a (ns.map V.int)
 tab:∀q∈ts,H q.2=some (.lG #[])/\q.2≠a
theorem zc:∀ {vs:List Value} {ns:List Int},IntsAre vs ns->Vals (ns.map V.int) vs
 |_,_,.nil=> .nil
 |_,_,.cons n t h=> .cons ⟨t,rfl⟩ (zc h)
structure NK(K:PySem.W.Frag)(ts:List (Addr×Addr))(h:Heap):Prop where
 hd:∀q∈ts,PySem.W.codeHdIn K q.1 q.2=true
 no:∀q∈ts,K.lookup q.2=none
 at':∀q∈ts,h.get? q.2=some (PySem.W.tabObj #[])
theorem Gj{P:Program}{w:World}{K:PySem.W.Frag}{mg mb:Str->Option Value}{k:Nat}{fa a:Addr}{fd:FuncData}{x:Str}{sp:Sp}{s₁:Shared}{vs:List Value}{ns:List Int}{ts:List (Addr×Addr)}
 (KX:K.In s₁.heap) (hns:s₁.heap.Ns mainGlobals mg) (hb:s₁.heap.Ns builtinsNs mb) (hbb:∀x:Str,x≠"__name__"->mb x=bootBuiltins x) (hlim:s₁.heap.NoLimit) (hse:s₁.heap.NoSeer) (hgt:P.given.tree=none)
 (hbm:∃bm ob,mg "__builtins__"=some (.ref bm)/\bm≠builtinsNs/\s₁.heap.get? bm=some ob/\ob.cls= .type "module"/\ob.dict=some builtinsNs/\ob.data= .plain) (hT:NK K ts s₁.heap) (hg:s₁.gens= #[])
 (ha:s₁.heap.get? a=some {cls:= .type "list",data:= .seq vs.toArray}) (hi:IntsAre vs ns) (hl:ns.length<=sizeLine) (hr:cT k callerA)
 (F:∀base:Heap,K.In base->base.Ns mainGlobals mg->bj P w K mg base (λ _ _ _ _ _ _=>False) k fa fd [x] sp) (hbind:∀(s:Shared) (u:Value),BindsTo s fd ⟨[u],[]⟩ [(x,u)])
 (hsp:∀H:Hp,Entry K ts a ns H->sp [.ref a] H (λ v _=>v= .bl true) λ _ _ _=>False):
 codeAny (model P w) callerA (.call (.ref fa) ⟨[.ref a],[]⟩) (λ r s'=>r= .ok (.ret (.bool true))/\OldK s₁.heap s'.heap/\s'.os=s₁.os/\AllBare s'.gens) s₁:=by
 have rv:=zc hi;have lenV:=hi.length
 have nta:∀q∈ts,q.2≠a:=λ q hq z=>by
  have:=hT.at' q hq;rw[z,ha]at this;cases this
 let sc:Option HO:=match K.lookup a with
  |some _=>none
  |none=>some (.ia {cls:= .type "list",data:= .seq vs.toArray} (.lst (ns.map V.int)))
 let H:Hp:=λ b=>if b=a then sc else if b∈ts.map (·.2)then some (.lG #[])else none
 have Ha:H a=sc:=Ud rfl
 have Ht:∀q∈ts,H q.2=some (.lG #[]):=λ q hq=>by
  show(if q.2=a then sc else if q.2∈ts.map (·.2)then some (HO.lG #[])else none)=_;rw[Ub (nta q hq),Ud (XO hq)]
 have Hs:∀b u,H b=some u->(b=a/\K.lookup a=none/\u= .ia {cls:= .type "list",data:= .seq vs.toArray} (.lst (ns.map V.int)))\/(∃q∈ts,q.2=b/\u= .lG #[]):=λ b u e=>by
  have e':(if b=a then sc else if b∈ts.map (·.2)then some (HO.lG #[])else none)=some u:=e;by_cases hba:b=a
  . rw[Ud hba]at e'
    have e2:(match K.lookup a with
     |some _=>none
     |none=>some (HO.ia {cls:= .type "list",data:= .seq vs.toArray} (.lst (ns.map V.int))))=some u:=e'
    cases q:K.lookup a with
    |some o=>rw[q]at e2;cases e2
    |none=>rw[q]at e2;cases e2;exact .inl ⟨hba,rfl,rfl⟩
  . rw[Ub hba]at e';by_cases hbt:b∈ts.map (·.2)
    . rw[Ud hbt]at e';cases e';obtain⟨q,hq,e⟩:=Vy.mp hbt;exact .inr ⟨q,hq,e,rfl⟩
    . rw[Ub hbt]at e';cases e'
 have aO:i8 P w H s₁.heap:=λ b u e=>by
  rcases Hs b u e with⟨rfl,_,rfl⟩|⟨q,hq,rfl,rfl⟩
  . exact⟨ha,by rw[Uk];exact hl,vs,_,rv,ha⟩
  . exact hT.at' q hq
 have hE:Entry K ts a ns H:=by
  refine⟨?_,λ q hq=>⟨Ht q hq,nta q hq⟩⟩;cases q:K.lookup a with
  |some o=>
   have e:=KX a o q;rw[ha]at e;cases e;exact .inr ⟨_,vs.toArray,_,q,rfl,rfl,rfl,by rw[Um,lenV];exact hl,by simpa using rv⟩
  |none=>
   refine .inl (.inr ⟨{cls:= .type "list",data:= .seq vs.toArray},?_⟩);rw[Ha]
   show(match K.lookup a with
    |some _=>none
    |none=>some (HO.ia {cls:= .type "list",data:= .seq vs.toArray} (.lst (ns.map V.int))))=_
   rw[q]
 have dictNo:∀ {b:Addr} {o:Obj},s₁.heap.get? b=some o->(∀es ep,o.data≠ .seq es ep)->o.cls≠ .none->H b=none:=λ{b o} e d1 d2=>by
  cases q:H b with
  |none=>rfl
  |some u=>
   rcases Hs b u q with⟨rfl,_,_⟩|⟨t,ht,rfl,_⟩
   . rw[ha]at e;cases e;exact absurd rfl (d1 _ _)
   . rw[hT.at' t ht]at e;cases e;exact absurd rfl d2
 have nsK:∀ {b:Addr} {m:Str->Option Value},s₁.heap.Ns b m->(qV s₁.heap H).Ns b m:=λ{b m} ⟨o,es,ep,e,d,r⟩=>by
  refine⟨o,es,ep,sT e ?_,d,r⟩;cases q:H b with
  |none=>rfl
  |some u=>
   rcases Hs b u q with⟨rfl,_,_⟩|⟨t,ht,rfl,_⟩
   . rw[ha]at e;cases e;cases d
   . rw[hT.at' t ht]at e;cases e;cases d
 have hKb:K.In (qV s₁.heap H):=λ b o e=>sT (KX b o e) (by
  cases q:H b with
  |none=>rfl
  |some u=>
   rcases Hs b u q with⟨rfl,z,_⟩|⟨t,ht,rfl,_⟩
   . rw[z]at e;cases e
   . rw[hT.no t ht]at e;cases e)
 obtain⟨bm,ob,b1,b2,b3,b4,b5,b6⟩:=hbm;have hbmK:(qV s₁.heap H).get? bm=some ob:=sT b3 (dictNo b3 (λ es ep z=>by rw[b6]at z;cases z) (λ z=>by rw[b4]at z;cases z))
 have seK:(qV s₁.heap H).NoSeer:=by
  obtain⟨⟨m1,a1,a2⟩,⟨m2,c1,c2⟩,⟨m3,d1,d2⟩,⟨mg',bm',ob',e1,e2,e3,e4,e5⟩⟩:=hse;refine⟨⟨m1,nsK a1,a2⟩,⟨m2,nsK c1,c2⟩,⟨m3,nsK d1,d2⟩,⟨mg',bm',ob',nsK e1,e2,sT e3 ?_,e4,e5⟩⟩;cases q:H bm' with
  |none=>rfl
  |some u=>
   rcases Hs bm' u q with⟨rfl,_,_⟩|⟨t,ht,rfl,_⟩
   . rw[ha]at e3;cases e3;exact absurd (show Value.type "list"=Value.type "module" from e4) (by intro z;injection z with z;exact absurd z (by decide))
   . rw[hT.at' t ht]at e3;cases e3;cases e4
 have hM:Mod K mg (qV s₁.heap H):=⟨hKb,nsK hns,⟨mb,nsK hb,hbb⟩,let⟨mc,h1,h2⟩:=hlim;⟨mc,nsK h1,h2⟩,seK,⟨bm,ob,b1,b2,hbmK,b4,b5,b6⟩⟩
 have e0:we P w K mg (qV s₁.heap H) callerA [] s₁ H:=⟨rfl,hM,λ b o e=>Lx e,Yo (HI _ _),trivial,λ b hb=>absurd (show b∈([]:List Addr)from hb) (by simp),aO,.of_eq hg,hgt⟩
 refine Yp ((F _ hKb (nsK hns)).run callerA [] s₁ H ⟨[.ref a],[]⟩ [.ref a] [.ref a] _ _ hr e0 (hbind s₁ (.ref a)) (.cons rfl .nil) (hsp H hE)) λ r s' h=>?_;cases r with
 |error e=>exact False.elim h
 |ok fl=>
  cases fl with
  |next=>exact False.elim h
  |brk=>exact False.elim h
  |cont=>exact False.elim h
  |ret u=>
   obtain⟨v,H',os,bare,un,hok',r',q⟩:=h;have q':v= .bl true:=q;subst q';obtain rfl:u=Value.bool true:=r';have noF:∀b:Addr,b∉rS ([]:List Env):=λ b z=>absurd (show b∈([]:List Addr)from z) (by simp);refine⟨rfl,⟨λ b o e=>?_,λ b o e=>un.there b o e (by simp)⟩,os,bare⟩;cases q:H b with
   |none=>exact .inl (un.keep b o e q (noF b) (by simp))
   |some u=>
    rcases Hs b u q with⟨rfl,_,rfl⟩|⟨t,ht,rfl,rfl⟩
    . obtain⟨e2,_⟩:=hok' b _ (un.pW b _ _ q);rw[ha]at e;cases e;exact .inl e2
    . obtain⟨more,e1⟩:=un.pH _ _ q;have e2:s'.heap.get? t.2=some {cls:= .none,data:= .fields (#[]++more)}:=hok' _ _ e1;have e3:=hT.at' t ht;rw[e3]at e;cases e;have C:PySem.W.CodeHd s₁.heap t.1 t.2:=PySem.W.codeHd_of_K KX (hT.hd t ht);exact .inr (.inl ⟨(C.tab e3).isCodeTable,rfl,#[],more,rfl,e2⟩)
theorem Ru{l:PySem.W.OpenLaw}{n k:Nat}{q:Program}{loose:List Str}{XP:(Str->Option Value)->Heap->Prop}{YP:World->Heap->Prop}{d:DefRec}{K:Params->PySem.W.Frag}{sp:World->Sp}{x:Str}{ts:List (Addr×Addr)}
 (hn:l.most=some n) (hn2:n<=sizeLine) (hdf:d.params.defaults=[]) (hr:cT k callerA) (hq:importsNone q=true) (hgt:l.prog.given.tree=none)
 (hY:∀(w:World) (h:Heap),YP w h->(K w.params).In h/\NK (K w.params) ts h)
 (F:∀(w:World) (mg:Str->Option Value) (fa:Addr) (h:Heap),(K w.params).In h->h.Ns mainGlobals mg->mg d.name=some (.ref fa)->
   ∃fd:FuncData,(∀(s:Shared) (u:Value),BindsTo s fd ⟨[u],[]⟩ [(x,u)])/\
    ∀base:Heap,(K w.params).In base->base.Ns mainGlobals mg->bj l.prog w (K w.params) mg base (λ _ _ _ _ _ _=>False) k fa fd [x] (sp w))
 (hsp:∀(w:World) (H:Hp) (a:Addr) (ns:List Int),ns.length<=n->Entry (K w.params) ts a ns H->sp w [.ref a] H (λ v _=>v= .bl true) λ _ _ _=>False):
 PySem.W.WalkO q loose XP YP l.row.toRowW d [] (λ f vs=>PySem.call f vs):=by
 refine Att.CZ hn hdf λ w s₀ s₁ mg mb fa o pm cd doc a vs ns G Y ho hd hcd hmg hobj hints hlen hg=>?_;obtain⟨KX,hT⟩:=hY w _ Y;obtain⟨fd,hb,hF⟩:=F w mg fa _ KX G.T.g hmg;exact Gj KX G.T.g G.T.b G.T.builtins G.T.nolimit (G.T.seer hq) hgt G.T.bmain hT hg hobj hints (Uj hlen hn2) hr hF hb λ H hE=>hsp w H a ns hlen hE
end L2
namespace L3
open PySem PySem.Spec L2
open PyProof.Rows hiding St
section
variable {X:Cx}{pins:List (Addr×Obj)}{σ:L2.St}{H:Hp}{s:Shared}{p:Addr}{o o':Obj}{h':Heap}
theorem mM{t':Nat}(I:Inv X pins σ H s)(hd:∀v,o.data≠ .cell v)(hfr:o.isFreed=false:=by rfl):Inv X (pins++[(s.heap.objs.size,o)]) σ H {s with heap:=s.heap.push o,toks:=t'}:=by
 have I':=I.kept (h':=s.heap.push o) (t':=t') (λ b u e=>Uc _ e);refine I'.vg λ q hq=>?_;rcases UM.mp hq with hq|hq
 . exact I'.pin q (Uy _ hq)
 . have e:q=(s.heap.objs.size,o):=by simpa using hq
   subst e;exact⟨Ut _ hfr,I.aO.fresh (Ue _),VX I.lt,I.Oq (Ue _),hd⟩
theorem gJ(I:Inv X (pins++[(p,o)]) σ H s):s.heap.get? p=some o/\H p=none/\p≠X.env.locals/\p∉X.fs/\∀v,o.data≠ .cell v:=
 I.pin (p,o) (Uy _ (Uy _ (VP.mpr rfl)))
theorem Bv(I:Inv X (pins++[(p,o)]) σ H s):∀x c,X.env.cells.lookup x=some c->c≠p:=λ x c e z=>by
 obtain⟨v,u,hu,hd⟩:=I.cell x c e;obtain⟨h1,_,_,_,h5⟩:=gJ I;rw[z,h1]at hu;cases hu;exact h5 v hd
theorem pJ{t':Nat}(I:Inv X (pins++[(p,o)]) σ H s)(hs:Heap.SameBut p s.heap h')(hn:h'.get? p=some o')(hd:∀v,o'.data≠ .cell v)(h0:X.s₀.heap.objs.size<=p)(hp:∀q∈X.pn++pins,q.1≠p):
 Inv X (pins++[(p,o')]) σ H {s with heap:=h',toks:=t'}:=by
 obtain⟨_,n,neL,nfs,_⟩:=gJ I;have I0:Inv X pins σ H s:=I.iQ;have I1:=I0.turned (t':=t') (h':=h') (it:=p) (λ b u hb e=>(hs.2 b hb).trans e) n neL (.inr h0) (Bv I) hp;refine I1.vg λ q hq=>?_;rcases UM.mp hq with hq|hq
 . exact I1.pin q (Uy _ hq)
 . have e:q=(p,o'):=by simpa using hq
   subst e;exact⟨hn,n,neL,nfs,hd⟩
theorem Gr{u:HO}(I:Inv X (pins++[(p,o)]) σ H s)(h0:X.s₀.heap.objs.size<=p)(hp:∀q∈X.pn++pins,q.1≠p)(new:dP X.prog X.w (upd H p u) s.heap p u):Inv X pins σ (upd H p u) s:=by
 obtain⟨e0,n,neL,nfs,_⟩:=gJ I;have ne:∀ {b:Addr} {w:HO},H b=some w->b≠p:=λ e=>dJ e n;have ne0:∀ {b:Addr} {w:Obj},X.s₀.heap.get? b=some w->b≠p:=λ e=>UG (UE (Up e) h0);refine⟨I.ok,I.os,I.bare,⟨I.base.keep,I.base.slot,λ b w e q hx=>?_,I.base.there,λ b xs e=>?_,λ b w y e=>?_,λ b ps e=>?_⟩,I.loc,I.cell,?_,λ x c e=>?_,λ q hq=>?_,λ b w e=>?_,I.len⟩
 . rw[aB (ne0 e)];exact I.base.free b w e q hx
 . have:=I.base.qO b xs e;rw[aB (ne this)];exact this
 . have:=I.base.pW b w y e;rw[aB (ne this)];exact this
 . obtain⟨m,q⟩:=I.base.pH b ps e;exact⟨m,by rw[aB (ne q)];exact q⟩
 . rw[aB (Ui neL)];exact I.free
 . rw[aB (Bv I x c e)];exact I.ju x c e
 . have hq':q∈X.pn++(pins++[(p,o)]):=by
    rcases UM.mp hq with z|z
    . exact VG _ z
    . exact Uy _ (VG _ z)
   obtain⟨a1,a2,a3⟩:=I.pin q hq';exact⟨a1,by rw[aB (hp q hq)];exact a2,a3⟩
 . by_cases hb:b=p
   . subst hb;rw[bc]at e;cases e;exact new
   . rw[aB hb]at e;exact(I.aO b w e).qQ (λ _ _ _ q=>q) (λ c q=>by rw[aB (ne q)];exact q) λ c xs q=>by rw[aB (ne q)];exact q
end
def oy(X:Cx)(pins:List (Addr×Obj))(σ:L2.St)(R:Hp->Prop)(own:List (Addr×Obj))(s:Shared):Prop:=∃H,Inv X (pins++own) σ H s/\R H
section
variable {X:Cx}{pins:List (Addr×Obj)}{σ:L2.St}{R:Hp->Prop}{s:Shared}{A:Around}{E:Value->Shared->Prop}{a kS:Addr}{e1 e:Nat}{keys:Array Value}{P:PySem.Fin->Shared->Prop}
structure Own(X:Cx)(pins:List (Addr×Obj))(p:Addr):Prop where
 ge:X.s₀.heap.objs.size<=p
 ne:∀q∈X.pn++pins,q.1≠p
theorem u0{H:Hp}(I:Inv X pins σ H s):Own X pins s.heap.objs.size:=⟨I.sz,λ q hq=>UG (Up (I.pin q hq).1)⟩
theorem BJ{p:Addr}{q:Addr×Obj}(h:Own X pins p)(hq:q.1≠p):Own X (pins++[q]) p:=⟨h.ge,λ r hr=>by
 rcases UM.mp hr with z|z
 . exact h.ne r (VG _ z)
 . rcases UM.mp z with z|z
   . exact h.ne r (Uy _ z)
   . have e:r=q:=by simpa using z
     rw[e];exact hq⟩
theorem AJ{x y:Addr×Obj}(J:oy X pins σ R [x,y] s):∃H,Inv X ((pins++[x])++[y]) σ H s/\R H:=by
 obtain⟨H,I,r⟩:=J;exact⟨H,by rw[VU];exact I,r⟩
theorem GW{x y:Addr×Obj}{H:Hp}(I:Inv X ((pins++[x])++[y]) σ H s)(r:R H):oy X pins σ R [x,y] s:=⟨H,by rw[VU]at I;exact I,r⟩
theorem Cp{st:SortSt}(J:oy X pins σ R [(a,seqObj "list" #[] e1),(kS,seqObj "list" keys e)] s)(ha:Own X pins a)(hk:Own X pins kS)(hka:kS≠a)(hz1:keys.size<=sizeLine)(hz2:(arrOf st).size<=sizeLine)(hf:failedOf st=none)
 (h:∀s' c,oy X pins σ R [(a,seqObj "list" ((arrOf st).map (·.2)) c)] s'->P (.done (.ret .none)) s'):
 wpAny (model X.prog X.w) A (PyProof.Rows.ksk_tail a false e1 (.ref kS) st) P E s:=by
 obtain⟨H,I,r⟩:=AJ J;have k1:=(gJ I).1;have s1:=VJ s.heap kS (Obj.mapSeq λ _=>(#[]:Array Value));have I1:=pJ (t':=s.toks) I s1 (W2 k1 λ _=> #[]) (λ v z=>by cases z) hk.ge (BJ hk hka.symm).ne;have I2:Inv X (pins++[(a,seqObj "list" #[] e1)]) σ H {s with heap:=s.heap.update kS (Obj.mapSeq λ _=>(#[]:Array Value)),toks:=s.toks}:=I1.iQ;have a1:=(gJ I2).1;have s2:=VJ (s.heap.update kS (Obj.mapSeq λ _=>(#[]:Array Value))) a (Obj.mapSeq λ _=>(arrOf st).map (·.2));have I3:=pJ (t':=s.toks) I2 s2 (W2 a1 λ _=>(arrOf st).map (·.2)) (λ v z=>by cases z) ha.ge ha.ne;unfold ksk_tail;simp only[WD,WR];refine T_ (XZ k1 rfl ?_ hz1 (UK _));refine T_ (Wr ?_);refine T_ (seqEpoch_at a1 rfl ?_);refine T_ (XZ a1 rfl ?_ (UK _) (Nat.le_succ_of_le (by rw[Array.size_map];exact hz2)));rw[hf];simp only[bne_self_eq_false,WD,WR];exact Ul (h _ _ ⟨H,I3,r⟩)
def Fb(kz:List Int)(vs out:List Value):Prop:=
 ∃ps:List (Int×Value),ps.Perm (kz.zip vs)/\out=ps.map Prod.snd/\ps.Pairwise λ p q=>p.1<=q.1
theorem Dz{kz:List Int}{vs:List Value}(hk:IntsAre keys.toList kz){xs:Array Keyed}(hp:xs.Perm (keys.zip vs.toArray))(hs:SortedTo xs xs.size):Fb kz vs (xs.map (·.2)).toList:=by
 obtain⟨ps,h1,h2,h3⟩:=ksk_out hk (b:=false) hp hs;exact⟨ps,h1,h2,h3⟩
theorem M4{kz:List Int}{vs:List Value}(J:oy X pins σ R [(a,seqObj "list" #[] e1),(kS,seqObj "list" keys e)] s)(ha:Own X pins a)(hk:Own X pins kS)(hka:kS≠a)(hi:IntsAre keys.toList kz)(hl:kz.length=vs.length)(h64:vs.length<64)
 (h:∀s' out c,oy X pins σ R [(a,seqObj "list" out c)] s'->Fb kz vs out.toList->P (.done (.ret .none)) s'):
 wpAny (model X.prog X.w) A (ksk_end a false vs.toArray e1 (.ref kS) keys) P E s:=by
 have hsz:keys.size=vs.length:=by have:=hi.length;rw[Wy]at this;omega
 have hzs:(keys.zip vs.toArray).size=vs.length:=by rw[Array.size_zip,hsz,Um,Y5]
 have hbig:vs.length<=sizeLine:=Uj (VM h64) (by decide);unfold ksk_end;simp only[WD,WR];by_cases h2:vs.toArray.size<2
 . rw[Ud h2,Ud h2];refine T_ (Ul ?_);rw[StateT.run_pure];refine T_ (Ul ?_);refine Cp (st:=SortSt.mk' general' (keys.zip vs.toArray) #[] 7 none) J ha hk hka (by omega) (by show(keys.zip vs.toArray).size<=_;omega) rfl λ s' c J'=>h s' _ c J' ?_;refine Dz hi (Array.Perm.refl _) λ i j hij hj=>?_;have hj':j<(keys.zip vs.toArray).size:=hj;rw[Um]at h2;have:i=j:=by omega
   rw[this];exact Xi _
 . rw[Ub h2,Ub h2];rw[Um]at h2;rw[ksk_kind hi (by omega)];refine T_ (Ul ?_)
   refine T_ (V1 (wpS_sortRuns (a₀:=keys.zip vs.toArray) (st:=SortSt.mk' oneType' (keys.zip vs.toArray) #[] 7 none)
    (Q:=λ _ st'=>(arrOf st').Perm (keys.zip vs.toArray)/\failedOf st'=none/\SortedTo (arrOf st') (keys.zip vs.toArray).size)
    (ksk_intKeys hi) ⟨Array.Perm.refl _,rfl,rfl,rfl⟩ (by omega) (by omega) λ st' b1 b2 b3=>⟨b1,b2,b3⟩) ?_ λ _ _ z=>z)
   rintro⟨⟨⟩,st'⟩ s' ⟨rfl,hp,hf,hs⟩;have hz2:=hp.size_eq;refine Cp (st:=st') J ha hk hka (by omega) (by rw[hz2];omega) hf λ s' c J'=>h s' _ c J' (Dz hi hp (by rw[hz2];exact hs))
theorem Il{f:Value}{kz:List Int}{vs:List Value}(J:oy X pins σ R [(a,seqObj "list" #[] e1),(kS,seqObj "list" #[] 0)] s)(ha:Own X pins a)(hk:Own X pins kS)(hka:kS≠a)(hl:kz.length=vs.length)(h64:vs.length<64)
 (turn:∀(i:Nat) (v:Value) (k:Int),vs[i]?=some v->kz[i]?=some k->∀(own:List (Addr×Obj)) (s:Shared),oy X pins σ R own s->wpAny (model X.prog X.w) A (call f [v]) (λ u s'=>(∃t,u= .int k t)/\oy X pins σ R own s') (λ _ _=>False) s)
 (h:∀s' out c,oy X pins σ R [(a,seqObj "list" out c)] s'->Fb kz vs out.toList->P (.done (.ret .none)) s'):
 wpAny (model X.prog X.w) A (ksk_rest a f false vs.toArray e1 (.ref kS)) P E s:=by
 have hbig:vs.length<=sizeLine:=Uj (VM h64) (by decide);unfold ksk_rest;refine T_ (WQ ?_)
 first
  |rw[List.forIn_toArray]
  |(rw[<-Array.forIn_toList];simp only[List.toList_toArray])
  |rw[<-Array.forIn_toList]
 refine T_ (ksk_fold (λ i s'=>∃kA e,oy X pins σ R [(a,seqObj "list" #[] e1),(kS,seqObj "list" kA e)] s'/\IntsAre kA.toList (kz.take i)) vs 0 s ⟨#[],0,J,by simpa using IntsAre.nil⟩ ?st ?en)
 case st=>
  rintro j x s' hx ⟨kA,e,J',hk'⟩;simp only[WM]at hk'⊢;have hj:j<vs.length:=(Ua.mp hx).1;have hkj:kz[j]?=some (kz[j]'(by omega)):=Uq _
  have hz:kA.size<=vs.length:=by
   have:=hk'.length;rw[Wy,Vn]at this;omega
  refine T_ (WV (V1 (turn j x _ hx hkj _ s' J') (λ v s2 he=>?_) λ _ _ z=>z.elim));obtain⟨⟨t,rfl⟩,J2⟩:=he;obtain⟨H,I,r⟩:=AJ J2;have k1:=(gJ I).1;have s1:=VJ s2.heap kS (Obj.mapSeq (·.push (.int (kz[j]'(by omega)) t)));have I1:=pJ (t':=s2.toks) I s1 (W2 k1 (·.push (.int (kz[j]'(by omega)) t))) (λ v z=>by cases z) hk.ge (BJ hk hka.symm).ne;refine T_ (XZ k1 rfl ?_ (by omega) (Uj (Yo (Array.size_push ..)) (by omega)));refine Ul ⟨rfl,_,_,GW I1 r,?_⟩;have ek:kz.take (j+1)=kz.take j++[kz[j]'(by omega)]:=by rw[List.take_add_one,hkj];simp
  rw[ek,Array.toList_push];exact ksk_snoc hk'
 case en=>
  rintro s' ⟨kA,e,J',hk'⟩;rw[show kz.take (0+vs.length)=kz from Xj (by omega)]at hk';obtain⟨H,I,r⟩:=AJ J';refine T_ (listItems_at (gJ I).1 rfl ?_);exact M4 J' ha hk hka hk' hl h64 h
theorem Fu{f:Addr}{l:Addr}{kz:List Int}{vs:List Value}{H:Hp}{Q:Value->Shared->Prop}(I:Inv X pins σ H s)(r:R H)(hli:s.heap.IsList l vs.toArray)(hl:kz.length=vs.length)(h64:vs.length<64)
 (turn:∀(i:Nat) (v:Value) (k:Int),vs[i]?=some v->kz[i]?=some k->∀(own:List (Addr×Obj)) (s:Shared),oy X pins σ R own s->wpAny (model X.prog X.w) A.in1.in1 (call (.ref f) [v]) (λ u s'=>(∃t,u= .int k t)/\oy X pins σ R own s') (λ _ _=>False) s)
 (h:∀D s' out c,Own X pins D->oy X pins σ R [(D,seqObj "list" out c)] s'->Fb kz vs out.toList->Q (.ref D) s'):
 wpAny (model X.prog X.w) A (call (.builtin "sorted") [.ref l] [(Str.ofString "key",.ref f)]) Q E s:=by
 have hbig:vs.length<=sizeLine:=Uj (VM h64) (by decide);refine call_function_entry_kw kind_sorted plain_sorted entry_sorted (ksk_s1 _ _) ?_;unfold Builtin.«sorted»;refine T_ (m:=checkCount "sorted" 1 1 _) (Ul ?_);refine T_ (collect_list hli ?_ hbig);have I1:=mM (o:=seqObj "list" #[] 0) (t':=s.toks) I (λ v z=>by cases z);have s1:=VJ (s.heap.push (seqObj "list" #[] 0)) s.heap.objs.size (Obj.mapSeq (· ++vs.toArray));have I2:=pJ (t':=s.toks) I1 s1 (W2 (gJ I1).1 (· ++vs.toArray)) (λ v z=>by cases z) (u0 I).ge (u0 I).ne;have I3:Inv X pins σ H {s with heap:=(s.heap.push (seqObj "list" #[] 0)).update s.heap.objs.size (Obj.mapSeq (· ++vs.toArray)),toks:=s.toks}:=I2.iQ;refine T_ (YY ?_ hbig);generalize hs3:({s with heap:=(s.heap.push (seqObj "list" #[] 0)).update s.heap.objs.size (Obj.mapSeq (· ++vs.toArray))}:Shared)=s3;have I3':Inv X pins σ H s3:=by rw[<-hs3];exact I3
 have oD:=u0 I3';have I4:=mM (o:=seqObj "list" vs.toArray 0) (t':=s3.toks) I3' (λ v z=>by cases z);have hD:=(gJ I4).1;refine T_ (WA (wpAny_call_entry_kw slot_list_sort ⟨_,hD,rfl⟩ entry_list_sort ?body (ksk_l1 _ _)))
 case body=>
  show wpAny (model X.prog X.w) A.in1.in1 (Builtin.«list.sort» ⟨[.ref s3.heap.objs.size],[(Str.ofString "key",.ref f)]⟩) _ _ _;rw[ksk_t1];unfold ksk_tree;refine T_ (listItems_at hD rfl ?_);have s5:=VJ (s3.heap.push (seqObj "list" vs.toArray 0)) s3.heap.objs.size (Obj.mapSeq λ _=>(#[]:Array Value));have I5:=pJ (t':=s3.toks) I4 s5 (W2 hD λ _=> #[]) (λ v z=>by cases z) oD.ge oD.ne;have hD5:=(gJ I5).1;refine T_ (XZ hD rfl ?_ (by rw[Um];exact hbig) (UK _));refine T_ (seqEpoch_at hD5 rfl ?_);refine T_ (YO ?_ (by show vs.length<=_;exact hbig));have I6:=(mM (o:=seqObj "tuple" vs.toArray 0) (t':=s3.toks) I5 (λ v z=>by cases z)).iQ;refine T_ (YY ?_ (UK _));have ok:=u0 I6;have I7:=mM (o:=seqObj "list" #[] 0) (t':=s3.toks) I6 (λ v z=>by cases z);refine WA ?_
  have okp:Own X pins _:=⟨ok.ge,λ q hq=>ok.ne q (by
   rcases UM.mp hq with z|z
   . exact VG _ z
   . exact Uy _ (VG _ z))⟩
  refine Il (GW I7 r) oD okp (λ z=>ok.ne (s3.heap.objs.size,_) (Uy _ (Uy _ (VP.mpr rfl))) z.symm) hl h64 turn λ s' out c J' so=>⟨_,rfl,?_⟩
  exact Ul ⟨_,rfl,h _ s' out c oD J' so⟩
end
structure oJ(X:Cx)(scope:Scope)(Nc:List Str)(fr:List (Option Nat))(p:Str):Prop where
 sc:cz X scope Nc fr
 Hq:∀x∈scope.names,x.2≠ .cell
 co:scope.isCoroutine=false
 gen:scope.isGenerator=false
 p0:Nc[0]?=some p
 f0:fr[0]?=some none
 loc:scope.names.lookup p=some .local
abbrev En(X:Cx)(scope:Scope)(qual:Str)(f c:Addr)(s:Shared):Env:=PySem.W.envX qual scope s.heap.objs.size f (.ref c) (dw X.env.cells scope.names [])
def GA(X:Cx)(scope:Scope)(Nc:List Str)(qual:Str)(f c:Addr)(s:Shared)(H:Hp):Cx:=
 {X with A:=X.A.in1.in1.deeper (En X scope qual f c s),N:=Nc,s₀:=s,H₀:=H,env:=En X scope qual f c s,outer:=X.stack,stack:=En X scope qual f c s::X.stack,ex:=[],fn:=λ _=>false,calm:=true,pn:=[],xe:=λ _ _=>False}
section
variable {X:Cx}{scope:Scope}{Nc:List Str}{fr:List (Option Nat)}{p qual:Str}{f c:Addr}{pins:List (Addr×Obj)}{σ:L2.St}{H:Hp}{s:Shared}
theorem Of(S:oJ X scope Nc fr p)(I:Inv X pins σ H s)(hc:X.calm=true):(GA X scope Nc qual f c s H).Ok where
 mod:=I.ok.mod
 kind:=S.sc.kind
 glob:=rfl
 blt:=rfl
 above:=Ue _
 inj:=λ x y a h1 h2=>I.ok.inj x y a (cX _ [] (λ _ _ e=>by cases e) x a h1) (cX _ [] (λ _ _ e=>by cases e) y a h2)
 has:=λ x hx=>by
  have hx':scope.names.lookup x=some .cell\/scope.names.lookup x=some .free:=hx;rcases hx' with hx|hx
  . exact absurd rfl (S.Hq _ (UW hx))
  . exact jQ scope.names [] (I.ok.has x (S.sc.free _ (UW hx) rfl)) (.inl (UW hx))
 BG:=λ x a hf _=>by cases hf
 hd:=λ _=>I.ok.hd hc
 frames:=Around.frames_deeper (by show X.A.frames=_;exact I.ok.frames)
 Dn:= .inr ⟨rfl,rfl⟩
 Hy:=λ b hb=>by cases hb
 bs:=I.bs
 uJ:=Uj I.ok.uJ I.sz
 wA:=λ b o e hb=>by cases hb
 wu:=λ b hb=>by cases hb
 ma:=I.stack
 yh:=I.yx
 gt:=I.ok.gt
theorem Lr{h':Heap}{t':Nat}{v:V}{u:Value}(S:oJ X scope Nc fr p)(I:Inv X pins σ H s)(hc:X.calm=true)(r:RelV v u)(hn:h'.Ns s.heap.objs.size (λ x=>[(p,u)].reverse.lookup x))
 (k:∀b o,s.heap.get? b=some o->h'.get? b=some o):Inv (GA X scope Nc qual f c s H) [] ((σC fr σ).set 0 (some v)) H {s with heap:=h',toks:=t'} where
 ok:=Of S I hc
 os:=rfl
 bare:=I.bare
 base:=Un.kept k
 loc:=⟨_,hn,λ i x w h1 h2 h3=>by
  by_cases hi:i=0
  . subst hi;have hp:=S.p0;have e:p=x:=U6 (hp.symm.trans h1);subst e
    have hl:0<(σC fr σ).length:=by
     have:=(Ua.mp h2).1;rw[Us]at this;exact this
    rw[Uo hl]at h2;cases h2;exact⟨u,r,.inl ⟨S.loc,by simp⟩⟩
  . rw[Ug (Ui hi)]at h2;obtain⟨j,q1,q2⟩:=Dt h2;obtain⟨n1,n2,n3⟩:=S.sc.map i j x h1 q1;obtain⟨m,hm,hl⟩:=I.loc;obtain⟨u',r',lk⟩:=hl j x w n1 q2 (n3.elim (λ z=> .inr (.inl z)) λ z=> .inr (.inr z));refine⟨u',r',?_⟩;rcases lk with⟨z,_⟩|⟨_,a,e,ic⟩
    . rcases n3 with y|y<;>(rw[y]at z;cases z)
    . obtain⟨a',e'⟩:=jQ scope.names [] ⟨a,e⟩ (.inl (UW n2));have e2:=cX _ [] (λ _ _ e=>by cases e) x a' e';rw[e]at e2;cases e2;exact .inr ⟨.inr n2,a,e',ic.keeps k⟩⟩
 cell:=λ x a h=>by
  obtain⟨v,q⟩:=I.cell x a (cX _ [] (λ _ _ e=>by cases e) x a h);exact⟨v,q.keeps k⟩
 free:=I.aO.fresh (Ue _)
 ju:=λ x a h=>I.ju x a (cX _ [] (λ _ _ e=>by cases e) x a h)
 pin:=λ q hq=>by cases hq
 aO:=I.aO.kept k
 len:=by rw[Us];unfold σC;rw[Uk];exact S.sc.len
theorem Iy{R:Hp->Prop}{params:Arguments}{body:Expr}{tb:TE}{own:List (Addr×Obj)}{k:Int}{v:V}{u pm ctv:Value}(S:oJ X scope Nc fr p)(hc:X.calm=true)(hr:X.A.depth<recursionLimit)
 (hb:∀(s:Shared) (H:Hp),PE (GA X scope Nc qual f c s H) body tb)
 (hbind:∀(cl:List (Str×Addr)) (pm cd ct v:Value),bindArgs (PySem.W.kla_fn "<lambda>" qual params body scope cl pm cd ct) ⟨[v],[]⟩=pure [(p,v)])
 (r:RelV v u) (hf:(f,PySem.W.kla_obj "<lambda>" qual params body scope (dw X.env.cells scope.names []) pm c ctv)∈pins)
 (hcr:∀(H:Hp) (s:Shared),Inv X (pins++own) σ H s->R H->s.heap.CodeRec (.ref c) qual)
 (hq:∀H,R H->tb ((σC fr σ).set 0 (some v)) H λ x H'=>x= .int k/\R H') (J:oy X pins σ R own s):
 wpAny (model X.prog X.w) X.A.in1.in1 (call (.ref f) [u]) (λ u' s'=>(∃t,u'= .int k t)/\oy X pins σ R own s') (λ _ _=>False) s:=by
 obtain⟨H,I,rH⟩:=J;have ho:=(I.pin _ (Uy _ (VG _ hf))).1;refine wpAny_call (PySem.W.kla_callFunE (fd:=PySem.W.kla_fn "<lambda>" qual params body scope (dw X.env.cells scope.names []) pm (.ref c) ctv) (by show X.A.depth<_;exact hr) ho rfl S.co S.gen rfl (hcr H s I rH) ?_);rw[hbind]
 refine Ul (wpAny_newFunctionEnv S.Hq (λ y hy=>by
  have e:y=(p,u):=by simpa using hy
  rw[e];exact S.loc) (λ h₁ hns hsb=>?_) S.sc.kind)
 have hk:∀b o,s.heap.get? b=some o->h₁.get? b=some o:=λ b o e=>hsb.extBut b o (UG (Up e)) (Uc _ e);refine⟨I.nolimit.keeps hk,?_⟩;show codeAny _ X.A.in1.in1 (.expr body (En X scope qual f c s)) _ _;refine PySem.W.kla_codeExpr (V1 (hb s H [] _ _ H _ (Lr S I hc r hns hk) (hq H rH)) (λ w s' he=>?_) λ e s' z=>False.elim z);obtain⟨x,H',I',rx,rfl,rH'⟩:=he;exact⟨rx,H',I.EM (s':=s') (ch:=[]) I'.os I'.base I'.aO I'.bare (λ b z=>absurd z (by simp)),rH'⟩
theorem set_same{α:Type}:∀ {l:List α} {n:Nat} {x:α},l[n]?=some x->l.set n x=l
 | [],n,x,h=>by simp at h
 |a::l,0,x,h=>by simp at h;subst h;rfl
 |a::l,n+1,x,h=>by
  rw[List.set_cons_succ,set_same (n:=n) (by simpa using h)]
theorem IK{params:Arguments}{body:Expr}{lpos:Pos}{c0 T:Addr}{α:List (Option Addr)}{G F:Hp}{st:ag}{n0:Nat}{b:Bool}{E:Value->Shared->Prop}{Q:Value->Shared->Prop}(S:oJ X scope Nc fr p)(hcode:X.env.code= .ref c0)(hC:PySem.W.codeHdIn X.K c0 T=true)
 (hdef:defaultsOf params X.env=([],[])) (hql:X.env.qual++"<lambda>"=qual) (I:Inv X pins σ H s) (Sp:cC G F H) (SR:a7 α st G) (hn0:st[n0]?=some (.tab T lpos qual b))
 (h:∀(f c:Addr) (ctv pm:Value) (G2 H2:Hp) (s2:Shared),Inv X (pins++[(f,PySem.W.kla_obj "<lambda>" qual params body scope (dw X.env.cells scope.names []) pm c ctv)]) σ H2 s2->Step α G α G2->cC G2 F H2->a7 α (st.set n0 (.tab T lpos qual true)) G2->
   (some c∉α/\∃o vs t,G2 c=some (.ia o (.own c))/\o.data= .fields vs/\vs[1]?=some (.str qual t))->Q (.ref f) s2):
 wpAny (model X.prog X.w) X.A (eval (.Lambda params body scope lpos) X.env) Q E s:=by
 refine PySem.W.kla_eval hdef ?_;rw[hql];rcases SR.at' n0 _ hn0 with⟨z,_⟩|⟨a,ha,rfl,ps,gP,tr,cs⟩
 . cases z
 have hP:=I.aO a _ (Sp.get gP);have hP:s.heap.get? a=some (PySem.W.tabObj ps):=hP;have hg:s.heap.Ns mainGlobals X.mg:=I.mod.glob.keeps I.bk;obtain⟨bm,ob,b1,b2,b3,b4,b5,b6⟩:=I.mod.bmain;have b3':=I.bk _ _ b3
 have hgP:mainGlobals≠a:=λ q=>by
  obtain⟨o,es,ep,e,hd,_⟩:=hg;rw[q,hP]at e;cases e;cases hd
 have n1:bm≠mainGlobals:=λ q=>by
  obtain⟨o,es,ep,e,hd,_⟩:=hg;rw[q,e]at b3';cases b3';rw[hd]at b6;cases b6
 have n2:bm≠a:=λ q=>by rw[q,hP]at b3';cases b3';cases b4
 have hB:s.heap.BuiltinsAt X.mg a:=⟨bm,ob,b1,b2,n1,n2,b3',b4,b5,b6⟩
 have hcl:closureFor scope X.env=pure (dw X.env.cells scope.names []):=oi λ x hx hk=>I.ok.has x.1 (S.sc.free x hx hk);have C:PySem.W.CodeHd s.heap c0 a:=PySem.W.codeHd_of_K I.iG hC;rcases cs with⟨rfl,hnf⟩|⟨rfl,c,o,vs,t,q1,q2,q3,q4,q5⟩
 . refine PySem.W.kla_makeFunction hcl I.ok.glob hg hcode C hP tr hnf hgP hB λ c' ctv h' tk hx hge hlt hrec htb=>?_;obtain⟨c2,oc,vs,t,e2,hoc,hd,hv⟩:=hrec;cases e2;have hHc:H c'=none:=I.aO.fresh hge;have hGc:G c'=none:=(Sp.none hHc).1;have hHa:H a=some (.lG ps):=Sp.get gP;have hac:a≠c':=dJ hHa hHc
   let ps':=ps++ #[rawInt lpos.line,rawInt lpos.col,.ref c']
   have nb:∀ {b:Addr},H b=none->b≠a:=λ e z=>by rw[z,hHa]at e;cases e
   have I1:Inv X pins σ (upd (upd H c' (.ia oc (.own c'))) a (.lG ps')) {s with heap:=h',gens:=s.gens,drawn:=s.drawn,toks:=tk}:=by
    have old:∀ {b:Addr} {u:HO},H b=some u->b≠a->upd (upd H c' (.ia oc (.own c'))) a (.lG ps') b=some u:=λ e n=>by rw[aB n,aB (dJ e hHc)];exact e
    refine I.step (ch:=[]) (λ _ z=>nomatch z) (λ b o _ _ _ e n=>hx b o (nb n) e) (λ b o _ _ _ e n=>⟨o.slots,hx b o (nb n) e⟩) (λ b o _ e n=>?_) (λ b o _ e=>?_) (λ b xs e=>?_) (λ b o u e=>?_) (λ b qs e=>?_) (λ m hm=>?_) (λ b u e=>?_) I.bare
    . rw[aB (nb n),aB (UG (UE (Up e) hge))];exact n
    . by_cases hb:b=a
      . exact⟨_,by rw[hb];exact htb⟩
      . exact⟨o,hx b o hb e⟩
    . exact old e λ z=>by rw[z,hHa]at e;cases e
    . exact old e λ z=>by rw[z,hHa]at e;cases e
    . by_cases hb:b=a
      . subst hb;rw[hHa]at e;cases e;exact⟨_,bc⟩
      . exact⟨#[],by rw[old e hb];simp⟩
    . obtain⟨o,es,ep,ho,r⟩:=hm;exact⟨o,es,ep,hx _ o (nb I.free) ho,r⟩
    . by_cases hb:b=a
      . subst hb;rw[bc]at e;cases e;exact htb
      . rw[aB hb]at e;by_cases hbc:b=c'
        . subst hbc;rw[bc]at e;cases e;exact⟨hoc,_,hoc⟩
        . rw[aB hbc]at e;refine(I.aO b u e).qQ (λ d w hd q=>hx d w ?_ q) (λ d q=>old q λ z=>by rw[z,hHa]at q;cases q) λ d xs q=>old q λ z=>by rw[z,hHa]at q;cases q
          rcases hd with rfl|hd
          . exact hb
          . intro z;rw[z,hHa]at hd;cases hd
   have I2:=mM (o:=PySem.W.kla_obj "<lambda>" qual params body scope (dw X.env.cells scope.names []) ((X.mg "__name__").getD .none) c' ctv) (t':=tk) I1 (λ v z=>by cases z);have gP':upd G c' (.ia oc (.own c')) a=some (.lG ps):=by rw[aB hac];exact gP
   refine h _ c' ctv _ (upd (upd G c' (.ia oc (.own c'))) a (.lG ps')) _ _ I2 ((Step.laid hGc).trans (Step.write (UJ ha))) ((Sp.laid hHc).write gP') ((SR.laid hGc).write ha ⟨rfl,ps',bc,?_,.inr ⟨rfl,c',oc,vs,t,?_,SR.kF hGc,?_,hd,hv⟩⟩) ⟨SR.kF hGc,oc,vs,t,?_,hd,hv⟩
   . show TriplesOk (ps++ #[rawInt lpos.line,rawInt lpos.col,.ref c']).toList;rw[Array.toList_append];exact TriplesOk_snoc _ _ _ _ tr
   . show codeAmong lpos (ps++ #[rawInt lpos.line,rawInt lpos.col,.ref c']).toList=_;rw[Array.toList_append];exact codeAmong_snoc _ tr hnf
   . rw[aB hac.symm,bc]
   . rw[aB hac.symm,bc]
 . refine PySem.W.kla_makeFunctionHit hcl I.ok.glob hg hcode C hP tr q1 hB λ ctv h' tk hk hsz=>?_;have I1:=I.kept (t':=tk) hk;have I2:=mM (o:=PySem.W.kla_obj "<lambda>" qual params body scope (dw X.env.cells scope.names []) ((X.mg "__name__").getD .none) c ctv) (t':=tk) I1 (λ v z=>by cases z);refine h _ c ctv _ G H _ I2 Step.refl Sp (by rw[set_same hn0];exact SR) ⟨q2,o,vs,t,q3,q4,q5⟩
end
def slt(p q:Int×Int):Prop:=p.1<=q.1
def Ba(n0:Nat)(T:Addr)(lpos:Pos)(qual:Str)(fr:List (Option Nat))(tb te:DE):DE:=λ σ st K=>te σ st λ d st1=>∃(ns ks:List Int) (b:Bool),d= .lst (ns.map .int)/\ns.length<64/\ns.Pairwise (· < ·)/\ks.length=ns.length/\
 st1[n0]?=some (.tab T lpos qual b)/\(∀(i:Nat) (n k:Int),ns[i]?=some n->ks[i]?=some k->tb ((iy fr σ).set 0 (some (.int n))) (st1.set n0 (.tab T lpos qual true)) λ v st2=>v= .int k/\st2=st1.set n0 (.tab T lpos qual true))/\
 ∀os:List (Int×Int),os.Perm (ks.zip ns)->os.Pairwise slt->K (.lst (os.map λ p=> .int p.2)) (st1.set n0 (.tab T lpos qual true))
theorem A4{α:List (Option Addr)}{H:Hp}:∀ {ns:List Int} {vs:List V},aI α H (ns.map D.int) vs->vs=ns.map V.int
 | [],vs,h=>by unfold aI at h;exact h
 |n::ns,vs,h=>by
  unfold aI at h;obtain⟨v,r,rfl,h1,h2⟩:=h;unfold Rep at h1;rw[h1,A4 h2];rfl
theorem AU{α:List (Option Addr)}{H:Hp}:∀(ns:List Int),aI α H (ns.map D.int) (ns.map V.int)
 | []=>by unfold aI;rfl
 |n::ns=>by unfold aI;exact⟨_,_,rfl,by unfold Rep;rfl,AU ns⟩
theorem Ck:∀ {ns:List Int} {us:List Value},Vals (ns.map V.int) us->IntsAre us ns
 | [],_,.nil=> .nil
 |n::ns,_,.cons ⟨t,rfl⟩ h=> .cons n t (Ck h)
section
variable {X:Cx}{scope:Scope}{Nc:List Str}{fr:List (Option Nat)}{p x qual:Str}{params:Arguments}{e body:Expr}{te tb:DE}{lpos kpos pos ppos:Pos}{c0 T:Addr}{n0:Nat}
theorem Mq(S:oJ X scope Nc fr p)(hc:X.calm=true)(hr:cT 2 X.A)(hcode:X.env.code= .ref c0)(hC:PySem.W.codeHdIn X.K c0 T=true)(hdef:defaultsOf params X.env=([],[]))(hql:X.env.qual++"<lambda>"=qual)
 (hbind:∀(cl:List (Str×Addr)) (pm cd ct v:Value),bindArgs (PySem.W.kla_fn "<lambda>" qual params body scope cl pm cd ct) ⟨[v],[]⟩=pure [(p,v)])
 (hb:∀(f c:Addr) (s:Shared) (H:Hp),PE (GA X scope Nc qual f c s H) body (LE tb)) (ha:PA X [e] (LA (ae te aq)))
 (hg:Gl X "sorted") (hm:X.mg "sorted"=none) (hv:bootBuiltins "sorted"=some (.builtin "sorted"))
 (he:backTo pos (starEach [e] X.env)=(false,eval e X.env)::backTo pos (starEach [] X.env):=by rfl) (hpl:(backTo pos (starEach [e] X.env)).any (·.1)=false:=by rfl):
 PE X (.Call (.Name "sorted" ppos) [e] [⟨some "key",.Lambda params body scope lpos,kpos⟩] pos) (LE (Ba n0 T lpos qual fr tb te)):=by
 intro pins s σ H Q I h;obtain⟨α,σd,st,K,G,F,Sp,RS,SR,t,k⟩:=h;refine WC (kB I hg hm hv ?_);refine callWith_kw ?_ he hpl
 let K1:DK:=λ d st1=>∃(ns ks:List Int) (b:Bool),d= .lst (ns.map .int)/\ns.length<64/\ns.Pairwise (· < ·)/\ks.length=ns.length/\
  st1[n0]?=some (.tab T lpos qual b)/\(∀(i:Nat) (n k:Int),ns[i]?=some n->ks[i]?=some k->tb ((iy fr σd).set 0 (some (.int n))) (st1.set n0 (.tab T lpos qual true)) λ v st2=>v= .int k/\st2=st1.set n0 (.tab T lpos qual true))/\
  ∀os:List (Int×Int),os.Perm (ks.zip ns)->os.Pairwise slt->K (.lst (os.map λ p=> .int p.2)) (st1.set n0 (.tab T lpos qual true))
 refine b_ (ha pos pins s σ H (λ vs H1=>∃d v st1 α1 G1,vs=[v]/\K1 d st1/\Step α G α1 G1/\cC G1 F H1/\a7 α1 st1 G1/\Rep α1 G1 d v) I
  ⟨α,σd,st,λ ds st1=>match ds with| [d]=>K1 d st1|_=>False,G,F,Sp,RS,SR,t,λ ds st1 q α1 G1 H1 vs s1 P1 S1 r1=>?_⟩) λ us s1 ⟨vs,H1,I1,rv,d,v,st1,α1,G1,hvs,kd,s1',P1,S1,r1⟩=>?_
 . match ds,q,r1 with
   | [d],q,r1=>
     unfold aI at r1;obtain⟨v,r,rfl,h1,h2⟩:=r1;unfold aI at h2;subst h2;exact⟨d,v,st1,α1,G1,rfl,q,s1,P1,S1,h1⟩
 subst hvs;obtain⟨ns,ks,b,rfl,h64,hup,hlen,hn0,hkey,hK⟩:=kd;show wpAny _ _ (evalAll ((do let v <-eval (.Lambda params body scope lpos) X.env;standAt pos;pure v)::[])) _ _ s1;refine wpAny_evalAll_cons (T_ (IK S hcode hC hdef hql I1 P1 S1 hn0 λ f c ctv pm G2 H2 s2 I2 st2 P2 S2 ⟨hc1,o,vs,tq,hc2,hc3,hc4⟩=>T_ (Xo (Ul (wpAny_evalAll_nil ?_)))));have r2:=r1.step st2;unfold Rep at r2;obtain⟨l,xs,rfl,hl1,hl2,hl3⟩:=r2;have exs:=A4 hl3;subst exs;cases rv with
 |cons ru rn=>
  cases rn;cases ru
  have hrd:Rd H2 l (.lst (ns.map V.int)):=by
   rcases hl2 with z|⟨w,z⟩
   . exact .inl (P2.get z)
   . exact .inr ⟨w,P2.get z⟩
  obtain⟨_,its,nn,vv,hobj⟩:=hrd.ok I2.aO;have hints:=Ck vv;have hlen2:=hints.length;have key:∀(H':Hp),(∃α' G',Step α1 G2 α' G'/\cC G' F H'/\a7 α' (st1.set n0 (.tab T lpos qual true)) G')->H' c=some (.ia o (.own c)):=λ H' ⟨α',G',q1,q2,q3⟩=>q2.get (q1.ext c _ hc1 hc2);show wpAny _ _ (call (.builtin "sorted") [.ref l] [(Str.ofString "key",.ref f)]) _ _ _
  refine Fu (X:=X) (pins:=pins++[(f,PySem.W.kla_obj "<lambda>" qual params body scope (dw X.env.cells scope.names []) pm c ctv)]) (R:=λ H'=>∃α' G',Step α1 G2 α' G'/\cC G' F H'/\a7 α' (st1.set n0 (.tab T lpos qual true)) G') (kz:=ks) (vs:=its)
   I2 ⟨α1,G2,Step.refl,P2,S2⟩ ⟨_,hobj,rfl,nn,rfl⟩ (by omega) (by omega) (λ i u kk hu hk own s' J=>?_) λ D s' out cc oD J so=>?_
  . have hi:i<ns.length:=by
     have:=(Ua.mp hu).1;omega
    obtain⟨tt,ht⟩:=hints.get i ns[i] (Uq hi);have ht:some u=some (Value.int ns[i] tt):=by rw[<-hu];exact ht
    cases ht;refine Iy (v:= .int ns[i]) (u:= .int ns[i] tt) S hc (by have:=hr.dp;omega) (hb f c) hbind ⟨tt,rfl⟩ (Uy _ (VP.mpr rfl)) (λ H' s'' J' r'=>?_) (λ H' r'=>?_) J
    . have q:=J'.aO c _ (key H' r');exact⟨c,o,vs,tq,rfl,q.1,hc3,hc4⟩
    . obtain⟨α',G',q1,q2,q3⟩:=r';refine⟨α',(iy fr σd).set 0 (some (.int ns[i])),_,_,G',F,q2,?_,q3,hkey i ns[i] kk (Uq hi) hk,λ d' st' hd α'' G'' H'' v' s'' P'' S'' r''=>?_⟩
      . exact((RS.step ((s1'.trans st2).trans q1)).comp).set 0 (by unfold Rep;rfl)
      . obtain⟨rfl,rfl⟩:=hd;unfold Rep at r'';exact⟨r'',α'',G'',q1.trans s'',P'',S''⟩
  . obtain⟨H',I',α',G',q1,q2,q3⟩:=J;obtain⟨ps,hp,ho,hs⟩:=so
    have hps:∀q∈ps,∃t,q.2= .int (numOf q.2) t:=λ q hq=>by
     have h1:=hp.mem_iff.mp hq;have h2:q.2∈its:=(XB (show(q.1,q.2)∈ks.zip its from h1)).2;obtain⟨n,t,e⟩:=hints.all _ h2;exact⟨t,by rw[e];rfl⟩
    have hos:(ps.map λ q=>(q.1,numOf q.2)).Perm (ks.zip ns):=by
     have h1:=hp.map λ q:Int×Value=>(q.1,numOf q.2)
     have e:(ks.zip its).map (λ q:Int×Value=>(q.1,numOf q.2))=ks.zip ns:=by
      rw[<-hints.nums,List.zip_map_right];exact UX λ⟨a,b⟩ _=>rfl
     rw[e]at h1;exact h1
    have hpw:(ps.map λ q=>(q.1,numOf q.2)).Pairwise slt:=by rw[Yb];exact hs
    have kk:=hK _ hos hpw;rw[Vo]at kk;have hD0:=gJ I'
    have vout:Vals ((ps.map λ q=>numOf q.2).map V.int) out.toList:=by
     rw[ho];clear hos hpw kk hs hp ho;induction ps with
     |nil=>exact .nil
     |cons q r ih=>
      obtain⟨t,e⟩:=hps q (UB ..);exact .cons ⟨t,e⟩ (ih λ z hz=>hps z (Uu _ hz))
    have hlo:(ps.map λ q=>numOf q.2).length<=sizeLine:=by
     rw[Uk,hp.length_eq,List.length_zip];exact Uj (Nat.min_le_left _ _) (Uj (show ks.length<=64 by omega) (by decide))
    have I3:=Gr (u:= .lst ((ps.map λ q=>numOf q.2).map V.int)) I' oD.ge oD.ne ⟨by rw[Uk];exact hlo,out.toList,cc,vout,hD0.1⟩;have hG:=(q2.none hD0.2.1).1;refine⟨.ref D,_,I3.iQ,rfl,k _ _ kk α' _ _ _ ((s1'.trans st2).trans (q1.trans (Step.laid hG))) (q2.laid hD0.2.1) (q3.laid hG) ?_⟩;unfold Rep;refine⟨D,_,rfl,q3.kF hG,.inl bc,?_⟩;have e:List.map ((λ p:Int×Int=>L3.D.int p.snd)∘λ q:Int×Value=>(q.fst,numOf q.snd)) ps=(ps.map λ q=>numOf q.2).map L3.D.int:=by rw[Vo];rfl
    rw[e];exact AU _
end
end L3
namespace L3
open PySem L2
open PySem.Spec hiding items?
open PyProof.Rows hiding St
def JV(sc:Scope)(N gl:List Str):Bool:=
 N.all (λ x=>(sc.names.lookup x==some .local||sc.names.lookup x==some .cell)&&x != "__debug__"&&x != "__classdict__")&&gl.all (λ x=>sc.names.lookup x==some .globalImplicit&&x != "__debug__")
structure VS(sc:Scope)(N gl:List Str):Prop where
 ok:JV sc N gl=true
theorem VS.at_{sc:Scope}{N gl:List Str}(V:VS sc N gl){i:Nat}{x:Str}(h:N[i]?=some x):Loc sc x/\(x==("__debug__":Str))=false/\(x==("__classdict__":Str))=false:=by
 have o:=V.ok;unfold JV at o;have:=U_.mp (Bool.and_eq_true_iff.mp o).1 x (UJ h);simp only[Vb,XE,Wg,Yj,ne_eq]at this;exact⟨this.1.1,YB this.1.2,YB this.2⟩
theorem VS.RY{sc:Scope}{N gl:List Str}(V:VS sc N gl){i:Nat}{x:Str}(h:gl[i]?=some x):sc.names.lookup x=some .globalImplicit/\(x==("__debug__":Str))=false:=by
 have o:=V.ok;unfold JV at o;have:=U_.mp (Bool.and_eq_true_iff.mp o).2 x (UJ h);simp only[Vb,Wg,Yj,ne_eq]at this;exact⟨this.1,YB this.2⟩
section
variable {X:Cx}{sc:Scope}{N gl:List Str}{x:Str}{pos:Pos}
theorem VS.nm(V:VS X.env.scope X.N gl)(i:Nat)(h:X.N[i]?=some x:=by rfl):JE X (.Name x pos) (aa i):=
 let q:=V.at_ h
 GS q.2.1 q.2.2 (q.1.elim .inl λ z=> .inr (.inl z)) h
theorem VS.l(V:VS sc N gl)(i:Nat)(h:N[i]?=some x:=by rfl):Loc sc x:=(V.at_ h).1
theorem VS.g(V:VS sc N gl)(i:Nat)(h:gl[i]?=some x:=by rfl):sc.names.lookup x=some .globalImplicit:=(V.RY h).1
theorem VS.d(V:VS sc N gl)(i:Nat)(h:gl[i]?=some x:=by rfl):(x==("__debug__":Str))=false:=(V.RY h).2
theorem fv{n:Nat}(hN:X.N[n]?=some x:=by rfl)(hd:((x==("__debug__":Str))||(x==("__classdict__":Str)))=false:=by decide+kernel)
 (hv:AZ X.env.scope x:=by first|exact Or.inl rfl|exact Or.inr (Or.inl rfl)|exact Or.inr (Or.inr rfl)):JE X (.Name x pos) (aa n):=
 GS (Bool.or_eq_false_iff.mp hd).1 (Bool.or_eq_false_iff.mp hd).2 hv hN
@[irreducible] def nW:cZ:=xa (λ _ j=>j≠0) λ i j=> .int (i.fdiv j)
theorem u9{k:Nat}(hr:cT k X.A)(hs:X.stack=X.env::X.outer)(hgen:X.env.scope.isGenerator=false)(hco:X.env.scope.isCoroutine=false):cp X (binaryOp .FloorDiv) (LR nW):=by
 unfold nW;refine nV (g':=λ i j=> .int (i.fdiv j)) (λ _ _ _ _=>by unfold Rep;rfl) ?_;intro pins s σ H x y v u Q I rx ry h;obtain⟨i,j,rfl,rfl,hc,q⟩:=h;obtain⟨t,rfl⟩:=rx;obtain⟨t',rfl⟩:=ry;refine floordiv_int hc ⟨.int (i.fdiv j),H,I.tok _,⟨_,rfl⟩,q⟩ (.inr (PySem.PylongRoom.of I.nolimit ?_ ?_))
 . have:=hr.dp;show X.A.depth+100<_;omega
 . exact PySem.SeerAt.of (env:=X.env) (l:=X.outer) (I.mod.seer.keeps I.bk) I.ok.gt (by rw[I.ok.frames,hs]) hgen hco I.ok.blt I.ok.glob
theorem Bb{st:ag}{K:DK}{i j:Int}(h0:j≠0)(k:K (.int (i.fdiv j)) st):nW (.int i) (.int j) st K:=by unfold nW;exact⟨h0,k⟩
theorem oJ.look{scope:Scope}{Nc:List Str}{fr:List (Option Nat)}{p:Str}(S:cz X scope Nc fr)(h:(scope.names.all (λ x=>x.2 != .cell)&&(!scope.isCoroutine&& !scope.isGenerator)&&(scope.names.lookup p==some .local))=true:=by decide+kernel)
 (p0:Nc[0]?=some p:=by rfl) (f0:fr[0]?=some none:=by rfl):oJ X scope Nc fr p:=by
 simp only[Vb,Bool.not_eq_true',Wg]at h;exact⟨S,λ x hx=>by simpa using U_.mp h.1.1 x hx,h.1.2.1,h.1.2.2,p0,f0,h.2⟩
theorem MV{scope:Scope}{Nc:List Str}{fr:List (Option Nat)}{p qual:Str}{params:Arguments}{e body:Expr}{te tb:DE}{lpos kpos pos ppos:Pos}{c0 T:Addr}{n0 k:Nat}(S:oJ X scope Nc fr p)(hc:X.calm=true)(hr:cT k X.A)(hcode:X.env.code= .ref c0)(hC:PySem.W.codeHdIn X.K c0 T=true)
 (hb:∀(f c:Addr) (s:Shared) (H:Hp),JE (GA X scope Nc qual f c s H) body tb) (he:JE X e te) (hg:X.env.kindOf "sorted"=some .globalImplicit) (hm:X.mg "sorted"=none)
 (hdef:defaultsOf params X.env=([],[]):=by rfl) (hql:X.env.qual++"<lambda>"=qual:=by rfl)
 (hbind:∀(cl:List (Str×Addr)) (pm cd ct v:Value),bindArgs (PySem.W.kla_fn "<lambda>" qual params body scope cl pm cd ct) ⟨[v],[]⟩=pure [(p,v)]:=by(intros;rfl)) (hk:2<=k:=by decide)
 (he1:starEach [e] X.env=(false,eval e X.env)::starEach [] X.env:=by rfl):
 JE X (.Call (.Name "sorted" ppos) [e] [⟨some "key",.Lambda params body scope lpos,kpos⟩] pos) (Ba n0 T lpos qual fr tb te):=by
 unfold JE at he hb⊢;refine Mq S hc (hr.mono hk) hcode hC hdef hql hbind hb (yO he A3 he1) hg hm rfl ?_ ?_
 . rw[he1];rfl
 . rw[he1];rfl
end
structure Pq(K:PySem.W.Frag)(x qual:Str)(st:Stmt)(f:Addr)(fd:FuncData)(c:Addr):Prop where
 ex:∃(oc:Value) (od:Option Addr) (kV doc pm:Value) (an:Option Addr) (ct:Value) (osl:Array (Option Value)),
  fd=PySem.W.fnOf x qual (kh st) (gW st) (ai st) .none kV doc pm an (.ref c) ct/\K.lookup f=some ⟨oc,od,.func fd,osl⟩/\PySem.W.codeIn K (.ref c) qual=true
theorem OQ{P:Program}{w:World}{K:PySem.W.Frag}{mg:Str->Option Value}{base:Heap}{x qual:Str}{st:Stmt}{f c:Addr}{fd:FuncData}{N ps:List Str}{k:Nat}{sp:cE}{t:DS}(F:Pq K x qual st f fd c)(S:aN N ps (ai st))
 (hbody:∀(A:Around) (outer:List Env) (s:Shared) (H:Hp) (E:XK),cT k (A.deeper (envOfC qual (ai st) s.heap.objs.size f (.ref c)))->JB (sN cF P w K mg base N qual (ai st) f (.ref c) A outer s H E).xN (gW st) t)
 (hsp:∀ds st K,sp ds st K->ds.length=ps.length/\t {nx:=λ _ st'=>K .aF st',rt:=K} (aV N ds) st):bj P w K mg base cF (k+1) f fd ps (cH sp):=by
 obtain⟨oc,od,kV,doc,pm,an,ct,osl,rfl,lk,hcd⟩:=F.ex;unfold JB at hbody;refine Kr lk hcd S (λ vs H Q E h=>?_) λ A outer s H vs Q E hr h=>?_
 . obtain⟨α,ds,st,K,G,F,P,R,S,q,k⟩:=h;rw[<-R.length];exact(hsp ds st K q).1
 . obtain⟨α,ds,st,K,G,F',P,R,SR,q,k⟩:=h;refine⟨_,(hbody A outer s H E hr).xN,α,aV N ds,st,_,G,F',P,eZ.start R,SR,(hsp ds st K q).2,?_,k,?_,?_⟩
   . intro σd' st' kk α' G' H' σ' s' P' R' S';exact k .aF st' kk α' G' H' .aF s' P' S' (by unfold Rep;rfl)
   . intro σd' st' kk;exact kk.elim
   . intro σd' st' kk;exact kk.elim
def HP(tl:List (Addr×Pos×Str)):cE:=λ ds st K=>∃ns:List Int,ds=[.lst (ns.map .int)]/\ns.length<=63/\st=tl.map (λ q=> .tab q.1 q.2.1 q.2.2 false)/\∀st',K (.bl true) st'
def HS(K:PySem.W.Frag)(ts:List (Addr×Addr)):Sp:=λ vs H Q _=>∃(a:Addr) (ns:List Int),vs=[.ref a]/\Entry K ts a ns H/\ns.length<=63/\∀H',Q (.bl true) H'
theorem Gu{K:PySem.W.Frag}{ts:List (Addr×Addr)}{tl:List (Addr×Pos×Str)}(nl:Hw K=true)(hts:ts.map (·.2)=tl.map (·.1))(nd:(tl.map (·.1)).Nodup){vs:List V}{H:Hp}{Q:VK}{E:XK}(h:HS K ts vs H Q E):cH (HP tl) vs H Q E:=by
 obtain⟨a,ns,rfl,hE,hl,q⟩:=h
 have tabs:∀q∈tl,H q.1=some (.lG #[])/\q.1≠a:=λ q hq=>by
  have h1:q.1∈ts.map (·.2):=by rw[hts];exact XO hq
  obtain⟨t,ht,e⟩:=Vy.mp h1;rw[<-e];exact hE.tab t ht
 have at_:∀(i:Nat) (x:Addr),(tl.map λ q=>some q.1)[i]?=some (some x)->∃q,tl[i]?=some q/\q.1=x:=λ i x e=>by
  rw[Uw]at e;cases z:tl[i]? with
  |none=>rw[z]at e;cases e
  |some w=>rw[z]at e;simp at e;exact⟨w,rfl,e⟩
 have nota:some a∉tl.map λ q=>some q.1:=λ z=>by
  obtain⟨w,hw,e⟩:=Vy.mp z;exact(tabs w hw).2 (U6 e)
 rcases hE.lst with hS|⟨o,its,n,e,hc,_⟩
 . refine⟨tl.map λ q=>some q.1,[.lst (ns.map .int)],tl.map (λ q=> .tab q.1 q.2.1 q.2.2 false),λ d _=>d= .bl true,H,λ _=>none,⟨λ b=>by cases H b<;>rfl,λ _ _ _=>rfl⟩,?_,⟨by simp,λ i j x e1 e2=>?_,λ n c e=>?_⟩,⟨ns,rfl,hl,rfl,λ _=>rfl⟩,?_⟩
   . unfold aI;refine⟨.ref a,[],rfl,?_,by unfold aI;rfl⟩;unfold Rep;exact⟨a,ns.map V.int,rfl,nota,hS,zN ns⟩
   . obtain⟨p,hp,e3⟩:=at_ i x e1;obtain⟨r,hr,e4⟩:=at_ j x e2;have k1:(tl.map (·.1))[i]?=some x:=by rw[Uw,hp,<-e3];rfl
     have k2:(tl.map (·.1))[j]?=some x:=by rw[Uw,hr,<-e4];rfl
     have hi:=(Ua.mp k1).1;exact(List.getElem?_inj hi nd).mp (k1.trans k2.symm)
   . rw[Uw]at e;cases z:tl[n]? with
     |none=>rw[z]at e;cases e
     |some w=>
      rw[z]at e;have e':Cell.tab w.1 w.2.1 w.2.2 false=c:=U6 e;subst e';refine .inr ⟨w.1,by rw[Uw,z];rfl,rfl,#[],(tabs w (UJ z)).1,trivial,.inl ⟨rfl,rfl⟩⟩
   . rintro d st' rfl α' G' H' v _ _ _ r;unfold Rep at r;subst r;exact q H'
 . exact absurd hc (Ag nl e)
section
variable {K:PySem.W.Frag}{x qual p1 p2 p3 p4 p5:Str}{st:Stmt}{f:Addr}{fd:FuncData}
abbrev sZ(x qual:Str)(st:Stmt)(kV doc pm:Value)(an:Option Addr)(cdv ct:Value):FuncData:=PySem.W.fnOf x qual (kh st) (gW st) (ai st) .none kV doc pm an cdv ct
theorem hJ{α:Type}{n:Nat}{us:List α}(h:us.length=n+1):∃a r,us=a::r/\r.length=n:=by
 cases us with
 |nil=>cases h
 |cons a r=>exact⟨a,r,rfl,Nat.succ.inj h⟩
theorem va{α:Type}{us:List α}(h:us.length=0):us=[]:=VT.mp h
theorem R8(F:pB K x qual st f fd)(h:∀kV doc pm an cdv ct a,bindArgs (sZ x qual st kV doc pm an cdv ct) ⟨[a],[]⟩=pure [(p1,a)]):Binds K fd [p1] []:=
 F.binds λ kV doc pm an cdv ct us hl=>by
  obtain⟨a,r1,rfl,h1⟩:=hJ hl;cases va h1;exact h kV doc pm an cdv ct a
theorem Sj(F:pB K x qual st f fd)(h:∀kV doc pm an cdv ct a b,bindArgs (sZ x qual st kV doc pm an cdv ct) ⟨[a,b],[]⟩=pure [(p1,a),(p2,b)]):Binds K fd [p1,p2] []:=
 F.binds λ kV doc pm an cdv ct us hl=>by
  obtain⟨a,r1,rfl,h1⟩:=hJ hl;obtain⟨b,r2,rfl,h2⟩:=hJ h1;cases va h2;exact h kV doc pm an cdv ct a b
theorem RO(F:pB K x qual st f fd)(h:∀kV doc pm an cdv ct a b c,bindArgs (sZ x qual st kV doc pm an cdv ct) ⟨[a,b,c],[]⟩=pure [(p1,a),(p2,b),(p3,c)]):Binds K fd [p1,p2,p3] []:=
 F.binds λ kV doc pm an cdv ct us hl=>by
  obtain⟨a,r1,rfl,h1⟩:=hJ hl;obtain⟨b,r2,rfl,h2⟩:=hJ h1;obtain⟨c,r3,rfl,h3⟩:=hJ h2;cases va h3;exact h kV doc pm an cdv ct a b c
theorem Si(F:pB K x qual st f fd)(h:∀kV doc pm an cdv ct a b c d,bindArgs (sZ x qual st kV doc pm an cdv ct) ⟨[a,b,c,d],[]⟩=pure [(p1,a),(p2,b),(p3,c),(p4,d)]):Binds K fd [p1,p2,p3,p4] []:=
 F.binds λ kV doc pm an cdv ct us hl=>by
  obtain⟨a,r1,rfl,h1⟩:=hJ hl;obtain⟨b,r2,rfl,h2⟩:=hJ h1;obtain⟨c,r3,rfl,h3⟩:=hJ h2;obtain⟨d,r4,rfl,h4⟩:=hJ h3;cases va h4;exact h kV doc pm an cdv ct a b c d
end
section
variable {X:Cx}
def xN(X:Cx):Cx:={X with xe:=λ _ _=>False}
end
variable {st:ag}{K:D->ag->Prop}{i j:Int}
section
variable {X:Cx}{pos:Pos}
end
end L3
namespace L3
open PySem L2
structure ClsAt(K:PySem.W.Frag)(mg:Str->Option Value)(x:Str)(C:Addr):Prop where
 cl:nZ K C
 mg:mg x=some (.ref C)
 N0:PySem.W.makesIn K C=true
 kp:PySem.W.keepIn K (.ref C)=true
structure MethAt(K:PySem.W.Frag)(C:Addr)(m qual:Str)(st:Stmt)(ps:List Str)(f:Addr)(fd:FuncData):Prop where
 fn:pB K m qual st f fd
 me:Meth K C m f
 bd:Binds K fd ps []
end L3
namespace Hd
open PySem PySem.W L2 L3
open PySem.Spec hiding items?
open PyProof.Rows hiding St
section
variable {K:Frag}{mg:Str->Option Value}{h:Heap}{x q:Str}{st:Stmt}{f c C:Addr}{pm:Value}{p1 p2 p3 p4 p5 p6:Str}
abbrev Ed(K:Frag)(x:Str)(st:Stmt)(f:Addr)(pm:Value)(c:Addr):Prop:=(nsIn K mainGlobals x,K.lookup f,codeIn K (.ref c) x,keepIn K (.ref f))=(some (some (.ref f)),some (fq st x x pm c),true,true)
abbrev Em(K:Frag)(C:Addr)(x q:Str)(st:Stmt)(f:Addr)(pm:Value)(c:Addr):Prop:=(findIn K (.ref C) x,isFn K (.ref f),K.lookup f,codeIn K (.ref c) q,keepIn K (.ref f))=(some (some (.ref f)),true,some (fq st x q pm c),true,true)
theorem Ed.fn(e:Ed K x st f pm c):pB K x x st f (fd st x x pm c)/\nsIn K mainGlobals x=some (some (.ref f)):=by
 obtain⟨e1,e2,e3,e4⟩:_/\_/\_/\_:=by simpa only[Y0]using e
 exact⟨FI (st:=st) e2 e3 e4,e1⟩
theorem Em.fn(e:Em K C x q st f pm c):pB K x q st f (fd st x q pm c)/\Meth K C x f:=by
 obtain⟨e1,e2,e3,e4,e5⟩:_/\_/\_/\_/\_:=by simpa only[Y0]using e
 exact⟨FI (st:=st) e3 e4 e5,e1,e2,e5⟩
theorem uP(X:K.In h)(G:h.Ns mainGlobals mg)(e:Ed K x st f pm c)(b:∀kV doc pm an cdv ct a,bindArgs (sZ x x st kV doc pm an cdv ct) ⟨[a],[]⟩=pure [(p1,a)]):bV K mg x x st [p1] f (fd st x x pm c):=⟨e.fn.1,mg_of X G e.fn.2,R8 e.fn.1 b⟩
theorem jB(X:K.In h)(G:h.Ns mainGlobals mg)(e:Ed K x st f pm c)(b:∀kV doc pm an cdv ct a1 a2,bindArgs (sZ x x st kV doc pm an cdv ct) ⟨[a1,a2],[]⟩=pure [(p1,a1),(p2,a2)]):bV K mg x x st [p1,p2] f (fd st x x pm c):=⟨e.fn.1,mg_of X G e.fn.2,Sj e.fn.1 b⟩
theorem GI(X:K.In h)(G:h.Ns mainGlobals mg)(e:Ed K x st f pm c)(b:∀kV doc pm an cdv ct a1 a2 a3,bindArgs (sZ x x st kV doc pm an cdv ct) ⟨[a1,a2,a3],[]⟩=pure [(p1,a1),(p2,a2),(p3,a3)]):bV K mg x x st [p1,p2,p3] f (fd st x x pm c):=⟨e.fn.1,mg_of X G e.fn.2,RO e.fn.1 b⟩
theorem RX(X:K.In h)(G:h.Ns mainGlobals mg)(e:Ed K x st f pm c)(b:∀kV doc pm an cdv ct a1 a2 a3 a4,bindArgs (sZ x x st kV doc pm an cdv ct) ⟨[a1,a2,a3,a4],[]⟩=pure [(p1,a1),(p2,a2),(p3,a3),(p4,a4)]):bV K mg x x st [p1,p2,p3,p4] f (fd st x x pm c):=⟨e.fn.1,mg_of X G e.fn.2,Si e.fn.1 b⟩
theorem TM(e:Em K C x q st f pm c)(b:∀kV doc pm an cdv ct a,bindArgs (sZ x q st kV doc pm an cdv ct) ⟨[a],[]⟩=pure [(p1,a)]):MethAt K C x q st [p1] f (fd st x q pm c):=⟨e.fn.1,e.fn.2,R8 e.fn.1 b⟩
theorem Dm(e:Em K C x q st f pm c)(b:∀kV doc pm an cdv ct a1 a2,bindArgs (sZ x q st kV doc pm an cdv ct) ⟨[a1,a2],[]⟩=pure [(p1,a1),(p2,a2)]):MethAt K C x q st [p1,p2] f (fd st x q pm c):=⟨e.fn.1,e.fn.2,Sj e.fn.1 b⟩
theorem Hc(e:Em K C x q st f pm c)(b:∀kV doc pm an cdv ct a1 a2 a3,bindArgs (sZ x q st kV doc pm an cdv ct) ⟨[a1,a2,a3],[]⟩=pure [(p1,a1),(p2,a2),(p3,a3)]):MethAt K C x q st [p1,p2,p3] f (fd st x q pm c):=⟨e.fn.1,e.fn.2,RO e.fn.1 b⟩
theorem Tt(e:Em K C x q st f pm c)(b:∀kV doc pm an cdv ct a1 a2 a3 a4,bindArgs (sZ x q st kV doc pm an cdv ct) ⟨[a1,a2,a3,a4],[]⟩=pure [(p1,a1),(p2,a2),(p3,a3),(p4,a4)]):MethAt K C x q st [p1,p2,p3,p4] f (fd st x q pm c):=⟨e.fn.1,e.fn.2,Si e.fn.1 b⟩
theorem fc(e:(K.lookup f,codeIn K (.ref c) q)=(some (fq st x q pm c),true)):Pq K x q st f (fd st x q pm c) c:=by
 obtain⟨e1,e2⟩:_/\_:=by simpa only[Y0]using e
 exact⟨_,_,_,_,_,_,_,_,rfl,e1,e2⟩
theorem na{a:Str}(e:findIn K (.ref C) a=some none):gf K C a:=e
end
end Hd
namespace L3
open PySem L2
open PySem.Spec hiding items?
open PyProof.Rows hiding St
section
variable {X:Cx}{pos:Pos}
end
end L3
namespace L3
open PySem L2
open PySem.Spec hiding items?
end L3
namespace Mx
def S:Nat->(Nat->Int)->Int
 |0,_=>0
 |n+1,f=>S n f+f n
theorem ay{n:Nat}{f g:Nat->Int}(h:∀i,i<n->f i=g i):S n f=S n g:=by
 induction n with
 |zero=>rfl
 |succ n ih=>unfold S;rw[ih λ i hi=>h i (by omega),h n (by omega)]
theorem nX{n:Nat}{f:Nat->Int}(h:∀i,i<n->f i=0):S n f=0:=by
 induction n with
 |zero=>rfl
 |succ n ih=>unfold S;rw[ih λ i hi=>h i (by omega),h n (by omega)];rfl
theorem jz(n:Nat)(f g:Nat->Int):S n (λ i=>f i+g i)=S n f+S n g:=by
 induction n with
 |zero=>rfl
 |succ n ih=>unfold S;rw[ih];dsimp only;omega
theorem c7(n:Nat)(c:Int)(f:Nat->Int):S n (λ i=>c*f i)=c*S n f:=by
 induction n with
 |zero=>unfold S;rw[UZ]
 |succ n ih=>unfold S;rw[ih,YH]
theorem l6(n:Nat)(c:Int)(f:Nat->Int):S n (λ i=>f i*c)=S n f*c:=by
 induction n with
 |zero=>unfold S;rw[Wx]
 |succ n ih=>unfold S;rw[ih,Int.add_mul]
theorem x6(n:Nat)(f:Nat->Int):S n (λ i=> -f i)= -S n f:=by
 induction n with
 |zero=>rfl
 |succ n ih=>unfold S;rw[ih];dsimp only;omega
theorem jV(m n:Nat)(f:Nat->Nat->Int):S m (λ i=>S n λ j=>f i j)=S n λ j=>S m λ i=>f i j:=by
 induction m with
 |zero=>exact(nX (n:=n) (λ i _=>rfl)).symm
 |succ m ih=>
  have:S n (λ j=>S (m+1) λ i=>f i j)=S n λ j=>(S m λ i=>f i j)+f m j:=ay λ j _=>rfl;rw[this,jz,<-ih];rfl
theorem nC{n:Nat}{k:Nat}(hk:k<n){f:Nat->Int}(h:∀i,i<n->i≠k->f i=0):S n f=f k:=by
 induction n with
 |zero=>omega
 |succ n ih=>
  unfold S;by_cases e:k=n
  . subst e;rw[nX λ i hi=>h i (by omega) (by omega),WL]
  . rw[ih (by omega) λ i hi hn=>h i (by omega) hn,h n (by omega) (by omega),V6]
theorem Bx(n:Nat)(f:Nat->Int):S (n+1) f=f 0+S n λ i=>f (i+1):=by
 induction n with
 |zero=>unfold S S;omega
 |succ n ih=>
  have:S (n+1+1) f=S (n+1) f+f (n+1):=rfl;rw[this,ih];have:S (n+1) (λ i=>f (i+1))=S n (λ i=>f (i+1))+f (n+1):=rfl;rw[this];omega
def dl(i j:Nat):Int:=if i=j then 1 else 0
theorem dO(i:Nat):dl i i=1:=Ud rfl
theorem dX{i j:Nat}(h:i≠j):dl i j=0:=Ub h
theorem i6{n k:Nat}(hk:k<n)(f:Nat->Int):S n (λ i=>dl k i*f i)=f k:=by
 rw[nC hk (λ i _ h=>by rw[dX (Ui h),Wx]),dO,VQ]
theorem tS{n k:Nat}(hk:k<n)(f:Nat->Int):S n (λ i=>f i*dl i k)=f k:=by
 rw[nC hk (λ i _ h=>by rw[dX h,UZ]),dO,Int.mul_one]
abbrev Row:=List Int
abbrev Rows:=List (List Int)
def g(A:Rows)(i j:Nat):Int:=(A.getD i []).getD j 0
structure bh(m n:Nat)(A:Rows):Prop where
 len:A.length=m
 gc:∀r∈A,r.length=n
theorem aK{α:Type}{l:List α}{i:Nat}{d:α}(h:i<l.length):l.getD i d=l[i]:=by
 rw[Uv,Uq h];rfl
theorem mT{α:Type}{l:List α}{i:Nat}{d:α}(h:l.length<=i):l.getD i d=d:=by
 rw[Uv,WJ h];rfl
theorem rm{a b:Row}{n:Nat}(ha:a.length=n)(hb:b.length=n)(h:∀j,j<n->a.getD j 0=b.getD j 0):a=b:=by
 refine List.ext_getElem (by omega) λ i h1 h2=>?_;have:=h i (by omega);rwa [aK h1,aK h2]at this
theorem bh.row{m n:Nat}{A:Rows}(h:bh m n A){i:Nat}(hi:i<m):(A.getD i []).length=n:=by
 have hl:=h.len;rw[aK (by omega)];exact h.gc _ (Vp _)
theorem bh.ext{m n:Nat}{A B:Rows}(ha:bh m n A)(hb:bh m n B)(h:∀i j,i<m->j<n->g A i j=g B i j):A=B:=by
 have h1:=ha.len;have h2:=hb.len;refine List.ext_getElem (by omega) λ i hi hj=>?_;have e1:=ha.row (i:=i) (by omega);have e2:=hb.row (i:=i) (by omega);have:=rm e1 e2 λ j hj=>h i j (by omega) hj;rwa [aK hi,aK hj]at this
def f9(r:Row)(t:Int)(s:Row):Row:=List.zipWith (λ a b=>a+t*b) r s
theorem jK{r s:Row}{t:Int}(h:r.length=s.length):(f9 r t s).length=r.length:=by unfold f9;simp[h]
theorem o8{r s:Row}{t:Int}(h:r.length=s.length)(j:Nat):(f9 r t s).getD j 0=r.getD j 0+t*s.getD j 0:=by
 unfold f9;by_cases hj:j<r.length
 . rw[aK (by simp;omega),aK hj,aK (by omega)];simp
 . rw[mT (by simp;omega),mT (by omega),mT (by omega)];simp
def dQ:Row->Rows->Row->Row
 |w::ws,r::rs,acc=>dQ ws rs (f9 acc w r)
 |_,_,acc=>acc
theorem qz{n:Nat}:∀ {ws:Row} {rs:Rows} {acc:Row},acc.length=n->(∀r∈rs,r.length=n)->(dQ ws rs acc).length=n
 | [],_,acc,h,_=>by unfold dQ;exact h
 |_::_,[],acc,h,_=>by unfold dQ;exact h
 |w::ws,r::rs,acc,h,hr=>by
  unfold dQ;refine qz ?_ λ r hr'=>hr r (Uu _ hr');rw[jK (by rw[h,hr r UB]),h]
theorem rV{n:Nat}:∀ {ws:Row} {rs:Rows} {acc:Row} (j:Nat),acc.length=n->(∀r∈rs,r.length=n)->ws.length=rs.length->(dQ ws rs acc).getD j 0=acc.getD j 0+S rs.length λ k=>ws.getD k 0*g rs k j
 | [],[],acc,j,h,_,_=>by unfold dQ;show _=_+(0:Int);rw[V6]
 | [],_::_,acc,j,h,_,hl=>by cases hl
 |_::_,[],acc,j,h,_,hl=>by cases hl
 |w::ws,r::rs,acc,j,h,hr,hl=>by
  have e1:acc.length=r.length:=by rw[h,hr r UB]
  unfold dQ;rw[rV j (by rw[jK e1,h]) (λ r hr'=>hr r (Uu _ hr')) (by simpa using hl),o8 e1,UQ,Bx]
  have:(λ k=>(w::ws).getD (k+1) 0*g (r::rs) (k+1) j)=λ k=>ws.getD k 0*g rs k j:=by
   funext k;unfold g;simp
  rw[this];unfold g;simp;omega
def mulM(A B:Rows)(n:Nat):Rows:=A.map λ w=>dQ w B (List.replicate n 0)
theorem cY(n j:Nat):(List.replicate n (0:Int)).getD j 0=0:=by
 by_cases h:j<n
 . rw[aK (by simpa using h)];simp
 . rw[mT (by simp;omega)]
theorem DJ{m p n:Nat}{A B:Rows}(ha:bh m p A)(hb:bh p n B):bh m n (mulM A B n):=by
 refine⟨by unfold mulM;rw[Uk];exact ha.len,λ r hr=>?_⟩;unfold mulM at hr;obtain⟨w,_,rfl⟩:=Vy.mp hr;exact qz (by simp) hb.gc
theorem map_getD{α:Type}{f:Row->List α}{A:Rows}{i:Nat}(h:i<A.length):(A.map f).getD i []=f (A.getD i []):=by
 rw[aK (by simpa using h),aK h];simp
theorem D1{m p n:Nat}{A B:Rows}(ha:bh m p A)(hb:bh p n B){i:Nat}(hi:i<m)(j:Nat):g (mulM A B n) i j=S p λ k=>g A i k*g B k j:=by
 have hl:=ha.len;show((mulM A B n).getD i []).getD j 0=_;unfold mulM;rw[map_getD (by omega),rV (n:=n) j (by simp) hb.gc (by rw[ha.row hi,hb.len]),cY,WL,hb.len];rfl
def jZ(n i:Nat):Row:=(List.range n).map λ k=>dl k i
def units(n:Nat):Rows:=(List.range n).map λ i=>jZ n i
theorem range_getD{α:Type}{f:Nat->α}{n i:Nat}{d:α}(h:i<n):((List.range n).map f).getD i d=f i:=by
 rw[aK (by simpa using h)];simp
theorem pN(n:Nat):bh n n (units n):=⟨by simp[units],λ r hr=>by unfold units at hr;obtain⟨i,_,rfl⟩:=Vy.mp hr;simp[jZ]⟩
theorem mL{n i j:Nat}(hi:i<n)(hj:j<n):g (units n) i j=dl i j:=by
 unfold g units jZ;rw[range_getD hi,range_getD hj];unfold dl;by_cases h:i=j
 . subst h;rfl
 . rw[Ub (Ui h),Ub h]
def yu(A:Rows)(j:Nat):Row:=A.map λ r=>r.getD j 0
def GC(A:Rows)(n:Nat):Rows:=(List.range n).map λ j=>yu A j
def iz:Row->Row->Int
 |a::as,b::bs=>a*b+iz as bs
 |_,_=>0
theorem nH:∀ {a b:Row},a.length=b.length->iz a b=S b.length λ k=>a.getD k 0*b.getD k 0
 | [],[],_=>rfl
 | [],_::_,h=>by cases h
 |_::_,[],h=>by cases h
 |x::a,y::b,h=>by
  unfold iz;rw[nH (by simpa using h),UQ,Bx];simp
theorem pq(i j:Nat):dl i j=dl j i:=by
 unfold dl;by_cases h:i=j
 . rw[Ud h,Ud h.symm]
 . rw[Ub h,Ub (Ui h)]
def sw(i j k:Nat):Nat:=if k=i then j else if k=j then i else k
theorem PL{n i j:Nat}(hi:i<n)(hj:j<n)(hij:i≠j)(f:Nat->Int):S n (λ k=>f (sw i j k))=S n f:=by
 have:S n (λ k=>f (sw i j k))=S n λ k=>f k+(f j-f i)*dl k i+(f i-f j)*dl k j:=ay λ k _=>by
  unfold sw;by_cases h1:k=i
  . subst h1;rw[Ud rfl,dO,dX hij];omega
  . rw[Ub h1,dX h1];by_cases h2:k=j
    . subst h2;rw[Ud rfl,dO];omega
    . rw[Ub h2,dX h2];omega
 rw[this,jz,jz,tS (f:=λ _=>f j-f i) hi,tS (f:=λ _=>f i-f j) hj];omega
theorem nG{A:Rows}{i:Nat}{r:Row}(hi:i<A.length)(a k:Nat):g (A.set i r) a k=if a=i then r.getD k 0 else g A a k:=by
 have e:(A.set i r).getD a []=if a=i then r else A.getD a []:=by
  rw[Uv,Uv];by_cases h:a=i
  . subst h;rw[Ud rfl,Uo hi];rfl
  . rw[Ub h,Ug (Ui h)]
 unfold g;rw[e];by_cases h:a=i
 . rw[Ud h,Ud h]
 . rw[Ub h,Ub h]
abbrev Fn:=Nat->Nat->Int
def sk(j c:Nat):Nat:=if c<j then c else c+1
def sg(j:Nat):Int:=if j%2=0 then 1 else-1
theorem yK(j:Nat):sg (j+1)= -sg j:=by unfold sg;split<;>split<;>omega
theorem vc:sg 0=1:=rfl
theorem kP{j c n:Nat}(h:c<n):sk j c<n+1:=by unfold sk;split<;>omega
theorem Rx{j k c:Nat}(h:k<j):sk j (sk k c)=sk k (sk (j-1) c):=by unfold sk;grind
def D:Nat->Fn->Int
 |0,_=>1
 |n+1,M=>S (n+1) λ j=>sg j*M 0 j*D n λ r c=>M (r+1) (sk j c)
theorem jP(M:Fn):D 0 M=1:=rfl
theorem di(n:Nat)(M:Fn):D (n+1) M=S (n+1) λ j=>sg j*M 0 j*D n λ r c=>M (r+1) (sk j c):=rfl
theorem ba:∀ {n:Nat} {M M':Fn},(∀r c,r<n->c<n->M r c=M' r c)->D n M=D n M'
 |0,_,_,_=>rfl
 |n+1,M,M',h=>by
  rw[di,di];refine ay λ j hj=>?_;have e:D n (λ r c=>M (r+1) (sk j c))=D n (λ r c=>M' (r+1) (sk j c)):=ba λ r c hr hc=>h (r+1) (sk j c) (by omega) (kP hc);rw[h 0 j (by omega) hj,e]
theorem Ew:∀ {n:Nat} {M P Q:Fn} {a b:Int} {i:Nat},i<n->(∀c,c<n->M i c=a*P i c+b*Q i c)->(∀r c,r<n->c<n->r≠i->M r c=P r c/\M r c=Q r c)->D n M=a*D n P+b*D n Q
 |0,_,_,_,_,_,_,h,_,_=>by omega
 |n+1,M,P,Q,a,b,0,_,h0,h=>by
  rw[di,di,di,<-c7,<-c7,<-jz];refine ay λ j hj=>?_;have e1:D n (λ r c=>M (r+1) (sk j c))=D n (λ r c=>P (r+1) (sk j c)):=ba λ r c hr hc=>(h (r+1) (sk j c) (by omega) (kP hc) (by omega)).1;have e2:D n (λ r c=>M (r+1) (sk j c))=D n (λ r c=>Q (r+1) (sk j c)):=ba λ r c hr hc=>(h (r+1) (sk j c) (by omega) (kP hc) (by omega)).2;rw[h0 j hj,<-e1,<-e2];grind
 |n+1,M,P,Q,a,b,i+1,hi,h0,h=>by
  rw[di,di,di,<-c7,<-c7,<-jz];refine ay λ j hj=>?_;have e:=Ew (n:=n) (M:=λ r c=>M (r+1) (sk j c)) (P:=λ r c=>P (r+1) (sk j c)) (Q:=λ r c=>Q (r+1) (sk j c)) (a:=a) (b:=b) (i:=i) (by omega) (λ c hc=>h0 (sk j c) (kP hc)) λ r c hr hc hne=>h (r+1) (sk j c) (by omega) (kP hc) (by omega);have p:=h 0 j (by omega) hj (by omega);rw[e,<-p.1,<-p.2];grind
theorem Sl{n:Nat}{M:Fn}(h:∀c,c<n+2->M 0 c=M 1 c):D (n+2) M=0:=by
 let T:Nat->Nat->Int:=λ j k=>sg j*M 0 j*(sg k*M 1 (sk j k)*D n λ r c=>M (r+2) (sk j (sk k c)))
 have e1:∀j,j<n+2->sg j*M 0 j*D (n+1) (λ r c=>M (r+1) (sk j c))=S (n+1) λ k=>T j k:=λ j hj=>by
  rw[di,<-c7]
 rw[di,ay e1]
 have e2:∀j,j<n+2->S (n+1) (λ k=>T j k)=S (n+1) (λ k=>if k<j then T j k else 0)+S (n+1) (λ k=>if k<j then 0 else T j k):=λ j _=>by
  rw[<-jz];refine ay λ k _=>?_;split<;>omega
 rw[ay e2,jz]
 have e3:∀j k,j<n+2->k<n+1->¬k<j->T j k= -T (k+1) j:=λ j k hj hk hjk=>by
  have s1:sk (k+1) j=j:=by unfold sk;rw[Ud (by omega)]
  have s2:sk j k=k+1:=by unfold sk;rw[Ub hjk]
  have s3:(λ r c=>M (r+2) (sk (k+1) (sk j c)))=λ r c=>M (r+2) (sk j (sk k c)):=by
   funext r c;rw[Rx (show j<k+1 by omega)];rfl
  show sg j*M 0 j*(sg k*M 1 (sk j k)*D n λ r c=>M (r+2) (sk j (sk k c)))= -(sg (k+1)*M 0 (k+1)*(sg j*M 1 (sk (k+1) j)*D n λ r c=>M (r+2) (sk (k+1) (sk j c))));rw[s1,s2,s3,yK,<-h j hj,<-h (k+1) (by omega)];grind
 have e4:S (n+2) (λ j=>S (n+1) λ k=>if k<j then 0 else T j k)= -S (n+2) (λ j=>S (n+1) λ k=>if k<j then T j k else 0):=by
  rw[jV,Bx (n+1) (λ j=>S (n+1) λ k=>if k<j then T j k else 0)];have z:S (n+1) (λ k=>if k<0 then T 0 k else 0)=0:=nX λ k _=>Ub (by omega);rw[z,WL,<-x6];refine ay λ k hk=>?_;have:S (n+2) (λ j=>if k<j then 0 else T j k)=S (n+1) (λ j=>if k<j then 0 else T j k)+(if k<n+1 then 0 else T (n+1) k):=rfl;rw[this,Ud hk,V6,<-x6];refine ay λ j hj=>?_;by_cases hkj:k<j
  . rw[Ud hkj,Ub (by omega)];rfl
  . rw[Ub hkj,Ud (by omega)];exact e3 j k (by omega) hk hkj
 rw[e4];omega
theorem Km:∀ {n:Nat} {M:Fn} {i:Nat},i+1<n->(∀c,c<n->M i c=M (i+1) c)->D n M=0
 |0,_,_,h,_=>by omega
 |1,_,_,h,_=>by omega
 |n+2,M,0,_,h=>Sl h
 |n+2,M,i+1,hi,h=>by
  rw[di];refine nX λ j hj=>?_;rw[Km (n:=n+1) (M:=λ r c=>M (r+1) (sk j c)) (i:=i) (by omega) λ c hc=>h (sk j c) (kP hc),UZ]
structure Alt(n:Nat)(φ:Fn->Int):Prop where
 cg:∀M M':Fn,(∀r c,r<n->c<n->M r c=M' r c)->φ M=φ M'
 rq:∀(i:Nat) (M P Q:Fn) (a b:Int),i<n->(∀c,c<n->M i c=a*P i c+b*Q i c)->(∀r c,r<n->c<n->r≠i->M r c=P r c/\M r c=Q r c)->φ M=a*φ P+b*φ Q
 alt:∀(i j:Nat) (M:Fn),i<n->j<n->i≠j->(∀c,c<n->M i c=M j c)->φ M=0
def upd(M:Fn)(i:Nat)(x:Nat->Int):Fn:=λ r c=>if r=i then x c else M r c
theorem bS(M:Fn)(i:Nat)(x:Nat->Int)(c:Nat):upd M i x i c=x c:=Ud rfl
theorem aB{M:Fn}{i r:Nat}{x:Nat->Int}(h:r≠i)(c:Nat):upd M i x r c=M r c:=Ub h
theorem RK{n i j:Nat}{φ:Fn->Int}(cg:∀M M':Fn,(∀r c,r<n->c<n->M r c=M' r c)->φ M=φ M')
 (rq:∀(i:Nat) (M P Q:Fn) (a b:Int),i<n->(∀c,c<n->M i c=a*P i c+b*Q i c)->(∀r c,r<n->c<n->r≠i->M r c=P r c/\M r c=Q r c)->φ M=a*φ P+b*φ Q)
 (hi:i<n) (hj:j<n) (hij:i≠j) (alt:∀N:Fn,(∀c,c<n->N i c=N j c)->φ N=0) (M:Fn):φ (λ r=>M (sw i j r))= -φ M:=by
 have l1:φ (upd (upd M i λ c=>M i c+M j c) j λ c=>M i c+M j c)=1*φ (upd (upd M i (M i)) j λ c=>M i c+M j c)+1*φ (upd (upd M i (M j)) j λ c=>M i c+M j c):=
  rq i _ _ _ 1 1 hi (λ c _=>by rw[aB hij,aB hij,aB hij,bS,bS,bS];omega) λ r c _ _ hr=>by
   unfold upd;grind
 have l2:∀x:Nat->Int,φ (upd (upd M i x) j λ c=>M i c+M j c)=1*φ (upd (upd M i x) j (M i))+1*φ (upd (upd M i x) j (M j)):=λ x=>
  rq j _ _ _ 1 1 hj (λ c _=>by rw[bS,bS,bS];omega) λ r c _ _ hr=>by
   rw[aB hr,aB hr,aB hr];exact⟨rfl,rfl⟩
 have z0:φ (upd (upd M i λ c=>M i c+M j c) j λ c=>M i c+M j c)=0:=alt _ λ c _=>by rw[aB hij,bS,bS]
 have z1:φ (upd (upd M i (M i)) j (M i))=0:=alt _ λ c _=>by rw[aB hij,bS,bS]
 have z2:φ (upd (upd M i (M j)) j (M j))=0:=alt _ λ c _=>by rw[aB hij,bS,bS]
 have s1:φ (upd (upd M i (M i)) j (M j))=φ M:=cg _ _ λ r c _ _=>by
  unfold upd;split
  . rename_i e;rw[e]
  . split
    . rename_i e;rw[e]
    . rfl
 have s2:φ (upd (upd M i (M j)) j (M i))=φ (λ r=>M (sw i j r)):=cg _ _ λ r c _ _=>by
  unfold upd sw;by_cases h1:r=j
  . rw[Ud h1];by_cases h2:r=i
    . omega
    . rw[Ub h2,Ud h1]
  . rw[Ub h1];by_cases h2:r=i
    . rw[Ud h2,Ud h2]
    . rw[Ub h2,Ub h2,Ub h1]
 have a1:=l2 (M i);have a2:=l2 (M j);rw[z1,s1]at a1;rw[z2,s2]at a2;rw[z0,a1,a2]at l1;omega
theorem Alt.swap{n i j:Nat}{φ:Fn->Int}(A:Alt n φ)(hi:i<n)(hj:j<n)(hij:i≠j)(M:Fn):φ (λ r=>M (sw i j r))= -φ M:=
 RK A.cg A.rq hi hj hij (λ N h=>A.alt i j N hi hj hij h) M
theorem xT{n:Nat}{φ:Fn->Int}(cg:∀M M':Fn,(∀r c,r<n->c<n->M r c=M' r c)->φ M=φ M')
 (rq:∀(i:Nat) (M P Q:Fn) (a b:Int),i<n->(∀c,c<n->M i c=a*P i c+b*Q i c)->(∀r c,r<n->c<n->r≠i->M r c=P r c/\M r c=Q r c)->φ M=a*φ P+b*φ Q)
 (adj:∀(i:Nat) (M:Fn),i+1<n->(∀c,c<n->M i c=M (i+1) c)->φ M=0):Alt n φ:=by
 have far:∀(d i:Nat) (M:Fn),i+d+1<n->(∀c,c<n->M i c=M (i+d+1) c)->φ M=0:=by
  intro d;induction d with
  |zero=>exact λ i M h1 h2=>adj i M h1 h2
  |succ d ih=>
   intro i M h1 h2;have hs:=RK cg rq (i:=i+d+1) (j:=i+d+1+1) (by omega) (by omega) (by omega) (λ N h=>adj (i+d+1) N (by omega) h) M
   have:φ (λ r=>M (sw (i+d+1) (i+d+1+1) r))=0:=ih i _ (by omega) λ c hc=>by
    have e1:sw (i+d+1) (i+d+1+1) i=i:=by unfold sw;rw[Ub (by omega),Ub (by omega)]
    have e2:sw (i+d+1) (i+d+1+1) (i+d+1)=i+d+1+1:=by unfold sw;rw[Ud rfl]
    rw[e1,e2];exact h2 c hc
   omega
 refine⟨cg,rq,λ i j M hi hj hij h=>?_⟩;by_cases hlt:i<j
 . obtain⟨d,rfl⟩:∃d,j=i+d+1:=⟨j-i-1,by omega⟩
   exact far d i M hj h
 . obtain⟨d,rfl⟩:∃d,i=j+d+1:=⟨i-j-1,by omega⟩
   exact far d j M hi λ c hc=>(h c hc).symm
theorem kK(n:Nat):Alt n (D n):=xT (λ _ _ h=>ba h) (λ _ _ _ _ _ _ hi h0 h=>Ew hi h0 h) λ _ _ h1 h2=>Km h1 h2
theorem Alt.Oz{n i:Nat}{φ:Fn->Int}(A:Alt n φ)(hi:i<n){M:Fn}(h:∀c,c<n->M i c=0):φ M=0:=by
 have:=A.rq i M M M 0 0 hi (λ c hc=>by rw[h c hc];rfl) λ _ _ _ _ _=>⟨rfl,rfl⟩
 omega
theorem Alt.oa{n i:Nat}{φ:Fn->Int}(A:Alt n φ)(hi:i<n)(M:Fn)(t:Int)(x:Nat->Int):φ (upd M i λ c=>t*x c)=t*φ (upd M i x):=by
 have:=A.rq i (upd M i λ c=>t*x c) (upd M i x) (upd M i x) t 0 hi (λ c hc=>by rw[bS,bS];omega) λ r c _ _ hr=>by rw[aB hr,aB hr];exact⟨rfl,rfl⟩
 omega
theorem Alt.ud{n i:Nat}{φ:Fn->Int}(A:Alt n φ)(hi:i<n)(M:Fn)(x y:Nat->Int):φ (upd M i λ c=>x c+y c)=φ (upd M i x)+φ (upd M i y):=by
 have:=A.rq i (upd M i λ c=>x c+y c) (upd M i x) (upd M i y) 1 1 hi (λ c hc=>by rw[bS,bS,bS];omega) λ r c _ _ hr=>by rw[aB hr,aB hr,aB hr];exact⟨rfl,rfl⟩
 omega
theorem Alt.rp{n i:Nat}{φ:Fn->Int}(A:Alt n φ)(hi:i<n)(M:Fn)(a:Nat->Int)(x:Nat->Nat->Int):∀m,φ (upd M i λ c=>S m λ j=>a j*x j c)=S m λ j=>a j*φ (upd M i (x j))
 |0=>A.Oz hi λ c _=>by rw[bS];rfl
 |m+1=>by
  have:(λ c=>S (m+1) λ j=>a j*x j c)=λ c=>(S m λ j=>a j*x j c)+a m*x m c:=rfl;rw[this,A.ud hi,A.rp hi M a x m,A.oa hi];rfl
theorem Alt.more{n i:Nat}{φ:Fn->Int}(A:Alt n φ)(hi:i<n)(M:Fn)(x:Nat->Int)(a:Nat->Int)(m:Nat)(hm:m<=n)(him:m<=i):φ (upd M i λ c=>x c+S m λ j=>a j*M j c)=φ (upd M i x):=by
 rw[A.ud hi,A.rp hi M a (λ j=>M j) m,nX λ j hj=>?_,V6];rw[A.alt i j _ hi (by omega) (by omega) λ c _=>by rw[bS,aB (by omega)],UZ]
def un(j c:Nat):Nat:=if c<j then c else c-1
def grow(j:Nat)(B:Fn):Fn:=λ r c=>if r=0 then dl j c else if c=j then 0 else B (r-1) (un j c)
theorem xS{n j c:Nat}(hj:j<n+1)(hc:c<n+1)(h:c≠j):un j c<n:=by unfold un;split<;>omega
theorem Fv{j c:Nat}(h:c≠j):sk j (un j c)=c:=by unfold sk un;grind
theorem Alt.grow{n j:Nat}{φ:Fn->Int}(A:Alt (n+1) φ)(hj:j<n+1):Alt n λ B=>φ (Mx.grow j B) where
 cg:=λ M M' h=>A.cg _ _ λ r c hr hc=>by
  have:=h (r-1) (un j c);have:=xS (c:=c) hj hc;unfold Mx.grow;grind
 rq:=λ i M P Q a b hi h0 h=>A.rq (i+1) _ _ _ a b (by omega) (λ c hc=>by
  have:=h0 (un j c);have:=xS (c:=c) hj hc;have e:i+1-1=i:=by omega
  unfold Mx.grow;rw[e];grind) λ r c hr hc hne=>by
  have:=h (r-1) (un j c);have:=xS (c:=c) hj hc;unfold Mx.grow;grind
 alt:=λ i k M hi hk hik h=>A.alt (i+1) (k+1) _ (by omega) (by omega) (by omega) λ c hc=>by
  have:=h (un j c);have:=xS (c:=c) hj hc;have e:i+1-1=i:=by omega
  have e2:k+1-1=k:=by omega
  unfold Mx.grow;rw[e,e2];grind
theorem Alt.units{n:Nat}{φ:Fn->Int}(A:Alt (n+1) φ):∀j,j<n+1->φ (Mx.grow j dl)=sg j*φ dl
 |0,_=>by
  rw[vc,VQ];refine A.cg _ _ λ r c hr hc=>?_;unfold Mx.grow un dl;grind
 |j+1,hj=>by
  have ih:=A.units j (by omega);have s:=A.swap (i:=0) (j:=j+1) (by omega) hj (by omega) (Mx.grow j dl);rw[yK,Ws,<-ih,<-s];refine A.cg _ _ λ r c hr hc=>?_;unfold Mx.grow un dl sw;grind
theorem Alt.OL{n i k:Nat}{φ:Fn->Int}(A:Alt n φ)(hi:i<n)(hk:k<n)(hik:i≠k)(M:Fn)(x:Nat->Int)(t:Int):φ (upd M i λ c=>x c+t*M k c)=φ (upd M i x):=by
 rw[A.ud hi,A.oa hi M t (M k),A.alt i k (upd M i (M k)) hi hk hik λ c _=>by rw[bS,aB (Ui hik)],UZ,V6]
def zr(j m:Nat)(M:Fn):Fn:=λ r c=>if r=0 then dl j c else if r<=m/\c=j then 0 else M r c
theorem Alt.zr{n j:Nat}{φ:Fn->Int}(A:Alt (n+1) φ)(M:Fn):∀m,m<=n->φ (Mx.zr j m M)=φ (upd M 0 (dl j))
 |0,_=>A.cg _ _ λ r c hr hc=>by unfold Mx.zr upd;grind
 |m+1,hm=>by
  rw[<-A.zr M m (by omega)];have e:=A.OL (i:=m+1) (k:=0) (by omega) (by omega) (by omega) (Mx.zr j m M) (M (m+1)) (-M (m+1) j)
  have e1:φ (Mx.zr j (m+1) M)=φ (upd (Mx.zr j m M) (m+1) λ c=>M (m+1) c+ -M (m+1) j*Mx.zr j m M 0 c):=A.cg _ _ λ r c hr hc=>by
   unfold upd Mx.zr dl;by_cases h0:r=m+1
   . subst h0;by_cases h1:c=j
     . subst h1;simp;omega
     . have:¬j=c:=λ z=>h1 z.symm;simp[h1,this]
   . rw[Ub h0];grind
  have e2:φ (upd (Mx.zr j m M) (m+1) (M (m+1)))=φ (Mx.zr j m M):=A.cg _ _ λ r c hr hc=>by
   unfold upd Mx.zr;grind
  rw[e1,e,e2]
theorem Ey:∀ {n:Nat} {φ:Fn->Int},Alt n φ->∀M,φ M=φ dl*D n M
 |0,φ,A,M=>by rw[jP,Int.mul_one];exact A.cg _ _ λ r c hr=>by omega
 |n+1,φ,A,M=>by
  have h1:φ M=S (n+1) λ j=>M 0 j*φ (upd M 0 (dl j)):=by
   rw[<-A.rp (by omega) M (M 0) dl (n+1)];refine A.cg _ _ λ r c hr hc=>?_;by_cases h0:r=0
   . subst h0;rw[bS,tS hc]
   . rw[aB h0]
  have h2:∀j,j<n+1->φ (upd M 0 (dl j))=φ (Mx.grow j λ r c=>M (r+1) (sk j c)):=λ j hj=>by
   rw[<-A.zr M n (Ue _)];refine A.cg _ _ λ r c hr hc=>?_;unfold Mx.grow Mx.zr;by_cases h0:r=0
   . rw[Ud h0,Ud h0]
   . rw[Ub h0,Ub h0];by_cases h3:c=j
     . rw[Ud ⟨by omega,h3⟩,Ud h3]
     . rw[Ub (by omega),Ub h3];dsimp only;rw[Fv h3,show r-1+1=r by omega]
  rw[h1,di,<-c7];refine ay λ j hj=>?_;have h3:=Ey (A.grow hj) λ r c=>M (r+1) (sk j c);have h4:=A.units j hj;have h5:φ (Mx.grow j λ r c=>M (r+1) (sk j c))=φ (Mx.grow j dl)*D n λ r c=>M (r+1) (sk j c):=h3;rw[h2 j hj,h5,h4];grind
theorem u7:∀n,D n dl=1
 |0=>rfl
 |n+1=>by
  rw[di,nC (k:=0) (by omega) λ j hj h0=>by rw[dX (Ui h0),UZ,Wx]]
  have:D n (λ r c=>dl (r+1) (sk 0 c))=D n dl:=ba λ r c _ _=>by
   unfold dl sk;grind
  rw[this,u7 n,dO];rfl
theorem xj(n:Nat)(A B:Fn):D n (λ r c=>S n λ k=>A r k*B k c)=D n A*D n B:=by
 have al:Alt n λ A=>D n (λ r c=>S n λ k=>A r k*B k c):=by
  refine⟨λ M M' h=>ba λ r c hr hc=>ay λ k hk=>by rw[h r k hr hk],λ i M P Q a b hi h0 h=>(kK n).rq i _ _ _ a b hi (λ c hc=>?_) λ r c hr hc hne=>⟨ay λ k hk=>by rw[(h r k hr hk hne).1],ay λ k hk=>by rw[(h r k hr hk hne).2]⟩,λ i j M hi hj hij h=>(kK n).alt i j _ hi hj hij λ c hc=>ay λ k hk=>by rw[h k hk]⟩;show(S n λ k=>M i k*B k c)=a*(S n λ k=>P i k*B k c)+b*S n λ k=>Q i k*B k c;rw[<-c7,<-c7,<-jz];refine ay λ k hk=>?_;rw[h0 k hk];grind
 have h:=Ey al A;have e:D n (λ r c=>S n λ k=>dl r k*B k c)=D n B:=ba λ r c hr hc=>i6 hr λ k=>B k c;rw[h,e,Vz]
theorem GD:∀ {n:Nat} {M P Q:Fn} {a b:Int} {i:Nat},i<n->(∀r,r<n->M r i=a*P r i+b*Q r i)->(∀r c,r<n->c<n->c≠i->M r c=P r c/\M r c=Q r c)->D n M=a*D n P+b*D n Q
 |0,_,_,_,_,_,_,h,_,_=>by omega
 |n+1,M,P,Q,a,b,i,hi,h0,h=>by
  rw[di,di,di,<-c7,<-c7,<-jz];refine ay λ j hj=>?_;by_cases hij:j=i
  . subst hij;have hs:∀c,sk j c≠j:=λ c=>by unfold sk;split<;>omega
    have e1:D n (λ r c=>M (r+1) (sk j c))=D n (λ r c=>P (r+1) (sk j c)):=ba λ r c hr hc=>(h (r+1) (sk j c) (by omega) (kP hc) (hs c)).1;have e2:D n (λ r c=>M (r+1) (sk j c))=D n (λ r c=>Q (r+1) (sk j c)):=ba λ r c hr hc=>(h (r+1) (sk j c) (by omega) (kP hc) (hs c)).2;rw[h0 0 (by omega),<-e1,<-e2];grind
  . have p:=h 0 j (by omega) hj hij;have hu:sk j (un j i)=i:=Fv (Ui hij);have hs:∀c,c≠un j i->sk j c≠i:=λ c hc=>by unfold sk;unfold un at hc;grind
    have hlt:un j i<n:=xS hj hi (Ui hij)
    have e:=GD (n:=n) (M:=λ r c=>M (r+1) (sk j c)) (P:=λ r c=>P (r+1) (sk j c)) (Q:=λ r c=>Q (r+1) (sk j c)) (a:=a) (b:=b) (i:=un j i) hlt (λ r hr=>by
     rw[hu];exact h0 (r+1) (by omega)) λ r c hr hc hne=>h (r+1) (sk j c) (by omega) (kP hc) (hs c hne)
    rw[e,<-p.1,<-p.2];grind
theorem G0:∀ {n:Nat} {M:Fn} {i:Nat},i+1<n->(∀r,r<n->M r i=M r (i+1))->D n M=0
 |0,_,_,h,_=>by omega
 |n+1,M,i,hi,h=>by
  rw[di]
  have key:∀j,j<n+1->j≠i->j≠i+1->D n (λ r c=>M (r+1) (sk j c))=0:=λ j hj h1 h2=>by
   refine G0 (i:=un j i) (by unfold un;split<;>omega) λ r hr=>?_;have e1:sk j (un j i)=i:=Fv (Ui h1);have e2:sk j (un j i+1)=i+1:=by unfold sk un;grind
   rw[e1,e2];exact h (r+1) (by omega)
  have e:D n (λ r c=>M (r+1) (sk i c))=D n (λ r c=>M (r+1) (sk (i+1) c)):=ba λ r c hr hc=>by
   by_cases hc2:c=i
   . subst hc2;have a1:sk c c=c+1:=by unfold sk;rw[Ub (by omega)]
     have a2:sk (c+1) c=c:=by unfold sk;rw[Ud (by omega)]
     rw[a1,a2];exact(h (r+1) (by omega)).symm
   . have a1:sk i c=sk (i+1) c:=by unfold sk;grind
     rw[a1]
  have two:∀(m:Nat) (f:Nat->Int),i+1<m->(∀j,j<m->j≠i->j≠i+1->f j=0)->S m f=f i+f (i+1):=λ m=>by
   induction m with
   |zero=>intro f h;omega
   |succ m ih=>
    intro f hm hf;show S m f+f m=_;by_cases hmi:m=i+1
    . subst hmi;rw[nC (k:=i) (by omega) λ j hj hne=>hf j (by omega) hne (by omega)]
    . rw[ih f (by omega) λ j hj h1 h2=>hf j (by omega) h1 h2,hf m (by omega) (by omega) hmi,V6]
  rw[two (n+1) _ hi λ j hj h1 h2=>by rw[key j hj h1 h2,UZ],e,yK,h 0 (by omega)];grind
def tr(M:Fn):Fn:=λ r c=>M c r
theorem oo(n:Nat)(M:Fn):D n (tr M)=D n M:=by
 have al:Alt n λ A=>D n (tr A):=xT (λ M M' h=>ba λ r c hr hc=>h c r hc hr)
  (λ i M P Q a b hi h0 h=>GD hi (λ r hr=>h0 r hr) λ r c hr hc hne=>h c r hc hr hne)
  λ i M hi h=>G0 hi λ r hr=>h r hr
 have h:=Ey al M;have e:D n (tr dl)=D n dl:=ba λ r c _ _=>pq c r;have h2:D n (tr M)=D n (tr dl)*D n M:=h;rw[h2,e,u7,VQ]
def Pr:Nat->(Nat->Int)->Int
 |0,_=>1
 |n+1,f=>Pr n f*f n
theorem Ec:∀(n:Nat) (f:Nat->Int),Pr (n+1) f=f 0*Pr n λ i=>f (i+1)
 |0,f=>by show 1*f 0=f 0*1;omega
 |n+1,f=>by
  have:Pr (n+1+1) f=Pr (n+1) f*f (n+1):=rfl;rw[this,Ec n f];have:Pr (n+1) (λ i=>f (i+1))=Pr n (λ i=>f (i+1))*f (n+1):=rfl;rw[this,Vx]
theorem Ke:∀ {n:Nat} {M:Fn},(∀r c,r<n->c<n->r<c->M r c=0)->D n M=Pr n λ i=>M i i
 |0,_,_=>rfl
 |n+1,M,h=>by
  rw[di,nC (k:=0) (by omega) λ j hj h0=>by rw[h 0 j (by omega) hj (by omega),UZ,Wx],Ec,vc,VQ];have s:∀c,sk 0 c=c+1:=λ c=>by unfold sk;rw[Ub (by omega)]
  have e:D n (λ r c=>M (r+1) (sk 0 c))=Pr n λ i=>M (i+1) (i+1):=by
   rw[Ke λ r c hr hc hrc=>by rw[s];exact h (r+1) (c+1) (by omega) (by omega) (by omega)];simp only[s]
  rw[e]
theorem SQ{n:Nat}{M:Fn}(h:∀r c,r<n->c<n->c<r->M r c=0):D n M=Pr n λ i=>M i i:=by
 rw[<-oo n M,Ke (M:=tr M) λ r c hr hc hrc=>h c r hc hr hrc];rfl
theorem uo:∀ {n:Nat} {M:Fn},(∀c,c<n+1->M n c=dl n c)->D (n+1) M=D n M
 |0,M,h=>by
  rw[di];show 0+sg 0*M 0 0*D 0 _=1;rw[h 0 (by omega),dO,vc,jP];omega
 |n+1,M,h=>by
  have e1:∀j,j<n+1->D (n+1) (λ r c=>M (r+1) (sk j c))=D n (λ r c=>M (r+1) (sk j c)):=λ j hj=>uo λ c hc=>by
   rw[h (sk j c) (kP hc)];unfold dl sk;grind
  have e2:D (n+1) (λ r c=>M (r+1) (sk (n+1) c))=0:=(kK (n+1)).Oz (i:=n) (by omega) λ c hc=>by
   have s:sk (n+1) c=c:=by unfold sk;rw[Ud (by omega)]
   rw[s,h c (by omega),dX (by omega)]
  have e3:D (n+1+1) M=(S (n+1) λ j=>sg j*M 0 j*D (n+1) λ r c=>M (r+1) (sk j c))+sg (n+1)*M 0 (n+1)*D (n+1) (λ r c=>M (r+1) (sk (n+1) c)):=di (n+1) M;rw[e3,e2,UZ,V6,di];exact ay λ j hj=>by rw[e1 j hj]
theorem pF{M:Fn}{i j:Nat}{x y:Nat->Int}(h:i≠j):upd (upd M i x) j y=upd (upd M j y) i x:=by
 funext r c;unfold upd;grind
def gx(R:Fn)(p:Nat)(x:Nat->Int)(j:Nat):Int:=D (p+1) λ r c=>if r<p then R r (if c<p then c else j)else x (if c<p then c else j)
theorem Ct{R:Fn}{p j:Nat}{x:Nat->Int}(h:j<p):gx R p x j=0:=by
 unfold gx;rw[<-oo];refine(kK (p+1)).alt j p _ (by omega) (by omega) (by omega) λ c hc=>?_;unfold tr;dsimp only;rw[Ud h,Ub (U0 p)]
def bt(R:Fn)(p:Nat)(x:Nat->Int)(k:Nat):Int:=D (p+1) (upd (λ c r=>if r<p then R r c else x c) p (dl k))
theorem Fz(R:Fn)(p:Nat)(x:Nat->Int)(j:Nat):gx R p x j=D p R*x j+S p λ k=>bt R p x k*R k j:=by
 have e1:gx R p x j=D (p+1) (upd (λ c r=>if r<p then R r c else x c) p λ r=>S (p+1) λ k=>(if k<p then R k j else x j)*dl k r):=by
  unfold gx;rw[<-oo];refine ba λ c r hc hr=>?_;unfold tr upd;by_cases h:c=p
  . subst h;rw[Ud rfl];dsimp only;rw[tS hr,Ub (U0 _)]
  . rw[Ub h];dsimp only;rw[Ud (show c<p by omega)]
 rw[e1,(kK (p+1)).rp (by omega)]
 have e2:D (p+1) (upd (λ c r=>if r<p then R r c else x c) p (dl p))=D p R:=by
  rw[uo λ c _=>bS _ _ _ _];rw[<-oo];refine ba λ r c hr hc=>?_;unfold tr;rw[aB (by omega),Ud (by omega)]
 have e3:(S (p+1) λ k=>(if k<p then R k j else x j)*D (p+1) (upd (λ c r=>if r<p then R r c else x c) p (dl k)))=(S p λ k=>(if k<p then R k j else x j)*D (p+1) (upd (λ c r=>if r<p then R r c else x c) p (dl k)))+(if p<p then R p j else x j)*D (p+1) (upd (λ c r=>if r<p then R r c else x c) p (dl p)):=rfl;rw[e3,e2,Ub (U0 p),Int.add_comm,Vz];congr 1;refine ay λ k hk=>?_;rw[Ud hk,Vz];rfl
def cl(p j1 j2 c:Nat):Nat:=if c<p then c else if c=p then j1 else j2
def gy(R:Fn)(p:Nat)(x y:Nat->Int)(j1 j2:Nat):Int:=D (p+2) (upd (upd (λ r c=>R r (cl p j1 j2 c)) p λ c=>x (cl p j1 j2 c)) (p+1) λ c=>y (cl p j1 j2 c))
theorem Rj{R:Fn}{p j1 j2:Nat}{x y:Nat->Int}(hd:D p R≠0):gx R p x j1*gx R p y j2-gx R p y j1*gx R p x j2=D p R*gy R p x y j1 j2:=by
 have A:=kK (p+2)
 let B:Fn:=λ r c=>R r (cl p j1 j2 c)
 let ps:(Nat->Int)->(Nat->Int)->Int:=λ u v=>D (p+2) (upd (upd B p u) (p+1) v)
 have s1:∀u,ps u (λ c=>gx R p y (cl p j1 j2 c))=D p R*ps u λ c=>y (cl p j1 j2 c):=λ u=>by
  have e:(λ c=>gx R p y (cl p j1 j2 c))=λ c=>(λ c=>D p R*y (cl p j1 j2 c)) c+S p λ k=>bt R p y k*upd B p u k c:=by
   funext c;rw[Fz];congr 1;refine ay λ k hk=>?_;rw[aB (by omega)]
  show D (p+2) (upd (upd B p u) (p+1) λ c=>gx R p y (cl p j1 j2 c))=_;rw[e,A.more (i:=p+1) (by omega) (upd B p u) (λ c=>D p R*y (cl p j1 j2 c)) (bt R p y) p (by omega) (by omega),A.oa (by omega)]
 have s2:∀v,ps (λ c=>gx R p x (cl p j1 j2 c)) v=D p R*ps (λ c=>x (cl p j1 j2 c)) v:=λ v=>by
  have e:(λ c=>gx R p x (cl p j1 j2 c))=λ c=>(λ c=>D p R*x (cl p j1 j2 c)) c+S p λ k=>bt R p x k*upd B (p+1) v k c:=by
   funext c;rw[Fz];congr 1;refine ay λ k hk=>?_;rw[aB (by omega)]
  show D (p+2) (upd (upd B p λ c=>gx R p x (cl p j1 j2 c)) (p+1) v)=D p R*D (p+2) (upd (upd B p λ c=>x (cl p j1 j2 c)) (p+1) v);rw[pF (by omega),e,A.more (i:=p) (by omega) (upd B (p+1) v) (λ c=>D p R*x (cl p j1 j2 c)) (bt R p x) p (by omega) (by omega),A.oa (by omega),pF (by omega)]
 have lhs:ps (λ c=>gx R p x (cl p j1 j2 c)) (λ c=>gx R p y (cl p j1 j2 c))=D p R*(D p R*gy R p x y j1 j2):=by
  rw[s1,s2];rfl
 have two:∀z:Nat->Int,∀c,c<p+2->gx R p z (cl p j1 j2 c)=gx R p z j1*dl p c+gx R p z j2*dl (p+1) c:=λ z c hc=>by
  unfold cl;by_cases h1:c<p
  . rw[Ud h1,Ct h1,dX (by omega),dX (by omega)];omega
  . rw[Ub h1];by_cases h2:c=p
    . rw[Ud h2,h2,dO,dX (by omega)];omega
    . rw[Ub h2,show c=p+1 by omega,dO,dX (by omega)];omega
 have lin2:∀u a b,ps u (λ c=>a*dl p c+b*dl (p+1) c)=a*ps u (dl p)+b*ps u (dl (p+1)):=λ u a b=>by
  show D (p+2) (upd (upd B p u) (p+1) λ c=>a*dl p c+b*dl (p+1) c)=_;rw[A.ud (by omega),A.oa (by omega),A.oa (by omega)]
 have lin1:∀v a b,ps (λ c=>a*dl p c+b*dl (p+1) c) v=a*ps (dl p) v+b*ps (dl (p+1)) v:=λ v a b=>by
  show D (p+2) (upd (upd B p λ c=>a*dl p c+b*dl (p+1) c) (p+1) v)=a*D (p+2) (upd (upd B p (dl p)) (p+1) v)+b*D (p+2) (upd (upd B p (dl (p+1))) (p+1) v);rw[pF (by omega),A.ud (by omega),A.oa (by omega),A.oa (by omega),pF (by omega),pF (show p+1≠p by omega)]
 have z1:∀u,ps u u=0:=λ u=>A.alt p (p+1) _ (by omega) (by omega) (by omega) λ c _=>by rw[aB (by omega),bS,bS]
 have z2:ps (dl (p+1)) (dl p)= -ps (dl p) (dl (p+1)):=by
  have h:=A.swap (i:=p) (j:=p+1) (by omega) (by omega) (by omega) (upd (upd B p (dl p)) (p+1) (dl (p+1)));rw[<-h];refine ba λ r c hr hc=>?_;unfold upd sw;grind
 have z3:ps (dl p) (dl (p+1))=D p R:=by
  show D (p+2) (upd (upd B p (dl p)) (p+1) (dl (p+1)))=_;rw[uo λ c _=>bS _ _ _ _];have e:D (p+1) (upd (upd B p (dl p)) (p+1) (dl (p+1)))=D (p+1) (upd B p (dl p)):=ba λ r c hr hc=>aB (by omega) c;rw[e,uo λ c _=>bS _ _ _ _];refine ba λ r c hr hc=>?_;rw[aB (by omega)];show R r (cl p j1 j2 c)=R r c;unfold cl;rw[Ud hc]
 have rhs:ps (λ c=>gx R p x (cl p j1 j2 c)) (λ c=>gx R p y (cl p j1 j2 c))=D p R*(gx R p x j1*gx R p y j2-gx R p y j1*gx R p x j2):=by
  have e:ps (λ c=>gx R p x (cl p j1 j2 c)) (λ c=>gx R p y (cl p j1 j2 c))=ps (λ c=>gx R p x j1*dl p c+gx R p x j2*dl (p+1) c) (λ c=>gx R p y j1*dl p c+gx R p y j2*dl (p+1) c):=ba λ r c hr hc=>by
   unfold upd;by_cases h1:r=p+1
   . rw[Ud h1,Ud h1];exact two y c hc
   . rw[Ub h1,Ub h1];by_cases h2:r=p
     . rw[Ud h2,Ud h2];exact two x c hc
     . rw[Ub h2,Ub h2]
  rw[e,lin1,lin2,lin2,z1,z1,z2,z3];grind
 have:=lhs.symm.trans rhs;exact(Ym hd this).symm
theorem Aq{n:Nat}{f:Nat->Int}{m:Nat}(h:∀i,i<n->(f i).natAbs<=m):(S n f).natAbs<=n*m:=by
 induction n with
 |zero=>simp[S]
 |succ n ih=>
  have h1:=ih λ i hi=>h i (by omega);have h2:=h n (by omega);show(S n f+f n).natAbs<=_;rw[Y4];omega
theorem vb{m:Nat}:∀ {n:Nat} {M:Fn},n<=8->(∀r c,r<n->c<n->(M r c).natAbs<=m)->(D n M).natAbs<=(8*m)^n
 |0,_,_,_=>by simp[D]
 |n+1,M,hn,h=>by
  rw[di]
  have key:∀j,j<n+1->(sg j*M 0 j*D n λ r c=>M (r+1) (sk j c)).natAbs<=m*(8*m)^n:=λ j hj=>by
   have a:=vb (n:=n) (M:=λ r c=>M (r+1) (sk j c)) (by omega) λ r c hr hc=>h (r+1) (sk j c) (by omega) (kP hc);have b:=h 0 j (by omega) hj;have s:(sg j).natAbs=1:=by unfold sg;split<;>rfl
   rw[U8,U8,s,Wt];exact Vd b a
  have e:=Aq key;refine Uj e ?_;rw[Wj,Wi ((8*m)^n),WB];have:(n+1)*(m*(8*m)^n)<=8*(m*(8*m)^n):=Vf _ hn;exact this
theorem mH(R:Fn)(x:Nat->Int)(j:Nat):gx R 0 x j=x j:=by
 unfold gx;rw[di];show 0+sg 0*_*D 0 _=_;rw[vc,jP,Ub (by omega),Ub (by omega)];omega
theorem pv(R:Fn)(p:Nat):gx R p (R p) p=D (p+1) R:=ba λ r c hr hc=>by
 have e2:(if c<p then c else p)=c:=by split<;>omega
 rw[e2];split
 . rfl
 . have:r=p:=by omega
   rw[this]
theorem Rh(R:Fn)(p:Nat)(y:Nat->Int)(j:Nat):gy R p (R p) y p j=gx R (p+1) y j:=by
 unfold gy gx;refine ba λ r c hr hc=>?_;have ec:cl p p j c=if c<p+1 then c else j:=by unfold cl;grind
 unfold upd;dsimp only;rw[ec];by_cases a1:r=p+1
 . rw[Ud a1,Ub (show¬r<p+1 by omega)]
 . rw[Ub a1,Ud (show r<p+1 by omega)];by_cases a2:r=p
   . rw[Ud a2,a2]
   . rw[Ub a2]
theorem ll{R:Fn}{p:Nat}(hd:D p R≠0)(y:Nat->Int)(j:Nat):D (p+1) R*gx R p y j-gx R p y p*gx R p (R p) j=D p R*gx R (p+1) y j:=by
 rw[<-Rh,<-Rj hd,pv]
theorem nS{G:Fn}(sym:∀i j,G i j=G j i)(p k j:Nat):gx G p (G k) j=gx G p (G j) k:=by
 unfold gx;rw[<-oo];refine ba λ r c hr hc=>?_;unfold tr;by_cases h1:c<p
 . by_cases h2:r<p
   . simp only[Ud h1,Ud h2];exact sym _ _
   . simp only[Ud h1,Ub h2];exact sym _ _
 . by_cases h2:r<p
   . simp only[Ub h1,Ud h2];exact sym _ _
   . simp only[Ub h1,Ub h2];exact sym _ _
theorem G_{G:Fn}{n m p i j:Nat}(hn:n<=8)(hb:∀r c,r<n->c<n->(G r c).natAbs<=m)(hp:p<n)(hi:i<n)(hj:j<n):(gx G p (G i) j).natAbs<=(8*m)^(p+1):=
 vb (by omega) λ r c hr hc=>by
  split
  . exact hb _ _ (by omega) (by split<;>omega)
  . exact hb _ _ hi (by split<;>omega)
def lam(G:Fn)(i j:Nat):Int:=gx G j (G i) j
theorem dS(G:Fn)(i:Nat):lam G i i=D (i+1) G:=pv G i
theorem AW{G:Fn}(sym:∀i j,G i j=G j i){k:Nat}(hd:D k G≠0)(i j:Nat):(D (k+1) G*gx G k (G i) j-lam G i k*lam G j k).fdiv (D k G)=gx G (k+1) (G i) j:=by
 have h:=ll hd (G i) j;rw[nS sym k k j]at h;unfold lam;rw[h,Yw _ hd]
def af(A:Rows):Fn:=λ i j=>iz (A.getD i []) (A.getD j [])
theorem BD:∀a b:Row,iz a b=iz b a
 | [],[]=>rfl
 | [],_::_=>rfl
 |_::_,[]=>rfl
 |a::as,b::bs=>by
  unfold iz;rw[BD as bs,Vz]
theorem jM(A:Rows)(i j:Nat):af A i j=af A j i:=BD _ _
def a8(G:Fn)(i:Nat):Row:=(List.range (i+1)).map λ j=>lam G i j
def qT(G:Fn)(n:Nat):Rows:=(List.range n).map (a8 G)
theorem fx(G:Fn)(i:Nat):(a8 G i).length=i+1:=by unfold a8;simp
theorem kY(G:Fn){i j:Nat}(h:j<=i):(a8 G i).getD j 0=lam G i j:=by
 unfold a8;rw[aK (by simp;omega),Vv,Vu]
theorem CN(G:Fn)(n:Nat):(qT G n).length=n:=by unfold qT;simp
theorem D0(G:Fn){n i:Nat}(h:i<n):(qT G n).getD i []=a8 G i:=by
 unfold qT;rw[aK (by simpa using h),Vv,Vu]
def RA(A:Rows)(N:Nat):Fn:=λ i j=>if j<N then af A i j else(A.getD i []).getD (j-N) 0
def ev(A:Rows)(N i k c:Nat):Int:=gx (RA A N) k (RA A N i) (N+c)
theorem J6{A:Rows}{N k:Nat}(hk:k<=N):D k (RA A N)=D k (af A):=ba λ r c hr hc=>Ud (by omega)
theorem QK{A:Rows}{N k i j:Nat}(hk:k<=N)(hj:j<N):gx (RA A N) k (RA A N i) j=gx (af A) k (af A i) j:=ba λ r c hr hc=>by
 have h:(if c<k then c else j)<N:=by split<;>omega
 unfold RA;rw[Ud h,Ud h]
theorem yA(A:Rows)(N i c:Nat):ev A N i 0 c=(A.getD i []).getD c 0:=by
 unfold ev;rw[mH];unfold RA;rw[Ub (by omega)];congr 1;omega
theorem yp{A:Rows}{N k:Nat}(hk:k<N)(hd:D k (af A)≠0)(i c:Nat):D k (af A)*ev A N i (k+1) c=D (k+1) (af A)*ev A N i k c-lam (af A) i k*ev A N k k c:=by
 have h:=ll (R:=RA A N) (p:=k) (by rw[J6 (by omega)];exact hd) (RA A N i) (N+c);rw[J6 (by omega),J6 (by omega),QK (by omega) hk]at h;unfold ev lam;omega
theorem kH(n:Nat)(a b:Int)(f g:Nat->Int):S n (λ c=>a*f c-b*g c)=a*S n f-b*S n g:=by
 induction n with
 |zero=>show(0:Int)=a*0-b*0;omega
 |succ n ih=>
  show S n (λ c=>a*f c-b*g c)+(a*f n-b*g n)=a*(S n f+f n)-b*(S n g+g n);rw[ih,YH,YH];omega
theorem cancel{a x y:Int}(ha:a≠0)(h:a*x=a*y):x=y:=Ym ha h
section
variable {A:Rows}{N w:Nat}
theorem uC(hA:bh N w A)(hD:∀k,k<=N->D k (af A)≠0){m:Nat}(hm:m<N):∀(k i:Nat),k<=N->i<N->S w (λ c=>ev A N i k c*(A.getD m []).getD c 0)=gx (af A) k (af A i) m
 |0,i,_,hi=>by
  rw[mH];have hl:=hA.len;have e1:(A.getD i []).length=w:=hA.gc _ (by rw[aK (by omega)];exact Vp _);have e2:(A.getD m []).length=w:=hA.gc _ (by rw[aK (by omega)];exact Vp _);unfold af;rw[nH (by rw[e1,e2]),e2];refine ay λ c hc=>?_;rw[yA]
 |k+1,i,hk,hi=>by
  have hd:=hD k (by omega);refine cancel hd ?_;rw[<-c7,<-ll hd (af A i) m]
  have e:S w (λ c=>D k (af A)*(ev A N i (k+1) c*(A.getD m []).getD c 0))=S w λ c=>D (k+1) (af A)*(ev A N i k c*(A.getD m []).getD c 0)-lam (af A) i k*(ev A N k k c*(A.getD m []).getD c 0):=ay λ c hc=>by
   rw[<-Vx,yp (by omega) hd,Int.sub_mul,Vx,Vx]
  rw[e,kH,uC hA hD hm k i (by omega) hi,uC hA hD hm k k (by omega) (by omega)];rfl
theorem yn(hA:bh N w A)(hD:∀k,k<=N->D k (af A)≠0){i:Nat}(hi:i<N):∀(k j:Nat),k<=j->j<i->S w (λ c=>ev A N i i c*ev A N j k c)=0
 |0,j,_,hj=>by
  have:=uC hA hD (m:=j) (by omega) i i (by omega) hi;rw[Ct hj]at this;rw[<-this];exact ay λ c hc=>by rw[yA]
 |k+1,j,hk,hj=>by
  have hd:=hD k (by omega);refine cancel hd ?_;rw[<-c7]
  have e:S w (λ c=>D k (af A)*(ev A N i i c*ev A N j (k+1) c))=S w λ c=>D (k+1) (af A)*(ev A N i i c*ev A N j k c)-lam (af A) j k*(ev A N i i c*ev A N k k c):=ay λ c hc=>by
   rw[Wb,yp (by omega) hd,Int.mul_sub,Wb,Wb (ev A N i i c)]
  rw[e,kH,yn hA hD hi k j (by omega) hj,yn hA hD hi k k (Ue _) (by omega)];simp
theorem uw(hA:bh N w A)(hD:∀k,k<=N->D k (af A)≠0){i:Nat}(hi:i<N):∀k,k<=i->S w (λ c=>ev A N i i c*ev A N i k c)=D k (af A)*D (i+1) (af A)
 |0,_=>by
  have:=uC hA hD (m:=i) hi i i (by omega) hi;rw[pv]at this;rw[jP,VQ,<-this];exact ay λ c hc=>by rw[yA]
 |k+1,hk=>by
  have hd:=hD k (by omega);refine cancel hd ?_;rw[<-c7]
  have e:S w (λ c=>D k (af A)*(ev A N i i c*ev A N i (k+1) c))=S w λ c=>D (k+1) (af A)*(ev A N i i c*ev A N i k c)-lam (af A) i k*(ev A N i i c*ev A N k k c):=ay λ c hc=>by
   rw[Wb,yp (by omega) hd,Int.mul_sub,Wb,Wb (ev A N i i c)]
  rw[e,kH,uw hA hD hi k (by omega),yn hA hD hi k k (Ue _) (by omega),UZ,V7,Wb]
end
theorem p_{n:Nat}{f:Nat->Int}(h:∀i,i<n->0<=f i):0<=S n f:=by
 induction n with
 |zero=>exact Xi _
 |succ n ih=>exact YR (ih λ i hi=>h i (by omega)) (h n (by omega))
theorem sq_nonneg(x:Int):0<=x*x:=by
 rcases Int.le_total 0 x with h|h
 . exact WN h h
 . exact Xg h h
theorem mh{A:Rows}{N w:Nat}(hA:bh N w A)(hD:∀k,k<=N->D k (af A)≠0):∀k,k<=N->0<D k (af A)
 |0,_=>by rw[jP];decide
 |k+1,hk=>by
  have ih:=mh hA hD k (by omega);have h:=uw hA hD (i:=k) (by omega) k (Ue _);have h2:0<=D k (af A)*D (k+1) (af A):=by rw[<-h];exact p_ λ i _=>sq_nonneg _
  have h3:=Int.nonneg_of_mul_nonneg_right h2 ih;have h4:=hD (k+1) hk;omega
structure Sh(G:Fn)(N:Nat):Prop where
 half:∀i j,j<i->i<N->2*(((lam G i j).natAbs:Nat):Int)<=D (j+1) G
 O6:∀i,0<i->i<N->¬4*D (i+1) G*D (i-1) G<3*D i G*D i G-4*lam G i (i-1)*lam G i (i-1)
def rO(M:Fn)(k j:Nat)(q:Int):Fn:=λ a b=>if a=k then M a b-q*M j b else M a b
def tH(M:Fn)(k j:Nat)(q:Int):Fn:=λ a b=>if b=k then M a b-q*M a j else M a b
def tk(G:Fn)(k j:Nat)(q:Int):Fn:=tH (rO G k j q) k j q
theorem Kk{n k j:Nat}(M:Fn)(q:Int)(hk:k<n)(hj:j<n)(h:k≠j):D n (rO M k j q)=D n M:=by
 have e:=(kK n).OL hk hj h M (M k) (-q)
 have e1:D n (upd M k λ c=>M k c+ -q*M j c)=D n (rO M k j q):=ba λ r c _ _=>by
  unfold upd rO;by_cases hr:r=k
  . rw[Ud hr,Ud hr,hr];dsimp only;rw[Ws];omega
  . rw[Ub hr,Ub hr]
 have e2:D n (upd M k (M k))=D n M:=ba λ r c _ _=>by
  unfold upd;by_cases hr:r=k
  . rw[Ud hr,hr]
  . rw[Ub hr]
 rw[<-e1,e,e2]
theorem KD{n k j:Nat}(M:Fn)(q:Int)(hk:k<n)(hj:j<n)(h:k≠j):D n (tH M k j q)=D n M:=by
 rw[<-oo n M,<-Kk (tr M) q hk hj h,<-oo n (tH M k j q)];exact ba λ r c _ _=>rfl
theorem gw(G:Fn)(i p:Nat):lam G i p=D (p+1) λ r c=>G (if r<p then r else i) c:=ba λ r c hr hc=>by
 have e:(if c<p then c else p)=c:=by split<;>omega
 rw[e];split<;>rfl
theorem Pn{G:Fn}{p j c:Nat}(h:j<p):gx G p (G j) c=0:=by
 unfold gx;refine(kK (p+1)).alt j p _ (by omega) (by omega) (by omega) λ c' hc'=>?_;rw[Ud h,Ub (U0 p)]
theorem ya{G:Fn}{j p:Nat}(h:j<p):lam G j p=0:=Pn h
theorem P7{G:Fn}{k j i p:Nat}{q:Int}(hj:j<k)(hp:p<=i):lam (tk G k j q) i p=lam G i p-if i=k then q*lam G j p else 0:=by
 by_cases h1:p<k
 . by_cases hi:i=k
   . rw[Ud hi,gw,gw,gw]
     have e:=Ew (n:=p+1) (M:=λ r c=>tk G k j q (if r<p then r else i) c) (P:=λ r c=>G (if r<p then r else i) c) (Q:=λ r c=>G (if r<p then r else j) c) (a:=1) (b:= -q) (i:=p) (by omega) (λ c hc=>by
      try dsimp only
      rw[Ub (U0 p)];rw[Ub (U0 p)];unfold tk tH rO;rw[Ub (by omega),Ud hi,hi,Ws];omega) (λ r c hr hc hne=>by
      try dsimp only
      have hrp:r<p:=by omega
      rw[Ud hrp,Ud hrp];unfold tk tH rO;rw[Ub (by omega),Ub (by omega)];exact⟨rfl,rfl⟩)
     rw[e,VQ,Ws];omega
   . rw[Ub hi,V7,gw,gw];refine ba λ r c hr hc=>?_;unfold tk tH rO;rw[Ub (by omega),Ub (by split<;>omega)]
 . have e0:(if i=k then q*lam G j p else 0)=0:=by
    split
    . rw[ya (by omega),UZ]
    . rfl
   rw[e0,V7,gw,gw];by_cases h2:k<p\/i=k
   ·
    have hkk:∀r,r<p+1->((if r<p then r else i)=k↔r=if k<p then k else p):=λ r hr=>by
     by_cases hkp:k<p
     . rw[Ud hkp];split<;>omega
     . rw[Ub hkp];split<;>omega
    have hk':(if k<p then k else p)=k:=by split<;>omega
    rw[<-Kk (λ r c=>G (if r<p then r else i) c) q (show k<p+1 by omega) (show j<p+1 by omega) (by omega),<-KD (rO (λ r c=>G (if r<p then r else i) c) k j q) q (show k<p+1 by omega) (show j<p+1 by omega) (by omega)];refine ba λ r c hr hc=>?_;have hrk:=hkk r hr;rw[hk']at hrk;have hjj:(if j<p then j else i)=j:=Ud (by omega);unfold tk tH rO;by_cases hr2:r=k
    . subst hr2;have:=hrk.mpr rfl;simp only[this,Wm,hjj]
    . have hne:¬(if r<p then r else i)=k:=λ z=>hr2 (hrk.mp z);simp only[Ub hne,Ub hr2]
   . have hpk:p=k:=by omega
     have hik:i≠k:=by omega
     rw[<-KD (λ r c=>G (if r<p then r else i) c) q (show k<p+1 by omega) (show j<p+1 by omega) (by omega)];refine ba λ r c hr hc=>?_;have hne:¬(if r<p then r else i)=k:=by split<;>omega
     unfold tk tH rO;simp only[Ub hne]
def cw(G:Fn)(t:Nat):Fn:=λ a b=>G (sw t (t+1) a) (sw t (t+1) b)
theorem A8(t:Nat):sw t (t+1) t=t+1:=Ud rfl
theorem Fj(t:Nat):sw t (t+1) (t+1)=t:=by unfold sw;rw[Ub (by omega),Ud rfl]
theorem jL{t a:Nat}(h1:a≠t)(h2:a≠t+1):sw t (t+1) a=a:=by unfold sw;rw[Ub h1,Ub h2]
theorem KW{n i j:Nat}(hi:i<n)(hj:j<n)(h:i≠j)(M:Fn):D n (λ r c=>M (sw i j r) c)= -D n M:=(kK n).swap hi hj h M
theorem QJ{n i j:Nat}(hi:i<n)(hj:j<n)(h:i≠j)(M:Fn):D n (λ r c=>M r (sw i j c))= -D n M:=by
 rw[<-oo n M,<-KW hi hj h (tr M),<-oo];exact ba λ r c _ _=>rfl
theorem ON{n t:Nat}(h:t+1<n)(M:Fn):D n (λ r c=>M (sw t (t+1) r) (sw t (t+1) c))=D n M:=by
 have e1:=KW (n:=n) (i:=t) (j:=t+1) (by omega) h (by omega) λ r c=>M r (sw t (t+1) c);have e2:=QJ (n:=n) (i:=t) (j:=t+1) (by omega) h (by omega) M;rw[e1,e2];omega
theorem oW{G:Fn}{t p:Nat}(h:p≠t+1):D p (cw G t)=D p G:=by
 by_cases h1:p<=t
 . refine ba λ r c hr hc=>?_;unfold cw;rw[jL (by omega) (by omega),jL (by omega) (by omega)]
 . exact ON (by omega) G
theorem mP{G:Fn}{t i p:Nat}(h:p<t):lam (cw G t) i p=lam G (sw t (t+1) i) p:=by
 rw[gw,gw];refine ba λ r c hr hc=>?_;unfold cw;rw[jL (a:=c) (by omega) (by omega)];by_cases hr2:r<p
 . rw[Ud hr2,Ud hr2,jL (by omega) (by omega)]
 . rw[Ub hr2,Ub hr2]
theorem Ir{G:Fn}{t i p:Nat}(h:t+1<p)(hi:p<=i):lam (cw G t) i p=lam G i p:=by
 rw[gw,gw,<-ON (n:=p+1) (t:=t) (by omega) (λ r c=>G (if r<p then r else i) c)];refine ba λ r c hr hc=>?_;unfold cw;by_cases hr2:r<p
 . have:sw t (t+1) r<p:=by
    unfold sw;by_cases h1:r=t
    . rw[Ud h1];omega
    . rw[Ub h1];by_cases h2:r=t+1
      . rw[Ud h2];omega
      . rw[Ub h2];exact hr2
   rw[Ud hr2,Ud this]
 . have e:r=p:=by omega
   rw[Ub hr2,e,jL (a:=p) (by omega) (by omega),Ub (U0 p),jL (a:=i) (by omega) (by omega)]
theorem wK{G:Fn}{t i:Nat}:lam (cw G t) i t=gx G t (G (sw t (t+1) i)) (t+1):=by
 unfold lam gx;refine ba λ r c hr hc=>?_
 have ec:sw t (t+1) (if c<t then c else t)=if c<t then c else t+1:=by
  by_cases h:c<t
  . rw[Ud h,Ud h,jL (by omega) (by omega)]
  . rw[Ub h,Ub h,A8]
 unfold cw;rw[ec];by_cases hr2:r<t
 . rw[Ud hr2,Ud hr2,jL (by omega) (by omega)]
 . rw[Ub hr2,Ub hr2]
section
variable {G:Fn}{t:Nat}(sym:∀i j,G i j=G j i)
include sym
theorem MD:∀i j,cw G t i j=cw G t j i:=λ i j=>sym _ _
theorem BM:lam (cw G t) (t+1) t=lam G (t+1) t:=by
 rw[wK,Fj,nS sym];rfl
theorem rR(hd:D t G≠0):D (t+1) G*lam (cw G t) t t=D t G*D (t+2) G+lam G (t+1) t*lam G (t+1) t:=by
 have h:=ll hd (G (t+1)) (t+1);rw[pv,nS sym t t (t+1)]at h;rw[wK,A8];unfold lam;rw[show t+1+1=t+2 from rfl]at h;omega
theorem NO:lam (cw G t) (t+1) (t+1)=lam G (t+1) (t+1):=by
 rw[dS,dS];exact oW (by omega)
theorem Gq(hd:D t G≠0){i:Nat}(hi:t+1<i):D (t+1) G*lam (cw G t) i t=D t G*lam G i (t+1)+lam G (t+1) t*lam G i t:=by
 have h:=ll hd (G i) (t+1);rw[nS sym t t (t+1)]at h;rw[wK,jL (by omega) (by omega)];unfold lam;have e:gx G t (G i) t*gx G t (G (t+1)) t=gx G t (G (t+1)) t*gx G t (G i) t:=Vz _ _;omega
theorem K4(hd:D t G≠0)(hd1:D (t+1) G≠0){i:Nat}(hi:t+1<i):D (t+1) G*lam (cw G t) i (t+1)=D (t+2) G*lam G i t-lam G (t+1) t*lam G i (t+1):=by
 have hd':D t (cw G t)≠0:=by rw[oW (by omega)];exact hd
 have h:=ll hd' (cw G t i) (t+1)
 have e1:gx (cw G t) t (cw G t i) (t+1)=lam G i t:=by
  unfold lam gx;refine ba λ r c hr hc=>?_
  have ec:sw t (t+1) (if c<t then c else t+1)=if c<t then c else t:=by
   by_cases h:c<t
   . rw[Ud h,Ud h,jL (by omega) (by omega)]
   . rw[Ub h,Ub h,Fj]
  unfold cw;rw[ec];by_cases hr2:r<t
  . rw[Ud hr2,Ud hr2,jL (by omega) (by omega)]
  . rw[Ub hr2,Ub hr2,jL (by omega) (by omega)]
 have e2:gx (cw G t) t (cw G t i) t=lam (cw G t) i t:=rfl
 have e3:gx (cw G t) t (cw G t t) (t+1)=lam G (t+1) t:=by
  rw[nS (MD sym)];exact BM sym
 have e4:gx (cw G t) (t+1) (cw G t i) (t+1)=lam (cw G t) i (t+1):=rfl;have e5:D (t+1) (cw G t)=lam (cw G t) t t:=(dS _ _).symm;rw[e1,e2,e3,e4,e5,oW (by omega)]at h;have m:=rR (t:=t) sym hd;have l:=Gq sym hd hi;refine cancel hd ?_;grind
theorem Nm(hd:D t G≠0)(hd1:D (t+1) G≠0){i:Nat}(hi:t+1<i):D (t+2) G*lam (cw G t) i t=lam (cw G t) t t*lam G i (t+1)+lam G (t+1) t*lam (cw G t) i (t+1):=by
 have m:=rR (t:=t) sym hd;have l:=Gq sym hd hi;have u:=K4 sym hd hd1 hi;refine cancel hd1 ?_;grind
end
theorem Mr{a b c x y:Int}(ha:0<=a)(hb:0<=b)(h:c*c<=a*b):2*(c*(x*y))<=a*(y*y)+b*(x*x):=by
 by_cases h0:a=0
 . subst h0
   have hc:c=0:=by
    have h1:=sq_nonneg c;have h2:c*c=0:=by omega
    rcases Int.mul_eq_zero.mp h2 with h|h<;>exact h
   subst hc;have:=WN hb (sq_nonneg x);omega
 . have hp:0<a:=by omega
   have h1:=sq_nonneg (a*y-c*x);have h2:=UU h (sq_nonneg x);refine Yn (a:=a) ?_ hp;have e1:(a*y-c*x)*(a*y-c*x)=a*(a*(y*y))-a*(2*(c*(x*y)))+c*c*(x*x):=by grind
   have e2:a*(a*(y*y)+b*(x*x))=a*(a*(y*y))+a*b*(x*x):=by grind
   rw[e1]at h1;rw[e2];omega
theorem FU(n:Nat)(f g:Nat->Int):S n (λ i=>f i*g i)*S n (λ i=>f i*g i)<=S n (λ i=>f i*f i)*S n (λ i=>g i*g i):=by
 induction n with
 |zero=>exact Xi _
 |succ n ih=>
  show(S n (λ i=>f i*g i)+f n*g n)*(S n (λ i=>f i*g i)+f n*g n)<=(S n (λ i=>f i*f i)+f n*f n)*(S n (λ i=>g i*g i)+g n*g n);have ha:0<=S n λ i=>f i*f i:=p_ λ i _=>sq_nonneg _;have hb:0<=S n λ i=>g i*g i:=p_ λ i _=>sq_nonneg _;generalize S n (λ i=>f i*f i)=a at*;generalize S n (λ i=>g i*g i)=b at*;generalize S n (λ i=>f i*g i)=c at*;have h:=Mr (x:=f n) (y:=g n) ha hb ih;have e1:(c+f n*g n)*(c+f n*g n)=c*c+2*(c*(f n*g n))+(f n*f n)*(g n*g n):=by grind
  have e2:(a+f n*f n)*(b+g n*g n)=a*b+(a*(g n*g n)+b*(f n*f n))+(f n*f n)*(g n*g n):=by grind
  rw[e1,e2];omega
section
variable {A:Rows}{N w:Nat}
theorem bo(hA:bh N w A){i:Nat}(hi:i<N):(A.getD i []).length=w:=hA.gc _ (by have:=hA.len;rw[aK (by omega)];exact Vp _)
theorem ix(hA:bh N w A){i j:Nat}(hi:i<N)(hj:j<N):af A i j=S w λ c=>(A.getD i []).getD c 0*(A.getD j []).getD c 0:=by
 unfold af;rw[nH (by rw[bo hA hi,bo hA hj]),bo hA hj]
theorem fN(hA:bh N w A){i:Nat}(hi:i<N):0<=af A i i:=by
 rw[ix hA hi hi];exact p_ λ c _=>sq_nonneg _
theorem PU(hA:bh N w A)(hD:∀k,k<=N->D k (af A)≠0){k j:Nat}(hk:k<N)(hj:j<N):lam (af A) k j*lam (af A) k j<=D j (af A)*D (j+1) (af A)*af A k k:=by
 have h1:=uC hA hD (m:=k) hk j j (by omega) hj;rw[nS (jM A)]at h1;have h2:=FU w (λ c=>ev A N j j c) (λ c=>(A.getD k []).getD c 0);rw[uw hA hD hj j (Ue _),<-ix hA hk hk]at h2;have h3:S w (λ c=>ev A N j j c*(A.getD k []).getD c 0)=lam (af A) k j:=h1;rw[h3]at h2;exact h2
theorem PD(hA:bh N w A)(hD:∀k,k<=N->D k (af A)≠0){m:Int}(hm:∀k,k<=N->D k (af A)<=m){i:Nat}(hi:i<N)(hh:∀j,j<i->2*(((lam (af A) i j).natAbs:Nat):Int)<=D (j+1) (af A)):
 ∀d,d<=i->gx (af A) (i-d) (af A i) i<=D (i-d) (af A)*((d+1:Nat)*m):=by
 have hp:=mh hA hD;intro d;induction d with
 |zero=>
  intro _;rw[Y7,pv];have h1:=hm (i+1) (by omega);have h2:=hp i (by omega);have h3:=hp (i+1) (by omega);have:(((0+1:Nat):Int)*m)=m:=by simp
  rw[this]
  calc D (i+1) (af A)<=1*m:=by omega
   _<=D i (af A)*m:=UU (by omega) (by omega)
 |succ d ih=>
  intro hd;obtain⟨p,ep⟩:∃p,i-d=p+1:=⟨i-d-1,by omega⟩
  have ep2:i-(d+1)=p:=by omega
  rw[ep2];have ih:=ih (by omega);rw[ep]at ih;have q1:=hp p (by omega);have q2:=hp (p+1) (by omega);have q3:=hm (p+1) (by omega);have hl:=hh p (by omega);have nx:=ll (R:=af A) (p:=p) (by omega) (af A i) i;rw[nS (jM A) p p i]at nx
  have hll:lam (af A) i p*lam (af A) i p<=D (p+1) (af A)*D (p+1) (af A):=by
   have:lam (af A) i p*lam (af A) i p=(((lam (af A) i p).natAbs:Nat):Int)*(((lam (af A) i p).natAbs:Nat):Int):=(WT _).symm;rw[this];exact V3 (by omega) (by omega) (by omega) (by omega)
  refine Yn (a:=D (p+1) (af A)) ?_ q2;have h5:=Vw ih (show 0<=D p (af A) by omega)
  have h6:D (p+1) (af A)*D (p+1) (af A)<=D (p+1) (af A)*(D p (af A)*m):=by
   refine Vw ?_ (by omega)
   calc D (p+1) (af A)<=1*m:=by omega
    _<=D p (af A)*m:=UU (by omega) (by omega)
  have e1:D (p+1) (af A)*(D p (af A)*(((d+1+1:Nat):Int)*m))=D p (af A)*(D (p+1) (af A)*(((d+1:Nat):Int)*m))+D (p+1) (af A)*(D p (af A)*m):=by
   push_cast
   grind
  rw[e1];unfold lam at hll;omega
theorem Dx(hA:bh N w A)(hD:∀k,k<=N->D k (af A)≠0){m:Int}(hm:∀k,k<=N->D k (af A)<=m){i:Nat}(hi:i<N)(hh:∀j,j<i->2*(((lam (af A) i j).natAbs:Nat):Int)<=D (j+1) (af A)):af A i i<=((i+1:Nat):Int)*m:=by
 have h:=PD hA hD hm hi hh i (Ue _);rw[VY,mH,jP,VQ]at h;exact h
end
theorem AI{t d:Int}(hd:0<d):2*((t-((2*t+d).fdiv (2*d))*d).natAbs:Int)<=d/\(((2*t+d).fdiv (2*d)).natAbs:Int)<=(t.natAbs:Int):=by
 have h1:=YS (2*t+d) (2*d);have h2:=Vj (2*t+d) (show 0<2*d by omega);have h3:=VD (2*t+d) (show 0<2*d by omega);generalize(2*t+d).fmod (2*d)=r at*;generalize(2*t+d).fdiv (2*d)=q at*;have e:2*d*q=2*(q*d):=by grind
 rw[e]at h1;constructor
 . generalize q*d=u at*;omega
 ·
  rcases Int.lt_trichotomy q 0 with hq|hq|hq
  . have h4:=WN (show 0<= -q-1 by omega) (show 0<=d-1 by omega);have e4:(-q-1)*(d-1)= -(q*d)+q-d+1:=by grind
    rw[e4]at h4;generalize q*d=u at*;omega
  . subst hq;simp
  . have h4:=WN (show 0<=q-1 by omega) (show 0<=d-1 by omega);have e4:(q-1)*(d-1)=q*d-q-d+1:=by grind
    rw[e4]at h4;generalize q*d=u at*;omega
theorem Pp{N j:Nat}{G:Fn}{u x:Nat->Int}(hj:j<N)(hx:∀c,c<N->x c=S N λ k=>u k*G k c):D N (upd G j x)=u j*D N G:=by
 have e1:D N (upd G j x)=D N (upd G j λ c=>S N λ k=>u k*G k c):=ba λ r c hr hc=>by
  unfold upd;by_cases h:r=j
  . rw[Ud h,Ud h];exact hx c hc
  . rw[Ub h,Ub h]
 rw[e1,(kK N).rp hj G u G N,nC hj λ k hk hkj=>?_]
 . congr 1;refine ba λ r c hr hc=>?_;unfold upd;by_cases h:r=j
   . rw[Ud h,h]
   . rw[Ub h]
 . have:D N (upd G j (G k))=0:=(kK N).alt j k _ hj hk (Ui hkj) λ c _=>by rw[bS,aB hkj]
   rw[this,UZ]
theorem w9{N j m:Nat}{G:Fn}{u x:Nat->Int}(hN:N<=8)(hj:j<N)(hx:∀c,c<N->x c=S N λ k=>u k*G k c)(hD:D N G≠0)(hG:∀r c,r<N->c<N->(G r c).natAbs<=m)(hxm:∀c,c<N->(x c).natAbs<=m):(u j).natAbs<=(8*m)^N:=by
 have h:=Pp hj hx
 have h2:(D N (upd G j x)).natAbs<=(8*m)^N:=vb hN λ r c hr hc=>by
  unfold upd;by_cases hr2:r=j
  . rw[Ud hr2];exact hxm c hc
  . rw[Ub hr2];exact hG r c hr hc
 rw[h,U8]at h2;have h3:(u j).natAbs*1<=(u j).natAbs*(D N G).natAbs:=Wz _ (by omega);omega
def aR(A:Rows)(k:Nat)(q:Int)(j:Nat):Rows:=A.set k (f9 (A.getD k []) (-q) (A.getD j []))
def aT(A:Rows)(k o:Nat):Rows:=(A.set k (A.getD o [])).set o (A.getD k [])
theorem iM{A:Rows}{k i:Nat}{r:Row}(hk:k<A.length):(A.set k r).getD i []=if i=k then r else A.getD i []:=by
 rw[Uv,Yc];by_cases h:k=i
 . rw[Ud h,Ud (by omega),Ud h.symm];rfl
 . rw[Ub h,Ub (Ui h),Uv]
theorem wb{A:Rows}{t i:Nat}(ht:t+1<A.length):(aT A (t+1) t).getD i []=A.getD (sw t (t+1) i) []:=by
 unfold aT;rw[iM (by rw[Us];omega),iM ht];unfold sw;by_cases h1:i=t
 . rw[Ud h1,Ud h1]
 . rw[Ub h1,Ub h1];by_cases h2:i=t+1
   . rw[Ud h2,Ud h2]
   . rw[Ub h2,Ub h2]
theorem nY{A:Rows}{t:Nat}(ht:t+1<A.length):af (aT A (t+1) t)=cw (af A) t:=by
 funext a b;unfold af cw;rw[wb ht,wb ht]
theorem FR{A:Rows}{k j:Nat}{q:Int}:(aR A k q j).length=A.length:=by unfold aR;rw[Us]
theorem pZ{A:Rows}{N w k j:Nat}{q:Int}(hA:bh N w A)(hk:k<N)(hj:j<N):bh N w (aR A k q j):=by
 refine⟨FR.trans hA.len,λ r hr=>?_⟩;unfold aR at hr;rcases VL hr with h|rfl
 . exact hA.gc r h
 . rw[jK (by rw[bo hA hk,bo hA hj]),bo hA hk]
theorem vW{A:Rows}{N w t:Nat}(hA:bh N w A)(ht:t+1<N):bh N w (aT A (t+1) t):=by
 refine⟨by unfold aT;rw[Us,Us];exact hA.len,λ r hr=>?_⟩;unfold aT at hr;rcases VL hr with h|rfl
 . rcases VL h with h|rfl
   . exact hA.gc r h
   . exact bo hA (by omega)
 . exact bo hA ht
theorem um{A:Rows}{N w k j:Nat}{q:Int}(hA:bh N w A)(hk:k<N)(hj:j<N)(hkj:j≠k){a b:Nat}(ha:a<N)(hb:b<N):af (aR A k q j) a b=tk (af A) k j q a b:=by
 have hl:=hA.len;have lk:=bo hA hk;have lj:=bo hA hj
 have at':∀i c,(((aR A k q j).getD i []).getD c 0)=if i=k then(A.getD k []).getD c 0-q*(A.getD j []).getD c 0 else(A.getD i []).getD c 0:=λ i c=>by
  unfold aR;rw[iM (by omega)];by_cases h:i=k
  . rw[Ud h,Ud h,o8 (by rw[lk,lj]),Ws];omega
  . rw[Ub h,Ub h]
 have hS:=kH;rw[ix (pZ hA hk hj) ha hb];unfold tk tH rO;rw[ix hA ha hb,ix hA ha hj,ix hA hj hb,ix hA hj hj];by_cases h1:b=k
 . by_cases h2:a=k
   . rw[Ud h1,Ud h2,Ud h2]
     have e:S w (λ c=>((aR A k q j).getD a []).getD c 0*((aR A k q j).getD b []).getD c 0)=S w λ c=>1*(1*((A.getD a []).getD c 0*(A.getD b []).getD c 0)-q*((A.getD j []).getD c 0*(A.getD b []).getD c 0))-q*(1*((A.getD a []).getD c 0*(A.getD j []).getD c 0)-q*((A.getD j []).getD c 0*(A.getD j []).getD c 0)):=ay λ c _=>by
      rw[at',at',Ud h1,Ud h2,h1,h2];grind
     rw[e,kH,kH,kH];simp only[VQ]
   . rw[Ud h1,Ub h2,Ub h2]
     have e:S w (λ c=>((aR A k q j).getD a []).getD c 0*((aR A k q j).getD b []).getD c 0)=S w λ c=>1*((A.getD a []).getD c 0*(A.getD b []).getD c 0)-q*((A.getD a []).getD c 0*(A.getD j []).getD c 0):=ay λ c _=>by
      rw[at',at',Ud h1,Ub h2,h1];grind
     rw[e,kH];omega
 . rw[Ub h1];by_cases h2:a=k
   . rw[Ud h2]
     have e:S w (λ c=>((aR A k q j).getD a []).getD c 0*((aR A k q j).getD b []).getD c 0)=S w λ c=>1*((A.getD a []).getD c 0*(A.getD b []).getD c 0)-q*((A.getD j []).getD c 0*(A.getD b []).getD c 0):=ay λ c _=>by
      rw[at',at',Ub h1,Ud h2,h2];grind
     rw[e,kH];omega
   . rw[Ub h2];exact ay λ c _=>by rw[at',at',Ub h1,Ub h2]
theorem Nj{A:Rows}{N p i:Nat}{G:Fn}(h:∀a b,a<N->b<N->af A a b=G a b)(hp:p<=i)(hi:i<N):lam (af A) i p=lam G i p:=by
 rw[gw,gw];exact ba λ r c hr hc=>h _ _ (by split<;>omega) (by omega)
theorem mX{A:Rows}{N w k j i p:Nat}{q:Int}(hA:bh N w A)(hj:j<k)(hk:k<N)(hi:i<N)(hp:p<=i):lam (af (aR A k q j)) i p=lam (af A) i p-if i=k then q*lam (af A) j p else 0:=by
 rw[Nj (λ a b ha hb=>um hA hk (by omega) (by omega) ha hb) hp hi,P7 hj hp]
theorem xU{A:Rows}{N w k j p:Nat}{q:Int}(hA:bh N w A)(hj:j<k)(hk:k<N)(hp:p<=N):D p (af (aR A k q j))=D p (af A):=by
 cases p with
 |zero=>rw[jP,jP]
 |succ p=>
  have:=mX (q:=q) hA hj hk (i:=p) (p:=p) (by omega) (Ue _);rw[dS,dS]at this;rw[this];split
  . rename_i h;subst h;rw[ya hj,UZ,V7]
  . omega
theorem Gg{A:Rows}{N w k j:Nat}{q:Int}(hA:bh N w A)(hk:k<N)(hj:j<N)(hkj:j≠k):af (aR A k q j) k k<=2*(af A k k+q*q*af A j j):=by
 have h1:=fN (pZ (q:= -q) hA hk hj) hk;rw[um hA hk hj hkj hk hk]at h1⊢;unfold tk tH rO at h1⊢;simp only[Wm]at h1⊢;have hs:=jM A k j;rw[hs]at h1⊢;grind
structure Tn(A0 A U C:Rows)(N w:Nat):Prop where
 isA:bh N w A
 dz:bh N N U
 fe:bh N N C
 ua:∀i c,i<N->c<w->g A i c=S N λ k=>g U i k*g A0 k c
 ub:∀i j,i<N->j<N->S N (λ k=>g U i k*g C j k)=dl i j
 bu:∀i j,i<N->j<N->S N (λ k=>g C k i*g U k j)=dl i j
theorem gd{A:Rows}{N w k j:Nat}{q:Int}(hA:bh N w A)(hk:k<N)(hj:j<N)(i c:Nat):g (aR A k q j) i c=if i=k then g A k c-q*g A j c else g A i c:=by
 unfold g aR;have hl:=hA.len;rw[iM (by omega)];by_cases h:i=k
 . rw[Ud h,Ud h,o8 (by rw[bo hA hk,bo hA hj]),Ws];omega
 . rw[Ub h,Ub h]
theorem rD{A:Rows}{N w t:Nat}(hA:bh N w A)(ht:t+1<N)(i c:Nat):g (aT A (t+1) t) i c=g A (sw t (t+1) i) c:=by
 unfold g;rw[wb (by have:=hA.len;omega)]
theorem xq(n:Nat)(a b:Int)(f h:Nat->Int):S n (λ c=>a*f c+b*h c)=a*S n f+b*S n h:=by
 rw[jz,c7,c7]
theorem Tn.take{A0 A U C:Rows}{N w k j:Nat}{q:Int}(T:Tn A0 A U C N w)(hk:k<N)(hj:j<N)(hkj:j≠k):Tn A0 (aR A k q j) (aR U k q j) (aR C j (-q) k) N w where
 isA:=pZ T.isA hk hj
 dz:=pZ T.dz hk hj
 fe:=pZ T.fe hj hk
 ua:=λ i c hi hc=>by
  rw[gd T.isA hk hj];have e:S N (λ m=>g (aR U k q j) i m*g A0 m c)=S N λ m=>(if i=k then g U k m-q*g U j m else g U i m)*g A0 m c:=ay λ m _=>by rw[gd T.dz hk hj]
  rw[e];by_cases h:i=k
  . simp only[Ud h];rw[T.ua k c hk hc,T.ua j c hj hc];have e2:S N (λ m=>(g U k m-q*g U j m)*g A0 m c)=S N λ m=>1*(g U k m*g A0 m c)-q*(g U j m*g A0 m c):=ay λ m _=>by grind
    rw[e2,kH];omega
  . simp only[Ub h];exact T.ua i c hi hc
 ub:=λ i l hi hl=>by
  have e:S N (λ m=>g (aR U k q j) i m*g (aR C j (-q) k) l m)=S N λ m=>(if i=k then g U k m-q*g U j m else g U i m)*(if l=j then g C j m- -q*g C k m else g C l m):=ay λ m _=>by rw[gd T.dz hk hj,gd T.fe hj hk]
  rw[e];have djk:dl j k=0:=dX hkj;by_cases h:i=k
  . by_cases h2:l=j
    . simp only[Ud h,Ud h2];have e2:S N (λ m=>(g U k m-q*g U j m)*(g C j m- -q*g C k m))=S N λ m=>1*(1*(g U k m*g C j m)+q*(g U k m*g C k m))-q*(1*(g U j m*g C j m)+q*(g U j m*g C k m)):=ay λ m _=>by grind
      rw[e2,kH,xq,xq,T.ub k j hk hj,T.ub k k hk hk,T.ub j j hj hj,T.ub j k hj hk,h,h2,dO,dO,djk,pq k j,djk];omega
    . simp only[Ud h,Ub h2];have e2:S N (λ m=>(g U k m-q*g U j m)*g C l m)=S N λ m=>1*(g U k m*g C l m)-q*(g U j m*g C l m):=ay λ m _=>by grind
      rw[e2,kH,T.ub k l hk hl,T.ub j l hj hl,h,dX (Ui h2)];omega
  . by_cases h2:l=j
    . simp only[Ub h,Ud h2];have e2:S N (λ m=>g U i m*(g C j m- -q*g C k m))=S N λ m=>1*(g U i m*g C j m)+q*(g U i m*g C k m):=ay λ m _=>by grind
      rw[e2,xq,T.ub i j hi hj,T.ub i k hi hk,h2,dX h];omega
    . simp only[Ub h,Ub h2];exact T.ub i l hi hl
 bu:=λ i l hi hl=>by
  have e:S N (λ m=>g (aR C j (-q) k) m i*g (aR U k q j) m l)=S N λ m=>g C m i*g U m l+((q*(g C k i*g U j l))*dl m j+(-(q*(g C k i*g U j l)))*dl m k):=ay λ m _=>by
   rw[gd T.dz hk hj,gd T.fe hj hk];by_cases h1:m=j
   . have h2:m≠k:=by omega
     rw[Ud h1,Ub h2,h1,dO,dX hkj];grind
   . rw[Ub h1,dX h1];by_cases h2:m=k
     . rw[Ud h2,h2,dO];grind
     . rw[Ub h2,dX h2];grind
  rw[e,jz,xq,T.bu i l hi hl]
  have e1:S N (λ c=>dl c j)=1:=by
   rw[nC hj λ i _ h=>dX h,dO]
  have e2:S N (λ c=>dl c k)=1:=by
   rw[nC hk λ i _ h=>dX h,dO]
  rw[e1,e2];omega
theorem LX{t a b:Nat}:dl (sw t (t+1) a) (sw t (t+1) b)=dl a b:=by
 by_cases h:a=b
 . rw[h,dO,dO]
 . rw[dX h,dX];intro z;apply h;have:∀x,sw t (t+1) (sw t (t+1) x)=x:=λ x=>by unfold sw;grind
   rw[<-this a,<-this b,z]
theorem uv{t N i:Nat}(ht:t+1<N)(hi:i<N):sw t (t+1) i<N:=by unfold sw;grind
theorem Tn.swap{A0 A U C:Rows}{N w t:Nat}(T:Tn A0 A U C N w)(ht:t+1<N):Tn A0 (aT A (t+1) t) (aT U (t+1) t) (aT C (t+1) t) N w where
 isA:=vW T.isA ht
 dz:=vW T.dz ht
 fe:=vW T.fe ht
 ua:=λ i c hi hc=>by
  rw[rD T.isA ht,T.ua _ c (uv ht hi) hc];exact ay λ m _=>by rw[rD T.dz ht]
 ub:=λ i j hi hj=>by
  rw[<-LX (t:=t),<-T.ub _ _ (uv ht hi) (uv ht hj)];exact ay λ m _=>by rw[rD T.dz ht,rD T.fe ht]
 bu:=λ i j hi hj=>by
  rw[<-T.bu i j hi hj,<-PL (i:=t) (j:=t+1) (by omega) ht (by omega) λ k=>g C k i*g U k j];exact ay λ m _=>by rw[rD T.dz ht,rD T.fe ht]
theorem CF{a b:Row}(h:a.length=b.length):iz a b*iz a b<=iz a a*iz b b:=by
 rw[nH h,nH (a:=a) rfl,nH (a:=b) rfl,h];exact FU _ _ _
theorem qt{x:Int}{m:Nat}{a b:Int}(h:x*x<=a*b)(ha:0<=a)(hb:0<=b)(h1:a<=m)(h2:b<=m):x.natAbs<=m:=by
 have h3:a*b<=(m:Int)*m:=V3 h1 h2 hb (by omega)
 have h4:((x.natAbs*x.natAbs:Nat):Int)<=((m*m:Nat):Int):=by
  rw[XH,XH,WT];omega
 have h5:x.natAbs*x.natAbs<=m*m:=by omega
 exact Wd λ h=>by
  have:=Nat.mul_lt_mul'' h h;omega
theorem Tn.abs{A0 A U C:Rows}{N w m:Nat}(T:Tn A0 A U C N w)(h0:bh N w A0)(hN:N<=8)(hD0:D N (af A0)≠0)(hD:D N (af A)≠0)(g0:∀i,i<N->af A0 i i<=m)(g1:∀i,i<N->af A i i<=m){i j:Nat}(hi:i<N)(hj:j<N):
 (g U i j).natAbs<=(8*m)^N/\(g C i j).natAbs<=(8*m)^N:=by
 have gb:∀ {B:Rows},bh N w B->(∀i,i<N->af B i i<=m)->∀r c,r<N->c<N->(af B r c).natAbs<=m:=λ{B} hB hb r c hr hc=>by
  have:=CF (a:=B.getD r []) (b:=B.getD c []) (by rw[bo hB hr,bo hB hc]);exact qt this (fN hB hr) (fN hB hc) (hb r hr) (hb c hc)
 have xb:∀a b,a<N->b<N->(iz (A.getD a []) (A0.getD b [])).natAbs<=m:=λ a b ha hb=>
  qt (CF (by rw[bo T.isA ha,bo h0 hb])) (fN T.isA ha) (fN h0 hb) (g1 a ha) (g0 b hb)
 constructor
 . refine w9 (u:=λ k=>g U i k) (x:=λ c=>iz (A.getD i []) (A0.getD c [])) hN hj (λ c hc=>?_) hD0 (gb h0 g0) λ c hc=>xb i c hi hc;rw[nH (by rw[bo T.isA hi,bo h0 hc]),bo h0 hc]
   have e:S w (λ d=>(A.getD i []).getD d 0*(A0.getD c []).getD d 0)=S w λ d=>S N λ k=>g U i k*(g A0 k d*g A0 c d):=ay λ d hd=>by
    have:=T.ua i d hi hd;show g A i d*g A0 c d=_;rw[this,<-l6];exact ay λ k _=>by grind
   rw[e,jV];refine ay λ k hk=>?_;rw[c7,ix h0 hk hc];rfl
 . refine w9 (u:=λ k=>g C k j) (x:=λ c=>iz (A.getD c []) (A0.getD j [])) hN hi (λ c hc=>?_) hD (gb T.isA g1) λ c hc=>xb c j hc hj;rw[nH (by rw[bo T.isA hc,bo h0 hj]),bo h0 hj]
   have back:∀d,d<w->g A0 j d=S N λ k=>g C k j*g A k d:=λ d hd=>by
    have e:S N (λ k=>g C k j*g A k d)=S N λ k=>S N λ l=>(g C k j*g U k l)*g A0 l d:=ay λ k hk=>by
     rw[T.ua k d hk hd,<-c7];exact ay λ l _=>by grind
    rw[e,jV];have e2:S N (λ l=>S N λ k=>(g C k j*g U k l)*g A0 l d)=S N λ l=>dl j l*g A0 l d:=ay λ l hl=>by rw[l6,T.bu j l hj hl]
    rw[e2,i6 hj]
   have e:S w (λ d=>(A.getD c []).getD d 0*(A0.getD j []).getD d 0)=S w λ d=>S N λ k=>g C k j*(g A k d*g A c d):=ay λ d hd=>by
    show g A c d*g A0 j d=_;rw[back d hd,<-c7];exact ay λ k _=>by grind
   rw[e,jV];refine ay λ k hk=>?_;rw[c7,ix T.isA hk hc];rfl
theorem Bi{A:Rows}{k o i:Nat}(hk:k<A.length)(ho:o<A.length):(aT A k o).getD i []=A.getD (sw k o i) []:=by
 unfold aT;rw[iM (by rw[Us];exact ho),iM hk];unfold sw;by_cases h1:i=k
 . rw[Ud h1,Ud h1];by_cases h2:i=o
   . rw[Ud h2,<-h1,<-h2]
   . rw[Ub h2]
 . rw[Ub h1,Ub h1];by_cases h2:i=o
   . rw[Ud h2,Ud h2]
   . rw[Ub h2,Ub h2]
theorem wM{A:Rows}{N w k o:Nat}(hA:bh N w A)(hk:k<N)(ho:o<N):bh N w (aT A k o):=by
 refine⟨by unfold aT;rw[Us,Us];exact hA.len,λ r hr=>?_⟩;unfold aT at hr;rcases VL hr with h|rfl
 . rcases VL h with h|rfl
   . exact hA.gc r h
   . exact bo hA ho
 . exact bo hA hk
theorem lD{A:Rows}{N w k o:Nat}(hA:bh N w A)(hk:k<N)(ho:o<N)(i c:Nat):g (aT A k o) i c=g A (sw k o i) c:=by
 unfold g;rw[Bi (by have:=hA.len;omega) (by have:=hA.len;omega)]
theorem t5{k o N i:Nat}(hk:k<N)(ho:o<N)(hi:i<N):sw k o i<N:=by unfold sw;split<;>(try split)<;>assumption
theorem HG(k o x:Nat):sw k o (sw k o x)=x:=by
 unfold sw;by_cases h1:x=k
 . subst h1;rw[Ud rfl];by_cases h2:o=x
   . rw[Ud h2];exact h2
   . rw[Ub h2,Ud rfl]
 . rw[Ub h1];by_cases h2:x=o
   . subst h2;rw[Ud rfl,Ud rfl]
   . rw[Ub h2,Ub h1,Ub h2]
theorem Q1{k o a b:Nat}:dl (sw k o a) (sw k o b)=dl a b:=by
 by_cases h:a=b
 . rw[h,dO,dO]
 . rw[dX h,dX λ z=>h (by rw[<-HG k o a,<-HG k o b,z])]
theorem MJ(k x:Nat):sw k k x=x:=by
 unfold sw;by_cases h:x=k
 . rw[Ud h,h]
 . rw[Ub h,Ub h]
theorem QR{n i j:Nat}(hi:i<n)(hj:j<n)(f:Nat->Int):S n (λ k=>f (sw i j k))=S n f:=by
 by_cases h:i=j
 . subst h;exact ay λ k _=>by rw[MJ]
 . exact PL hi hj h f
theorem Tn.KN{A0 A U C:Rows}{N w k o:Nat}(T:Tn A0 A U C N w)(hk:k<N)(ho:o<N):Tn A0 (aT A k o) (aT U k o) (aT C k o) N w where
 isA:=wM T.isA hk ho
 dz:=wM T.dz hk ho
 fe:=wM T.fe hk ho
 ua:=λ i c hi hc=>by
  rw[lD T.isA hk ho,T.ua _ c (t5 hk ho hi) hc];exact ay λ m _=>by rw[lD T.dz hk ho]
 ub:=λ i j hi hj=>by
  rw[<-Q1 (k:=k) (o:=o),<-T.ub _ _ (t5 hk ho hi) (t5 hk ho hj)];exact ay λ m _=>by rw[lD T.dz hk ho,lD T.fe hk ho]
 bu:=λ i j hi hj=>by
  rw[<-T.bu i j hi hj,<-QR hk ho λ m=>g C m i*g U m j];exact ay λ m _=>by rw[lD T.dz hk ho,lD T.fe hk ho]
def iD(A:Rows)(k:Nat):Rows:=A.set k ((A.getD k []).map λ x=> -x)
theorem A7{A:Rows}{N w k:Nat}(hA:bh N w A)(hk:k<N):bh N w (iD A k):=by
 refine⟨by unfold iD;rw[Us];exact hA.len,λ r hr=>?_⟩;unfold iD at hr;rcases VL hr with h|rfl
 . exact hA.gc r h
 . rw[Uk];exact bo hA hk
theorem JU(r:Row)(c:Nat):(r.map λ x=> -x).getD c 0= -r.getD c 0:=by
 rw[Uv,Uv,Uw];cases r[c]?<;>rfl
theorem mw{A:Rows}{N w k:Nat}(hA:bh N w A)(hk:k<N)(i c:Nat):g (iD A k) i c=if i=k then-g A k c else g A i c:=by
 unfold g iD;rw[iM (by have:=hA.len;omega)];by_cases h:i=k
 . rw[Ud h,Ud h,JU]
 . rw[Ub h,Ub h]
theorem Tn.neg{A0 A U C:Rows}{N w k:Nat}(T:Tn A0 A U C N w)(hk:k<N):Tn A0 (iD A k) (iD U k) (iD C k) N w where
 isA:=A7 T.isA hk
 dz:=A7 T.dz hk
 fe:=A7 T.fe hk
 ua:=λ i c hi hc=>by
  rw[mw T.isA hk];by_cases h:i=k
  . rw[Ud h,T.ua k c hk hc,<-x6];exact ay λ m _=>by rw[mw T.dz hk,Ud h,Ws]
  . rw[Ub h,T.ua i c hi hc];exact ay λ m _=>by rw[mw T.dz hk,Ub h]
 ub:=λ i j hi hj=>by
  have e:S N (λ m=>g (iD U k) i m*g (iD C k) j m)=S N λ m=>(if i=k then-1 else 1)*(if j=k then-1 else 1)*(g U i m*g C j m):=ay λ m _=>by
   rw[mw T.dz hk,mw T.fe hk];by_cases h1:i=k<;>by_cases h2:j=k<;>simp only[h1,h2,Wm,WR]<;>grind
  rw[e,c7,T.ub i j hi hj];by_cases h1:i=k
  . by_cases h2:j=k
    . simp[h1,h2]
    . rw[dX (by omega)];simp
  . by_cases h2:j=k
    . rw[dX (by omega)];simp
    . simp[h1,h2]
 bu:=λ i j hi hj=>by
  rw[<-T.bu i j hi hj]
  exact ay λ m _=>by
   rw[mw T.dz hk,mw T.fe hk];by_cases h:m=k
   . subst h;rw[Ud rfl,Ud rfl];grind
   . rw[Ub h,Ub h]
structure ow(A:Rows)(N top p:Nat)(L:List Nat):Prop where
 mem:∀k,k∈L↔top<=k/\k<N/\g A k p≠0
 ord:L.Pairwise λ i j=>(g A i p).natAbs<=(g A j p).natAbs
 nd:L.Nodup
structure B3 where
 A:Rows
 U:Rows
 C:Rows
def qn(x y:Int):Int:=(2*x+y).fdiv (2*y)
def lZ(b:B3)(p k j:Nat):B3:=⟨aR b.A k (qn (g b.A k p) (g b.A j p)) j,aR b.U k (qn (g b.A k p) (g b.A j p)) j,aR b.C j (-(qn (g b.A k p) (g b.A j p))) k⟩
def KR(N top p:Nat)(b c:B3):Prop:=∃(L:List Nat) (k j:Nat),ow b.A N top p (L++[j,k])/\c=lZ b p k j
inductive kC(N top p:Nat):B3->B3->Prop
 |refl (b:B3):kC N top p b b
 |head {b c d:B3} (h:KR N top p b c) (t:kC N top p c d):kC N top p b d
theorem kC.tail{N top p:Nat}{b c d:B3}(h:kC N top p b c)(t:KR N top p c d):kC N top p b d:=by
 induction h with
 |refl b=>exact .head t (.refl _)
 |head x _ ih=>exact .head x (ih t)
def iI(X:Rows)(N top m:Nat):Prop:=∀i c,top<=i->i<N->(g X i c).natAbs<=m
def PR(f:Nat->Nat):Nat->Nat
 |0=>1
 |n+1=>PR f n*f n
theorem GN{f:Nat->Nat}(h:∀i,1<=f i):∀n,1<=PR f n
 |0=>Ue _
 |n+1=>Vd (GN h n) (h n)
theorem BB{f f':Nat->Nat}:∀ {n:Nat},(∀i,i<n->f i=f' i)->PR f n=PR f' n
 |0,_=>rfl
 |n+1,h=>by
  show PR f n*f n=PR f' n*f' n;rw[BB λ i hi=>h i (US hi),h n (UN n)]
theorem Ga{f f':Nat->Nat}{k:Nat}:∀ {n:Nat},k<n->(∀i,i≠k->f i=f' i)->PR f n*f' k=PR f' n*f k
 |0,hk,_=>absurd hk (Vl _)
 |n+1,hk,h=>by
  show PR f n*f n*f' k=PR f' n*f' n*f k;by_cases e:k=n
  . subst e;rw[BB (n:=k) λ i hi=>h i (UG hi),WB,Wi (f k),WB]
  . have:=Ga (n:=n) (by omega) h;rw[h n (Ui e),Nat.mul_right_comm,this,Nat.mul_right_comm]
theorem Kg{f:Nat->Nat}{m top:Nat}(hm:1<=m):∀ {n:Nat},(∀i,i<n->i<top->f i<=1)->(∀i,i<n->f i<=m)->PR f n<=m^(n-top)
 |0,_,_=>by simp[PR]
 |n+1,h1,h2=>by
  have ih:=Kg hm (n:=n) (λ i hi=>h1 i (US hi)) λ i hi=>h2 i (US hi);show PR f n*f n<=_;by_cases ht:n<top
  . have z:n+1-top=n-top:=by omega
    rw[z];exact Uj (Vd ih (h1 n (UN n) ht)) (by rw[Xk];exact Ue _)
  . have z:n+1-top=(n-top)+1:=by omega
    rw[z,Wj];exact Vd ih (h2 n (UN n))
def wt(A:Rows)(top p i:Nat):Nat:=if top<=i/\g A i p≠0 then 2*(g A i p).natAbs else 1
theorem HE(A:Rows)(top p i:Nat):1<=wt A top p i:=by
 unfold wt;split<;>omega
theorem Dw{x y:Int}(hy:y≠0):2*(x-qn x y*y).natAbs<=y.natAbs:=by
 unfold qn;have h1:=YT (2*x+y) (2*y);have h2:(2*x+y).fmod (2*y)=2*x+y-2*y*(2*x+y).fdiv (2*y):=by omega
 generalize(2*x+y).fdiv (2*y)=q at*;have e:2*(x-q*y)=(2*x+y).fmod (2*y)-y:=by rw[h2];grind
 rcases Int.lt_or_gt_of_ne hy with h|h
 . have a0:=Int.neg_fmod_neg (2*x+y) (2*y);have a1:=Vj (-(2*x+y)) (show 0< -(2*y) by omega);have a2:=VD (-(2*x+y)) (show 0< -(2*y) by omega);omega
 . have a1:=Vj (2*x+y) (show 0<2*y by omega);have a2:=VD (2*x+y) (show 0<2*y by omega);omega
theorem Mm{x y:Int}(hy:y≠0)(hxy:y.natAbs<=x.natAbs):(1+(qn x y).natAbs)*(if x-qn x y*y≠0 then 2*(x-qn x y*y).natAbs else 1)<=2*x.natAbs:=by
 have h2:=Dw (x:=x) hy;generalize qn x y=q at*;generalize hr:x-q*y=r at*;have hx:x=q*y+r:=by omega
 have hq:(q*y).natAbs=q.natAbs*y.natAbs:=U8 ..;by_cases h0:r=0
 . rw[Ub (λ z=>z h0),Xk];subst h0;have hxa:x.natAbs=q.natAbs*y.natAbs:=by rw[<-hq,hx];simp
   have hy1:1<=y.natAbs:=by omega
   have hq1:1<=q.natAbs:=by
    rcases Nat.eq_zero_or_pos q.natAbs with z|z
    . rw[z,Y8]at hxa;omega
    . exact z
   have:q.natAbs<=q.natAbs*y.natAbs:=Xb _ hy1;omega
 . rw[Ud h0];have hr1:1<=r.natAbs:=by omega
   have key:(1+q.natAbs)*r.natAbs<=x.natAbs:=by
    rcases WO q.natAbs 2 with hlt|hge
    . rcases WO q.natAbs 1 with h|h
      . have zq:q=0:=Int.natAbs_eq_zero.mp (Nat.le_zero.mp (Yd h));subst zq;simp at hx;subst hx;simp
      . have z:q.natAbs=1:=XI (Yd hlt) h;rw[z];exact Uj h2 hxy
    . have h3:(q*y).natAbs<=x.natAbs+r.natAbs:=by omega
      rw[hq]at h3;have h4:q.natAbs*(2*r.natAbs)<=q.natAbs*y.natAbs:=Wz _ h2;have h5:2*r.natAbs<=q.natAbs*r.natAbs:=Vf _ hge;have h6:q.natAbs*(2*r.natAbs)=q.natAbs*r.natAbs+q.natAbs*r.natAbs:=by rw[Ye];omega
      rw[Xl,Wt];omega
   have:(1+q.natAbs)*(2*r.natAbs)=2*((1+q.natAbs)*r.natAbs):=by rw[Ye]
   omega
structure vK(A0:Rows)(N w top p m:Nat)(b0 b:B3)(gr:Nat):Prop where
 tn:Tn A0 b.A b.U b.C N w
 up:∀i,i<top->b.A.getD i []=b0.A.getD i []/\b.U.getD i []=b0.U.getD i []/\b.C.getD i []=b0.C.getD i []
 lA:iI b.A N top (m*gr)
 lU:iI b.U N top (m*gr)
 lC:iI b.C N top (m*gr)
 zs:∀i c,top<=i->i<N->c<p->g b.A i c=0
 RZ:gr*PR (wt b.A top p) N<=PR (wt b0.A top p) N
 pos:1<=gr
 QM:b=b0\/∃j,top<=j/\j<N/\g b.A j p≠0
theorem wO{X:Rows}{N w top k j m gr:Nat}{q:Int}(hX:bh N w X)(hk:k<N)(hj:j<N)(hkt:top<=k)(hjt:top<=j)(h:iI X N top (m*gr)):iI (aR X k q j) N top (m*(gr*(1+q.natAbs))):=λ i c hi hN=>by
 rw[gd hX hk hj];have e:m*(gr*(1+q.natAbs))=m*gr+q.natAbs*(m*gr):=by rw[<-WB,Nat.mul_add,Xk,Wi (m*gr) q.natAbs]
 rw[e];by_cases hik:i=k
 . rw[Ud hik];have h1:=h k c hkt hk;have h2:=h j c hjt hj;have h3:(q*g X j c).natAbs<=q.natAbs*(m*gr):=by rw[U8];exact Wz _ h2
   exact Uj (Int.natAbs_sub_le _ _) (Nat.add_le_add h1 h3)
 . rw[Ub hik];exact Uj (h i c hi hN) (Yv _ _)
theorem lK{X:Rows}{k j i:Nat}{q:Int}(hk:k<X.length)(h:i≠k):(aR X k q j).getD i []=X.getD i []:=by
 unfold aR;rw[iM hk,Ub h]
theorem half_lt{r y x:Nat}(h:2*r<=y)(h2:y<=x)(h3:0<x):r<x:=by omega
theorem vK.step{A0:Rows}{N w top p m gr:Nat}{b0 b:B3}{L:List Nat}{k j:Nat}(G:vK A0 N w top p m b0 b gr)(hp:p<w)(hL:ow b.A N top p (L++[j,k])):
 vK A0 N w top p m b0 (lZ b p k j) (gr*(1+(qn (g b.A k p) (g b.A j p)).natAbs))/\(g (lZ b p k j).A k p).natAbs<(g b.A k p).natAbs/\(∀i,i≠k->g (lZ b p k j).A i p=g b.A i p)/\top<=k/\k<N/\top<=j/\j<N/\j≠k/\g b.A j p≠0:=by
 obtain⟨hk1,hk2,hk3⟩:=(hL.mem k).mp (by simp);obtain⟨hj1,hj2,hj3⟩:=(hL.mem j).mp (by simp);have hord:=hL.ord;rw[List.pairwise_append]at hord;have hle:=(XX.mp hord.2.1).1 k (by simp);have hnd:=hL.nd;rw[List.nodup_append]at hnd;have hjk:j≠k:=λ z=>(Wl.mp hnd.2.1).1 (by rw[z];exact VP.mpr rfl)
 have gk:g (lZ b p k j).A k p=g b.A k p-qn (g b.A k p) (g b.A j p)*g b.A j p:=by
  show g (aR b.A k _ j) k p=_;rw[gd G.tn.isA hk2 hj2,Ud rfl]
 have gi:∀i,i≠k->g (lZ b p k j).A i p=g b.A i p:=λ i hi=>by
  show g (aR b.A k _ j) i p=_;rw[gd G.tn.isA hk2 hj2,Ub hi]
 have hrest:=Dw (x:=g b.A k p) hj3;have hgrow:=Mm (x:=g b.A k p) hj3 hle;refine⟨⟨G.tn.take hk2 hj2 hjk,λ i hi=>?_,wO G.tn.isA hk2 hj2 hk1 hj1 G.lA,wO G.tn.dz hk2 hj2 hk1 hj1 G.lU,?_,λ i c hi hN hc=>?_,?_,?_,.inr ⟨j,hj1,hj2,by rw[gi j hjk];exact hj3⟩⟩,?_,gi,hk1,hk2,hj1,hj2,hjk,hj3⟩
 . obtain⟨a1,a2,a3⟩:=G.up i hi;refine⟨(lK (by rw[G.tn.isA.len];exact hk2) (by omega)).trans a1,(lK (by rw[G.tn.dz.len];exact hk2) (by omega)).trans a2,(lK (by rw[G.tn.fe.len];exact hj2) (by omega)).trans a3⟩
 . have:=wO (q:= -(qn (g b.A k p) (g b.A j p))) G.tn.fe hj2 hk2 hj1 hk1 G.lC;rw[V4]at this;exact this
 . show g (aR b.A k _ j) i c=0;rw[gd G.tn.isA hk2 hj2];by_cases h:i=k
   . rw[Ud h,G.zs k c hk1 hk2 hc,G.zs j c hj1 hj2 hc,UZ];rfl
   . rw[Ub h];exact G.zs i c hi hN hc
 . have e:=Ga (f:=wt (lZ b p k j).A top p) (f':=wt b.A top p) (k:=k) hk2 λ i hi=>by unfold wt;rw[gi i hi]
   have w1:wt b.A top p k=2*(g b.A k p).natAbs:=by unfold wt;rw[Ud ⟨hk1,hk3⟩]
   have w2:(1+(qn (g b.A k p) (g b.A j p)).natAbs)*wt (lZ b p k j).A top p k<=wt b.A top p k:=by
    rw[w1];unfold wt;rw[gk];by_cases h0:g b.A k p-qn (g b.A k p) (g b.A j p)*g b.A j p=0
    . rw[Ub (λ z=>z.2 h0)];rw[Ub (λ z=>z h0)]at hgrow;exact hgrow
    . rw[Ud ⟨hk1,h0⟩];rw[Ud h0]at hgrow;exact hgrow
   have hw:0<wt b.A top p k:=HE _ _ _ _;refine Nat.le_of_mul_le_mul_right (c:=wt b.A top p k) ?_ hw
   have s1:gr*(1+(qn (g b.A k p) (g b.A j p)).natAbs)*PR (wt (lZ b p k j).A top p) N*wt b.A top p k=gr*PR (wt b.A top p) N*((1+(qn (g b.A k p) (g b.A j p)).natAbs)*wt (lZ b p k j).A top p k):=by
    rw[WB _ (PR _ N),e];simp only[WB,Ye]
   rw[s1];exact Vd G.RZ w2
 . exact Nat.mul_pos G.pos (by omega)
 . rw[gk];exact half_lt hrest hle (Int.natAbs_pos.mpr hk3)
theorem vK.low{A0:Rows}{N w top p e gr:Nat}{b0 b:B3}(G:vK A0 N w top p (2^e) b0 b gr)(h0:iI b0.A N top (2^e)):2^e*gr<=2^((N-top+1)*(e+1)):=by
 have h1:gr<=PR (wt b0.A top p) N:=Uj (Xb _ (GN (HE _ _ _) N)) G.RZ
 have h2:PR (wt b0.A top p) N<=(2^(e+1))^(N-top):=Kg W7 (λ i _ ht=>by unfold wt;rw[Ub (by omega)];exact Ue _) λ i hi=>by
  unfold wt;split
  . rename_i h;have:=h0 i p h.1 hi;rw[Wj];omega
  . exact W7
 refine Uj (Wz _ (Uj h1 h2)) ?_;rw[<-YI,<-VR];refine UA (by decide) ?_;have e1:(N-top+1)*(e+1)=(e+1)*(N-top)+(e+1):=by rw[Xl,Wt,Wi]
 rw[e1];omega
structure xR(A0:Rows)(N w:Nat)(b:B3)(top p:Nat)(ld:Nat->Nat)(e u:Nat):Prop where
 tn:Tn A0 b.A b.U b.C N w
 le:top<=N
 lo:iI b.A N top (2^e)/\iI b.U N top (2^e)/\iI b.C N top (2^e)
 hi:∀i c,i<top->(g b.A i c).natAbs<=2^u/\(g b.U i c).natAbs<=2^u/\(g b.C i c).natAbs<=2^u
 zs:∀i c,top<=i->i<N->c<p->g b.A i c=0
 lead:∀i,i<top->ld i<p/\0<g b.A i (ld i)/\∀c,c<ld i->g b.A i c=0
 mono:∀i j,i<j->j<top->ld i<ld j
 red:∀i j,i<j->j<top->0<=g b.A i (ld j)/\g b.A i (ld j)<g b.A j (ld j)
def setB(b:B3)(p top r:Nat):B3:=
 if g (aT b.A top r) top p<0 then⟨iD (aT b.A top r) top,iD (aT b.U top r) top,iD (aT b.C top r) top⟩else⟨aT b.A top r,aT b.U top r,aT b.C top r⟩
theorem vZ{X:Rows}{N w top r m:Nat}(hX:bh N w X)(ht:top<N)(hr:r<N)(hrt:top<=r)(h:iI X N top m):iI (aT X top r) N top m:=λ i c hi hN=>by
 rw[lD hX ht hr];refine h _ c ?_ (t5 ht hr hN);unfold sw;split
 . exact hrt
 . split
   . exact Ue _
   . exact hi
theorem Be{X:Rows}{N w top m:Nat}(hX:bh N w X)(ht:top<N)(h:iI X N top m):iI (iD X top) N top m:=λ i c hi hN=>by
 rw[mw hX ht];split
 . rw[V4];exact h top c (Ue _) ht
 . exact h i c hi hN
theorem wU{X:Rows}{N w top r i:Nat}(hX:bh N w X)(ht:top<N)(hr:r<N)(hrt:top<=r)(hi:i<top):(aT X top r).getD i []=X.getD i []:=by
 rw[Bi (by have:=hX.len;omega) (by have:=hX.len;omega)];unfold sw;rw[Ub (by omega),Ub (by omega)]
theorem BI{X:Rows}{N w top i:Nat}(hX:bh N w X)(ht:top<N)(hi:i<top):(iD X top).getD i []=X.getD i []:=by
 unfold iD;rw[iM (by have:=hX.len;omega),Ub (by omega)]
structure y9(A0:Rows)(N w top p m:Nat)(b0 b:B3):Prop where
 tn:Tn A0 b.A b.U b.C N w
 up:∀i,i<top->b.A.getD i []=b0.A.getD i []/\b.U.getD i []=b0.U.getD i []/\b.C.getD i []=b0.C.getD i []
 lo:iI b.A N top m/\iI b.U N top m/\iI b.C N top m
 zs:∀i c,top<=i->i<N->c<p->g b.A i c=0
 tp:0<g b.A top p
 z1:∀i,top<i->i<N->g b.A i p=0
theorem vK.set{A0:Rows}{N w top p m gr r:Nat}{b0 b:B3}(G:vK A0 N w top p m b0 b gr)(hL:ow b.A N top p [r]):y9 A0 N w top p (m*gr) b0 (setB b p top r)/\top<=r/\r<N:=by
 obtain⟨hr1,hr2,hr3⟩:=(hL.mem r).mp (by simp);have ht:top<N:=by omega
 have z:∀i,top<=i->i<N->i≠r->g b.A i p=0:=λ i h1 h2 h3=>Wq λ y=>h3 (by simpa using(hL.mem i).mpr ⟨h1,h2,y⟩);have swg:∀i c,g (aT b.A top r) i c=g b.A (sw top r i) c:=λ i c=>lD G.tn.isA ht hr2 i c;have gt:g (aT b.A top r) top p=g b.A r p:=by rw[swg];unfold sw;rw[Ud rfl]
 have T1:=G.tn.KN ht hr2
 have z1:∀i,top<i->i<N->g (aT b.A top r) i p=0:=λ i h1 h2=>by
  rw[swg];unfold sw;rw[Ub (by omega)];by_cases h:i=r
  . rw[Ud h];exact z top (Ue _) ht (by omega)
  . rw[Ub h];exact z i (by omega) h2 h
 have zs:∀i c,top<=i->i<N->c<p->g (aT b.A top r) i c=0:=λ i c h1 h2 h3=>by
  rw[swg];refine G.zs _ c ?_ (t5 ht hr2 h2) h3;unfold sw;split
  . exact hr1
  . split
    . exact Ue _
    . exact h1
 have up:∀i,i<top->(aT b.A top r).getD i []=b0.A.getD i []/\(aT b.U top r).getD i []=b0.U.getD i []/\(aT b.C top r).getD i []=b0.C.getD i []:=λ i hi=>by
  obtain⟨a1,a2,a3⟩:=G.up i hi;exact⟨(wU G.tn.isA ht hr2 hr1 hi).trans a1,(wU G.tn.dz ht hr2 hr1 hi).trans a2,(wU G.tn.fe ht hr2 hr1 hi).trans a3⟩
 have lo:=And.intro (vZ G.tn.isA ht hr2 hr1 G.lA) (And.intro (vZ G.tn.dz ht hr2 hr1 G.lU) (vZ G.tn.fe ht hr2 hr1 G.lC));refine⟨?_,hr1,hr2⟩;unfold setB;by_cases hs:g (aT b.A top r) top p<0
 . rw[Ud hs];refine⟨T1.neg ht,λ i hi=>?_,⟨Be T1.isA ht lo.1,Be T1.dz ht lo.2.1,Be T1.fe ht lo.2.2⟩,λ i c h1 h2 h3=>?_,?_,λ i h1 h2=>?_⟩
   . obtain⟨a1,a2,a3⟩:=up i hi;exact⟨(BI T1.isA ht hi).trans a1,(BI T1.dz ht hi).trans a2,(BI T1.fe ht hi).trans a3⟩
   . show g (iD (aT b.A top r) top) i c=0;rw[mw T1.isA ht];split
     . rw[zs top c (Ue _) ht h3];rfl
     . exact zs i c h1 h2 h3
   . show 0<g (iD (aT b.A top r) top) top p;rw[mw T1.isA ht,Ud rfl];omega
   . show g (iD (aT b.A top r) top) i p=0;rw[mw T1.isA ht,Ub (by omega)];exact z1 i h1 h2
 . rw[Ub hs];exact⟨T1,up,lo,zs,by show 0<g (aT b.A top r) top p;rw[gt]at hs⊢;omega,z1⟩
def oq(p top:Nat):Nat->B3->B3
 |0,b=>b
 |k+1,b=>
  let c:=oq p top k b
  ⟨aR c.A k ((g c.A k p).fdiv (g c.A top p)) top,aR c.U k ((g c.A k p).fdiv (g c.A top p)) top,aR c.C top (-((g c.A k p).fdiv (g c.A top p))) k⟩
theorem pX(a:Int){b:Int}(hb:0<b):(a.fdiv b).natAbs<=a.natAbs:=by
 rw[X1 _ (Vq hb)];exact Int.natAbs_ediv_le_natAbs a b
theorem Tn.start{A:Rows}{N w:Nat}(hA:bh N w A):Tn A A (units N) (units N) N w where
 isA:=hA
 dz:=pN N
 fe:=pN N
 ua:=λ i c hi hc=>by
  rw[<-i6 hi λ k=>g A k c];exact ay λ m hm=>by rw[mL hi hm]
 ub:=λ i j hi hj=>by
  rw[pq i j,<-i6 hi λ k=>dl j k]
  . exact ay λ m hm=>by rw[mL hi hm,mL hj hm]
 bu:=λ i j hi hj=>by
  rw[<-tS hi λ k=>dl k j];exact ay λ m hm=>by rw[mL hm hi,mL hm hj,Vz]
theorem xR.start{A:Rows}{N w e:Nat}(hA:bh N w A)(h:iI A N 0 (2^e)):xR A N w ⟨A,units N,units N⟩ 0 0 (λ _=>0) e 0:=by
 have hu:iI (units N) N 0 (2^e):=λ i c _ hi=>by
  by_cases hc:c<N
  . rw[mL hi hc];unfold dl;split
    . exact W7
    . exact UK _
  . unfold g;rw[mT (l:=(units N).getD i []) (by rw[bo (pN N) hi];omega)];exact UK _
 exact⟨Tn.start hA,UK _,⟨h,hu,hu⟩,λ _ _ h=>absurd h (Vl _),λ _ _ _ _ h=>absurd h (Vl _),λ _ h=>absurd h (Vl _),λ _ _ _ h=>absurd h (Vl _),λ _ _ _ h=>absurd h (Vl _)⟩
def SU(f:Nat->Nat):Nat->Nat
 |0=>0
 |n+1=>SU f n+f n
theorem Kt{f f':Nat->Nat}:∀ {n:Nat},(∀i,i<n->f' i<=f i)->SU f' n<=SU f n
 |0,_=>Ue _
 |n+1,h=>Nat.add_le_add (Kt λ i hi=>h i (US hi)) (h n (UN n))
theorem La{f f':Nat->Nat}{k:Nat}(hlt:f' k<f k):∀ {n:Nat},k<n->(∀i,i<n->f' i<=f i)->SU f' n<SU f n
 |0,hk,_=>absurd hk (Vl _)
 |n+1,hk,h=>by
  by_cases e:k=n
  . subst e;exact Nat.add_lt_add_of_le_of_lt (Kt λ i hi=>h i (US hi)) hlt
  . exact Nat.add_lt_add_of_lt_of_le (La hlt (by omega) λ i hi=>h i (US hi)) (h n (UN n))
def mu(A:Rows)(N p:Nat):Nat:=SU (λ i=>(g A i p).natAbs) N
inductive Pc(N p:Nat):Nat->B3->Nat->B3->Prop
 |none {top:Nat} {b:B3} (h:ow b.A N top p []):Pc N p top b top b
 |one {top r:Nat} {b c:B3} (h:kC N top p b c) (l:ow c.A N top p [r]):Pc N p top b (top+1) (oq p top top (setB c p top r))
inductive yR(A:Rows)(N:Nat):Nat->Nat->B3->Prop
 |start:yR A N 0 0 ⟨A,units N,units N⟩
 |next {p t t':Nat} {b b':B3} (h:yR A N p t b) (c:Pc N p t b t' b'):yR A N (p+1) t' b'
def Ez(N e0:Nat):Nat->Nat
 |0=>e0
 |t+1=>(N-t+1)*(Ez N e0 t+1)
def dg(X:Rows)(n w:Nat)(v:Nat->Int):Prop:=∃z:Nat->Int,∀c,c<w->v c=S n λ k=>z k*g X k c
theorem dg.row{X:Rows}{n w k:Nat}(hk:k<n):dg X n w (g X k):=⟨λ i=>dl k i,λ c _=>(i6 hk λ i=>g X i c).symm⟩
theorem dg.sub{X:Rows}{n w:Nat}{u v:Nat->Int}(hu:dg X n w u)(hv:dg X n w v):dg X n w λ c=>u c-v c:=by
 obtain⟨y,hy⟩:=hu;obtain⟨z,hz⟩:=hv;refine⟨λ k=>y k-z k,λ c hc=>?_⟩;show u c-v c=S n λ k=>(y k-z k)*g X k c;rw[hy c hc,hz c hc,WH,<-x6,<-jz];exact ay λ k _=>by rw[Int.sub_mul,WH]
theorem dg.trans{X Y:Rows}{m n w:Nat}{v:Nat->Int}(h:∀k,k<m->dg Y n w (g X k))(hv:dg X m w v):dg Y n w v:=by
 obtain⟨z,hz⟩:=hv
 have h':∀k,∃y:Nat->Int,k<m->∀c,c<w->g X k c=S n λ i=>y i*g Y i c:=λ k=>by
  by_cases hk:k<m
  . obtain⟨y,hy⟩:=h k hk;exact⟨y,λ _=>hy⟩
  . exact⟨λ _=>0,λ h=>absurd h hk⟩
 refine⟨λ i=>S m λ k=>z k*Classical.choose (h' k) i,λ c hc=>?_⟩;rw[hz c hc]
 have e1:S m (λ k=>z k*g X k c)=S m λ k=>S n λ i=>z k*Classical.choose (h' k) i*g Y i c:=ay λ k hk=>by
  rw[Xy (h' k) hk c hc,<-c7];exact ay λ i _=>(Vx _ _ _).symm
 rw[e1,jV];exact ay λ i _=>l6 _ _ _
structure cV(X:Rows)(n w:Nat)(ld:Nat->Nat):Prop where
 lead:∀i,i<n->ld i<w/\0<g X i (ld i)/\∀c,c<ld i->g X i c=0
 mono:∀i j,i<j->j<n->ld i<ld j
theorem cV.inj{X:Rows}{n w:Nat}{ld:Nat->Nat}(s:cV X n w ld){i j:Nat}(hi:i<n)(hj:j<n)(h:ld i=ld j):i=j:=by
 rcases WI i j with q|q|q
 . exact absurd h (UG (s.mono i j q hj))
 . exact q
 . exact absurd h.symm (UG (s.mono j i q hi))
theorem cV.lt{X:Rows}{n w:Nat}{ld:Nat->Nat}(s:cV X n w ld){i j:Nat}(hi:i<n)(hj:j<n)(h:ld i<ld j):i<j:=by
 rcases WI i j with q|q|q
 . exact q
 . rw[q]at h;exact absurd h (U0 _)
 . exact absurd (V8 h (s.mono j i q hi)) (U0 _)
theorem cV.gone{X:Rows}{n w q:Nat}{ld:Nat->Nat}{v z:Nat->Int}(s:cV X n w ld)(hz:∀c,c<w->v c=S n λ k=>z k*g X k c)(h0:∀c,c<q->v c=0)(k:Nat):k<n->ld k<q->z k=0:=by
 induction k using Nat.strongRecOn with
 |ind k ih=>
  intro hk hq;obtain⟨h1,h2,h3⟩:=s.lead k hk;have e:=hz (ld k) h1;rw[h0 _ hq,nC hk λ i hi ne=>?_]at e
  . exact(Int.mul_eq_zero.mp e.symm).resolve_right (Yx h2)
  . rcases Nat.lt_or_gt_of_ne ne with l|l
    . rw[ih i l hi (V8 (s.mono i k l hk) hq),Wx]
    . rw[(s.lead i hi).2.2 _ (s.mono k i l hi),UZ]
theorem cV.at{X:Rows}{n w q:Nat}{ld:Nat->Nat}{v:Nat->Int}(s:cV X n w ld)(hv:dg X n w v)(hq:q<w)(h0:∀c,c<q->v c=0):(∃i,i<n/\ld i=q/\g X i q∣v q)\/v q=0:=by
 obtain⟨z,hz⟩:=hv
 have go:∀k,k<n->ld k≠q->z k*g X k q=0:=λ k hk ne=>by
  rcases Nat.lt_or_gt_of_ne ne with l|l
  . rw[s.gone hz h0 k hk l,Wx]
  . rw[(s.lead k hk).2.2 _ l,UZ]
 by_cases h:∃i,i<n/\ld i=q
 . obtain⟨i,hi,e⟩:=h;refine .inl ⟨i,hi,e,z i,?_⟩;rw[hz q hq,nC hi λ k hk ne=>go k hk λ z=>ne (s.inj hk hi (z.trans e.symm)),Vz]
 . refine .inr ?_;rw[hz q hq];exact nX λ k hk=>go k hk λ e=>h ⟨k,hk,e⟩
theorem cV.sees{X Y:Rows}{n m w:Nat}{ld ld':Nat->Nat}(sX:cV X n w ld)(sY:cV Y m w ld')(h:∀k,k<n->dg Y m w (g X k))(i:Nat)(hi:i<n):∃j,j<m/\ld' j=ld i/\g Y j (ld i)∣g X i (ld i):=by
 obtain⟨h1,h2,h3⟩:=sX.lead i hi;rcases sY.at (h i hi) h1 h3 with q|q
 . exact q
 . rw[q]at h2;exact absurd h2 (by decide)
theorem cV.same{X Y:Rows}{n m w:Nat}{ld ld':Nat->Nat}(sX:cV X n w ld)(sY:cV Y m w ld')(h1:∀k,k<n->dg Y m w (g X k))(h2:∀k,k<m->dg X n w (g Y k))(i:Nat):i<n->i<m/\ld' i=ld i/\g Y i (ld i)=g X i (ld i):=by
 induction i using Nat.strongRecOn with
 |ind i ih=>
  intro hi;obtain⟨j,hj,ej,dj⟩:=sX.sees sY h1 i hi
  have e:j=i:=by
   rcases WI j i with l|l|l
   . have:=(ih j l (V8 l hi)).2.1;exact absurd (this.symm.trans ej) (UG (sX.mono j i l hi))
   . exact l
   . obtain⟨k,hk,ek,_⟩:=sY.sees sX h2 i (V8 l hj);have lk:k<i:=sX.lt hk hi (by rw[ek,<-ej];exact sY.mono i j l hj);have:=(ih k lk hk).2.1;exact absurd (this.trans ek) (UG (sY.mono k i lk (V8 l hj)))
  subst e;refine⟨hj,ej,?_⟩;obtain⟨k,hk,ek,dk⟩:=sY.sees sX h2 j hj;have:=sX.inj hk hi (ek.trans ej);subst this;rw[ej]at dk;exact Int.dvd_antisymm (by rw[<-ej];exact Vq (sY.lead k hj).2.1) (Vq (sX.lead k hi).2.1) dj dk
def EU(X:Rows)(n:Nat)(ld:Nat->Nat):Prop:=∀i j,i<j->j<n->0<=g X i (ld j)/\g X i (ld j)<g X j (ld j)
theorem cV.only{X Y:Rows}{n m w:Nat}{ld ld':Nat->Nat}(sX:cV X n w ld)(sY:cV Y m w ld')(h1:∀k,k<n->dg Y m w (g X k))(h2:∀k,k<m->dg X n w (g Y k))(rX:EU X n ld)(rY:EU Y m ld'){i:Nat}(hi:i<n)(c:Nat):c<w->g X i c=g Y i c:=by
 induction c using Nat.strongRecOn with
 |ind c ih=>
  intro hc;obtain⟨im,il,ig⟩:=sX.same sY h1 h2 i hi;have hv:dg X n w λ c=>g X i c-g Y i c:=(dg.row hi).sub (h2 i im);rcases sX.at hv hc λ d hd=>by rw[ih d hd (V8 hd hc),Y9]with⟨j,hj,rfl,d⟩|q
  . obtain⟨jm,jl,jg⟩:=sX.same sY h1 h2 j hj;rcases WI i j with l|l|l
    . have a:=rX i j l hj;have b:=rY i j l jm;rw[jl,jg]at b;exact YU (WZ d (by omega))
    . subst l;exact ig.symm
    . rw[(sX.lead i hi).2.2 _ (sX.mono j i l hi),(sY.lead i im).2.2 _ (by rw[il];exact sX.mono j i l hi)]
  . exact YU q
def Sm(b:B3)(N m:Nat):Prop:=∀i c,i<N->(g b.A i c).natAbs<=m/\(g b.U i c).natAbs<=m/\(g b.C i c).natAbs<=m
theorem KU{n:Nat}{f:Nat->Int}:∀ {N:Nat},n<=N->(∀i,n<=i->i<N->f i=0)->S N f=S n f
 |0,h,_=>by rw[Nat.le_zero.mp h]
 |N+1,h,z=>by
  by_cases e:n=N+1
  . rw[e]
  . have hn:n<=N:=by omega
    show S N f+f N=_;rw[z N hn (UN N),V6];exact KU hn λ i h1 h2=>z i h1 (US h2)
theorem xR.in{A:Rows}{N w top e u:Nat}{c:B3}{ld:Nat->Nat}(s:xR A N w c top w ld e u)(k:Nat)(hk:k<top):dg A N w (g c.A k):=
 ⟨g c.U k,λ q hq=>s.tn.ua k q (UE hk s.le) hq⟩
theorem xR.out{A:Rows}{N w top e u:Nat}{c:B3}{ld:Nat->Nat}(s:xR A N w c top w ld e u)(k:Nat)(hk:k<N):dg c.A top w (g A k):=by
 refine⟨λ i=>g c.C i k,λ q hq=>?_⟩
 have e1:S N (λ i=>g c.C i k*g c.A i q)=g A k q:=by
  have:S N (λ i=>g c.C i k*g c.A i q)=S N λ i=>S N λ j=>g c.C i k*g c.U i j*g A j q:=ay λ i hi=>by
   rw[s.tn.ua i q hi hq,<-c7];exact ay λ j _=>(Vx _ _ _).symm
  rw[this,jV]
  have e2:S N (λ j=>S N λ i=>g c.C i k*g c.U i j*g A j q)=S N λ j=>dl k j*g A j q:=ay λ j hj=>by
   rw[l6,s.tn.bu k j hk hj]
  rw[e2,i6 hk λ j=>g A j q]
 rw[<-e1];exact KU s.le λ i h1 h2=>by rw[s.zs i q h1 h2 hq,UZ]
theorem lS{X:Rows}{n i q:Nat}(h:i<n):g (X.take n) i q=g X i q:=by
 unfold g;rw[Uv (l:=X.take n),Uv (l:=X),W5 h]
theorem dg.S7{X:Rows}{n w:Nat}{u v:Nat->Int}(x:Int)(hu:dg X n w u)(hv:dg X n w v):dg X n w λ c=>u c+x*v c:=by
 obtain⟨y,hy⟩:=hu;obtain⟨z,hz⟩:=hv;refine⟨λ k=>y k+x*z k,λ c hc=>?_⟩;show u c+x*v c=S n λ k=>(y k+x*z k)*g X k c;rw[hy c hc,hz c hc,<-c7,<-jz];exact ay λ k _=>by rw[Int.add_mul,Vx]
theorem dg.eq{X:Rows}{n w:Nat}{u v:Nat->Int}(hu:dg X n w u)(h:∀c,c<w->v c=u c):dg X n w v:=by
 obtain⟨y,hy⟩:=hu;exact⟨y,λ c hc=>(h c hc).trans (hy c hc)⟩
structure l8(X:Rows)(n:Nat)(Y:Rows)(m w:Nat):Prop where
 to:∀k,k<n->dg Y m w (g X k)
 of:∀k,k<m->dg X n w (g Y k)
theorem l8.symm{X Y:Rows}{n m w:Nat}(h:l8 X n Y m w):l8 Y m X n w:=⟨h.of,h.to⟩
theorem l8.trans{X Y Z:Rows}{n m l w:Nat}(h:l8 X n Y m w)(h':l8 Y m Z l w):l8 X n Z l w:=
 ⟨λ k hk=>dg.trans h'.to (h.to k hk),λ k hk=>dg.trans h.of (h'.of k hk)⟩
theorem dg.zero{X:Rows}{n w:Nat}{v:Nat->Int}(h:∀c,c<w->v c=0):dg X n w v:=
 ⟨λ _=>0,λ c hc=>by rw[h c hc,nX λ k _=>Wx _]⟩
theorem qY{X:Rows}{r:Row}{k:Nat}(hk:k<=X.length)(i:Nat):(X.take k++r::X.drop k).getD i []=if i<k then X.getD i []else if i=k then r else X.getD (i-1) []:=by
 have lt:(X.take k).length=k:=by rw[Vn];omega
 rw[Uv,Uv,Uv];by_cases h:i<k
 . rw[Ud h,Uh (by rw[lt];exact h),W5 h]
 . rw[Ub h,UH (by rw[lt];omega),lt];by_cases h2:i=k
   . rw[Ud h2,h2,VY];rfl
   . rw[Ub h2];have:i-k=(i-1-k)+1:=by omega
     rw[this,VF,List.getElem?_drop];congr 2;omega
structure vS(F:Rows)(w:Nat)(ld:Nat->Nat)(row:Nat->Int)(i:Nat)(o:Int)(L:Nat->Int):Prop where
 pos:0<o
 sum:dg F i w λ c=>o*row c-L c
 off:∀k,k<i->L (ld k)=0
 least:∀(m:Int) (v:Nat->Int),dg F i w v->(∀k,k<i->m*row (ld k)=v (ld k))->o∣m
theorem cV.Q7{F:Rows}{n w:Nat}{ld:Nat->Nat}{v:Nat->Int}(s:cV F n w ld)(hv:dg F n w v)(h:∀k,k<n->0<=v (ld k)/\v (ld k)<g F k (ld k))(c:Nat):c<w->v c=0:=by
 induction c using Nat.strongRecOn with
 |ind c ih=>
  intro hc;rcases s.at hv hc λ d hd=>ih d hd (V8 hd hc)with⟨k,hk,rfl,d⟩|q
  . have:=h k hk;exact WZ d (by omega)
  . exact q
structure xC(F:Rows)(n w:Nat)(ld:Nat->Nat)(row:Nat->Int)(i:Nat)(L:Nat->Int):Prop where
 sum:dg F n w λ c=>row c-L c
 red:∀k,k<i->0<=L (ld k)/\L (ld k)<g F k (ld k)
theorem xC.start{F:Rows}{n w:Nat}{ld:Nat->Nat}{row:Nat->Int}:xC F n w ld row 0 row:=⟨dg.zero λ c _=>Y9 _,λ _ h=>absurd h (Vl _)⟩
theorem xC.step{F:Rows}{n w i:Nat}{ld:Nat->Nat}{row L:Nat->Int}(s:cV F n w ld)(hi:i<n)(f:xC F n w ld row i L):xC F n w ld row (i+1) λ c=>L c-(L (ld i)).fdiv (g F i (ld i))*g F i c:=by
 obtain⟨l1,l2,l3⟩:=s.lead i hi;refine⟨(f.sum.S7 ((L (ld i)).fdiv (g F i (ld i))) (dg.row hi)).eq λ c _=>by omega,λ k hk=>?_⟩;show 0<=L (ld k)-_*g F i (ld k)/\L (ld k)-_*g F i (ld k)<_;rcases WO k i with h|h
 . rw[l3 _ (s.mono k i h hi),UZ,V7];exact f.red k h
 . have:k=i:=XI (Yd hk) h;subst this;have e:=YS (L (ld k)) (g F k (ld k));have a:=Vj (L (ld k)) l2;have b:=VD (L (ld k)) l2;rw[Vz]at e;omega
theorem xC.zero{F:Rows}{n w:Nat}{ld:Nat->Nat}{row L:Nat->Int}(s:cV F n w ld)(f:xC F n w ld row n L):(∀c,c<w->L c=0)↔dg F n w row:=by
 constructor
 . exact λ h=>f.sum.eq λ c hc=>by rw[h c hc,V7]
 . exact λ h=>s.Q7 ((h.sub f.sum).eq λ c _=>by omega) f.red
theorem BY{K m:Nat}:∀ {n:Nat} {M:Fn},n<=K->(∀r c,r<n->c<n->(M r c).natAbs<=m)->(D n M).natAbs<=(K*m)^n
 |0,_,_,_=>by simp[D]
 |n+1,M,hn,h=>by
  rw[di]
  have key:∀j,j<n+1->(sg j*M 0 j*D n λ r c=>M (r+1) (sk j c)).natAbs<=m*(K*m)^n:=λ j hj=>by
   have a:=BY (K:=K) (m:=m) (n:=n) (M:=λ r c=>M (r+1) (sk j c)) (by omega) λ r c hr hc=>h (r+1) (sk j c) (by omega) (kP hc);have b:=h 0 j (by omega) hj;have s:(sg j).natAbs=1:=by unfold sg;split<;>rfl
   rw[U8,U8,s,Wt];exact Vd b a
  refine Uj (Aq key) ?_;rw[Wj,Wi ((K*m)^n),WB];exact Vf _ hn
theorem pick{t N:Nat}{U B:Fn}(h:∀k l,k<t->l<t->S N (λ i=>U k i*B i l)=dl k l):∃I:Nat->Nat,(∀k,k<t->I k<N)/\D t (λ k l=>B (I k) l)≠0:=by
 apply Wq;intro no
 have go:∀s,s<=t->∀I:Nat->Nat,(∀k,k<t->s<=k->I k<N)->D t (λ k l=>if k<s then dl k l else B (I k) l)=0:=by
  intro s;induction s with
  |zero=>
   intro _ I hI;exact Wq λ z=>no ⟨I,λ k hk=>hI k hk (UK _),z⟩
  |succ s ih=>
   intro hs I hI
   have e:D t (λ k l=>if k<s+1 then dl k l else B (I k) l)=D t (upd (λ k l=>if k<s then dl k l else B (I k) l) s λ l=>S N λ j=>U s j*B j l):=ba λ k l hk hl=>by
    unfold upd;by_cases h1:k=s
    . subst h1;rw[Ud rfl,Ud (UN _)];exact(h k l hk hl).symm
    . rw[Ub h1];show _=if k<s then dl k l else B (I k) l
      by_cases h2:k<s
      . rw[Ud (by omega),Ud h2]
      . rw[Ub (by omega),Ub h2]
   rw[e,(kK t).rp (by omega)];refine nX λ j hj=>?_
   have e2:=ih (by omega) (λ k=>if k=s then j else I k) λ k hk hsk=>by
    by_cases h1:k=s
    . rw[Ud h1];exact hj
    . rw[Ub h1];exact hI k hk (by omega)
   have e3:D t (upd (λ k l=>if k<s then dl k l else B (I k) l) s (B j))=D t (λ k l=>if k<s then dl k l else B (if k=s then j else I k) l):=ba λ k l hk hl=>by
    unfold upd;by_cases h1:k=s
    . subst h1;rw[Ud rfl,Ub (U0 _),Ud rfl]
    . rw[Ub h1,Ub h1]
   rw[e3,e2,UZ]
 have z:=go t (Ue _) (λ _=>0) λ k h1 h2=>absurd h1 (Nat.not_lt.mpr h2);rw[ba (M':=dl) λ r c hr hc=>Ud hr,u7]at z;exact absurd z (by decide)
theorem Cy:∀ {n:Nat} {f:Nat->Int},(∀i,i<n->0<f i)->0<Pr n f
 |0,_,_=>show(0:Int)<1 by decide
 |n+1,f,h=>Xm (Cy λ i hi=>h i (US hi)) (h n (UN n))
theorem Kx:∀ {n:Nat} {f:Nat->Int},(∀i,i<n->0<f i)->∀k,k<n->f k<=Pr n f
 |n+1,f,h,k,hk=>by
  have p:=Cy λ i hi=>h i (US hi);have q:=h n (UN n);show f k<=Pr n f*f n;by_cases e:k=n
  . subst e;have:=UU (show(1:Int)<=Pr k f from p) (Vq q);omega
  . have a:=Kx (λ i hi=>h i (US hi)) k (by omega);have:=Vw (show(1:Int)<=f n from q) (Vq p);omega
theorem yj{w x:Int}{m:Nat}(hw:w≠0)(h:(w*x).natAbs<=m):x.natAbs<=m:=by
 rw[U8]at h;exact Uj (Nat.le_mul_of_pos_left _ (by omega)) h
def i5(F:Rows)(i:Nat):Nat:=(F.getD i []).findIdx (λ x=>x != 0)
theorem xZ:∀ {r:Row} {l:Nat},(∀c,c<l->r.getD c 0=0)->r.getD l 0≠0->r.findIdx (λ x=>x != 0)=l
 | [],l,_,h=>(h rfl).elim
 |x::r,0,_,h=>by
  have h':(x != 0)=true:=Yj.mpr h;rw[List.findIdx_cons,h'];rfl
 |x::r,l+1,hz,h=>by
  have x0:(x != 0)=false:=bne_eq_false_iff_eq.mpr (hz 0 (Nat.zero_lt_succ _));rw[List.findIdx_cons,x0,xZ (r:=r) (l:=l) (λ c hc=>hz (c+1) (Yy hc)) h];rfl
theorem cV.i5{F:Rows}{n w:Nat}{ld:Nat->Nat}(s:cV F n w ld){i:Nat}(hi:i<n):Mx.i5 F i=ld i:=by
 obtain⟨_,h2,h3⟩:=s.lead i hi;exact xZ h3 (Yx h2)
theorem cV.Tw{F:Rows}{n w:Nat}{ld:Nat->Nat}(s:cV F n w ld):cV F n w (Mx.i5 F):=
 ⟨λ i hi=>by rw[s.i5 hi];exact s.lead i hi,λ i j h hj=>by rw[s.i5 hj,s.i5 (V8 h hj)];exact s.mono i j h hj⟩
def xm(F:Rows)(L:Row)(i:Nat):Int:=(L.getD (i5 F i) 0).fdiv (g F i (i5 F i))
def fJ(F:Rows)(r:Row):Nat->Row
 |0=>r
 |i+1=>f9 (fJ F r i) (-(xm F (fJ F r i) i)) (F.getD i [])
def tm(F:Rows)(r:Row)(n:Nat):Row:=(List.range n).map λ i=>xm F (fJ F r i) i
section
variable {F:Rows}{r:Row}{m w:Nat}(isF:bh m w F)(lr:r.length=w)
include isF lr
theorem rB:∀ {i:Nat},i<=m->(fJ F r i).length=w
 |0,_=>lr
 |i+1,h=>by
  unfold fJ;rw[jK (by rw[rB (by omega),isF.row (by omega)])];exact rB (by omega)
theorem Cg{i:Nat}(hi:i<m)(c:Nat):(fJ F r (i+1)).getD c 0=(fJ F r i).getD c 0-xm F (fJ F r i) i*g F i c:=by
 conv=>lhs;unfold fJ
 rw[o8 (by rw[rB isF lr (by omega),isF.row hi]),Ws];rfl
theorem DU:∀ {i:Nat},i<=m->∀c,r.getD c 0=(fJ F r i).getD c 0+S i λ j=>xm F (fJ F r j) j*g F j c
 |0,_,c=>(V6 _).symm
 |i+1,h,c=>by
  have e:=DU (i:=i) (by omega) c;rw[Cg isF lr (by omega)];show _=_+(S i _+xm F (fJ F r i) i*g F i c);omega
theorem DY(s:cV F m w (i5 F)):∀ {i:Nat},i<=m->xC F m w (i5 F) (λ c=>r.getD c 0) i (λ c=>(fJ F r i).getD c 0)
 |0,_=>xC.start
 |i+1,h=>by
  have:=(DY s (i:=i) (by omega)).step s h
  have e:(λ c=>(fJ F r (i+1)).getD c 0)=λ c=>(fJ F r i).getD c 0-((fJ F r i).getD (i5 F i) 0).fdiv (g F i (i5 F i))*g F i c:=by
   funext c;rw[Cg isF lr h];rfl
  rw[e];exact this
theorem yF{f e:Nat}(s:cV F m w (i5 F))(hF:∀k c,k<m->c<w->(g F k c).natAbs<=2^f)(hr:∀c,c<w->(r.getD c 0).natAbs<=2^e):∀ {i:Nat},i<=m->∀c,c<w->((fJ F r i).getD c 0).natAbs<=2^(e+i*(f+1))
 |0,_,c,hc=>by rw[Y8];exact hr c hc
 |i+1,h,c,hc=>by
  have ih:=yF s hF hr (i:=i) (by omega);obtain⟨l1,l2,_⟩:=s.lead i h;have q:=Uj (pX ((fJ F r i).getD (i5 F i) 0) l2) (ih _ l1);rw[Cg isF lr h]
  have p:(xm F (fJ F r i) i*g F i c).natAbs<=2^(e+i*(f+1))*2^f:=by
   rw[U8];exact Vd q (hF i c h hc)
  have b:=ih c hc
  have e1:2^(e+(i+1)*(f+1))=2^(e+i*(f+1))*2^f*2:=by
   rw[show e+(i+1)*(f+1)=e+i*(f+1)+f+1 by rw[Y4];omega,Wj,VR]
  have e2:2^(e+i*(f+1))<=2^(e+i*(f+1))*2^f:=Xb _ (Nat.pow_pos (by decide));rw[e1];omega
end
theorem J5{A0:Rows}{N w top e u:Nat}{c:B3}{ld:Nat->Nat}(H:xR A0 N w c top w ld e u){r ws:Row}(lw:ws.length=top)(hs:∀q,q<w->r.getD q 0=S top λ j=>ws.getD j 0*g c.A j q){q:Nat}(hq:q<w):(S N λ n=>(dQ ws (c.U.take top) (List.replicate N 0)).getD n 0*g A0 n q)=r.getD q 0:=by
 have T:=H.tn;have hl:(c.U.take top).length=top:=by rw[Vn,T.dz.len];exact W3 H.le
 have e1:∀n,(dQ ws (c.U.take top) (List.replicate N 0)).getD n 0=S top λ j=>ws.getD j 0*g c.U j n:=λ n=>by
  rw[rV (n:=N) n (by simp) (λ r hr=>T.dz.gc r (WU hr)) (by rw[hl,lw]),cY,WL,hl];refine ay λ j hj=>?_;unfold g;rw[aK (l:=c.U.take top) (by omega),List.getElem_take,aK (l:=c.U) (by have:=T.dz.len;have:=H.le;omega)]
 have e2:(S N λ n=>(dQ ws (c.U.take top) (List.replicate N 0)).getD n 0*g A0 n q)=S N λ n=>S top λ j=>ws.getD j 0*(g c.U j n*g A0 n q):=ay λ n _=>by
  rw[e1,<-l6];exact ay λ j _=>Vx _ _ _
 rw[e2,jV,hs q hq];refine ay λ j hj=>?_;rw[c7,<-T.ua j q (UE hj H.le) hq]
structure i0(A0:Rows)(N w:Nat)(b:B3)(top p:Nat)(ld:Nat->Nat)(e u v:Nat):Prop where
 tn:Tn A0 b.A b.U b.C N w
 le:top<=N
 lo:iI b.A N top (2^e)/\iI b.U N top (2^e)/\iI b.C N top (2^e)
 hi:∀i c,i<top->(g b.A i c).natAbs<=2^u/\(g b.U i c).natAbs<=2^u/\(g b.C i c).natAbs<=2^v
 zs:∀i c,top<=i->i<N->c<p->g b.A i c=0
 lead:∀i,i<top->ld i<p/\0<g b.A i (ld i)/\∀c,c<ld i->g b.A i c=0
 mono:∀i j,i<j->j<top->ld i<ld j
 red:∀i j,i<j->j<top->0<=g b.A i (ld j)/\g b.A i (ld j)<g b.A j (ld j)
theorem i0.T7{A0:Rows}{N w top p e u v:Nat}{b:B3}{ld:Nat->Nat}(S:i0 A0 N w b top p ld e u v):vK A0 N w top p (2^e) b b 1:=
 ⟨S.tn,λ _ _=>⟨rfl,rfl,rfl⟩,by rw[Xk];exact S.lo.1,by rw[Xk];exact S.lo.2.1,by rw[Xk];exact S.lo.2.2,S.zs,by rw[Wt];exact Ue _,Ue _,.inl rfl⟩
theorem i0.skip{A0:Rows}{N w top p e u v:Nat}{b:B3}{ld:Nat->Nat}(S:i0 A0 N w b top p ld e u v)(h:ow b.A N top p []):i0 A0 N w b top (p+1) ld e u v:=
 ⟨S.tn,S.le,S.lo,S.hi,λ i c h1 h2 h3=>by
  by_cases hc:c=p
  . subst hc;exact Wq λ z=>absurd ((h.mem i).mpr ⟨h1,h2,z⟩) (by simp)
  . exact S.zs i c h1 h2 (by omega),λ i hi=>⟨US (S.lead i hi).1,(S.lead i hi).2⟩,S.mono,S.red⟩
structure oK(A0:Rows)(N w top p e u v:Nat)(b:B3)(k:Nat)(c:B3):Prop where
 tn:Tn A0 c.A c.U c.C N w
 rA:∀i,k<=i->c.A.getD i []=b.A.getD i []/\c.U.getD i []=b.U.getD i []
 rC:∀i,i≠top->c.C.getD i []=b.C.getD i []
 ah:∀i q,i<k->q<p->g c.A i q=g b.A i q
 rd:∀i,i<k->0<=g c.A i p/\g c.A i p<g c.A top p
 sz:∀i q,i<k->(g c.A i q).natAbs<=2^(u+e+1)/\(g c.U i q).natAbs<=2^(u+e+1)
 sC:∀q,(g c.C top q).natAbs<=2^e+k*2^(u+v)
theorem oK.step{A0:Rows}{N w top p e u v k:Nat}{b c:B3}(I:oK A0 N w top p e u v b k c)(hk:k<top)(ht:top<N)(hp:p<w)(htp:0<g b.A top p)(hz:∀q,q<p->g b.A top q=0)
 (hlo:∀q,(g b.A top q).natAbs<=2^e/\(g b.U top q).natAbs<=2^e) (hhi:∀i q,i<top->(g b.A i q).natAbs<=2^u/\(g b.U i q).natAbs<=2^u/\(g b.C i q).natAbs<=2^v):
 oK A0 N w top p e u v b (k+1) ⟨aR c.A k ((g c.A k p).fdiv (g c.A top p)) top,aR c.U k ((g c.A k p).fdiv (g c.A top p)) top,aR c.C top (-((g c.A k p).fdiv (g c.A top p))) k⟩:=by
 have hkN:k<N:=by omega
 have gA:∀i q,k<=i->g c.A i q=g b.A i q:=λ i q hi=>by unfold g;rw[(I.rA i hi).1]
 have gU:∀i q,k<=i->g c.U i q=g b.U i q:=λ i q hi=>by unfold g;rw[(I.rA i hi).2]
 have gC:∀i q,i≠top->g c.C i q=g b.C i q:=λ i q hi=>by unfold g;rw[I.rC i hi]
 have qe:((g c.A k p).fdiv (g c.A top p)).natAbs<=2^u:=by
  rw[gA k p (Ue _),gA top p (by omega)];exact Uj (pX _ htp) (hhi k p hk).1
 have hq:∀x:Int,x.natAbs<=2^e->((g c.A k p).fdiv (g c.A top p)*x).natAbs<=2^(u+e):=λ x hx=>by
  rw[U8,VR];exact Vd qe hx
 have le1:2^u<=2^(u+e):=UA (by decide) (by omega);refine⟨I.tn.take hkN ht (by omega),λ i hi=>?_,λ i hi=>?_,λ i q hi hqp=>?_,λ i hi=>?_,λ i q hi=>?_,λ q=>?_⟩
 . exact⟨(lK (by rw[I.tn.isA.len];exact hkN) (by omega)).trans (I.rA i (by omega)).1,(lK (by rw[I.tn.dz.len];exact hkN) (by omega)).trans (I.rA i (by omega)).2⟩
 . exact(lK (by rw[I.tn.fe.len];exact ht) hi).trans (I.rC i hi)
 . show g (aR c.A k _ top) i q=_;rw[gd I.tn.isA hkN ht];split
   . rename_i h;rw[gA top q (by omega),hz q hqp,UZ,gA k q (Ue _),h];omega
   . exact I.ah i q (by omega) hqp
 . show 0<=g (aR c.A k _ top) i p/\g (aR c.A k _ top) i p<g (aR c.A k _ top) top p;rw[gd I.tn.isA hkN ht,gd I.tn.isA hkN ht,Ub (show¬top=k by omega)];split
   . have h1:=YT (g c.A k p) (g c.A top p);have htp':0<g c.A top p:=by rw[gA top p (by omega)];exact htp
     have h2:=Vj (g c.A k p) htp';have h3:=VD (g c.A k p) htp';rw[Vz]at h1;omega
   . exact I.rd i (by omega)
 . show(g (aR c.A k _ top) i q).natAbs<=_/\(g (aR c.U k _ top) i q).natAbs<=_;rw[gd I.tn.isA hkN ht,gd I.tn.dz hkN ht];split
   . have a1:=hq (g c.A top q) (by rw[gA top q (by omega)];exact(hlo q).1);have a2:=hq (g c.U top q) (by rw[gU top q (by omega)];exact(hlo q).2);rw[gA k q (Ue _),gU k q (Ue _)];have b1:=(hhi k q hk).1;have b2:=(hhi k q hk).2.1;rw[Wj];omega
   . exact I.sz i q (by omega)
 . show(g (aR c.C top _ k) top q).natAbs<=_;rw[gd I.tn.fe ht hkN,Ud rfl,gC k q (by omega),Ws];have a1:=I.sC q
   have a2:((g c.A k p).fdiv (g c.A top p)*g b.C k q).natAbs<=2^(u+v):=by
    rw[U8,VR];exact Vd qe (hhi k q hk).2.2
   rw[Xl,Wt];omega
theorem oK.start{A0:Rows}{N w top p e u v:Nat}{b:B3}(T:Tn A0 b.A b.U b.C N w)(h:∀q,(g b.C top q).natAbs<=2^e):oK A0 N w top p e u v b 0 b:=
 ⟨T,λ _ _=>⟨rfl,rfl⟩,λ _ _=>rfl,λ _ _ h=>absurd h (Vl _),λ _ h=>absurd h (Vl _),λ _ _ h=>absurd h (Vl _),λ q=>by rw[Y8];exact h q⟩
theorem y9.r_{A0:Rows}{N w top p e u v e' u' v':Nat}{b0 b c:B3}{ld:Nat->Nat}(S:i0 A0 N w b0 top p ld e u v)(s:y9 A0 N w top p (2^e') b0 b)(ht:top<N)(I:oK A0 N w top p e' u v b top c)(hN:N<=8)
 (h1:u+e'+1<=u') (h2:u+v+4<=v') (h9:e'+1<=v'):i0 A0 N w c (top+1) (p+1) (λ i=>if i=top then p else ld i) e' u' v':=by
 have hup:∀i q,i<top->g b.A i q=g b0.A i q:=λ i q hi=>by unfold g;rw[(s.up i hi).1]
 have hA:∀i q,top<=i->g c.A i q=g b.A i q:=λ i q hi=>by unfold g;rw[(I.rA i hi).1]
 have hU:∀i q,top<=i->g c.U i q=g b.U i q:=λ i q hi=>by unfold g;rw[(I.rA i hi).2]
 have hC:∀i q,i≠top->g c.C i q=g b.C i q:=λ i q hi=>by unfold g;rw[I.rC i hi]
 have le:∀ {a x:Nat},a<=2^x->x<=u'->a<=2^u':=λ h hx=>Uj h (UA (by decide) hx);refine⟨I.tn,ht,⟨λ i q hi hN=>?_,λ i q hi hN=>?_,λ i q hi hN=>?_⟩,λ i q hi=>?_,λ i q hi hN hq=>?_,λ i hi=>?_,λ i j hij hj=>?_,λ i j hij hj=>?_⟩
 . rw[hA i q (by omega)];exact s.lo.1 i q (by omega) hN
 . rw[hU i q (by omega)];exact s.lo.2.1 i q (by omega) hN
 . rw[hC i q (by omega)];exact s.lo.2.2 i q (by omega) hN
 . by_cases h:i=top
   . subst h;refine⟨?_,?_,?_⟩
     . rw[hA i q (Ue _)];exact le (s.lo.1 i q (Ue _) ht) (by omega)
     . rw[hU i q (Ue _)];exact le (s.lo.2.1 i q (Ue _) ht) (by omega)
     . have h3:=I.sC q;have h4:i*2^(u+v)<=2^(u+v+3):=by rw[VR _ _ 3,Wi];exact Wz _ (by omega)
       have h5:2^(u+v+3)*2<=2^v':=by rw[<-Wj];exact UA (by decide) h2
       have h6:2^e'*2<=2^v':=by rw[<-Wj];exact UA (by decide) h9
       omega
   . have hi':i<top:=by omega
     refine⟨le (I.sz i q hi').1 h1,le (I.sz i q hi').2 h1,?_⟩;rw[hC i q h];have:g b.C i q=g b0.C i q:=by unfold g;rw[(s.up i hi').2.2]
     rw[this];exact Uj (S.hi i q hi').2.2 (UA (by decide) (by omega))
 . rw[hA i q (by omega)];by_cases h:q=p
   . rw[h];exact s.z1 i (by omega) hN
   . exact s.zs i q (by omega) hN (by omega)
 . by_cases h:i=top
   . subst h;rw[Ud rfl];refine⟨UN p,?_,λ q hq=>?_⟩
     . rw[hA i p (Ue _)];exact s.tp
     . rw[hA i q (Ue _)];exact s.zs i q (Ue _) ht hq
   . have hi':i<top:=by omega
     rw[Ub h];obtain⟨a1,a2,a3⟩:=S.lead i hi';refine⟨US a1,?_,λ q hq=>?_⟩
     . rw[I.ah i _ hi' a1,hup i _ hi'];exact a2
     . rw[I.ah i _ hi' (V8 hq a1),hup i _ hi'];exact a3 q hq
 . by_cases h:j=top
   . rw[Ud h,Ub (by omega)];exact(S.lead i (by omega)).1
   . rw[Ub h,Ub (by omega)];exact S.mono i j hij (by omega)
 . by_cases h:j=top
   . subst h;rw[Ud rfl];exact I.rd i hij
   . have hj':j<top:=by omega
     rw[Ub h];have:=S.red i j hij hj';have hl:=(S.lead j hj').1;rw[I.ah i _ (by omega) hl,I.ah j _ hj' hl,hup i _ (by omega),hup j _ hj'];exact this
theorem i0.start{A:Rows}{N w e:Nat}(hA:bh N w A)(h:iI A N 0 (2^e)):i0 A N w ⟨A,units N,units N⟩ 0 0 (λ _=>0) e 0 0:=by
 have S:=xR.start hA h;exact⟨S.tn,S.le,S.lo,S.hi,S.zs,S.lead,S.mono,S.red⟩
theorem i0.R6{A0:Rows}{N w top p e u v:Nat}{b:B3}{ld:Nat->Nat}(S:i0 A0 N w b top p ld e u v):xR A0 N w b top p ld e (u+v):=
 ⟨S.tn,S.le,S.lo,λ i c hi=>⟨Uj (S.hi i c hi).1 (UA (by decide) (by omega)),Uj (S.hi i c hi).2.1 (UA (by decide) (by omega)),Uj (S.hi i c hi).2.2 (UA (by decide) (by omega))⟩,S.zs,S.lead,S.mono,S.red⟩
theorem i0.AY{A0:Rows}{N w top p e u v:Nat}{b:B3}{ld:Nat->Nat}(S:i0 A0 N w b top p ld e u v):top<=p:=by
 have go:∀i,i<top->i<=ld i:=λ i=>by
  induction i with
  |zero=>intro _;exact UK _
  |succ i ih=>
   intro h;have:=ih (by omega);have:=S.mono i (i+1) (by omega) h;omega
 rcases Nat.eq_zero_or_pos top with z|z
 . omega
 . have h1:=go (top-1) (by omega);have h2:=(S.lead (top-1) (by omega)).1;omega
def Uz(N e0:Nat):Nat->Nat
 |0=>0
 |t+1=>Uz N e0 t+Ez N e0 (t+1)+1
def Cz(N e0:Nat):Nat->Nat
 |0=>0
 |t+1=>Uz N e0 t+Cz N e0 t+Ez N e0 (t+1)+4
def Rm(N w e0:Nat):Prop:=∀t,t<N->t<w->Ez N e0 (t+1)<60000000/\Uz N e0 t+Ez N e0 (t+1)<=120000000/\Uz N e0 t+Cz N e0 t<=120000000
theorem HV{A F U B:Fn}{N w t b:Nat}{ld:Nat->Nat}(t8:t<=8)(b1:1<=b)(hA:∀i c,i<N->c<w->(A i c).natAbs<=b)(hAF:∀i c,i<N->c<w->A i c=S t λ k=>B i k*F k c)(hUB:∀k l,k<t->l<t->S N (λ i=>U k i*B i l)=dl k l)(lead:∀i,i<t->ld i<w/\0<F i (ld i)/\∀c,c<ld i->F i c=0)(mono:∀i j,i<j->j<t->ld i<ld j)(red:∀i j,i<j->j<t->0<=F i (ld j)/\F i (ld j)<F j (ld j)):
 Pr t (λ i=>F i (ld i))<=((9*b)^t:Nat)/\∀k c,k<t->c<w->(F k c).natAbs<=8*((9*b)^(t+1)*(9*b)^t):=by
 obtain⟨I,hI,hw⟩:=pick hUB;have eE:D t (λ k l=>F k (ld l))=Pr t λ i=>F i (ld i):=SQ λ r c hr hc h=>(lead r hr).2.2 _ (mono c r h hr);have pos:0<Pr t λ i=>F i (ld i):=Cy λ i hi=>(lead i hi).2.1
 have eM:D t (λ k l=>A (I k) (ld l))=D t (λ k l=>B (I k) l)*D t λ k l=>F k (ld l):=by
  rw[<-xj];exact ba λ k l hk hl=>hAF _ _ (hI k hk) (lead l hl).1
 have bM:(D t (λ k l=>A (I k) (ld l))).natAbs<=(9*b)^t:=BY (K:=9) (by omega) λ r c hr hc=>hA _ _ (hI r hr) (lead c hc).1;rw[eM,eE]at bM;have bP:(Pr t λ i=>F i (ld i)).natAbs<=(9*b)^t:=yj hw bM;refine⟨by omega,λ k c hk hc=>?_⟩
 have bF:∀l,l<t->(F k (ld l)).natAbs<=(9*b)^t:=λ l hl=>by
  have p:=Kx (f:=λ i=>F i (ld i)) (λ i hi=>(lead i hi).2.1) l hl;rcases WI k l with h|h|h
  . have:=red k l h hl;have p':F l (ld l)<=Pr t λ i=>F i (ld i):=p;omega
  . subst h;have q:=(lead k hk).2.1;have p':F k (ld k)<=Pr t λ i=>F i (ld i):=p;omega
  . rw[(lead k hk).2.2 _ (mono l k h hk)];exact UK _
 have e0:=Fz (λ l k=>F k (ld l)) t (λ k=>F k c) k;rw[Ct hk]at e0;have eT:D t (λ l k=>F k (ld l))=Pr t λ i=>F i (ld i):=by rw[<-eE];exact oo t λ k l=>F k (ld l)
 rw[eT]at e0
 have bB:∀l,l<t->(D t (λ k l=>B (I k) l)*bt (λ l k=>F k (ld l)) t (λ k=>F k c) l).natAbs<=(9*b)^(t+1):=λ l hl=>by
  have eW:D (t+1) (λ i k=>if i=t then dl t k else if k=t then 0 else B (I i) k)=D t λ k l=>B (I k) l:=by
   rw[uo λ c _=>Ud rfl];exact ba λ r c hr hc=>by rw[Ub (by omega),Ub (by omega)]
  have eX:D (t+1) (upd (λ i r=>if r<t then A (I i) (ld r)else A (I i) c) t (dl l))=D t (λ k l=>B (I k) l)*bt (λ l k=>F k (ld l)) t (λ k=>F k c) l:=by
   unfold bt;rw[<-eW,<-xj];refine ba λ i r hi hr=>?_;by_cases h:i=t
   . subst h;rw[bS];have:(S (i+1) λ k=>(if i=i then dl i k else if k=i then 0 else B (I i) k)*upd (λ c_1 r=>if r<i then F c_1 (ld r)else F c_1 c) i (dl l) k r)=S (i+1) λ k=>dl i k*upd (λ c_1 r=>if r<i then F c_1 (ld r)else F c_1 c) i (dl l) k r:=ay λ k _=>by rw[Ud rfl]
     rw[this,i6 (UN i),bS]
   . have hi':i<t:=by omega
     rw[aB h];show _=(S t λ k=>(if i=t then dl t k else if k=t then 0 else B (I i) k)*upd (λ c_1 r=>if r<t then F c_1 (ld r)else F c_1 c) t (dl l) k r)+(if i=t then dl t t else if t=t then 0 else B (I i) t)*upd (λ c_1 r=>if r<t then F c_1 (ld r)else F c_1 c) t (dl l) t r;have z:(if i=t then dl t t else if t=t then 0 else B (I i) t)*upd (λ c_1 r=>if r<t then F c_1 (ld r)else F c_1 c) t (dl l) t r=0:=by rw[Ub h,Ud rfl,Wx]
     rw[z,V6]
     have e2:∀k,k<t->(if i=t then dl t k else if k=t then 0 else B (I i) k)*upd (λ c_1 r=>if r<t then F c_1 (ld r)else F c_1 c) t (dl l) k r=B (I i) k*(if r<t then F k (ld r)else F k c):=λ k hk=>by
      rw[Ub h,Ub (by omega),aB (by omega)]
     rw[ay e2];by_cases hrt:r<t
     . rw[Ud hrt,hAF _ _ (hI i hi') (lead r hrt).1];exact ay λ k _=>by rw[Ud hrt]
     . rw[Ub hrt,hAF _ _ (hI i hi') hc];exact ay λ k _=>by rw[Ub hrt]
  rw[<-eX];refine BY (K:=9) (by omega) λ r q hr hq=>?_;by_cases h:r=t
  . subst h;rw[bS];unfold dl;split<;>omega
  . rw[aB h];have hr':r<t:=by omega
    split
    . rename_i hq';exact hA _ _ (hI r hr') (lead q hq').1
    . exact hA _ _ (hI r hr') hc
 have e1:D t (λ k l=>B (I k) l)*(Pr t λ i=>F i (ld i))*F k c= -S t λ l=>(D t (λ k l=>B (I k) l)*bt (λ l k=>F k (ld l)) t (λ k=>F k c) l)*F k (ld l):=by
  have:(S t λ l=>(D t (λ k l=>B (I k) l)*bt (λ l k=>F k (ld l)) t (λ k=>F k c) l)*F k (ld l))=D t (λ k l=>B (I k) l)*S t λ l=>bt (λ l k=>F k (ld l)) t (λ k=>F k c) l*F k (ld l):=by
   rw[<-c7];exact ay λ l _=>Vx _ _ _
  rw[this,Vx,<-Int.mul_neg];congr 1;omega
 refine yj (w:=D t (λ k l=>B (I k) l)*(Pr t λ i=>F i (ld i))) (Int.mul_ne_zero hw (Yx pos)) ?_;rw[e1,V4];refine Uj (Aq λ l hl=>?_) (Vf _ t8);rw[U8];exact Vd (bB l hl) (bF l hl)
theorem OG{A F:Rows}{N m w b:Nat}{ld:Nat->Nat}(m8:m<=8)(b1:1<=b)(hA:∀i c,i<N->c<w->(g A i c).natAbs<=b)(st:cV F m w ld)(red:EU F m ld)(same:l8 A N F m w):∀k c,k<m->c<w->(g F k c).natAbs<=8*((9*b)^(m+1)*(9*b)^m):=by
 have hB:∀i,∃z:Nat->Int,i<N->∀c,c<w->g A i c=S m λ k=>z k*g F k c:=λ i=>by
  by_cases h:i<N
  . obtain⟨z,hz⟩:=same.to i h;exact⟨z,λ _=>hz⟩
  . exact⟨λ _=>0,λ z=>absurd z h⟩
 have hU:∀k,∃z:Nat->Int,k<m->∀c,c<w->g F k c=S N λ i=>z i*g A i c:=λ k=>by
  by_cases h:k<m
  . obtain⟨z,hz⟩:=same.of k h;exact⟨z,λ _=>hz⟩
  . exact⟨λ _=>0,λ z=>absurd z h⟩
 let B:Fn:=λ i=>Classical.choose (hB i)
 let U:Fn:=λ k=>Classical.choose (hU k)
 have eB:∀i,i<N->∀c,c<w->g A i c=S m λ k=>B i k*g F k c:=λ i=>Xy (hB i);have eU:∀k,k<m->∀c,c<w->g F k c=S N λ i=>U k i*g A i c:=λ k=>Xy (hU k);refine(HV (A:=g A) (F:=g F) (U:=U) (B:=B) m8 b1 hA (λ i c hi hc=>eB i hi c hc) (λ k l hk hl=>?_) st.lead st.mono red).2
 have e1:∀c,c<w->S m (λ l=>(S N λ i=>U k i*B i l)*g F l c)=g F k c:=λ c hc=>by
  rw[eU k hk c hc]
  have:(S N λ i=>U k i*g A i c)=S N λ i=>S m λ l=>U k i*B i l*g F l c:=ay λ i hi=>by
   rw[eB i hi c hc,<-c7];exact ay λ l _=>(Vx _ _ _).symm
  rw[this,jV];exact ay λ l _=>(l6 _ _ _).symm
 have e2:∀c,c<w->(0:Int)=S m λ l=>((S N λ i=>U k i*B i l)-dl k l)*g F l c:=λ c hc=>by
  have h1:(S m λ l=>((S N λ i=>U k i*B i l)-dl k l)*g F l c)=S m (λ l=>(S N λ i=>U k i*B i l)*g F l c)-S m λ l=>dl k l*g F l c:=by
   rw[WH,<-x6,<-jz];exact ay λ l _=>by rw[Int.sub_mul,WH]
  rw[h1,e1 c hc,i6 hk,Y9]
 have e3:=st.gone (v:=λ _=>0) (z:=λ l=>(S N λ i=>U k i*B i l)-dl k l) (q:=w) e2 (λ _ _=>rfl) l hl (st.lead l hl).1;have e4:(S N λ i=>U k i*B i l)-dl k l=0:=e3;omega
theorem Ju{X B:Rows}{n w w' a b:Nat}(hX:bh n w X)(hB:bh w w' B)(w8:w<=8)(bX:∀i c,i<n->c<w->(g X i c).natAbs<=2^a)(bB:∀i c,i<w->c<w'->(g B i c).natAbs<=2^b):∀i c,i<n->c<w'->(g (mulM X B w') i c).natAbs<=2^(a+b+3):=λ i c hi hc=>by
 rw[D1 hX hB hi]
 have:=Aq (n:=w) (f:=λ k=>g X i k*g B k c) (m:=2^a*2^b) λ k hk=>by
  rw[U8];exact Vd (bX i k hi hk) (bB k c hk hc)
 refine Uj this ?_;rw[show a+b+3=3+(a+b) by omega,VR _ 3,VR];exact Vf _ w8
end Mx
set_option exponentiation.threshold 100
namespace Mx
theorem p2{a b:Nat}(h:a<=b):(2:Int)^a<=2^b:=by
 have:=UA (n:=2) (by decide) h;have h2:((2^a:Nat):Int)<=((2^b:Nat):Int):=W8.mpr this;rw[VC,VC]at h2;exact h2
theorem oG(a:Nat):(0:Int)<2^a:=YJ (by decide)
structure Lg(A0 A U C:Rows)(N w:Nat)(m:Nat->Nat):Prop where
 T:Tn A0 A U C N w
 D:∀p,p<=N->0<D p (af A)/\D p (af A)<=2^744
 len:∀i,i<N->af A i i<=2^m i
variable {A0 A U C:Rows}{N w:Nat}{m:Nat->Nat}
theorem Lg.ne(L:Lg A0 A U C N w m):∀k,k<=N->Mx.D k (af A)≠0:=λ k hk=>by have:=(L.D k hk).1;omega
theorem Lg.mono(L:Lg A0 A U C N w m){m':Nat->Nat}(h:∀i,i<N->m i<=m' i):Lg A0 A U C N w m':=⟨L.T,L.D,λ i hi=>UO (L.len i hi) (p2 (h i hi))⟩
theorem Lg.Sa(L:Lg A0 A U C N w m){i p:Nat}(hi:i<N)(hp:p<N):lam (af A) i p*lam (af A) i p<=2^(1488+m i):=by
 have h:=PU L.T.isA L.ne hi hp;have h1:=L.D p (by omega);have h2:=L.D (p+1) (by omega);have h3:=L.len i hi;have h4:=fN L.T.isA hi;have h5:Mx.D p (af A)*Mx.D (p+1) (af A)<=2^744*2^744:=V3 h1.2 h2.2 (by omega) (Vq (oG _));have h6:Mx.D p (af A)*Mx.D (p+1) (af A)*af A i i<=2^744*2^744*2^m i:=V3 h5 h3 h4 (Vq (Xm (oG _) (oG _)));have e:(2:Int)^744*2^744*2^m i=2^(1488+m i):=by rw[<-Wu,<-Wu]
 rw[e]at h6;exact UO h h6
theorem HB{x:Int}{b:Nat}(h:x*x<=2^(b+b)):x.natAbs<=2^b:=by
 refine qt (m:=2^b) (a:=2^b) (b:=2^b) (by rw[<-Wu];exact h) (Vq (oG _)) (Vq (oG _)) ?_ ?_<;>(rw[VC];exact Xi _)
theorem Lg.N_(L:Lg A0 A U C N w m){i p:Nat}(hi:i<N)(hp:p<N)(h:m i<=37000):(lam (af A) i p).natAbs<=2^40000:=HB (UO (L.Sa hi hp) (p2 (by omega)))
theorem Lg.ent(L:Lg A0 A U C N w m)(h:∀i,i<N->m i<=37000):∀r∈A,∀x∈r,x.natAbs<=2^400000:=λ r hr x hx=>by
 obtain⟨i,hi,e⟩:=UC.mp hr;have hl:=L.T.isA.len;have hiN:i<N:=by omega
 have e2:A.getD i []=r:=by rw[aK hi,e]
 have h1:=L.len i hiN;obtain⟨c,hc,ec⟩:=UC.mp hx;have hcw:c<w:=by have:=L.T.isA.gc r hr;omega
 rw[ix L.T.isA hiN hiN,e2]at h1
 have h2:x*x<=S w λ c=>r.getD c 0*r.getD c 0:=by
  have key:∀n,c<n->x*x<=S n λ c=>r.getD c 0*r.getD c 0:=λ n=>by
   induction n with
   |zero=>intro h;omega
   |succ n ih=>
    intro h;show x*x<=S n (λ c=>r.getD c 0*r.getD c 0)+r.getD n 0*r.getD n 0;by_cases hcn:c=n
    . subst hcn;rw[aK hc,ec];have:=p_ (n:=c) (f:=λ c=>r.getD c 0*r.getD c 0) λ i _=>sq_nonneg _;omega
    . have:=ih (by omega);have h9:=sq_nonneg (r.getD n 0);omega
  exact key w hcw
 exact HB (UO h2 (UO h1 (p2 (by have:=h i hiN;omega))))
theorem Lg.turn(L:Lg A0 A U C N w m)(h0:bh N w A0)(hN:N<=8)(hD0:Mx.D N (af A0)≠0)(g0:∀i,i<N->af A0 i i<=2^37000)(h:∀i,i<N->m i<=37000):(∀r∈U,∀x∈r,x.natAbs<=2^400000)/\∀r∈C,∀x∈r,x.natAbs<=2^400000:=by
 have b:(8*2^37000)^N<=2^400000:=by
  have e:8*2^37000=2^37003:=by rw[show 37003=3+37000 from rfl,VR]
  rw[e,<-YI];exact UA (by decide) (by omega)
 have key:∀i j,i<N->j<N->(g U i j).natAbs<=2^400000/\(g C i j).natAbs<=2^400000:=λ i j hi hj=>by
  have:=L.T.abs (m:=2^37000) h0 hN hD0 (L.ne N (Ue _)) (λ i hi=>by rw[VC];exact g0 i hi) (λ i hi=>by rw[VC];exact UO (L.len i hi) (p2 (h i hi))) hi hj;exact⟨Uj this.1 b,Uj this.2 b⟩
 have fin:∀ {B:Rows},bh N N B->(∀i j,i<N->j<N->(g B i j).natAbs<=2^400000)->∀r∈B,∀x∈r,x.natAbs<=2^400000:=λ{B} hB hb r hr x hx=>by
  obtain⟨i,hi,e⟩:=UC.mp hr;obtain⟨c,hc,ec⟩:=UC.mp hx;have hl:=hB.len;have hw:=hB.gc r hr;have:=hb i c (by omega) (by omega);unfold g at this;rw[aK hi,e,aK hc,ec]at this;exact this
 exact⟨fin L.T.dz λ i j hi hj=>(key i j hi hj).1,fin L.T.fe λ i j hi hj=>(key i j hi hj).2⟩
theorem Lg.take(L:Lg A0 A U C N w m){k j:Nat}{q:Int}(hj:j<k)(hk:k<N)(hq:q*q<=2^(1488+m k))(hmj:m j<=748):Lg A0 (aR A k q j) (aR U k q j) (aR C j (-q) k) N w λ i=>if i=k then m k+2240 else m i where
 T:=L.T.take hk (by omega) (by omega)
 D:=λ p hp=>by rw[xU L.T.isA hj hk hp];exact L.D p hp
 len:=λ i hi=>by
  by_cases h:i=k
  . subst h;rw[Ud rfl];have h1:=Gg (q:=q) L.T.isA hi (show j<N by omega) (by omega);have h2:=L.len i hi;have h3:=UO (L.len j (by omega)) (p2 hmj);have h4:=fN L.T.isA (i:=j) (by omega);have h5:q*q*af A j j<=2^(1488+m i)*2^748:=V3 hq h3 h4 (Vq (oG _));rw[<-Wu]at h5;have h6:=p2 (show m i<=1488+m i+748 by omega);have h7:(2:Int)^(m i+2240)=2^(1488+m i+748)*2^4:=by rw[<-Wu];congr 1;omega
    have h8:(2:Int)^4=16:=by decide
    rw[h7,h8];have h9:=oG (1488+m i+748);omega
  . rw[Ub h]
    have e:af (aR A k q j) i i=af A i i:=by
     rw[um L.T.isA hk (by omega) (by omega) hi hi];unfold tk tH rO;rw[Ub h,Ub h]
    rw[e];exact L.len i hi
theorem Lg.swap(L:Lg A0 A U C N w m){t:Nat}(ht:t+1<N)(hm:0<lam (cw (af A) t) t t/\lam (cw (af A) t) t t<=2^744):Lg A0 (aT A (t+1) t) (aT U (t+1) t) (aT C (t+1) t) N w λ i=>m (sw t (t+1) i) where
 T:=L.T.swap ht
 D:=λ p hp=>by
  rw[nY (by have:=L.T.isA.len;omega)];by_cases h:p=t+1
  . subst h;rw[<-dS];exact hm
  . rw[oW h];exact L.D p hp
 len:=λ i hi=>by
  rw[nY (by have:=L.T.isA.len;omega)];exact L.len _ (uv ht hi)
end Mx
set_option exponentiation.threshold 100
namespace Mx
theorem yU{f:Nat->Int}:∀n,(∀i,i<n->0<f i)->0<Pr n f
 |0,_=>by show(0:Int)<1;decide
 |n+1,h=>Xm (yU n λ i hi=>h i (by omega)) (h n (by omega))
theorem Kv{f h:Nat->Int}{t:Nat}:∀n,t<n->(∀i,i<n->0<f i)->(∀i,i<n->0<h i)->(∀i,i<n->i≠t->h i=f i)->h t<f t->Pr n h<Pr n f
 |0,ht,_,_,_,_=>by omega
 |n+1,ht,hf,hh,he,hl=>by
  show Pr n h*h n<Pr n f*f n;by_cases htn:t=n
  . subst htn
    have e:Pr t h=Pr t f:=by
     have key:∀m,m<=t->Pr m h=Pr m f:=λ m=>by
      induction m with
      |zero=>intro _;rfl
      |succ m ih=>intro hm;show Pr m h*h m=Pr m f*f m;rw[ih (by omega),he m (by omega) (by omega)]
     exact key t (Ue _)
    rw[e];exact Int.mul_lt_mul_of_pos_left hl (yU t λ i hi=>hf i (by omega))
  . rw[he n (by omega) (by omega)];exact Int.mul_lt_mul_of_pos_right (Kv n (by omega) (λ i hi=>hf i (by omega)) (λ i hi=>hh i (by omega)) (λ i hi=>he i (by omega)) hl) (hf n (by omega))
theorem Ki{f h:Nat->Int}:∀n,(∀i,i<n->h i=f i)->Pr n h=Pr n f
 |0,_=>rfl
 |n+1,he=>by show Pr n h*h n=Pr n f*f n;rw[Ki n λ i hi=>he i (by omega),he n (by omega)]
def j4(A:Rows)(t:Nat):Prop:=4*(D (t+2) (af A)*D t (af A)+lam (af A) (t+1) t*lam (af A) (t+1) t)<3*D (t+1) (af A)*D (t+1) (af A)
variable {A0 A U C:Rows}{N w:Nat}{m:Nat->Nat}
theorem xX(L:Lg A0 A U C N w m){t:Nat}(ht:t+1<N)(h:j4 A t):0<lam (cw (af A) t) t t/\lam (cw (af A) t) t t<D (t+1) (af A):=by
 have p0:=(L.D t (by omega)).1;have p1:=(L.D (t+1) (by omega)).1;have p2:=(L.D (t+2) (by omega)).1;have e:=rR (t:=t) (jM A) (by omega);have h1:=Xm p0 p2;have h2:=sq_nonneg (lam (af A) (t+1) t);unfold j4 at h;rw[Vz (D (t+2) (af A))]at h;constructor
 . have:0<D (t+1) (af A)*lam (cw (af A) t) t t:=by rw[e];omega
   exact Int.pos_of_mul_pos_left (by rw[Vz];exact this) p1
 . refine Int.lt_of_mul_lt_mul_left (a:=D (t+1) (af A)) ?_ (by omega);rw[e];have h3:=Xm p1 p1;have h4:3*D (t+1) (af A)*D (t+1) (af A)=3*(D (t+1) (af A)*D (t+1) (af A)):=by grind
   rw[h4]at h;omega
def mk(N k:Nat):Nat->Nat:=λ i=>if i=k then 748+2240*(N-k)else 748
structure Lk(A0 A U C:Rows)(N w k:Nat):Prop where
 L:Lg A0 A U C N w (mk N k)
 red:∀i,i<k->i<N->∀j,j<i->2*(((lam (af A) i j).natAbs:Nat):Int)<=D (j+1) (af A)
 flat:∀t,t+1<k->t+1<N->¬j4 A t
def tj(A:Rows)(N:Nat):Int:=Pr N λ p=>D (p+1) (af A)
theorem BN{k j:Nat}{q:Int}(hA:bh N w A)(hj:j<k)(hk:k<N):tj (aR A k q j) N=tj A N:=Ki N λ p hp=>xU hA hj hk (by omega)
theorem IE(L:Lg A0 A U C N w m){t:Nat}(ht:t+1<N)(h:j4 A t):tj (aT A (t+1) t) N<tj A N:=by
 have hl:=L.T.isA.len;have sm:=xX L ht h
 have e:∀p,D p (af (aT A (t+1) t))=if p=t+1 then lam (cw (af A) t) t t else D p (af A):=λ p=>by
  rw[nY (by omega)];by_cases hp:p=t+1
  . rw[Ud hp,hp,dS]
  . rw[Ub hp,oW hp]
 refine Kv (t:=t) N (by omega) (λ i hi=>(L.D (i+1) (by omega)).1) (λ i hi=>?_) (λ i hi hne=>?_) ?_
 . rw[e];split
   . exact sm.1
   . exact(L.D (i+1) (by omega)).1
 . rw[e,Ub (by omega)]
 . rw[e,Ud rfl];exact sm.2
theorem MR(L:Lg A0 A U C N w m):0<tj A N:=yU N λ i hi=>(L.D (i+1) (by omega)).1
theorem AQ(hA:bh N w A){k j:Nat}{q:Int}(hj:j<k)(hk:k<N):lam (af (aR A k q j)) k j=lam (af A) k j-q*D (j+1) (af A):=by
 rw[mX hA hj hk hk (by omega),Ud rfl,dS]
theorem Dv(hA:bh N w A){k j p:Nat}{q:Int}(hj:j<k)(hk:k<N)(hp:j<p)(hpk:p<=k):lam (af (aR A k q j)) k p=lam (af A) k p:=by
 rw[mX hA hj hk hk hpk,Ud rfl,ya hp,UZ,V7]
theorem Bc(hA:bh N w A){k j i p:Nat}{q:Int}(hj:j<k)(hk:k<N)(hi:i<N)(hik:i≠k)(hp:p<=i):lam (af (aR A k q j)) i p=lam (af A) i p:=by
 rw[mX hA hj hk hi hp,Ub hik,V7]
theorem OU(L:Lg A0 A U C N w m){k j:Nat}(hk:k<N)(hj:j<N):((2*lam (af A) k j+D (j+1) (af A)).fdiv (2*D (j+1) (af A)))*((2*lam (af A) k j+D (j+1) (af A)).fdiv (2*D (j+1) (af A)))<=2^(1488+m k):=by
 have h1:=(AI (t:=lam (af A) k j) (L.D (j+1) (by omega)).1).2;have h2:=L.Sa hk hj;generalize(2*lam (af A) k j+D (j+1) (af A)).fdiv (2*D (j+1) (af A))=q at*;have e1:q*q=((q.natAbs:Nat):Int)*((q.natAbs:Nat):Int):=(WT _).symm;have e2:lam (af A) k j*lam (af A) k j=(((lam (af A) k j).natAbs:Nat):Int)*(((lam (af A) k j).natAbs:Nat):Int):=(WT _).symm;rw[e1];rw[e2]at h2;exact UO (V3 h1 h1 (by omega) (by omega)) h2
end Mx
set_option exponentiation.threshold 100
namespace Mx
theorem qZ{n i j:Nat}(hi:i<n)(hj:j<n):g (units n) i j=dl i j:=by
 unfold g units jZ;rw[aK (l:=(List.range n).map _) (by simpa using hi),Vv,Vu,aK (by simpa using hj),Vv,Vu];exact pq _ _
theorem Tn.refl{A:Rows}{N w:Nat}(hA:bh N w A):Tn A A (units N) (units N) N w where
 isA:=hA
 dz:=pN N
 fe:=pN N
 ua:=λ i c hi hc=>by
  have e:S N (λ k=>g (units N) i k*g A k c)=S N λ k=>dl i k*g A k c:=ay λ k hk=>by rw[qZ hi hk]
  rw[e,i6 hi]
 ub:=λ i j hi hj=>by
  have e:S N (λ k=>g (units N) i k*g (units N) j k)=S N λ k=>dl i k*dl j k:=ay λ k hk=>by rw[qZ hi hk,qZ hj hk]
  rw[e,i6 hi];exact pq _ _
 bu:=λ i j hi hj=>by
  have e:S N (λ k=>g (units N) k i*g (units N) k j)=S N λ k=>dl i k*dl k j:=ay λ k hk=>by rw[qZ hk hi,qZ hk hj,pq k i]
  rw[e,i6 hi]
theorem Lk.start{A:Rows}{N w:Nat}(hA:bh N w A)(hD:∀k,k<=N->D k (af A)≠0)(hb:∀k,k<=N->D k (af A)<=2^744)(hl:∀i,i<N->af A i i<=2^748):Lk A A (units N) (units N) N w 1 where
 L:=⟨Tn.refl hA,λ p hp=>⟨mh hA hD p hp,hb p hp⟩,λ i hi=>UO (hl i hi) (p2 (by unfold Mx.mk;split<;>omega))⟩
 red:=λ i hi _ j hj=>by omega
 flat:=λ t ht=>by omega
end Mx
set_option exponentiation.threshold 100
namespace Mx
section
variable {A:Rows}{N w:Nat}
theorem Sh.two(h:Sh (af A) N){i:Nat}(h0:0<i)(hi:i<N):D i (af A)*D i (af A)<=2*D (i+1) (af A)*D (i-1) (af A):=by
 have a:=h.half i (i-1) (by omega) hi;have b:=h.O6 i h0 hi;rw[show i-1+1=i by omega]at a;generalize lam (af A) i (i-1)=l at*;generalize D i (af A)=d at*;generalize D (i+1) (af A)=p at*;generalize D (i-1) (af A)=q at*
 have c:4*l*l<=d*d:=by
  have h1:2*(l.natAbs:Int)*(2*(l.natAbs:Int))<=d*d:=V3 a a (by omega) (by omega);have h2:(l.natAbs:Int)*(l.natAbs:Int)=l*l:=by rw[<-XH,XQ]
  grind
 have e:3*d*d=3*(d*d):=by grind
 have e2:4*p*q=2*(2*p*q):=by grind
 omega
variable (hA:bh N w A)(hD:∀k,k<=N->D k (af A)≠0)(h2:∀i,0<i->i<N->D i (af A)*D i (af A)<=2*D (i+1) (af A)*D (i-1) (af A))
include hA hD h2
end
section
variable {A B U C:Rows}{N w:Nat}
theorem Tn.unit(T:Tn A B U C N w):D N (g U)*D N (g U)=1:=by
 have a:D N (λ r c=>S N λ k=>g U r k*(tr (g C)) k c)=D N dl:=ba λ r c hr hc=>T.ub r c hr hc;rw[xj,u7,oo]at a;generalize D N (g U)=x at*;generalize D N (g C)=y at*;have:x.natAbs*y.natAbs=1:=by rw[<-U8,a];rfl
 have hx:x.natAbs=1:=Nat.eq_one_of_mul_eq_one_right this;rcases Int.natAbs_eq x with h|h<;>rw[hx]at h<;>subst h<;>rfl
theorem Tn.same(T:Tn A B U C N w)(hA:bh N w A):D N (af B)=D N (af A):=by
 have e:D N (af B)=D N λ r c=>S N λ k=>g U r k*(λ k c=>S N λ l=>af A k l*tr (g U) l c) k c:=ba λ r c hr hc=>by
  rw[ix T.isA hr hc]
  have a1:S w (λ x=>(B.getD r []).getD x 0*(B.getD c []).getD x 0)=S w λ x=>S N λ k=>S N λ l=>g U r k*(g A k x*g A l x)*g U c l:=ay λ x hx=>by
   show g B r x*g B c x=_;rw[T.ua r x hr hx,T.ua c x hc hx,<-l6];refine ay λ k _=>?_;rw[<-c7];exact ay λ l _=>by grind
  rw[a1,jV];refine ay λ k hk=>?_;rw[jV,<-c7];refine ay λ l hl=>?_;rw[ix hA hk hl,l6,c7,Vx];rfl
 rw[e,xj,xj,oo];have u:=T.unit;generalize D N (g U)=x at*;generalize D N (af A)=y at*;have:x*(y*x)=(x*x)*y:=by grind
 rw[this,u,VQ]
end
end Mx
set_option exponentiation.threshold 100
namespace Mx
section
variable {A:Rows}{N w:Nat}
theorem BK(hA:bh N w A)(hD:∀k,k<=N->D k (af A)≠0)(h:Sh (af A) N):∀j t,t+j+1=N->D (t+1) (af A)<=2^j*D N (af A)*D t (af A)
 |0,t,e=>by
  have p:=mh hA hD t (by omega);have q:=mh hA hD N (Ue N);rw[e,Int.pow_zero,VQ];have:=Vw (show(1:Int)<=D t (af A)from p) (Vq q);omega
 |j+1,t,e=>by
  have ih:=BK hA hD h j (t+1) (by omega);have a:=h.two (i:=t+1) (by omega) (by omega);rw[show t+1-1=t by omega]at a;have p0:=mh hA hD t (by omega);have p1:=mh hA hD (t+1) (by omega);rw[Int.pow_succ];generalize D (t+1+1) (af A)=d2 at*;generalize D (t+1) (af A)=d1 at*;generalize D t (af A)=d0 at*;have s0:2*d2<=2*(2^j*D N (af A)*d1):=Vw ih (by decide);have s1:2*d2*d0<=2*(2^j*D N (af A)*d1)*d0:=UU s0 (by omega)
  have s2:d1*d1<=(2^j*2*D N (af A)*d0)*d1:=by
   have:2*(2^j*D N (af A)*d1)*d0=(2^j*2*D N (af A)*d0)*d1:=by grind
   omega
  exact X7 s2 p1
theorem Eh(hA:bh N w A)(hD:∀k,k<=N->D k (af A)≠0)(h:Sh (af A) N){b:Int}(hb:∀t,t<N->D (t+1) (af A)<=b*D t (af A)){i:Nat}(hi:i<N):∀j p,p+j=i->gx (af A) p (af A i) i<=D p (af A)*(((j+1:Nat):Int)*b)
 |0,p,e=>by
  have e':p=i:=by omega
  subst e';rw[pv];have:=hb p hi
  have e2:D p (af A)*(((0+1:Nat):Int)*b)=b*D p (af A):=by
   rw[show((0+1:Nat):Int)=1 from rfl,VQ,Vz]
  omega
 |j+1,p,e=>by
  have ih:=Eh hA hD h hb hi j (p+1) (by omega);have nx:=ll (R:=af A) (p:=p) (hD p (by omega)) (af A i) i;have sy:=nS (jM A) p p i;have hf:=h.half i p (by omega) hi;have p0:=mh hA hD p (by omega);have p1:=mh hA hD (p+1) (by omega);have hbp:=hb p (by omega);rw[sy]at nx;unfold lam at hf;generalize gx (af A) p (af A i) p=l at*;generalize gx (af A) (p+1) (af A i) i=g1 at*;generalize gx (af A) p (af A i) i=g0 at*;generalize D (p+1) (af A)=d1 at*;generalize D p (af A)=d0 at*
  have hl:l*l<=d1*d1:=by
   have h1:(l.natAbs:Int)*(l.natAbs:Int)<=d1*d1:=V3 (by omega) (by omega) (by omega) (by omega);have h2:(l.natAbs:Int)*(l.natAbs:Int)=l*l:=by rw[<-XH,XQ]
   omega
  have s1:d0*g1<=d0*(d1*(((j+1:Nat):Int)*b)):=Vw ih (by omega)
  have s2:g0*d1<=(d0*(((j+1:Nat):Int)*b)+d1)*d1:=by
   have:(d0*(((j+1:Nat):Int)*b)+d1)*d1=d0*(d1*(((j+1:Nat):Int)*b))+d1*d1:=by grind
   have:d1*g0=g0*d1:=Vz _ _;omega
  have s3:=X7 s2 p1
  have e3:d0*(((j+1+1:Nat):Int)*b)=d0*(((j+1:Nat):Int)*b)+b*d0:=by
   rw[show((j+1+1:Nat):Int)=((j+1:Nat):Int)+1 from rfl,Int.add_mul,YH,VQ,Vz d0 b]
  omega
theorem IY(hA:bh N w A)(hD:∀k,k<=N->D k (af A)≠0)(h:Sh (af A) N)(hN:N<=8){e:Nat}(hd:D N (af A)<=2^e){i:Nat}(hi:i<N):af A i i<=2^(N+2+e):=by
 have q:=mh hA hD N (Ue N)
 have hb:∀t,t<N->D (t+1) (af A)<=(2^(N-1)*2^e)*D t (af A):=λ t ht=>by
  have r:=BK hA hD h (N-1-t) t (by omega);have p:=mh hA hD t (by omega);have a1:(2:Int)^(N-1-t)<=2^(N-1):=p2 (by omega);have a2:(2:Int)^(N-1-t)*D N (af A)<=2^(N-1)*2^e:=V3 a1 hd (by omega) (Vq (YJ (by decide)));exact UO r (UU a2 (by omega))
 have s:=Eh hA hD h hb hi i 0 (by omega);rw[mH,jP,VQ]at s;have c:((i+1:Nat):Int)*(2^(N-1)*2^e)<=2^3*(2^(N-1)*2^e):=UU (by omega) (Vq (Xm (YJ (by decide)) (YJ (by decide))));have c2:(2:Int)^3*(2^(N-1)*2^e)=2^(N+2+e):=by rw[<-Wu,<-Wu,show 3+(N-1+e)=N+2+e by omega]
 rw[c2]at c;exact UO s c
end
end Mx
namespace Prog
open PySem L2 L3
open PySem.Spec hiding items?
open PyProof.Rows hiding St
theorem ji{i j:Int}(h1: -(2^64)<i)(h2:i<2^64):IntMulOk i j:= .of_left (intBits_le_64 h1 h2)
theorem Dp{i j:Int}(h1: -(2^64)<j)(h2:j<2^64):IntMulOk i j:= .of_right (intBits_le_64 h1 h2)
def isInt:D->Bool
 | .int _=>true
 |_=>false
abbrev ax(r:List Int):List D:=r.map D.int
abbrev cN(r:List Int):D:= .tup (ax r)
abbrev bC(r:List Int):D:= .lst (ax r)
abbrev dh(A:List (List Int)):D:= .tup (A.map cN)
def bL(st:ag):List D->List (List Int)->Prop
 | [],[]=>True
 |d::ds,r::rs=>items? st d=some (ax r)/\bL st ds rs
 |_,_=>False
structure e8(st:ag)(d:D)(A:List (List Int)):Prop where
 ex:∃ds,items? st d=some ds/\bL st ds A
theorem bL.len{st:ag}:∀ {ds:List D} {A:List (List Int)},bL st ds A->ds.length=A.length
 | [],[],_=>rfl
 |_::_,_::_,h=>by simp[bL.len h.2]
theorem bL.tup{st:ag}:∀ {A:List (List Int)},bL st (A.map cN) A
 | []=>trivial
 |_::_=>⟨rfl,bL.tup⟩
theorem bL.lst{st:ag}:∀ {A:List (List Int)},bL st (A.map bC) A
 | []=>trivial
 |_::_=>⟨rfl,bL.lst⟩
theorem bL.get{st:ag}:∀ {ds:List D} {A:List (List Int)} {i:Nat} {d:D},bL st ds A->ds[i]?=some d->∃r,A[i]?=some r/\items? st d=some (ax r)
 |_::_,r::_,0,_,h,e=>by simp at e;subst e;exact⟨r,rfl,h.1⟩
 |_::_,_::_,i+1,d,h,e=>by
  obtain⟨r,e1,e2⟩:=bL.get (i:=i) (d:=d) h.2 (by simpa using e);exact⟨r,by simpa using e1,e2⟩
theorem o6{st:ag}{A:List (List Int)}:e8 st (dh A) A:=⟨_,rfl,bL.tup⟩
structure Ext(st st':ag):Prop where
 len:st.length<=st'.length
 same:∀m,m<st.length->st'[m]?=st[m]?
theorem Ext.trans{st st1 st2:ag}(a:Ext st st1)(b:Ext st1 st2):Ext st st2:=⟨Uj a.len b.len,λ m h=>(b.same m (UE h a.len)).trans (a.same m h)⟩
theorem Ext.push{st:ag}{c:List Cell}:Ext st (st++c):=⟨by simp,λ m h=>Uh h⟩
theorem Ext.set{st:ag}{n:Nat}{c:Cell}{st0:ag}(a:Ext st0 st)(h:st0.length<=n):Ext st0 (st.set n c):=⟨by rw[Us];exact a.len,λ m hm=>by rw[Ug (by omega)];exact a.same m hm⟩
theorem Ext.items{st st':ag}{d:D}{xs:List D}(x:Ext st st')(e:items? st d=some xs):items? st' d=some xs:=by
 cases d with
 |ref n=>
  unfold items? at e⊢;simp only at e⊢;cases q:st[n]? with
  |none=>rw[q]at e;cases e
  |some c=>
   have hn:=(Ua.mp q).1;rw[x.same n hn];exact e
 |_=>exact e
theorem Ext.xJ{st st':ag}(x:Ext st st'):∀ {ds:List D} {A:List (List Int)},bL st ds A->bL st' ds A
 | [],[],_=>trivial
 |_::_,_::_,h=>⟨x.items h.1,x.xJ h.2⟩
theorem Ext.AE{st st':ag}(x:Ext st st'){d:D}{A:List (List Int)}(h:e8 st d A):e8 st' d A:=by
 obtain⟨ds,e,r⟩:=h.ex;exact⟨ds,x.items e,x.xJ r⟩
theorem jY{r:List Int}{k:Nat}(h:k<r.length):dY (ax r) (k:Int)=some (.int (r.getD k 0)):=by
 refine iC ?_;rw[Uw,Uq h,Mx.aK h];rfl
theorem getD_mem{r:List Int}{k:Nat}(h:k<r.length):r.getD k 0∈r:=by rw[Mx.aK h];exact Vp _
theorem ints_app{r:List Int}{x:Int}:ax r++[D.int x]=ax (r++[x]):=by simp[ax]
theorem IU{A:List (List Int)}{r:List Int}:A.map cN++[cN r]=(A++[r]).map cN:=by simp
theorem vV{r s:List Int}{d:D}(h:d∈fX (ax r) (ax s)):∃a b,a∈r/\b∈s/\d= .tup [.int a,.int b]:=by
 obtain⟨n,hn,e⟩:=UC.mp h;have e':(fX (ax r) (ax s))[n]?=some d:=by rw[Uq hn,e]
 obtain⟨x,y,ex,ey,rfl⟩:=wN e';rw[Uw]at ex ey;cases q1:r[n]? with
 |none=>rw[q1]at ex;cases ex
 |some a=>
  cases q2:s[n]? with
  |none=>rw[q2]at ey;cases ey
  |some b=>
   rw[q1]at ex;rw[q2]at ey;cases ex;cases ey;exact⟨a,b,UJ q1,UJ q2,rfl⟩
theorem CB(n:Nat):(List.replicate n [D.int 0]).flatten=ax (List.replicate n 0):=by
 induction n with
 |zero=>rfl
 |succ n ih=>rw[VI,Wa,ih];rfl
theorem zj:∀r:List Int,(ax r).map (λ x=>match x with| .int i=>i|_=>0)=r
 | []=>rfl
 |a::r=>by rw[ax,UP,UP,zj r]
theorem wW{d:D}{ds:List D}:dY (d::ds) 0=some d:=iC (j:=0) rfl
def intsOf(st:ag)(d:D):List Int:=match items? st d with
 |some xs=>xs.map λ x=>match x with| .int i=>i|_=>0
 |none=>[]
theorem zG{st:ag}{d:D}{r:List Int}(h:items? st d=some (ax r)):intsOf st d=r:=by
 unfold intsOf;rw[h];exact zj r
theorem Hg{x y:D}{xs ys:List D}:fX (x::xs) (y::ys)= .tup [x,y]::fX xs ys:=rfl
theorem Nk{n:Nat}{r:List Int}:(ax r).all (pl n)=true:=by
 refine U_.mpr λ d hd=>?_;obtain⟨i,_,rfl⟩:=Vy.mp hd;cases n<;>rfl
def aD:Addr:=237
def aP:Addr:=307
abbrev h_(b:Bool):Cell:=Cell.tab 217 ⟨113,32,113,66⟩ "Bench.live_rows.<locals>.<lambda>" b
abbrev qT:List (Addr×Pos×Str):=[(217,⟨113,32,113,66⟩,"Bench.live_rows.<locals>.<lambda>")]
def wH:cE:=λ _ _ _=>False
def sI:List Str:=["one","other","great","small","rest"]
def Jc:DS:=(aA (aQ 2 (cP qS (ae (aa 0) aq)))
 (aA (aQ 3 (cP qS (ae (aa 1) aq)))
 (aA (uM (cK (ak tf (aa 3) (dC (.int 0)))) (aA (aQ 4 (ak jW (aa 2) (aa 3)))
 (aA (aQ 2 (aa 3))
 (aQ 3 (aa 4)))))
 (bK (aa 2)))))
theorem BA{a:Int}{m:Nat}(h:a.natAbs<2^m):Builtin.Int.intBits a<=m:=by
 unfold Builtin.Int.intBits;by_cases h0:a.natAbs=0
 . have:a=0:=by omega
   subst this;simp
 . have:=(Xn h0).mpr h;split<;>omega
theorem j_{a b:Int}{m n:Nat}(ha:a.natAbs<=2^m)(hb:b.natAbs<=2^n)(h:m+n<=130000000):IntMulOk a b:=by
 have q:∀ {x:Int} {k:Nat},x.natAbs<=2^k->Builtin.Int.intBits x<=k+1:=λ{x k} h=>BA (VE h (V9 (by decide) (UN k)));have h1:=q ha;have h2:=q hb;have e:(2:Nat)^27=134217728:=by decide
 have z:Builtin.Int.intTooBig (Builtin.Int.intBits a+Builtin.Int.intBits b)=false:=by
  unfold Builtin.Int.intTooBig bitsLine;exact UT (by omega)
 unfold IntMulOk;rw[z];simp
abbrev T9(S:cE)(n:Nat)(P:DS)(N:List Str):Prop:=∀ds st K,S ds st K->ds.length=n/\P {nx:=λ _ st'=>K .aF st',rt:=K} (aV N ds) st
theorem FQ:T9 wH 2 Jc sI:=λ _ _ _ h=>h.elim
def pL:cE:=λ _ _ _=>False
def yb:List Str:=["top","bottom","shrink"]
def Pt:DS:=(aA (aQ 2 (aJ wH (ae (aa 0) (ae (aa 1) aq))))
 (aA (gj (cK (ak rF (aa 1) (dC (.int 0)))) (aQ 2 (kD gH (aa 2))) e_)
 (bK (p9 (ae (ak nW (aa 0) (aa 2)) (ae (ak nW (aa 1) (aa 2)) aq))))))
theorem Mf:T9 pL 2 Pt yb:=λ _ _ _ h=>h.elim
def A9:cE:=λ _ _ _=>False
def w6:List Str:=["one","other"]
def NQ:DS:=(bK (aJ pL (ae (ak cQ (ak bY (ak aU (aa 0) (dC (.int 0))) (ak aU (aa 1) (dC (.int 1)))) (ak bY (ak aU (aa 1) (dC (.int 0))) (ak aU (aa 0) (dC (.int 1))))) (ae (ak bY (ak aU (aa 0) (dC (.int 1))) (ak aU (aa 1) (dC (.int 1)))) aq))))
theorem Lv:T9 A9 2 NQ w6:=λ _ _ _ h=>h.elim
def yG:cE:=λ _ _ _=>False
def vk:List Str:=["one","other"]
def L0:DS:=(bK (aJ pL (ae (ak dM (ak bY (ak aU (aa 0) (dC (.int 0))) (ak aU (aa 1) (dC (.int 1)))) (ak bY (ak aU (aa 1) (dC (.int 0))) (ak aU (aa 0) (dC (.int 1))))) (ae (ak bY (ak aU (aa 0) (dC (.int 1))) (ak aU (aa 1) (dC (.int 1)))) aq))))
theorem Ig:T9 yG 2 L0 vk:=λ _ _ _ h=>h.elim
def yl:cE:=λ _ _ _=>False
def uW:List Str:=["one","other"]
def M3:DS:=(bK (aJ pL (ae (ak bY (ak aU (aa 0) (dC (.int 0))) (ak aU (aa 1) (dC (.int 0)))) (ae (ak bY (ak aU (aa 0) (dC (.int 1))) (ak aU (aa 1) (dC (.int 1)))) aq))))
theorem Ii:T9 yl 2 M3 uW:=λ _ _ _ h=>h.elim
def BS:cE:=λ _ _ _=>False
def yg:List Str:=["one","other"]
def Ov:DS:=(bK (aJ pL (ae (ak bY (ak aU (aa 0) (dC (.int 0))) (ak aU (aa 1) (dC (.int 1)))) (ae (ak bY (ak aU (aa 0) (dC (.int 1))) (ak aU (aa 1) (dC (.int 0)))) aq))))
theorem Mj:T9 BS 2 Ov yg:=λ _ _ _ h=>h.elim
def mQ:cE:=λ _ _ _=>False
def uV:List Str:=["n"]
def Nr:DS:=(bK (p9 (ae (aa 0) (ae (dC (.int 1)) aq))))
theorem Jj:T9 mQ 1 Nr uV:=λ _ _ _ h=>h.elim
def lq:cE:=λ ds st K=>∃(d:D) (A:List (List Int)),ds=[d]/\e8 st d A/\A.length<=1000/\K (dh A) st
def qA:List Str:=["rows"]
def HR:DS:=(bK (cP eS (ae (fT (g8 (aa 0)) [none] (bT 0) du (cP eS (ae (aa 0) aq))) aq)))
theorem oO{tg:ib}{te:DE}{ok:ag->Prop}{σc:cy}{st:ag}{K:List D->ag->Prop}{ds:List D}{A:List (List Int)}(f:List Int->D)(aO:ok st)(hr:bL st ds A)(hx:∀d r,r∈A->items? st d=some (ax r)->∀K',K' (f r) st->∃σ2,tg d σc=some σ2/\te σ2 st K')(k:K (A.map f) st):dG tg du te ok σc ds [] st K:=by
 refine iP (λ rest acc st'=>∃(A1 A2:List (List Int)),st=st'/\A1++A2=A/\bL st rest A2/\acc=A1.map f) ?_ ?_ _ _ _ ⟨[],A,rfl,rfl,hr,rfl⟩
 . rintro acc st' ⟨A1,A2,rfl,he,h,rfl⟩;match A2,h with
   | [],_=>
     rw[VV]at he;subst he;exact⟨aO,k⟩
 . rintro d rest acc st' ⟨A1,A2,rfl,he,h,rfl⟩ next
   match A2,h with
   |r::A2,h=>
    obtain⟨σ2,e2,q⟩:=hx d r (by rw[<-he];simp) h.1 (λ y st2=>dG tg du te ok σc rest (A1.map f++[y]) st2 K) (next _ _ ⟨A1++[r],A2,rfl,by rw[<-he];simp,h.2,by simp⟩);exact⟨aO,σ2,e2,q⟩
theorem El:T9 lq 1 HR qA:=by
 rintro ds st K ⟨d,A,rfl,⟨da,hd,ra⟩,hl,k⟩;refine⟨rfl,?_⟩;refine tY hd λ ok aO=>⟨fb (by rw[ra.len];exact hl),?_⟩
 refine oO cN aO ra (λ e r hr he K' q=>⟨_,rfl,eN he q⟩) ?_;exact eN rfl k
def mI:cE:=λ ds st K=>∃x y t r s,ds=[x,.int t,y]/\items? st x=some (ax r)/\items? st y=some (ax s)/\r.length<=1000/\(∀b∈s,IntMulOk t b)/\K (bC (Mx.f9 r t s)) st
def uX:List Str:=["row","times","other"]
def Nu:DS:=(bK (fT (qU (ae (aa 0) (ae (aa 2) aq))) [none,none,some 1] (jx 0 1) du (ak cQ (aa 0) (ak bY (aa 2) (aa 1)))))
theorem zP{t:Int}:∀(r s:List Int),(fX (ax r) (ax s)).map (λ d=>match d with| .tup [.int a,.int b]=> .int (a+t*b)|_=> .aF)=ax (Mx.f9 r t s)
 | [],_=>rfl
 |_::_,[]=>rfl
 |a::r,b::s=>by
  have:=zP (t:=t) r s;unfold fX Mx.f9 at this⊢;simp only[ax,UP,List.zip_cons_cons,YK]at this⊢;rw[this]
theorem Iq:T9 mI 3 Nu uX:=by
 rintro ds st K ⟨x,y,t,r,s,rfl,hx,hy,hl,hm,k⟩;refine⟨rfl,?_⟩;refine q_ hx hy λ ok aO=>⟨fb (by rw[rW];simp;omega),?_⟩
 refine comp_map (g:=λ d=>match d with| .tup [.int a,.int b]=> .int (a+t*b)|_=> .aF) (aO st hx hy) _ (λ d hd K' q=>?_) ?_
 . obtain⟨a,b,ha,hb,rfl⟩:=vV hd;exact⟨_,rfl,cS (hm b hb) (c6 q)⟩
 . rw[zP];exact k
def sL:cE:=λ ds st K=>∃(x y:D) (n:Nat) (ws:List Int) (A:List (List Int)),ds=[x,y,.int n]/\items? st x=some (ax ws)/\e8 st y A/\(∀r∈A,r.length=n)/\n<=1000/\(∀w∈ws,∀r∈A,∀b∈r,IntMulOk w b)/\K (cN (Mx.dQ ws A (List.replicate n 0))) st
def sq:List Str:=["weights","rows","wide","total","weight","row"]
def Je:DS:=(aA (aQ 3 (ak bY (mr (ae (dC (.int 0)) aq)) (aa 2)))
 (aA (fj (qU (ae (aa 0) (ae (aa 1) aq))) (jx 4 5) (aQ 3 (aJ mI (ae (aa 3) (ae (aa 4) (ae (aa 5) aq))))))
 (bK (cP eS (ae (aa 3) aq)))))
theorem GH:T9 sL 3 Je sq:=by
 rintro ds st K ⟨x,y,n,ws,A,rfl,hx,⟨dr,hy,hr⟩,hw,hn,hm,k⟩;refine⟨rfl,?_⟩;refine Ts (Ur rfl) (D4 ⟨by omega,by omega,fb (by simp;omega)⟩ ?_);rw[UL,CB];refine q_ hx hy λ ok aO=>?_
 refine fG (λ rest σ st'=>∃(v4 v5:Option D) (ws':List Int) (ds':List D) (A':List (List Int)) (acc:List Int),st=st'/\rest=fX (ax ws') ds'/\bL st ds' A'/\σ=[some x,some y,some (.int n),some (bC acc),v4,v5]/\acc.length=n/\(∀r∈A',r∈A)/\(∀w∈ws',w∈ws)/\Mx.dQ ws' A' acc=Mx.dQ ws A (List.replicate n 0)) ?_ ?_ _ _ _
  ⟨none,none,ws,dr,A,List.replicate n 0,rfl,rfl,hr,rfl,by simp,λ _ h=>h,λ _ h=>h,rfl⟩
 . rintro σ st1 ⟨v4,v5,ws',ds',A',acc,rfl,he,hr',rfl,hl,_,_,hs⟩;refine⟨aO _ hx hy,eN rfl ?_⟩
   have:Mx.dQ ws' A' acc=acc:=by
    match ws',ds',A',hr',he with
    | [],_,_,_,_=>unfold Mx.dQ;rfl
    |_::_,[],[],_,_=>unfold Mx.dQ;rfl
    |_::_,_::_,_::_,_,he=>cases he
   rw[this]at hs;rw[hs];exact k
 . rintro d rest σ st1 ⟨v4,v5,ws',ds',A',acc,rfl,he,hr',rfl,hl,ha,hw',hs⟩ next
   match ws',ds',A',hr',he with
   |w::ws',e::ds',r::A',hr',he=>
    simp only[ax,UP,Hg,VB]at he;obtain⟨rfl,rfl⟩:=he;refine⟨aO _ hx hy,_,rfl,?_⟩;have hrl:=hw r (ha r UB);refine⟨_,_,_,acc,r,rfl,rfl,hr'.1,by omega,λ b hb=>hm w (hw' w UB) r (ha r UB) b hb,?_⟩;refine next _ _ ⟨_,_,ws',ds',A',Mx.f9 acc w r,rfl,rfl,hr'.2,rfl,by rw[Mx.jK (by omega)];exact hl,λ q hq=>ha q (Uu _ hq),λ q hq=>hw' q (Uu _ hq),?_⟩
    rw[<-hs];rfl
   | [],_,_,_,he=>cases he
   |_::_,[],[],_,he=>cases he
def ue:cE:=λ ds st K=>∃(x y:D) (n:Nat) (A B:List (List Int)),ds=[x,y]/\e8 st x A/\e8 st y B/\B≠ []/\(∀r∈B,r.length=n)/\n<=1000/\A.length<=1000/\(∀w∈A,∀c∈w,∀r∈B,∀b∈r,IntMulOk c b)/\K (dh (Mx.mulM A B n)) st
def qB:List Str:=["one","other","wide"]
def FK:DS:=(aA (aQ 2 (cP fZ (ae (ak aU (aa 1) (dC (.int 0))) aq)))
 (bK (cP eS (ae (fT (g8 (aa 0)) [none,some 1,some 2] (bT 0) du (aJ sL (ae (aa 0) (ae (aa 1) (ae (aa 2) aq))))) aq))))
theorem Cv{st:ag}{n:Nat}{B:List (List Int)}{f:D->D}:∀ {ds:List D} {A:List (List Int)},bL st ds A->(∀d r,items? st d=some (ax r)->f d=cN (Mx.dQ r B (List.replicate n 0)))->ds.map f=(Mx.mulM A B n).map cN
 | [],[],_,_=>rfl
 |d::ds,r::A,h,hf=>by
  rw[UP,hf d r h.1,Cv h.2 hf];rfl
theorem Es:T9 ue 2 FK qB:=by
 rintro ds st K ⟨x,y,n,A,B,rfl,⟨da,hx,ra⟩,hy,hB,hw,hn,hl,hm,k⟩;refine⟨rfl,?_⟩;obtain⟨db,ey,rb⟩:=hy.ex;match B,db,rb,hB,hw,hm,hy,k,ey with
 |r0::B,d0::db,rb,_,hw,hm,hy,k,ey=>
  have h0:r0.length=n:=hw r0 UB;refine aM ey wW (fB rb.1 ?_);rw[Uk,h0];refine tY hx λ ok aO=>⟨fb (by rw[ra.len];exact hl),?_⟩
  refine comp_map (g:=λ d=>cN (Mx.dQ (intsOf st d) (r0::B) (List.replicate n 0))) aO da (λ d hd K' q=>?_) ?_
  . obtain⟨i,hi,ed⟩:=UC.mp hd;obtain⟨r,er,hr⟩:=ra.get (i:=i) (d:=d) (by rw[Uq hi,ed]);refine⟨_,rfl,d,y,n,r,r0::B,rfl,hr,hy,hw,hn,λ c hc=>hm r (UJ er) c hc,?_⟩;rw[zG hr]at q;exact q
  . refine eN rfl ?_;rw[Cv ra (n:=n) (B:=r0::B) λ d r h=>by rw[zG h]];exact k
 |_::_,[],rb,_,_,_,_,_,_=>exact rb.elim
def vY:cE:=λ ds st K=>∃(d:D) (A:List (List Int)) (j:Nat),ds=[d,.int j]/\e8 st d A/\(∀r∈A,j<r.length)/\A.length<=1000/\K (cN (Mx.yu A j)) st
def sA:List Str:=["rows","place"]
def IH:DS:=(bK (cP eS (ae (fT (g8 (aa 0)) [none,some 1] (bT 0) du (ak aU (aa 0) (aa 1))) aq)))
theorem GG{tg:ib}{te:DE}{ok:ag->Prop}{σc:cy}{st:ag}{K:List D->ag->Prop}{ds:List D}{A:List (List Int)}(f:List Int->D)(aO:ok st)(hr:bL st ds A)(hx:∀d r,r∈A->items? st d=some (ax r)->∀K',K' (f r) st->∃σ2,tg d σc=some σ2/\te σ2 st K')(k:K (A.map f) st):dG tg du te ok σc ds [] st K:=by
 refine iP (λ rest acc st'=>∃(A1 A2:List (List Int)),st=st'/\A1++A2=A/\bL st rest A2/\acc=A1.map f) ?_ ?_ _ _ _ ⟨[],A,rfl,rfl,hr,rfl⟩
 . rintro acc st' ⟨A1,A2,rfl,he,h,rfl⟩;match A2,h with
   | [],_=>
     rw[VV]at he;subst he;exact⟨aO,k⟩
 . rintro d rest acc st' ⟨A1,A2,rfl,he,h,rfl⟩ next
   match A2,h with
   |r::A2,h=>
    obtain⟨σ2,e2,q⟩:=hx d r (by rw[<-he];simp) h.1 (λ y st2=>dG tg du te ok σc rest (A1.map f++[y]) st2 K) (next _ _ ⟨A1++[r],A2,rfl,by rw[<-he];simp,h.2,by simp⟩);exact⟨aO,σ2,e2,q⟩
theorem FX(A:List (List Int))(j:Nat):A.map (λ r=>D.int (r.getD j 0))=ax (Mx.yu A j):=by unfold Mx.yu ax;rw[Vo];rfl
theorem Gf:T9 vY 2 IH sA:=by
 rintro ds st K ⟨d,A,j,rfl,⟨da,hd,ra⟩,hj,hl,k⟩;refine⟨rfl,?_⟩;refine tY hd λ ok aO=>⟨fb (by rw[ra.len];exact hl),?_⟩
 refine GG (λ r=> .int (r.getD j 0)) aO ra (λ e r hr he K' q=>⟨_,rfl,aM he (jY (hj r hr)) q⟩) ?_;rw[FX];exact eN rfl k
def kR:cE:=λ ds st K=>∃(d:D) (A:List (List Int)) (n:Nat),ds=[d,.int n]/\e8 st d A/\(∀r∈A,r.length=n)/\A.length<=1000/\n<=1000/\K (dh (Mx.GC A n)) st
def kJ:List Str:=["rows","wide"]
def Ae:DS:=(bK (cP eS (ae (fT (dN (ae (aa 1) aq)) [none,some 0] (bT 0) du (aJ vY (ae (aa 1) (ae (aa 0) aq)))) aq)))
theorem IQ(A:List (List Int))(n:Nat):(List.range n).map (λ j=>cN (Mx.yu A j))=(Mx.GC A n).map cN:=by unfold Mx.GC;rw[Vo];rfl
theorem yq:T9 kR 2 Ae kJ:=by
 rintro ds st K ⟨d,A,n,rfl,hd,hw,hl,hn,k⟩;refine⟨rfl,?_⟩;refine gO ⟨by omega,by omega⟩ ⟨fb (by rw[g6];omega),?_⟩;rw[UL];refine sD (λ j=>cN (Mx.yu A j)) n (λ i hi K' q=>⟨_,rfl,d,A,i,rfl,hd,λ r hr=>by rw[hw r hr];exact hi,hl,q⟩) ?_;rw[IQ];exact eN rfl k
def sj:cE:=λ ds st K=>∃(n i:Nat),ds=[.int n,.int i]/\n<=1000/\K (cN (Mx.jZ n i)) st
def oV:List Str:=["n","place"]
def Fx:DS:=(bK (cP eS (ae (fT (dN (ae (aa 0) aq)) [none,some 1] (bT 0) du (Kw (cK (ak lH (aa 0) (aa 1))) (dC (.int 1)) (dC (.int 0)))) aq)))
theorem CP:T9 sj 2 Fx oV:=by
 rintro ds st K ⟨n,i,rfl,hn,k⟩;refine⟨rfl,?_⟩;refine gO ⟨by omega,by omega⟩ ⟨fb (by rw[g6];omega),?_⟩;rw[UL];refine sD (λ j=> .int (Mx.dl j i)) n (λ j hj K' q=>⟨_,rfl,?_⟩) ?_
 . refine eq2 (λ h=>jn ?_) λ h=>?_
   . have:j=i:=by omega
     subst this;rw[Mx.dO]at q;exact q
   . rw[Mx.dX (by omega)]at q;exact q
 . have:(List.range n).map (λ j=>D.int (Mx.dl j i))=ax (Mx.jZ n i):=by unfold Mx.jZ ax;rw[Vo];rfl
   rw[this];exact eN rfl k
def nA:cE:=λ ds st K=>∃(n:Nat),ds=[.int n]/\n<=1000/\K (dh (Mx.units n)) st
def nr:List Str:=["n"]
def CW:DS:=(bK (cP eS (ae (fT (dN (ae (aa 0) aq)) [none,some 0] (bT 0) du (aJ sj (ae (aa 1) (ae (aa 0) aq)))) aq)))
theorem AV:T9 nA 1 CW nr:=by
 rintro ds st K ⟨n,rfl,hn,k⟩;refine⟨rfl,?_⟩;refine gO ⟨by omega,by omega⟩ ⟨fb (by rw[g6];omega),?_⟩;rw[UL];refine sD (λ i=>cN (Mx.jZ n i)) n (λ i hi K' q=>⟨_,rfl,n,i,rfl,hn,q⟩) ?_;have:(List.range n).map (λ i=>cN (Mx.jZ n i))=(Mx.units n).map cN:=by unfold Mx.units;rw[Vo];rfl
 rw[this];exact eN rfl k
def yd:cE:=λ ds st K=>∃(x y:D) (r s:List Int),ds=[x,y]/\items? st x=some (ax r)/\items? st y=some (ax s)/\r.length<=1000/\(∀a∈r,∀b∈s,IntMulOk a b)/\K (.int (Mx.iz r s)) st
def Aj:List Str:=["one","other"]
def RE:DS:=(bK (cP yz (ae (fT (qU (ae (aa 0) (ae (aa 1) aq))) [none,none] (jx 0 1) du (ak bY (aa 0) (aa 1))) aq)))
theorem Du:∀(r s:List Int),∃ns:List Int,(fX (ax r) (ax s)).map (λ d=>match d with| .tup [.int a,.int b]=> .int (a*b)|_=> .aF)=ax ns/\ns.sum=Mx.iz r s
 | [],_=>⟨[],rfl,rfl⟩
 |_::_,[]=>⟨[],rfl,rfl⟩
 |a::r,b::s=>by
  obtain⟨ns,h1,h2⟩:=Du r s;refine⟨a*b::ns,?_,?_⟩
  . have e:fX (ax (a::r)) (ax (b::s))= .tup [.int a,.int b]::fX (ax r) (ax s):=rfl;rw[e,UP,h1];rfl
  . rw[List.sum_cons,h2];rfl
theorem FW:T9 yd 2 RE Aj:=by
 rintro ds st K ⟨x,y,r,s,rfl,hx,hy,hl,hm,k⟩;refine⟨rfl,?_⟩;refine q_ hx hy λ ok aO=>⟨fb (by rw[rW];simp;omega),?_⟩
 obtain⟨ns,h1,h2⟩:=Du r s;refine comp_map (g:=λ d=>match d with| .tup [.int a,.int b]=> .int (a*b)|_=> .aF) (aO st hx hy) _ (λ d hd K' q=>?_) ?_
 . obtain⟨a,b,ha,hb,rfl⟩:=vV hd;exact⟨_,rfl,cS (hm a ha b hb) q⟩
 . rw[h1];refine OH (ints_map _) ?_;rw[h2];exact k
def DW:Nat:=1237940039285380274899124224
theorem Sd{p:Nat}(h:p<=8):(8*DW)^p<=2^744:=by
 have e:8*DW=2^93:=by decide
 rw[e,<-YI];exact UA (by decide) (by omega)
theorem bits_le{a:Int}{m:Nat}(h:a.natAbs<2^m):Builtin.Int.intBits a<=m:=by
 unfold Builtin.Int.intBits;by_cases h0:a.natAbs=0
 . have:a=0:=by omega
   subst this;simp
 . have:=(Xn h0).mpr h;split<;>omega
theorem Ef{a b:Int}(ha:a.natAbs<=2^744)(hb:b.natAbs<=2^744):IntMulOk a b:=by
 have l:(2:Nat)^744<2^745:=V9 (by decide) (by decide);have l2:745<=2^20:=by decide
 exact .of_bits (Uj (bits_le (VE ha l)) l2) (Uj (bits_le (VE hb l)) l2)
theorem Rt{a:Int}(ha:a.natAbs<=2^744)(h0:a≠0):a.natAbs.log2<9000:=by
 have l:(2:Nat)^744<2^745:=V9 (by decide) (by decide);have:=(Xn (show a.natAbs≠0 by omega)).mpr (VE ha l);omega
structure Gm(G:Mx.Fn)(n:Nat):Prop where
 le:n<=8
 bd:∀r c,r<n->c<n->(G r c).natAbs<=DW
 sym:∀i j,G i j=G j i
theorem Gm.gx{G:Mx.Fn}{n p i j:Nat}(h:Gm G n)(hp:p<n)(hi:i<n)(hj:j<n):(Mx.gx G p (G i) j).natAbs<=2^744:=Uj (Mx.G_ h.le h.bd hp hi hj) (Sd (by have:=h.le;omega))
theorem Gm.D{G:Mx.Fn}{n p:Nat}(h:Gm G n)(hp:p<=n):(Mx.D p G).natAbs<=2^744:=Uj (Mx.vb (by have:=h.le;omega) λ r c hr hc=>h.bd r c (by omega) (by omega)) (Sd (by have:=h.le;omega))
def qI:cE:=λ ds st K=>∃(G:Mx.Fn) (n i j:Nat) (m:Nat) (o1 o2:List Int) (dt d1 d2:D) (ts:List D),ds=[.int (G i j),dt,d1,d2]/\items? st dt=some ts/\bL st ts (Mx.qT G m)/\items? st d1=some (ax o1)/\items? st d2=some (ax o2)/\o1.length=j/\j<=o2.length/\j<=m/\(∀k,k<j->o1.getD k 0=Mx.lam G i k/\o2.getD k 0=Mx.lam G j k)/\(∀k,k<j->Mx.D k G≠0)/\Gm G n/\i<n/\j<n/\K (.int (Mx.gx G j (G i) j)) st
def qy:List Str:=["together","table","one","other","divisor","line","left","right"]
def GP:DS:=(aA (aQ 4 (dC (.int 1)))
 (aA (fj (EK (ae (aa 1) (ae (aa 2) (ae (aa 3) aq)))) (vm 5 6 7) (aA (aQ 0 (ak j7 (ak dM (ak bY (ak aU (aa 5) (kD gH (dC (.int 1)))) (aa 0)) (ak bY (aa 6) (aa 7))) (aa 4)))
 (aQ 4 (ak aU (aa 5) (kD gH (dC (.int 1)))))))
 (bK (aa 0))))
theorem mY{r:List Int}{n:Nat}(h:r.length=n+1):dY (ax r) (-1)=some (.int (r.getD n 0)):=by
 have e:r=r.take n++[r.getD n 0]:=by
  rw[Mx.aK (by omega),<-List.take_succ_eq_append_getElem (by omega),Xj (by omega)]
 have e2:ax r=ax (r.take n)++[.int (r.getD n 0)]:=by
  conv=>lhs;rw[e]
  simp[ax]
 rw[e2];exact JJ _ _
theorem xF{ts:List D}{o1 o2:List Int}{k:Nat}(h1:k<ts.length)(h2:k<o1.length)(h3:k<o2.length):gh (ts.drop k) (ax (o1.drop k)) (ax (o2.drop k))= .tup [ts[k],.int (o1.getD k 0),.int (o2.getD k 0)]::gh (ts.drop (k+1)) (ax (o1.drop (k+1))) (ax (o2.drop (k+1))):=by
 rw[UI h1,UI h2,UI h3,Mx.aK h2,Mx.aK h3];rfl
theorem qj{st:ag}{ts:List D}{A:List (List Int)}{q:Nat}(h:bL st ts A)(hq:q<ts.length):items? st ts[q]=some (ax (A.getD q [])):=by
 obtain⟨r,e1,e2⟩:=h.get (Uq hq);have hl:=h.len;rw[Uq (by omega)]at e1;cases e1;rw[Mx.aK (by omega)];exact e2
theorem E3:T9 qI 4 GP qy:=by
 rintro ds st K ⟨G,n,i,j,m,o1,o2,dt,d1,d2,ts,rfl,ht,rt,h1,h2,l1,l2,l3,ho,hD,g,hi,hj,k⟩;refine⟨rfl,?_⟩;have hg:=g.le;have lt:=rt.len;rw[Mx.CN]at lt;refine Lu ht h1 h2 λ ok aO=>?_;refine fG (λ rest σ st'=>st'=st/\∃(q:Nat) (v5 v6 v7:Option D),q<=j/\σ=[some (.int (Mx.gx G q (G i) j)),some dt,some d1,some d2,some (.int (Mx.D q G)),v5,v6,v7]/\rest=gh (ts.drop q) (ax (o1.drop q)) (ax (o2.drop q))) ?_ ?_ _ _ _ ⟨rfl,0,none,none,none,UK _,by rw[Mx.mH];rfl,rfl⟩
 . rintro σ st' ⟨rfl,q,v5,v6,v7,hq,rfl,hr⟩;refine⟨aO _ ht h1 h2,?_⟩
   have:q=j:=by
    by_cases h:q<j
    . rw[xF (by omega) (by omega) (by omega)]at hr;cases hr
    . omega
   subst this;exact k
 . rintro x rest σ st' ⟨rfl,q,v5,v6,v7,hq,rfl,hr⟩ next
   have hqj:q<j:=by
    by_cases h:q<j
    . exact h
    . have:o1.drop q=[]:=V0 (by omega);rw[this]at hr
      have e:gh (ts.drop q) (ax []) (ax (o2.drop q))=[]:=by
       cases (ts.drop q)<;>rfl
      rw[e]at hr;cases hr
   rw[xF (by omega) (by omega) (by omega),VB]at hr;obtain⟨rfl,rfl⟩:=hr;refine⟨aO _ ht h1 h2,_,rfl,?_⟩;have il:=qj rt (q:=q) (by omega);rw[Mx.D0 G (show q<m by omega)]at il;rw[(ho q hqj).1,(ho q hqj).2];have eL:(Mx.a8 G q).getD q 0=Mx.D (q+1) G:=by rw[Mx.kY G (Ue _),Mx.dS]
   have b1:=g.D (p:=q+1) (by omega);have b2:=g.gx (p:=q) (i:=i) (j:=j) (by omega) hi hj;have b3:(Mx.lam G i q).natAbs<=2^744:=g.gx (by omega) hi (by omega);have b4:(Mx.lam G j q).natAbs<=2^744:=g.gx (by omega) hj (by omega);have b5:=g.D (p:=q) (by omega);refine gI (aM il (mY (Mx.fx G q)) ?_);rw[eL];refine cS (Ef b1 b2) (cS (Ef b3 b4) (dm (mV (hD q hqj) (Rt b5 (hD q hqj)) ?_)));rw[Mx.AW g.sym (hD q hqj)];refine gI (aM il (mY (Mx.fx G q)) ?_);rw[eL];exact next _ _ ⟨rfl,q+1,_,_,_,hqj,rfl,rfl⟩
structure St(A:List (List Int))(N w:Nat):Prop where
 is:Mx.bh N w A
 wd:w<=1000
 sm:∀r∈A,∀x∈r,x.natAbs<2^64
 gm:Gm (Mx.af A) N
theorem St.mem{A:List (List Int)}{N w i:Nat}(h:St A N w)(hi:i<N):A.getD i []∈A:=by
 have:=h.is.len;rw[Mx.aK (by omega)];exact Vp _
def uO:cE:=λ ds st K=>∃(A:List (List Int)) (N w i:Nat) (dt dA dr:D) (ts:List D),ds=[dt,dA,dr]/\items? st dt=some ts/\bL st ts (Mx.qT (Mx.af A) i)/\e8 st dA A/\St A N w/\i<N/\items? st dr=some (ax (A.getD i []))/\(∀k,k<=i->Mx.D k (Mx.af A)≠0)/\∀st',Ext st st'->st'.length=st.length+1->st'[st.length]?=some (.lst (ax (Mx.a8 (Mx.af A) i)))->K (.ref st.length) st'
def qi:List Str:=["table","steps","row","made","line","step"]
def Gi:DS:=(aA (aQ 3 (og aq))
 (aA (fj (qU (ae (aa 0) (ae (aa 1) aq))) (jx 4 5) (fh (gz (aa 3) (aJ qI (ae (aJ yd (ae (aa 2) (ae (aa 5) aq))) (ae (aa 0) (ae (aa 3) (ae (aa 4) aq))))))))
 (aA (fh (gz (aa 3) (aJ qI (ae (aJ yd (ae (aa 2) (ae (aa 2) aq))) (ae (aa 0) (ae (aa 3) (ae (aa 3) aq)))))))
 (bK (aa 3)))))
theorem zu{ts da:List D}{q:Nat}(h1:q<ts.length)(h2:q<da.length):fX (ts.drop q) (da.drop q)= .tup [ts[q],da[q]]::fX (ts.drop (q+1)) (da.drop (q+1)):=by
 rw[UI h1,UI h2];rfl
theorem GZ{A:List (List Int)}{N w i j:Nat}(h:St A N w)(hi:i<N)(hj:j<N):∀a∈A.getD i [],∀b∈A.getD j [],IntMulOk a b:=λ a ha b _=>by
 have:=h.sm _ (h.mem hi) a ha;exact ji (by omega) (by omega)
theorem vX(G:Mx.Fn)(i q:Nat):ax ((List.range q).map λ j=>Mx.lam G i j)++[.int (Mx.lam G i q)]=ax ((List.range (q+1)).map λ j=>Mx.lam G i j):=by rw[VW,Vm];simp[ax]
theorem rP(G:Mx.Fn){i q k:Nat}(h:k<q):((List.range q).map λ j=>Mx.lam G i j).getD k 0=Mx.lam G i k:=by rw[Mx.aK (by simpa using h),Vv,Vu]
theorem Eo:T9 uO 3 Gi qi:=by
 rintro ds st K ⟨A,N,w,i,dt,dA,dr,ts,rfl,ht,rt,⟨da,hda,ra⟩,hS,hi,hr,hD,k⟩;refine⟨rfl,?_⟩;have hl:=hS.is.len;have hla:=ra.len;have lt:=rt.len;rw[Mx.CN]at lt;have h8:=hS.gm.le;have wi:=hS.is.gc _ (hS.mem hi);have hw:=hS.wd;refine⟨Ur rfl,?_⟩;have X0:Ext st (st++[.lst []]):=Ext.push;have e0:(st++[Cell.lst []])[st.length]?=some (.lst (ax ((List.range 0).map λ j=>Mx.lam (Mx.af A) i j))):=by simp
 refine q_ (X0.items ht) (X0.items hda) λ ok aO=>?_;refine fG (λ rest σ st'=>∃(q:Nat) (v4 v5:Option D),q<=i/\σ=[some dt,some dA,some dr,some (.ref st.length),v4,v5]/\rest=fX (ts.drop q) (da.drop q)/\Ext st st'/\st'.length=st.length+1/\st'[st.length]?=some (.lst (ax ((List.range q).map λ j=>Mx.lam (Mx.af A) i j)))) ?_ ?_ _ _ _ ⟨0,none,none,UK _,rfl,rfl,X0,by simp,e0⟩
 . rintro σ st1 ⟨q,v4,v5,hq,rfl,hrest,X,ln1,e⟩;refine⟨aO _ (X.items ht) (X.items hda),?_⟩
   have hqi:q=i:=by
    by_cases h:q<i
    . rw[zu (by omega) (by omega)]at hrest;cases hrest
    . omega
   subst hqi;refine nF (by rfl) e ?_;refine⟨_,_,A.getD q [],A.getD q [],rfl,X.items hr,X.items hr,by omega,GZ hS hi hi,?_⟩;refine⟨Mx.af A,N,q,q,q,(List.range q).map λ j=>Mx.lam (Mx.af A) q j,(List.range q).map λ j=>Mx.lam (Mx.af A) q j,dt,.ref st.length,.ref st.length,ts,rfl,X.items ht,X.xJ rt,aC e,aC e,by simp,by simp,Ue _,λ k hk=>⟨rP _ hk,rP _ hk⟩,λ k hk=>hD k (by omega),hS.gm,hi,hi,?_⟩;refine lh e (by rw[Vi];simp;omega) ?_;have hlt:=(Ua.mp e).1
   have e2:(st1.set st.length (.lst (ax ((List.range q).map λ j=>Mx.lam (Mx.af A) q j)++[.int (Mx.gx (Mx.af A) q (Mx.af A q) q)])))[st.length]?=some (.lst (ax (Mx.a8 (Mx.af A) q))):=by
    rw[Uo hlt];have:=vX (Mx.af A) q q;unfold Mx.lam at this⊢;unfold Mx.a8 Mx.lam;rw[this]
   exact k _ (X.set (Ue _)) (by rw[Us];exact ln1) e2
 . rintro x rest σ st1 ⟨q,v4,v5,hq,rfl,hrest,X,ln1,e⟩ next
   have hqi:q<i:=by
    by_cases h:q<i
    . exact h
    . have:ts.drop q=[]:=V0 (by omega);rw[this]at hrest;cases hrest
   rw[zu (by omega) (by omega),VB]at hrest;obtain⟨rfl,rfl⟩:=hrest;refine⟨aO _ (X.items ht) (X.items hda),_,rfl,?_⟩;have hrq:=qj ra (q:=q) (by omega);have htq:=qj rt (q:=q) (by omega);rw[Mx.D0 _ hqi]at htq;refine nF (by rfl) e ?_;refine⟨_,_,A.getD i [],A.getD q [],rfl,X.items hr,X.items hrq,by omega,GZ hS hi (by omega),?_⟩;refine⟨Mx.af A,N,i,q,i,(List.range q).map λ j=>Mx.lam (Mx.af A) i j,Mx.a8 (Mx.af A) q,dt,.ref st.length,ts[q],ts,rfl,X.items ht,X.xJ rt,aC e,X.items htq,by simp,by rw[Mx.fx];omega,by omega,λ k hk=>⟨rP _ hk,Mx.kY _ (by omega)⟩,λ k hk=>hD k (by omega),hS.gm,hi,by omega,?_⟩;refine lh e (by rw[Vi];simp;omega) ?_;have hlt:=(Ua.mp e).1;refine next _ _ ⟨q+1,_,_,hqi,rfl,rfl,X.set (Ue _),by rw[Us];exact ln1,?_⟩
   rw[Uo hlt];have:=vX (Mx.af A) i q;unfold Mx.lam at this⊢;rw[this]
structure Tb(st:ag)(tb:Nat)(rs:List Nat)(G:Mx.Fn)(N:Nat):Prop where
 et:st[tb]?=some (Cell.lst (rs.map D.ref))
 lr:rs.length=N
 nd:∀(i j c:Nat),rs[i]?=some c->rs[j]?=some c->i=j
 nt:∀(i c:Nat),rs[i]?=some c->c≠tb
 row:∀(i c:Nat),rs[i]?=some c->st[c]?=some (Cell.lst (ax (Mx.a8 G i)))
theorem Tb.rows{st:ag}{tb:Nat}{rs:List Nat}{G:Mx.Fn}{N:Nat}(T:Tb st tb rs G N):bL st (rs.map D.ref) (Mx.qT G N):=by
 have key:∀(l:List Nat) (n:Nat),(∀(i c:Nat),l[i]?=some c->st[c]?=some (Cell.lst (ax (Mx.a8 G (n+i)))))->bL st (l.map D.ref) ((List.range l.length).map λ i=>Mx.a8 G (n+i)):=by
  intro l;induction l with
  |nil=>intro n h;trivial
  |cons c l ih=>
   intro n h;rw[UQ,VZ,UP,UP,Vo];refine⟨aC (by have:=h 0 c rfl;exact this),?_⟩
   have:=ih (n+1) λ i d hd=>by
    have:=h (i+1) d (by simpa using hd);rw[show n+1+i=n+(i+1) by omega];exact this
   have e:((λ i=>Mx.a8 G (n+i))∘Nat.succ)=λ i=>Mx.a8 G (n+1+i):=by
    funext i;show Mx.a8 G (n+(i+1))=_;rw[show n+1+i=n+(i+1) by omega]
   rw[e];exact this
 have h:=key rs 0 λ i c hc=>by rw[WM];exact T.row i c hc
 rw[T.lr]at h;unfold Mx.qT;have e:(λ i=>Mx.a8 G (0+i))=Mx.a8 G:=by funext i;rw[WM]
 rw[e]at h;exact h
theorem Tb.ext{st st':ag}{tb:Nat}{rs:List Nat}{G:Mx.Fn}{N:Nat}(T:Tb st tb rs G N)(h1:st'[tb]?=st[tb]?)(h2:∀(i c:Nat),rs[i]?=some c->st'[c]?=st[c]?):Tb st' tb rs G N:=⟨h1.trans T.et,T.lr,T.nd,T.nt,λ i c h=>(h2 i c h).trans (T.row i c h)⟩
def sR:cE:=λ ds st K=>∃(A:List (List Int)) (N w:Nat) (dA:D),ds=[dA]/\e8 st dA A/\St A N w/\(∀k,k<=N->Mx.D k (Mx.af A)≠0)/\∀st' rs,Ext st st'->Tb st' st.length rs (Mx.af A) N->(∀(i c:Nat),rs[i]?=some c->st.length<c)->K (.ref st.length) st'
def oR:List Str:=["steps","table","step","line"]
def Fd:DS:=(aA (aQ 1 (og aq))
 (aA (fj (g8 (aa 0)) (bT 2) (aA (aQ 3 (aJ uO (ae (aa 1) (ae (aa 0) (ae (aa 2) aq)))))
 (aA (gj (cK (ak lH (ak aU (aa 3) (kD gH (dC (.int 1)))) (dC (.int 0)))) Hm e_)
 (fh (gz (aa 1) (aa 3))))))
 (bK (aa 1))))
theorem tQ{i:Nat}{σ:cy}{st:ag}{K:DK}{d:D}(h:σ[i]?=some (some d))(k:K d st):aa i σ st K:=by
 unfold aa;simp only[h];exact k
theorem C9:T9 sR 1 Fd oR:=by
 rintro ds st K ⟨A,N,w,dA,rfl,hA,hS,hD,k⟩;refine⟨rfl,?_⟩;obtain⟨da,hda,ra⟩:=hA.ex;have hl:=hS.is.len;have hla:=ra.len;have h8:=hS.gm.le;refine⟨Ur rfl,?_⟩;have X0:Ext st (st++[.lst []]):=Ext.push;have T0:Tb (st++[Cell.lst []]) st.length [] (Mx.af A) 0:=⟨by simp,rfl,λ i j c h=>by simp at h,λ i c h=>by simp at h,λ i c h=>by simp at h⟩
 refine Me (X0.items hda) λ ok aO=>?_;refine fG (λ rest σ st'=>∃(q:Nat) (rs:List Nat) (v2 v3:Option D),q<=N/\σ=[some dA,some (.ref st.length),v2,v3]/\rest=da.drop q/\Ext st st'/\Tb st' st.length rs (Mx.af A) q/\∀(i c:Nat),rs[i]?=some c->st.length<c/\c<st'.length) ?_ ?_ _ _ _ ⟨0,[],none,none,UK _,rfl,rfl,X0,T0,λ i c h=>by simp at h⟩
 . rintro σ st1 ⟨q,rs,v2,v3,hq,rfl,hrest,X,T,hc⟩;refine⟨aO _ (X.items hda),?_⟩
   have hqN:q=N:=by
    have:=VH List.length hrest;simp at this;omega
   subst hqN;exact k _ rs X T λ i c h=>(hc i c h).1
 . rintro x rest σ st1 ⟨q,rs,v2,v3,hq,rfl,hrest,X,T,hc⟩ next
   have hqN:q<N:=by
    have:=VH List.length hrest;simp at this;omega
   rw[UI (show q<da.length by omega),VB]at hrest;obtain⟨rfl,rfl⟩:=hrest;refine⟨aO _ (X.items hda),_,rfl,?_⟩;have hrq:=qj ra (q:=q) (by omega);refine⟨A,N,w,q,.ref st.length,dA,_,_,rfl,aC T.et,T.rows,X.AE hA,hS,hqN,X.items hrq,λ k hk=>hD k (by omega),λ st2 X2 ln2 e2=>?_⟩;have X3:=X.trans X2;have hlt:st.length<st1.length:=(Ua.mp T.et).1;have lr:=T.lr;refine gI (aM (aC e2) (mY (Mx.fx _ q)) ?_);rw[Mx.kY _ (Ue q),Mx.dS];refine N2 (hD (q+1) (by omega)) ?_;have et2:st2[st.length]?=some (.lst (rs.map D.ref)):=(X2.same _ hlt).trans T.et;refine nF (by rfl) et2 (tQ rfl (lh et2 (by rw[Vi,Uk];omega) ?_))
   have key:∀(i c:Nat),(rs++[st1.length])[i]?=some c->(i<q/\rs[i]?=some c)\/(i=q/\c=st1.length):=λ i c h=>by
    by_cases hi:i<rs.length
    . rw[Uh hi]at h;exact .inl ⟨by omega,h⟩
    . have hlt2:=(Ua.mp h).1;have:i=rs.length:=by simp at hlt2;omega
      rw[UH (by omega),this,VY]at h;simp at h;exact .inr ⟨by omega,h.symm⟩
   refine next _ _ ⟨q+1,rs++[st1.length],_,_,hqN,rfl,rfl,X3.set (Ue _),⟨?_,by simp[lr],λ i j c hi hj=>?_,λ i c hi=>?_,λ i c hi=>?_⟩,λ i c hi=>?_⟩
   . rw[Uo (by omega),Vm];rfl
   . rcases key i c hi with⟨a1,a2⟩|⟨a1,a2⟩<;>rcases key j c hj with⟨b1,b2⟩|⟨b1,b2⟩
     . exact T.nd i j c a2 b2
     . have:=(hc i c a2).2;omega
     . have:=(hc j c b2).2;omega
     . omega
   . rcases key i c hi with⟨a1,a2⟩|⟨a1,a2⟩
     . exact T.nt i c a2
     . omega
   . rcases key i c hi with⟨a1,a2⟩|⟨a1,a2⟩
     . have h1:=hc i c a2;rw[Ug (by omega),X2.same c h1.2];exact T.row i c a2
     . rw[a2,a1,Ug (by omega)];exact e2
   . rcases key i c hi with⟨a1,a2⟩|⟨a1,a2⟩
     . have h1:=hc i c a2;exact⟨h1.1,by rw[Us];omega⟩
     . exact⟨by omega,by rw[Us];omega⟩
def ke:List Int->Nat->Option Nat
 | [],_=>none
 |x::xs,i=>if x=0 then ke xs (i+1)else some i
def nR(r:List Int):Option Nat:=ke r 0
def oB(r:List Int):D:=match nR r with
 |some k=> .int (k:Int)
 |none=> .aF
def jR:cE:=λ ds st K=>∃(d:D) (r:List Int),ds=[d]/\items? st d=some (ax r)/\K (oB r) st
def qw:List Str:=["row","place","number"]
def Hj:DS:=(aA (fj (EN (ae (aa 0) aq)) (jx 1 2) (gj (cK (ak tf (aa 2) (dC (.int 0)))) (bK (aa 1)) e_))
 (bK (dC .aF)))
theorem E8:T9 jR 1 Hj qw:=by
 rintro ds st K ⟨d,r,rfl,hd,k⟩;refine⟨rfl,?_⟩;refine LP hd λ ok aO=>?_;refine fG (λ rest σ st'=>st'=st/\∃(v1 v2:Option D) (s:List Int) (i:Nat),σ=[some d,v1,v2]/\rest=kG i (ax s)/\ke r 0=ke s i) ?_ ?_ _ _ _ ⟨rfl,none,none,r,0,rfl,rfl,rfl⟩
 . rintro σ st' ⟨rfl,v1,v2,s,i,rfl,hr,hl⟩;match s,hr with
   | [],_=>
     refine⟨aO _ hd,?_⟩;have:oB r= .aF:=by unfold oB nR;rw[hl];rfl
     rw[this]at k;exact k
 . rintro x rest σ st' ⟨rfl,v1,v2,s,i,rfl,hr,hl⟩ next
   match s,hr,hl with
   |y::s,hr,hl=>
    simp only[ax,UP,kG,VB]at hr;obtain⟨rfl,rfl⟩:=hr;refine⟨aO _ hd,_,rfl,?_⟩;refine ne2 (λ h=>jn ?_) λ h=>?_
    . have:oB r= .int (i:Int):=by unfold oB nR;rw[hl];unfold ke;rw[Ub h]
      rw[this]at k;exact k
    . refine next _ _ ⟨rfl,_,_,s,i+1,rfl,rfl,?_⟩
      rw[hl];unfold ke;rw[Ud h];cases s<;>rfl
   | [],hr,_=>cases hr
theorem Ca:∀(r:List Int) (i l:Nat),(∀c,c<l->r.getD c 0=0)->r.getD l 0≠0->ke r i=some (i+l)
 | [],_,_,_,h=>(h rfl).elim
 |x::r,i,0,_,h=>by
  unfold ke;rw[Ub (show¬x=0 from h)];rfl
 |x::r,i,l+1,hz,h=>by
  unfold ke;rw[Ud (show x=0 from hz 0 (Nat.zero_lt_succ _)),Ca r (i+1) l (λ c hc=>hz (c+1) (Yy hc)) h,Nat.add_right_comm];rfl
theorem sM:∀(r:List Int) (i:Nat),ke r i=none->∀c,r.getD c 0=0
 | [],_,_,_=>rfl
 |x::r,i,h,c=>by
  unfold ke at h;split at h
  . cases c with
    |zero=>assumption
    |succ c=>exact sM r (i+1) h c
  . cases h
theorem Gv{r:List Int}{l:Nat}(h:∀c,c<l->r.getD c 0=0)(h':r.getD l 0≠0):nR r=some l:=by
 have:=Ca r 0 l h h';rw[WM]at this;exact this
def gX:cE:=λ ds st K=>∃(t d:Int),ds=[.int t,.int d]/\d≠0/\K (.int (Mx.qn t d)) st
def g7:List Str:=["top","bottom"]
def tO:DS:=(bK (ak nW (ak cQ (ak bY (dC (.int 2)) (aa 0)) (aa 1)) (ak bY (dC (.int 2)) (aa 1))))
theorem tW{a b:Int}{m n:Nat}(ha:a.natAbs<=2^m)(hb:b.natAbs<=2^n):(a*b).natAbs<=2^(m+n):=by
 rw[U8,VR];exact Vd ha hb
theorem ft{a b:Int}{m n:Nat}(ha:a.natAbs<=2^m)(hb:b.natAbs<=2^n)(hm:m<1000000)(hn:n<1000000):IntMulOk a b:=by
 have l2:(1000000:Nat)<=2^20:=by decide
 have q:∀ {x:Int} {k:Nat},x.natAbs<=2^k->k<1000000->Builtin.Int.intBits x<=2^20:=λ{x k} h hk=>Uj (BA (VE h (V9 (by decide) (UN k)))) (by omega);exact .of_bits (q ha hm) (q hb hn)
theorem Ar{a:Int}{m:Nat}(ha:a.natAbs<=2^m)(h0:a≠0)(hm:m+1<9000):a.natAbs.log2<9000:=by
 have l:(2:Nat)^m<2^(m+1):=V9 (by decide) (UN m);have:=(Xn (show a.natAbs≠0 by omega)).mpr (VE ha l);omega
theorem tF:T9 gX 2 tO g7:=by
 rintro ds st K ⟨t,d,rfl,hd,k⟩;exact⟨rfl,cS (ji (by decide) (by decide)) (c6 (cS (ji (by decide) (by decide)) (Bb (by omega) k)))⟩
def kv:cE:=λ ds st K=>∃(n k o:Nat) (A:List (List Int)),ds=[.ref n,.int k,.int o]/\st[n]?=some (.lst (A.map bC))/\k<A.length/\o<A.length/\K (.ref st.length) (st++[.lst ((Mx.aT A k o).map bC)])
def m9:List Str:=["rows","k","other","order"]
def De:DS:=(aA (aQ 3 (cP uA (ae (aa 0) aq)))
 (aA (fO (aa 3) (aa 1) (ak aU (aa 0) (aa 2)))
 (aA (fO (aa 3) (aa 2) (ak aU (aa 0) (aa 1)))
 (bK (aa 3)))))
theorem d7{A:List (List Int)}{j:Nat}(h:j<A.length):dY (A.map bC) (j:Int)=some (bC (A.getD j [])):=by
 refine iC ?_;rw[Uw,Uq h,Mx.aK h];rfl
theorem ja{m k:Nat}(h:k<m):lO m (k:Int)=some k:=by
 have:=O0 (i:=(k:Int)) (m:=m) (by omega) (by omega);rw[UL]at this;exact this
theorem je{A:List (List Int)}{k:Nat}{r:List Int}:(A.map bC).set k (bC r)=(A.set k r).map bC:=by rw[XJ]
theorem AR:T9 kv 3 De m9:=by
 rintro ds st K ⟨n,k,o,A,rfl,e,hk,ho,kk⟩;refine⟨rfl,?_⟩;have hn:n<st.length:=(Ua.mp e).1;refine IF (aC e) ?_;have e1:(st++[Cell.lst (A.map bC)])[n]?=some (.lst (A.map bC)):=by rw[Uh hn];exact e
 have e2:(st++[Cell.lst (A.map bC)])[st.length]?=some (.lst (A.map bC)):=by simp
 refine aM (aC e1) (d7 ho) (i7 e2 (by rw[Uk];exact ja hk) ?_);rw[je]
 have es:(st++[Cell.lst (A.map bC)]).set st.length (.lst ((A.set k (A.getD o [])).map bC))=st++[Cell.lst ((A.set k (A.getD o [])).map bC)]:=by
  rw[YV _ _ (Ue _),VY];rfl
 rw[es];have e3:(st++[Cell.lst ((A.set k (A.getD o [])).map bC)])[n]?=some (.lst (A.map bC)):=by rw[Uh hn];exact e
 have e4:(st++[Cell.lst ((A.set k (A.getD o [])).map bC)])[st.length]?=some (.lst ((A.set k (A.getD o [])).map bC)):=by simp
 refine aM (aC e3) (d7 hk) (i7 e4 (by rw[Uk,Us];exact ja ho) ?_);rw[je]
 have es2:(st++[Cell.lst ((A.set k (A.getD o [])).map bC)]).set st.length (.lst (((A.set k (A.getD o [])).set o (A.getD k [])).map bC))=st++[Cell.lst ((Mx.aT A k o).map bC)]:=by
  rw[YV _ _ (Ue _),VY];rfl
 rw[es2];exact kk
def nD:cE:=λ ds st K=>∃(d:D) (r:List Int),ds=[d]/\items? st d=some (ax r)/\r.length<=1000/\K (bC (r.map λ x=> -x)) st
def qd:List Str:=["row"]
def HL:DS:=(bK (fT (g8 (aa 0)) [none] (bT 0) du (kD gH (aa 0))))
theorem Eu:T9 nD 1 HL qd:=by
 rintro ds st K ⟨d,r,rfl,hd,hl,k⟩;refine⟨rfl,?_⟩;refine tY hd λ ok aO=>⟨fb (by unfold ax;rw[Uk];exact hl),?_⟩
 refine comp_map (g:=λ x=>match x with| .int a=> .int (-a)|_=> .aF) aO _ (λ x hx K' q=>?_) ?_
 . unfold ax at hx;obtain⟨a,_,rfl⟩:=Vy.mp hx;exact⟨_,rfl,gI q⟩
 . have e:(ax r).map (λ x=>match x with| .int a=> .int (-a)|_=> .aF)=ax (r.map λ x=> -x):=by unfold ax;rw[Vo,Vo];rfl
   rw[e];exact k
structure Bn(st:ag)(b xb xu xc:Nat)(A U C:List (List Int)):Prop where
 eb:st[b]?=some (Cell.ins aD [("body",.ref xb),("turn",.ref xu),("back_columns",.ref xc)])
 e1:st[xb]?=some (Cell.lst (A.map bC))
 e2:st[xu]?=some (Cell.lst (U.map bC))
 e3:st[xc]?=some (Cell.lst (C.map bC))
 n1:xb≠xu
 n2:xb≠xc
 n3:xu≠xc
theorem gZ{st:ag}{b x:Nat}{C:Addr}{fs:List (Str×D)}{xs:List D}(h1:st[b]?=some (Cell.ins C fs))(h2:st[x]?=some (Cell.lst xs)):b≠x:=λ z=>by rw[z,h2]at h1;cases h1
def iX:cE:=λ ds st K=>∃(b N:Nat) (d:D) (A:List (List Int)),ds=[.ref b,d]/\st[b]?=some (.ins aD [])/\e8 st d A/\A.length=N/\N<=8/\∀st',Bn st' b st.length (st.length+1) (st.length+2) A (Mx.units N) (Mx.units N)->st'.length=st.length+3->(∀m,m<st.length->m≠b->st'[m]?=st[m]?)->K .aF st'
def iR:List Str:=["self","rows"]
def wJ:DS:=(aA (nc aD "body" (aa 0) (ug (g8 (aa 1)) [none] (bT 0) du (cP nj (ae (aa 0) aq))))
 (aA (nc aD "turn" (aa 0) (ug (g8 (aJ nA (ae (cP fZ (ae (aa 1) aq)) aq))) [none] (bT 0) du (cP nj (ae (aa 0) aq))))
 (nc aD "back_columns" (aa 0) (ug (g8 (aJ nA (ae (cP fZ (ae (aa 1) aq)) aq))) [none] (bT 0) du (cP nj (ae (aa 0) aq))))))
theorem sU(f:Str)(v:D):∀fs:List (Str×D),(putD f v fs).length<=fs.length+1
 | []=>by simp[putD]
 |(g,x)::r=>by
  unfold putD;split
  . simp
  . have:=sU f v r;simp only[UQ];omega
theorem BQ{st:ag}{A:List (List Int)}:bL st (A.map cN) A:=bL.tup
theorem zK(n:Nat):(Mx.units n).length=n:=by unfold Mx.units;simp
theorem vA:T9 iX 2 wJ iR:=by
 rintro ds st K ⟨b,N,d,A,rfl,eb,hA,hl,hN,k⟩;refine⟨rfl,?_⟩;have hb:b<st.length:=(Ua.mp eb).1;obtain⟨da,hd,ra⟩:=hA.ex;have hdl:=ra.len;have lst:∀(e:D) (r:List Int),True:=λ _ _=>trivial;refine tY hd λ ok aO=>⟨fb (by omega),?_⟩
 refine oO bC aO ra (λ e r hr he K' q=>⟨_,rfl,pe he q⟩) ?_;have eb1:(st++[Cell.lst (A.map bC)])[b]?=some (.ins aD []):=by rw[Uh hb];exact eb
 refine lJ eb1 (by decide) ?_;generalize hs1:(st++[Cell.lst (A.map bC)]).set b (.ins aD (putD "body" (.ref st.length) []))=st1;have l1:st1.length=st.length+1:=by rw[<-hs1];simp
 have f1:∀m,m<st.length->m≠b->st1[m]?=st[m]?:=λ m hm hmb=>by rw[<-hs1,Ug (Ui hmb),Uh hm]
 have b1:st1[b]?=some (.ins aD (putD "body" (.ref st.length) [])):=by rw[<-hs1,Uo (by simp;omega)]
 have x1:st1[st.length]?=some (.lst (A.map bC)):=by rw[<-hs1,Ug (by omega)];simp
 clear hs1
 have itd:∃da',items? st1 d=some da'/\da'.length=N:=by
  cases d with
  |ref n=>
   by_cases hnb:n=b
   . subst hnb;unfold items? at hd;simp only[eb]at hd;cases hd
   . have hn:n<st.length:=by
      unfold items? at hd;simp only at hd;cases q:st[n]? with
      |none=>rw[q]at hd;cases hd
      |some c=>exact(Ua.mp q).1
     refine⟨da,?_,by omega⟩;unfold items? at hd⊢;simp only at hd⊢;rw[f1 n hn hnb];exact hd
  |_=>exact⟨da,hd,by omega⟩
 obtain⟨da1,hd1,hdl1⟩:=itd;refine fB hd1 ?_;rw[hdl1];refine⟨N,rfl,by omega,?_⟩;refine pk ⟨fb (by rw[Uk,zK];omega),?_⟩;refine oO bC trivial BQ (λ e r hr he K' q=>⟨_,rfl,pe he q⟩) ?_;have b2:(st1++[Cell.lst ((Mx.units N).map bC)])[b]?=some (.ins aD (putD "body" (.ref st.length) [])):=by rw[Uh (by omega)];exact b1
 refine lJ b2 (by have:=sU "body" (.ref st.length) [];simp only[XM]at this;omega) ?_;generalize hs2:(st1++[Cell.lst ((Mx.units N).map bC)]).set b (.ins aD (putD "turn" (.ref st1.length) (putD "body" (.ref st.length) [])))=st2;have l2:st2.length=st.length+2:=by rw[<-hs2];simp;omega
 have f2:∀m,m<st1.length->m≠b->st2[m]?=st1[m]?:=λ m hm hmb=>by rw[<-hs2,Ug (Ui hmb),Uh hm]
 have b2':st2[b]?=some (.ins aD (putD "turn" (.ref st1.length) (putD "body" (.ref st.length) []))):=by rw[<-hs2,Uo (by simp;omega)]
 have x2:st2[st1.length]?=some (.lst ((Mx.units N).map bC)):=by rw[<-hs2,Ug (by omega)];simp
 clear hs2
 have itd2:items? st2 d=some da1:=by
  cases d with
  |ref n=>
   by_cases hnb:n=b
   . subst hnb;unfold items? at hd1;simp only[b1]at hd1;cases hd1
   . have hn:n<st1.length:=by
      unfold items? at hd1;simp only at hd1;cases q:st1[n]? with
      |none=>rw[q]at hd1;cases hd1
      |some c=>exact(Ua.mp q).1
     unfold items? at hd1⊢;simp only at hd1⊢;rw[f2 n hn hnb];exact hd1
  |_=>exact hd1
 refine fB itd2 ?_;rw[hdl1];refine⟨N,rfl,by omega,?_⟩;refine pk ⟨fb (by rw[Uk,zK];omega),?_⟩;refine oO bC trivial BQ (λ e r hr he K' q=>⟨_,rfl,pe he q⟩) ?_;have b3:(st2++[Cell.lst ((Mx.units N).map bC)])[b]?=some (.ins aD (putD "turn" (.ref st1.length) (putD "body" (.ref st.length) []))):=by rw[Uh (by omega)];exact b2'
 refine lJ b3 (by have h1:=sU "body" (.ref st.length) [];have h2:=sU "turn" (.ref st1.length) (putD "body" (.ref st.length) []);simp only[XM]at h1;omega) ?_;refine k _ ⟨?_,?_,?_,?_,by omega,by omega,by omega⟩ (by simp;omega) λ m hm hmb=>?_
 . rw[Uo (by simp;omega),l1,l2];rfl
 . rw[Ug (by omega),Uh (by omega),f2 _ (by omega) (by omega)];exact x1
 . rw[Ug (by omega),Uh (by omega)];rw[l1]at x2;exact x2
 . rw[Ug (by omega)];rw[show st.length+2=st2.length by omega];simp
 . rw[Ug (Ui hmb),Uh (by omega),f2 m (by omega) hmb,f1 m hm hmb]
def jE:cE:=λ ds st K=>∃(b xb xu xc N w k j:Nat) (A U C:List (List Int)) (q:Int),ds=[.ref b,.int k,.int q,.int j]/\Bn st b xb xu xc A U C/\Mx.bh N w A/\Mx.bh N N U/\Mx.bh N N C/\k<N/\j<N/\N<=8/\w<=9/\(∀x∈A.getD j [],IntMulOk (-q) x)/\(∀x∈U.getD j [],IntMulOk (-q) x)/\(∀x∈C.getD k [],IntMulOk q x)/\
 ∀st',Bn st' b xb xu xc (Mx.aR A k q j) (Mx.aR U k q j) (Mx.aR C j (-q) k)->st'.length=st.length->(∀m,m≠xb->m≠xu->m≠xc->st'[m]?=st[m]?)->K .aF st'
def mi:List Str:=["self","k","times","other"]
def BE:DS:=(aA (fO (cG aD "body" (aa 0)) (aa 1) (aJ mI (ae (ak aU (cG aD "body" (aa 0)) (aa 1)) (ae (kD gH (aa 2)) (ae (ak aU (cG aD "body" (aa 0)) (aa 3)) aq)))))
 (aA (fO (cG aD "turn" (aa 0)) (aa 1) (aJ mI (ae (ak aU (cG aD "turn" (aa 0)) (aa 1)) (ae (kD gH (aa 2)) (ae (ak aU (cG aD "turn" (aa 0)) (aa 3)) aq)))))
 (fO (cG aD "back_columns" (aa 0)) (aa 3) (aJ mI (ae (ak aU (cG aD "back_columns" (aa 0)) (aa 3)) (ae (aa 2) (ae (ak aU (cG aD "back_columns" (aa 0)) (aa 1)) aq)))))))
theorem z_:T9 jE 4 BE mi:=by
 rintro ds st K ⟨b,xb,xu,xc,N,w,k,j,A,U,C,q,rfl,B,hA,hU,hC,hk,hj,hN,hw,mA,mU,mC,kk⟩;refine⟨rfl,?_⟩;have lA:=hA.len;have lU:=hU.len;have lC:=hC.len;have rA:=Mx.bo hA hk;have rU:=Mx.bo hU hk;have rC:=Mx.bo hC hj;have bx1:=gZ B.eb B.e1;have bx2:=gZ B.eb B.e2;have bx3:=gZ B.eb B.e3;have n1:=B.n1;have n2:=B.n2;have n3:=B.n3;refine bp B.eb rfl (aM (aC B.e1) (d7 (by omega)) (gI (bp B.eb rfl (aM (aC B.e1) (d7 (by omega)) ?_))));refine⟨_,_,-q,A.getD k [],A.getD j [],rfl,rfl,rfl,by omega,mA,?_⟩;refine bp B.eb rfl (i7 B.e1 (by rw[Uk,lA];exact ja hk) ?_);rw[je];have g1:∀m,m≠xb->(st.set xb (.lst ((A.set k (Mx.f9 (A.getD k []) (-q) (A.getD j []))).map bC)))[m]?=st[m]?:=λ m hm=>Ug (Ui hm);have h1:(st.set xb (.lst ((A.set k (Mx.f9 (A.getD k []) (-q) (A.getD j []))).map bC)))[xb]?=some (.lst ((Mx.aR A k q j).map bC)):=Uo (Ua.mp B.e1).1;have z1:(st.set xb (.lst ((A.set k (Mx.f9 (A.getD k []) (-q) (A.getD j []))).map bC))).length=st.length:=Us;generalize st.set xb (.lst ((A.set k (Mx.f9 (A.getD k []) (-q) (A.getD j []))).map bC))=st1 at g1 h1 z1⊢;have eb1:=(g1 b bx1).trans B.eb;have e21:=(g1 xu (Ui n1)).trans B.e2;have e31:=(g1 xc (Ui n2)).trans B.e3;refine bp eb1 rfl (aM (aC e21) (d7 (by omega)) (gI (bp eb1 rfl (aM (aC e21) (d7 (by omega)) ?_))));refine⟨_,_,-q,U.getD k [],U.getD j [],rfl,rfl,rfl,by omega,mU,?_⟩;refine bp eb1 rfl (i7 e21 (by rw[Uk,lU];exact ja hk) ?_);rw[je];have g2:∀m,m≠xu->(st1.set xu (.lst ((U.set k (Mx.f9 (U.getD k []) (-q) (U.getD j []))).map bC)))[m]?=st1[m]?:=λ m hm=>Ug (Ui hm);have h2:(st1.set xu (.lst ((U.set k (Mx.f9 (U.getD k []) (-q) (U.getD j []))).map bC)))[xu]?=some (.lst ((Mx.aR U k q j).map bC)):=Uo (Ua.mp e21).1;have z2:(st1.set xu (.lst ((U.set k (Mx.f9 (U.getD k []) (-q) (U.getD j []))).map bC))).length=st1.length:=Us;generalize st1.set xu (.lst ((U.set k (Mx.f9 (U.getD k []) (-q) (U.getD j []))).map bC))=st2 at g2 h2 z2⊢;have eb2:=(g2 b bx2).trans eb1;have e32:=(g2 xc (Ui n3)).trans e31;refine bp eb2 rfl (aM (aC e32) (d7 (by omega)) (bp eb2 rfl (aM (aC e32) (d7 (by omega)) ?_)));refine⟨_,_,q,C.getD j [],C.getD k [],rfl,rfl,rfl,by omega,mC,?_⟩;refine bp eb2 rfl (i7 e32 (by rw[Uk,lC];exact ja hj) ?_);rw[je];have hc:C.set j (Mx.f9 (C.getD j []) q (C.getD k []))=Mx.aR C j (-q) k:=by unfold Mx.aR;rw[Int.neg_neg]
 rw[hc];refine kk _ ⟨?_,?_,?_,?_,n1,n2,n3⟩ (by rw[Us];omega) λ m m1 m2 m3=>?_
 . rw[Ug (Ui bx3)];exact eb2
 . rw[Ug (Ui n2),g2 _ n1];exact h1
 . rw[Ug (Ui n3)];exact h2
 . exact Uo (Ua.mp e32).1
 . rw[Ug (Ui m3),g2 m m2,g1 m m1]
def i4:cE:=λ ds st K=>∃(b xb xu xc N w k o:Nat) (A U C:List (List Int)),ds=[.ref b,.int k,.int o]/\Bn st b xb xu xc A U C/\Mx.bh N w A/\Mx.bh N N U/\Mx.bh N N C/\k<N/\o<N/\
 ∀st',Bn st' b st.length (st.length+1) (st.length+2) (Mx.aT A k o) (Mx.aT U k o) (Mx.aT C k o)->st'.length=st.length+3->(∀m,m<st.length->m≠b->st'[m]?=st[m]?)->K .aF st'
def iL:List Str:=["self","k","other"]
def wg:DS:=(aA (nc aD "body" (aa 0) (aJ kv (ae (cG aD "body" (aa 0)) (ae (aa 1) (ae (aa 2) aq)))))
 (aA (nc aD "turn" (aa 0) (aJ kv (ae (cG aD "turn" (aa 0)) (ae (aa 1) (ae (aa 2) aq)))))
 (nc aD "back_columns" (aa 0) (aJ kv (ae (cG aD "back_columns" (aa 0)) (ae (aa 1) (ae (aa 2) aq)))))))
theorem vn:T9 i4 3 wg iL:=by
 rintro ds st K ⟨b,xb,xu,xc,N,w,k,o,A,U,C,rfl,B,hA,hU,hC,hk,ho,kk⟩;refine⟨rfl,?_⟩;have lA:=hA.len;have lU:=hU.len;have lC:=hC.len;have bx1:=gZ B.eb B.e1;have bx2:=gZ B.eb B.e2;have bx3:=gZ B.eb B.e3;have hb:b<st.length:=(Ua.mp B.eb).1;have hu:xu<st.length:=(Ua.mp B.e2).1;have hc:xc<st.length:=(Ua.mp B.e3).1;refine bp B.eb rfl ?_;refine⟨xb,k,o,A,rfl,B.e1,by omega,by omega,?_⟩;have eb1:(st++[Cell.lst ((Mx.aT A k o).map bC)])[b]?=some (.ins aD [("body",.ref xb),("turn",.ref xu),("back_columns",.ref xc)]):=by rw[Uh hb];exact B.eb
 refine lJ eb1 (by simp) ?_;have pb:putD "body" (.ref st.length) [("body",.ref xb),("turn",.ref xu),("back_columns",.ref xc)]=([("body",.ref st.length),("turn",.ref xu),("back_columns",.ref xc)]:List (Str×D)):=rfl;rw[pb];generalize hs1:(st++[Cell.lst ((Mx.aT A k o).map bC)]).set b (.ins aD [("body",.ref st.length),("turn",.ref xu),("back_columns",.ref xc)])=st1;have l1:st1.length=st.length+1:=by rw[<-hs1];simp
 have f1:∀m,m<st.length->m≠b->st1[m]?=st[m]?:=λ m hm hmb=>by rw[<-hs1,Ug (Ui hmb),Uh hm]
 have b1:st1[b]?=some (.ins aD [("body",.ref st.length),("turn",.ref xu),("back_columns",.ref xc)]):=by rw[<-hs1,Uo (by simp;omega)]
 have x1:st1[st.length]?=some (.lst ((Mx.aT A k o).map bC)):=by rw[<-hs1,Ug (by omega)];simp
 clear hs1 eb1;refine bp b1 rfl ?_;refine⟨xu,k,o,U,rfl,(f1 xu hu (Ui bx2)).trans B.e2,by omega,by omega,?_⟩;have eb1:(st1++[Cell.lst ((Mx.aT U k o).map bC)])[b]?=some (.ins aD [("body",.ref st.length),("turn",.ref xu),("back_columns",.ref xc)]):=by rw[Uh (by omega)];exact b1
 refine lJ eb1 (by simp) ?_;have pb:putD "turn" (.ref st1.length) [("body",.ref st.length),("turn",.ref xu),("back_columns",.ref xc)]=([("body",.ref st.length),("turn",.ref st1.length),("back_columns",.ref xc)]:List (Str×D)):=rfl;rw[pb];generalize hs2:(st1++[Cell.lst ((Mx.aT U k o).map bC)]).set b (.ins aD [("body",.ref st.length),("turn",.ref st1.length),("back_columns",.ref xc)])=st2;have l2:st2.length=st.length+2:=by rw[<-hs2];simp;omega
 have f2:∀m,m<st1.length->m≠b->st2[m]?=st1[m]?:=λ m hm hmb=>by rw[<-hs2,Ug (Ui hmb),Uh hm]
 have b2:st2[b]?=some (.ins aD [("body",.ref st.length),("turn",.ref st1.length),("back_columns",.ref xc)]):=by rw[<-hs2,Uo (by simp;omega)]
 have x2:st2[st1.length]?=some (.lst ((Mx.aT U k o).map bC)):=by rw[<-hs2,Ug (by omega)];simp
 clear hs2 eb1;refine bp b2 rfl ?_;refine⟨xc,k,o,C,rfl,((f2 xc (by omega) (Ui bx3)).trans (f1 xc hc (Ui bx3))).trans B.e3,by omega,by omega,?_⟩;have eb1:(st2++[Cell.lst ((Mx.aT C k o).map bC)])[b]?=some (.ins aD [("body",.ref st.length),("turn",.ref st1.length),("back_columns",.ref xc)]):=by rw[Uh (by omega)];exact b2
 refine lJ eb1 (by simp) ?_;have pb:putD "back_columns" (.ref st2.length) [("body",.ref st.length),("turn",.ref st1.length),("back_columns",.ref xc)]=([("body",.ref st.length),("turn",.ref st1.length),("back_columns",.ref st2.length)]:List (Str×D)):=rfl;rw[pb];refine kk _ ⟨?_,?_,?_,?_,by omega,by omega,by omega⟩ (by simp;omega) λ m hm hmb=>?_
 . rw[Uo (by simp;omega),l1,l2]
 . rw[Ug (by omega),Uh (by omega),f2 _ (by omega) (by omega)];exact x1
 . rw[Ug (by omega),Uh (by omega)];rw[l1]at x2;exact x2
 . rw[Ug (by omega)];rw[show st.length+2=st2.length by omega];simp
 . rw[Ug (Ui hmb),Uh (by omega),f2 m (by omega) hmb,f1 m hm hmb]
def jj:cE:=λ ds st K=>∃(b xb xu xc N w k:Nat) (A U C:List (List Int)),ds=[.ref b,.int k]/\Bn st b xb xu xc A U C/\Mx.bh N w A/\Mx.bh N N U/\Mx.bh N N C/\k<N/\N<=8/\w<=9/\
 ∀st',Bn st' b xb xu xc (Mx.iD A k) (Mx.iD U k) (Mx.iD C k)->st'.length=st.length->(∀m,m≠xb->m≠xu->m≠xc->st'[m]?=st[m]?)->K .aF st'
def gL:List Str:=["self","k"]
def tw:DS:=(aA (fO (cG aD "body" (aa 0)) (aa 1) (aJ nD (ae (ak aU (cG aD "body" (aa 0)) (aa 1)) aq)))
 (aA (fO (cG aD "turn" (aa 0)) (aa 1) (aJ nD (ae (ak aU (cG aD "turn" (aa 0)) (aa 1)) aq)))
 (fO (cG aD "back_columns" (aa 0)) (aa 1) (aJ nD (ae (ak aU (cG aD "back_columns" (aa 0)) (aa 1)) aq)))))
theorem sJ:T9 jj 2 tw gL:=by
 rintro ds st K ⟨b,xb,xu,xc,N,w,k,A,U,C,rfl,B,hA,hU,hC,hk,hN,hw,kk⟩;refine⟨rfl,?_⟩;have lA:=hA.len;have lU:=hU.len;have lC:=hC.len;have rA:=Mx.bo hA hk;have rU:=Mx.bo hU hk;have rC:=Mx.bo hC hk;have bx1:=gZ B.eb B.e1;have bx2:=gZ B.eb B.e2;have bx3:=gZ B.eb B.e3;have n1:=B.n1;have n2:=B.n2;have n3:=B.n3;refine bp B.eb rfl (aM (aC B.e1) (d7 (by omega)) ?_);refine⟨_,A.getD k [],rfl,rfl,by omega,?_⟩;refine bp B.eb rfl (i7 B.e1 (by rw[Uk,lA];exact ja hk) ?_);rw[je];have g1:∀m,m≠xb->(st.set xb (.lst ((A.set k ((A.getD k []).map λ x=> -x)).map bC)))[m]?=st[m]?:=λ m hm=>Ug (Ui hm);have h1:(st.set xb (.lst ((A.set k ((A.getD k []).map λ x=> -x)).map bC)))[xb]?=some (.lst ((Mx.iD A k).map bC)):=Uo (Ua.mp B.e1).1;have z1:(st.set xb (.lst ((A.set k ((A.getD k []).map λ x=> -x)).map bC))).length=st.length:=Us;generalize st.set xb (.lst ((A.set k ((A.getD k []).map λ x=> -x)).map bC))=st1 at g1 h1 z1⊢;have eb1:=(g1 b bx1).trans B.eb;have e21:=(g1 xu (Ui n1)).trans B.e2;have e31:=(g1 xc (Ui n2)).trans B.e3;refine bp eb1 rfl (aM (aC e21) (d7 (by omega)) ?_);refine⟨_,U.getD k [],rfl,rfl,by omega,?_⟩;refine bp eb1 rfl (i7 e21 (by rw[Uk,lU];exact ja hk) ?_);rw[je];have g2:∀m,m≠xu->(st1.set xu (.lst ((U.set k ((U.getD k []).map λ x=> -x)).map bC)))[m]?=st1[m]?:=λ m hm=>Ug (Ui hm);have h2:(st1.set xu (.lst ((U.set k ((U.getD k []).map λ x=> -x)).map bC)))[xu]?=some (.lst ((Mx.iD U k).map bC)):=Uo (Ua.mp e21).1;have z2:(st1.set xu (.lst ((U.set k ((U.getD k []).map λ x=> -x)).map bC))).length=st1.length:=Us;generalize st1.set xu (.lst ((U.set k ((U.getD k []).map λ x=> -x)).map bC))=st2 at g2 h2 z2⊢;have eb2:=(g2 b bx2).trans eb1;have e32:=(g2 xc (Ui n3)).trans e31;refine bp eb2 rfl (aM (aC e32) (d7 (by omega)) ?_);refine⟨_,C.getD k [],rfl,rfl,by omega,?_⟩;refine bp eb2 rfl (i7 e32 (by rw[Uk,lC];exact ja hk) ?_);rw[je];refine kk _ ⟨?_,?_,?_,?_,n1,n2,n3⟩ (by rw[Us];omega) λ m m1 m2 m3=>?_
 . rw[Ug (Ui bx3)];exact eb2
 . rw[Ug (Ui n2),g2 _ n1];exact h1
 . rw[Ug (Ui n3)];exact h2
 . exact Uo (Ua.mp e32).1
 . rw[Ug (Ui m3),g2 m m2,g1 m m1]
def iq:cE:=λ ds st K=>∃(b xb xu xc N w top p:Nat) (A U C:List (List Int)) (f:Bool),ds=[.ref b,.int top,.int p]/\Bn st b xb xu xc A U C/\Mx.bh N w A/\top<=N/\N<=8/\p<w/\w<=9/\st[0]?=some (h_ f)/\
 ∀L,Mx.ow A N top p L->K (.lst (L.map λ(k:Nat)=> .int (k:Int))) (st.set 0 (h_ true))
def ij:List Str:=["self","top","place","live"]
def vt:DS:=(aA (aQ 3 (fT (pj (ae (aa 1) (ae (cP fZ (ae (cG aD "body" (aa 0)) aq)) aq))) [none,some 0,some 2] (bT 0) (cK (ak tf (ak aU (ak aU (cG aD "body" (aa 1)) (aa 0)) (aa 2)) (dC (.int 0)))) (aa 0)))
 (bK (Ba 0 217 ⟨113,32,113,66⟩ "Bench.live_rows.<locals>.<lambda>" [none,some 0,some 2] (cP qS (ae (ak aU (ak aU (cG aD "body" (aa 1)) (aa 0)) (aa 2)) aq)) (aa 3))))
theorem uc{a b:Prop}(h:b):if false=true then a else b:=h
theorem MA{st:ag}{b:Nat}{C:Addr}{fs:List (Str×D)}{f:Bool}(h1:st[b]?=some (Cell.ins C fs))(h2:st[0]?=some (h_ f)):b≠0:=λ z=>by rw[z,h2]at h1;cases h1
theorem ve{st:ag}{b:Nat}{xs:List D}{f:Bool}(h1:st[b]?=some (Cell.lst xs))(h2:st[0]?=some (h_ f)):b≠0:=λ z=>by rw[z,h2]at h1;cases h1
theorem Bn.keep{st st':ag}{b xb xu xc:Nat}{A U C:List (List Int)}(B:Bn st b xb xu xc A U C)(h:∀m,m=b\/m=xb\/m=xu\/m=xc->st'[m]?=st[m]?):Bn st' b xb xu xc A U C:=
 ⟨(h b (.inl rfl)).trans B.eb,(h xb (.inr (.inl rfl))).trans B.e1,(h xu (.inr (.inr (.inl rfl)))).trans B.e2,(h xc (.inr (.inr (.inr rfl)))).trans B.e3,B.n1,B.n2,B.n3⟩
theorem Bn.tab{st:ag}{b xb xu xc:Nat}{A U C:List (List Int)}{f:Bool}(B:Bn st b xb xu xc A U C)(h:st[0]?=some (h_ f))(c:Cell):Bn (st.set 0 c) b xb xu xc A U C:=
 B.keep λ m hm=>Ug λ z=>by
  subst z;rcases hm with rfl|rfl|rfl|rfl
  . exact MA B.eb h rfl
  . exact ve B.e1 h rfl
  . exact ve B.e2 h rfl
  . exact ve B.e3 h rfl
theorem pS{r:List Int}{k:Nat}(h:k<r.length):dY (ax r) (k:Int)=some (.int (r.getD k 0)):=by
 refine iC ?_;unfold ax;rw[Uw,Uq h,Mx.aK h];rfl
def gg(A:List (List Int))(N top p:Nat):List Nat:=(List.range (N-top)).filterMap λ i=>if Mx.g A (top+i) p≠0 then some (top+i)else none
theorem zM{A:List (List Int)}{N top p k:Nat}:k∈gg A N top p↔top<=k/\k<N/\Mx.g A k p≠0:=by
 unfold gg;rw[W4];constructor
 . rintro⟨i,hi,e⟩;rw[Vt]at hi;split at e
   . rename_i h;cases e;exact⟨by omega,by omega,h⟩
   . cases e
 . rintro⟨h1,h2,h3⟩;refine⟨k-top,Vt.mpr (by omega),?_⟩;rw[show top+(k-top)=k by omega,Ud h3]
theorem pw_filterMap{f:Nat->Option Nat}(h:∀i j a b,i<j->f i=some a->f j=some b->a<b):∀ {l:List Nat},l.Pairwise (· < ·)->(l.filterMap f).Pairwise (· < ·)
 | [],_=>by simp
 |x::l,hl=>by
  obtain⟨h1,h2⟩:=XX.mp hl;rw[WW];split
  . exact pw_filterMap h h2
  . rename_i a e;refine XX.mpr ⟨λ b hb=>?_,pw_filterMap h h2⟩;obtain⟨j,hj,ej⟩:=W4.mp hb;exact h x j a b (h1 j hj) e ej
theorem pw_liveR{A:List (List Int)}{N top p:Nat}:(gg A N top p).Pairwise (· < ·):=by
 unfold gg;refine pw_filterMap (λ i j a b hij ha hb=>?_) List.pairwise_lt_range;split at ha
 . split at hb
   . cases ha;cases hb;omega
   . cases hb
 . cases ha
theorem Aa{f:Nat->Option Nat}(l:List Nat):(l.filterMap f).length<=l.length:=List.length_filterMap_le ..
theorem ME{A:List (List Int)}{N top p:Nat}{os:List (Int×Int)}(hp:os.Perm (((gg A N top p).map λ(k:Nat)=>(((Mx.g A k p).natAbs:Nat):Int)).zip ((gg A N top p).map λ(k:Nat)=>(k:Int))))(hs:os.Pairwise slt):
 Mx.ow A N top p (os.map λ q=>q.2.toNat)/\os.map (λ q=>D.int q.2)=(os.map λ q=>q.2.toNat).map λ(k:Nat)=>D.int (k:Int):=by
 have hz:((gg A N top p).map λ(k:Nat)=>(((Mx.g A k p).natAbs:Nat):Int)).zip ((gg A N top p).map λ(k:Nat)=>(k:Int))=(gg A N top p).map λ k=>((((Mx.g A k p).natAbs:Nat):Int),(k:Int)):=by
  exact List.zip_map' ..
 rw[hz]at hp
 have hm:∀q∈os,∃k,k∈gg A N top p/\q=((((Mx.g A k p).natAbs:Nat):Int),(k:Int)):=λ q hq=>by
  obtain⟨k,h1,h2⟩:=Vy.mp (hp.mem_iff.mp hq);exact⟨k,h1,h2.symm⟩
 refine⟨⟨λ k=>?_,?_,?_⟩,?_⟩
 . rw[<-zM];constructor
   . intro h;obtain⟨q,hq,e⟩:=Vy.mp h;obtain⟨j,h1,rfl⟩:=hm q hq;simp only[UL]at e;rw[<-e];exact h1
   . intro h;exact Vy.mpr ⟨((((Mx.g A k p).natAbs:Nat):Int),(k:Int)),hp.mem_iff.mpr (Vy.mpr ⟨k,h,rfl⟩),by simp⟩
 . rw[Yb];refine hs.imp_of_mem λ{x y} hx hy h=>?_;obtain⟨j,_,rfl⟩:=hm x hx;obtain⟨k,_,rfl⟩:=hm y hy;unfold slt at h;simp only[UL];omega
 . have e:((gg A N top p).map λ k=>((((Mx.g A k p).natAbs:Nat):Int),(k:Int))).map (λ q=>q.2.toNat)=gg A N top p:=by
    rw[Vo];exact(UX λ k _=>UL k).trans (List.map_id _)
   have hq:=hp.map λ q=>q.2.toNat;rw[e]at hq;exact hq.nodup_iff.mpr (pw_liveR.imp λ h=>UG h)
 . rw[Vo];refine UX λ q hq=>?_;obtain⟨j,_,rfl⟩:=hm q hq;simp
theorem tM:T9 iq 3 vt ij:=by
 rintro ds st K ⟨b,xb,xu,xc,N,w,top,p,A,U,C,f,rfl,B,hA,ht,hN,hp,hw,h0,k⟩;refine⟨rfl,?_⟩;have lA:=hA.len;have rowA:∀i,i<N->(A.getD i []).length=w:=λ i hi=>Mx.bo hA hi;refine bp B.eb rfl (fB (aC B.e1) ?_);rw[Uk,lA];refine yY ⟨by omega,by omega,by omega,by omega⟩ ⟨fb (by unfold dq;simp;omega),?_⟩;have er:((N:Int)-(top:Int)).toNat=N-top:=by omega
 rw[er];refine iP (λ rest acc st'=>∃i:Nat,i<=N-top/\st'=st/\rest=(List.range (N-top-i)).map (λ j=>D.int ((top+i+j:Nat):Int))/\acc=((List.range i).filterMap λ i=>if Mx.g A (top+i) p≠0 then some (top+i)else none).map λ(k:Nat)=>D.int (k:Int)) ?_ ?_ _ _ _ ⟨0,UK _,rfl,by unfold dq;simp,by simp⟩
 . rintro acc st' ⟨i,hi,rfl,hr,rfl⟩
   have hi':i=N-top:=by
    rcases WO i (N-top)with z|z
    . rw[show N-top-i=(N-top-i-1)+1 by omega,VZ]at hr;cases hr
    . omega
   subst hi';refine⟨trivial,?_⟩;have e1:((gg A N top p).map λ(k:Nat)=>D.int (k:Int))=((gg A N top p).map λ(k:Nat)=>(k:Int)).map D.int:=by rw[Vo];rfl
   refine⟨(gg A N top p).map λ(k:Nat)=>(k:Int),(gg A N top p).map λ(k:Nat)=>(((Mx.g A k p).natAbs:Nat):Int),f,VH D.lst e1,?_,?_,by rw[Uk,Uk],h0,λ i n q hn hq=>?_,λ os hp' hs=>?_⟩
   . rw[Uk];have:=Aa (f:=λ i=>if Mx.g A (top+i) p≠0 then some (top+i)else none) (List.range (N-top));rw[List.length_range]at this;show(gg A N top p).length<64;unfold gg;omega
   . rw[Yb];exact pw_liveR.imp λ h=>by omega
   . rw[Uw]at hn hq;cases z:(gg A N top p)[i]? with
     |none=>rw[z]at hn;cases hn
     |some j=>
      rw[z]at hn hq;cases hn;cases hq;obtain⟨j1,j2,j3⟩:=zM.mp (UJ z);have B1:=B.tab h0 (h_ true);refine bp B1.eb rfl (aM (aC B1.e1) (d7 (by omega)) (aM rfl (pS (by rw[rowA j j2];exact hp)) (B_ ⟨rfl,rfl⟩)))
   . obtain⟨h1,h2⟩:=ME hp' hs;rw[h2];exact k _ h1
 . rintro d rest acc st' ⟨i,hi,rfl,hr,rfl⟩ next
   have hlt:i<N-top:=by
    rcases WO i (N-top)with z|z
    . exact z
    . rw[show N-top-i=0 by omega]at hr;cases hr
   rw[show N-top-i=(N-top-i-1)+1 by omega,VZ,UP,Vo]at hr;obtain⟨rfl,rfl⟩:=List.cons.inj hr;refine⟨trivial,_,rfl,?_⟩;refine bp B.eb rfl (aM (aC B.e1) (d7 (j:=top+i+0) (by omega)) (aM rfl (pS (by rw[rowA _ (by omega)];exact hp)) ?_));have e2:List.range (i+1)=List.range i++[i]:=VW
   have e3:((List.range (N-top-i-1)).map ((λ j=>D.int ((top+i+j:Nat):Int))∘Nat.succ))=(List.range (N-top-(i+1))).map λ j=>D.int ((top+(i+1)+j:Nat):Int):=by
    rw[show N-top-i-1=N-top-(i+1) by omega];refine UX λ j _=>?_;show D.int ((top+i+(j+1):Nat):Int)=_;rw[show top+i+(j+1)=top+(i+1)+j by omega]
   refine ne2 (λ h=>?_) λ h=>?_
   . refine(next _ _ ⟨i+1,by omega,rfl,e3,?_⟩);rw[e2,YW,Vm];have:Mx.g A (top+i) p≠0:=h;simp[this]
   . refine(next _ _ ⟨i+1,by omega,rfl,e3,?_⟩);rw[e2,YW,Vm];have:Mx.g A (top+i) p=0:=h;simp[this]
structure Bo(n0:Nat)(st st':ag)(b xb xu xc:Nat):Prop where
 lo:1<=n0/\n0<=b/\n0<=xb/\n0<=xu/\n0<=xc
 fr:∀m,m<n0->m≠0->st'[m]?=st[m]?
 tb:∃f,st'[0]?=some (h_ f)
def mJ:cE:=λ ds st K=>∃(n0 b xb xu xc N w top p e u v:Nat) (A0 A U C:List (List Int)) (ld:Nat->Nat),ds=[.ref b,.int top,.int p]/\Bn st b xb xu xc A U C/\Bo n0 st st b xb xu xc/\Mx.i0 A0 N w ⟨A,U,C⟩ top p ld e u v/\N<=8/\w<=9/\p<w/\(N-top+1)*(e+1)<=60000000/\
 (∀st',Bn st' b xb xu xc A U C->Bo n0 st st' b xb xu xc->Mx.ow A N top p []->K (.bl false) st')/\
 ∀st' xb' xu' xc' (c:Mx.B3) (r:Nat),Bn st' b xb' xu' xc' (Mx.setB c p top r).A (Mx.setB c p top r).U (Mx.setB c p top r).C->Bo n0 st st' b xb' xu' xc'->Mx.kC N top p ⟨A,U,C⟩ c->Mx.ow c.A N top p [r]->top<N->
  Mx.y9 A0 N w top p (2^((N-top+1)*(e+1))) ⟨A,U,C⟩ (Mx.setB c p top r)->K (.bl true) st'
def ki:List Str:=["self","top","place","live","great","small"]
def yQ:DS:=(aA (aQ 3 (dn aD "live_rows" iq (aa 0) (ae (aa 1) (ae (aa 2) aq))))
 (aA (uM (cK (ak zw (cP fZ (ae (aa 3) aq)) (dC (.int 1)))) (aA (aQ 4 (ak aU (aa 3) (kD gH (dC (.int 1)))))
 (aA (aQ 5 (ak aU (aa 3) (kD gH (dC (.int 2)))))
 (aA (fh (dn aD "take" jE (aa 0) (ae (aa 4) (ae (aJ gX (ae (ak aU (ak aU (cG aD "body" (aa 0)) (aa 4)) (aa 2)) (ae (ak aU (ak aU (cG aD "body" (aa 0)) (aa 5)) (aa 2)) aq))) (ae (aa 5) aq)))))
 (aQ 3 (dn aD "live_rows" iq (aa 0) (ae (aa 1) (ae (aa 2) aq))))))))
 (aA (gj (cK (ak lH (cP fZ (ae (aa 3) aq)) (dC (.int 0)))) (bK (dC (.bl false))) e_)
 (aA (fh (dn aD "exchange" i4 (aa 0) (ae (aa 1) (ae (ak aU (aa 3) (dC (.int 0))) aq))))
 (aA (gj (cK (ak rF (ak aU (ak aU (cG aD "body" (aa 0)) (aa 1)) (aa 2)) (dC (.int 0)))) (fh (dn aD "change_sign" jj (aa 0) (ae (aa 1) aq))) e_)
 (bK (dC (.bl true))))))))
theorem Bo.NY{n0:Nat}{st st':ag}{b xb xu xc:Nat}(h:Bo n0 st st' b xb xu xc):Bo n0 st (st'.set 0 (h_ true)) b xb xu xc:=
 ⟨h.lo,λ m hm h0=>by rw[Ug (Ui h0)];exact h.fr m hm h0,true,by
  obtain⟨f,e⟩:=h.tb;exact Uo (Ua.mp e).1⟩
theorem Bo.low{n0:Nat}{st st1 st2:ag}{b xb xu xc:Nat}(h:Bo n0 st st1 b xb xu xc)(f:∀m,m≠xb->m≠xu->m≠xc->st2[m]?=st1[m]?):Bo n0 st st2 b xb xu xc:=by
 obtain⟨l1,l2,l3,l4,l5⟩:=h.lo;refine⟨h.lo,λ m hm h0=>?_,?_⟩
 . rw[f m (by omega) (by omega) (by omega)];exact h.fr m hm h0
 . obtain⟨z,e⟩:=h.tb;exact⟨z,by rw[f 0 (by omega) (by omega) (by omega)];exact e⟩
theorem yM{X:List (List Int)}{N w top m i:Nat}(hX:Mx.bh N w X)(h:Mx.iI X N top m)(hi:top<=i)(hN:i<N):∀x∈X.getD i [],x.natAbs<=m:=λ x hx=>by
 obtain⟨c,hc,rfl⟩:=UC.mp hx;have:=h i c hi hN;unfold Mx.g at this;rwa [Mx.aK hc]at this
theorem Br{n j:Nat}(h:1<=j)(h2:j<=n):lO n (-(j:Int))=some (n-j):=by
 unfold lO;rw[Ub (by omega),Ud (by omega)];congr 1;omega
theorem Qw{L:List Nat}{j k:Nat}:dY ((L++[j,k]).map λ(k:Nat)=>D.int (k:Int)) (-1)=some (.int (k:Int)):=by
 unfold dY;have:=Br (n:=((L++[j,k]).map λ(k:Nat)=>D.int (k:Int)).length) (j:=1) (by decide) (by simp);rw[show(-((1:Nat):Int))= -1 from rfl]at this;rw[this];simp
theorem Rw{L:List Nat}{j k:Nat}:dY ((L++[j,k]).map λ(k:Nat)=>D.int (k:Int)) (-2)=some (.int (j:Int)):=by
 unfold dY;have:=Br (n:=((L++[j,k]).map λ(k:Nat)=>D.int (k:Int)).length) (j:=2) (by decide) (by simp);rw[show(-((2:Nat):Int))= -2 from rfl]at this;rw[this];simp
theorem Jp:∀ {L:List Nat},1<L.length->∃M j k,L=M++[j,k]:=λ{L} h=>by
 refine⟨L.take (L.length-2),L[L.length-2]'(by omega),L[L.length-1]'(by omega),?_⟩;have e1:L=L.take (L.length-2)++L.drop (L.length-2):=(List.take_append_drop _ _).symm
 have e2:L.drop (L.length-2)=[L[L.length-2]'(by omega),L[L.length-1]'(by omega)]:=by
  rw[UI (by omega),UI (by omega),V0 (by omega)];congr 2;congr 1;omega
 rw[<-e2];exact e1
theorem xD:T9 mJ 3 yQ ki:=by
 rintro ds st K ⟨n0,b,xb,xu,xc,N,w,top,p,e,u,v,A0,A,U,C,ld,rfl,B,O,S,hN,hw,hp,hz,kf,kt⟩;refine⟨rfl,?_⟩;have hle:=S.le;obtain⟨f,h0⟩:=O.tb;refine c_ B.eb rfl ?_;refine⟨b,xb,xu,xc,N,w,top,p,A,U,C,f,rfl,B,S.tn.isA,hle,hN,hp,hw,h0,λ L hL=>?_⟩;have B1:=B.tab h0 (h_ true);have O1:=O.NY;try dsimp only[aq]
 refine yN (λ σ st'=>∃(L:List Nat) (v4 v5:Option D) (c:Mx.B3) (gr:Nat),σ=[some (.ref b),some (.int top),some (.int p),some (.lst (L.map λ(k:Nat)=> .int (k:Int))),v4,v5]/\L.length<=1/\Bn st' b xb xu xc c.A c.U c.C/\Bo n0 st st' b xb xu xc/\Mx.kC N top p ⟨A,U,C⟩ c/\Mx.vK A0 N w top p (2^e) ⟨A,U,C⟩ c gr/\Mx.ow c.A N top p L) (λ nx hnx=>?_) ?_
 . refine⟨λ m σ st'=>∃(L:List Nat) (v4 v5:Option D) (c:Mx.B3) (gr:Nat),σ=[some (.ref b),some (.int top),some (.int p),some (.lst (L.map λ(k:Nat)=> .int (k:Int))),v4,v5]/\Bn st' b xb xu xc c.A c.U c.C/\Bo n0 st st' b xb xu xc/\Mx.kC N top p ⟨A,U,C⟩ c/\Mx.vK A0 N w top p (2^e) ⟨A,U,C⟩ c gr/\Mx.ow c.A N top p L/\m=Mx.mu c.A N p,⟨_,L,none,none,⟨A,U,C⟩,1,rfl,B1,O1,.refl _,S.T7,hL,rfl⟩,?_⟩;rintro m σ st1 ⟨L,v4,v5,c,gr,rfl,B,O,hR,hG,hL,rfl⟩;refine fB rfl ?_;rw[Uk];refine TJ (λ h=>jn ?_) λ h=>uc (hnx _ _ ⟨L,v4,v5,c,gr,rfl,by omega,B,O,hR,hG,hL⟩);obtain⟨M,j,k,rfl⟩:=Jp (L:=L) (by omega);refine gI (aM rfl Qw (gI (aM rfl Rw ?_)));obtain⟨G2,hlt,hoth,k1,k2,j1,j2,hjk,hj0⟩:=hG.step hp hL;have T:=hG.tn;have lA:=T.isA.len;have hlow:=G2.low S.lo.1;refine c_ B.eb rfl (bp B.eb rfl (aM (aC B.e1) (d7 (by omega)) (aM rfl (pS (by rw[Mx.bo T.isA k2];exact hp)) (bp B.eb rfl (aM (aC B.e1) (d7 (by omega)) (aM rfl (pS (by rw[Mx.bo T.isA j2];exact hp)) ?_))))));refine⟨_,_,rfl,hj0,?_⟩
   have hq:(Mx.qn (Mx.g c.A k p) (Mx.g c.A j p)).natAbs<=2^((N-top+1)*(e+1)):=by
    refine Uj ?_ hlow;have a1:=hG.pos;have a2:1<=2^e:=W7;have a3:1*(Mx.qn (Mx.g c.A k p) (Mx.g c.A j p)).natAbs<=gr*(1+(Mx.qn (Mx.g c.A k p) (Mx.g c.A j p)).natAbs):=Vd a1 (by omega);have a4:=Vd a2 a3;omega
   have hx:2^e*gr<=2^((N-top+1)*(e+1)):=hG.low S.lo.1
   have hm:∀ {x:Int},x.natAbs<=2^e*gr->IntMulOk (Mx.qn (Mx.g c.A k p) (Mx.g c.A j p)) x/\IntMulOk (-(Mx.qn (Mx.g c.A k p) (Mx.g c.A j p))) x:=λ{x} h=>
    ⟨j_ hq (Uj h hx) (by omega),j_ (by rw[V4];exact hq) (Uj h hx) (by omega)⟩
   refine⟨b,xb,xu,xc,N,w,k,j,c.A,c.U,c.C,_,rfl,B,T.isA,T.dz,T.fe,k2,j2,hN,hw,λ x hx=>(hm (yM T.isA hG.lA j1 j2 x hx)).2,λ x hx=>(hm (yM T.dz hG.lU j1 j2 x hx)).2,λ x hx=>(hm (yM T.fe hG.lC k1 k2 x hx)).1,λ st2 B2 l2 f2=>?_⟩;have O2:=O.low f2;obtain⟨f',h0'⟩:=O2.tb;refine c_ B2.eb rfl ?_;refine⟨b,xb,xu,xc,N,w,top,p,_,_,_,f',rfl,B2,G2.tn.isA,hle,hN,hp,hw,h0',λ L2 hL2=>?_⟩;refine⟨_,?_,L2,_,_,Mx.lZ c p k j,_,rfl,B2.tab h0' (h_ true),O2.NY,hR.tail ⟨M,k,j,hL,rfl⟩,G2,hL2,rfl⟩;unfold Mx.mu;refine Mx.La (k:=k) hlt k2 λ i hi=>?_;by_cases h:i=k
   . rw[h];exact VM hlt
   . rw[hoth i h];exact Ue _
 . rintro σ st1 ⟨L,v4,v5,c,gr,rfl,hl,B,O,hR,hG,hL⟩;refine fB rfl ?_;rw[Uk];match L,hl,hL with
   | [],_,hL=>
     refine eq2 (λ h=>jn ?_) λ h=>absurd rfl h
     have e0:c=⟨A,U,C⟩:=by
      rcases hG.QM with z|⟨j,h1,h2,h3⟩
      . exact z
      . exact absurd ((hL.mem j).mpr ⟨h1,h2,h3⟩) (by simp)
     subst e0;exact kf st1 B O hL
   | [r],_,hL=>
     refine eq2 (λ h=>absurd h (by simp)) λ h=>uc ?_;obtain⟨s1,hr1,hr2⟩:=hG.set hL;have ht:top<N:=by omega
     have T:=hG.tn
     have s2:Mx.y9 A0 N w top p (2^((N-top+1)*(e+1))) ⟨A,U,C⟩ (Mx.setB c p top r):=by
      have hlow:=hG.low S.lo.1;exact⟨s1.tn,s1.up,⟨λ i q h1 h2=>Uj (s1.lo.1 i q h1 h2) hlow,λ i q h1 h2=>Uj (s1.lo.2.1 i q h1 h2) hlow,λ i q h1 h2=>Uj (s1.lo.2.2 i q h1 h2) hlow⟩,s1.zs,s1.tp,s1.z1⟩
     refine c_ B.eb rfl (aM rfl (show dY ([r].map λ(k:Nat)=>D.int (k:Int)) 0=some (.int (r:Int))from rfl) ?_);refine⟨b,xb,xu,xc,N,w,top,r,c.A,c.U,c.C,rfl,B,T.isA,T.dz,T.fe,ht,hr2,λ st2 B2 l2 f2=>?_⟩;obtain⟨l1,l2',l3,l4,l5⟩:=O.lo
     have hst:n0<=st1.length:=by
      have:=(Ua.mp B.eb).1;omega
     have O2:Bo n0 st st2 b st1.length (st1.length+1) (st1.length+2):=by
      refine⟨⟨l1,l2',by omega,by omega,by omega⟩,λ m hm h0=>?_,?_⟩
      . rw[f2 m (by omega) (by omega)];exact O.fr m hm h0
      . obtain⟨z,e⟩:=O.tb;exact⟨z,by rw[f2 0 (by omega) (by omega)];exact e⟩
     have T1:=T.KN ht hr2;refine bp B2.eb rfl (aM (aC B2.e1) (d7 (by have:=T1.isA.len;omega)) (aM rfl (pS (by rw[Mx.bo T1.isA ht];exact hp)) ?_));refine NM (λ h=>jn ?_) λ h=>uc ?_
     . have es:Mx.setB c p top r=⟨Mx.iD (Mx.aT c.A top r) top,Mx.iD (Mx.aT c.U top r) top,Mx.iD (Mx.aT c.C top r) top⟩:=Ud h;refine c_ B2.eb rfl ?_;refine⟨b,_,_,_,N,w,top,_,_,_,rfl,B2,T1.isA,T1.dz,T1.fe,ht,hN,hw,λ st3 B3 l3 f3=>?_⟩;exact kt st3 _ _ _ c r (by rw[es];exact B3) (O2.low f3) hR hL ht s2
     . have es:Mx.setB c p top r=⟨Mx.aT c.A top r,Mx.aT c.U top r,Mx.aT c.C top r⟩:=Ub (λ z=>by unfold Mx.g at z;omega);exact kt st2 _ _ _ c r (by rw[es];exact B2) O2 hR hL ht s2
def js:cE:=λ ds st K=>∃(b xb xu xc N w top p e u v:Nat) (A0 A U C:List (List Int)),ds=[.ref b,.int top,.int p]/\Bn st b xb xu xc A U C/\Mx.Tn A0 A U C N w/\N<=8/\w<=9/\p<w/\top<N/\0<Mx.g A top p/\(∀q,q<p->Mx.g A top q=0)/\
 (∀q,(Mx.g A top q).natAbs<=2^e/\(Mx.g U top q).natAbs<=2^e/\(Mx.g C top q).natAbs<=2^e)/\(∀i q,i<top->(Mx.g A i q).natAbs<=2^u/\(Mx.g U i q).natAbs<=2^u/\(Mx.g C i q).natAbs<=2^v)/\u+e<=125000000/\u+v<=125000000/\
 ∀st',Bn st' b xb xu xc (Mx.oq p top top ⟨A,U,C⟩).A (Mx.oq p top top ⟨A,U,C⟩).U (Mx.oq p top top ⟨A,U,C⟩).C->(∀m,m≠xb->m≠xu->m≠xc->st'[m]?=st[m]?)->Mx.oK A0 N w top p e u v ⟨A,U,C⟩ top (Mx.oq p top top ⟨A,U,C⟩)->K .aF st'
def gN:List Str:=["self","top","place","k"]
def tG:DS:=(fj (dN (ae (aa 1) aq)) (bT 3) (fh (dn aD "take" jE (aa 0) (ae (aa 3) (ae (ak nW (ak aU (ak aU (cG aD "body" (aa 0)) (aa 3)) (aa 2)) (ak aU (ak aU (cG aD "body" (aa 0)) (aa 1)) (aa 2))) (ae (aa 1) aq))))))
theorem EJ{X:List (List Int)}{i:Nat}{x:Int}(hx:x∈X.getD i []):∃q,x=Mx.g X i q:=by
 obtain⟨c,hc,rfl⟩:=UC.mp hx;exact⟨c,by unfold Mx.g;rw[Mx.aK hc]⟩
theorem sE:T9 js 3 tG gN:=by
 rintro ds st K ⟨b,xb,xu,xc,N,w,top,p,e,u,v,A0,A,U,C,rfl,B,T,hN,hw,hp,ht,htp,hz,hlo,hhi,he,hu,kk⟩;refine⟨rfl,?_⟩;refine gO ⟨by omega,by omega⟩ ?_;rw[UL];refine jX top (λ k σ st'=>∃v3:Option D,σ=[some (.ref b),some (.int top),some (.int p),v3]/\Bn st' b xb xu xc (Mx.oq p top k ⟨A,U,C⟩).A (Mx.oq p top k ⟨A,U,C⟩).U (Mx.oq p top k ⟨A,U,C⟩).C/\(∀m,m≠xb->m≠xu->m≠xc->st'[m]?=st[m]?)/\Mx.oK A0 N w top p e u v ⟨A,U,C⟩ k (Mx.oq p top k ⟨A,U,C⟩)) ?_ ?_ ⟨none,rfl,B,λ _ _ _ _=>rfl,Mx.oK.start T λ q=>(hlo q).2.2⟩
 . rintro σ st' ⟨v3,rfl,B',f,I⟩;exact kk st' B' f I
 . rintro k σ st' rest hk ⟨v3,rfl,B',f,I⟩ next
   refine⟨_,rfl,?_⟩;have hs:=I.step hk ht hp htp hz (λ q=>⟨(hlo q).1,(hlo q).2.1⟩) hhi;generalize hc:Mx.oq p top k ⟨A,U,C⟩=c at*;have lA:=I.tn.isA.len;have kN:k<N:=by omega
   have gA:∀i q,k<=i->Mx.g c.A i q=Mx.g A i q:=λ i q hi=>by unfold Mx.g;rw[(I.rA i hi).1]
   have gU:∀i q,k<=i->Mx.g c.U i q=Mx.g U i q:=λ i q hi=>by unfold Mx.g;rw[(I.rA i hi).2]
   have gC:∀i q,i≠top->Mx.g c.C i q=Mx.g C i q:=λ i q hi=>by unfold Mx.g;rw[I.rC i hi]
   have hq:((Mx.g c.A k p).fdiv (Mx.g c.A top p)).natAbs<=2^u:=by
    rw[gA k p (Ue _),gA top p (by omega)];exact Uj (Mx.pX _ htp) (hhi k p hk).1
   have htp':Mx.g c.A top p≠0:=by rw[gA top p (by omega)];omega
   refine c_ B'.eb rfl (bp B'.eb rfl (aM (aC B'.e1) (d7 (by omega)) (aM rfl (pS (by rw[Mx.bo I.tn.isA kN];exact hp)) (bp B'.eb rfl (aM (aC B'.e1) (d7 (by omega)) (aM rfl (pS (by rw[Mx.bo I.tn.isA ht];exact hp)) (Bb htp' ?_)))))));refine⟨b,xb,xu,xc,N,w,k,top,c.A,c.U,c.C,_,rfl,B',I.tn.isA,I.tn.dz,I.tn.fe,kN,ht,hN,hw,λ x hx=>?_,λ x hx=>?_,λ x hx=>?_,λ st2 B2 l2 f2=>?_⟩
   . obtain⟨q,rfl⟩:=EJ hx;rw[gA top q (by omega)];exact j_ (by rw[V4];exact hq) (hlo q).1 (by omega)
   . obtain⟨q,rfl⟩:=EJ hx;rw[gU top q (by omega)];exact j_ (by rw[V4];exact hq) (hlo q).2.1 (by omega)
   . obtain⟨q,rfl⟩:=EJ hx;rw[gC k q (by omega)];exact j_ hq (hhi k q hk).2.2 (by omega)
   . have el:Mx.oq p top (k+1) ⟨A,U,C⟩=⟨Mx.aR c.A k ((Mx.g c.A k p).fdiv (Mx.g c.A top p)) top,Mx.aR c.U k ((Mx.g c.A k p).fdiv (Mx.g c.A top p)) top,Mx.aR c.C top (-((Mx.g c.A k p).fdiv (Mx.g c.A top p))) k⟩:=by rw[<-hc];rfl
     refine next _ _ ⟨_,rfl,?_,λ m h1 h2 h3=>(f2 m h1 h2 h3).trans (f m h1 h2 h3),?_⟩
     . rw[el];exact B2
     . rw[el];exact hs
structure Bk(st st':ag):Prop where
 le:st.length<=st'.length
 fr:∀m,m<st.length->m≠0->st'[m]?=st[m]?
 tb:∃f,st'[0]?=some (h_ f)
def mj:cE:=λ ds st K=>∃(d:D) (N w e0:Nat) (A:List (List Int)) (f:Bool),ds=[d]/\e8 st d A/\Mx.bh N w A/\1<=N/\N<=8/\w<=9/\Mx.iI A N 0 (2^e0)/\e0<60000000/\Mx.Rm N w e0/\st[0]?=some (h_ f)/\
 ∀st' (top:Nat) (c:Mx.B3) (ld:Nat->Nat),Mx.yR A N w top c->Mx.i0 A N w c top w ld (Mx.Ez N e0 top) (Mx.Uz N e0 top) (Mx.Cz N e0 top)->Bk st st'->K (.tup [dh (c.A.take top),dh c.U,dh (Mx.GC c.C N)]) st'
def oU:List Str:=["rows","bench","top","place","back"]
def Ep:DS:=(aA (aQ 1 (x_ aD iX (ae (aa 0) aq)))
 (aA (aQ 2 (dC (.int 0)))
 (aA (fj (dN (ae (cP fZ (ae (ak aU (aa 0) (dC (.int 0))) aq)) aq)) (bT 3) (gj (cK (dn aD "gather" mJ (aa 1) (ae (aa 2) (ae (aa 3) aq)))) (aA (fh (dn aD "lower_above" js (aa 1) (ae (aa 2) (ae (aa 3) aq))))
 (Ce 2 (xi (λ i j=>i+j)) (dC (.int 1)))) e_))
 (aA (aQ 4 (aJ kR (ae (cG aD "back_columns" (aa 1)) (ae (cP fZ (ae (aa 0) aq)) aq))))
 (bK (p9 (ae (aJ lq (ae (ky (cG aD "body" (aa 1)) j6 (mx (aa 2))) aq)) (ae (aJ lq (ae (cG aD "turn" (aa 1)) aq)) (ae (aa 4) aq)))))))))
theorem nI{st st':ag}{f:Bool}(h0:st[0]?=some (h_ f))(fr:∀m,m<st.length->m≠0->st'[m]?=st[m]?){d:D}{xs:List D}(h:items? st d=some xs):items? st' d=some xs:=by
 cases d with
 |ref n=>
  have e:=tJ h;have n0:n≠0:=ve e h0;rw[aC ((fr n (Ua.mp e).1 n0).trans e)]
 |_=>exact h
theorem zL{st st':ag}{f:Bool}(h0:st[0]?=some (h_ f))(fr:∀m,m<st.length->m≠0->st'[m]?=st[m]?):∀ {ds:List D} {A:List (List Int)},bL st ds A->bL st' ds A
 | [],[],_=>trivial
 |_::_,_::_,h=>⟨nI h0 fr h.1,zL h0 fr h.2⟩
theorem xg{st st':ag}{f:Bool}(h0:st[0]?=some (h_ f))(fr:∀m,m<st.length->m≠0->st'[m]?=st[m]?){d:D}{A:List (List Int)}(h:e8 st d A):e8 st' d A:=by
 obtain⟨ds,h1,h2⟩:=h.ex;exact⟨ds,nI h0 fr h1,zL h0 fr h2⟩
theorem By{xs:List D}{j:Nat}:L3.cutD xs none (some (j:Int))=xs.take j:=by
 unfold L3.cutD;rw[HT.y6,HT.wz,List.drop_zero,Y7];by_cases h:j<=xs.length
 . rw[W3 h]
 . rw[Nat.min_eq_right (by omega),List.take_length,Xj (by omega)]
theorem C3:T9 mj 1 Ep oU:=by
 rintro ds st K ⟨d,N,w,e0,A,f,rfl,hd,hA,hN1,hN,hw,hlo,he0,hsz,h0,kk⟩;refine⟨rfl,?_⟩;have lA:=hA.len;have h0l:0<st.length:=(Ua.mp h0).1;have hd1:e8 (st++[Cell.ins aD []]) d A:=xg h0 (λ m hm _=>Uh hm) hd;refine⟨st.length,N,d,A,rfl,by simp,hd1,lA,hN,λ st1 B1 l1 f1=>⟨rfl,?_⟩⟩;have hl1:(st++[Cell.ins aD []]).length=st.length+1:=by simp
 have fr1:∀m,m<st.length->st1[m]?=st[m]?:=λ m hm=>by rw[f1 m (by omega) (by omega),Uh hm]
 have O1:Bo st.length st st1 st.length (st.length+1) (st.length+1+1) (st.length+1+2):=⟨⟨h0l,by omega,by omega,by omega,by omega⟩,λ m hm _=>fr1 m hm,f,(fr1 0 h0l).trans h0⟩
 rw[hl1]at B1;have hdk:∀ {st':ag},(∀m,m<st.length->m≠0->st'[m]?=st[m]?)->e8 st' d A:=λ h=>xg h0 h hd;obtain⟨da,hda,hra⟩:=(hdk O1.fr).ex;have hdl:=hra.len
 have hrow0:∃d0,da[0]?=some d0/\items? st1 d0=some (ax (A.getD 0 [])):=by
  have hi:0<da.length:=by omega
  obtain⟨r,e1,e2⟩:=bL.get hra (Uq hi);refine⟨da[0],Uq hi,?_⟩;have:A.getD 0 []=r:=by rw[Uv,e1];rfl
  rw[this];exact e2
 obtain⟨d0,hd0,hi0⟩:=hrow0;have er:(ax (A.getD 0 [])).length=w:=by unfold ax;rw[Uk];exact Mx.bo hA (by omega)
 try dsimp only[aq]
 refine yN (A:=aQ 2 _) (λ σ st'=>σ=[some d,some (.ref st.length),some (.int 0),none,none]/\st'=st1) (λ nx h=>h _ _ ⟨rfl,rfl⟩) ?_;rintro _ _ ⟨rfl,rfl⟩;refine yN (A:=fj _ _ _) (λ σ st'=>∃(top xb xu xc:Nat) (v3:Option D) (c:Mx.B3) (ld:Nat->Nat),σ=[some d,some (.ref st.length),some (.int top),v3,none]/\Bn st' st.length xb xu xc c.A c.U c.C/\Bo st.length st st' st.length xb xu xc/\Mx.yR A N w top c/\Mx.i0 A N w c top w ld (Mx.Ez N e0 top) (Mx.Uz N e0 top) (Mx.Cz N e0 top)) (λ nx hnx=>?_) ?_
 . refine aM hda (show dY da 0=some d0 from iC (j:=0) hd0) (fB hi0 ?_);rw[er];refine gO ⟨by omega,by omega⟩ ?_;rw[UL];refine jX w (λ p σ st'=>∃(top xb xu xc:Nat) (v3:Option D) (c:Mx.B3) (ld:Nat->Nat),σ=[some d,some (.ref st.length),some (.int top),v3,none]/\Bn st' st.length xb xu xc c.A c.U c.C/\Bo st.length st st' st.length xb xu xc/\Mx.yR A N p top c/\Mx.i0 A N w c top p ld (Mx.Ez N e0 top) (Mx.Uz N e0 top) (Mx.Cz N e0 top)) ?_ ?_ ⟨0,_,_,_,none,⟨A,Mx.units N,Mx.units N⟩,λ _=>0,rfl,B1,O1,.start,Mx.i0.start hA hlo⟩
   . rintro σ st' ⟨top,xb,xu,xc,v3,c,ld,rfl,B,O,hC,S⟩;exact hnx _ _ ⟨top,xb,xu,xc,v3,c,ld,rfl,B,O,hC,S⟩
   . rintro p σ st' rest hp ⟨top,xb,xu,xc,v3,c,ld,rfl,B,O,hC,S⟩ next
     refine⟨_,rfl,?_⟩;have hle:=S.le
     have hz1:(N-top+1)*(Mx.Ez N e0 top+1)<=60000000:=by
      have AY:=S.AY;by_cases ht:top<N
      . exact VM (hsz top ht (by omega)).1
      . have e:N-top=0:=by omega
        rw[e]
        have:Mx.Ez N e0 top<60000000:=by
         cases top with
         |zero=>exact he0
         |succ t=>exact(hsz t (by omega) (by omega)).1
        omega
     refine c_ B.eb rfl ?_;refine⟨st.length,st.length,xb,xu,xc,N,w,top,p,_,_,_,A,c.A,c.U,c.C,ld,rfl,B,⟨O.lo,λ _ _ _=>rfl,O.tb⟩,S,hN,hw,hp,hz1,λ st2 B2 O2 hL=>?_,λ st2 xb2 xu2 xc2 c2 r B2 O2 hR hL ht s1=>?_⟩
     . exact uc (next _ _ ⟨top,xb,xu,xc,_,c,ld,rfl,B2,⟨O2.lo,λ m h1 h2=>(O2.fr m h1 h2).trans (O.fr m h1 h2),O2.tb⟩,.next hC (.none hL),S.skip hL⟩)
     . refine jn ?_;have O2':Bo st.length st st2 st.length xb2 xu2 xc2:=⟨O2.lo,λ m h1 h2=>(O2.fr m h1 h2).trans (O.fr m h1 h2),O2.tb⟩
       have hup:∀i q,i<top->Mx.g (Mx.setB c2 p top r).A i q=Mx.g c.A i q/\Mx.g (Mx.setB c2 p top r).U i q=Mx.g c.U i q/\Mx.g (Mx.setB c2 p top r).C i q=Mx.g c.C i q:=λ i q hi=>by
        obtain⟨a1,a2,a3⟩:=s1.up i hi;unfold Mx.g;rw[a1,a2,a3];exact⟨rfl,rfl,rfl⟩
       refine c_ B2.eb rfl ?_;refine⟨st.length,xb2,xu2,xc2,N,w,top,p,Mx.Ez N e0 (top+1),Mx.Uz N e0 top,Mx.Cz N e0 top,A,_,_,_,rfl,B2,s1.tn,hN,hw,hp,ht,s1.tp,λ q hq=>s1.zs top q (Ue _) ht hq,λ q=>⟨s1.lo.1 top q (Ue _) ht,s1.lo.2.1 top q (Ue _) ht,s1.lo.2.2 top q (Ue _) ht⟩,λ i q hi=>?_,Uj (hsz top ht (VE S.AY hp)).2.1 (by decide),Uj (hsz top ht (VE S.AY hp)).2.2 (by decide),λ st3 B3 f3 I=>?_⟩
       . obtain⟨a1,a2,a3⟩:=hup i q hi;rw[a1,a2,a3];exact S.hi i q hi
       . have hS:=Mx.y9.r_ (e':=Mx.Ez N e0 (top+1)) (u':=Mx.Uz N e0 (top+1)) (v':=Mx.Cz N e0 (top+1)) S s1 ht I hN (Ue _) (by show _<=Mx.Uz N e0 top+Mx.Cz N e0 top+Mx.Ez N e0 (top+1)+4;omega) (by show _<=Mx.Uz N e0 top+Mx.Cz N e0 top+Mx.Ez N e0 (top+1)+4;omega);exact next _ _ ⟨top+1,xb2,xu2,xc2,_,_,_,rfl,B3,O2'.low f3,.next hC (.one hR hL),hS⟩
 . rintro σ st2 ⟨top,xb,xu,xc,v3,c,ld,rfl,B,O,hC,S⟩;have T:=S.tn;have lN:=T.isA.len;refine bp B.eb rfl ?_;obtain⟨da2,hda2,hra2⟩:=(hdk O.fr).ex;refine fB hda2 ?_;rw[hra2.len,lA];refine⟨_,c.C,N,rfl,⟨_,aC B.e3,bL.lst⟩,T.fe.gc,by rw[T.fe.len];omega,by omega,?_⟩;refine bp B.eb rfl (nJ B.e1 ?_);rw[By,<-Xp];refine⟨_,c.A.take top,rfl,⟨_,rfl,bL.lst⟩,by rw[Vn];omega,?_⟩;refine bp B.eb rfl ?_;refine⟨_,c.U,rfl,⟨_,aC B.e2,bL.lst⟩,by rw[T.dz.len];omega,?_⟩;refine⟨by show 3<=sizeLine;decide,?_⟩;refine kk st2 top c ld hC S ⟨?_,O.fr,O.tb⟩;have:=(Ua.mp B.eb).1;omega
structure Wf(F:List (List Int))(m w:Nat):Prop where
 is:Mx.bh m w F
 st:Mx.cV F m w (Mx.i5 F)
 m8:m<=8
 w8:w<=8
 sm:∀k c,k<m->c<w->(Mx.g F k c).natAbs<=2^5000
theorem Wf.lead{F:List (List Int)}{m w i:Nat}(h:Wf F m w)(hi:i<m):Mx.i5 F i<w/\0<Mx.g F i (Mx.i5 F i)/\(F.getD i []).length=w/\oB (F.getD i [])= .int ((Mx.i5 F i:Nat):Int):=by
 obtain⟨l1,l2,l3⟩:=h.st.lead i hi;refine⟨l1,l2,h.is.row hi,?_⟩;unfold oB;rw[Gv l3 (Yx l2)]
theorem Wf.row{F:List (List Int)}{m w i:Nat}(h:Wf F m w)(hi:i<m):∀x∈F.getD i [],x.natAbs<=2^5000:=λ x hx=>by
 obtain⟨c,hc,rfl⟩:=UC.mp hx;have hw:=h.is.row hi;have:=h.sm i c hi (by omega);unfold Mx.g at this;rwa [Mx.aK hc]at this
theorem Jx{x:Int}(h:x.natAbs<=2^5000)(h0:x≠0):x.natAbs.log2<9000:=
 (Xn (by omega)).mpr (VE h (V9 (by decide) (by decide)))
theorem drop_cons{F:List (List Int)}{i:Nat}{d:D}{rest:List D}(hr:d::rest=(F.map cN).drop i):i<F.length/\d=cN (F.getD i [])/\rest=(F.map cN).drop (i+1):=by
 have hi:i<F.length:=by
  rcases WO i F.length with h|h
  . exact h
  . rw[V0 (by rw[Uk];exact h)]at hr;cases hr
 rw[UI (by rw[Uk];exact hi),Vv]at hr;obtain⟨h1,h2⟩:=List.cons.inj hr;exact⟨hi,by rw[Mx.aK hi];exact h1,h2⟩
theorem drop_nil{F:List (List Int)}{i:Nat}(hr: []=(F.map cN).drop i):F.length<=i:=by
 have:=VH List.length hr;rw[Xq,Uk,XM]at this;omega
def uB:cE:=λ ds st K=>∃(dr:D) (F:List (List Int)) (r:List Int) (m w e:Nat),ds=[dh F,dr]/\Wf F m w/\items? st dr=some (ax r)/\r.length=w/\(∀c,c<w->(r.getD c 0).natAbs<=2^e)/\e<=10000/\∀st',Ext st st'->K (.tup [cN (Mx.tm F r m),cN (Mx.fJ F r m)]) st'
def qu:List Str:=["form","row","weights","left","each","lead","weight"]
def GQ:DS:=(aA (aQ 2 (og aq))
 (aA (aQ 3 (cP nj (ae (aa 1) aq)))
 (aA (fj (g8 (aa 0)) (bT 4) (aA (aQ 5 (aJ jR (ae (aa 4) aq)))
 (aA (aQ 6 (ak j7 (ak aU (aa 3) (aa 5)) (ak aU (aa 4) (aa 5))))
 (aA (fh (gz (aa 2) (aa 6)))
 (aQ 3 (aJ mI (ae (aa 3) (ae (kD gH (aa 6)) (ae (aa 4) aq)))))))))
 (bK (p9 (ae (cP eS (ae (aa 2) aq)) (ae (cP eS (ae (aa 3) aq)) aq)))))))
theorem E1:T9 uB 2 GQ qu:=by
 rintro ds st K ⟨dr,F,r,m,w,e,rfl,hW,hr,lr,br,he,k⟩;refine⟨rfl,?_⟩;have lF:=hW.is.len;have m8:=hW.m8;have w8:=hW.w8;refine⟨Ur rfl,?_⟩;have X0:Ext st (st++[.lst []]):=Ext.push;have e0:(st++[Cell.lst []])[st.length]?=some (.lst (ax [])):=by simp
 refine pe (X0.items hr) (pk ?_);refine fG (λ rest σ st'=>∃(i:Nat) (v4 v5 v6:Option D),i<=m/\rest=(F.map cN).drop i/\σ=[some (dh F),some dr,some (.ref st.length),some (bC (Mx.fJ F r i)),v4,v5,v6]/\Ext st st'/\st'[st.length]?=some (.lst (ax (Mx.tm F r i)))) ?_ ?_ _ _ _ ⟨0,none,none,none,UK _,rfl,rfl,X0,e0⟩
 . rintro σ st' ⟨i,v4,v5,v6,hi,hrest,rfl,X,ew⟩;have e1:i=m:=XI hi (by rw[<-lF];exact drop_nil hrest);subst e1;exact⟨trivial,eN (aC ew) (eN rfl ⟨Ur rfl,k st' X⟩)⟩
 . rintro x rest σ st' ⟨i,v4,v5,v6,hi,hrest,rfl,X,ew⟩ next
   obtain⟨hiF,rfl,rfl⟩:=drop_cons hrest;have him:i<m:=by rw[<-lF];exact hiF
   obtain⟨l1,l2,wF,eld⟩:=hW.lead him;have lL:=Mx.rB hW.is lr (i:=i) (VM him);refine⟨trivial,_,rfl,_,F.getD i [],rfl,rfl,?_⟩;rw[eld];have at1:dY (ax (F.getD i [])) ((Mx.i5 F i:Nat):Int)=some (.int (Mx.g F i (Mx.i5 F i))):=jY (by omega);have at2:dY (ax (Mx.fJ F r i)) ((Mx.i5 F i:Nat):Int)=some (.int ((Mx.fJ F r i).getD (Mx.i5 F i) 0)):=jY (by omega);refine aM rfl at2 (aM rfl at1 (mV (by omega) (Jx (hW.sm i _ him l1) (by omega)) ?_));have bx:=Mx.yF hW.is lr hW.st hW.sm br (VM him) _ l1;have bq:(Mx.xm F (Mx.fJ F r i) i).natAbs<=2^(e+i*(5000+1)):=Uj (Mx.pX _ l2) bx;show aA _ _ _ [_,_,_,_,_,_,some (.int (Mx.xm F (Mx.fJ F r i) i))] _;have lW:(Mx.tm F r i).length=i:=by unfold Mx.tm;simp
   refine nF (by rfl) ew (tQ rfl (lh ew (by rw[Vi,Uk,lW];omega) ?_));have hlt:=(Ua.mp ew).1;refine gI ?_;refine⟨_,_,_,Mx.fJ F r i,F.getD i [],rfl,rfl,rfl,by omega,λ b hb=>j_ (by rw[V4];exact bq) (hW.row him b hb) (by omega),?_⟩;refine next _ _ ⟨i+1,_,_,_,him,rfl,rfl,X.set (Ue _),?_⟩
   rw[Uo hlt,ints_app];congr 3;unfold Mx.tm;rw[VW,Vm];rfl
structure Ss(n0:Nat)(st:ag)(s b xb xu xc tb:Nat)(rs:List Nat)(A U C:List (List Int))(N:Nat):Prop where
 es:st[s]?=some (Cell.ins aP [("bench",.ref b),("table",.ref tb)])
 B:Bn st b xb xu xc A U C
 T:Tb st tb rs (Mx.af A) N
 d1:tb≠xb/\tb≠xu/\tb≠xc
 d2:∀(i c:Nat),rs[i]?=some c->c≠xb/\c≠xu/\c≠xc
 lo:n0<=s/\n0<=b/\n0<=xb/\n0<=xu/\n0<=xc/\n0<=tb
 lr:∀(i c:Nat),rs[i]?=some c->n0<=c
theorem tR{st st':ag}(f:∀(m:Nat) (xs:List D),st[m]?=some (Cell.lst xs)->st'[m]?=some (Cell.lst xs)):∀ {ds:List D} {A:List (List Int)},bL st ds A->bL st' ds A
 | [],[],_=>trivial
 |d::_,_::_,h=>⟨by
  have h1:=h.1;cases d with
  |ref n=>
   unfold items? at h1⊢;simp only at h1⊢;split at h1
   . rename_i xs e;rw[f n xs e];exact h1
   . cases h1
  |_=>exact h1,tR f h.2⟩
theorem C4{st st':ag}(f:∀(m:Nat) (xs:List D),st[m]?=some (Cell.lst xs)->st'[m]?=some (Cell.lst xs)){d:D}{A:List (List Int)}(h:e8 st d A):e8 st' d A:=by
 obtain⟨ds,e,r⟩:=h.ex;refine⟨ds,?_,tR f r⟩;cases d with
 |ref n=>
  unfold items? at e⊢;simp only at e⊢;split at e
  . rename_i xs e';rw[f n xs e'];exact e
  . cases e
 |_=>exact e
def kq:cE:=λ ds st K=>∃(s N w:Nat) (d:D) (A:List (List Int)),ds=[.ref s,d]/\st[s]?=some (.ins aP [])/\e8 st d A/\St A N w/\(∀k,k<=N->Mx.D k (Mx.af A)≠0)/\∀st' b xb xu xc tb rs,Ss s st' s b xb xu xc tb rs A (Mx.units N) (Mx.units N) N->(∀m,m<s->st'[m]?=st[m]?)->K .aF st'
def ip:List Str:=["self","steps"]
def vp:DS:=(aA (nc aP "bench" (aa 0) (x_ aD iX (ae (aa 1) aq)))
 (nc aP "table" (aa 0) (aJ sR (ae (aa 1) aq))))
theorem ur:T9 kq 2 vp ip:=by
 rintro ds st K ⟨s,N,w,d,A,rfl,es,hA,hS,hD,k⟩;refine⟨rfl,?_⟩;have hs:s<st.length:=(Ua.mp es).1;have X0:Ext st (st++[.ins aD []]):=Ext.push;have e0:(st++[Cell.ins aD []]).length=st.length+1:=by simp
 refine⟨st.length,N,d,A,rfl,by simp,X0.AE hA,hS.is.len,hS.gm.le,λ st1 B l1 f1=>⟨rfl,?_⟩⟩;rw[e0]at B l1 f1;have g1:∀m,m<st.length->st1[m]?=st[m]?:=λ m hm=>by rw[f1 m (by omega) (by omega),X0.same m hm]
 have es1:st1[s]?=some (.ins aP []):=(g1 s hs).trans es;refine lJ es1 (by decide) ?_;have pb:putD "bench" (.ref st.length) []=([("bench",.ref st.length)]:List (Str×D)):=rfl;rw[pb];generalize hs2:st1.set s (.ins aP [("bench",.ref st.length)])=st2;have l2:st2.length=st.length+4:=by rw[<-hs2,Us];omega
 have f2:∀m,m≠s->st2[m]?=st1[m]?:=λ m hm=>by rw[<-hs2,Ug (Ui hm)]
 have es2:st2[s]?=some (.ins aP [("bench",.ref st.length)]):=by rw[<-hs2,Uo (by omega)]
 clear hs2
 have hA2:e8 st2 d A:=C4 (λ m xs e=>by
  have hm:m<st.length:=(Ua.mp e).1;have hms:m≠s:=λ z=>by rw[z,es]at e;cases e
  rw[f2 m hms,g1 m hm];exact e) hA
 refine⟨A,N,w,d,rfl,hA2,hS,hD,λ st3 rs X3 T hrs=>?_⟩;have es3:st3[s]?=some (.ins aP [("bench",.ref st.length)]):=(X3.same s (by omega)).trans es2;refine lJ es3 (by simp) ?_;have pb:putD "table" (.ref st2.length) [("bench",.ref st.length)]=([("bench",.ref st.length),("table",.ref st2.length)]:List (Str×D)):=rfl;rw[pb];have ht:st2.length<st3.length:=(Ua.mp T.et).1;have g3:∀m,m<st2.length->m≠s->(st3.set s (.ins aP [("bench",.ref st.length),("table",.ref st2.length)]))[m]?=st1[m]?:=λ m hm hms=>by rw[Ug (Ui hms),X3.same m hm,f2 m hms]
 have b0:=(Ua.mp B.eb).1;refine k _ st.length (st.length+1) (st.length+1+1) (st.length+1+2) st2.length rs ⟨?_,⟨?_,?_,?_,?_,by omega,by omega,by omega⟩,?_,⟨by omega,by omega,by omega⟩,λ i c h=>?_,⟨by omega,by omega,by omega,by omega,by omega,by omega⟩,λ i c h=>?_⟩ λ m hm=>?_
 . rw[Uo (by omega)]
 . rw[g3 _ (by omega) (by omega)];exact B.eb
 . rw[g3 _ (by omega) (by omega)];exact B.e1
 . rw[g3 _ (by omega) (by omega)];exact B.e2
 . rw[g3 _ (by omega) (by omega)];exact B.e3
 . refine T.ext (Ug (by omega)) λ i c h=>Ug ?_;have:=hrs i c h;omega
 . have:=hrs i c h;exact⟨by omega,by omega,by omega⟩
 . have:=hrs i c h;omega
 . rw[g3 m (by omega) (by omega),g1 m (by omega)]
def dy:cE:=λ ds st K=>∃(s b tb N kk:Nat) (rs:List Nat) (G:Mx.Fn) (k:Int),ds=[.ref s,.int k]/\st[s]?=some (Cell.ins aP [("bench",.ref b),("table",.ref tb)])/\Tb st tb rs G N/\k=(kk:Int)-1/\kk<=N/\K (.int (Mx.D kk G)) st
def iU:List Str:=["self","k"]
def wY:DS:=(bK (Kw (cK (ak x9 (aa 1) (dC (.int 0)))) (ak aU (ak aU (cG aP "table" (aa 0)) (aa 1)) (aa 1)) (dC (.int 1))))
theorem Tb.line{st:ag}{tb N:Nat}{rs:List Nat}{G:Mx.Fn}(h:Tb st tb rs G N){i:Nat}(hi:i<N):∃c,rs[i]?=some c/\dY (rs.map D.ref) ((i:Nat):Int)=some (.ref c)/\st[c]?=some (Cell.lst (ax (Mx.a8 G i))):=by
 have lr:=h.lr;have e:rs[i]?=some rs[i]:=Uq (by omega);exact⟨rs[i],e,iC (by rw[Uw,e];rfl),h.row i _ e⟩
theorem Ss.line{n0 s b xb xu xc tb N:Nat}{rs:List Nat}{A U C:List (List Int)}{st:ag}(h:Ss n0 st s b xb xu xc tb rs A U C N){i:Nat}(hi:i<N):∃c,rs[i]?=some c/\dY (rs.map D.ref) ((i:Nat):Int)=some (.ref c)/\st[c]?=some (Cell.lst (ax (Mx.a8 (Mx.af A) i))):=h.T.line hi
theorem j8{G:Mx.Fn}{i p:Nat}(h:p<=i):dY (ax (Mx.a8 G i)) ((p:Nat):Int)=some (.int (Mx.lam G i p)):=by
 have:=jY (r:=Mx.a8 G i) (k:=p) (by rw[Mx.fx];omega);rw[Mx.kY _ h]at this;exact this
theorem vD:T9 dy 2 wY iU:=by
 rintro ds st K ⟨s,b,tb,N,kk,rs,G,k,rfl,es,T,rfl,hk,q⟩;refine⟨rfl,?_⟩;cases kk with
 |zero=>
  refine RH (by omega) ?_;rw[Mx.jP]at q;exact q
 |succ m=>
  have em:((m+1:Nat):Int)-1=(m:Int):=by omega
  rw[em];obtain⟨c,e1,e2,e3⟩:=T.line (i:=m) (by omega);refine RJ (by omega) (jn (bp es rfl (aM (aC T.et) e2 (aM (aC e3) (j8 (Ue m)) ?_))));rw[Mx.dS];exact q
structure AX(A U C:List (List Int))(N:Nat):Prop where
 lam:∀i p,p<=i->i<N->(Mx.lam (Mx.af A) i p).natAbs<=2^40000
 D:∀p,p<=N->0<Mx.D p (Mx.af A)/\(Mx.D p (Mx.af A)).natAbs<=2^744
 eA:∀r∈A,∀x∈r,x.natAbs<=2^400000
 eU:∀r∈U,∀x∈r,x.natAbs<=2^400000
 eC:∀r∈C,∀x∈r,x.natAbs<=2^400000
abbrev nq(A:List (List Int))(k j:Nat):Int:=(2*Mx.lam (Mx.af A) k j+Mx.D (j+1) (Mx.af A)).fdiv (2*Mx.D (j+1) (Mx.af A))
def jv:cE:=λ ds st K=>∃(n0 s b xb xu xc tb N w k j:Nat) (rs:List Nat) (A U C:List (List Int)),ds=[.ref s,.int k,.int j]/\Ss n0 st s b xb xu xc tb rs A U C N/\Mx.bh N w A/\Mx.bh N N U/\Mx.bh N N C/\j<k/\k<N/\N<=8/\w<=9/\AX A U C N/\
 ∀st',Ss n0 st' s b xb xu xc tb rs (Mx.aR A k (nq A k j) j) (Mx.aR U k (nq A k j) j) (Mx.aR C j (-nq A k j) k) N->(∀m,m<n0->st'[m]?=st[m]?)->K .aF st'
def jy:List Str:=["self","k","j","quotient","i"]
def xf:DS:=(aA (aQ 3 (aJ gX (ae (ak aU (ak aU (cG aP "table" (aa 0)) (aa 1)) (aa 2)) (ae (ak aU (ak aU (cG aP "table" (aa 0)) (aa 2)) (aa 2)) aq))))
 (aA (gj (cK (ak lH (aa 3) (dC (.int 0)))) Fp e_)
 (aA (fh (dn aD "take" jE (cG aP "bench" (aa 0)) (ae (aa 1) (ae (aa 3) (ae (aa 2) aq)))))
 (fj (dN (ae (ak cQ (aa 2) (dC (.int 1))) aq)) (bT 4) (Bf (λ i j=>i-j) (ak aU (cG aP "table" (aa 0)) (aa 1)) (aa 4) (ak bY (aa 3) (ak aU (ak aU (cG aP "table" (aa 0)) (aa 2)) (aa 4))))))))
theorem Hi{r s:List Int}(h:r.length=s.length):Mx.f9 r 0 s=r:=by
 refine Mx.rm (n:=r.length) (Mx.jK h) rfl λ c _=>?_;rw[Mx.o8 h];omega
theorem rT{A:List (List Int)}{N w k j:Nat}(hA:Mx.bh N w A)(hk:k<N)(hj:j<N):Mx.aR A k 0 j=A:=by
 unfold Mx.aR;have hl:=hA.len;rw[Int.neg_zero,Hi (by rw[Mx.bo hA hk,Mx.bo hA hj]),Mx.aK (by omega)];exact List.set_getElem_self _
theorem D7{G G':Mx.Fn}{i:Nat}(h:∀p,p<=i->Mx.lam G i p=Mx.lam G' i p):Mx.a8 G i=Mx.a8 G' i:=by
 unfold Mx.a8;exact UX λ p hp=>h p (by rw[Vt]at hp;omega)
def lY(G:Mx.Fn)(k j:Nat)(q:Int)(m:Nat):List Int:=(List.range (k+1)).map λ p=>if p<m then Mx.lam G k p-q*Mx.lam G j p else Mx.lam G k p
theorem yy{G:Mx.Fn}{k j m p:Nat}{q:Int}(h:p<=k):(lY G k j q m).getD p 0=if p<m then Mx.lam G k p-q*Mx.lam G j p else Mx.lam G k p:=by
 unfold lY;rw[Mx.aK (by simp;omega),Vv,Vu]
theorem pU{G:Mx.Fn}{k j m:Nat}{q:Int}:(lY G k j q m).length=k+1:=by unfold lY;simp
theorem Jw{G:Mx.Fn}{k j m:Nat}{q:Int}(h:m<=k):(lY G k j q m).set m (Mx.lam G k m-q*Mx.lam G j m)=lY G k j q (m+1):=by
 refine Mx.rm (n:=k+1) (by rw[Us,pU]) pU λ c hc=>?_;rw[yy (by omega),Uv,Yc];by_cases hcm:m=c
 . subst hcm;rw[Ud rfl,Ud (by rw[pU];omega),Ud (by omega)];rfl
 . rw[Ub hcm,<-Uv,yy (by omega)];by_cases h1:c<m
   . rw[Ud h1,Ud (by omega)]
   . rw[Ub h1,Ub (by omega)]
theorem Tb.take{st:ag}{tb N w k j:Nat}{rs:List Nat}{A:List (List Int)}{q:Int}(T:Tb st tb rs (Mx.af A) N)(hA:Mx.bh N w A)(hj:j<k)(hk:k<N){st':ag}(h1:st'[tb]?=st[tb]?)(h2:∀(i c:Nat),i≠k->rs[i]?=some c->st'[c]?=st[c]?)(h3:∀c,rs[k]?=some c->st'[c]?=some (.lst (ax (lY (Mx.af A) k j q (j+1))))):Tb st' tb rs (Mx.af (Mx.aR A k q j)) N:=by
 have lr:=T.lr;refine⟨h1.trans T.et,lr,T.nd,T.nt,λ i c h=>?_⟩;have hi:i<N:=by have:=(Ua.mp h).1;omega
 by_cases hik:i=k
 . subst hik;rw[h3 c h];congr 3;unfold lY Mx.a8;refine UX λ p hp=>?_;rw[Vt]at hp;rw[Mx.mX hA hj hk hi (by omega),Ud rfl];by_cases hpj:p<j+1
   . rw[Ud hpj]
   . have z:Mx.lam (Mx.af A) j p=0:=Mx.ya (by omega);rw[Ub hpj,z,UZ,V7]
 . rw[h2 i c hik h,T.row i c h];congr 3;exact D7 λ p hp=>by rw[Mx.mX hA hj hk hi hp,Ub hik,V7]
theorem y8{A:List (List Int)}{N w i:Nat}(h:Mx.bh N w A)(hi:i<N):A.getD i []∈A:=by
 have:=h.len;rw[Mx.aK (by omega)];exact Vp _
theorem wQ:T9 jv 3 xf jy:=by
 rintro ds st K ⟨n0,s,b,xb,xu,xc,tb,N,w,k,j,rs,A,U,C,rfl,h,hA,hU,hC,hj,hk,hN,hw,sm,kk⟩;refine⟨rfl,?_⟩;obtain⟨ck,ek1,ek2,ek3⟩:=h.line (i:=k) hk;obtain⟨cj,ej1,ej2,ej3⟩:=h.line (i:=j) (by omega);obtain⟨hD0,hDb⟩:=sm.D (j+1) (by omega);refine bp h.es rfl (aM (aC h.T.et) ek2 (aM (aC ek3) (j8 (by omega)) (bp h.es rfl (aM (aC h.T.et) ej2 (aM (aC ej3) (j8 (Ue j)) ?_)))));rw[Mx.dS];refine⟨_,_,rfl,by omega,?_⟩;unfold Mx.qn
 have hq:(nq A k j).natAbs<=2^40000:=by
  have:=(Mx.AI (t:=Mx.lam (Mx.af A) k j) hD0).2;have h2:=sm.lam k j (by omega) hk;exact Uj (W8.mp this) h2
 refine eq2 (λ h0=>jn ?_) λ h0=>?_
 . have e0:nq A k j=0:=h0;rw[e0,Int.neg_zero,rT hA hk (by omega),rT hU hk (by omega),rT hC (by omega) hk]at kk;exact kk st h λ m _=>rfl
 unfold nq at hq kk;generalize hqe:(2*Mx.lam (Mx.af A) k j+Mx.D (j+1) (Mx.af A)).fdiv (2*Mx.D (j+1) (Mx.af A))=q at*;have hnq:(-q).natAbs<=2^40000:=by rw[V4];exact hq
 refine bp h.es rfl (c_ h.B.eb rfl ?_);refine⟨b,xb,xu,xc,N,w,k,j,A,U,C,q,rfl,h.B,hA,hU,hC,hk,by omega,hN,hw,λ x hx=>ft hnq (sm.eA _ (y8 hA (by omega)) x hx) (by decide) (by decide),λ x hx=>ft hnq (sm.eU _ (y8 hU (by omega)) x hx) (by decide) (by decide),λ x hx=>ft hq (sm.eC _ (y8 hC hk) x hx) (by decide) (by decide),λ st1 B1 l1 f1=>?_⟩;have lo:=h.lo;have sx:s≠xb/\s≠xu/\s≠xc:=⟨gZ h.es h.B.e1,gZ h.es h.B.e2,gZ h.es h.B.e3⟩
 have es1:st1[s]?=_:=(f1 s sx.1 sx.2.1 sx.2.2).trans h.es;have et1:st1[tb]?=_:=(f1 tb h.d1.1 h.d1.2.1 h.d1.2.2).trans h.T.et;have fr:∀(i c:Nat),rs[i]?=some c->st1[c]?=st[c]?:=λ i c hc=>f1 c (h.d2 i c hc).1 (h.d2 i c hc).2.1 (h.d2 i c hc).2.2
 have ckj:ck≠cj:=λ z=>by
  have:=h.T.nd k j ck ek1 (by rw[z];exact ej1);omega
 have ckt:ck≠tb:=h.T.nt k ck ek1
 have cks:∀(m:Nat) (C':Addr) (fs:List (Str×D)),st1[m]?=some (.ins C' fs)->m≠ck:=λ m C' fs hm z=>by
  rw[z,fr k ck ek1,ek3]at hm;cases hm
 refine c6 ?_;have e1:((j:Nat):Int)+1=((j+1:Nat):Int):=rfl;rw[e1];refine gO ⟨by omega,by omega⟩ ?_;rw[UL];refine jX (j+1) (λ m σ st'=>∃v4:Option D,σ=[some (.ref s),some (.int (k:Int)),some (.int (j:Int)),some (.int q),v4]/\(∀n,n≠ck->st'[n]?=st1[n]?)/\st'[ck]?=some (.lst (ax (lY (Mx.af A) k j q m)))) ?_ ?_ ⟨none,rfl,λ _ _=>rfl,?_⟩
 . rintro σ st2 ⟨v4,rfl,g,e⟩;refine kk st2 ⟨?_,⟨?_,?_,?_,?_,h.B.n1,h.B.n2,h.B.n3⟩,?_,h.d1,h.d2,lo,h.lr⟩ λ m hm=>?_
   . rw[g s (cks s _ _ es1)];exact es1
   . rw[g b (cks b _ _ B1.eb)];exact B1.eb
   . rw[g xb (h.d2 k ck ek1).1.symm];exact B1.e1
   . rw[g xu (h.d2 k ck ek1).2.1.symm];exact B1.e2
   . rw[g xc (h.d2 k ck ek1).2.2.symm];exact B1.e3
   . refine h.T.take hA hj hk ?_ (λ i c hi hc=>?_) λ c hc=>?_
     . rw[g tb (Ui ckt),et1,h.T.et]
     . have:c≠ck:=λ z=>hi (h.T.nd i k c hc (by rw[z];exact ek1));rw[g c this,fr i c hc]
     . rw[ek1]at hc;cases hc;exact e
   . have a1:=h.lr k ck ek1;rw[g m (by omega),f1 m (by omega) (by omega) (by omega)]
 . rintro m σ st2 rest hm ⟨v4,rfl,g,e⟩ next
   refine⟨_,rfl,?_⟩;have es2:st2[s]?=_:=(g s (cks s _ _ es1)).trans es1;have et2:st2[tb]?=_:=(g tb (Ui ckt)).trans et1;have ej4:st2[cj]?=_:=((g cj (Ui ckj)).trans (fr j cj ej1)).trans ej3;refine bp es2 rfl (aM (aC et2) ek2 ?_)
   refine MM (u:=Mx.lam (Mx.af A) k m) e (by omega) (by
    have:=jY (r:=lY (Mx.af A) k j q m) (k:=m) (by rw[pU];omega);rw[yy (by omega),Ub (U0 m)]at this;exact this) ?_
   refine bp es2 rfl (aM (aC et2) ej2 (aM (aC ej4) (j8 (by omega)) (cS (ft hq (sm.lam j m (by omega) (by omega)) (by decide) (by decide)) ?_)));refine Lz (j:=m) e (by rw[Uk,pU];exact ja (by omega)) ?_
   have es3:(ax (lY (Mx.af A) k j q m)).set m (.int (Mx.lam (Mx.af A) k m-q*Mx.lam (Mx.af A) j m))=ax (lY (Mx.af A) k j q (m+1)):=by
    rw[<-Jw (by omega)];unfold ax;rw[XJ]
   rw[es3];have hlt:=(Ua.mp e).1;exact next _ _ ⟨_,rfl,λ n hn=>by rw[Ug (Ui hn)];exact g n hn,Uo hlt⟩
 . rw[fr k ck ek1,ek3]
   have e9:lY (Mx.af A) k j q 0=Mx.a8 (Mx.af A) k:=by
    unfold lY Mx.a8;exact UX λ p _=>by rw[Ub (by omega)]
   rw[e9]
def km:cE:=λ ds st K=>∃(n0 s b xb xu xc tb N t:Nat) (rs:List Nat) (A U C:List (List Int)),ds=[.ref s,.int ((t+1:Nat):Int)]/\Ss n0 st s b xb xu xc tb rs A U C N/\t+1<N/\AX A U C N/\K (.bl (decide (4*(Mx.D (t+2) (Mx.af A)*Mx.D t (Mx.af A)+Mx.lam (Mx.af A) (t+1) t*Mx.lam (Mx.af A) (t+1) t)<3*Mx.D (t+1) (Mx.af A)*Mx.D (t+1) (Mx.af A)))) st
def iu:List Str:=["self","k","share","ahead"]
def vq:DS:=(aA (aQ 2 (ak aU (ak aU (cG aP "table" (aa 0)) (aa 1)) (ak dM (aa 1) (dC (.int 1)))))
 (aA (aQ 3 (dn aP "last_of" dy (aa 0) (ae (ak dM (aa 1) (dC (.int 1))) aq)))
 (bK (ak rF (ak bY (dC (.int 4)) (ak cQ (ak bY (dn aP "last_of" dy (aa 0) (ae (aa 1) aq)) (dn aP "last_of" dy (aa 0) (ae (ak dM (aa 1) (dC (.int 2))) aq))) (ak bY (aa 2) (aa 2)))) (ak bY (ak bY (dC (.int 3)) (aa 3)) (aa 3))))))
theorem tN:T9 km 2 vq iu:=by
 rintro ds st K ⟨n0,s,b,xb,xu,xc,tb,N,t,rs,A,U,C,rfl,h,ht,sm,kk⟩;refine⟨rfl,?_⟩;obtain⟨ck,ek1,ek2,ek3⟩:=h.line (i:=t+1) ht;have em:((t+1:Nat):Int)-1=(t:Int):=by omega
 refine bp h.es rfl (aM (aC h.T.et) ek2 (dm ?_));rw[em];refine aM (aC ek3) (j8 (by omega)) ?_;have b0:=(sm.D t (by omega)).2;have b1:=(sm.D (t+1) (by omega)).2;have b2:=(sm.D (t+2) (by omega)).2;have b3:=sm.lam (t+1) t (by omega) ht;have t3:(3:Int).natAbs<=2^2:=by decide
 refine c_ h.es rfl (dm ?_);refine⟨s,b,tb,N,t+1,rs,_,_,rfl,h.es,h.T,by omega,by omega,?_⟩;refine c_ h.es rfl ?_;refine⟨s,b,tb,N,t+2,rs,_,_,rfl,h.es,h.T,by omega,by omega,?_⟩;refine c_ h.es rfl (dm ?_);refine⟨s,b,tb,N,t,rs,_,_,rfl,h.es,h.T,by omega,by omega,?_⟩;exact cS (ft b2 b0 (by decide) (by decide)) (cS (ft b3 b3 (by decide) (by decide)) (c6 (cS (ji (by decide) (by decide)) (cS (ji (by decide) (by decide)) (cS (ft (tW t3 b1) b1 (by decide) (by decide)) (FC kk))))))
structure uk(st:ag)(tb:Nat)(rs:List Nat)(L:Nat->List Int)(N:Nat):Prop where
 et:st[tb]?=some (Cell.lst (rs.map D.ref))
 lr:rs.length=N
 nd:∀(i j c:Nat),rs[i]?=some c->rs[j]?=some c->i=j
 nt:∀(i c:Nat),rs[i]?=some c->c≠tb
 row:∀(i c:Nat),rs[i]?=some c->st[c]?=some (Cell.lst (ax (L i)))
theorem Tb.toF{st:ag}{tb N:Nat}{rs:List Nat}{G:Mx.Fn}(T:Tb st tb rs G N):uk st tb rs (Mx.a8 G) N:=⟨T.et,T.lr,T.nd,T.nt,T.row⟩
theorem uk.toT{st:ag}{tb N:Nat}{rs:List Nat}{G:Mx.Fn}{L:Nat->List Int}(T:uk st tb rs L N)(h:∀i,i<N->L i=Mx.a8 G i):Tb st tb rs G N:=⟨T.et,T.lr,T.nd,T.nt,λ i c hc=>by
 have:=(Ua.mp hc).1;rw[<-h i (by have:=T.lr;omega)];exact T.row i c hc⟩
theorem uk.line{st:ag}{tb N:Nat}{rs:List Nat}{L:Nat->List Int}(h:uk st tb rs L N){i:Nat}(hi:i<N):∃c,rs[i]?=some c/\dY (rs.map D.ref) ((i:Nat):Int)=some (.ref c)/\st[c]?=some (Cell.lst (ax (L i))):=by
 have lr:=h.lr;have e:rs[i]?=some rs[i]:=Uq (by omega);exact⟨rs[i],e,iC (by rw[Uw,e];rfl),h.row i _ e⟩
theorem uk.lt{st:ag}{tb N:Nat}{rs:List Nat}{L:Nat->List Int}(h:uk st tb rs L N):tb<st.length/\∀(i c:Nat),rs[i]?=some c->c<st.length:=⟨(Ua.mp h.et).1,λ i c hc=>(Ua.mp (h.row i c hc)).1⟩
theorem nG{rs:List Nat}{i m c d:Nat}(hi:i<rs.length)(h:(rs.set i d)[m]?=some c):(m=i/\c=d)\/(m≠i/\rs[m]?=some c):=by
 rw[Yc]at h;by_cases z:i=m
 . rw[Ud z,Ud (by omega)]at h;cases h;exact .inl ⟨z.symm,rfl⟩
 . rw[Ub z]at h;exact .inr ⟨Ui z,h⟩
theorem uk.put{st:ag}{tb N i:Nat}{rs:List Nat}{L:Nat->List Int}(T:uk st tb rs L N)(hi:i<N)(r:List Int):uk ((st++[Cell.lst (ax r)]).set tb (.lst ((rs.set i st.length).map D.ref))) tb (rs.set i st.length) (λ m=>if m=i then r else L m) N:=by
 have lr:=T.lr;obtain⟨h1,h2⟩:=T.lt;refine⟨Uo (by simp;omega),by rw[Us];exact lr,λ a b c ha hb=>?_,λ a c ha=>?_,λ a c ha=>?_⟩
 . rcases nG (by omega) ha with⟨a1,a2⟩|⟨a1,a2⟩<;>rcases nG (by omega) hb with⟨b1,b2⟩|⟨b1,b2⟩
   . omega
   . have:=h2 b c b2;omega
   . have:=h2 a c a2;omega
   . exact T.nd a b c a2 b2
 . rcases nG (by omega) ha with⟨a1,a2⟩|⟨a1,a2⟩
   . omega
   . exact T.nt a c a2
 . rcases nG (by omega) ha with⟨a1,a2⟩|⟨a1,a2⟩
   . rw[Ud a1,a2,Ug (by omega)];simp
   . have h3:=h2 a c a2;have h4:=T.nt a c a2;rw[Ub a1,Ug (Ui h4),Uh h3];exact T.row a c a2
def ou:cE:=λ ds st K=>∃(n0 s b xb xu xc tb N w t:Nat) (rs:List Nat) (A U C:List (List Int)),ds=[.ref s,.int ((t+1:Nat):Int)]/\Ss n0 st s b xb xu xc tb rs A U C N/\Mx.bh N w A/\Mx.bh N N U/\Mx.bh N N C/\t+1<N/\N<=8/\AX A U C N/\
 ∀st' xb' xu' xc' rs',Ss n0 st' s b xb' xu' xc' tb rs' (Mx.aT A (t+1) t) (Mx.aT U (t+1) t) (Mx.aT C (t+1) t) N->(∀m,m<n0->st'[m]?=st[m]?)->K .aF st'
def kL:List Str:=["self","k","share","own","ahead","made","kept","i","line","upper","lower"]
def Ad:DS:=(aA (fh (dn aD "exchange" i4 (cG aP "bench" (aa 0)) (ae (aa 1) (ae (ak dM (aa 1) (dC (.int 1))) aq))))
 (aA (aQ 2 (ak aU (ak aU (cG aP "table" (aa 0)) (aa 1)) (ak dM (aa 1) (dC (.int 1)))))
 (aA (aQ 3 (dn aP "last_of" dy (aa 0) (ae (aa 1) aq)))
 (aA (aQ 4 (dn aP "last_of" dy (aa 0) (ae (ak dM (aa 1) (dC (.int 1))) aq)))
 (aA (aQ 5 (ak j7 (ak cQ (ak bY (dn aP "last_of" dy (aa 0) (ae (ak dM (aa 1) (dC (.int 2))) aq)) (aa 3)) (ak bY (aa 2) (aa 2))) (aa 4)))
 (aA (aQ 6 (ky (ak aU (cG aP "table" (aa 0)) (aa 1)) j6 (mx (ak dM (aa 1) (dC (.int 1))))))
 (aA (fO (cG aP "table" (aa 0)) (aa 1) (ak sO (ky (ak aU (cG aP "table" (aa 0)) (ak dM (aa 1) (dC (.int 1)))) j6 (mx (ak dM (aa 1) (dC (.int 1))))) (mr (ae (aa 2) (ae (aa 3) aq)))))
 (aA (fO (cG aP "table" (aa 0)) (ak dM (aa 1) (dC (.int 1))) (ak sO (aa 6) (mr (ae (aa 5) aq))))
 (fj (pj (ae (ak cQ (aa 1) (dC (.int 1))) (ae (cP fZ (ae (cG aP "table" (aa 0)) aq)) aq))) (bT 7) (aA (aQ 8 (ak aU (cG aP "table" (aa 0)) (aa 7)))
 (aA (aQ 9 (ak j7 (ak dM (ak bY (aa 3) (ak aU (aa 8) (ak dM (aa 1) (dC (.int 1))))) (ak bY (aa 2) (ak aU (aa 8) (aa 1)))) (aa 4)))
 (aA (aQ 10 (ak j7 (ak cQ (ak bY (aa 5) (ak aU (aa 8) (aa 1))) (ak bY (aa 2) (aa 9))) (aa 3)))
 (fO (cG aP "table" (aa 0)) (aa 7) (ak sO (ak cQ (ky (aa 8) j6 (mx (ak dM (aa 1) (dC (.int 1))))) (mr (ae (aa 10) (ae (aa 9) aq)))) (ky (aa 8) (mx (ak cQ (aa 1) (dC (.int 1)))) j6)))))))))))))))
theorem wB{G:Mx.Fn}{i t:Nat}(h:t<=i):L3.cutD (ax (Mx.a8 G i)) none (some ((t:Nat):Int))=ax ((List.range t).map λ p=>Mx.lam G i p):=by
 have hl:t<=(Mx.a8 G i).length:=by rw[Mx.fx];omega
 have e:L3.cutD (ax (Mx.a8 G i)) none (some ((t:Nat):Int))=ax ((Mx.a8 G i).take t):=by
  unfold L3.cutD;rw[HT.wz,HT.y6,Uk,W3 hl,List.drop_zero,Y7];unfold ax;rw[Xp]
 rw[e];unfold Mx.a8;rw[<-Xp,List.take_range,W3 (by omega)]
theorem Jt{G:Mx.Fn}{i t:Nat}(h:t<=i+1):L3.cutD (ax (Mx.a8 G i)) (some ((t:Nat):Int)) none=ax ((List.range (i+1-t)).map λ p=>Mx.lam G i (t+p)):=by
 have hl:t<=(Mx.a8 G i).length:=by rw[Mx.fx];omega
 unfold L3.cutD;rw[HT.wz,HT.y6,Uk,W3 hl];refine List.ext_getElem? λ m=>?_;rw[List.getElem?_take];by_cases hm:m<i+1-t
 . rw[Ud (by rw[Mx.fx];omega),List.getElem?_drop];unfold Mx.a8;rw[Uw,Uw,Uw,Uw,WX (by omega),WX hm];rfl
 . rw[Ub (by rw[Mx.fx];omega),WJ (by simpa using hm)]
theorem uf{a b c:Int}(hb:b≠0)(h:b*c=a):a.fdiv b=c:=by rw[<-h,Yw _ hb]
theorem BX(f:Nat->Int)(t:Nat)(x y:Int):ax ((List.range t).map f)++[.int x,.int y]=ax ((List.range t).map f++[x,y]):=by simp[ax]
theorem MT{G:Mx.Fn}(sym:∀i j,G i j=G j i)(t:Nat):(List.range t).map (λ p=>Mx.lam G t p)++[Mx.lam G (t+1) t,Mx.D (t+2) G]=Mx.a8 (Mx.cw G t) (t+1):=by
 unfold Mx.a8;rw[VW,VW,Vm,Vm,VU];congr 1
 . refine UX λ p hp=>?_;rw[Vt]at hp;rw[Mx.mP hp,Mx.Fj]
 . show [_,_]=[Mx.lam (Mx.cw G t) (t+1) t,Mx.lam (Mx.cw G t) (t+1) (t+1)]
   rw[Mx.BM sym,Mx.NO sym,Mx.dS]
theorem FP{G:Mx.Fn}(t:Nat):(List.range t).map (λ p=>Mx.lam G (t+1) p)++[Mx.lam (Mx.cw G t) t t]=Mx.a8 (Mx.cw G t) t:=by
 unfold Mx.a8;rw[VW,Vm];congr 1;refine UX λ p hp=>?_;rw[Vt]at hp;rw[Mx.mP hp,Mx.A8]
theorem Ie{G:Mx.Fn}{t i:Nat}(hi:t+1<i):(List.range t).map (λ p=>Mx.lam G i p)++[Mx.lam (Mx.cw G t) i t,Mx.lam (Mx.cw G t) i (t+1)]++(List.range (i+1-(t+2))).map (λ p=>Mx.lam G i (t+2+p))=Mx.a8 (Mx.cw G t) i:=by
 unfold Mx.a8
 have e:List.range (i+1)=List.range t++[t,t+1]++(List.range (i+1-(t+2))).map (λ p=>t+2+p):=by
  have h1:i+1=t+2+(i+1-(t+2)):=by omega
  conv=>lhs;rw[h1]
  rw[List.range_add,VW,VW,VU (List.range t)];rfl
 rw[e,Vm,Vm,Vo];congr 1
 . congr 1;refine UX λ p hp=>?_;rw[Vt]at hp;rw[Mx.mP hp,Mx.jL (by omega) (by omega)]
 . refine UX λ p hp=>?_;rw[Vt]at hp;show _=Mx.lam (Mx.cw G t) i (t+2+p);rw[Mx.Ir (by omega) (by omega)]
theorem abs_dvd{d x y:Int}(hd:0<d)(h:d*x=y):x.natAbs<=y.natAbs:=by
 rw[<-h,U8];have:1*x.natAbs<=d.natAbs*x.natAbs:=Vf _ (by omega);omega
theorem u6{a:Int}{m n:Nat}(h:a.natAbs<=2^m)(hm:m<=n):a.natAbs<=2^n:=Uj h (UA (by decide) hm)
theorem Gd{a b:Int}{m:Nat}(ha:a.natAbs<=2^m)(hb:b.natAbs<=2^m):(a+b).natAbs<=2^(m+1):=by
 have:=Yg a b;rw[Wj];omega
theorem Oj{a b:Int}{m:Nat}(ha:a.natAbs<=2^m)(hb:b.natAbs<=2^m):(a-b).natAbs<=2^(m+1):=by
 have:=Gd ha (b:= -b) (by rw[V4];exact hb);rw[<-WH]at this;exact this
theorem yX:T9 ou 2 Ad kL:=by
 rintro ds st K ⟨n0,s,b,xb,xu,xc,tb,N,w,t,rs,A,U,C,rfl,h,hA,hU,hC,ht,hN,sm,kk⟩;refine⟨rfl,?_⟩;have em:((t+1:Nat):Int)-1=(t:Int):=by omega
 have lo:=h.lo;have hs0:s<st.length:=(Ua.mp h.es).1;have htb:=h.T.toF.lt;have lA:=hA.len;have sym:=Mx.jM A;have hgs:Mx.af (Mx.aT A (t+1) t)=Mx.cw (Mx.af A) t:=Mx.nY (by omega);obtain⟨p0,b0⟩:=sm.D t (by omega);obtain⟨p1,b1⟩:=sm.D (t+1) (by omega);obtain⟨p2,b2⟩:=sm.D (t+2) (by omega);have b3:=sm.lam (t+1) t (by omega) ht;refine bp h.es rfl (c_ h.B.eb rfl (dm ?_));rw[em];refine⟨b,xb,xu,xc,N,w,t+1,t,A,U,C,rfl,h.B,hA,hU,hC,ht,by omega,λ st1 B1 l1 f1=>?_⟩
 have sb:s≠b:=λ z=>by
  have h1:=h.es;rw[z,h.B.eb]at h1;have h2:=Cell.ins.inj (U6 h1);exact absurd h2.1 (by decide)
 have lb:∀m xs,st[m]?=some (Cell.lst xs)->m≠b:=λ m xs hm z=>by rw[z,h.B.eb]at hm;cases hm
 have es1:st1[s]?=_:=(f1 s hs0 sb).trans h.es;have T1:Tb st1 tb rs (Mx.af A) N:=h.T.ext (f1 tb htb.1 (lb _ _ h.T.et)) λ i c hc=>f1 c (htb.2 i c hc) (lb _ _ (h.T.row i c hc));obtain⟨ck,ek1,ek2,ek3⟩:=T1.line (i:=t+1) ht;refine bp es1 rfl (aM (aC T1.et) ek2 (dm ?_));rw[em];refine aM (aC ek3) (j8 (by omega)) ?_;refine c_ es1 rfl ?_;refine⟨s,b,tb,N,t+2,rs,_,_,rfl,es1,T1,by omega,by omega,?_⟩;refine c_ es1 rfl (dm ?_);refine⟨s,b,tb,N,t+1,rs,_,_,rfl,es1,T1,by omega,by omega,?_⟩;refine c_ es1 rfl (dm ?_);refine⟨s,b,tb,N,t,rs,_,_,rfl,es1,T1,by omega,by omega,?_⟩;refine cS (ft b0 b2 (by decide) (by decide)) (cS (ft b3 b3 (by decide) (by decide)) (c6 (mV (by omega) (Ar b1 (by omega) (by decide)) ?_)));rw[uf (by omega) (Mx.rR sym (by omega))];refine bp es1 rfl (aM (aC T1.et) ek2 (dm ?_));rw[em];refine nJ ek3 ?_;rw[wB (by omega)];obtain⟨cj,ej1,ej2,ej3⟩:=T1.line (i:=t) (by omega);refine bp es1 rfl (dm ?_);rw[em];refine aM (aC T1.et) ej2 (dm ?_);rw[em];refine nJ ej3 ?_;rw[wB (by omega)];refine⟨Ur rfl,za (by rw[Vi];simp;omega) ?_⟩;rw[BX,MT sym];have F1:=T1.toF;have l1t:=F1.lt;have es1':(st1++[Cell.lst (ax (Mx.a8 (Mx.cw (Mx.af A) t) (t+1)))])[s]?=_:=(Uh (by omega)).trans es1;have et1':(st1++[Cell.lst (ax (Mx.a8 (Mx.cw (Mx.af A) t) (t+1)))])[tb]?=_:=(Uh l1t.1).trans F1.et;refine bp es1' rfl (i7 et1' (by rw[Uk,F1.lr];exact ja ht) ?_);have em1:(rs.map D.ref).set (t+1) (.ref st1.length)=(rs.set (t+1) st1.length).map D.ref:=by rw[XJ]
 rw[em1];have F2:=F1.put ht (Mx.a8 (Mx.cw (Mx.af A) t) (t+1));have g2:∀m,m<st1.length->m≠tb->((st1++[Cell.lst (ax (Mx.a8 (Mx.cw (Mx.af A) t) (t+1)))]).set tb (.lst ((rs.set (t+1) st1.length).map D.ref)))[m]?=st1[m]?:=λ m hm hmt=>by rw[Ug (Ui hmt),Uh hm]
 have l2:((st1++[Cell.lst (ax (Mx.a8 (Mx.cw (Mx.af A) t) (t+1)))]).set tb (.lst ((rs.set (t+1) st1.length).map D.ref))).length=st1.length+1:=by simp
 have stb:s≠tb:=gZ h.es h.T.et;generalize((st1++[Cell.lst (ax (Mx.a8 (Mx.cw (Mx.af A) t) (t+1)))]).set tb (.lst ((rs.set (t+1) st1.length).map D.ref)))=st2 at F2 g2 l2⊢;have es2:st2[s]?=_:=(g2 s (by omega) stb).trans es1;refine⟨Ur rfl,za (by rw[Vi];simp;omega) ?_⟩;rw[ints_app,FP];have l2t:=F2.lt;have es2':(st2++[Cell.lst (ax (Mx.a8 (Mx.cw (Mx.af A) t) t))])[s]?=_:=(Uh (by omega)).trans es2;have et2':(st2++[Cell.lst (ax (Mx.a8 (Mx.cw (Mx.af A) t) t))])[tb]?=_:=(Uh l2t.1).trans F2.et;refine bp es2' rfl (dm ?_);rw[em];refine i7 et2' (by rw[Uk,F2.lr];exact ja (by omega)) ?_;have em2:((rs.set (t+1) st1.length).map D.ref).set t (.ref st2.length)=((rs.set (t+1) st1.length).set t st2.length).map D.ref:=by simp only[XJ]
 rw[em2];have F3:=F2.put (i:=t) (by omega) (Mx.a8 (Mx.cw (Mx.af A) t) t);have g3:∀m,m<st2.length->m≠tb->((st2++[Cell.lst (ax (Mx.a8 (Mx.cw (Mx.af A) t) t))]).set tb (.lst (((rs.set (t+1) st1.length).set t st2.length).map D.ref)))[m]?=st2[m]?:=λ m hm hmt=>by rw[Ug (Ui hmt),Uh hm]
 have l3:((st2++[Cell.lst (ax (Mx.a8 (Mx.cw (Mx.af A) t) t))]).set tb (.lst (((rs.set (t+1) st1.length).set t st2.length).map D.ref))).length=st2.length+1:=by simp
 have r3:∀(i c:Nat),((rs.set (t+1) st1.length).set t st2.length)[i]?=some c->(n0<=c/\(c<st.length->∃i',rs[i']?=some c))/\(st.length<=c->st1.length<=c):=λ i c hc=>by
  have lr:=T1.lr;rcases nG (by rw[Us];omega) hc with⟨_,rfl⟩|⟨_,hc2⟩
  . exact⟨⟨by omega,λ z=>by omega⟩,λ _=>by omega⟩
  . rcases nG (by omega) hc2 with⟨_,rfl⟩|⟨_,hc3⟩
    . exact⟨⟨by omega,λ z=>by omega⟩,λ _=>by omega⟩
    . have:=htb.2 i c hc3;exact⟨⟨h.lr i c hc3,λ _=>⟨i,hc3⟩⟩,λ z=>by omega⟩
 generalize((st2++[Cell.lst (ax (Mx.a8 (Mx.cw (Mx.af A) t) t))]).set tb (.lst (((rs.set (t+1) st1.length).set t st2.length).map D.ref)))=st3 at F3 g3 l3⊢;generalize((rs.set (t+1) st1.length).set t st2.length)=rs3 at F3 r3⊢;have es3:st3[s]?=_:=(g3 s (by omega) stb).trans es2;have hb1:b<st.length:=(Ua.mp h.B.eb).1;have btb:b≠tb:=gZ h.B.eb h.T.et;have fr3:∀m,m<st1.length->m≠tb->st3[m]?=st1[m]?:=λ m hm hmt=>(g3 m (by omega) hmt).trans (g2 m hm hmt);refine c6 ?_;refine bp es3 rfl (fB (aC F3.et) ?_);rw[Uk,F3.lr];have e5:((t+1:Nat):Int)+1=((t+2:Nat):Int):=rfl;rw[e5];refine yY ⟨by omega,by omega,by omega,by omega⟩ ?_
 have er:dq ((t+2:Nat):Int) (((N:Nat):Int)-((t+2:Nat):Int)).toNat=(List.range (N-(t+2))).map λ m=>D.int ((t+2+m:Nat):Int):=by
  unfold dq;have:(((N:Nat):Int)-((t+2:Nat):Int)).toNat=N-(t+2):=by omega
  rw[this];refine UX λ m _=>?_;congr 1
 rw[er];have hb3:∀m,m<n0->st3[m]?=st[m]?:=λ m hm=>by rw[fr3 m (by omega) (by omega),f1 m (by omega) (by omega)]
 refine fG (λ rest σ st'=>∃(q:Nat) (rs':List Nat) (v7 v8 v9 v10:Option D),q<=N-(t+2)/\rest=((List.range (N-(t+2))).map λ m=>D.int ((t+2+m:Nat):Int)).drop q/\σ=[some (.ref s),some (.int ((t+1:Nat):Int)),some (.int (Mx.lam (Mx.af A) (t+1) t)),some (.int (Mx.D (t+2) (Mx.af A))),some (.int (Mx.D (t+1) (Mx.af A))),some (.int (Mx.lam (Mx.cw (Mx.af A) t) t t)),some (.lst (ax ((List.range t).map λ p=>Mx.lam (Mx.af A) (t+1) p))),v7,v8,v9,v10]/\st1.length<=st'.length/\(∀m,m<st1.length->m≠tb->st'[m]?=st1[m]?)/\uk st' tb rs' (λ i=>if i<t+2+q then Mx.a8 (Mx.cw (Mx.af A) t) i else Mx.a8 (Mx.af A) i) N/\∀(i c:Nat),rs'[i]?=some c->(n0<=c/\(c<st.length->∃i',rs[i']?=some c))/\(st.length<=c->st1.length<=c)) ?_ ?_ _ _ _ ⟨0,rs3,none,none,none,none,UK _,rfl,rfl,by omega,fr3,?_,r3⟩
 . rintro σ st4 ⟨q,rs',v7,v8,v9,v10,hq,hrest,rfl,l4,f4,F4,r4⟩;refine⟨trivial,?_⟩
   have hqN:q=N-(t+2):=by
    have:=VH List.length hrest;simp at this;omega
   have T4:Tb st4 tb rs' (Mx.af (Mx.aT A (t+1) t)) N:=F4.toT λ i hi=>by rw[Ud (by omega),hgs]
   have nb:=B1.n1;refine kk st4 st.length (st.length+1) (st.length+2) rs' ⟨?_,⟨?_,?_,?_,?_,B1.n1,B1.n2,B1.n3⟩,T4,⟨by omega,by omega,by omega⟩,λ i c hc=>?_,⟨by omega,by omega,by omega,by omega,by omega,by omega⟩,λ i c hc=>(r4 i c hc).1.1⟩ λ m hm=>?_
   . rw[f4 s (by omega) stb];exact es1
   . rw[f4 b (by omega) btb];exact B1.eb
   . rw[f4 _ (by omega) (by omega)];exact B1.e1
   . rw[f4 _ (by omega) (by omega)];exact B1.e2
   . rw[f4 _ (by omega) (by omega)];exact B1.e3
   . obtain⟨⟨_,h2⟩,h3⟩:=r4 i c hc;by_cases hcs:c<st.length
     . exact⟨by omega,by omega,by omega⟩
     . have:=h3 (by omega);exact⟨by omega,by omega,by omega⟩
   . rw[f4 m (by omega) (by omega),f1 m (by omega) (by omega)]
 . rintro x rest σ st4 ⟨q,rs',v7,v8,v9,v10,hq,hrest,rfl,l4,f4,F4,r4⟩ next
   have hqN:q<N-(t+2):=by
    have:=VH List.length hrest;simp at this;omega
   rw[UI (by simpa using hqN),VB,Vv,Vu]at hrest;obtain⟨rfl,rfl⟩:=hrest;refine⟨trivial,_,rfl,?_⟩;have hi:t+2+q<N:=by omega
   obtain⟨ci,ei1,ei2,ei3⟩:=F4.line hi;rw[Ub (U0 _)]at ei3;have es4:st4[s]?=_:=(f4 s (by omega) stb).trans es1;have c1:=sm.lam (t+2+q) t (by omega) hi;have c2:=sm.lam (t+2+q) (t+1) (by omega) hi;have up:=Mx.K4 sym (t:=t) (by omega) (by omega) (i:=t+2+q) (by omega);have lw:=Mx.Nm sym (t:=t) (by omega) (by omega) (i:=t+2+q) (by omega);have md:=Mx.rR sym (t:=t) (by omega);have bm:(Mx.lam (Mx.cw (Mx.af A) t) t t).natAbs<=2^90000:=u6 (m:=80000+1) (Uj (abs_dvd p1 md) (Gd (m:=80000) (u6 (n:=80000) (tW b0 b2) (by decide)) (u6 (n:=80000) (tW b3 b3) (by decide)))) (by decide);have bu:(Mx.lam (Mx.cw (Mx.af A) t) (t+2+q) (t+1)).natAbs<=2^90000:=u6 (m:=80000+1) (Uj (abs_dvd p1 up) (Oj (m:=80000) (u6 (n:=80000) (tW b2 c1) (by decide)) (u6 (n:=80000) (tW b3 c2) (by decide)))) (by decide);refine bp es4 rfl (aM (aC F4.et) ei2 ?_);refine dm ?_;rw[em];refine aM (aC ei3) (j8 (by omega)) (cS (ft b2 c1 (by decide) (by decide)) (aM (aC ei3) (j8 (by omega)) (cS (ft b3 c2 (by decide) (by decide)) (dm (mV (by omega) (Ar b1 (by omega) (by decide)) ?_)))));rw[uf (by omega) up];refine aM (aC ei3) (j8 (by omega)) (cS (ft bm c2 (by decide) (by decide)) (cS (ft b3 bu (by decide) (by decide)) (c6 (mV (by omega) (Ar b2 (by omega) (by decide)) ?_))));rw[uf (by omega) lw];refine dm ?_;rw[em];refine nJ ei3 ?_;rw[wB (by omega)];refine⟨Ur rfl,D6 (by rw[Vi];simp;omega) ?_⟩;rw[BX];refine c6 ?_;rw[e5];refine nJ ei3 ?_;rw[Jt (by omega)];refine za (by rw[Vi];simp;omega) ?_
   have ea:ax ((List.range t).map (λ p=>Mx.lam (Mx.af A) (t+2+q) p)++[Mx.lam (Mx.cw (Mx.af A) t) (t+2+q) t,Mx.lam (Mx.cw (Mx.af A) t) (t+2+q) (t+1)])++ax ((List.range (t+2+q+1-(t+2))).map λ p=>Mx.lam (Mx.af A) (t+2+q) (t+2+p))=ax (Mx.a8 (Mx.cw (Mx.af A) t) (t+2+q)):=by
    rw[<-Ie (by omega)];simp[ax]
   rw[ea];have l4t:=F4.lt;have es4':(st4++[Cell.lst (ax (Mx.a8 (Mx.cw (Mx.af A) t) (t+2+q)))])[s]?=_:=(Uh (by omega)).trans es4;have et4':(st4++[Cell.lst (ax (Mx.a8 (Mx.cw (Mx.af A) t) (t+2+q)))])[tb]?=_:=(Uh l4t.1).trans F4.et;refine bp es4' rfl (i7 et4' (by rw[Uk,F4.lr];exact ja hi) ?_);have em4:(rs'.map D.ref).set (t+2+q) (.ref st4.length)=(rs'.set (t+2+q) st4.length).map D.ref:=by rw[XJ]
   rw[em4];have F5:=F4.put hi (Mx.a8 (Mx.cw (Mx.af A) t) (t+2+q));refine next _ _ ⟨q+1,rs'.set (t+2+q) st4.length,_,_,_,_,hqN,rfl,rfl,by simp;omega,λ m hm hmt=>?_,⟨F5.et,F5.lr,F5.nd,F5.nt,λ i c hc=>?_⟩,λ i c hc=>?_⟩
   . rw[Ug (Ui hmt),Uh (by omega)];exact f4 m hm hmt
   . rw[F5.row i c hc];congr 3;by_cases h1:i=t+2+q
     . rw[Ud h1,Ud (by omega),h1]
     . rw[Ub h1];by_cases h2:i<t+2+q
       . rw[Ud h2,Ud (by omega)]
       . rw[Ub h2,Ub (by omega)]
   . have lr:=F4.lr;rcases nG (by omega) hc with⟨_,rfl⟩|⟨_,hc2⟩
     . exact⟨⟨by omega,λ z=>by omega⟩,λ _=>by omega⟩
     . exact r4 i c hc2
 . refine⟨F3.et,F3.lr,F3.nd,F3.nt,λ i c hc=>?_⟩;have hi:i<N:=by have:=(Ua.mp hc).1;have:=F3.lr;omega
   rw[F3.row i c hc];congr 3;by_cases h1:i=t
   . rw[Ud h1,Ud (by omega),h1]
   . rw[Ub h1];by_cases h2:i=t+1
     . rw[Ud h2,Ud (by omega),h2]
     . rw[Ub h2];by_cases h3:i<t
       . rw[Ud (by omega)];exact D7 λ p hp=>by rw[Mx.mP (by omega),Mx.jL (by omega) (by omega)]
       . rw[Ub (by omega)]
theorem Al{A0 A U C:List (List Int)}{N w:Nat}{m:Nat->Nat}(L:Mx.Lg A0 A U C N w m)(h0:Mx.bh N w A0)(hN:N<=8)(hD0:Mx.D N (Mx.af A0)≠0)(g0:∀i,i<N->Mx.af A0 i i<=2^37000)(hm:∀i,i<N->m i<=37000):AX A U C N where
 lam:=λ i p hp hi=>L.N_ hi (by omega) (hm i hi)
 D:=λ p hp=>⟨(L.D p hp).1,by
  have h:=L.D p hp;have h2:(((2:Nat)^744:Nat):Int)=(2:Int)^744:=VC 2 744;have h3:(((Mx.D p (Mx.af A)).natAbs:Nat):Int)=Mx.D p (Mx.af A):=Int.natAbs_of_nonneg (by omega);exact W8.mp (by rw[h3,h2];exact h.2)⟩
 eA:=L.ent hm
 eU:=(L.turn h0 hN hD0 g0 hm).1
 eC:=(L.turn h0 hN hD0 g0 hm).2
def kW:cE:=λ ds st K=>∃(n0 s b xb xu xc tb N w:Nat) (rs:List Nat) (A0 A U C:List (List Int)),ds=[.ref s]/\Ss n0 st s b xb xu xc tb rs A U C N/\Mx.bh N w A0/\N<=8/\w<=9/\Mx.D N (Mx.af A0)≠0/\(∀i,i<N->Mx.af A0 i i<=2^37000)/\Mx.Lk A0 A U C N w 1/\
 ∀st' xb' xu' xc' rs' A' U' C',Ss n0 st' s b xb' xu' xc' tb rs' A' U' C' N->Mx.Tn A0 A' U' C' N w->AX A' U' C' N->Mx.Sh (Mx.af A') N->(∀m,m<n0->st'[m]?=st[m]?)->K .aF st'
def iN:List Str:=["self","k","j"]
def wm:DS:=(aA (aQ 1 (dC (.int 1)))
 (uM (cK (ak rF (aa 1) (cP fZ (ae (cG aP "table" (aa 0)) aq)))) (aA (fh (dn aP "lessen" jv (aa 0) (ae (aa 1) (ae (ak dM (aa 1) (dC (.int 1))) aq))))
 (gj (cK (dn aP "is_steep" km (aa 0) (ae (aa 1) aq))) (aA (fh (dn aP "swap" ou (aa 0) (ae (aa 1) aq)))
 (aQ 1 (cP yP (ae (dC (.int 1)) (ae (ak dM (aa 1) (dC (.int 1))) aq))))) (aA (fj (vj (ae (ak dM (aa 1) (dC (.int 2))) (ae (kD gH (dC (.int 1))) (ae (kD gH (dC (.int 1))) aq)))) (bT 2) (fh (dn aP "lessen" jv (aa 0) (ae (aa 1) (ae (aa 2) aq)))))
 (Ce 1 (xi (λ i j=>i+j)) (dC (.int 1))))))))
theorem mk_le{N k i:Nat}(hN:N<=8):Mx.mk N k i<=37000:=by unfold Mx.mk;split<;>omega
theorem xr(A:List (List Int)){k j:Nat}(h:0<Mx.D (j+1) (Mx.af A)):2*(((Mx.lam (Mx.af A) k j-nq A k j*Mx.D (j+1) (Mx.af A)).natAbs:Nat):Int)<=Mx.D (j+1) (Mx.af A):=(Mx.AI h).1
theorem Ra{A0 A U C:List (List Int)}{N w k:Nat}(h:Mx.Lk A0 A U C N w k)(hk:N<=k):Mx.Sh (Mx.af A) N where
 half:=λ i j hj hi=>h.red i (by omega) hi j hj
 O6:=λ i h0 hi z=>by
  obtain⟨t,rfl⟩:∃t,i=t+1:=⟨i-1,by omega⟩
  refine h.flat t (by omega) hi ?_;unfold Mx.j4;rw[Nat.add_sub_cancel]at z;have e:4*Mx.D (t+1+1) (Mx.af A)*Mx.D t (Mx.af A)=4*(Mx.D (t+2) (Mx.af A)*Mx.D t (Mx.af A)):=by grind
  have e2:4*Mx.lam (Mx.af A) (t+1) t*Mx.lam (Mx.af A) (t+1) t=4*(Mx.lam (Mx.af A) (t+1) t*Mx.lam (Mx.af A) (t+1) t):=by grind
  rw[e,e2]at z;omega
theorem MW{A0 A U C:List (List Int)}{N w t:Nat}{m:Nat->Nat}(L:Mx.Lg A0 A U C N w m)(hm:∀i,i<N->m i<=if i=t+1 then 748+2240*(N-t)else 748)(ht:t+1<N)(hst:Mx.j4 A t)(red:∀i,i<t+1->∀j,j<i->2*(((Mx.lam (Mx.af A) i j).natAbs:Nat):Int)<=Mx.D (j+1) (Mx.af A))(flat:∀u,u+1<t+1->¬Mx.j4 A u):Mx.Lk A0 (Mx.aT A (t+1) t) (Mx.aT U (t+1) t) (Mx.aT C (t+1) t) N w (max 1 t):=by
 have sm:=Mx.xX L ht hst;have L3:=L.swap ht ⟨sm.1,UO (Vq sm.2) (L.D (t+1) (by omega)).2⟩;have hgs:Mx.af (Mx.aT A (t+1) t)=Mx.cw (Mx.af A) t:=Mx.nY (by have:=L.T.isA.len;omega);refine⟨⟨L3.T,L3.D,λ i hi=>?_⟩,λ i hik hi j hj=>?_,λ u hu hu2=>?_⟩
 . by_cases h0:t=0/\i=0
   . have h1:=(L3.D 1 (by omega)).2
     have e:Mx.D 1 (Mx.af (Mx.aT A (t+1) t))=Mx.af (Mx.aT A (t+1) t) 0 0:=by
      have h2:=Mx.dS (Mx.af (Mx.aT A (t+1) t)) 0;unfold Mx.lam at h2;rw[Mx.mH]at h2;exact h2.symm
     rw[h0.2,<-e];exact UO h1 (Mx.p2 (by unfold Mx.mk;split<;>omega))
   . refine UO (L3.len i hi) (Mx.p2 ?_);have h1:=hm (Mx.sw t (t+1) i) (Mx.uv ht hi);by_cases e1:i=t
     . rw[e1,Mx.A8,Ud rfl]at h1;rw[e1,Mx.A8];unfold Mx.mk;rw[Ud (by omega),show max 1 t=t by omega];exact h1
     . have h2:Mx.sw t (t+1) i≠t+1:=by
        intro z;by_cases e2:i=t+1
        . rw[e2,Mx.Fj]at z;omega
        . rw[Mx.jL e1 e2]at z;exact e2 z
       rw[Ub h2]at h1;unfold Mx.mk;split<;>omega
 . rw[hgs,Mx.oW (by omega),Mx.mP (by omega),Mx.jL (by omega) (by omega)];exact red i (by omega) j hj
 . intro z;refine flat u (by omega) ?_;unfold Mx.j4 at z⊢;rw[hgs,Mx.oW (by omega),Mx.oW (by omega),Mx.oW (by omega),Mx.mP (by omega),Mx.jL (by omega) (by omega)]at z;exact z
theorem vo:T9 kW 1 wm iN:=by
 rintro ds st K ⟨n0,s,b,xb,xu,xc,tb,N,w,rs,A0,A,U,C,rfl,h,h0,hN,hw,hD0,g0,hL,kk⟩;refine⟨rfl,?_⟩;refine⟨λ m σ st'=>∃(k xb xu xc:Nat) (rs:List Nat) (A U C:List (List Int)) (v2:Option D),σ=[some (.ref s),some (.int ((k:Nat):Int)),v2]/\1<=k/\Ss n0 st' s b xb xu xc tb rs A U C N/\Mx.Lk A0 A U C N w k/\(∀m,m<n0->st'[m]?=st[m]?)/\m=(Mx.tj A N).toNat*(N+2)+(N+1-k),⟨_,1,xb,xu,xc,rs,A,U,C,none,rfl,Ue _,h,hL,λ _ _=>rfl,rfl⟩,?_⟩;rintro m σ st1 ⟨k,xb,xu,xc,rs,A,U,C,v2,rfl,hk1,h,hL,fr,rfl⟩;refine bp h.es rfl (fB (aC h.T.et) ?_);rw[Uk,h.T.lr];refine NM (λ hlt=>jn ?_) λ hge=>?_;rotate_left
 . exact kk st1 xb xu xc rs A U C h hL.L.T (Al hL.L h0 hN hD0 g0 λ i _=>mk_le hN) (Ra hL (by omega)) fr
 obtain⟨t,rfl⟩:∃t,k=t+1:=⟨k-1,by omega⟩
 have ht:t+1<N:=by omega
 have em:((t+1:Nat):Int)-1=(t:Int):=by omega
 have sm:=Al hL.L h0 hN hD0 g0 λ i _=>mk_le hN;have T:=hL.L.T;refine c_ h.es rfl (dm ?_);rw[em];refine⟨n0,s,b,xb,xu,xc,tb,N,w,t+1,t,rs,A,U,C,rfl,h,T.isA,T.dz,T.fe,by omega,ht,hN,hw,sm,λ st2 h2 f2=>?_⟩;have L2:=hL.L.take (k:=t+1) (j:=t) (q:=nq A (t+1) t) (by omega) ht (Mx.OU hL.L ht (by omega)) (by unfold Mx.mk;rw[Ub (by omega)];omega)
 have r2:2*(((Mx.lam (Mx.af (Mx.aR A (t+1) (nq A (t+1) t) t)) (t+1) t).natAbs:Nat):Int)<=Mx.D (t+1) (Mx.af A):=by
  rw[Mx.AQ T.isA (by omega) ht];exact xr A (hL.L.D (t+1) (by omega)).1
 have low2:∀i p,i<t+1->p<=i->Mx.lam (Mx.af (Mx.aR A (t+1) (nq A (t+1) t) t)) i p=Mx.lam (Mx.af A) i p:=λ i p hi hp=>Mx.Bc T.isA (by omega) ht (by omega) (by omega) hp;have D2:∀p,p<=N->Mx.D p (Mx.af (Mx.aR A (t+1) (nq A (t+1) t) t))=Mx.D p (Mx.af A):=λ p hp=>Mx.xU T.isA (by omega) ht hp;have ph2:Mx.tj (Mx.aR A (t+1) (nq A (t+1) t) t) N=Mx.tj A N:=Mx.BN T.isA (by omega) ht;generalize hA2:Mx.aR A (t+1) (nq A (t+1) t) t=A2 at*;generalize Mx.aR U (t+1) (nq A (t+1) t) t=U2 at*;generalize Mx.aR C t (-nq A (t+1) t) (t+1)=C2 at*
 have hm2:∀i,i<N->(if i=t+1 then Mx.mk N (t+1) (t+1)+2240 else Mx.mk N (t+1) i)<=37000:=λ i hi=>by
  by_cases hi2:i=t+1
  . rw[Ud hi2];unfold Mx.mk;rw[Ud rfl];omega
  . rw[Ub hi2];exact mk_le hN
 have sm2:=Al L2 h0 hN hD0 g0 hm2;refine c_ h2.es rfl ?_;refine⟨n0,s,b,xb,xu,xc,tb,N,t,rs,A2,U2,C2,rfl,h2,ht,sm2,?_⟩;have fr2:∀m,m<n0->st2[m]?=st[m]?:=λ m hm=>(f2 m hm).trans (fr m hm);by_cases hst:Mx.j4 A2 t
 . have hst':=hst;unfold Mx.j4 at hst';rw[We hst'];refine jn ?_;refine c_ h2.es rfl ?_;refine⟨n0,s,b,xb,xu,xc,tb,N,w,t,rs,A2,U2,C2,rfl,h2,L2.T.isA,L2.T.dz,L2.T.fe,ht,hN,sm2,λ st3 xb3 xu3 xc3 rs3 h3 f3=>?_⟩;refine dm ?_;rw[em];refine HH ?_;have ek:(if((t:Nat):Int)>1 then((t:Nat):Int)else 1)=((max 1 t:Nat):Int):=by split<;>omega
   rw[ek]
   have L3:=MW L2 (λ i hi=>by
    by_cases hi2:i=t+1
    . rw[Ud hi2,Ud hi2];unfold Mx.mk;rw[Ud rfl];omega
    . rw[Ub hi2,Ub hi2];unfold Mx.mk;rw[Ub hi2];omega) ht hst (λ i hi j hj=>by rw[low2 i j hi (by omega),D2 (j+1) (by omega)];exact hL.red i hi (by omega) j hj) (λ u hu z=>hL.flat u hu (by omega) (by
    unfold Mx.j4 at z⊢;rw[low2 (u+1) u hu (by omega),D2 _ (by omega),D2 _ (by omega),D2 _ (by omega)]at z;exact z))
   have hph:=Mx.IE L2 ht hst;have hp3:=Mx.MR L3.L;rw[ph2]at hph;refine⟨_,?_,max 1 t,xb3,xu3,xc3,rs3,_,_,_,_,rfl,by omega,h3,L3,λ m hm=>(f3 m hm).trans (fr2 m hm),rfl⟩;have h9:((Mx.tj (Mx.aT A2 (t+1) t) N).toNat+1)*(N+2)<=(Mx.tj A N).toNat*(N+2):=Vf _ (by omega);rw[Xl,Wt]at h9;omega
 . have hst':=hst;unfold Mx.j4 at hst';rw[UT hst'];refine uc ?_;refine dm (gI (gI ?_));have e2:((t+1:Nat):Int)-2=(t:Int)-1:=by omega
   rw[e2];refine Lw ⟨by omega,by omega,by omega,by omega⟩ ?_;have e3:((t:Int)-1- -1).toNat=t:=by omega
   rw[e3];refine fG (λ rest σ st'=>∃(q:Nat) (A' U' C':List (List Int)) (v2:Option D),q<=t/\rest=(kM ((t:Int)-1) t).drop q/\σ=[some (.ref s),some (.int ((t+1:Nat):Int)),v2]/\Ss n0 st' s b xb xu xc tb rs A' U' C' N/\Mx.Lg A0 A' U' C' N w (λ i=>if i=t+1 then 748+2240*(N-(t+1))+2240*(q+1)else 748)/\(∀i p,i<t+1->p<=i->Mx.lam (Mx.af A') i p=Mx.lam (Mx.af A2) i p)/\(∀p,p<=N->Mx.D p (Mx.af A')=Mx.D p (Mx.af A2))/\(∀p,t<=p+q->p<=t->2*(((Mx.lam (Mx.af A') (t+1) p).natAbs:Nat):Int)<=Mx.D (p+1) (Mx.af A2))/\Mx.lam (Mx.af A') (t+1) t=Mx.lam (Mx.af A2) (t+1) t/\Mx.tj A' N=Mx.tj A2 N/\∀m,m<n0->st'[m]?=st[m]?) ?_ ?_ _ _ _ ⟨0,A2,U2,C2,v2,UK _,rfl,rfl,h2,L2.mono λ i hi=>?_,λ _ _ _ _=>rfl,λ _ _=>rfl,λ p hp hp2=>?_,rfl,rfl,fr2⟩
   . rintro σ st3 ⟨q,A',U',C',v3,hq,hrest,rfl,h3,L3,low3,D3,red3,same3,ph3,fr3⟩;refine⟨trivial,?_⟩
     have hqt:q=t:=by
      have:=VH List.length hrest;simp[qD]at this;omega
     subst hqt;have redk:∀j,j<q+1->2*(((Mx.lam (Mx.af A') (q+1) j).natAbs:Nat):Int)<=Mx.D (j+1) (Mx.af A'):=λ j hj=>by rw[D3 (j+1) (by omega)];exact red3 j (by omega) (by omega)
     have L4:Mx.Lk A0 A' U' C' N w (q+2):=by
      refine⟨⟨L3.T,L3.D,λ i hi=>?_⟩,λ i hi hiN j hj=>?_,λ u hu huN=>?_⟩
      . by_cases hi2:i=q+1
        . subst hi2;have h5:=Mx.Dx L3.T.isA L3.ne (λ k hk=>(L3.D k hk).2) hi redk;have h16:(2:Int)^4=16:=by decide
          have h6:((q+1+1:Nat):Int)*2^744<=2^4*2^744:=UU (by omega) (Vq (Mx.oG _));rw[<-Wu]at h6;exact UO h5 (UO h6 (Mx.p2 (by unfold Mx.mk;split<;>omega)))
        . have h5:=L3.len i hi;rw[Ub hi2]at h5;exact UO h5 (Mx.p2 (by unfold Mx.mk;split<;>omega))
      . by_cases hi2:i=q+1
        . subst hi2;exact redk j hj
        . rw[low3 i j (by omega) (by omega),D3 (j+1) (by omega),low2 i j (by omega) (by omega),D2 (j+1) (by omega)];exact hL.red i (by omega) hiN j hj
      . intro z;unfold Mx.j4 at z;by_cases hu2:u=q
        . subst hu2;rw[same3,D3 _ (by omega),D3 _ (by omega),D3 _ (by omega)]at z;exact hst z
        . rw[low3 (u+1) u (by omega) (by omega),D3 _ (by omega),D3 _ (by omega),D3 _ (by omega),low2 (u+1) u (by omega) (by omega),D2 _ (by omega),D2 _ (by omega),D2 _ (by omega)]at z;exact hL.flat u (by omega) (by omega) z
     refine⟨_,?_,q+2,xb,xu,xc,rs,A',U',C',_,rfl,by omega,h3,L4,fr3,rfl⟩;rw[ph3,ph2];omega
   . rintro x rest σ st3 ⟨q,A',U',C',v3,hq,hrest,rfl,h3,L3,low3,D3,red3,same3,ph3,fr3⟩ next
     have hqt:q<t:=by
      have:=VH List.length hrest;simp[qD]at this;omega
     have ex:(t:Int)-1+((q:Nat):Int)* -1=((t-1-q:Nat):Int):=by omega
     have hx:(kM ((t:Int)-1) t).drop q=D.int ((t-1-q:Nat):Int)::(kM ((t:Int)-1) t).drop (q+1):=by
      have hl:q<(kM ((t:Int)-1) t).length:=by rw[qD];exact hqt
      have eg:(kM ((t:Int)-1) t)[q]=D.int ((t-1-q:Nat):Int):=by
       have e:=Uq hl;rw[tI,Ud hqt,ex]at e;exact(U6 e).symm
      rw[UI hl,eg]
     rw[hx,VB]at hrest;obtain⟨rfl,rfl⟩:=hrest;refine⟨trivial,_,rfl,?_⟩;have hm3:∀i,i<N->(if i=t+1 then 748+2240*(N-(t+1))+2240*(q+1)else 748)<=37000:=λ i hi=>by split<;>omega
     have sm3:=Al L3 h0 hN hD0 g0 hm3;have T3:=L3.T;obtain⟨j,hj⟩:∃j,j=t-1-q:=⟨_,rfl⟩
     rw[<-hj];refine c_ h3.es rfl ?_;refine⟨n0,s,b,xb,xu,xc,tb,N,w,t+1,j,rs,A',U',C',rfl,h3,T3.isA,T3.dz,T3.fe,by omega,ht,hN,hw,sm3,λ st4 h4 f4=>?_⟩;have L4:=L3.take (k:=t+1) (j:=j) (q:=nq A' (t+1) j) (by omega) ht (Mx.OU L3 ht (by omega)) (by rw[Ub (by omega)];omega);refine next _ _ ⟨q+1,_,_,_,_,hqt,rfl,rfl,h4,L4.mono λ i hi=>?_,λ i p hi hp=>?_,λ p hp=>?_,λ p hp hp2=>?_,?_,?_,λ m hm=>(f4 m hm).trans (fr3 m hm)⟩
     . by_cases hi2:i=t+1
       . rw[Ud hi2,Ud hi2,Ud rfl];omega
       . rw[Ub hi2,Ub hi2,Ub hi2];omega
     . rw[Mx.Bc T3.isA (by omega) ht (by omega) (by omega) hp];exact low3 i p hi hp
     . rw[Mx.xU T3.isA (by omega) ht hp];exact D3 p hp
     . by_cases hpj:p=j
       . subst hpj;rw[Mx.AQ T3.isA (by omega) ht,<-D3 (p+1) (by omega)];exact xr A' (L3.D (p+1) (by omega)).1
       . rw[Mx.Dv T3.isA (by omega) ht (by omega) (by omega)];exact red3 p (by omega) hp2
     . rw[Mx.Dv T3.isA (by omega) ht (by omega) (by omega)];exact same3
     . rw[Mx.BN T3.isA (by omega) ht];exact ph3
   . by_cases hi2:i=t+1
     . rw[Ud hi2,Ud hi2];unfold Mx.mk;rw[Ud rfl];omega
     . rw[Ub hi2,Ub hi2];unfold Mx.mk;rw[Ub hi2];omega
   . have:p=t:=by omega
     subst this;rw[D2 (p+1) (by omega)];exact r2
def yE:cE:=λ ds st K=>∃(dA:D) (A:List (List Int)) (N w:Nat),ds=[dA]/\e8 st dA A/\St A N w/\w<=9/\(∀k,k<=N->Mx.D k (Mx.af A)≠0)/\∀st' A' U' C',Ext st st'->Mx.Tn A A' U' C' N w->AX A' U' C' N->Mx.Sh (Mx.af A') N->K (.tup [dh A',dh U',dh (Mx.GC C' N)]) st'
def uU:List Str:=["steps","stairs","bench"]
def Lq:DS:=(aA (aQ 1 (x_ aP kq (ae (aa 0) aq)))
 (aA (fh (dn aP "shorten" kW (aa 1) aq))
 (aA (aQ 2 (cG aP "bench" (aa 1)))
 (bK (p9 (ae (aJ lq (ae (cG aD "body" (aa 2)) aq)) (ae (aJ lq (ae (cG aD "turn" (aa 2)) aq)) (ae (aJ kR (ae (cG aD "back_columns" (aa 2)) (ae (cP fZ (ae (aa 0) aq)) aq))) aq))))))))
theorem IM:T9 yE 1 Lq uU:=by
 rintro ds st K ⟨dA,A,N,w,rfl,hA,hS,hw,hD,kk⟩;refine⟨rfl,?_⟩;have gm:=hS.gm;have hN:=gm.le;have hl:=hS.is.len;have X0:Ext st (st++[.ins aP []]):=Ext.push;refine⟨st.length,N,w,dA,A,rfl,by simp,X0.AE hA,hS,hD,λ st1 b xb xu xc tb rs h1 f1=>⟨rfl,?_⟩⟩
 have hgb:∀i,i<N->Mx.af A i i<=2^748:=λ i hi=>by
  have h2:=gm.bd i i hi hi;have h3:((DW:Nat):Int)<=2^748:=UO (show((DW:Nat):Int)<=2^90 by decide) (Mx.p2 (by decide));omega
 have hDb:∀k,k<=N->Mx.D k (Mx.af A)<=2^744:=λ k hk=>by
  have h2:=gm.D (p:=k) hk;have h3:(((2:Nat)^744:Nat):Int)=(2:Int)^744:=VC 2 744;have h4:Mx.D k (Mx.af A)<=(((Mx.D k (Mx.af A)).natAbs:Nat):Int):=by omega
  exact UO h4 (by rw[<-h3];exact W8.mpr h2)
 have hL:=Mx.Lk.start hS.is hD hDb hgb;refine c_ h1.es rfl ?_;refine⟨st.length,st.length,b,xb,xu,xc,tb,N,w,rs,A,A,_,_,rfl,h1,hS.is,hN,hw,hD N (Ue _),λ i hi=>UO (hgb i hi) (Mx.p2 (by decide)),hL,λ st2 xb2 xu2 xc2 rs2 A2 U2 C2 h2 T2 hD2 hsh f2=>?_⟩;have hs2:=(Ua.mp h2.es).1;have X2:Ext st st2:=⟨by omega,λ m hm=>by rw[f2 m hm,f1 m hm,X0.same m hm]⟩
 refine bp h2.es rfl ?_;have lA:=T2.isA.len;have lU:=T2.dz.len;have lC:=T2.fe.len;refine bp h2.B.eb rfl ?_;refine⟨.ref xb2,A2,rfl,⟨_,aC h2.B.e1,bL.lst⟩,by omega,?_⟩;refine bp h2.B.eb rfl ?_;refine⟨.ref xu2,U2,rfl,⟨_,aC h2.B.e2,bL.lst⟩,by omega,?_⟩;refine bp h2.B.eb rfl ?_;obtain⟨da,hda,ra⟩:=(X2.AE hA).ex;refine fB hda ?_;rw[ra.len,hl];refine⟨.ref xc2,C2,N,rfl,⟨_,aC h2.B.e3,bL.lst⟩,T2.fe.gc,by omega,by omega,?_⟩;exact⟨Ur rfl,kk st2 A2 U2 C2 X2 T2 hD2 hsh⟩
def qW:cE:=λ _ _ _=>False
def m_:List Str:=["parts","row","total","one","number"]
def C7:DS:=(aA (aQ 2 (aJ mQ (ae (dC (.int 0)) aq)))
 (aA (fj (qU (ae (aa 0) (ae (aa 1) aq))) (jx 3 4) (aQ 2 (aJ A9 (ae (aa 2) (ae (aJ yl (ae (aa 3) (ae (aJ mQ (ae (aa 4) aq)) aq))) aq)))))
 (bK (aa 2))))
theorem B4:T9 qW 2 C7 m_:=λ _ _ _ h=>h.elim
def qP:cE:=λ _ _ _=>False
def nv:List Str:=["form","rest","place","row"]
def C_:DS:=(aA (fj (g8 (aa 0)) (bT 3) (gj (cK (ak lH (aJ jR (ae (aa 3) aq)) (aa 2))) (bK (ak aU (aa 3) (aa 2))) e_))
 (bK (ak bY (dC (.int 2)) (cP qS (ae (ak aU (aa 1) (aa 2)) aq)))))
theorem B5:T9 qP 3 C_ nv:=λ _ _ _ h=>h.elim
def mn:cE:=λ _ _ _=>False
def jw:List Str:=["form","rest","place","parts","k","lead","owed"]
def xI:DS:=(aA (aQ 2 (aJ jR (ae (aa 1) aq)))
 (aA (aQ 3 (ak E9 (mr (ae (aJ mQ (ae (dC (.int 0)) aq)) aq)) (cP fZ (ae (aa 1) aq))))
 (aA (fO (aa 3) (aa 2) (aJ pL (ae (dC (.int 1)) (ae (aJ qP (ae (aa 0) (ae (aa 1) (ae (aa 2) aq)))) aq))))
 (aA (fj (vj (ae (ak dM (cP fZ (ae (aa 0) aq)) (dC (.int 1))) (ae (kD gH (dC (.int 1))) (ae (kD gH (dC (.int 1))) aq)))) (bT 4) (aA (aQ 5 (aJ jR (ae (ak aU (aa 0) (aa 4)) aq)))
 (gj (cK (ak rF (aa 5) (aa 2))) (aA (aQ 6 (aJ yG (ae (aJ mQ (ae (dC (.int 0)) aq)) (ae (aJ qW (ae (aa 3) (ae (ak aU (aa 0) (aa 4)) aq))) aq))))
 (fO (aa 3) (aa 5) (aJ BS (ae (aa 6) (ae (aJ mQ (ae (ak aU (ak aU (aa 0) (aa 4)) (aa 5)) aq)) aq))))) e_)))
 (bK (cP eS (ae (aa 3) aq)))))))
theorem wZ:T9 mn 2 xI jw:=λ _ _ _ h=>h.elim
theorem zp:∀(r:List Int) (i l:Nat),ke r i=some l->∃k,l=i+k/\k<r.length/\r.getD k 0≠0/\∀c,c<k->r.getD c 0=0
 | [],_,_,h=>by cases h
 |x::r,i,l,h=>by
  unfold ke at h;split at h
  . rename_i hx;obtain⟨k,e,hk,hr,hz⟩:=zp r (i+1) l h;refine⟨k+1,by omega,Yy hk,hr,λ c hc=>?_⟩;cases c with
    |zero=>exact hx
    |succ c=>exact hz c (Nat.lt_of_succ_lt_succ hc)
  . cases h;exact⟨0,rfl,Nat.succ_pos _,by assumption,λ c hc=>absurd hc (Vl _)⟩
theorem CQ{r:List Int}{l:Nat}(h:nR r=some l):l<r.length/\r.getD l 0≠0/\∀c,c<l->r.getD c 0=0:=by
 obtain⟨k,e,h1,h2,h3⟩:=zp r 0 l h;rw[WM]at e;subst e;exact⟨h1,h2,h3⟩
theorem lS{A:List (List Int)}{t i c:Nat}(h:i<t):Mx.g (A.take t) i c=Mx.g A i c:=by
 have e:(A.take t).getD i []=A.getD i []:=by rw[Uv,Uv,List.getElem?_take,Ud h]
 unfold Mx.g;rw[e]
theorem Bk.ext{st st1 st2:ag}(B:Bk st st1)(X:Ext st1 st2):Bk st st2:=by
 have l1:=B.le;obtain⟨f,e⟩:=B.tb;have l0:=(Ua.mp e).1;exact⟨by have:=X.len;omega,λ m hm h0=>by rw[X.same m (by omega),B.fr m hm h0],f,by rw[X.same 0 l0];exact e⟩
theorem Mh{n:Nat}{r:List Int}:pl (n+1) (cN r)=true:=by
 unfold pl;exact Nk
structure Fo(A:List (List Int))(N w:Nat)(F:List (List Int))(m:Nat):Prop where
 is:Mx.bh m w F
 st:Mx.cV F m w (Mx.i5 F)
 red:Mx.EU F m (Mx.i5 F)
 same:Mx.l8 A N F m w
 m8:m<=8
theorem AS{A:List (List Int)}{N w top e u v:Nat}{c:Mx.B3}{ld:Nat->Nat}(H2:Mx.i0 A N w c top w ld e u v)(n8:N<=8):Fo A N w (c.A.take top) top:=by
 have H:=H2.R6
 have s:Mx.cV (c.A.take top) top w ld:=⟨λ i hi=>by
  obtain⟨h1,h2,h3⟩:=H.lead i hi;exact⟨h1,by rw[lS hi];exact h2,λ c hc=>by rw[lS hi];exact h3 c hc⟩,H.mono⟩
 have le:=H.le;refine⟨⟨by rw[Vn,H.tn.isA.len];omega,λ r hr=>H.tn.isA.gc r (WU hr)⟩,s.Tw,λ i j hij hj=>?_,⟨λ k hk=>?_,λ k hk=>?_⟩,by omega⟩
 . rw[s.i5 hj,lS (V8 hij hj),lS hj];exact H.red i j hij hj
 . obtain⟨z,hz⟩:=H.out k hk;exact⟨z,λ q hq=>(hz q hq).trans (Mx.ay λ i hi=>by rw[lS hi])⟩
 . exact(H.in k hk).eq λ q _=>lS hk
theorem Fo.one{A B:List (List Int)}{N N' w m m':Nat}{F G:List (List Int)}(f:Fo A N w F m)(g:Fo B N' w G m')(h:Mx.l8 A N B N' w):F=G:=by
 have h1:=(f.same.symm.trans h).trans g.same
 have e:m=m':=XI
  (Wd λ l=>U0 _ (f.st.same g.st h1.to h1.of m' l).1)
  (Wd λ l=>U0 _ (g.st.same f.st h1.of h1.to m l).1)
 subst e;exact f.is.ext g.is λ i j hi hj=>f.st.only g.st h1.to h1.of f.red g.red hi j hj
theorem Fo.wf{A:List (List Int)}{N w m b:Nat}{F:List (List Int)}(f:Fo A N w F m)(w8:w<=8)(b1:1<=b)(hA:∀i c,i<N->c<w->(Mx.g A i c).natAbs<=b)(h:8*((9*b)^(m+1)*(9*b)^m)<=2^5000):Wf F m w:=
 ⟨f.is,f.st,f.m8,w8,λ k c hk hc=>Uj (Mx.OG f.m8 b1 hA f.st f.red f.same k c hk hc) h⟩
theorem MK{X:List (List Int)}{n w:Nat}{q:List Int}(hl:X.length=n)(h:q∈X):Mx.dg X n w λ c=>q.getD c 0:=by
 obtain⟨i,hi,rfl⟩:=UC.mp h;refine(Mx.dg.row (k:=i) (by omega)).eq λ c _=>?_;unfold Mx.g;rw[Mx.aK hi]
theorem sv{n:Nat}{A:List (List Int)}:pl (n+2) (dh A)=true:=by
 unfold pl;refine U_.mpr λ d hd=>?_;obtain⟨r,_,rfl⟩:=Vy.mp hd;exact Mh
theorem BL{F:List (List Int)}{m w:Nat}{r:List Int}(hW:Wf F m w)(lr:r.length=w):(Mx.fJ F r m=List.replicate w 0↔Mx.dg F m w λ c=>r.getD c 0)/\(nR (Mx.fJ F r m)=none↔Mx.fJ F r m=List.replicate w 0):=by
 have lR:=Mx.rB hW.is lr (Ue m);have fz:=(Mx.DY hW.is lr hW.st (Ue m)).zero hW.st;have z:Mx.fJ F r m=List.replicate w 0↔∀c,c<w->(Mx.fJ F r m).getD c 0=0:=⟨λ h c _=>by rw[h];exact Mx.cY _ _,λ h=>Mx.rm lR (by simp) λ j hj=>by rw[h j hj,Mx.cY]⟩
 refine⟨z.trans fz,⟨λ h=>z.mpr λ c _=>sM _ 0 h c,λ h=>?_⟩⟩;cases e:nR (Mx.fJ F r m)with
 |none=>rfl
 |some l=>
  obtain⟨h1,h2,_⟩:=CQ e;exact absurd (z.mp h l (by omega)) h2
theorem QB{N w e0 t:Nat}(h:Mx.Rm N w e0)(h1:t<=N)(h2:t<=w):Mx.Uz N e0 t<=120000001:=by
 cases t with
 |zero=>exact UK _
 |succ t=>
  have:=(h t (by omega) (by omega)).2.1;show Mx.Uz N e0 t+Mx.Ez N e0 (t+1)+1<=_;omega
def wR:cE:=λ ds st K=>∃(d dr:D) (A:List (List Int)) (r:List Int) (N w e0:Nat) (f:Bool),ds=[d,dr]/\e8 st d A/\items? st dr=some (ax r)/\Mx.bh N w A/\1<=N/\N<=8/\w<=8/\Mx.iI A N 0 (2^e0)/\e0<60000000/\Mx.Rm N w e0/\(∀F m,Fo A N w F m->Wf F m w)/\r.length=w/\(∀x∈r,x.natAbs<=2^5000)/\Mx.dg A N w (λ c=>r.getD c 0)/\st[0]?=some (h_ f)/\∀st' (W:List Int),Bk st st'->W.length=N->(∀x∈W,x.natAbs<=2^120100000)->(∀c,c<w->(Mx.S N λ n=>W.getD n 0*Mx.g A n c)=r.getD c 0)->K (.tup [.str "told",cN W]) st'
def sP:List Str:=["rows","row","told","form","fallen"]
def Jb:DS:=(aA (aQ 2 (aJ mj (ae (aa 0) aq)))
 (aA (aQ 3 (ak aU (aa 2) (dC (.int 0))))
 (aA (aQ 4 (aJ uB (ae (aa 3) (ae (aa 1) aq))))
 (aA (gj (cK (ak xV (aJ jR (ae (ak aU (aa 4) (dC (.int 1))) aq)) (dC .aF))) (bK (p9 (ae (dC (.str "none")) (ae (aJ mn (ae (aa 3) (ae (ak aU (aa 4) (dC (.int 1))) aq))) aq)))) e_)
 (bK (p9 (ae (dC (.str "told")) (ae (aJ sL (ae (ak aU (aa 4) (dC (.int 0))) (ae (ky (ak aU (aa 2) (dC (.int 1))) j6 (mx (cP fZ (ae (aa 3) aq)))) (ae (cP fZ (ae (aa 0) aq)) aq)))) aq))))))))
theorem zJ{a b n:Nat}:∀(ws:List Int) (A:List (List Int)) (acc:List Int) (t c:Nat),acc.length=n->(∀r∈A,r.length=n)->(∀w∈ws,w.natAbs<=2^a)->(∀r∈A,∀x∈r,x.natAbs<=2^b)->(acc.getD c 0).natAbs<=t*2^(a+b)->((Mx.dQ ws A acc).getD c 0).natAbs<=(t+ws.length)*2^(a+b)
 | [],_,acc,t,c,_,_,_,_,h=>by unfold Mx.dQ;rw[XM,Nat.add_zero];exact h
 |_::_,[],acc,t,c,_,_,_,_,h=>by
  unfold Mx.dQ;exact Uj h (Vf _ (by omega))
 |w::ws,r::A,acc,t,c,hl,hr,hw,hb,h=>by
  have hq:=hr r UB;unfold Mx.dQ
  have h2:((Mx.f9 acc w r).getD c 0).natAbs<=(t+1)*2^(a+b):=by
   rw[Mx.o8 (by omega)]
   have h3:(w*r.getD c 0).natAbs<=2^(a+b):=by
    rw[U8,VR];refine Vd (hw w UB) ?_;by_cases hc:c<r.length
    . exact hb r UB _ (getD_mem hc)
    . rw[Mx.mT (by omega)];exact UK _
   have:=Yg (acc.getD c 0) (w*r.getD c 0);rw[Xl,Wt];omega
  have:=zJ ws A (Mx.f9 acc w r) (t+1) c (by rw[Mx.jK (by omega)];exact hl) (λ q hq=>hr q (Uu _ hq)) (λ q hq=>hw q (Uu _ hq)) (λ q hq=>hb q (Uu _ hq)) h2;rw[UQ];rw[show t+(ws.length+1)=t+1+ws.length by omega];exact this
theorem F9:T9 wR 2 Jb sP:=by
 rintro ds st K ⟨d,dr,A,r,N,w,e0,f,rfl,hd,hr,hA,n1,n8,w8,hlo,he0,hRm,hWf,lr,br,hL,h0,k⟩;refine⟨rfl,d,N,w,e0,A,f,rfl,hd,hA,n1,n8,by omega,hlo,he0,hRm,h0,λ st1 top c ld hC H B=>?_⟩;have fo:=AS H n8;have hW:=hWf _ _ fo;have lF:=hW.is.len;have hgF:∀i q,i<top->Mx.g (c.A.take top) i q=Mx.g c.A i q:=λ i q hi=>lS hi;generalize hF:c.A.take top=F at hW lF hgF fo;have br':∀c,c<w->(r.getD c 0).natAbs<=2^5000:=λ c hc=>br _ (getD_mem (by omega));refine aM rfl rfl ?_;refine⟨dr,F,r,top,w,5000,rfl,hW,nI h0 B.fr hr,lr,br',by decide,λ st2 X=>?_⟩;have B2:=B.ext X;have sm:=Mx.DU hW.is lr (Ue top);have t8:=hW.m8;refine aM rfl rfl ⟨_,Mx.fJ F r top,rfl,rfl,?_⟩;have el:nR (Mx.fJ F r top)=none:=(BL hW lr).2.mpr ((BL hW lr).1.mpr (Mx.dg.trans fo.same.to hL));have eD:oB (Mx.fJ F r top)= .aF:=by unfold oB;rw[el]
 rw[eD];refine NC rfl ?_;have lU:=H.tn.dz.len;have le:=H.le;have AY:=H.AY;refine aM rfl rfl (aM rfl rfl (fB rfl (zx ?_)));rw[Uk,lF,By,<-Xp];obtain⟨da,hda,ra⟩:=hd;refine fB (X.items (nI h0 B.fr hda)) ?_;have lda:da.length=N:=by rw[ra.len];exact hA.len
 rw[lda];have lw:(Mx.tm F r top).length=top:=by unfold Mx.tm;simp
 have wat:∀j,j<top->(Mx.tm F r top).getD j 0=Mx.xm F (Mx.fJ F r j) j:=λ j hj=>by
  unfold Mx.tm;rw[Mx.aK (by simpa using hj),Vv,Vu]
 have uz:=QB hRm le AY
 have bw:∀x∈Mx.tm F r top,x.natAbs<=2^45100:=λ x hx=>by
  obtain⟨j,hj,rfl⟩:=UC.mp hx;rw[lw]at hj;have e1:=wat j hj;rw[Mx.aK (by omega)]at e1;rw[e1];obtain⟨l1,l2,_⟩:=hW.lead hj;exact Uj (Uj (Mx.pX _ l2) (Mx.yF hW.is lr hW.st hW.sm br' (VM hj) _ l1)) (UA (by decide) (by omega))
 have bU:∀q∈c.U.take top,∀y∈q,y.natAbs<=2^Mx.Uz N e0 top:=λ q hq y hy=>by
  obtain⟨i,hi,rfl⟩:=UC.mp hq;have hiU:i<c.U.length:=by rw[Vn]at hi;omega
  have him:i<top:=by rw[Vn]at hi;omega
  rw[List.getElem_take]at hy;obtain⟨p,hp,rfl⟩:=UC.mp hy;have hU:=(H.hi i p him).2.1
  have eU:Mx.g c.U i p=c.U[i][p]:=by
   unfold Mx.g;rw[Mx.aK hiU,Mx.aK hp]
  rw[eU]at hU;exact hU
 have hwid:∀q∈c.U.take top,q.length=N:=λ q hq=>H.tn.dz.gc q (WU hq);refine⟨_,_,N,Mx.tm F r top,c.U.take top,rfl,rfl,o6,hwid,by omega,λ x hx q hq y hy=>j_ (bw x hx) (bU q hq y hy) (by omega),⟨Ur rfl,k st2 _ B2 (Mx.qz (by simp) hwid) (λ x hx=>?_) (λ q hq=>?_)⟩⟩
 . obtain⟨p,hp,rfl⟩:=UC.mp hx;have:=zJ (Mx.tm F r top) (c.U.take top) (List.replicate N 0) 0 p (by simp) hwid bw bU (by rw[Mx.cY];exact UK _);rw[Mx.aK hp,lw,WM]at this;refine Uj this (Uj (Vf _ (show top<=2^3 by omega)) ?_);rw[<-VR];exact UA (by decide) (by omega)
 . refine Mx.J5 H.R6 lw (λ q hq=>?_) hq;rw[sm q,sM _ 0 el q,WL];exact Mx.ay λ j hj=>by rw[wat j hj,hgF j q hj]
structure Upd(st:ag)(n:Nat)(st':ag):Prop where
 len:st'.length=st.length
 same:∀m,m≠n->st'[m]?=st[m]?
theorem Upd.refl{st:ag}{n:Nat}:Upd st n st:=⟨rfl,λ _ _=>rfl⟩
theorem Upd.trans{st st1 st2:ag}{n:Nat}(a:Upd st n st1)(b:Upd st1 n st2):Upd st n st2:=⟨b.len.trans a.len,λ m h=>(b.same m h).trans (a.same m h)⟩
theorem Upd.set{st:ag}{n:Nat}{c:Cell}:Upd st n (st.set n c):=⟨Us,λ m h=>Ug (Ui h)⟩
structure Lf(st:ag)(n:Nat):Prop where
 ex:∃x,st[n]?=some (.lst [.int x])/\0<=x
def wy:cE:=λ ds st K=>∃(ns:List Int) (k:Int),ds=[.lst (ns.map .int),.int k]/\0<=k/\∀c,K (.int c) st
def sH:List Str:=["_law_script","_law_k"]
def II:DS:=(aA (gj (cK (ak rF (aa 1) (cP fZ (ae (aa 0) aq)))) (bK (ak aU (aa 0) (aa 1))) e_)
 (bK (dC (.int 0))))
theorem LB{ns:List Int}{k:Int}(h0:0<=k)(h:k<ns.length):∃c,dY (ns.map D.int) k=some (.int c):=by
 have hk:k.toNat<ns.length:=by omega
 refine⟨ns[k.toNat],?_⟩;have e:(ns.map D.int)[k.toNat]?=some (.int ns[k.toNat]):=by simp[hk]
 have:=iC e;rw[WY h0]at this;exact this
theorem Hx:T9 wy 2 II sH:=by
 rintro ds st K ⟨ns,k,rfl,hk0,q⟩;refine⟨rfl,?_⟩;refine fB rfl ?_;rw[Uk];refine NM (λ h=>?_) λ h=>q 0;obtain⟨c,e⟩:=LB hk0 h;exact jn (aM rfl e (q c))
def sf:cE:=λ ds st K=>∃(ns:List Int) (k:Int),ds=[.lst (ns.map .int),.int k]/\0<=k/\k<=1000/\∀x:Int,0<=x->K (.ref st.length) (st++[.lst [.int x]])
def oS:List Str:=["_law_script","_law_k","_law_cell","_law_number_here","_law_wide","_law_j"]
def Fg:DS:=(aA (aQ 2 (aJ wy (ae (aa 0) (ae (aa 1) aq))))
 (aA (gj (cK (ak x9 (cP qS (ae (aa 2) aq)) (ak wC (dC (.int 10)) (dC (.int 18))))) (bK (og (ae (cP qS (ae (aa 2) aq)) aq))) e_)
 (aA (aQ 3 (ak jW (ak bY (ak cQ (ak cQ (ak jW (aa 2) (dC (.int 2147483647))) (ak bY (dC (.int 7919)) (aa 1))) (dC (.int 11))) (dC (.int 48271))) (dC (.int 2147483629))))
 (aA (aQ 4 (dC (.int 0)))
 (aA (fj (dN (ae (dC (.int 9)) aq)) (bT 5) (aA (aQ 3 (ak jW (ak cQ (ak cQ (ak bY (aa 3) (aa 3)) (ak bY (dC (.int 69621)) (aa 5))) (dC (.int 7))) (dC (.int 1999999973))))
 (aQ 4 (ak cQ (ak bY (aa 4) (dC (.int 1999999973))) (aa 3)))))
 (bK (og (ae (aa 4) aq))))))))
def Jq:DS:=(aA (aQ 4 (dC (.int 0)))
 (aA (fj (dN (ae (dC (.int 9)) aq)) (bT 5) (aA (aQ 3 (ak jW (ak cQ (ak cQ (ak bY (aa 3) (aa 3)) (ak bY (dC (.int 69621)) (aa 5))) (dC (.int 7))) (dC (.int 1999999973))))
 (aQ 4 (ak cQ (ak bY (aa 4) (dC (.int 1999999973))) (aa 3)))))
 (bK (og (ae (aa 4) aq)))))
theorem Hk{d0 d1 d2:D}{u:Int}{st:ag}{E:kQ}(h0:0<=u)(h1:u<2^62)(k:∀x:Int,0<=x->E.rt (.ref st.length) (st++[.lst [.int x]])):Jq E [some d0,some d1,some d2,some (.int u),none,none] st:=by
 refine gO ⟨by decide,by decide⟩ ?_;refine jX 9 (λ _ σ st'=>st'=st/\∃(u w:Int) (v:Option D),0<=u/\u<2^62/\0<=w/\σ=[some d0,some d1,some d2,some (.int u),some (.int w),v]) ?_ ?_ ⟨rfl,u,0,none,h0,h1,Xi _,rfl⟩
 . rintro σ st' ⟨rfl,u,w,v,a1,a2,a3,rfl⟩;exact⟨Ur rfl,k w a3⟩
 . rintro j σ st' rest hj ⟨rfl,u,w,v,a1,a2,a3,rfl⟩ next
   refine⟨_,rfl,?_⟩;refine cS (ji (by omega) (by omega)) (cS (ji (by decide) (by decide)) (c6 (c6 (nU (by decide) ?_))));have u1:=Vj (u*u+69621*(j:Int)+7) (show(0:Int)<1999999973 by decide);have u2:=VD (u*u+69621*(j:Int)+7) (show(0:Int)<1999999973 by decide);generalize(u*u+69621*(j:Int)+7).fmod 1999999973=t at u1 u2;refine cS (Dp (by decide) (by decide)) (c6 ?_);have hw:0<=w*1999999973+t:=YR (WN a3 (by decide)) u1;generalize w*1999999973+t=w2 at hw;exact next _ _ ⟨rfl,t,w2,_,u1,by omega,hw,rfl⟩
def Ev(A:DE)(σ:cy)(st:ag)(d:D):Prop:=∀K:DK,K d st->A σ st K
theorem vi{x:D->D->ag->DK->Prop}{A B:DE}{σ:cy}{st:ag}{a b d:D}(hA:Ev A σ st a)(hB:Ev B σ st b)(hx:∀K:DK,K d st->x a b st K):Ev (ak x A B) σ st d:=λ K k=>hA _ (hB _ (hx K k))
theorem Bw{σ:cy}{st:ag}{d:D}:Ev (dC d) σ st d:=λ K k=>k
theorem Ib{i:Nat}{σ:cy}{st:ag}{d:D}(h:σ[i]?=some (some d)):Ev (aa i) σ st d:=λ K k=>tQ h k
theorem HM{σ:cy}{st:ag}{c k:Int}(h2:σ[2]?=some (some (.int c)))(h1:σ[1]?=some (some (.int k))):Ev (ak jW (ak bY (ak cQ (ak cQ (ak jW (aa 2) (dC (.int 2147483647))) (ak bY (dC (.int 7919)) (aa 1))) (dC (.int 11))) (dC (.int 48271))) (dC (.int 2147483629))) σ st (.int (((c.fmod 2147483647+7919*k+11)*48271).fmod 2147483629)):=by
 have a1:Ev (ak jW (aa 2) (dC (.int 2147483647))) σ st (.int (c.fmod 2147483647)):=vi (Ib h2) Bw λ K k=>nU (by decide) k;have a2:Ev (ak bY (dC (.int 7919)) (aa 1)) σ st (.int (7919*k)):=vi Bw (Ib h1) λ K k=>cS (ji (by decide) (by decide)) k;have a3:=vi (d:= .int (c.fmod 2147483647+7919*k)) a1 a2 λ K k=>c6 k;have a4:=vi (d:= .int (c.fmod 2147483647+7919*k+11)) a3 (Bw (d:= .int 11)) λ K k=>c6 k;have a5:=vi (d:= .int ((c.fmod 2147483647+7919*k+11)*48271)) a4 (Bw (d:= .int 48271)) λ K k=>cS (Dp (by decide) (by decide)) k;exact vi a5 (Bw (d:= .int 2147483629)) λ K k=>nU (by decide) k
theorem Pd{i:Nat}{A:DE}{B:DS}{E:kQ}{σ:cy}{st:ag}{d:D}(h:Ev A σ st d)(k:B E (σ.set i (some d)) st):aA (aQ i A) B E σ st:=h _ k
theorem C6:T9 sf 2 Fg oS:=by
 rintro ds st K ⟨ns,k,rfl,hk0,hk1,q⟩;refine⟨rfl,?_⟩;refine⟨ns,k,rfl,hk0,λ c=>?_⟩;refine B_ (Cn ⟨by decide,by decide,by decide⟩ ?_);generalize(10:Int)^(18:Int).toNat=big;refine Tz (λ h=>jn (B_ ⟨Ur rfl,q _ (by omega)⟩)) λ h=>?_;refine Pd (σ:=[some (.lst (ns.map .int)),some (.int k),some (.int c),none,none,none]) (HM (c:=c) (k:=k) rfl rfl) ?_;have u1:=Vj ((c.fmod 2147483647+7919*k+11)*48271) (show(0:Int)<2147483629 by decide);have u2:=VD ((c.fmod 2147483647+7919*k+11)*48271) (show(0:Int)<2147483629 by decide);generalize((c.fmod 2147483647+7919*k+11)*48271).fmod 2147483629=u at u1 u2;exact Hk (E:={nx:=λ _ st'=>K .aF st',rt:=K}) u1 (by omega) q
def dE:cE:=λ ds st K=>∃(n:Nat) (m:Int),ds=[.ref n,.int m]/\Lf st n/\0<m/\m<2^62/\∀r st',0<=r->r<m->Lf st' n->Upd st n st'->K (.int r) st'
def ny:List Str:=["_law_left_here","_law_many","_law_digit_here"]
def Df:DS:=(aA (aQ 2 (ak jW (ak aU (aa 0) (dC (.int 0))) (aa 1)))
 (aA (fO (aa 0) (dC (.int 0)) (ak j7 (ak aU (aa 0) (dC (.int 0))) (aa 1)))
 (bK (aa 2))))
theorem G9{m:Int}(h0:0<m)(h:m<2^62):m.natAbs.log2<9000:=by
 have:m.natAbs.log2<62:=(Xn (by omega)).mpr (by omega);omega
theorem BC:T9 dE 2 Df ny:=by
 rintro ds st K ⟨n,m,rfl,⟨x,e,hx⟩,hm0,hm1,k⟩;refine⟨rfl,?_⟩;have hn:n<st.length:=(Ua.mp e).1;have it:items? st (.ref n)=some [.int x]:=aC e;refine aM it wW (nU (by omega) (aM it wW (mV (by omega) (G9 hm0 hm1) (i7 e (by rfl) ?_))));refine k _ _ (Vj _ hm0) (VD _ hm0) ⟨_,Uo hn,?_⟩ Upd.set;rw[X1 _ (by omega)];exact Int.ediv_nonneg hx (by omega)
def Sm(x:Int):Prop:= -1000000000000<x/\x<1000000000000
def lX(kd:Int):Nat:=if kd=3 then 999999999999 else if kd=4 then 4 else 999
def mq:cE:=λ ds st K=>∃(n:Nat) (kd:Int),ds=[.ref n,.int kd]/\Lf st n/\0<=kd/\kd<5/\∀r st',r.natAbs<=lX kd->Lf st' n->Upd st n st'->K (.int r) st'
def my:List Str:=["_law_left_here","_law_kind","_law_size"]
def CA:DS:=(aA (gj (cK (ak lH (aa 1) (dC (.int 3)))) (bK (ak cQ (ak dM (aJ dE (ae (aa 0) (ae (ak dM (ak bY (dC (.int 2)) (ak wC (dC (.int 10)) (dC (.int 12)))) (dC (.int 1))) aq))) (ak wC (dC (.int 10)) (dC (.int 12)))) (dC (.int 1)))) e_)
 (aA (gj (AD (cK (ak lH (aa 1) (dC (.int 2)))) (cK (ak lH (aJ dE (ae (aa 0) (ae (dC (.int 2)) aq))) (dC (.int 0))))) (bK (ak dM (aJ dE (ae (aa 0) (ae (dC (.int 1999)) aq))) (dC (.int 999)))) e_)
 (aA (aQ 2 (ak aU (mr (ae (dC (.int 3)) (ae (dC (.int 9)) (ae (dC (.int 1)) (ae (dC (.int 0)) (ae (dC (.int 4)) aq)))))) (aa 1)))
 (bK (ak dM (aJ dE (ae (aa 0) (ae (ak cQ (ak bY (dC (.int 2)) (aa 2)) (dC (.int 1))) aq))) (aa 2))))))
theorem DM{st st1:ag}{n:Nat}{kd:Int}{K:DK}(L:Lf st1 n)(U:Upd st n st1)(h0:0<=kd)(h1:kd<5)(k:∀r st',r.natAbs<=lX kd->Lf st' n->Upd st n st'->K (.int r) st'):(aA (aQ 2 (ak aU (mr (ae (dC (.int 3)) (ae (dC (.int 9)) (ae (dC (.int 1)) (ae (dC (.int 0)) (ae (dC (.int 4)) aq)))))) (aa 1)))
 (bK (ak dM (aJ dE (ae (aa 0) (ae (ak cQ (ak bY (dC (.int 2)) (aa 2)) (dC (.int 1))) aq))) (aa 2)))) {nx:=λ _ st'=>K .aF st',rt:=K} [some (.ref n),some (.int kd),none] st1:=by
 have e:kd=0\/kd=1\/kd=2\/kd=3\/kd=4:=by omega
 have fin:∀s:Int,0<=s->s<=9->s<=lX kd->(bK (ak dM (aJ dE (ae (aa 0) (ae (ak cQ (ak bY (dC (.int 2)) (aa 2)) (dC (.int 1))) aq))) (aa 2))) {nx:=λ _ st'=>K .aF st',rt:=K} [some (.ref n),some (.int kd),some (.int s)] st1:=λ s s0 s1 s2=>by
  refine cS (ji (by decide) (by decide)) (c6 ?_);exact⟨n,_,rfl,L,by omega,by omega,λ r st2 a1 a2 L2 U2=>dm (k _ _ (by omega) L2 (U.trans U2))⟩
 refine⟨Ur rfl,?_⟩;rcases e with rfl|rfl|rfl|rfl|rfl
 . exact aM rfl rfl (fin 3 (by decide) (by decide) (by decide))
 . exact aM rfl rfl (fin 9 (by decide) (by decide) (by decide))
 . exact aM rfl rfl (fin 1 (by decide) (by decide) (by decide))
 . exact aM rfl rfl (fin 0 (by decide) (by decide) (by decide))
 . exact aM rfl rfl (fin 4 (by decide) (by decide) (by decide))
theorem z8:T9 mq 2 CA my:=by
 rintro ds st K ⟨n,kd,rfl,L,k0,k1,k⟩;refine⟨rfl,?_⟩;refine eq2 (λ h=>jn ?_) λ h=>?_
 . refine Cn ⟨by decide,by decide,by decide⟩ (cS (ji (by decide) (by decide)) (dm ?_));refine⟨n,_,rfl,L,by decide,by decide,λ r st2 c1 c2 L2 U2=>Cn ⟨by decide,by decide,by decide⟩ (dm (c6 ?_))⟩;have e:(10:Int)^(12:Int).toNat=1000000000000:=by decide
   rw[e]at c2⊢;have nk:lX kd=999999999999:=by unfold lX;rw[Ud h]
   exact k _ _ (by omega) L2 U2
 . refine eq2 (λ h2=>jn ?_) λ h2=>DM L Upd.refl k0 k1 k;refine⟨n,2,rfl,L,by decide,by decide,λ r st2 c1 c2 L2 U2=>?_⟩;refine eq2 (λ h3=>jn ?_) λ h3=>DM L2 U2 k0 k1 k;have nk:lX kd=999:=by unfold lX;rw[Ub h,Ub (by omega)]
   exact⟨n,1999,rfl,L2,by decide,by decide,λ r st3 d1 d2 L3 U3=>dm (k _ _ (by omega) L3 (U2.trans U3))⟩
def TR(A:List (List Int)):Prop:=∀r∈A,∀x∈r,Sm x
def RW(kd:Int)(A:List (List Int)):Prop:=∀r∈A,∀x∈r,x.natAbs<=lX kd
structure Dr(A:List (List Int))(N w:Nat):Prop where
 is:Mx.bh N w A
 le:N<=8
 wd:w<=9
 bd:TR A
 n1:1<=N
 w8:w<=8
 Ta:(N<=4/\(N<=2\/∀r∈A,∀x∈r,x.natAbs<=999))\/∀r∈A,∀x∈r,x.natAbs<=4
def mz:cE:=λ ds st K=>∃(n m w:Nat) (kd:Int),ds=[.ref n,.int m,.int w,.int kd]/\Lf st n/\m<=8/\w<=8/\0<=kd/\kd<5/\∀A st',Mx.bh m w A->RW kd A->Lf st' n->Upd st n st'->K (dh A) st'
def oN:List Str:=["_law_left_here","_law_many","_law_wide","_law_kind"]
def Fq:DS:=(bK (cP eS (ae (fT (dN (ae (aa 1) aq)) [none,some 2,some 0,some 3] (bT 0) du (cP eS (ae (fT (dN (ae (aa 1) aq)) [none,some 2,some 3] (bT 0) du (aJ mq (ae (aa 1) (ae (aa 2) aq)))) aq))) aq)))
theorem JQ{n w:Nat}{kd:Int}{σc:cy}{st:ag}{te:DE}{K:List D->ag->Prop}(ei:∀(x:D) (st':ag) (K':DK),mq [.ref n,.int kd] st' K'->te (σc.set 0 (some x)) st' K')(L:Lf st n)(k0:0<=kd)(k1:kd<5)(hs:(λ(x:D)=>bT 0 x σc)=λ x=>some (σc.set 0 (some x)))
 (k:∀r st',r.length=w->(∀x∈r,x.natAbs<=lX kd)->Lf st' n->Upd st n st'->K (ax r) st'):
 dG (bT 0) du te (λ _=>True) σc (dq 0 w) [] st K:=by
 refine iP (λ rest acc st'=>∃r:List Int,acc=ax r/\r.length+rest.length=w/\(∀x∈r,x.natAbs<=lX kd)/\Lf st' n/\Upd st n st') ?_ ?_ _ _ _ ⟨[],rfl,by rw[g6];simp,by simp,L,Upd.refl⟩
 . rintro acc st' ⟨r,rfl,hl,hr,B',U⟩;have hl:r.length=w:=by simpa using hl
   exact⟨trivial,k r st' hl hr B' U⟩
 . rintro x rest acc st' ⟨r,rfl,hl,hr,B',U⟩ next
   have hl2:r.length<w:=by simp at hl;omega
   refine⟨trivial,_,congrFun hs x,?_⟩;refine ei x st' _ ⟨n,kd,rfl,B',k0,k1,λ y st2 a B2 U2=>?_⟩;show dG _ _ _ _ _ _ _ _ _;rw[ints_app];refine next _ _ ⟨r++[y],rfl,by simp at hl⊢;omega,λ z hz=>?_,B2,U.trans U2⟩
   rcases UM.mp hz with h|h
   . exact hr z h
   . have:z=y:=by simpa using h
     subst this;exact a
theorem CO:T9 mz 4 Fq oN:=by
 rintro ds st K ⟨n,m,w,kd,rfl,B,hm,hw,k0,k1,k⟩;refine⟨rfl,?_⟩;refine gO ⟨by omega,by omega⟩ ⟨fb (by rw[g6];omega),?_⟩;rw[UL];refine iP (λ rest acc st'=>∃A:List (List Int),acc=A.map cN/\A.length+rest.length=m/\(∀r∈A,r.length=w)/\RW kd A/\Lf st' n/\Upd st n st') ?_ ?_ _ _ _ ⟨[],rfl,by rw[g6];simp,by simp,λ _ h=>by simp at h,B,Upd.refl⟩
 . rintro acc st' ⟨A,rfl,hl,hA,hBd,B',U⟩;have hl:A.length=m:=by simpa using hl
   exact⟨trivial,eN rfl (k A st' ⟨hl,hA⟩ hBd B' U)⟩
 . rintro x rest acc st' ⟨A,rfl,hl,hA,hBd,B',U⟩ next
   have hl2:A.length<m:=by simp at hl;omega
   refine⟨trivial,_,rfl,?_⟩;refine gO ⟨by omega,by omega⟩ ⟨fb (by rw[g6];omega),?_⟩;rw[UL];refine JQ (n:=n) (kd:=kd) (λ x st' K' h=>h) B' k0 k1 rfl λ r st2 hr1 hr2 B2 U2=>?_;refine eN rfl ?_;show dG _ _ _ _ _ _ _ _ _;rw[IU];refine next _ _ ⟨A++[r],rfl,by simp at hl⊢;omega,λ q hq=>?_,λ q hq=>?_,B2,U.trans U2⟩
   . rcases UM.mp hq with h|h
     . exact hA q h
     . have:q=r:=by simpa using h
       subst this;exact hr1
   . rcases UM.mp hq with h|h
     . exact hBd q h
     . have:q=r:=by simpa using h
       subst this;exact hr2
def qL:cE:=λ ds st K=>∃(n:Nat),ds=[.ref n]/\Lf st n/\∀A N w st',Dr A N w->Lf st' n->Upd st n st'->K (dh A) st'
def ni:List Str:=["_law_left_here","_law_kind","_law_many","_law_wide"]
def CV:DS:=(aA (aQ 1 (ak aU (mr (ae (dC (.int 0)) (ae (dC (.int 0)) (ae (dC (.int 1)) (ae (dC (.int 1)) (ae (dC (.int 2)) (ae (dC (.int 2)) (ae (dC (.int 3)) (ae (dC (.int 4)) aq))))))))) (aJ dE (ae (aa 0) (ae (dC (.int 8)) aq)))))
 (aA (aQ 2 (ak cQ (dC (.int 1)) (aJ dE (ae (aa 0) (ae (dC (.int 4)) aq)))))
 (aA (aQ 3 (ak cQ (aa 2) (aJ dE (ae (aa 0) (ae (dC (.int 3)) aq)))))
 (aA (gj (cK (ak lH (aa 1) (dC (.int 3)))) (Jo 2 3 (ae (ak cQ (dC (.int 1)) (ak jW (aa 2) (dC (.int 2)))) (ae (ak cQ (dC (.int 2)) (ak jW (aa 3) (dC (.int 2)))) aq))) e_)
 (aA (gj (cK (ak lH (aa 1) (dC (.int 4)))) (aA (aQ 2 (ak cQ (dC (.int 7)) (ak jW (aa 2) (dC (.int 2)))))
 (aQ 3 (cP yP (ae (aa 2) (ae (ak cQ (dC (.int 7)) (ak jW (aa 3) (dC (.int 2)))) aq))))) e_)
 (bK (aJ mz (ae (aa 0) (ae (aa 2) (ae (aa 3) (ae (aa 1) aq)))))))))))
theorem B9:T9 qL 1 CV ni:=by
 rintro ds st K ⟨n,rfl,L,k⟩;refine⟨rfl,?_⟩;refine⟨Ur rfl,n,8,rfl,L,by decide,by decide,λ r st1 r0 r1 L1 U1=>?_⟩
 have hk:∃kd:Int,0<=kd/\kd<5/\dY [D.int 0,.int 0,.int 1,.int 1,.int 2,.int 2,.int 3,.int 4] r=some (.int kd):=by
  have e:r=0\/r=1\/r=2\/r=3\/r=4\/r=5\/r=6\/r=7:=by omega
  rcases e with rfl|rfl|rfl|rfl|rfl|rfl|rfl|rfl<;>exact⟨_,by decide,by decide,rfl⟩
 obtain⟨kd,k0,k1,ek⟩:=hk;refine aM rfl ek ?_;refine⟨n,4,rfl,L1,by decide,by decide,λ a st2 a0 a1 L2 U2=>c6 ?_⟩;refine⟨n,3,rfl,L2,by decide,by decide,λ b st3 b0 b1 L3 U3=>c6 ?_⟩;have U:=(U1.trans U2).trans U3
 have fin:∀(N w:Nat),1<=N->N<=8->w<=8->(kd≠4->N<=4)->(kd=3->N<=2)->(bK (aJ mz (ae (aa 0) (ae (aa 2) (ae (aa 3) (ae (aa 1) aq)))))) {nx:=λ _ st'=>K .aF st',rt:=K} [some (.ref n),some (.int kd),some (.int N),some (.int w)] st3:=λ N w n1 hN hw c1 c2=>
  ⟨n,N,w,kd,rfl,L3,hN,hw,k0,k1,λ A st4 hA bA L4 U4=>k A N w st4 ⟨hA,hN,by omega,λ r hr x hx=>by
   have:=bA r hr x hx;have n2:lX kd<=999999999999:=by unfold lX;split;exact Ue _;split<;>decide
   unfold Sm;omega,n1,hw,by
   by_cases h4:kd=4
   . refine .inr λ r hr x hx=>?_;have:=bA r hr x hx;unfold lX at this;rwa [Ub (by omega),Ud h4]at this
   . refine .inl ⟨c1 h4,?_⟩;by_cases h3:kd=3
     . exact .inl (c2 h3)
     . refine .inr λ r hr x hx=>?_;have:=bA r hr x hx;unfold lX at this;rwa [Ub h3,Ub h4]at this⟩ L4 (U.trans U4)⟩
 have fin2:∀(N w:Int),1<=N->N<=8->0<=w->w<=8->(kd≠4->N<=4)->(kd=3->N<=2)->(bK (aJ mz (ae (aa 0) (ae (aa 2) (ae (aa 3) (ae (aa 1) aq)))))) {nx:=λ _ st'=>K .aF st',rt:=K} [some (.ref n),some (.int kd),some (.int N),some (.int w)] st3:=λ N w h1 h2 h3 h4 c1 c2=>by
  have:=fin N.toNat w.toNat (by omega) (by omega) (by omega) (λ z=>by have:=c1 z;omega) (λ z=>by have:=c2 z;omega);rw[WY (show 0<=N by omega),WY h3]at this;exact this
 have md:∀x:Int,0<=x.fmod 2/\x.fmod 2<2:=λ x=>⟨Vj _ (by decide),VD _ (by decide)⟩
 refine eq2 (λ h=>jn ?_) λ h=>?_
 . refine nU (by decide) (c6 (nU (by decide) (c6 ?_)));have m1:=md (1+a);have m2:=md (1+a+b);refine N2 (by omega) ?_;exact fin2 _ _ (by omega) (by omega) (by omega) (by omega) (λ _=>by omega) (λ _=>by omega)
 . refine eq2 (λ h2=>jn ?_) λ h2=>fin2 _ _ (by omega) (by omega) (by omega) (by omega) (λ _=>by omega) (λ z=>absurd z h);have m1:=md (1+a);have m2:=md (1+a+b);refine nU (by decide) (c6 (nU (by decide) (c6 (HH ?_))));refine fin2 _ _ (by omega) (by omega) ?_ ?_ (λ z=>absurd h2 z) (λ z=>absurd z h)
   . split<;>omega
   . split<;>omega
def qm:cE:=yd
def qg:List Str:=["_law_one","_law_other"]
def HU:DS:=(bK (cP yz (ae (fT (qU (ae (aa 0) (ae (aa 1) aq))) [none,none] (jx 0 1) du (ak bY (aa 0) (aa 1))) aq)))
theorem EV:T9 qm 2 HU qg:=FW
theorem yr{m:Nat}:∀ {a b:List Int},(∀x∈a,x.natAbs<=m)->(∀x∈b,x.natAbs<=m)->(Mx.iz a b).natAbs<=a.length*(m*m)
 | [],_,_,_=>by show(0:Int).natAbs<=_;simp
 |_::_,[],_,_=>by show(0:Int).natAbs<=_;simp
 |x::a,y::b,h1,h2=>by
  have ih:=yr (a:=a) (b:=b) (λ z hz=>h1 z (Uu _ hz)) λ z hz=>h2 z (Uu _ hz);have e:Mx.iz (x::a) (y::b)=x*y+Mx.iz a b:=rfl
  have h3:(x*y).natAbs<=m*m:=by
   rw[U8];exact Vd (h1 x UB) (h2 y UB)
  have h4:=Yg (x*y) (Mx.iz a b);rw[e,UQ,Xl,Wt];omega
theorem Dr.mem{A:List (List Int)}{N w i:Nat}(h:Dr A N w)(hi:i<N):A.getD i []∈A:=by
 have:=h.is.len;rw[Mx.aK (by omega)];exact Vp _
theorem Dr.st{A:List (List Int)}{N w:Nat}(h:Dr A N w):St A N w where
 is:=h.is
 wd:=by have:=h.wd;omega
 sm:=λ r hr x hx=>by have:=h.bd r hr x hx;unfold Sm at this;omega
 gm:={
  le:=h.le
  bd:=λ r c hr hc=>by
   have q:∀i,i<N->∀x∈A.getD i [],x.natAbs<=1000000000000:=λ i hi x hx=>by have:=h.bd _ (h.mem hi) x hx;unfold Sm at this;omega
   have h1:=yr (q r hr) (q c hc);have h2:=h.is.gc _ (h.mem hr);have h3:=h.wd;unfold Mx.af;rw[h2]at h1;have h4:w*(1000000000000*1000000000000)<=9*(1000000000000*1000000000000):=Vf _ h3;exact Uj h1 (Uj h4 (by decide))
  sym:=Mx.jM A}
theorem O7{p:Nat}(h:p<=8):(8*2^748)^p<=2^6100:=by
 have e:8*2^748=2^751:=by rw[show 751=3+748 from rfl,VR]
 rw[e,<-YI];exact UA (by decide) (by omega)
structure D5(G:Mx.Fn)(n:Nat):Prop where
 le:n<=8
 bd:∀r c,r<n->c<n->(G r c).natAbs<=2^748
 sym:∀i j,G i j=G j i
theorem D5.gx{G:Mx.Fn}{n p i j:Nat}(h:D5 G n)(hp:p<n)(hi:i<n)(hj:j<n):(Mx.gx G p (G i) j).natAbs<=2^6100:=Uj (Mx.G_ h.le h.bd hp hi hj) (O7 (by have:=h.le;omega))
theorem D5.D{G:Mx.Fn}{n p:Nat}(h:D5 G n)(hp:p<=n):(Mx.D p G).natAbs<=2^6100:=Uj (Mx.vb (by have:=h.le;omega) λ r c hr hc=>h.bd r c (by omega) (by omega)) (O7 (by have:=h.le;omega))
structure Co(A:List (List Int))(N w:Nat):Prop where
 is:Mx.bh N w A
 wd:w<=1000
 sm:∀r∈A,∀x∈r,x.natAbs<=2^400000
 gm:D5 (Mx.af A) N
theorem Co.mem{A:List (List Int)}{N w i:Nat}(h:Co A N w)(hi:i<N):A.getD i []∈A:=by
 have:=h.is.len;rw[Mx.aK (by omega)];exact Vp _
theorem Mi{A:List (List Int)}{N w i j:Nat}(h:Co A N w)(hi:i<N)(hj:j<N):∀a∈A.getD i [],∀b∈A.getD j [],IntMulOk a b:=λ a ha b hb=>ft (h.sm _ (h.mem hi) a ha) (h.sm _ (h.mem hj) b hb) (by decide) (by decide)
theorem St.TF{A:List (List Int)}{N w:Nat}(h:St A N w):Co A N w where
 is:=h.is
 wd:=h.wd
 sm:=λ r hr x hx=>Uj (VM (h.sm r hr x hx)) (UA (by decide) (by decide))
 gm:=⟨h.gm.le,λ r c hr hc=>Uj (h.gm.bd r c hr hc) (Uj (show DW<=2^90 by decide) (UA (by decide) (by decide))),h.gm.sym⟩
structure Own(G:Mx.Fn)(N:Nat)(st:ag)(g kn:Nat)(cs:List Nat):Prop where
 eg:st[g]?=some (Cell.lst (ax ((List.range (N+1)).map λ q=>Mx.D q G)))
 ek:st[kn]?=some (Cell.lst (cs.map D.ref))
 lc:cs.length=N
 row:∀j c,cs[j]?=some c->st[c]?=some (Cell.lst (ax (Mx.a8 G j)))
def qx:cE:=λ ds st K=>∃(A:List (List Int)) (N w:Nat),ds=[dh A]/\Co A N w/\(∀st',Ext st st'->(∃k,k<=N/\Mx.D k (Mx.af A)=0)->K .aF st')/\∀st' g kn cs,Ext st st'->(∀k,k<=N->Mx.D k (Mx.af A)≠0)->Own (Mx.af A) N st' g kn cs->K (.tup [.ref g,.ref kn]) st'
def qv:List Str:=["_law_steps","_law_grown","_law_known","_law_step","_law_found","_law_j","_law_told","_law_other","_law_k","_law_less"]
def Gh:DS:=(aA (aQ 1 (og (ae (dC (.int 1)) aq)))
 (aA (aQ 2 (og aq))
 (aA (fj (g8 (aa 0)) (bT 3) (aA (aQ 4 (og aq))
 (aA (fj (dN (ae (ak cQ (cP fZ (ae (aa 2) aq)) (dC (.int 1))) aq)) (bT 5) (aA (aQ 6 (aJ qm (ae (aa 3) (ae (ak aU (aa 0) (aa 5)) aq))))
 (aA (aQ 7 (ak aU (ak u4 (aa 2) (mr (ae (aa 4) aq))) (aa 5)))
 (aA (fj (dN (ae (aa 5) aq)) (bT 8) (aA (aQ 9 (ak bY (ak aU (aa 4) (aa 8)) (ak aU (aa 7) (aa 8))))
 (aQ 6 (ak j7 (ak dM (ak bY (ak aU (aa 1) (ak cQ (aa 8) (dC (.int 1)))) (aa 6)) (aa 9)) (ak aU (aa 1) (aa 8))))))
 (fh (gz (aa 4) (aa 6)))))))
 (aA (gj (cK (ak lH (ak aU (aa 4) (kD gH (dC (.int 1)))) (dC (.int 0)))) (bK (dC .aF)) e_)
 (aA (fh (gz (aa 1) (ak aU (aa 4) (kD gH (dC (.int 1))))))
 (fh (gz (aa 2) (aa 4))))))))
 (bK (p9 (ae (aa 1) (ae (aa 2) aq)))))))
theorem HA{A:List (List Int)}{j:Nat}(h:j<A.length):dY (A.map cN) (j:Int)=some (cN (A.getD j [])):=by
 refine iC ?_;rw[Uw,Uq h,Mx.aK h];rfl
theorem Ny{G:Mx.Fn}{n i j g f o:Nat}{gl fl ol:List Int}{d0 d2 d3 d5:D}{st:ag}{E:kQ}{v8 v9:Option D}(gm:D5 G n)(hi:i<n)(hj:j<=i)(hD:∀k,k<=i->Mx.D k G≠0)
 (eg:st[g]?=some (.lst (ax gl))) (ef:st[f]?=some (.lst (ax fl))) (eo:st[o]?=some (.lst (ax ol))) (lg:gl.length=i+1) (lf:fl.length=j) (lo:j<=ol.length)
 (hg:∀k,k<=i->gl.getD k 0=Mx.D k G) (hf:∀k,k<j->fl.getD k 0=Mx.lam G i k) (ho:∀k,k<j->ol.getD k 0=Mx.lam G j k)
 (k:∀v8 v9,E.nx [some d0,some (.ref g),some d2,some d3,some (.ref f),some d5,some (.int (Mx.lam G i j)),some (.ref o),v8,v9] st):
 fj (dN (ae (dC (.int j)) aq)) (bT 8) (aA (aQ 9 (ak bY (ak aU (aa 4) (aa 8)) (ak aU (aa 7) (aa 8))))
 (aQ 6 (ak j7 (ak dM (ak bY (ak aU (aa 1) (ak cQ (aa 8) (dC (.int 1)))) (aa 6)) (aa 9)) (ak aU (aa 1) (aa 8))))) E [some d0,some (.ref g),some d2,some d3,some (.ref f),some d5,some (.int (G i j)),some (.ref o),v8,v9] st:=by
 have hn:=gm.le;refine gO ⟨by omega,by omega⟩ ?_;rw[UL];refine jX j (λ q σ st'=>st'=st/\∃v8 v9,σ=[some d0,some (.ref g),some d2,some d3,some (.ref f),some d5,some (.int (Mx.gx G q (G i) j)),some (.ref o),v8,v9]) ?_ ?_ ⟨rfl,v8,v9,by rw[Mx.mH]⟩
 . rintro σ st' ⟨rfl,v8,v9,rfl⟩;exact k v8 v9
 . rintro q σ st' rest hq ⟨rfl,v8,v9,rfl⟩ next
   refine⟨_,rfl,?_⟩;have b1:=gm.D (p:=q+1) (by omega);have b2:=gm.gx (p:=q) (i:=i) (j:=j) (by omega) hi (by omega);have b3:(Mx.lam G i q).natAbs<=2^6100:=gm.gx (by omega) hi (by omega);have b4:(Mx.lam G j q).natAbs<=2^6100:=gm.gx (by omega) (by omega) (by omega);have b5:=gm.D (p:=q) (by omega);have hd:=hD q (by omega);have e1:=aC ef;have e2:=aC eo;have e3:=aC eg;refine aM e1 (jY (by omega)) (aM e2 (jY (by omega)) ?_);rw[hf q hq,ho q hq];refine cS (ft b3 b4 (by decide) (by decide)) (c6 ?_);refine aM e3 (e:= .int (Mx.D (q+1) G)) (by have:=jY (r:=gl) (k:=q+1) (by omega);rw[hg (q+1) (by omega)]at this;exact this) ?_;refine cS (ft b1 b2 (by decide) (by decide)) (dm (aM e3 (jY (by omega)) ?_));rw[hg q (by omega)];refine mV hd (Ar b5 hd (by decide)) ?_;rw[Mx.AW gm.sym hd];exact next _ _ ⟨rfl,_,_,rfl⟩
theorem wk(G:Mx.Fn)(i q:Nat):((List.range q).map λ j=>Mx.lam G i j).length=q:=by simp
theorem Gb(G:Mx.Fn)(i:Nat):((List.range (i+1)).map λ j=>Mx.lam G i j)=Mx.a8 G i:=rfl
theorem Lm{A:List (List Int)}{N w i g kn f:Nat}{gl:List Int}{cs:List Nat}{st:ag}{E:kQ}{v5 v6 v7 v8 v9:Option D}(hS:Co A N w)(hi:i<N)(hD:∀k,k<=i->Mx.D k (Mx.af A)≠0)
 (eg:st[g]?=some (.lst (ax gl))) (ek:st[kn]?=some (.lst (cs.map D.ref))) (ef:st[f]?=some (.lst [])) (lg:gl.length=i+1) (lc:cs.length=i) (hgf:g≠f) (hkf:kn≠f)
 (hg:∀k,k<=i->gl.getD k 0=Mx.D k (Mx.af A)) (hc:∀j c,cs[j]?=some c->c≠f/\st[c]?=some (.lst (ax (Mx.a8 (Mx.af A) j))))
 (k:∀st' v5 v6 v7 v8 v9,Upd st f st'->st'[f]?=some (.lst (ax (Mx.a8 (Mx.af A) i)))->E.nx [some (dh A),some (.ref g),some (.ref kn),some (cN (A.getD i [])),some (.ref f),v5,v6,v7,v8,v9] st'):
 (fj (dN (ae (ak cQ (cP fZ (ae (aa 2) aq)) (dC (.int 1))) aq)) (bT 5) (aA (aQ 6 (aJ qm (ae (aa 3) (ae (ak aU (aa 0) (aa 5)) aq))))
 (aA (aQ 7 (ak aU (ak u4 (aa 2) (mr (ae (aa 4) aq))) (aa 5)))
 (aA (fj (dN (ae (aa 5) aq)) (bT 8) (aA (aQ 9 (ak bY (ak aU (aa 4) (aa 8)) (ak aU (aa 7) (aa 8))))
 (aQ 6 (ak j7 (ak dM (ak bY (ak aU (aa 1) (ak cQ (aa 8) (dC (.int 1)))) (aa 6)) (aa 9)) (ak aU (aa 1) (aa 8))))))
 (fh (gz (aa 4) (aa 6))))))) E [some (dh A),some (.ref g),some (.ref kn),some (cN (A.getD i [])),some (.ref f),v5,v6,v7,v8,v9] st:=by
 have hn:=hS.gm.le;have hl:=hS.is.len;have hw:=hS.wd;refine fB (aC ek) (c6 ?_);have e0:(((cs.map D.ref).length:Nat):Int)+1=((i+1:Nat):Int):=by rw[Uk,lc];rfl
 rw[e0];refine gO ⟨by omega,by omega⟩ ?_;rw[UL];refine jX (i+1) (λ q σ st'=>Upd st f st'/\st'[f]?=some (.lst (ax ((List.range q).map λ j=>Mx.lam (Mx.af A) i j)))/\∃v5 v6 v7 v8 v9,σ=[some (dh A),some (.ref g),some (.ref kn),some (cN (A.getD i [])),some (.ref f),v5,v6,v7,v8,v9]) ?_ ?_ ⟨Upd.refl,ef,_,_,_,_,_,rfl⟩
 . rintro σ st' ⟨U,e,v5,v6,v7,v8,v9,rfl⟩;rw[Gb]at e;exact k st' v5 v6 v7 v8 v9 U e
 . rintro q σ st1 rest hq ⟨U,e,v5,v6,v7,v8,v9,rfl⟩ next
   refine⟨_,rfl,?_⟩;refine aM rfl (HA (by omega)) ?_;have wi:=hS.is.gc _ (hS.mem hi);refine⟨_,_,A.getD i [],A.getD q [],rfl,rfl,rfl,by omega,Mi hS hi (by omega),?_⟩;have ek1:=(U.same kn hkf).trans ek;have eg1:=(U.same g hgf).trans eg;refine⟨Ur rfl,M_ ek1 (by rw[Vi,Uk];simp;omega) ?_⟩;have hlt:=(Ua.mp e).1
   have ho:∃(o:Nat) (ol:List Int),(cs.map D.ref++[D.ref f])[q]?=some (.ref o)/\st1[o]?=some (.lst (ax ol))/\q<=ol.length/\∀k,k<q->ol.getD k 0=Mx.lam (Mx.af A) q k:=by
    by_cases hqi:q<i
    . have ec:cs[q]?=some cs[q]:=Uq (by omega);obtain⟨c1,c2⟩:=hc q _ ec;refine⟨cs[q],Mx.a8 (Mx.af A) q,?_,(U.same _ c1).trans c2,by rw[Mx.fx];omega,λ k hk=>Mx.kY _ (by omega)⟩;rw[Uh (by rw[Uk];omega),Uw,ec];rfl
    . have:q=i:=by omega
      subst this;refine⟨f,_,?_,e,by rw[wk];omega,λ k hk=>rP _ hk⟩;rw[UH (by rw[Uk];omega),Uk,lc,VY];rfl
   obtain⟨o,ol,o1,o2,o3,o4⟩:=ho;refine aM rfl (iC o1) ?_;refine Ny hS.gm hi (by omega) hD eg1 e o2 lg (wk _ _ _) o3 hg (λ k hk=>rP _ hk) o4 λ v8 v9=>?_;refine nF (by rfl) e (tQ rfl (lh e (by rw[Vi,Uk,wk];omega) ?_));refine next _ _ ⟨U.trans Upd.set,?_,_,_,_,_,_,rfl⟩
   rw[Uo hlt,vX]
theorem SJ{G:Mx.Fn}{n k:Nat}(h:k<n):((List.range n).map λ q=>Mx.D q G).getD k 0=Mx.D k G:=by rw[Mx.aK (by simpa using h),Vv,Vu]
theorem Rf(G:Mx.Fn)(q:Nat):ax ((List.range q).map λ j=>Mx.D j G)++[.int (Mx.D q G)]=ax ((List.range (q+1)).map λ j=>Mx.D j G):=by rw[VW,Vm];simp[ax]
theorem Fc:T9 qx 1 Gh qv:=by
 rintro ds st K ⟨A,N,w,rfl,hS,k1,k2⟩;refine⟨rfl,?_⟩;have hn:=hS.gm.le;have hl:=hS.is.len;refine⟨Ur rfl,Ur rfl,?_⟩;have X0:Ext st (st++[.lst [.int 1]]++[.lst []]):=Ext.push.trans Ext.push
 have eg0:(st++[Cell.lst [.int 1]]++[Cell.lst []])[st.length]?=some (.lst (ax ((List.range (0+1)).map λ q=>Mx.D q (Mx.af A)))):=by
  rw[VU,UH (Ue _),VY];rfl
 have ek0:(st++[Cell.lst [.int 1]]++[Cell.lst []])[st.length+1]?=some (.lst (([]:List Nat).map D.ref)):=by
  rw[VU,UH (by omega)];have:st.length+1-st.length=1:=by omega
  rw[this];rfl
 have hlen0:(st++[Cell.lst [.int 1]]++[Cell.lst []]).length=st.length+2:=by simp
 have hD0:∀k,k<=0->Mx.D k (Mx.af A)≠0:=λ k hk=>by
  have:k=0:=by omega
  rw[this,Mx.jP];decide
 have elen:(st++[Cell.lst [.int 1]]).length=st.length+1:=by simp
 refine pk ?_;refine fG (λ rest σ st'=>∃(i:Nat) (cs:List Nat) (v3 v4 v5 v6 v7 v8 v9:Option D),i<=N/\σ=[some (dh A),some (.ref st.length),some (.ref (st.length+1)),v3,v4,v5,v6,v7,v8,v9]/\rest=(A.drop i).map cN/\Ext st st'/\st.length+2<=st'.length/\st'[st.length]?=some (.lst (ax ((List.range (i+1)).map λ q=>Mx.D q (Mx.af A))))/\st'[st.length+1]?=some (.lst (cs.map D.ref))/\cs.length=i/\(∀k,k<=i->Mx.D k (Mx.af A)≠0)/\∀j c,cs[j]?=some c->st.length+2<=c/\c<st'.length/\st'[c]?=some (.lst (ax (Mx.a8 (Mx.af A) j)))) ?_ ?_ _ _ _ ⟨0,[],none,none,none,none,none,none,none,UK _,by rw[elen];rfl,rfl,X0,by rw[hlen0];omega,eg0,ek0,rfl,hD0,λ j c h=>by simp at h⟩
 . rintro σ st1 ⟨i,cs,v3,v4,v5,v6,v7,v8,v9,hi,rfl,hr,X,hlen,eg,ek,lc,hD,hc⟩;refine⟨trivial,?_⟩
   have:i=N:=by
    have:=VH List.length hr;simp at this;omega
   subst this;exact⟨Ur rfl,k2 st1 _ _ cs X hD ⟨eg,ek,lc,λ j c h=>(hc j c h).2.2⟩⟩
 . rintro x rest σ st1 ⟨i,cs,v3,v4,v5,v6,v7,v8,v9,hi,rfl,hr,X,hlen,eg,ek,lc,hD,hc⟩ next
   have hiN:i<N:=by
    have:=VH List.length hr;simp at this;omega
   rw[UI (show i<A.length by omega),UP,VB]at hr;obtain⟨rfl,rfl⟩:=hr;have er:A[i]=A.getD i []:=(Mx.aK (by omega)).symm;rw[er];refine⟨trivial,_,rfl,?_⟩;refine⟨Ur rfl,?_⟩;have XP:Ext st1 (st1++[.lst []]):=Ext.push;have ef:(st1++[Cell.lst []])[st1.length]?=some (.lst []):=by simp
   refine Lm (E:={nx:=_,rt:=K,ct:=_,bk:=_}) (i:=i) (g:=st.length) (kn:=st.length+1) (f:=st1.length) (cs:=cs) (gl:=(List.range (i+1)).map λ q=>Mx.D q (Mx.af A)) hS hiN hD ((XP.same _ (by omega)).trans eg) ((XP.same _ (by omega)).trans ek) ef (by simp) lc (by omega) (by omega) (λ k hk=>SJ (by omega)) (λ j c h=>by
    obtain⟨h1,h2,h3⟩:=hc j c h;exact⟨by omega,(XP.same _ h2).trans h3⟩) λ st2 v5 v6 v7 v8 v9 U ef2=>?_
   have l2:st2.length=st1.length+1:=by rw[U.len];simp
   have it:=aC ef2;have X2:Ext st st2:=⟨by omega,λ m hm=>by rw[U.same m (by omega),XP.same m (by omega)];exact X.same m hm⟩
   refine gI (aM it (mY (Mx.fx _ i)) ?_);rw[Mx.kY _ (Ue i),Mx.dS];refine eq2 (λ h=>jn (k1 st2 X2 ⟨i+1,by omega,h⟩)) λ h=>?_;have eg2:st2[st.length]?=some (.lst (ax ((List.range (i+1)).map λ q=>Mx.D q (Mx.af A)))):=by rw[U.same _ (by omega),XP.same _ (by omega)];exact eg
   have ek2:st2[st.length+1]?=some (.lst (cs.map D.ref)):=by rw[U.same _ (by omega),XP.same _ (by omega)];exact ek
   refine nF (by rfl) eg2 (gI (aM it (mY (Mx.fx _ i)) ?_));rw[Mx.kY _ (Ue i),Mx.dS];refine lh eg2 (by rw[Vi];simp;omega) ?_;rw[Rf];have ek3:(st2.set st.length (.lst (ax ((List.range (i+1+1)).map λ q=>Mx.D q (Mx.af A)))))[st.length+1]?=some (.lst (cs.map D.ref)):=by rw[Ug (by omega)];exact ek2
   refine nF (by rfl) ek3 (tQ rfl (lh ek3 (by rw[Vi];simp;omega) ?_));refine next _ _ ⟨i+1,cs++[st1.length],_,_,_,_,_,_,_,hiN,rfl,rfl,?_,by simp;omega,?_,?_,by simp[lc],λ q hq=>?_,λ j c hj=>?_⟩
   . exact(X2.set (Ue _)).set (by omega)
   . rw[Ug (by omega),Uo (by omega)]
   . rw[Uo (by rw[Us];omega),Vm];rfl
   . by_cases hqi:q=i+1
     . rw[hqi];exact h
     . exact hD q (by omega)
   . by_cases hjc:j<cs.length
     . rw[Uh hjc]at hj;obtain⟨h1,h2,h3⟩:=hc j c hj;refine⟨h1,by simp;omega,?_⟩;rw[Ug (by omega),Ug (by omega),U.same _ (by omega),XP.same _ h2];exact h3
     . have hlt:=(Ua.mp hj).1;have:j=i:=by simp at hlt;omega
       subst this;rw[UH (by omega),lc,VY]at hj;simp at hj;subst hj;refine⟨by omega,by simp;omega,?_⟩;rw[Ug (by omega),Ug (by omega)];exact ef2
def ot:cE:=λ ds st K=>∃(P Q:List (List Int)) (m p n:Nat),ds=[.lst (P.map cN),dh Q]/\Mx.bh m p P/\Mx.bh p n Q/\1<=p/\m<=1000/\p<=1000/\n<=1000/\(∀r∈P,∀x∈r,x.natAbs<=2^120100000)/\(∀r∈Q,∀x∈r,x.natAbs<=2^88)/\∀st',Ext st st'->K (dh (Mx.mulM P Q n)) st'
def kI:List Str:=["_law_one","_law_other","_law_found","_law_weights","_law_made","_law_weight","_law_row"]
def z9:DS:=(aA (aQ 2 (og aq))
 (aA (fj (g8 (aa 0)) (bT 3) (aA (aQ 4 (ak bY (mr (ae (dC (.int 0)) aq)) (cP fZ (ae (ak aU (aa 1) (dC (.int 0))) aq))))
 (aA (fj (qU (ae (aa 3) (ae (aa 1) aq))) (jx 5 6) (aQ 4 (fT (qU (ae (aa 4) (ae (aa 6) aq))) [none,none,some 5] (jx 0 1) du (ak cQ (aa 0) (ak bY (aa 2) (aa 1))))))
 (fh (gz (aa 2) (cP eS (ae (aa 4) aq)))))))
 (bK (cP eS (ae (aa 2) aq)))))
theorem xk{t:Int}:∀(r s:List Int),(fX (ax r) (ax s)).map (λ d=>match d with| .tup [.int a,.int b]=> .int (a+t*b)|_=> .aF)=ax (Mx.f9 r t s)
 | [],_=>rfl
 |_::_,[]=>rfl
 |a::r,b::s=>by
  have:=xk (t:=t) r s;unfold fX Mx.f9 at this⊢;simp only[ax,UP,List.zip_cons_cons,YK]at this⊢;rw[this]
theorem yH:T9 ot 2 z9 kI:=by
 rintro ds st K ⟨P,Q,m,p,n,rfl,hP,hQ,hp,hm,hp2,hn,bP,bQ,kk⟩;refine⟨rfl,?_⟩;have lP:=hP.len;have lQ:=hQ.len;refine⟨Ur rfl,?_⟩;have X0:Ext st (st++[.lst []]):=Ext.push;have e0:(st++[Cell.lst []])[st.length]?=some (.lst (([]:List (List Int)).map cN)):=by simp
 refine y_ ?_;refine fG (λ rest σ st'=>∃(P1 P2:List (List Int)) (v3 v4 v5 v6:Option D),P1++P2=P/\rest=P2.map cN/\σ=[some (.lst (P.map cN)),some (dh Q),some (.ref st.length),v3,v4,v5,v6]/\Ext st st'/\st'[st.length]?=some (.lst ((Mx.mulM P1 Q n).map cN))) ?_ ?_ _ _ _ ⟨[],P,none,none,none,none,rfl,rfl,rfl,X0,e0⟩
 . rintro σ st1 ⟨P1,P2,v3,v4,v5,v6,hP12,hr,rfl,X,e⟩;refine⟨trivial,?_⟩;match P2,hr with
   | [],_=>
     rw[VV]at hP12;subst hP12;exact eN (aC e) (kk st1 X)
 . rintro x rest σ st1 ⟨P1,P2,v3,v4,v5,v6,hP12,hr,rfl,X,e⟩ next
   match P2,hr,hP12 with
   |ws::P2,hr,hP12=>
    rw[UP,VB]at hr;obtain⟨rfl,rfl⟩:=hr;have hws:ws∈P:=by rw[<-hP12];simp
    have lws:=hP.gc ws hws;refine⟨trivial,_,rfl,?_⟩;have h00:Q.getD 0 []∈Q:=by rw[Mx.aK (by omega)];exact Vp _
    refine⟨Ur rfl,aM (e:=cN (Q.getD 0 [])) rfl (HA (j:=0) (by omega)) (fB rfl (D4 ⟨by rw[Uk];omega,by rw[Uk,hQ.gc _ h00];omega,fb (by rw[Uk,hQ.gc _ h00];simp;omega)⟩ ?_))⟩;rw[Uk,hQ.gc _ h00,UL,CB];refine q_ rfl rfl λ ok aO=>?_;refine fG (λ rest σ st'=>st'=st1/\∃(w2:List Int) (Q2:List (List Int)) (acc:List Int) (v5 v6:Option D),rest=fX (ax w2) (Q2.map cN)/\σ=[some (.lst (P.map cN)),some (dh Q),some (.ref st.length),some (cN ws),some (bC acc),v5,v6]/\acc.length=n/\(∀x∈w2,x∈ws)/\(∀r∈Q2,r∈Q)/\Mx.dQ w2 Q2 acc=Mx.dQ ws Q (List.replicate n 0)) ?_ ?_ _ _ _ ⟨rfl,ws,Q,_,v5,v6,rfl,rfl,by simp,λ x h=>h,λ r h=>h,rfl⟩
    . rintro σ st2 ⟨rfl,w2,Q2,acc,v5,v6,hr,rfl,la,hw2,hQ2,hs⟩;refine⟨aO _ rfl rfl,?_⟩
      have hacc:acc=Mx.dQ ws Q (List.replicate n 0):=by
       match w2,Q2,hr,hs with
       | [],_,_,hs=>exact hs
       |_::_,[],_,hs=>exact hs
       |_::_,_::_,hr,_=>cases hr
      refine nF (by rfl) e (eN rfl (lh e (by rw[Vi,Uk];unfold Mx.mulM;rw[Uk];have:=VH List.length hP12;simp at this;omega) ?_));have hlt:=(Ua.mp e).1;refine next _ _ ⟨P1++[ws],P2,_,_,_,_,by rw[<-hP12];simp,rfl,rfl,X.set (Ue _),?_⟩
      rw[Uo hlt,hacc];unfold Mx.mulM;simp
    . rintro x rest σ st2 ⟨rfl,w2,Q2,acc,v5,v6,hr,rfl,la,hw2,hQ2,hs⟩ r_;match w2,Q2,hr,hs,hw2,hQ2 with
      | [],_,hr,_,_,_=>cases hr
      |_::_,[],hr,_,_,_=>cases hr
      |c::w2,r::Q2,hr,hs,hw2,hQ2=>
       have hz:fX (ax (c::w2)) ((r::Q2).map cN)= .tup [.int c,cN r]::fX (ax w2) (Q2.map cN):=rfl;rw[hz,VB]at hr;obtain⟨rfl,rfl⟩:=hr;have hrQ:=hQ2 r UB;refine⟨aO _ rfl rfl,_,rfl,?_⟩;refine q_ rfl rfl λ ok2 hok2=>⟨fb (by rw[rW,Uk];omega),?_⟩
       refine comp_map (g:=λ d=>match d with| .tup [.int a,.int b]=> .int (a+c*b)|_=> .aF) (hok2 _ rfl rfl) _ (λ d hd K' t=>?_) ?_
       . obtain⟨a,b,ha,hb,rfl⟩:=vV hd;exact⟨_,rfl,cS (j_ (bP ws hws c (hw2 c UB)) (bQ r hrQ b hb) (by decide)) (c6 t)⟩
       rw[xk];exact r_ _ _ ⟨rfl,w2,Q2,_,_,_,rfl,rfl,by rw[Mx.jK (by rw[la,hQ.gc r hrQ])];exact la,λ x h=>hw2 x (Uu _ h),λ r h=>hQ2 r (Uu _ h),hs⟩
theorem yI{A:List (List Int)}{N w M:Nat}(hA:Mx.bh N w A)(h:∀r∈A,∀x∈r,x.natAbs<=M):∀i c,i<N->c<w->(Mx.g A i c).natAbs<=M:=λ i c hi hc=>by
 have lA:=hA.len;have lr:=hA.row hi;unfold Mx.g;exact h _ (by rw[Mx.aK (by omega)];exact Vp _) _ (getD_mem (by omega))
theorem zb{A:List (List Int)}{N w M:Nat}(hA:Mx.bh N w A)(h:∀i c,i<N->c<w->(Mx.g A i c).natAbs<=M):Mx.iI A N 0 M:=λ i c _ hi=>by
 by_cases hc:c<w
 . exact h i c hi hc
 . have lr:=hA.row hi;unfold Mx.g;rw[Mx.mT (by omega)];exact UK _
theorem Px{A:List (List Int)}{N w M:Nat}(hA:Mx.bh N w A)(h:∀i c,i<N->c<w->(Mx.g A i c).natAbs<=M):∀r∈A,∀x∈r,x.natAbs<=M:=λ r hr x hx=>by
 obtain⟨i,hi,rfl⟩:=UC.mp hr;obtain⟨c,hc,rfl⟩:=UC.mp hx;have lA:=hA.len;have lw:=hA.gc _ hr;have:=h i c (by omega) (by omega);unfold Mx.g at this;rwa [Mx.aK hi,Mx.aK hc]at this
def pM:cE:=λ ds st K=>∃(dr:D) (A:List (List Int)) (r:List Int) (N w e0:Nat) (f:Bool),ds=[dh A,dr]/\items? st dr=some (ax r)/\Mx.bh N w A/\1<=N/\N<=8/\w<=8/\(∀q∈A,∀x∈q,x.natAbs<=2^e0)/\e0<=88/\Mx.Rm N w e0/\r.length=w/\(∀x∈r,x.natAbs<=2^5000)/\Mx.dg A N w (λ c=>r.getD c 0)/\st[0]?=some (h_ f)/\∀st',Bk st st'->K (.bl true) st'
def mB:List Str:=["_law_made","_law_row","_law_told"]
def AK:DS:=(aA (aQ 2 (aJ wR (ae (aa 0) (ae (aa 1) aq))))
 (aA (gj (v_ (Am (cK (cP AO (ae (aa 2) (ae (dC (.ty "tuple")) aq))))) (v_ (cK (ak tf (cP fZ (ae (aa 2) aq)) (dC (.int 2)))) (cK (ak wV (ak aU (aa 2) (dC (.int 0))) (dC (.str "told")))))) (bK (dC (.bl false))) e_)
 (bK (ak lH (aJ ot (ae (mr (ae (ak aU (aa 2) (dC (.int 1))) aq)) (ae (aa 0) aq))) (p9 (ae (cP eS (ae (aa 1) aq)) aq))))))
theorem S8:∀m,m<9->8*((9*2^88)^(m+1)*(9*2^88)^m)<=2^5000:=by decide+kernel
theorem zW:T9 pM 2 AK mB:=by
 rintro ds st K ⟨dr,A,r,N,w,e0,f,rfl,hr,hA,n1,n8,w8,bA,he0,hRm,lr,br,hL,h0,k⟩;refine⟨rfl,?_⟩;have b88:∀q∈A,∀x∈q,x.natAbs<=2^88:=λ q hq x hx=>Uj (bA q hq x hx) (UA (by decide) he0);have hWf:∀F m,Fo A N w F m->Wf F m w:=λ F m fo=>fo.wf w8 (by decide) (yI hA b88) (S8 m (by have:=fo.m8;omega));refine⟨_,dr,A,r,N,w,e0,f,rfl,o6,hr,hA,n1,n8,w8,zb hA (yI hA bA),by omega,hRm,hWf,lr,br,hL,h0,λ st1 W B1 lW bW eW=>?_⟩;refine NV rfl (by decide) ?_;refine fB rfl (Ob rfl ?_);refine aM rfl rfl (H0 rfl rfl ?_);refine aM rfl rfl ⟨Ur rfl,?_⟩;have hm:∀q∈[W],q=W:=λ q hq=>VP.mp hq;refine⟨[W],A,1,N,w,rfl,⟨rfl,λ q hq=>by rw[hm q hq];exact lW⟩,hA,n1,by decide,by omega,by omega,λ q hq=>by rw[hm q hq];exact bW,b88,λ st2 X2=>?_⟩;have hr2:=X2.items (nI h0 B1.fr hr);refine eN hr2 ⟨Ur rfl,?_⟩
 have e:Mx.mulM [W] A w=[r]:=by
  unfold Mx.mulM;rw[List.map_singleton];congr 1;refine Mx.rm (Mx.qz (by simp) hA.gc) lr λ j hj=>?_;rw[Mx.rV (n:=w) j (by simp) hA.gc (by rw[lW,hA.len]),Mx.cY,WL,hA.len];exact eW j hj
 rw[e];refine KL (sv (n:=38)) (sv (n:=38) (A:=[r])) ?_;have er:cU (dh [r]) (.tup [.tup (ax r)])=true:=rZ 40 _ (sv (n:=38));rw[er];exact k st2 (B1.ext X2)
abbrev K8:cE:=HP qT
def AF:List Str:=["_law_script","_law_k","_law_left_here","_law_steps","_law_due","_law_made","_law_found","_law_weights","_law_row"]
def QP:DS:=(aA (fj (pj (ae (dC (.int 1)) (ae (ak cQ (dC (.int 2)) (cP fZ (ae (ky (aa 0) (mx (dC (.int 1))) (mx (dC (.int 3)))) aq))) aq))) (bT 1) (aA (aQ 2 (aJ sf (ae (aa 0) (ae (aa 1) aq))))
 (aA (aQ 3 (aJ qL (ae (aa 2) aq)))
 (aA (aQ 4 (aJ qx (ae (aa 3) aq)))
 (aA (gj (cK (ak Eb (aa 4) (dC .aF))) Er e_)
 (aA (aQ 5 (ak aU (aJ yE (ae (aa 3) aq)) (dC (.int 0))))
 (aA (aQ 6 (aJ qx (ae (aa 5) aq)))
 (aA (gj (v_ (cK (ak Eb (aa 6) (dC .aF))) (v_ (cK (ak tf (ak aU (ak aU (aa 6) (dC (.int 0))) (kD gH (dC (.int 1)))) (ak aU (ak aU (aa 4) (dC (.int 0))) (kD gH (dC (.int 1)))))) (cK (ak wV (ak aU (aJ mj (ae (aa 5) aq)) (dC (.int 0))) (ak aU (aJ mj (ae (aa 3) aq)) (dC (.int 0))))))) (bK (dC (.bl false))) e_)
 (aA (aQ 7 (fT (dN (ae (dC (.int 2)) aq)) [none,some 3,some 2] (bT 0) du (fT (g8 (aa 1)) [none,some 2] (bT 0) du (ak dM (aJ dE (ae (aa 1) (ae (dC (.int 7)) aq))) (dC (.int 3))))))
 (fj (g8 (ak cQ (cP nj (ae (ky (aa 3) j6 (mx (dC (.int 2)))) aq)) (cP nj (ae (aJ ue (ae (aa 7) (ae (aa 3) aq))) aq)))) (bT 8) (gj (Am (cK (aJ pM (ae (aa 5) (ae (aa 8) aq))))) (bK (dC (.bl false))) e_)))))))))))
 (bK (dC (.bl true))))
theorem Mz{xs:List D}{a b:Int}:(L3.cutD xs (some a) (some b)).length<=xs.length:=by
 unfold L3.cutD;rw[Vn,Xq];omega
theorem Bk.trans{a b c:ag}(x:Bk a b)(y:Bk b c):Bk a c:=⟨Uj x.le y.le,λ m hm h0=>(y.fr m (UE hm x.le) h0).trans (x.fr m hm h0),y.tb⟩
abbrev Rc(N e0 t:Nat):Prop:=Mx.Ez N e0 (t+1)<60000000/\Mx.Uz N e0 t+Mx.Ez N e0 (t+1)<=120000000/\Mx.Uz N e0 t+Mx.Cz N e0 t<=120000000
theorem O8:∀N,N<9->∀t,t<N->Rc N 48 t:=by decide+kernel
theorem Sq:∀N,N<5->∀t,t<N->Rc N 88 t:=by decide+kernel
theorem LY{A A' U C:List (List Int)}{N w:Nat}(T:Mx.Tn A A' U C N w):Mx.l8 A N A' N w:=by
 refine⟨λ k hk=>⟨λ i=>Mx.g C i k,λ q hq=>?_⟩,λ k hk=>⟨Mx.g U k,λ q hq=>T.ua k q hk hq⟩⟩
 have e:(Mx.S N λ i=>Mx.g C i k*Mx.g A' i q)=Mx.S N λ i=>Mx.S N λ j=>Mx.g C i k*Mx.g U i j*Mx.g A j q:=Mx.ay λ i hi=>by
  rw[T.ua i q hi hq,<-Mx.c7];exact Mx.ay λ j _=>(Vx _ _ _).symm
 rw[e,Mx.jV];have e2:(Mx.S N λ j=>Mx.S N λ i=>Mx.g C i k*Mx.g U i j*Mx.g A j q)=Mx.S N λ j=>Mx.dl k j*Mx.g A j q:=Mx.ay λ j hj=>by rw[Mx.l6,T.bu k j hk hj]
 rw[e2];exact(Mx.i6 hk λ j=>Mx.g A j q).symm
theorem Rq{x:Int}{e:Nat}(h:x*x<=2^(e+e)):x.natAbs<=2^e:=by
 have h2:((x.natAbs*x.natAbs:Nat):Int)=x*x:=XQ;have h3:((2^(e+e):Nat):Int)=2^(e+e):=VC 2 _;rw[<-h2,<-h3]at h;have h4:=W8.mp h;rw[VR]at h4;exact Nat.mul_self_le_mul_self_iff.mp h4
theorem OZ{A:List (List Int)}{N w i c:Nat}(hA:Mx.bh N w A)(hi:i<N)(hc:c<w):Mx.g A i c*Mx.g A i c<=Mx.af A i i:=by
 rw[Mx.ix hA hi hi]
 have go:∀n,n<=w->(c<n->Mx.g A i c*Mx.g A i c<=Mx.S n λ c=>(A.getD i []).getD c 0*(A.getD i []).getD c 0)/\0<=Mx.S n λ c=>(A.getD i []).getD c 0*(A.getD i []).getD c 0:=λ n=>by
  induction n with
  |zero=>exact λ _=>⟨λ z=>absurd z (Vl _),Xi _⟩
  |succ n ih=>
   intro h;obtain⟨h1,h2⟩:=ih (by omega)
   have h3:0<=(A.getD i []).getD n 0*(A.getD i []).getD n 0:=by
    rcases Int.le_total 0 ((A.getD i []).getD n 0)with z|z
    . exact WN z z
    . exact Xg z z
   refine⟨λ hc=>?_,?_⟩
   . rcases WO c n with z|z
     . exact UO (h1 z) (Int.le_add_of_nonneg_right h3)
     . have:c=n:=by omega
       subst this;exact Int.le_add_of_nonneg_left h2
   . exact YR h2 h3
 exact(go w (Ue w)).1 hc
theorem Fs{A A' U C:List (List Int)}{N w:Nat}(dr:Dr A N w)(T:Mx.Tn A A' U C N w)(sm:AX A' U C N)(sh:Mx.Sh (Mx.af A') N):∃e0,e0<=88/\Mx.Rm N w e0/\∀r∈A',∀x∈r,x.natAbs<=2^e0:=by
 have h8:=dr.le;have w8:=dr.w8;have hDn:∀k,k<=N->Mx.D k (Mx.af A')≠0:=λ k hk=>by have:=(sm.D k hk).1;omega
 have key:∀b e E:Nat,(∀r∈A,∀x∈r,x.natAbs<=b)->(8*(8*(b*b)))^N<=2^e->N+2+e<=E+E->∀r∈A',∀x∈r,x.natAbs<=2^E:=λ b e E hb he hE r hr x hx=>by
  have hD:Mx.D N (Mx.af A')<=2^e:=by
   rw[T.same dr.is]
   have:(Mx.D N (Mx.af A)).natAbs<=2^e:=Uj (Mx.vb h8 λ r c hr hc=>by
    have h1:=yr (hb _ (dr.mem hr)) (hb _ (dr.mem hc));have h2:=dr.is.gc _ (dr.mem hr);unfold Mx.af;rw[h2]at h1;exact Uj h1 (Vf _ w8)) he
   have h3:((2^e:Nat):Int)=2^e:=VC 2 _;omega
  obtain⟨i,hi,rfl⟩:=UC.mp hr;obtain⟨c,hc,rfl⟩:=UC.mp hx;have lA:=T.isA.len;have lw:=T.isA.gc _ hr;have g1:=Mx.IY T.isA hDn sh h8 hD (i:=i) (by omega);have g2:=OZ T.isA (i:=i) (c:=c) (by omega) (by omega);have g3:(2:Int)^(N+2+e)<=2^(E+E):=Mx.p2 hE;have g4:(Mx.g A' i c).natAbs<=2^E:=Rq (UO g2 (UO g1 g3));unfold Mx.g at g4;rwa [Mx.aK hi,Mx.aK hc]at g4
 have pw:∀ {x y:Nat},1<=x->N<=y->x^N<=x^y:=λ h1 h2=>UA h1 h2;rcases dr.Ta with⟨n4,h⟩|h
 . refine⟨88,by decide,λ t h1 _=>Sq N (by omega) t h1,?_⟩;rcases h with n2|h
   . exact key 1000000000000 172 88 (λ r hr x hx=>by have:=dr.bd r hr x hx;unfold Sm at this;omega) (Uj (pw (by decide) n2) (by decide)) (by omega)
   . exact key 999 104 88 h (Uj (pw (by decide) n4) (by decide)) (by omega)
 . exact⟨48,by decide,λ t h1 _=>O8 N (by omega) t h1,key 4 80 48 h (Uj (pw (by decide) h8) (by decide)) (by omega)⟩
theorem PZ:T9 K8 1 QP AF:=by
 rintro ds st K ⟨ns,rfl,hl,hst,k⟩;refine⟨rfl,?_⟩;have t0:st[0]?=some (h_ false):=by rw[hst];rfl
 clear hst;refine Gk (fB rfl (c6 ?_));have hc:=Mz (xs:=ns.map D.int) (a:=1) (b:=3);rw[Uk]at hc;generalize(L3.cutD (ns.map D.int) (some 1) (some 3)).length=m at hc⊢;refine yY ⟨by omega,by omega,by omega,by omega⟩ ?_
 have hm:∀d∈dq 1 (2+(m:Int)-1).toNat,∃q:Int,d= .int q/\0<=q/\q<=1000:=λ d hd=>by
  unfold dq at hd;obtain⟨i,hi,rfl⟩:=Vy.mp hd;rw[Vt]at hi;exact⟨_,rfl,by omega,by omega⟩
 generalize dq 1 (2+(m:Int)-1).toNat=rs at hm⊢;refine fG (λ rest σ st'=>(∀d∈rest,∃q:Int,d= .int q/\0<=q/\q<=1000)/\(∃f,st'[0]?=some (h_ f))/\∃v1 v2 v3 v4 v5 v6 v7 v8:Option D,σ=[some (.lst (ns.map .int)),v1,v2,v3,v4,v5,v6,v7,v8]) ?_ ?_ _ _ _ ⟨hm,⟨_,t0⟩,none,none,none,none,none,none,none,none,rfl⟩
 . rintro σ st' ⟨_,_,v1,v2,v3,v4,v5,v6,v7,v8,rfl⟩;exact⟨trivial,k _⟩
 . rintro x rest σ st1 ⟨hr,⟨f1,t1⟩,v1,v2,v3,v4,v5,v6,v7,v8,rfl⟩ next
   obtain⟨q,rfl,q0,q1⟩:=hr x UB;have hr2:∀d∈rest,∃q:Int,d= .int q/\0<=q/\q<=1000:=λ d hd=>hr d (Uu _ hd);refine⟨trivial,_,rfl,?_⟩;refine⟨ns,q,rfl,q0,q1,λ x hx=>?_⟩;have L1:Lf (st1++[.lst [.int x]]) st1.length:=⟨x,by simp,hx⟩
   have l1:=(Ua.mp t1).1;have t2:(st1++[Cell.lst [.int x]])[0]?=some (h_ f1):=by rw[Uh l1];exact t1
   have nz:st1.length≠0:=by omega
   generalize st1.length=n at L1 nz⊢;generalize st1++[Cell.lst [.int x]]=st2 at L1 t2⊢;clear t1 l1;refine⟨n,rfl,L1,λ A N w st3 dr L3 U3=>?_⟩;have t3:=(U3.same 0 (Ui nz)).trans t2;clear t2 L1 U3;have hlA:=dr.is.len;have h8:=dr.le;have w8:=dr.w8;have n1:=dr.n1;refine⟨A,N,w,rfl,dr.st.TF,λ st4 X4 _=>?_,λ st4 g kn cs X4 hD own=>?_⟩
   . refine Cw rfl ?_;exact next _ _ ⟨hr2,⟨f1,(X4.same 0 (Ua.mp t3).1).trans t3⟩,_,_,_,_,_,_,_,_,rfl⟩
   refine Cw rfl ?_;have t4:=(X4.same 0 (Ua.mp t3).1).trans t3
   have L4:Lf st4 n:=by
    obtain⟨x,e,h⟩:=L3.ex;exact⟨x,(X4.same n (Ua.mp e).1).trans e,h⟩
   clear t3 L3 X4;refine⟨_,A,N,w,rfl,o6,dr.st,dr.wd,hD,λ st5 A5 U5 C5 X5 T5 sm5 sh5=>aM rfl rfl ?_⟩;have hDn:∀k,k<=N->Mx.D k (Mx.af A5)≠0:=λ k hk=>by have:=(sm5.D k hk).1;omega
   have hDb:∀k,k<=N->Mx.D k (Mx.af A5)<=2^744:=λ k hk=>by
    obtain⟨p0,p1⟩:=sm5.D k hk;have h3:(((2:Nat)^744:Nat):Int)=(2:Int)^744:=VC 2 744;have h4:(((Mx.D k (Mx.af A5)).natAbs:Nat):Int)=Mx.D k (Mx.af A5):=Int.natAbs_of_nonneg (by omega);rw[<-h3,<-h4];exact W8.mpr p1
   have hdiag:∀i,i<N->Mx.af A5 i i<=((2^748:Nat):Int):=λ i hi=>by
    have h5:=Mx.Dx T5.isA hDn hDb hi λ j hj=>sh5.half i j hj hi;have h6:((i+1:Nat):Int)*2^744<=2^4*2^744:=UU (by omega) (Vq (Mx.oG _));rw[<-Wu]at h6;rw[VC];exact UO h5 h6
   have hSt:Co A5 N w:=⟨T5.isA,by omega,sm5.eA,⟨h8,λ r c hr hc=>Mx.qt (Mx.CF (by rw[Mx.bo T5.isA hr,Mx.bo T5.isA hc])) (Mx.fN T5.isA hr) (Mx.fN T5.isA hc) (hdiag r hr) (hdiag c hc),Mx.jM A5⟩⟩
   obtain⟨e0,he0,hRm,bA5⟩:=Fs dr T5 sm5 sh5;have sam:=LY T5;refine⟨A5,N,w,rfl,hSt,λ st6 X6 z=>?_,λ st6 g' kn' cs' X6 _ own'=>?_⟩
   . obtain⟨kk,h1,h2⟩:=z;exact absurd h2 (hDn kk h1)
   refine Cw rfl ?_;have X46:=X5.trans X6;have eg:st6[g]?=some (Cell.lst (ax ((List.range (N+1)).map λ q=>Mx.D q (Mx.af A)))):=(X46.same g (Ua.mp own.eg).1).trans own.eg;have t6:=(X46.same 0 (Ua.mp t4).1).trans t4
   have L6:Lf st6 n:=by
    obtain⟨x,e,h⟩:=L4.ex;exact⟨x,(X46.same n (Ua.mp e).1).trans e,h⟩
   refine aM rfl rfl (gI (aM (aC own'.eg) (mY (n:=N) (by simp)) (aM rfl rfl (gI (aM (aC eg) (mY (n:=N) (by simp)) (Ob ?_ ?_))))))
   . have ea:∀G:Mx.Fn,((List.range (N+1)).map λ q=>Mx.D q G).getD N 0=Mx.D N G:=λ G=>by
      rw[Mx.aK (by simp),Vv,Vu]
     rw[ea,ea,T5.same dr.is]
   clear eg own own' X46 X6 X5 t4 L4;have bA:∀r∈A,∀x∈r,x.natAbs<=2^40:=λ r hr x hx=>by have:=dr.bd r hr x hx;unfold Sm at this;omega
   refine⟨_,N,w,e0,A5,f1,rfl,o6,T5.isA,n1,h8,by omega,zb T5.isA (yI T5.isA bA5),by omega,hRm,t6,λ st7 top c ld hC H B7=>aM rfl rfl ?_⟩;obtain⟨f7,t7⟩:=B7.tb;refine⟨_,N,w,48,A,f7,rfl,o6,dr.is,n1,h8,by omega,zb dr.is (yI dr.is λ r hr x hx=>Uj (bA r hr x hx) (by decide)),by decide,λ t h1 _=>O8 N (by omega) t h1,t7,λ st8 top' c' ld' hC' H' B8=>aM rfl rfl ?_⟩;have eF:=(AS H h8).one (AS H' h8) sam.symm;rw[eF];refine JR (sv (n:=38)) ?_;have B78:=B7.trans B8
   have L8:Lf st8 n:=by
    obtain⟨x,e,h⟩:=L6.ex;exact⟨x,(B78.fr n (Ua.mp e).1 nz).trans e,h⟩
   obtain⟨f8,t8⟩:=B8.tb;clear H H' hC hC' B7 B8 B78 t7 t6 L6 eF;refine gO ⟨by decide,by decide⟩ ⟨Ur rfl,?_⟩;refine iP (λ rest acc st'=>∃W:List (List Int),acc=W.map bC/\W.length+rest.length=2/\(∀r∈W,r.length=N)/\(∀r∈W,∀x∈r,x.natAbs<=3)/\Lf st' n/\Upd st8 n st') ?_ ?_ _ _ _ ⟨[],rfl,rfl,(λ r hr=>by cases hr),(λ r hr=>by cases hr),L8,Upd.refl⟩;rotate_left 1
   . rintro d rest2 acc st' ⟨W,rfl,lW,hW,bW,L',U'⟩ r_;refine⟨trivial,_,rfl,pk ⟨fb (by rw[Uk];omega),?_⟩⟩;refine iP (λ rest acc st''=>∃ws:List Int,acc=ax ws/\ws.length+rest.length=N/\(∀x∈ws,x.natAbs<=3)/\Lf st'' n/\Upd st8 n st'') ?_ ?_ _ _ _ ⟨[],rfl,(by simp;omega),(λ x hx=>by cases hx),L',U'⟩
     . rintro acc st'' ⟨ws,rfl,lws,bws,L'',U''⟩;refine⟨trivial,?_⟩;show dG _ _ _ _ _ _ _ _ _;rw[show W.map bC++[D.lst (ax ws)]=(W++[ws]).map bC by simp];refine r_ _ _ ⟨W++[ws],rfl,by simp at lW⊢;omega,λ r hr=>?_,λ r hr=>?_,L'',U''⟩
       . rcases UM.mp hr with z|z
         . exact hW r z
         . rw[VP.mp z];simpa using lws
       . rcases UM.mp hr with z|z
         . exact bW r z
         . rw[VP.mp z];exact bws
     . rintro d2 rest3 acc st'' ⟨ws,rfl,lws,bws,L'',U''⟩ next3;refine⟨trivial,_,rfl,⟨n,7,rfl,L'',by decide,by decide,λ y st3 y0 y7 L3 U3=>dm ?_⟩⟩;show dG _ _ _ _ _ _ _ _ _;rw[ints_app];refine next3 _ _ ⟨ws++[y-3],rfl,by simp at lws⊢;omega,λ x hx=>?_,L3,U''.trans U3⟩;rcases UM.mp hx with z|z
       . exact bws x z
       . rw[VP.mp z];omega
   rintro acc st9 ⟨W,rfl,lW,hW,bW,L9,U9⟩;refine⟨trivial,?_⟩;have t9:=(U9.same 0 (Ui nz)).trans t8;have lW:W.length=2:=by simpa using lW
   have isW:Mx.bh 2 N W:=⟨lW,hW⟩
   clear t8 L8 L9 U9;refine zx ?_;rw[show(2:Int)=((2:Nat):Int)from rfl,By,<-Xp];refine pe rfl ⟨_,_,w,W,A,rfl,⟨_,rfl,bL.lst⟩,o6,λ z=>by rw[z]at hlA;simp at hlA;omega,dr.is.gc,by omega,by omega,λ r hr c hc q hq z hz=>j_ (m:=2) (n:=40) (Uj (bW r hr c hc) (by decide)) (bA q hq z hz) (by decide),?_⟩;refine pe rfl (D6 (by rw[Vi,Uk,Vn,Uk,(Mx.DJ isW dr.is).len];omega) ?_);rw[<-Vm]
   have hR:∀r∈A.take 2++Mx.mulM W A w,r.length=w/\(∀x∈r,x.natAbs<=2^5000)/\Mx.dg A5 N w λ c=>r.getD c 0:=λ r hr=>by
    rcases UM.mp hr with z|z
    . have z':=WU z;exact⟨dr.is.gc r z',λ x hx=>Uj (bA r z' x hx) (UA (by decide) (by decide)),Mx.dg.trans sam.to (MK hlA z')⟩
    . have isM:=Mx.DJ isW dr.is;refine⟨isM.gc r z,λ x hx=>?_,?_⟩
      . have:=Px isM (Mx.Ju isW dr.is h8 (yI isW λ r hr x hx=>Uj (bW r hr x hx) (show 3<=2^2 by decide)) (yI dr.is bA)) r z x hx;exact Uj this (UA (by decide) (by decide))
      . obtain⟨i,hi,rfl⟩:=UC.mp z;have hi2:i<2:=by rw[isM.len]at hi;exact hi
        refine Mx.dg.trans sam.to ⟨Mx.g W i,λ c hc=>?_⟩;have:=Mx.D1 isW dr.is hi2 (j:=c);unfold Mx.g at this;rw[Mx.aK hi]at this;exact this
   generalize A.take 2++Mx.mulM W A w=R at hR;refine y_ ?_;refine fG (λ rest σ st'=>∃(j:Nat) (v8:Option D),j<=R.length/\rest=(R.map cN).drop j/\σ=[some (.lst (ns.map .int)),some (.int q),some (.ref n),some (dh A),some (.tup [.ref g,.ref kn]),some (dh A5),some (.tup [.ref g',.ref kn']),some (.lst (W.map bC)),v8]/\∃f,st'[0]?=some (h_ f)) ?_ ?_ _ _ _ ⟨0,v8,UK _,rfl,rfl,⟨_,t9⟩⟩
   . rintro σ st' ⟨j,v8,_,_,rfl,tb⟩;exact⟨trivial,next _ _ ⟨hr2,tb,_,_,_,_,_,_,_,_,rfl⟩⟩
   . rintro d rest2 σ st' ⟨j,v8,hj,hrest,rfl,⟨f',t'⟩⟩ r_;obtain⟨hjR,rfl,rfl⟩:=drop_cons hrest;obtain⟨h1,h2,h3⟩:=hR _ (show R.getD j []∈R by rw[Mx.aK hjR];exact Vp _);refine⟨trivial,_,rfl,⟨_,A5,R.getD j [],N,w,e0,f',rfl,rfl,T5.isA,n1,h8,w8,bA5,he0,hRm,h1,h2,h3,t',λ st2 B2=>?_⟩⟩;exact r_ _ _ ⟨j+1,_,hjR,rfl,rfl,B2.tb⟩
end Prog
namespace Row
open PySem L2 L3 Prog
open PySem.Spec hiding items?
open PyProof.Rows hiding St
theorem rQ:(("abs":Str))≠"__name__":=by decide+kernel
theorem dD:(("tuple":Str))≠"__name__":=by decide+kernel
theorem eR:(("len":Str))≠"__name__":=by decide+kernel
theorem GU:(("sum":Str))≠"__name__":=by decide+kernel
theorem mS:(("list":Str))≠"__name__":=by decide+kernel
theorem Hn:(("max":Str))≠"__name__":=by decide+kernel
theorem Ac:(("isinstance":Str))≠"__name__":=by decide+kernel
structure Bl(mg:Str->Option Value):Prop where
 uS:mg "abs"=none
 eP:mg "tuple"=none
 oQ:mg "zip"=none
 fU:mg "len"=none
 eO:mg "range"=none
 Le:mg "sum"=none
 CU:mg "enumerate"=none
 pV:mg "list"=none
 Jh:mg "sorted"=none
 Kd:mg "max"=none
 CL:mg "isinstance"=none
structure Kl(K:PySem.W.Frag)(mg:Str->Option Value):Prop where
 aS:ClsAt K mg "Bench" aD
 bD:ClsAt K mg "Stairs" aP
 cv:gf K aD "body"
 d9:gf K aD "turn"
 cA:gf K aD "back_columns"
 ka:gf K aP "bench"
 cf:gf K aP "table"
theorem dB:VS (ai mW) sI ["abs"]:=⟨by decide+kernel⟩
theorem lM:aN sI ["one","other"] (ai mW):=⟨rfl,rfl,rfl,by decide+kernel,rfl,by decide+kernel,by decide+kernel⟩
theorem i9:VS (ai rf) yb ["common"]:=⟨by decide+kernel⟩
theorem m5:aN yb ["top","bottom"] (ai rf):=⟨rfl,rfl,rfl,by decide+kernel,rfl,by decide+kernel,by decide+kernel⟩
theorem nE:VS (ai rl) w6 ["part"]:=⟨by decide+kernel⟩
theorem Lp:aN w6 ["one","other"] (ai rl):=⟨rfl,rfl,rfl,by decide+kernel,rfl,by decide+kernel,by decide+kernel⟩
theorem lz:VS (ai pf) vk ["part"]:=⟨by decide+kernel⟩
theorem Jz:aN vk ["one","other"] (ai pf):=⟨rfl,rfl,rfl,by decide+kernel,rfl,by decide+kernel,by decide+kernel⟩
theorem pd:VS (ai ph) uW ["part"]:=⟨by decide+kernel⟩
theorem Jr:aN uW ["one","other"] (ai ph):=⟨rfl,rfl,rfl,by decide+kernel,rfl,by decide+kernel,by decide+kernel⟩
theorem rh:VS (ai rN) yg ["part"]:=⟨by decide+kernel⟩
theorem M8:aN yg ["one","other"] (ai rN):=⟨rfl,rfl,rfl,by decide+kernel,rfl,by decide+kernel,by decide+kernel⟩
theorem Na:VS (ai oY) uV []:=⟨by decide+kernel⟩
theorem J0:aN uV ["n"] (ai oY):=⟨rfl,rfl,rfl,by decide+kernel,rfl,by decide+kernel,by decide+kernel⟩
theorem ux:VS (ai jG) qA ["tuple"]:=⟨by decide+kernel⟩
theorem FA:aN qA ["rows"] (ai jG):=⟨rfl,rfl,rfl,by decide+kernel,rfl,by decide+kernel,by decide+kernel⟩
theorem yW:VS (ai mZ) uX ["zip"]:=⟨by decide+kernel⟩
theorem Ip:aN uX ["row","times","other"] (ai mZ):=⟨rfl,rfl,rfl,by decide+kernel,rfl,by decide+kernel,by decide+kernel⟩
theorem fg:VS (ai mG) sq ["zip","added","tuple"]:=⟨by decide+kernel⟩
theorem ql:aN sq ["weights","rows","wide"] (ai mG):=⟨rfl,rfl,rfl,by decide+kernel,rfl,by decide+kernel,by decide+kernel⟩
theorem jS:VS (ai jT) qB ["len","tuple"]:=⟨by decide+kernel⟩
theorem yc:aN qB ["one","other"] (ai jT):=⟨rfl,rfl,rfl,by decide+kernel,rfl,by decide+kernel,by decide+kernel⟩
theorem wD:VS (ai kZ) sA ["tuple"]:=⟨by decide+kernel⟩
theorem GB:aN sA ["rows","place"] (ai kZ):=⟨rfl,rfl,rfl,by decide+kernel,rfl,by decide+kernel,by decide+kernel⟩
theorem kE:VS (ai f6) kJ ["range","tuple"]:=⟨by decide+kernel⟩
theorem yL:aN kJ ["rows","wide"] (ai f6):=⟨rfl,rfl,rfl,by decide+kernel,rfl,by decide+kernel,by decide+kernel⟩
theorem oE:VS (ai iV) oV ["range","tuple"]:=⟨by decide+kernel⟩
theorem Dg:aN oV ["n","place"] (ai iV):=⟨rfl,rfl,rfl,by decide+kernel,rfl,by decide+kernel,by decide+kernel⟩
theorem ng:VS (ai hV) nr ["range","tuple"]:=⟨by decide+kernel⟩
theorem BF:aN nr ["n"] (ai hV):=⟨rfl,rfl,rfl,by decide+kernel,rfl,by decide+kernel,by decide+kernel⟩
theorem xh:VS (ai si) Aj ["zip","sum"]:=⟨by decide+kernel⟩
theorem PN:aN Aj ["one","other"] (ai si):=⟨rfl,rfl,rfl,by decide+kernel,rfl,by decide+kernel,by decide+kernel⟩
theorem dW:VS (ai lE) qy ["zip"]:=⟨by decide+kernel⟩
theorem mf:aN qy ["together","table","one","other"] (ai lE):=⟨rfl,rfl,rfl,by decide+kernel,rfl,by decide+kernel,by decide+kernel⟩
theorem cm:VS (ai ly) qi ["zip","dot","cleared"]:=⟨by decide+kernel⟩
theorem sG:aN qi ["table","steps","row"] (ai ly):=⟨rfl,rfl,rfl,by decide+kernel,rfl,by decide+kernel,by decide+kernel⟩
theorem eh:VS (ai kg) oR ["line_of"]:=⟨by decide+kernel⟩
theorem nu:aN oR ["steps"] (ai kg):=⟨rfl,rfl,rfl,by decide+kernel,rfl,by decide+kernel,by decide+kernel⟩
theorem qF:VS (ai lB) qw ["enumerate"]:=⟨by decide+kernel⟩
theorem xn:aN qw ["row"] (ai lB):=⟨rfl,rfl,rfl,by decide+kernel,rfl,by decide+kernel,by decide+kernel⟩
theorem jI:VS (ai eV) g7 []:=⟨by decide+kernel⟩
theorem jq:aN g7 ["top","bottom"] (ai eV):=⟨rfl,rfl,rfl,by decide+kernel,rfl,by decide+kernel,by decide+kernel⟩
theorem c9:VS (ai jd) m9 ["list"]:=⟨by decide+kernel⟩
theorem uH:aN m9 ["rows","k","other"] (ai jd):=⟨rfl,rfl,rfl,by decide+kernel,rfl,by decide+kernel,by decide+kernel⟩
theorem HX:VS (ai jD) qd []:=⟨by decide+kernel⟩
theorem Fl:aN qd ["row"] (ai jD):=⟨rfl,rfl,rfl,by decide+kernel,rfl,by decide+kernel,by decide+kernel⟩
theorem bZ:VS (ai cW) iR ["len","unit_rows"]:=⟨by decide+kernel⟩
theorem vB:aN iR ["self","rows"] (ai cW):=⟨rfl,rfl,rfl,by decide+kernel,rfl,by decide+kernel,by decide+kernel⟩
theorem bb:VS (ai iA) mi ["added"]:=⟨by decide+kernel⟩
theorem zZ:aN mi ["self","k","times","other"] (ai iA):=⟨rfl,rfl,rfl,by decide+kernel,rfl,by decide+kernel,by decide+kernel⟩
theorem bz:VS (ai fI) iL ["exchanged"]:=⟨by decide+kernel⟩
theorem vz:aN iL ["self","k","other"] (ai fI):=⟨rfl,rfl,rfl,by decide+kernel,rfl,by decide+kernel,by decide+kernel⟩
theorem aZ:VS (ai dZ) gL ["negated"]:=⟨by decide+kernel⟩
theorem se:aN gL ["self","k"] (ai dZ):=⟨rfl,rfl,rfl,by decide+kernel,rfl,by decide+kernel,by decide+kernel⟩
theorem df:VS (ai de) ij ["len","range","sorted"]:=⟨by decide+kernel⟩
theorem nQ:aN ij ["self","top","place"] (ai de):=⟨rfl,rfl,rfl,by decide+kernel,rfl,by decide+kernel,by decide+kernel⟩
theorem aE:VS (ai gu) ki ["len","nearest_quotient"]:=⟨by decide+kernel⟩
theorem gY:aN ki ["self","top","place"] (ai gu):=⟨rfl,rfl,rfl,by decide+kernel,rfl,by decide+kernel,by decide+kernel⟩
theorem cq:VS (ai d6) gN ["range"]:=⟨by decide+kernel⟩
theorem gn:aN gN ["self","top","place"] (ai d6):=⟨rfl,rfl,rfl,by decide+kernel,rfl,by decide+kernel,by decide+kernel⟩
theorem bg:VS (ai j0) oU ["Bench","len","range","turned_over","as_rows"]:=⟨by decide+kernel⟩
theorem jb:aN oU ["rows"] (ai j0):=⟨rfl,rfl,rfl,by decide+kernel,rfl,by decide+kernel,by decide+kernel⟩
theorem bH:VS (ai lT) qu ["list","lead_of","added","tuple"]:=⟨by decide+kernel⟩
theorem iY:aN qu ["form","row"] (ai lT):=⟨rfl,rfl,rfl,by decide+kernel,rfl,by decide+kernel,by decide+kernel⟩
theorem dc:VS (ai fk) ip ["Bench","table_of"]:=⟨by decide+kernel⟩
theorem uy:aN ip ["self","steps"] (ai fk):=⟨rfl,rfl,rfl,by decide+kernel,rfl,by decide+kernel,by decide+kernel⟩
theorem iO:VS (ai fD) iU []:=⟨by decide+kernel⟩
theorem vx:aN iU ["self","k"] (ai fD):=⟨rfl,rfl,rfl,by decide+kernel,rfl,by decide+kernel,by decide+kernel⟩
theorem a6:VS (ai fS) jy ["nearest_quotient","range"]:=⟨by decide+kernel⟩
theorem kU:aN jy ["self","k","j"] (ai fS):=⟨rfl,rfl,rfl,by decide+kernel,rfl,by decide+kernel,by decide+kernel⟩
theorem bG:VS (ai fu) iu []:=⟨by decide+kernel⟩
theorem jA:aN iu ["self","k"] (ai fu):=⟨rfl,rfl,rfl,by decide+kernel,rfl,by decide+kernel,by decide+kernel⟩
theorem au:VS (ai gQ) kL ["len","range"]:=⟨by decide+kernel⟩
theorem c8:aN kL ["self","k"] (ai gQ):=⟨rfl,rfl,rfl,by decide+kernel,rfl,by decide+kernel,by decide+kernel⟩
theorem aX:VS (ai fH) iN ["len","max","range"]:=⟨by decide+kernel⟩
theorem f_:aN iN ["self"] (ai fH):=⟨rfl,rfl,rfl,by decide+kernel,rfl,by decide+kernel,by decide+kernel⟩
theorem dF:VS (ai pA) uU ["Stairs","len","turned_over","as_rows"]:=⟨by decide+kernel⟩
theorem wc:aN uU ["steps"] (ai pA):=⟨rfl,rfl,rfl,by decide+kernel,rfl,by decide+kernel,by decide+kernel⟩
theorem cL:VS (ai jf) m_ ["whole","zip","times","plus"]:=⟨by decide+kernel⟩
theorem mm:aN m_ ["parts","row"] (ai jf):=⟨rfl,rfl,rfl,by decide+kernel,rfl,by decide+kernel,by decide+kernel⟩
theorem d8:VS (ai jh) nv ["lead_of","abs"]:=⟨by decide+kernel⟩
theorem tV:aN nv ["form","rest","place"] (ai jh):=⟨rfl,rfl,rfl,by decide+kernel,rfl,by decide+kernel,by decide+kernel⟩
theorem aw:VS (ai fR) jw ["lead_of","whole","len","bottom_at","part","range","parts_dot","minus","over","tuple"]:=⟨by decide+kernel⟩
theorem fF:aN jw ["form","rest"] (ai fR):=⟨rfl,rfl,rfl,by decide+kernel,rfl,by decide+kernel,by decide+kernel⟩
theorem cn:VS (ai mR) sP ["standing","weighed","lead_of","parts_against","len","sum_by"]:=⟨by decide+kernel⟩
theorem qG:aN sP ["rows","row"] (ai mR):=⟨rfl,rfl,rfl,by decide+kernel,rfl,by decide+kernel,by decide+kernel⟩
theorem mF:VS (ai mO) sH ["len"]:=⟨by decide+kernel⟩
theorem FN:aN sH ["_law_script","_law_k"] (ai mO):=⟨rfl,rfl,rfl,by decide+kernel,rfl,by decide+kernel,by decide+kernel⟩
theorem bR:VS (ai j5) oS ["_law_at","abs","range"]:=⟨by decide+kernel⟩
theorem hZ:aN oS ["_law_script","_law_k"] (ai j5):=⟨rfl,rfl,rfl,by decide+kernel,rfl,by decide+kernel,by decide+kernel⟩
theorem hO:VS (ai jc) ny []:=⟨by decide+kernel⟩
theorem tP:aN ny ["_law_left_here","_law_many"] (ai jc):=⟨rfl,rfl,rfl,by decide+kernel,rfl,by decide+kernel,by decide+kernel⟩
theorem cu:VS (ai iB) my ["_law_digit"]:=⟨by decide+kernel⟩
theorem tu:aN my ["_law_left_here","_law_kind"] (ai iB):=⟨rfl,rfl,rfl,by decide+kernel,rfl,by decide+kernel,by decide+kernel⟩
theorem oA:VS (ai iW) oN ["range","tuple"]:=⟨by decide+kernel⟩
theorem C0:aN oN ["_law_left_here","_law_many","_law_wide","_law_kind"] (ai iW):=⟨rfl,rfl,rfl,by decide+kernel,rfl,by decide+kernel,by decide+kernel⟩
theorem a_:VS (ai gq) ni ["_law_digit","max","_law_rows"]:=⟨by decide+kernel⟩
theorem gG:aN ni ["_law_left_here"] (ai gq):=⟨rfl,rfl,rfl,by decide+kernel,rfl,by decide+kernel,by decide+kernel⟩
theorem nO:VS (ai jC) qg ["zip","sum"]:=⟨by decide+kernel⟩
theorem FG:aN qg ["_law_one","_law_other"] (ai jC):=⟨rfl,rfl,rfl,by decide+kernel,rfl,by decide+kernel,by decide+kernel⟩
theorem aW:VS (ai lp) qv ["len","range","_law_dot"]:=⟨by decide+kernel⟩
theorem fi:aN qv ["_law_steps"] (ai lp):=⟨rfl,rfl,rfl,by decide+kernel,rfl,by decide+kernel,by decide+kernel⟩
theorem bE:VS (ai fY) kI ["len","zip","tuple"]:=⟨by decide+kernel⟩
theorem gv:aN kI ["_law_one","_law_other"] (ai fY):=⟨rfl,rfl,rfl,by decide+kernel,rfl,by decide+kernel,by decide+kernel⟩
theorem bJ:VS (ai iF) mB ["inside","tuple","isinstance","len","_law_product"]:=⟨by decide+kernel⟩
theorem s_:aN mB ["_law_made","_law_row"] (ai iF):=⟨rfl,rfl,rfl,by decide+kernel,rfl,by decide+kernel,by decide+kernel⟩
theorem bN:VS (ai oF) AF ["len","range","_law_left","_law_drawn","_law_own","short","standing","list","product","_law_inside"]:=⟨by decide+kernel⟩
theorem l_:aN AF ["_law_script"] (ai oF):=⟨rfl,rfl,rfl,by decide+kernel,rfl,by decide+kernel,by decide+kernel⟩
structure Ev(w:World)(mg:Str->Option Value)(h:Heap):Prop where
 X:(KX w.params).In h
 G:h.Ns mainGlobals mg
section
variable {w:World}{mg:Str->Option Value}{h base:Heap}(e:Ev w mg h)
include e
theorem Bt:Bl mg:=⟨Vk e.X e.G (by kernel_rfl),Vk e.X e.G (by kernel_rfl),Vk e.X e.G (by kernel_rfl),Vk e.X e.G (by kernel_rfl),Vk e.X e.G (by kernel_rfl),Vk e.X e.G (by kernel_rfl),Vk e.X e.G (by kernel_rfl),Vk e.X e.G (by kernel_rfl),Vk e.X e.G (by kernel_rfl),Vk e.X e.G (by kernel_rfl),Vk e.X e.G (by kernel_rfl)⟩
theorem Qt:Kl (KX w.params) mg:=⟨⟨⟨by kernel_rfl,by kernel_rfl,by kernel_rfl,by kernel_rfl⟩,Y1 e.X e.G (by kernel_rfl),by kernel_rfl,by kernel_rfl⟩,⟨⟨by kernel_rfl,by kernel_rfl,by kernel_rfl,by kernel_rfl⟩,Y1 e.X e.G (by kernel_rfl),by kernel_rfl,by kernel_rfl⟩,Hd.na (by kernel_rfl),Hd.na (by kernel_rfl),Hd.na (by kernel_rfl),Hd.na (by kernel_rfl),Hd.na (by kernel_rfl)⟩
theorem Cd:bV (KX w.params) mg "common" "common" mW ["one","other"] 46 (Hd.fd mW "common" "common" kr 45):=Hd.jB e.X e.G (by kernel_rfl) λ _ _ _ _ _ _ _ _=>rfl
theorem IG:bj PW w (KX w.params) mg base cF 1 46 (Hd.fd mW "common" "common" kr 45) ["one","other"] (cH wH):=by
 have B:=Bt e;have Q:=Qt e
 exact bI (N:=sI) (Cd e).fn lM (λ cdv A outer s H E hr=>(ao (aH lM.nd (dB.l 2) (eH u5 (ab (dB.nm 0) aj) B.uS rfl rQ (dB.d 0) (dB.g 0)))
  (ao (aH lM.nd (dB.l 3) (eH u5 (ab (dB.nm 1) aj) B.uS rfl rQ (dB.d 0) (dB.g 0)))
  (ao (wL (cR Bh (cJ _) (dB.nm 3) av) (ao (aH lM.nd (dB.l 4) (aG oP (dB.nm 2) (dB.nm 3)))
  (ao (aH lM.nd (dB.l 2) (dB.nm 3))
  (az (aH lM.nd (dB.l 3) (dB.nm 4))))))
  (az (a9 (dB.nm 2))))))) FQ
theorem rM:bV (KX w.params) mg "part" "part" rf ["top","bottom"] 53 (Hd.fd rf "part" "part" kr 52):=Hd.jB e.X e.G (by kernel_rfl) λ _ _ _ _ _ _ _ _=>rfl
theorem tX:bj PW w (KX w.params) mg base cF 2 53 (Hd.fd rf "part" "part" kr 52) ["top","bottom"] (cH pL):=by
 have B:=Bt e;have Q:=Qt e
 exact bI (N:=yb) (rM e).fn m5 (λ cdv A outer s H E hr=>(ao (aH m5.nd (i9.l 2) (bf (Cd e) (IG e) (hr.mono (by decide)) (ab (i9.nm 0) (ab (i9.nm 1) aj)) (i9.d 0) (i9.g 0)))
  (ao (fy (cR yJ (cJ _) (i9.nm 1) av) (az (aH m5.nd (i9.l 2) (gM (i9.nm 2)))) d_)
  (az (a9 (oX (ab (aG (u9 hr rfl m5.gen m5.co) (i9.nm 0) (i9.nm 2)) (ab (aG (u9 hr rfl m5.gen m5.co) (i9.nm 1) (i9.nm 2)) aj)))))))) Mf
theorem Hr:bV (KX w.params) mg "plus" "plus" rl ["one","other"] 60 (Hd.fd rl "plus" "plus" kr 59):=Hd.jB e.X e.G (by kernel_rfl) λ _ _ _ _ _ _ _ _=>rfl
theorem P0:bj PW w (KX w.params) mg base cF 3 60 (Hd.fd rl "plus" "plus" kr 59) ["one","other"] (cH A9):=by
 have B:=Bt e;have Q:=Qt e;exact bI (N:=w6) (Hr e).fn Lp (λ cdv A outer s H E hr=>(az (a9 (bf (rM e) (tX e) (hr.mono (by decide)) (ab (aG dv (aG cD (aL (nE.nm 0) av) (aL (nE.nm 1) av)) (aG cD (aL (nE.nm 1) av) (aL (nE.nm 0) av))) (ab (aG cD (aL (nE.nm 0) av) (aL (nE.nm 1) av)) aj)) (nE.d 0) (nE.g 0))))) Lv
theorem Ds:bV (KX w.params) mg "minus" "minus" pf ["one","other"] 67 (Hd.fd pf "minus" "minus" kr 66):=Hd.jB e.X e.G (by kernel_rfl) λ _ _ _ _ _ _ _ _=>rfl
theorem MF:bj PW w (KX w.params) mg base cF 3 67 (Hd.fd pf "minus" "minus" kr 66) ["one","other"] (cH yG):=by
 have B:=Bt e;have Q:=Qt e;exact bI (N:=vk) (Ds e).fn Jz (λ cdv A outer s H E hr=>(az (a9 (bf (rM e) (tX e) (hr.mono (by decide)) (ab (aG dU (aG cD (aL (lz.nm 0) av) (aL (lz.nm 1) av)) (aG cD (aL (lz.nm 1) av) (aL (lz.nm 0) av))) (ab (aG cD (aL (lz.nm 0) av) (aL (lz.nm 1) av)) aj)) (lz.d 0) (lz.g 0))))) Ig
theorem DB:bV (KX w.params) mg "times" "times" ph ["one","other"] 74 (Hd.fd ph "times" "times" kr 73):=Hd.jB e.X e.G (by kernel_rfl) λ _ _ _ _ _ _ _ _=>rfl
theorem Md:bj PW w (KX w.params) mg base cF 3 74 (Hd.fd ph "times" "times" kr 73) ["one","other"] (cH yl):=by
 have B:=Bt e;have Q:=Qt e;exact bI (N:=uW) (DB e).fn Jr (λ cdv A outer s H E hr=>(az (a9 (bf (rM e) (tX e) (hr.mono (by decide)) (ab (aG cD (aL (pd.nm 0) av) (aL (pd.nm 1) av)) (ab (aG cD (aL (pd.nm 0) av) (aL (pd.nm 1) av)) aj)) (pd.d 0) (pd.g 0))))) Ii
theorem GR:bV (KX w.params) mg "over" "over" rN ["one","other"] 81 (Hd.fd rN "over" "over" kr 80):=Hd.jB e.X e.G (by kernel_rfl) λ _ _ _ _ _ _ _ _=>rfl
theorem NN:bj PW w (KX w.params) mg base cF 3 81 (Hd.fd rN "over" "over" kr 80) ["one","other"] (cH BS):=by
 have B:=Bt e;have Q:=Qt e;exact bI (N:=yg) (GR e).fn M8 (λ cdv A outer s H E hr=>(az (a9 (bf (rM e) (tX e) (hr.mono (by decide)) (ab (aG cD (aL (rh.nm 0) av) (aL (rh.nm 1) av)) (ab (aG cD (aL (rh.nm 0) av) (aL (rh.nm 1) av)) aj)) (rh.d 0) (rh.g 0))))) Mj
theorem o5:bV (KX w.params) mg "whole" "whole" oY ["n"] 88 (Hd.fd oY "whole" "whole" kr 87):=Hd.uP e.X e.G (by kernel_rfl) λ _ _ _ _ _ _ _=>rfl
theorem rK:bj PW w (KX w.params) mg base cF 1 88 (Hd.fd oY "whole" "whole" kr 87) ["n"] (cH mQ):=by
 have B:=Bt e;have Q:=Qt e;exact bI (N:=uV) (o5 e).fn J0 (λ cdv A outer s H E hr=>(az (a9 (oX (ab (Na.nm 0) (ab av aj)))))) Jj
theorem nL:bV (KX w.params) mg "as_rows" "as_rows" jG ["rows"] 93 (Hd.fd jG "as_rows" "as_rows" iw 92):=Hd.uP e.X e.G (by kernel_rfl) λ _ _ _ _ _ _ _=>rfl
theorem qr:bj PW w (KX w.params) mg base cF 1 93 (Hd.fd jG "as_rows" "as_rows" iw 92) ["rows"] (cH lq):=by
 have B:=Bt e;have Q:=Qt e;exact bI (N:=qA) (nL e).fn FA (λ cdv A outer s H E hr=>(az (a9 (gE fm (ab (iE (Nc:=["row"]) (cz.look (ai jG) ["rows"] (by decide+kernel)) (jt (ux.nm 0)) (λ _ _ _ _=>(eJ (show(["row"]:List Str).Nodup by decide+kernel))) (λ _ _ _ _=>d4) (λ _ _ _ _=>(gE fm (ab fv aj) B.eP rfl dD (by decide+kernel) rfl)) eK) aj) B.eP rfl dD (ux.d 0) (ux.g 0))))) El
theorem o_:bV (KX w.params) mg "added" "added" mZ ["row","times","other"] 98 (Hd.fd mZ "added" "added" iw 97):=Hd.GI e.X e.G (by kernel_rfl) λ _ _ _ _ _ _ _ _ _=>rfl
theorem rL:bj PW w (KX w.params) mg base cF 1 98 (Hd.fd mZ "added" "added" iw 97) ["row","times","other"] (cH mI):=by
 have B:=Bt e;have Q:=Qt e;exact bI (N:=uX) (o_ e).fn Ip (λ cdv A outer s H E hr=>(az (a9 (iE (Nc:=["one","two","times"]) (cz.look (ai mZ) ["row","times","other"] (by decide+kernel)) (qH (yW.g 0) B.oQ (ab (yW.nm 0) (ab (yW.nm 2) aj))) (λ _ _ _ _=>(oC rfl (show(["one","two","times"]:List Str).Nodup by decide+kernel))) (λ _ _ _ _=>d4) (λ _ _ _ _=>(aG dv fv (aG cD fv fv))) vd)))) Iq
theorem wj:bV (KX w.params) mg "sum_by" "sum_by" mG ["weights","rows","wide"] 105 (Hd.fd mG "sum_by" "sum_by" iw 104):=Hd.GI e.X e.G (by kernel_rfl) λ _ _ _ _ _ _ _ _ _=>rfl
theorem Cc:bj PW w (KX w.params) mg base cF 2 105 (Hd.fd mG "sum_by" "sum_by" iw 104) ["weights","rows","wide"] (cH sL):=by
 have B:=Bt e;have Q:=Qt e
 exact bI (N:=sq) (wj e).fn ql (λ cdv A outer s H E hr=>(ao (aH ql.nd (fg.l 3) (aG cD (m7 (ab av aj)) (fg.nm 2)))
  (ao (dR (qH (fg.g 0) B.oQ (ab (fg.nm 0) (ab (fg.nm 1) aj))) (oC rfl ql.nd) (az (aH ql.nd (fg.l 3) (bf (o_ e) (rL e) (hr.mono (by decide)) (ab (fg.nm 3) (ab (fg.nm 4) (ab (fg.nm 5) aj))) (fg.d 1) (fg.g 1)))))
  (az (a9 (gE fm (ab (fg.nm 3) aj) B.eP rfl dD (fg.d 2) (fg.g 2))))))) GH
theorem zA:bV (KX w.params) mg "product" "product" jT ["one","other"] 110 (Hd.fd jT "product" "product" iw 109):=Hd.jB e.X e.G (by kernel_rfl) λ _ _ _ _ _ _ _ _=>rfl
theorem FL:bj PW w (KX w.params) mg base cF 3 110 (Hd.fd jT "product" "product" iw 109) ["one","other"] (cH ue):=by
 have B:=Bt e;have Q:=Qt e
 exact bI (N:=qB) (zA e).fn yc (λ cdv A outer s H E hr=>(ao (aH yc.nd (jS.l 2) (eH fV (ab (aL (jS.nm 1) av) aj) B.fU rfl eR (jS.d 0) (jS.g 0)))
  (az (a9 (gE fm (ab (iE (Nc:=["weights","other","wide"]) (cz.look (ai jT) ["one","other","wide"] (by decide+kernel)) (jt (jS.nm 0)) (λ _ _ _ _=>(eJ (show(["weights","other","wide"]:List Str).Nodup by decide+kernel))) (λ _ _ _ _=>d4) (λ _ _ _ _=>(bf (wj e) (Cc e) (hr.mono (by decide)) (ab fv (ab fv (ab fv aj))) (by decide+kernel) rfl)) eK) aj) B.eP rfl dD (jS.d 1) (jS.g 1)))))) Es
theorem CI:bV (KX w.params) mg "column" "column" kZ ["rows","place"] 115 (Hd.fd kZ "column" "column" iw 114):=Hd.jB e.X e.G (by kernel_rfl) λ _ _ _ _ _ _ _ _=>rfl
theorem Iz:bj PW w (KX w.params) mg base cF 1 115 (Hd.fd kZ "column" "column" iw 114) ["rows","place"] (cH vY):=by
 have B:=Bt e;have Q:=Qt e;exact bI (N:=sA) (CI e).fn GB (λ cdv A outer s H E hr=>(az (a9 (gE fm (ab (iE (Nc:=["row","place"]) (cz.look (ai kZ) ["rows","place"] (by decide+kernel)) (jt (wD.nm 0)) (λ _ _ _ _=>(eJ (show(["row","place"]:List Str).Nodup by decide+kernel))) (λ _ _ _ _=>d4) (λ _ _ _ _=>(aL fv fv)) eK) aj) B.eP rfl dD (wD.d 0) (wD.g 0))))) Gf
theorem oj:bV (KX w.params) mg "turned_over" "turned_over" f6 ["rows","wide"] 120 (Hd.fd f6 "turned_over" "turned_over" iw 119):=Hd.jB e.X e.G (by kernel_rfl) λ _ _ _ _ _ _ _ _=>rfl
theorem sW:bj PW w (KX w.params) mg base cF 2 120 (Hd.fd f6 "turned_over" "turned_over" iw 119) ["rows","wide"] (cH kR):=by
 have B:=Bt e;have Q:=Qt e;exact bI (N:=kJ) (oj e).fn yL (λ cdv A outer s H E hr=>(az (a9 (gE fm (ab (iE (Nc:=["place","rows"]) (cz.look (ai f6) ["rows","wide"] (by decide+kernel)) (fW (kE.g 0) B.eO (ab (kE.nm 1) aj)) (λ _ _ _ _=>(eJ (show(["place","rows"]:List Str).Nodup by decide+kernel))) (λ _ _ _ _=>d4) (λ _ _ _ _=>(bf (CI e) (Iz e) (hr.mono (by decide)) (ab fv (ab fv aj)) (by decide+kernel) rfl)) eK) aj) B.eP rfl dD (kE.d 1) (kE.g 1))))) yq
theorem ye:bV (KX w.params) mg "unit_row" "unit_row" iV ["n","place"] 125 (Hd.fd iV "unit_row" "unit_row" iw 124):=Hd.jB e.X e.G (by kernel_rfl) λ _ _ _ _ _ _ _ _=>rfl
theorem E4:bj PW w (KX w.params) mg base cF 1 125 (Hd.fd iV "unit_row" "unit_row" iw 124) ["n","place"] (cH sj):=by
 have B:=Bt e;have Q:=Qt e;exact bI (N:=oV) (ye e).fn Dg (λ cdv A outer s H E hr=>(az (a9 (gE fm (ab (iE (Nc:=["k","place"]) (cz.look (ai iV) ["n","place"] (by decide+kernel)) (fW (oE.g 0) B.eO (ab (oE.nm 0) aj)) (λ _ _ _ _=>(eJ (show(["k","place"]:List Str).Nodup by decide+kernel))) (λ _ _ _ _=>d4) (λ _ _ _ _=>(Kq (cR (oh hr) (cJ _) fv fv) av av)) eK) aj) B.eP rfl dD (oE.d 1) (oE.g 1))))) CP
theorem qK:bV (KX w.params) mg "unit_rows" "unit_rows" hV ["n"] 130 (Hd.fd hV "unit_rows" "unit_rows" iw 129):=Hd.uP e.X e.G (by kernel_rfl) λ _ _ _ _ _ _ _=>rfl
theorem vT:bj PW w (KX w.params) mg base cF 2 130 (Hd.fd hV "unit_rows" "unit_rows" iw 129) ["n"] (cH nA):=by
 have B:=Bt e;have Q:=Qt e;exact bI (N:=nr) (qK e).fn BF (λ cdv A outer s H E hr=>(az (a9 (gE fm (ab (iE (Nc:=["place","n"]) (cz.look (ai hV) ["n"] (by decide+kernel)) (fW (ng.g 0) B.eO (ab (ng.nm 0) aj)) (λ _ _ _ _=>(eJ (show(["place","n"]:List Str).Nodup by decide+kernel))) (λ _ _ _ _=>d4) (λ _ _ _ _=>(bf (ye e) (E4 e) (hr.mono (by decide)) (ab fv (ab fv aj)) (by decide+kernel) rfl)) eK) aj) B.eP rfl dD (ng.d 1) (ng.g 1))))) AV
theorem Fw:bV (KX w.params) mg "dot" "dot" si ["one","other"] 135 (Hd.fd si "dot" "dot" iw 134):=Hd.jB e.X e.G (by kernel_rfl) λ _ _ _ _ _ _ _ _=>rfl
theorem K0:bj PW w (KX w.params) mg base cF 1 135 (Hd.fd si "dot" "dot" iw 134) ["one","other"] (cH yd):=by
 have B:=Bt e;have Q:=Qt e;exact bI (N:=Aj) (Fw e).fn PN (λ cdv A outer s H E hr=>(az (a9 (eH (Lh rfl) (ab (iE (Nc:=["left","right"]) (cz.look (ai si) ["one","other"] (by decide+kernel)) (qH (xh.g 0) B.oQ (ab (xh.nm 0) (ab (xh.nm 1) aj))) (λ _ _ _ _=>(oC rfl (show(["left","right"]:List Str).Nodup by decide+kernel))) (λ _ _ _ _=>d4) (λ _ _ _ _=>(aG cD fv fv)) vd) aj) B.Le rfl GU (xh.d 1) (xh.g 1))))) FW
theorem tU:bV (KX w.params) mg "cleared" "cleared" lE ["together","table","one","other"] 142 (Hd.fd lE "cleared" "cleared" yf 141):=Hd.RX e.X e.G (by kernel_rfl) λ _ _ _ _ _ _ _ _ _ _=>rfl
theorem zt:bj PW w (KX w.params) mg base cF 1 142 (Hd.fd lE "cleared" "cleared" yf 141) ["together","table","one","other"] (cH qI):=by
 have B:=Bt e;have Q:=Qt e
 exact bI (N:=qy) (tU e).fn mf (λ cdv A outer s H E hr=>(ao (aH mf.nd (dW.l 4) av)
  (ao (dR (Ph (dW.g 0) B.oQ (ab (dW.nm 1) (ab (dW.nm 2) (ab (dW.nm 3) aj)))) (QD rfl mf.nd) (ao (aH mf.nd (dW.l 0) (aG pQ (aG dU (aG cD (aL (dW.nm 5) (gM av)) (dW.nm 0)) (aG cD (dW.nm 6) (dW.nm 7))) (dW.nm 4)))
  (az (aH mf.nd (dW.l 4) (aL (dW.nm 5) (gM av))))))
  (az (a9 (dW.nm 0)))))) E3
theorem zE:bV (KX w.params) mg "line_of" "line_of" ly ["table","steps","row"] 149 (Hd.fd ly "line_of" "line_of" yf 148):=Hd.GI e.X e.G (by kernel_rfl) λ _ _ _ _ _ _ _ _ _=>rfl
theorem F6:bj PW w (KX w.params) mg base cF 2 149 (Hd.fd ly "line_of" "line_of" yf 148) ["table","steps","row"] (cH uO):=by
 have B:=Bt e;have Q:=Qt e
 exact bI (N:=qi) (zE e).fn sG (λ cdv A outer s H E hr=>(ao (aH sG.nd (cm.l 3) (oM aj))
  (ao (dR (qH (cm.g 0) B.oQ (ab (cm.nm 0) (ab (cm.nm 1) aj))) (oC rfl sG.nd) (az (dH (iJ (cm.nm 3) (bf (tU e) (zt e) (hr.mono (by decide)) (ab (bf (Fw e) (K0 e) (hr.mono (by decide)) (ab (cm.nm 2) (ab (cm.nm 5) aj)) (cm.d 1) (cm.g 1)) (ab (cm.nm 0) (ab (cm.nm 3) (ab (cm.nm 4) aj)))) (cm.d 2) (cm.g 2))))))
  (ao (dH (iJ (cm.nm 3) (bf (tU e) (zt e) (hr.mono (by decide)) (ab (bf (Fw e) (K0 e) (hr.mono (by decide)) (ab (cm.nm 2) (ab (cm.nm 2) aj)) (cm.d 1) (cm.g 1)) (ab (cm.nm 0) (ab (cm.nm 3) (ab (cm.nm 3) aj)))) (cm.d 2) (cm.g 2))))
  (az (a9 (cm.nm 3))))))) Eo
theorem xB:bV (KX w.params) mg "table_of" "table_of" kg ["steps"] 156 (Hd.fd kg "table_of" "table_of" yf 155):=Hd.uP e.X e.G (by kernel_rfl) λ _ _ _ _ _ _ _=>rfl
theorem FE:bj PW w (KX w.params) mg base cF 3 156 (Hd.fd kg "table_of" "table_of" yf 155) ["steps"] (cH sR):=by
 have B:=Bt e;have Q:=Qt e
 exact bI (N:=oR) (xB e).fn nu (λ cdv A outer s H E hr=>(ao (aH nu.nd (eh.l 1) (oM aj))
  (ao (dR (jt (eh.nm 0)) (eJ nu.nd) (ao (aH nu.nd (eh.l 3) (bf (zE e) (F6 e) (hr.mono (by decide)) (ab (eh.nm 1) (ab (eh.nm 0) (ab (eh.nm 2) aj))) (eh.d 0) (eh.g 0)))
  (ao (fy (cR (oh hr) (cJ _) (aL (eh.nm 3) (gM av)) av) (az IP) d_)
  (az (dH (iJ (eh.nm 1) (eh.nm 3)))))))
  (az (a9 (eh.nm 1)))))) C9
theorem lV:bV (KX w.params) mg "lead_of" "lead_of" lB ["row"] 163 (Hd.fd lB "lead_of" "lead_of" e7 162):=Hd.uP e.X e.G (by kernel_rfl) λ _ _ _ _ _ _ _=>rfl
theorem nM:bj PW w (KX w.params) mg base cF 1 163 (Hd.fd lB "lead_of" "lead_of" e7 162) ["row"] (cH jR):=by
 have B:=Bt e;have Q:=Qt e
 exact bI (N:=qw) (lV e).fn xn (λ cdv A outer s H E hr=>(ao (dR (P9 (qF.g 0) B.CU (ab (qF.nm 0) aj)) (oC rfl xn.nd) (az (fy (cR Bh (cJ _) (qF.nm 2) av) (az (a9 (qF.nm 1))) d_)))
  (az (a9 xQ)))) E8
theorem jJ:bV (KX w.params) mg "nearest_quotient" "nearest_quotient" eV ["top","bottom"] 170 (Hd.fd eV "nearest_quotient" "nearest_quotient" e7 169):=Hd.jB e.X e.G (by kernel_rfl) λ _ _ _ _ _ _ _ _=>rfl
theorem nN:bj PW w (KX w.params) mg base cF 1 170 (Hd.fd eV "nearest_quotient" "nearest_quotient" e7 169) ["top","bottom"] (cH gX):=by
 have B:=Bt e;have Q:=Qt e;exact bI (N:=g7) (jJ e).fn jq (λ cdv A outer s H E hr=>(az (a9 (aG (u9 hr rfl jq.gen jq.co) (aG dv (aG cD av (jI.nm 0)) (jI.nm 1)) (aG cD av (jI.nm 1)))))) tF
theorem nh:bV (KX w.params) mg "exchanged" "exchanged" jd ["rows","k","other"] 177 (Hd.fd jd "exchanged" "exchanged" e7 176):=Hd.GI e.X e.G (by kernel_rfl) λ _ _ _ _ _ _ _ _ _=>rfl
theorem qM:bj PW w (KX w.params) mg base cF 1 177 (Hd.fd jd "exchanged" "exchanged" e7 176) ["rows","k","other"] (cH kv):=by
 have B:=Bt e;have Q:=Qt e
 exact bI (N:=m9) (nh e).fn uH (λ cdv A outer s H E hr=>(ao (aH uH.nd (c9.l 3) (gE Mv (ab (c9.nm 0) aj) B.pV rfl mS (c9.d 0) (c9.g 0)))
  (ao (ff (aL (c9.nm 0) (c9.nm 2)) (c9.nm 3) (c9.nm 1))
  (ao (ff (aL (c9.nm 0) (c9.nm 1)) (c9.nm 3) (c9.nm 2))
  (az (a9 (c9.nm 3))))))) AR
theorem qp:bV (KX w.params) mg "negated" "negated" jD ["row"] 182 (Hd.fd jD "negated" "negated" e7 181):=Hd.uP e.X e.G (by kernel_rfl) λ _ _ _ _ _ _ _=>rfl
theorem tT:bj PW w (KX w.params) mg base cF 1 182 (Hd.fd jD "negated" "negated" e7 181) ["row"] (cH nD):=by
 have B:=Bt e;have Q:=Qt e;exact bI (N:=qd) (qp e).fn Fl (λ cdv A outer s H E hr=>(az (a9 (iE (Nc:=["number"]) (cz.look (ai jD) ["row"] (by decide+kernel)) (jt (HX.nm 0)) (λ _ _ _ _=>(eJ (show(["number"]:List Str).Nodup by decide+kernel))) (λ _ _ _ _=>d4) (λ _ _ _ _=>(gM fv)) eK)))) Eu
theorem eG:MethAt (KX w.params) aD "__init__" "Bench.__init__" cW ["self","rows"] 194 (Hd.fd cW "__init__" "Bench.__init__" e7 193):=Hd.Dm (by kernel_rfl) λ _ _ _ _ _ _ _ _=>rfl
theorem pY:bj PW w (KX w.params) mg base cF 3 194 (Hd.fd cW "__init__" "Bench.__init__" e7 193) ["self","rows"] (cH iX):=by
 have B:=Bt e;have Q:=Qt e
 exact bI (N:=iR) (eG e).fn vB (λ cdv A outer s H E hr=>(ao (lu Q.aS.cl Q.cv (bZ.nm 0) (yB (Nc:=["row"]) (cz.look (ai cW) ["self","rows"] (by decide+kernel)) (jt (bZ.nm 1)) (λ _ _ _ _=>(eJ (show(["row"]:List Str).Nodup by decide+kernel))) (λ _ _ _ _=>d4) (λ _ _ _ _=>(gE rj (ab fv aj) B.pV rfl mS (by decide+kernel) rfl)) eK))
  (ao (lu Q.aS.cl Q.d9 (bZ.nm 0) (yB (Nc:=["row"]) (cz.look (ai cW) ["self","rows"] (by decide+kernel)) (jt (bf (qK e) (vT e) (hr.mono (by decide)) (ab (eH fV (ab (bZ.nm 1) aj) B.fU rfl eR (bZ.d 0) (bZ.g 0)) aj) (bZ.d 1) (bZ.g 1))) (λ _ _ _ _=>(eJ (show(["row"]:List Str).Nodup by decide+kernel))) (λ _ _ _ _=>d4) (λ _ _ _ _=>(gE rj (ab fv aj) B.pV rfl mS (by decide+kernel) rfl)) eK))
  (az (lu Q.aS.cl Q.cA (bZ.nm 0) (yB (Nc:=["row"]) (cz.look (ai cW) ["self","rows"] (by decide+kernel)) (jt (bf (qK e) (vT e) (hr.mono (by decide)) (ab (eH fV (ab (bZ.nm 1) aj) B.fU rfl eR (bZ.d 0) (bZ.g 0)) aj) (bZ.d 1) (bZ.g 1))) (λ _ _ _ _=>(eJ (show(["row"]:List Str).Nodup by decide+kernel))) (λ _ _ _ _=>d4) (λ _ _ _ _=>(gE rj (ab fv aj) B.pV rfl mS (by decide+kernel) rfl)) eK)))))) vA
theorem gD:MethAt (KX w.params) aD "take" "Bench.take" iA ["self","k","times","other"] 201 (Hd.fd iA "take" "Bench.take" e7 200):=Hd.Tt (by kernel_rfl) λ _ _ _ _ _ _ _ _ _ _=>rfl
theorem qb:bj PW w (KX w.params) mg base cF 2 201 (Hd.fd iA "take" "Bench.take" e7 200) ["self","k","times","other"] (cH jE):=by
 have B:=Bt e;have Q:=Qt e
 exact bI (N:=mi) (gD e).fn zZ (λ cdv A outer s H E hr=>(ao (ff (bf (o_ e) (rL e) (hr.mono (by decide)) (ab (aL (bO Q.aS.cl Q.cv (bb.nm 0)) (bb.nm 1)) (ab (gM (bb.nm 2)) (ab (aL (bO Q.aS.cl Q.cv (bb.nm 0)) (bb.nm 3)) aj))) (bb.d 0) (bb.g 0)) (bO Q.aS.cl Q.cv (bb.nm 0)) (bb.nm 1))
  (ao (ff (bf (o_ e) (rL e) (hr.mono (by decide)) (ab (aL (bO Q.aS.cl Q.d9 (bb.nm 0)) (bb.nm 1)) (ab (gM (bb.nm 2)) (ab (aL (bO Q.aS.cl Q.d9 (bb.nm 0)) (bb.nm 3)) aj))) (bb.d 0) (bb.g 0)) (bO Q.aS.cl Q.d9 (bb.nm 0)) (bb.nm 1))
  (az (ff (bf (o_ e) (rL e) (hr.mono (by decide)) (ab (aL (bO Q.aS.cl Q.cA (bb.nm 0)) (bb.nm 3)) (ab (bb.nm 2) (ab (aL (bO Q.aS.cl Q.cA (bb.nm 0)) (bb.nm 1)) aj))) (bb.d 0) (bb.g 0)) (bO Q.aS.cl Q.cA (bb.nm 0)) (bb.nm 3)))))) z_
theorem gF:MethAt (KX w.params) aD "exchange" "Bench.exchange" fI ["self","k","other"] 208 (Hd.fd fI "exchange" "Bench.exchange" e7 207):=Hd.Hc (by kernel_rfl) λ _ _ _ _ _ _ _ _ _=>rfl
theorem pG:bj PW w (KX w.params) mg base cF 2 208 (Hd.fd fI "exchange" "Bench.exchange" e7 207) ["self","k","other"] (cH i4):=by
 have B:=Bt e;have Q:=Qt e
 exact bI (N:=iL) (gF e).fn vz (λ cdv A outer s H E hr=>(ao (lu Q.aS.cl Q.cv (bz.nm 0) (bf (nh e) (qM e) (hr.mono (by decide)) (ab (bO Q.aS.cl Q.cv (bz.nm 0)) (ab (bz.nm 1) (ab (bz.nm 2) aj))) (bz.d 0) (bz.g 0)))
  (ao (lu Q.aS.cl Q.d9 (bz.nm 0) (bf (nh e) (qM e) (hr.mono (by decide)) (ab (bO Q.aS.cl Q.d9 (bz.nm 0)) (ab (bz.nm 1) (ab (bz.nm 2) aj))) (bz.d 0) (bz.g 0)))
  (az (lu Q.aS.cl Q.cA (bz.nm 0) (bf (nh e) (qM e) (hr.mono (by decide)) (ab (bO Q.aS.cl Q.cA (bz.nm 0)) (ab (bz.nm 1) (ab (bz.nm 2) aj))) (bz.d 0) (bz.g 0))))))) vn
theorem jr:MethAt (KX w.params) aD "change_sign" "Bench.change_sign" dZ ["self","k"] 215 (Hd.fd dZ "change_sign" "Bench.change_sign" e7 214):=Hd.Dm (by kernel_rfl) λ _ _ _ _ _ _ _ _=>rfl
theorem tx:bj PW w (KX w.params) mg base cF 2 215 (Hd.fd dZ "change_sign" "Bench.change_sign" e7 214) ["self","k"] (cH jj):=by
 have B:=Bt e;have Q:=Qt e
 exact bI (N:=gL) (jr e).fn se (λ cdv A outer s H E hr=>(ao (ff (bf (qp e) (tT e) (hr.mono (by decide)) (ab (aL (bO Q.aS.cl Q.cv (aZ.nm 0)) (aZ.nm 1)) aj) (aZ.d 0) (aZ.g 0)) (bO Q.aS.cl Q.cv (aZ.nm 0)) (aZ.nm 1))
  (ao (ff (bf (qp e) (tT e) (hr.mono (by decide)) (ab (aL (bO Q.aS.cl Q.d9 (aZ.nm 0)) (aZ.nm 1)) aj) (aZ.d 0) (aZ.g 0)) (bO Q.aS.cl Q.d9 (aZ.nm 0)) (aZ.nm 1))
  (az (ff (bf (qp e) (tT e) (hr.mono (by decide)) (ab (aL (bO Q.aS.cl Q.cA (aZ.nm 0)) (aZ.nm 1)) aj) (aZ.d 0) (aZ.g 0)) (bO Q.aS.cl Q.cA (aZ.nm 0)) (aZ.nm 1)))))) sJ
theorem ir:MethAt (KX w.params) aD "live_rows" "Bench.live_rows" de ["self","top","place"] 220 (Hd.fd de "live_rows" "Bench.live_rows" e7 219):=Hd.Hc (by kernel_rfl) λ _ _ _ _ _ _ _ _ _=>rfl
theorem ox:bj PW w (KX w.params) mg base cF 3 220 (Hd.fd de "live_rows" "Bench.live_rows" e7 219) ["self","top","place"] (cH iq):=by
 have B:=Bt e;have Q:=Qt e;have hC:PySem.W.codeHdIn (KX w.params) 219 217=true:=by kernel_rfl
 exact OQ (N:=ij) (Hd.fc (by kernel_rfl)) nQ (λ A outer s H E hr=>(ao (yZ nQ.nd (df.l 3) (Nc:=["k","self","place"]) (cz.look (ai de) ["self","top","place","live"] (by decide+kernel)) (wI (df.g 1) B.eO (ab (df.nm 1) (ab (eH fV (ab (bO Q.aS.cl Q.cv (df.nm 0)) aj) B.fU rfl eR (df.d 0) (df.g 0)) aj))) (λ _ _ _ _=>(eJ (show(["k","self","place"]:List Str).Nodup by decide+kernel))) (λ _ _ _ _=>(OB (cR Bh (cJ _) (aL (aL (bO Q.aS.cl Q.cv fv) fv) fv) av))) (λ _ _ _ _=>fv) eK)
  (az (a9 (MV (c0:=219) (oJ.look (Nc:=["k","self","place"]) (fr:=[none,some 0,some 2]) (p:="k") (cz.look (ai de) ["self","top","place","live"] (by decide+kernel))) rfl hr rfl hC (λ _ _ _ _=>(eH u5 (ab (aL (aL (bO Q.aS.cl Q.cv fv) fv) fv) aj) B.uS rfl rQ (by decide+kernel) rfl)) (df.nm 3) (df.g 2) B.Jh))))) tM
theorem m6:MethAt (KX w.params) aD "gather" "Bench.gather" gu ["self","top","place"] 227 (Hd.fd gu "gather" "Bench.gather" e7 226):=Hd.Hc (by kernel_rfl) λ _ _ _ _ _ _ _ _ _=>rfl
theorem yv:bj PW w (KX w.params) mg base cF 4 227 (Hd.fd gu "gather" "Bench.gather" e7 226) ["self","top","place"] (cH mJ):=by
 have B:=Bt e;have Q:=Qt e
 exact bI (N:=ki) (m6 e).fn gY (λ cdv A outer s H E hr=>(ao (aH gY.nd (aE.l 3) (eQ (aE.nm 0) Q.aS.cl (ir e).me (ox e) (hr.mono (by decide)) (ir e).bd (ab (aE.nm 1) (ab (aE.nm 2) aj))))
  (ao (wL (cR Th (cJ _) (eH fV (ab (aE.nm 3) aj) B.fU rfl eR (aE.d 0) (aE.g 0)) av) (ao (aH gY.nd (aE.l 4) (aL (aE.nm 3) (gM av)))
  (ao (aH gY.nd (aE.l 5) (aL (aE.nm 3) (gM av)))
  (ao (dH (eQ (aE.nm 0) Q.aS.cl (gD e).me (qb e) (hr.mono (by decide)) (gD e).bd (ab (aE.nm 4) (ab (bf (jJ e) (nN e) (hr.mono (by decide)) (ab (aL (aL (bO Q.aS.cl Q.cv (aE.nm 0)) (aE.nm 4)) (aE.nm 2)) (ab (aL (aL (bO Q.aS.cl Q.cv (aE.nm 0)) (aE.nm 5)) (aE.nm 2)) aj)) (aE.d 1) (aE.g 1)) (ab (aE.nm 5) aj)))))
  (az (aH gY.nd (aE.l 3) (eQ (aE.nm 0) Q.aS.cl (ir e).me (ox e) (hr.mono (by decide)) (ir e).bd (ab (aE.nm 1) (ab (aE.nm 2) aj)))))))))
  (ao (fy (cR (oh hr) (cJ _) (eH fV (ab (aE.nm 3) aj) B.fU rfl eR (aE.d 0) (aE.g 0)) av) (az (a9 yo)) d_)
  (ao (dH (eQ (aE.nm 0) Q.aS.cl (gF e).me (pG e) (hr.mono (by decide)) (gF e).bd (ab (aE.nm 1) (ab (aL (aE.nm 3) av) aj))))
  (ao (fy (cR yJ (cJ _) (aL (aL (bO Q.aS.cl Q.cv (aE.nm 0)) (aE.nm 1)) (aE.nm 2)) av) (az (dH (eQ (aE.nm 0) Q.aS.cl (jr e).me (tx e) (hr.mono (by decide)) (jr e).bd (ab (aE.nm 1) aj)))) d_)
  (az (a9 yo)))))))) xD
theorem jo:MethAt (KX w.params) aD "lower_above" "Bench.lower_above" d6 ["self","top","place"] 234 (Hd.fd d6 "lower_above" "Bench.lower_above" e7 233):=Hd.Hc (by kernel_rfl) λ _ _ _ _ _ _ _ _ _=>rfl
theorem tD:bj PW w (KX w.params) mg base cF 3 234 (Hd.fd d6 "lower_above" "Bench.lower_above" e7 233) ["self","top","place"] (cH js):=by
 have B:=Bt e;have Q:=Qt e;exact bI (N:=gN) (jo e).fn gn (λ cdv A outer s H E hr=>(az (dR (fW (cq.g 0) B.eO (ab (cq.nm 1) aj)) (eJ gn.nd) (az (dH (eQ (cq.nm 0) Q.aS.cl (gD e).me (qb e) (hr.mono (by decide)) (gD e).bd (ab (cq.nm 3) (ab (aG (u9 hr rfl gn.gen gn.co) (aL (aL (bO Q.aS.cl Q.cv (cq.nm 0)) (cq.nm 3)) (cq.nm 2)) (aL (aL (bO Q.aS.cl Q.cv (cq.nm 0)) (cq.nm 1)) (cq.nm 2))) (ab (cq.nm 1) aj))))))))) sE
theorem oH:bV (KX w.params) mg "standing" "standing" j0 ["rows"] 248 (Hd.fd j0 "standing" "standing" e7 247):=Hd.uP e.X e.G (by kernel_rfl) λ _ _ _ _ _ _ _=>rfl
theorem sF:bj PW w (KX w.params) mg base cF 5 248 (Hd.fd j0 "standing" "standing" e7 247) ["rows"] (cH mj):=by
 have B:=Bt e;have Q:=Qt e
 exact bI (N:=oU) (oH e).fn jb (λ cdv A outer s H E hr=>(ao (aH jb.nd (bg.l 1) (Cu ⟨Q.aS.N0,(eG e).me.at_,(eG e).me.fn,Q.aS.kp⟩ (pY e) (hr.mono (by decide)) (bg.g 0) Q.aS.mg (eG e).bd (ab (bg.nm 0) aj) (bg.d 0)))
  (ao (aH jb.nd (bg.l 2) av)
  (ao (dR (fW (bg.g 2) B.eO (ab (eH fV (ab (aL (bg.nm 0) av) aj) B.fU rfl eR (bg.d 1) (bg.g 1)) aj)) (eJ jb.nd) (az (fy (xo (eQ (bg.nm 1) Q.aS.cl (m6 e).me (yv e) (hr.mono (by decide)) (m6 e).bd (ab (bg.nm 2) (ab (bg.nm 3) aj)))) (ao (dH (eQ (bg.nm 1) Q.aS.cl (jo e).me (tD e) (hr.mono (by decide)) (jo e).bd (ab (bg.nm 2) (ab (bg.nm 3) aj))))
  (az (HC jb.nd (bg.l 2) av FV))) d_)))
  (ao (aH jb.nd (bg.l 4) (bf (oj e) (sW e) (hr.mono (by decide)) (ab (bO Q.aS.cl Q.cA (bg.nm 1)) (ab (eH fV (ab (bg.nm 0) aj) B.fU rfl eR (bg.d 1) (bg.g 1)) aj)) (bg.d 3) (bg.g 3)))
  (az (a9 (oX (ab (bf (nL e) (qr e) (hr.mono (by decide)) (ab (lx (bO Q.aS.cl Q.cv (bg.nm 1)) m4 (j9 (bg.nm 2))) aj) (bg.d 4) (bg.g 4)) (ab (bf (nL e) (qr e) (hr.mono (by decide)) (ab (bO Q.aS.cl Q.d9 (bg.nm 1)) aj) (bg.d 4) (bg.g 4)) (ab (bg.nm 4) aj))))))))))) C3
theorem zT:bV (KX w.params) mg "weighed" "weighed" lT ["form","row"] 255 (Hd.fd lT "weighed" "weighed" e7 254):=Hd.jB e.X e.G (by kernel_rfl) λ _ _ _ _ _ _ _ _=>rfl
theorem FZ:bj PW w (KX w.params) mg base cF 2 255 (Hd.fd lT "weighed" "weighed" e7 254) ["form","row"] (cH uB):=by
 have B:=Bt e;have Q:=Qt e
 exact bI (N:=qu) (zT e).fn iY (λ cdv A outer s H E hr=>(ao (aH iY.nd (bH.l 2) (oM aj))
  (ao (aH iY.nd (bH.l 3) (gE rj (ab (bH.nm 1) aj) B.pV rfl mS (bH.d 0) (bH.g 0)))
  (ao (dR (jt (bH.nm 0)) (eJ iY.nd) (ao (aH iY.nd (bH.l 5) (bf (lV e) (nM e) (hr.mono (by decide)) (ab (bH.nm 4) aj) (bH.d 1) (bH.g 1)))
  (ao (aH iY.nd (bH.l 6) (aG pQ (aL (bH.nm 3) (bH.nm 5)) (aL (bH.nm 4) (bH.nm 5))))
  (ao (dH (iJ (bH.nm 2) (bH.nm 6)))
  (az (aH iY.nd (bH.l 3) (bf (o_ e) (rL e) (hr.mono (by decide)) (ab (bH.nm 3) (ab (gM (bH.nm 6)) (ab (bH.nm 4) aj))) (bH.d 2) (bH.g 2))))))))
  (az (a9 (oX (ab (gE fm (ab (bH.nm 2) aj) B.eP rfl dD (bH.d 3) (bH.g 3)) (ab (gE fm (ab (bH.nm 3) aj) B.eP rfl dD (bH.d 3) (bH.g 3)) aj))))))))) E1
theorem ik:MethAt (KX w.params) aP "__init__" "Stairs.__init__" fk ["self","steps"] 269 (Hd.fd fk "__init__" "Stairs.__init__" ku 268):=Hd.Dm (by kernel_rfl) λ _ _ _ _ _ _ _ _=>rfl
theorem vw:bj PW w (KX w.params) mg base cF 5 269 (Hd.fd fk "__init__" "Stairs.__init__" ku 268) ["self","steps"] (cH kq):=by
 have B:=Bt e;have Q:=Qt e
 exact bI (N:=ip) (ik e).fn uy (λ cdv A outer s H E hr=>(ao (lu Q.bD.cl Q.ka (dc.nm 0) (Cu ⟨Q.aS.N0,(eG e).me.at_,(eG e).me.fn,Q.aS.kp⟩ (pY e) (hr.mono (by decide)) (dc.g 0) Q.aS.mg (eG e).bd (ab (dc.nm 1) aj) (dc.d 0)))
  (az (lu Q.bD.cl Q.cf (dc.nm 0) (bf (xB e) (FE e) (hr.mono (by decide)) (ab (dc.nm 1) aj) (dc.d 1) (dc.g 1)))))) ur
theorem cx:MethAt (KX w.params) aP "last_of" "Stairs.last_of" fD ["self","k"] 276 (Hd.fd fD "last_of" "Stairs.last_of" ku 275):=Hd.Dm (by kernel_rfl) λ _ _ _ _ _ _ _ _=>rfl
theorem fE:bj PW w (KX w.params) mg base cF 1 276 (Hd.fd fD "last_of" "Stairs.last_of" ku 275) ["self","k"] (cH dy):=by
 have B:=Bt e;have Q:=Qt e;exact bI (N:=iU) (cx e).fn vx (λ cdv A outer s H E hr=>(az (a9 (Kq (cR PC (cJ _) (iO.nm 1) av) (aL (aL (bO Q.bD.cl Q.cf (iO.nm 0)) (iO.nm 1)) (iO.nm 1)) av)))) vD
theorem g9:MethAt (KX w.params) aP "lessen" "Stairs.lessen" fS ["self","k","j"] 283 (Hd.fd fS "lessen" "Stairs.lessen" ku 282):=Hd.Hc (by kernel_rfl) λ _ _ _ _ _ _ _ _ _=>rfl
theorem qk:bj PW w (KX w.params) mg base cF 3 283 (Hd.fd fS "lessen" "Stairs.lessen" ku 282) ["self","k","j"] (cH jv):=by
 have B:=Bt e;have Q:=Qt e
 exact bI (N:=jy) (g9 e).fn kU (λ cdv A outer s H E hr=>(ao (aH kU.nd (a6.l 3) (bf (jJ e) (nN e) (hr.mono (by decide)) (ab (aL (aL (bO Q.bD.cl Q.cf (a6.nm 0)) (a6.nm 1)) (a6.nm 2)) (ab (aL (aL (bO Q.bD.cl Q.cf (a6.nm 0)) (a6.nm 2)) (a6.nm 2)) aj)) (a6.d 0) (a6.g 0)))
  (ao (fy (cR (oh hr) (cJ _) (a6.nm 3) av) (az MO) d_)
  (ao (dH (eQ (bO Q.bD.cl Q.ka (a6.nm 0)) Q.aS.cl (gD e).me (qb e) (hr.mono (by decide)) (gD e).bd (ab (a6.nm 1) (ab (a6.nm 3) (ab (a6.nm 2) aj)))))
  (az (dR (fW (a6.g 1) B.eO (ab (aG dv (a6.nm 2) av) aj)) (eJ kU.nd) (az (JX (aL (bO Q.bD.cl Q.cf (a6.nm 0)) (a6.nm 1)) (a6.nm 4) (aG cD (a6.nm 3) (aL (aL (bO Q.bD.cl Q.cf (a6.nm 0)) (a6.nm 2)) (a6.nm 4))) Nz)))))))) wQ
theorem ko:MethAt (KX w.params) aP "is_steep" "Stairs.is_steep" fu ["self","k"] 290 (Hd.fd fu "is_steep" "Stairs.is_steep" ku 289):=Hd.Dm (by kernel_rfl) λ _ _ _ _ _ _ _ _=>rfl
theorem vC:bj PW w (KX w.params) mg base cF 2 290 (Hd.fd fu "is_steep" "Stairs.is_steep" ku 289) ["self","k"] (cH km):=by
 have B:=Bt e;have Q:=Qt e
 exact bI (N:=iu) (ko e).fn jA (λ cdv A outer s H E hr=>(ao (aH jA.nd (bG.l 2) (aL (aL (bO Q.bD.cl Q.cf (bG.nm 0)) (bG.nm 1)) (aG dU (bG.nm 1) av)))
  (ao (aH jA.nd (bG.l 3) (eQ (bG.nm 0) Q.bD.cl (cx e).me (fE e) (hr.mono (by decide)) (cx e).bd (ab (aG dU (bG.nm 1) av) aj)))
  (az (a9 (KP yJ (cJ _) (aG cD av (aG dv (aG cD (eQ (bG.nm 0) Q.bD.cl (cx e).me (fE e) (hr.mono (by decide)) (cx e).bd (ab (bG.nm 1) aj)) (eQ (bG.nm 0) Q.bD.cl (cx e).me (fE e) (hr.mono (by decide)) (cx e).bd (ab (aG dU (bG.nm 1) av) aj))) (aG cD (bG.nm 2) (bG.nm 2)))) (aG cD (aG cD av (bG.nm 3)) (bG.nm 3)))))))) tN
theorem om:MethAt (KX w.params) aP "swap" "Stairs.swap" gQ ["self","k"] 297 (Hd.fd gQ "swap" "Stairs.swap" ku 296):=Hd.Dm (by kernel_rfl) λ _ _ _ _ _ _ _ _=>rfl
theorem Af:bj PW w (KX w.params) mg base cF 3 297 (Hd.fd gQ "swap" "Stairs.swap" ku 296) ["self","k"] (cH ou):=by
 have B:=Bt e;have Q:=Qt e
 exact bI (N:=kL) (om e).fn c8 (λ cdv A outer s H E hr=>(ao (dH (eQ (bO Q.bD.cl Q.ka (au.nm 0)) Q.aS.cl (gF e).me (pG e) (hr.mono (by decide)) (gF e).bd (ab (au.nm 1) (ab (aG dU (au.nm 1) av) aj))))
  (ao (aH c8.nd (au.l 2) (aL (aL (bO Q.bD.cl Q.cf (au.nm 0)) (au.nm 1)) (aG dU (au.nm 1) av)))
  (ao (aH c8.nd (au.l 3) (eQ (au.nm 0) Q.bD.cl (cx e).me (fE e) (hr.mono (by decide)) (cx e).bd (ab (au.nm 1) aj)))
  (ao (aH c8.nd (au.l 4) (eQ (au.nm 0) Q.bD.cl (cx e).me (fE e) (hr.mono (by decide)) (cx e).bd (ab (aG dU (au.nm 1) av) aj)))
  (ao (aH c8.nd (au.l 5) (aG pQ (aG dv (aG cD (eQ (au.nm 0) Q.bD.cl (cx e).me (fE e) (hr.mono (by decide)) (cx e).bd (ab (aG dU (au.nm 1) av) aj)) (au.nm 3)) (aG cD (au.nm 2) (au.nm 2))) (au.nm 4)))
  (ao (aH c8.nd (au.l 6) (lx (aL (bO Q.bD.cl Q.cf (au.nm 0)) (au.nm 1)) m4 (j9 (aG dU (au.nm 1) av))))
  (ao (ff (aG CG (lx (aL (bO Q.bD.cl Q.cf (au.nm 0)) (aG dU (au.nm 1) av)) m4 (j9 (aG dU (au.nm 1) av))) (m7 (ab (au.nm 2) (ab (au.nm 3) aj)))) (bO Q.bD.cl Q.cf (au.nm 0)) (au.nm 1))
  (ao (ff (aG CG (au.nm 6) (m7 (ab (au.nm 5) aj))) (bO Q.bD.cl Q.cf (au.nm 0)) (aG dU (au.nm 1) av))
  (az (dR (wI (au.g 1) B.eO (ab (aG dv (au.nm 1) av) (ab (eH fV (ab (bO Q.bD.cl Q.cf (au.nm 0)) aj) B.fU rfl eR (au.d 0) (au.g 0)) aj))) (eJ c8.nd) (ao (aH c8.nd (au.l 8) (aL (bO Q.bD.cl Q.cf (au.nm 0)) (au.nm 7)))
  (ao (aH c8.nd (au.l 9) (aG pQ (aG dU (aG cD (au.nm 3) (aL (au.nm 8) (aG dU (au.nm 1) av))) (aG cD (au.nm 2) (aL (au.nm 8) (au.nm 1)))) (au.nm 4)))
  (ao (aH c8.nd (au.l 10) (aG pQ (aG dv (aG cD (au.nm 5) (aL (au.nm 8) (au.nm 1))) (aG cD (au.nm 2) (au.nm 9))) (au.nm 3)))
  (az (ff (aG CG (aG dv (lx (au.nm 8) m4 (j9 (aG dU (au.nm 1) av))) (m7 (ab (au.nm 10) (ab (au.nm 9) aj)))) (lx (au.nm 8) (j9 (aG dv (au.nm 1) av)) m4)) (bO Q.bD.cl Q.cf (au.nm 0)) (au.nm 7))))))))))))))))) yX
theorem kX:MethAt (KX w.params) aP "shorten" "Stairs.shorten" fH ["self"] 304 (Hd.fd fH "shorten" "Stairs.shorten" ku 303):=Hd.TM (by kernel_rfl) λ _ _ _ _ _ _ _=>rfl
theorem wo:bj PW w (KX w.params) mg base cF 4 304 (Hd.fd fH "shorten" "Stairs.shorten" ku 303) ["self"] (cH kW):=by
 have B:=Bt e;have Q:=Qt e
 exact bI (N:=iN) (kX e).fn f_ (λ cdv A outer s H E hr=>(ao (aH f_.nd (aX.l 1) av)
  (az (wL (cR yJ (cJ _) (aX.nm 1) (eH fV (ab (bO Q.bD.cl Q.cf (aX.nm 0)) aj) B.fU rfl eR (aX.d 0) (aX.g 0))) (ao (dH (eQ (aX.nm 0) Q.bD.cl (g9 e).me (qk e) (hr.mono (by decide)) (g9 e).bd (ab (aX.nm 1) (ab (aG dU (aX.nm 1) av) aj))))
  (az (fy (xo (eQ (aX.nm 0) Q.bD.cl (ko e).me (vC e) (hr.mono (by decide)) (ko e).bd (ab (aX.nm 1) aj))) (ao (dH (eQ (aX.nm 0) Q.bD.cl (om e).me (Af e) (hr.mono (by decide)) (om e).bd (ab (aX.nm 1) aj)))
  (az (aH f_.nd (aX.l 1) (eH (KJ rfl) (ab av (ab (aG dU (aX.nm 1) av) aj)) B.Kd rfl Hn (aX.d 1) (aX.g 1))))) (ao (dR (Cf (aX.g 2) B.eO (ab (aG dU (aX.nm 1) av) (ab (gM av) (ab (gM av) aj)))) (eJ f_.nd) (az (dH (eQ (aX.nm 0) Q.bD.cl (g9 e).me (qk e) (hr.mono (by decide)) (g9 e).bd (ab (aX.nm 1) (ab (aX.nm 2) aj))))))
  (az (HC f_.nd (aX.l 1) av FV)))))))))) vo
theorem Dy:bV (KX w.params) mg "short" "short" pA ["steps"] 318 (Hd.fd pA "short" "short" ku 317):=Hd.uP e.X e.G (by kernel_rfl) λ _ _ _ _ _ _ _=>rfl
theorem Nq:bj PW w (KX w.params) mg base cF 7 318 (Hd.fd pA "short" "short" ku 317) ["steps"] (cH yE):=by
 have B:=Bt e;have Q:=Qt e
 exact bI (N:=uU) (Dy e).fn wc (λ cdv A outer s H E hr=>(ao (aH wc.nd (dF.l 1) (Cu ⟨Q.bD.N0,(ik e).me.at_,(ik e).me.fn,Q.bD.kp⟩ (vw e) (hr.mono (by decide)) (dF.g 0) Q.bD.mg (ik e).bd (ab (dF.nm 0) aj) (dF.d 0)))
  (ao (dH (LN (dF.nm 1) Q.bD.cl (kX e).me (wo e) (hr.mono (by decide)) (kX e).bd))
  (ao (aH wc.nd (dF.l 2) (bO Q.bD.cl Q.ka (dF.nm 1)))
  (az (a9 (oX (ab (bf (nL e) (qr e) (hr.mono (by decide)) (ab (bO Q.aS.cl Q.cv (dF.nm 2)) aj) (dF.d 3) (dF.g 3)) (ab (bf (nL e) (qr e) (hr.mono (by decide)) (ab (bO Q.aS.cl Q.d9 (dF.nm 2)) aj) (dF.d 3) (dF.g 3)) (ab (bf (oj e) (sW e) (hr.mono (by decide)) (ab (bO Q.aS.cl Q.cA (dF.nm 2)) (ab (eH fV (ab (dF.nm 0) aj) B.fU rfl eR (dF.d 1) (dF.g 1)) aj)) (dF.d 2) (dF.g 2)) aj)))))))))) IM
theorem vQ:bV (KX w.params) mg "parts_dot" "parts_dot" jf ["parts","row"] 325 (Hd.fd jf "parts_dot" "parts_dot" sV 324):=Hd.jB e.X e.G (by kernel_rfl) λ _ _ _ _ _ _ _ _=>rfl
theorem CS:bj PW w (KX w.params) mg base cF 4 325 (Hd.fd jf "parts_dot" "parts_dot" sV 324) ["parts","row"] (cH qW):=by
 have B:=Bt e;have Q:=Qt e
 exact bI (N:=m_) (vQ e).fn mm (λ cdv A outer s H E hr=>(ao (aH mm.nd (cL.l 2) (bf (o5 e) (rK e) (hr.mono (by decide)) (ab av aj) (cL.d 0) (cL.g 0)))
  (ao (dR (qH (cL.g 1) B.oQ (ab (cL.nm 0) (ab (cL.nm 1) aj))) (oC rfl mm.nd) (az (aH mm.nd (cL.l 2) (bf (Hr e) (P0 e) (hr.mono (by decide)) (ab (cL.nm 2) (ab (bf (DB e) (Md e) (hr.mono (by decide)) (ab (cL.nm 3) (ab (bf (o5 e) (rK e) (hr.mono (by decide)) (ab (cL.nm 4) aj) (cL.d 0) (cL.g 0)) aj)) (cL.d 2) (cL.g 2)) aj)) (cL.d 3) (cL.g 3)))))
  (az (a9 (cL.nm 2)))))) B4
theorem vF:bV (KX w.params) mg "bottom_at" "bottom_at" jh ["form","rest","place"] 332 (Hd.fd jh "bottom_at" "bottom_at" sV 331):=Hd.GI e.X e.G (by kernel_rfl) λ _ _ _ _ _ _ _ _ _=>rfl
theorem CY:bj PW w (KX w.params) mg base cF 2 332 (Hd.fd jh "bottom_at" "bottom_at" sV 331) ["form","rest","place"] (cH qP):=by
 have B:=Bt e;have Q:=Qt e
 exact bI (N:=nv) (vF e).fn tV (λ cdv A outer s H E hr=>(ao (dR (jt (d8.nm 0)) (eJ tV.nd) (az (fy (cR (oh hr) (cJ _) (bf (lV e) (nM e) (hr.mono (by decide)) (ab (d8.nm 3) aj) (d8.d 0) (d8.g 0)) (d8.nm 2)) (az (a9 (aL (d8.nm 3) (d8.nm 2)))) d_)))
  (az (a9 (aG cD av (eH u5 (ab (aL (d8.nm 1) (d8.nm 2)) aj) B.uS rfl rQ (d8.d 1) (d8.g 1))))))) B5
theorem qo:bV (KX w.params) mg "parts_against" "parts_against" fR ["form","rest"] 339 (Hd.fd fR "parts_against" "parts_against" sV 338):=Hd.jB e.X e.G (by kernel_rfl) λ _ _ _ _ _ _ _ _=>rfl
theorem xH:bj PW w (KX w.params) mg base cF 5 339 (Hd.fd fR "parts_against" "parts_against" sV 338) ["form","rest"] (cH mn):=by
 have B:=Bt e;have Q:=Qt e
 exact bI (N:=jw) (qo e).fn fF (λ cdv A outer s H E hr=>(ao (aH fF.nd (aw.l 2) (bf (lV e) (nM e) (hr.mono (by decide)) (ab (aw.nm 1) aj) (aw.d 0) (aw.g 0)))
  (ao (aH fF.nd (aw.l 3) (aG O5 (m7 (ab (bf (o5 e) (rK e) (hr.mono (by decide)) (ab av aj) (aw.d 1) (aw.g 1)) aj)) (eH fV (ab (aw.nm 1) aj) B.fU rfl eR (aw.d 2) (aw.g 2))))
  (ao (ff (bf (rM e) (tX e) (hr.mono (by decide)) (ab av (ab (bf (vF e) (CY e) (hr.mono (by decide)) (ab (aw.nm 0) (ab (aw.nm 1) (ab (aw.nm 2) aj))) (aw.d 3) (aw.g 3)) aj)) (aw.d 4) (aw.g 4)) (aw.nm 3) (aw.nm 2))
  (ao (dR (Cf (aw.g 5) B.eO (ab (aG dU (eH fV (ab (aw.nm 0) aj) B.fU rfl eR (aw.d 2) (aw.g 2)) av) (ab (gM av) (ab (gM av) aj)))) (eJ fF.nd) (ao (aH fF.nd (aw.l 5) (bf (lV e) (nM e) (hr.mono (by decide)) (ab (aL (aw.nm 0) (aw.nm 4)) aj) (aw.d 0) (aw.g 0)))
  (az (fy (cR yJ (cJ _) (aw.nm 5) (aw.nm 2)) (ao (aH fF.nd (aw.l 6) (bf (Ds e) (MF e) (hr.mono (by decide)) (ab (bf (o5 e) (rK e) (hr.mono (by decide)) (ab av aj) (aw.d 1) (aw.g 1)) (ab (bf (vQ e) (CS e) (hr.mono (by decide)) (ab (aw.nm 3) (ab (aL (aw.nm 0) (aw.nm 4)) aj)) (aw.d 6) (aw.g 6)) aj)) (aw.d 7) (aw.g 7)))
  (az (ff (bf (GR e) (NN e) (hr.mono (by decide)) (ab (aw.nm 6) (ab (bf (o5 e) (rK e) (hr.mono (by decide)) (ab (aL (aL (aw.nm 0) (aw.nm 4)) (aw.nm 5)) aj) (aw.d 1) (aw.g 1)) aj)) (aw.d 8) (aw.g 8)) (aw.nm 3) (aw.nm 5)))) d_))))
  (az (a9 (gE fm (ab (aw.nm 3) aj) B.eP rfl dD (aw.d 9) (aw.g 9))))))))) wZ
theorem BO:bV (KX w.params) mg "inside" "inside" mR ["rows","row"] 346 (Hd.fd mR "inside" "inside" sV 345):=Hd.jB e.X e.G (by kernel_rfl) λ _ _ _ _ _ _ _ _=>rfl
theorem IJ:bj PW w (KX w.params) mg base cF 6 346 (Hd.fd mR "inside" "inside" sV 345) ["rows","row"] (cH wR):=by
 have B:=Bt e;have Q:=Qt e
 exact bI (N:=sP) (BO e).fn qG (λ cdv A outer s H E hr=>(ao (aH qG.nd (cn.l 2) (bf (oH e) (sF e) (hr.mono (by decide)) (ab (cn.nm 0) aj) (cn.d 0) (cn.g 0)))
  (ao (aH qG.nd (cn.l 3) (aL (cn.nm 2) av))
  (ao (aH qG.nd (cn.l 4) (bf (zT e) (FZ e) (hr.mono (by decide)) (ab (cn.nm 3) (ab (cn.nm 1) aj)) (cn.d 1) (cn.g 1)))
  (ao (fy (cR Po (cJ _) (bf (lV e) (nM e) (hr.mono (by decide)) (ab (aL (cn.nm 4) av) aj) (cn.d 2) (cn.g 2)) xQ) (az (a9 (oX (ab Ek (ab (bf (qo e) (xH e) (hr.mono (by decide)) (ab (cn.nm 3) (ab (aL (cn.nm 4) av) aj)) (cn.d 3) (cn.g 3)) aj))))) d_)
  (az (a9 (oX (ab Ek (ab (bf (wj e) (Cc e) (hr.mono (by decide)) (ab (aL (cn.nm 4) av) (ab (lx (aL (cn.nm 2) av) m4 (j9 (eH fV (ab (cn.nm 3) aj) B.fU rfl eR (cn.d 4) (cn.g 4)))) (ab (eH fV (ab (cn.nm 0) aj) B.fU rfl eR (cn.d 4) (cn.g 4)) aj))) (cn.d 5) (cn.g 5)) aj)))))))))) F9
theorem BH:bV (KX w.params) mg "_law_at" "_law_at" mO ["_law_script","_law_k"] 353 (Hd.fd mO "_law_at" "_law_at" fQ 352):=Hd.jB e.X e.G (by kernel_rfl) λ _ _ _ _ _ _ _ _=>rfl
theorem JZ:bj PW w (KX w.params) mg base cF 1 353 (Hd.fd mO "_law_at" "_law_at" fQ 352) ["_law_script","_law_k"] (cH wy):=by
 have B:=Bt e;have Q:=Qt e
 exact bI (N:=sH) (BH e).fn FN (λ cdv A outer s H E hr=>(ao (fy (cR yJ (cJ _) (mF.nm 1) (eH fV (ab (mF.nm 0) aj) B.fU rfl eR (mF.d 0) (mF.g 0))) (az (a9 (aL (mF.nm 0) (mF.nm 1)))) d_)
  (az (a9 av)))) Hx
theorem yi:bV (KX w.params) mg "_law_left" "_law_left" j5 ["_law_script","_law_k"] 360 (Hd.fd j5 "_law_left" "_law_left" fQ 359):=Hd.jB e.X e.G (by kernel_rfl) λ _ _ _ _ _ _ _ _=>rfl
theorem EA:bj PW w (KX w.params) mg base cF 2 360 (Hd.fd j5 "_law_left" "_law_left" fQ 359) ["_law_script","_law_k"] (cH sf):=by
 have B:=Bt e;have Q:=Qt e
 exact bI (N:=oS) (yi e).fn hZ (λ cdv A outer s H E hr=>(ao (aH hZ.nd (bR.l 2) (bf (BH e) (JZ e) (hr.mono (by decide)) (ab (bR.nm 0) (ab (bR.nm 1) aj)) (bR.d 0) (bR.g 0)))
  (ao (fy (cR PC (cJ _) (eH u5 (ab (bR.nm 2) aj) B.uS rfl rQ (bR.d 1) (bR.g 1)) (aG Et av av)) (az (a9 (oM (ab (eH u5 (ab (bR.nm 2) aj) B.uS rfl rQ (bR.d 1) (bR.g 1)) aj)))) d_)
  (ao (aH hZ.nd (bR.l 3) (aG oP (aG cD (aG dv (aG dv (aG oP (bR.nm 2) av) (aG cD av (bR.nm 1))) av) av) av))
  (ao (aH hZ.nd (bR.l 4) av)
  (ao (dR (fW (bR.g 2) B.eO (ab av aj)) (eJ hZ.nd) (ao (aH hZ.nd (bR.l 3) (aG oP (aG dv (aG dv (aG cD (bR.nm 3) (bR.nm 3)) (aG cD av (bR.nm 5))) av) av))
  (az (aH hZ.nd (bR.l 4) (aG dv (aG cD (bR.nm 4) av) (bR.nm 3))))))
  (az (a9 (oM (ab (bR.nm 4) aj)))))))))) C6
theorem fM:bV (KX w.params) mg "_law_digit" "_law_digit" jc ["_law_left_here","_law_many"] 367 (Hd.fd jc "_law_digit" "_law_digit" fQ 366):=Hd.jB e.X e.G (by kernel_rfl) λ _ _ _ _ _ _ _ _=>rfl
theorem gp:bj PW w (KX w.params) mg base cF 1 367 (Hd.fd jc "_law_digit" "_law_digit" fQ 366) ["_law_left_here","_law_many"] (cH dE):=by
 have B:=Bt e;have Q:=Qt e
 exact bI (N:=ny) (fM e).fn tP (λ cdv A outer s H E hr=>(ao (aH tP.nd (hO.l 2) (aG oP (aL (hO.nm 0) av) (hO.nm 1)))
  (ao (ff (aG pQ (aL (hO.nm 0) av) (hO.nm 1)) (hO.nm 0) av)
  (az (a9 (hO.nm 2)))))) BC
theorem uL:bV (KX w.params) mg "_law_number" "_law_number" iB ["_law_left_here","_law_kind"] 374 (Hd.fd iB "_law_number" "_law_number" fQ 373):=Hd.jB e.X e.G (by kernel_rfl) λ _ _ _ _ _ _ _ _=>rfl
theorem Cm:bj PW w (KX w.params) mg base cF 2 374 (Hd.fd iB "_law_number" "_law_number" fQ 373) ["_law_left_here","_law_kind"] (cH mq):=by
 have B:=Bt e;have Q:=Qt e
 exact bI (N:=my) (uL e).fn tu (λ cdv A outer s H E hr=>(ao (fy (cR (oh hr) (cJ _) (cu.nm 1) av) (az (a9 (aG dv (aG dU (bf (fM e) (gp e) (hr.mono (by decide)) (ab (cu.nm 0) (ab (aG dU (aG cD av (aG Et av av)) av) aj)) (cu.d 0) (cu.g 0)) (aG Et av av)) av))) d_)
  (ao (fy (ER (Oo (cR (oh hr) (cJ _) (cu.nm 1) av) (Mg (cR (oh hr) (cJ _) (bf (fM e) (gp e) (hr.mono (by decide)) (ab (cu.nm 0) (ab av aj)) (cu.d 0) (cu.g 0)) av)))) (az (a9 (aG dU (bf (fM e) (gp e) (hr.mono (by decide)) (ab (cu.nm 0) (ab av aj)) (cu.d 0) (cu.g 0)) av))) d_)
  (ao (aH tu.nd (cu.l 2) (aL (m7 (ab av (ab av (ab av (ab av (ab av aj)))))) (cu.nm 1)))
  (az (a9 (aG dU (bf (fM e) (gp e) (hr.mono (by decide)) (ab (cu.nm 0) (ab (aG dv (aG cD av (cu.nm 2)) av) aj)) (cu.d 0) (cu.g 0)) (cu.nm 2)))))))) z8
theorem yk:bV (KX w.params) mg "_law_rows" "_law_rows" iW ["_law_left_here","_law_many","_law_wide","_law_kind"] 379 (Hd.fd iW "_law_rows" "_law_rows" fQ 378):=Hd.RX e.X e.G (by kernel_rfl) λ _ _ _ _ _ _ _ _ _ _=>rfl
theorem ES:bj PW w (KX w.params) mg base cF 3 379 (Hd.fd iW "_law_rows" "_law_rows" fQ 378) ["_law_left_here","_law_many","_law_wide","_law_kind"] (cH mz):=by
 have B:=Bt e;have Q:=Qt e;exact bI (N:=oN) (yk e).fn C0 (λ cdv A outer s H E hr=>(az (a9 (gE fm (ab (iE (Nc:=["_law_j","_law_wide","_law_left_here","_law_kind"]) (cz.look (ai iW) ["_law_left_here","_law_many","_law_wide","_law_kind"] (by decide+kernel)) (fW (oA.g 0) B.eO (ab (oA.nm 1) aj)) (λ _ _ _ _=>(eJ (show(["_law_j","_law_wide","_law_left_here","_law_kind"]:List Str).Nodup by decide+kernel))) (λ _ _ _ _=>d4) (λ _ _ _ _=>(gE fm (ab (iE (Nc:=["_law_k","_law_left_here","_law_kind"]) (cz.KZ (by decide+kernel)) (fW rfl B.eO (ab fv aj)) (λ _ _ _ _=>(eJ (show(["_law_k","_law_left_here","_law_kind"]:List Str).Nodup by decide+kernel))) (λ _ _ _ _=>d4) (λ _ _ _ _=>(bf (uL e) (Cm e) (hr.mono (by decide)) (ab fv (ab fv aj)) (by decide+kernel) rfl)) eK) aj) B.eP rfl dD (by decide+kernel) rfl)) eK) aj) B.eP rfl dD (oA.d 1) (oA.g 1))))) CO
theorem vH:bV (KX w.params) mg "_law_drawn" "_law_drawn" gq ["_law_left_here"] 386 (Hd.fd gq "_law_drawn" "_law_drawn" fQ 385):=Hd.uP e.X e.G (by kernel_rfl) λ _ _ _ _ _ _ _=>rfl
theorem Dc:bj PW w (KX w.params) mg base cF 4 386 (Hd.fd gq "_law_drawn" "_law_drawn" fQ 385) ["_law_left_here"] (cH qL):=by
 have B:=Bt e;have Q:=Qt e
 exact bI (N:=ni) (vH e).fn gG (λ cdv A outer s H E hr=>(ao (aH gG.nd (a_.l 1) (aL (m7 (ab av (ab av (ab av (ab av (ab av (ab av (ab av (ab av aj))))))))) (bf (fM e) (gp e) (hr.mono (by decide)) (ab (a_.nm 0) (ab av aj)) (a_.d 0) (a_.g 0))))
  (ao (aH gG.nd (a_.l 2) (aG dv av (bf (fM e) (gp e) (hr.mono (by decide)) (ab (a_.nm 0) (ab av aj)) (a_.d 0) (a_.g 0))))
  (ao (aH gG.nd (a_.l 3) (aG dv (a_.nm 2) (bf (fM e) (gp e) (hr.mono (by decide)) (ab (a_.nm 0) (ab av aj)) (a_.d 0) (a_.g 0))))
  (ao (fy (cR (oh hr) (cJ _) (a_.nm 1) av) (az (PQ gG.nd (by decide) (show(ai gq).names.lookup ("_law_many":Str)=some .local by decide+kernel) (show(ai gq).names.lookup ("_law_wide":Str)=some .local by decide+kernel) (ab (aG dv av (aG oP (a_.nm 2) av)) (ab (aG dv av (aG oP (a_.nm 3) av)) aj)))) d_)
  (ao (fy (cR (oh hr) (cJ _) (a_.nm 1) av) (ao (aH gG.nd (a_.l 2) (aG dv av (aG oP (a_.nm 2) av)))
  (az (aH gG.nd (a_.l 3) (eH (KJ rfl) (ab (a_.nm 2) (ab (aG dv av (aG oP (a_.nm 3) av)) aj)) B.Kd rfl Hn (a_.d 1) (a_.g 1))))) d_)
  (az (a9 (bf (yk e) (ES e) (hr.mono (by decide)) (ab (a_.nm 0) (ab (a_.nm 2) (ab (a_.nm 3) (ab (a_.nm 1) aj)))) (a_.d 2) (a_.g 2)))))))))) B9
theorem zS:bV (KX w.params) mg "_law_dot" "_law_dot" jC ["_law_one","_law_other"] 391 (Hd.fd jC "_law_dot" "_law_dot" fQ 390):=Hd.jB e.X e.G (by kernel_rfl) λ _ _ _ _ _ _ _ _=>rfl
theorem Gy:bj PW w (KX w.params) mg base cF 1 391 (Hd.fd jC "_law_dot" "_law_dot" fQ 390) ["_law_one","_law_other"] (cH qm):=by
 have B:=Bt e;have Q:=Qt e;exact bI (N:=qg) (zS e).fn FG (λ cdv A outer s H E hr=>(az (a9 (eH (Lh rfl) (ab (iE (Nc:=["_law_a","_law_b"]) (cz.look (ai jC) ["_law_one","_law_other"] (by decide+kernel)) (qH (nO.g 0) B.oQ (ab (nO.nm 0) (ab (nO.nm 1) aj))) (λ _ _ _ _=>(oC rfl (show(["_law_a","_law_b"]:List Str).Nodup by decide+kernel))) (λ _ _ _ _=>d4) (λ _ _ _ _=>(aG cD fv fv)) vd) aj) B.Le rfl GU (nO.d 1) (nO.g 1))))) EV
theorem uI:bV (KX w.params) mg "_law_own" "_law_own" lp ["_law_steps"] 398 (Hd.fd lp "_law_own" "_law_own" fQ 397):=Hd.uP e.X e.G (by kernel_rfl) λ _ _ _ _ _ _ _=>rfl
theorem zh:bj PW w (KX w.params) mg base cF 2 398 (Hd.fd lp "_law_own" "_law_own" fQ 397) ["_law_steps"] (cH qx):=by
 have B:=Bt e;have Q:=Qt e
 exact bI (N:=qv) (uI e).fn fi (λ cdv A outer s H E hr=>(ao (aH fi.nd (aW.l 1) (oM (ab av aj)))
  (ao (aH fi.nd (aW.l 2) (oM aj))
  (ao (dR (jt (aW.nm 0)) (eJ fi.nd) (ao (aH fi.nd (aW.l 4) (oM aj))
  (ao (dR (fW (aW.g 1) B.eO (ab (aG dv (eH fV (ab (aW.nm 2) aj) B.fU rfl eR (aW.d 0) (aW.g 0)) av) aj)) (eJ fi.nd) (ao (aH fi.nd (aW.l 6) (bf (zS e) (Gy e) (hr.mono (by decide)) (ab (aW.nm 3) (ab (aL (aW.nm 0) (aW.nm 5)) aj)) (aW.d 2) (aW.g 2)))
  (ao (aH fi.nd (aW.l 7) (aL (aG P8 (aW.nm 2) (m7 (ab (aW.nm 4) aj))) (aW.nm 5)))
  (ao (dR (fW (aW.g 1) B.eO (ab (aW.nm 5) aj)) (eJ fi.nd) (ao (aH fi.nd (aW.l 9) (aG cD (aL (aW.nm 4) (aW.nm 8)) (aL (aW.nm 7) (aW.nm 8))))
  (az (aH fi.nd (aW.l 6) (aG pQ (aG dU (aG cD (aL (aW.nm 1) (aG dv (aW.nm 8) av)) (aW.nm 6)) (aW.nm 9)) (aL (aW.nm 1) (aW.nm 8)))))))
  (az (dH (iJ (aW.nm 4) (aW.nm 6))))))))
  (ao (fy (cR (oh hr) (cJ _) (aL (aW.nm 4) (gM av)) av) (az (a9 xQ)) d_)
  (ao (dH (iJ (aW.nm 1) (aL (aW.nm 4) (gM av))))
  (az (dH (iJ (aW.nm 2) (aW.nm 4)))))))))
  (az (a9 (oX (ab (aW.nm 1) (ab (aW.nm 2) aj))))))))) Fc
theorem td:bV (KX w.params) mg "_law_product" "_law_product" fY ["_law_one","_law_other"] 403 (Hd.fd fY "_law_product" "_law_product" fQ 402):=Hd.jB e.X e.G (by kernel_rfl) λ _ _ _ _ _ _ _ _=>rfl
theorem zY:bj PW w (KX w.params) mg base cF 1 403 (Hd.fd fY "_law_product" "_law_product" fQ 402) ["_law_one","_law_other"] (cH ot):=by
 have B:=Bt e;have Q:=Qt e
 exact bI (N:=kI) (td e).fn gv (λ cdv A outer s H E hr=>(ao (aH gv.nd (bE.l 2) (oM aj))
  (ao (dR (jt (bE.nm 0)) (eJ gv.nd) (ao (aH gv.nd (bE.l 4) (aG cD (m7 (ab av aj)) (eH fV (ab (aL (bE.nm 1) av) aj) B.fU rfl eR (bE.d 0) (bE.g 0))))
  (ao (dR (qH (bE.g 1) B.oQ (ab (bE.nm 3) (ab (bE.nm 1) aj))) (oC rfl gv.nd) (az (yZ gv.nd (bE.l 4) (Nc:=["_law_a","_law_b","_law_weight"]) (cz.look (ai fY) ["_law_one","_law_other","_law_found","_law_weights","_law_made","_law_weight","_law_row"] (by decide+kernel)) (qH (bE.g 1) B.oQ (ab (bE.nm 4) (ab (bE.nm 6) aj))) (λ _ _ _ _=>(oC rfl (show(["_law_a","_law_b","_law_weight"]:List Str).Nodup by decide+kernel))) (λ _ _ _ _=>d4) (λ _ _ _ _=>(aG dv fv (aG cD fv fv))) vd)))
  (az (dH (iJ (bE.nm 2) (gE fm (ab (bE.nm 4) aj) B.eP rfl dD (bE.d 2) (bE.g 2))))))))
  (az (a9 (gE fm (ab (bE.nm 2) aj) B.eP rfl dD (bE.d 2) (bE.g 2))))))) yH
theorem uF:bV (KX w.params) mg "_law_inside" "_law_inside" iF ["_law_made","_law_row"] 410 (Hd.fd iF "_law_inside" "_law_inside" fQ 409):=Hd.jB e.X e.G (by kernel_rfl) λ _ _ _ _ _ _ _ _=>rfl
theorem AM:bj PW w (KX w.params) mg base cF 7 410 (Hd.fd iF "_law_inside" "_law_inside" fQ 409) ["_law_made","_law_row"] (cH pM):=by
 have B:=Bt e;have Q:=Qt e
 exact bI (N:=mB) (uF e).fn s_ (λ cdv A outer s H E hr=>(ao (aH s_.nd (bJ.l 2) (bf (BO e) (IJ e) (hr.mono (by decide)) (ab (bJ.nm 0) (ab (bJ.nm 1) aj)) (bJ.d 0) (bJ.g 0)))
  (ao (fy (ER (As (FT (xo (eH Rk (ab (bJ.nm 2) (ab (Tr B.eP rfl dD (bJ.d 1) (bJ.g 1)) aj)) B.CL rfl Ac (bJ.d 2) (bJ.g 2)))) (As (cR Bh (cJ _) (eH fV (ab (bJ.nm 2) aj) B.fU rfl eR (bJ.d 3) (bJ.g 3)) av) (Gp (cR (K6 hr) (cJ _) (aL (bJ.nm 2) av) Ek))))) (az (a9 yo)) d_)
  (az (a9 (KP (oh hr) (cJ _) (bf (td e) (zY e) (hr.mono (by decide)) (ab (m7 (ab (aL (bJ.nm 2) av) aj)) (ab (bJ.nm 0) aj)) (bJ.d 4) (bJ.g 4)) (oX (ab (gE fm (ab (bJ.nm 1) aj) B.eP rfl dD (bJ.d 1) (bJ.g 1)) aj)))))))) zW
theorem Ql:bV (KX w.params) mg "law" "law" oF ["_law_script"] 415 (Hd.fd oF "law" "law" fQ 414):=Hd.uP e.X e.G (by kernel_rfl) λ _ _ _ _ _ _ _=>rfl
theorem QN:bj PW w (KX w.params) mg base cF 8 415 (Hd.fd oF "law" "law" fQ 414) ["_law_script"] (cH K8):=by
 have B:=Bt e;have Q:=Qt e
 exact bI (N:=AF) (Ql e).fn l_ (λ cdv A outer s H E hr=>(ao (dR (wI (bN.g 1) B.eO (ab av (ab (aG dv av (eH fV (ab (lx (bN.nm 0) (j9 av) (j9 av)) aj) B.fU rfl eR (bN.d 0) (bN.g 0))) aj))) (eJ l_.nd) (ao (aH l_.nd (bN.l 2) (bf (yi e) (EA e) (hr.mono (by decide)) (ab (bN.nm 0) (ab (bN.nm 1) aj)) (bN.d 2) (bN.g 2)))
  (ao (aH l_.nd (bN.l 3) (bf (vH e) (Dc e) (hr.mono (by decide)) (ab (bN.nm 2) aj) (bN.d 3) (bN.g 3)))
  (ao (aH l_.nd (bN.l 4) (bf (uI e) (zh e) (hr.mono (by decide)) (ab (bN.nm 3) aj) (bN.d 4) (bN.g 4)))
  (ao (fy (cR OV (cJ _) (bN.nm 4) xQ) (az C8) d_)
  (ao (aH l_.nd (bN.l 5) (aL (bf (Dy e) (Nq e) (hr.mono (by decide)) (ab (bN.nm 3) aj) (bN.d 5) (bN.g 5)) av))
  (ao (aH l_.nd (bN.l 6) (bf (uI e) (zh e) (hr.mono (by decide)) (ab (bN.nm 5) aj) (bN.d 4) (bN.g 4)))
  (ao (fy (ER (As (cR OV (cJ _) (bN.nm 6) xQ) (As (cR Bh (cJ _) (aL (aL (bN.nm 6) av) (gM av)) (aL (aL (bN.nm 4) av) (gM av))) (Gp (cR (K6 hr) (cJ _) (aL (bf (oH e) (sF e) (hr.mono (by decide)) (ab (bN.nm 5) aj) (bN.d 6) (bN.g 6)) av) (aL (bf (oH e) (sF e) (hr.mono (by decide)) (ab (bN.nm 3) aj) (bN.d 6) (bN.g 6)) av)))))) (az (a9 yo)) d_)
  (ao (yZ l_.nd (bN.l 7) (Nc:=["_law_j","_law_steps","_law_left_here"]) (cz.look (ai oF) ["_law_script","_law_k","_law_left_here","_law_steps","_law_due","_law_made","_law_found","_law_weights","_law_row"] (by decide+kernel)) (fW (bN.g 1) B.eO (ab av aj)) (λ _ _ _ _=>(eJ (show(["_law_j","_law_steps","_law_left_here"]:List Str).Nodup by decide+kernel))) (λ _ _ _ _=>d4) (λ _ _ _ _=>(iE (Nc:=["_law_step","_law_left_here"]) (cz.KZ (by decide+kernel)) (jt fv) (λ _ _ _ _=>(eJ (show(["_law_step","_law_left_here"]:List Str).Nodup by decide+kernel))) (λ _ _ _ _=>d4) (λ _ _ _ _=>(aG dU (bf (fM e) (gp e) (hr.mono (by decide)) (ab fv (ab av aj)) (by decide+kernel) rfl) av)) eK)) eK)
  (az (dR (jt (aG dv (gE rj (ab (lx (bN.nm 3) m4 (j9 av)) aj) B.pV rfl mS (bN.d 7) (bN.g 7)) (gE rj (ab (bf (zA e) (FL e) (hr.mono (by decide)) (ab (bN.nm 7) (ab (bN.nm 3) aj)) (bN.d 8) (bN.g 8)) aj) B.pV rfl mS (bN.d 7) (bN.g 7)))) (eJ l_.nd) (az (fy (FT (xo (bf (uF e) (AM e) (hr.mono (by decide)) (ab (bN.nm 5) (ab (bN.nm 8) aj)) (bN.d 9) (bN.g 9)))) (az (a9 yo)) d_)))))))))))))
  (az (a9 yo)))) PZ
end
def dL:DefRec:=match oF with
 | .FunctionDef n a b _ _ _ sc _ _ pos=>⟨n,a,b,sc,pos⟩
 |_=>⟨"",L2.kh (.Pass ⟨0,0,0,0⟩),[],L2.ai (.Pass ⟨0,0,0,0⟩),⟨0,0,0,0⟩⟩
theorem JD:PySem.Challenge.rw_latticeworks_k35_the_same_sums.wellSaid=true:=by decide+kernel
end Row
open PySem PySem.W PyProof.Rows
set_option maxRecDepth 100000 in
set_option maxHeartbeats 0 in
theorem PySem.Challenge.cw_latticeworks_k35_the_same_sums_holds : PySem.Challenge.rw_latticeworks_k35_the_same_sums.Holds := by
 refine PySem.W.holds_law Row.JD λ JD=>?_;refine PySem.W.holds_open (r:=PySem.Challenge.rw_latticeworks_k35_the_same_sums.row) (q:=PySem.W.view Row.PW [1,2,4,5,6,7,8,9,10,12,13,14,15,16,17,18,19,20,22,23,24,26,27,28,29,30,31,32,34,35,37,38,39,40,42,43,44,45,46,47,48,49,50,51,52]) (loose:=[]) (Xt:=λ _=>true) (XP:=λ _ _=>True) (YP:=(PySem.W.kmHook Row.KX Row.KA (λ _=>rfl) [217]).says) (d:=Row.dL) (kwd:=[]) Row.left ((PySem.W.kmHook Row.KX Row.KA (λ _=>rfl) [217]).of) ((PySem.W.kmHook Row.KX Row.KA (λ _=>rfl) [217]).keeps) (λ _ _=>trivial) (λ _ _ _ _ _=>trivial) (by kernel_rfl) (by kernel_rfl) (by kernel_rfl) (λ s _=>PySem.W.recFacts_of (R:=[]) rfl) (by kernel_rfl) JD (by decide+kernel) ⟨rfl,rfl,rfl,rfl,rfl,by decide+kernel⟩ ?hw ?hc;case hw=>w_witness2
 refine L2.Ru (n:=63) (k:=8) (x:="_law_script") (ts:=[(219,217)]) (K:=Row.KX) (sp:=λ w=>L3.HS (Row.KX w.params) [(219,217)]) rfl (by decide) (by kernel_rfl) ⟨rfl,by decide,by decide⟩ (by kernel_rfl) rfl (λ w h Y=>⟨PySem.W.km_in_of Y,⟨(λ q hq=>by rcases Ux.mp hq with rfl|hq;kernel_rfl;cases hq),(λ q hq=>by rcases Ux.mp hq with rfl|hq;kernel_rfl;cases hq),λ q hq=>PySem.W.km_tabs_of Y _ (XO (f:=Prod.snd) hq)⟩⟩) ?F λ _ _ a ns hl hE=>⟨a,ns,rfl,hE,hl,λ _=>rfl⟩
 intro w mg fa h X G hmg;have e2:=hmg.symm.trans (Y1 (v:= .ref 415) X G (by kernel_rfl));cases e2;exact⟨Hd.fd Row.oF "law" "law" Row.fQ 414,λ s v=> .of_eq rfl,λ base _ _=>(Row.QN ⟨X,G⟩).imp λ vs H Q E h=>L3.Gu (tl:=[(217,⟨113,32,113,66⟩,"Bench.live_rows.<locals>.<lambda>")]) (by kernel_rfl) rfl (by decide) h⟩
