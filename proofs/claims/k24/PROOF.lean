import PyProof.Rows.All
import Wide.All
import OpenK.AllK
import Wide.FinOn
import Lean
import PyProof.EqAt
import PyProof.EqKinds
import PyProof.TupleCall
import PyProof.NeKinds
import KE.KUnpack
import PyProof.CallStr
import PySem.Challenge.RW_latticeworks_k24_papers_of_numbers
set_option Elab.async false
set_option linter.all false
set_option maxRecDepth 100000
def Tr:=@PySem.wpAny_bind
def Ts:=@Nat.le_of_ble_eq_true
def Tt:=@List.getElem?_eq_some_iff
def Tu:=@Nat.le_refl
def Tv:=@if_neg
def Tw:=@List.length_map
def Tx:=@List.getElem?_set_ne
def Tz:=@PySem.Heap.get?_push_of_some
def TB:=@Nat.le_trans
def TC:=@if_pos
def TF:=@List.getElem?_append_left
def TH:=@PySem.wpAny_pure
def TJ:=@List.getElem?_set_self
def TK:=@Ne.symm
def TL:=@List.size_toArray
def TM:=@List.getElem?_eq_getElem
def TN:=@PySem.Heap.lt_size
def TQ:=@List.length_set
def TR:=@Int.mul_zero
def TU:=@List.mem_cons
def TV:=@Nat.pow_le_pow_right
def TX:=@PySem.Heap.get?_push_size
def TY:=@List.mem_cons_of_mem
def TZ:=@Int.toNat_natCast
def T3:=@List.not_mem_nil
def T4:=@Nat.zero_le
def T5:=@List.mem_map
def T6:=@decide_eq_false
def T7:=@List.getElem?_map
def T8:=@Nat.lt_of_lt_of_le
def T9:=@List.mem_append_right
def T_:=@Nat.mul_le_mul_right
def Ua:=@List.mem_cons_self
def Ub:=@Bool.and_eq_true
def Uc:=@List.getElem?_append_right
def Ud:=@List.length_append
def Ue:=@Nat.ne_of_lt
def Ug:=@List.getD_eq_getElem?_getD
def Uh:=@List.mem_append
def Ui:=@List.mem_of_getElem?
def Uj:=@List.map_cons
def Uk:=@Nat.mul_le_mul_left
def Ul:=@decide_eq_true
def Um:=@List.all_eq_true
def Uo:=@Bool.false_ne_true
def Up:=@PySem.W.mg_none_of
def Uq:=@List.range_succ_eq_map
def Ur:=@Int.natAbs_mul
def Ut:=@Nat.mul_le_mul
def Uu:=@Nat.mul_assoc
def Uv:=@List.length_cons
def Uw:=@List.lookup_cons
def Ux:=@PySem.mem_of_lookup
def Uz:=@Nat.lt_succ_self
def UA:=@Nat.lt_succ_of_lt
def UB:=@PySem.wpAny_field
def UC:=@List.length_singleton
def UD:=@List.map_map
def UE:=@Option.some.inj
def UG:=@List.mem_iff_getElem
def UH:=@Nat.not_lt_zero
def UI:=@List.mem_singleton
def UJ:=@Int.eq_ofNat_of_zero_le
def UK:=@List.map_congr_left
def UL:=@List.drop_eq_getElem_cons
def UM:=@PySem.Heap.SameBut.update
def UN:=@PySem.wpAny_callSpecial?_slot
def UO:=@Nat.le_of_lt
def UP:=@PySem.wpAny_newObj_type
def UQ:=@List.mem_or_eq_of_mem_set
def UR:=@Nat.le_of_not_lt
def US:=@PyProof.Rows.callWith_type1
def UT:=@not_false_eq_true
def UU:=@PyProof.Rows.slot_tuple_getitem
def UW:=@Int.zero_mul
def UX:=@Int.mul_comm
def UY:=@List.length_take
def UZ:=@PySem.wpAny_call_entry
def U8:=@List.all_cons
def U9:=@PySem.Heap.size_push
def U_:=@Int.mul_one
def Va:=@PySem.W.kia_one
def Vb:=@List.append_nil
def Vc:=@Nat.le_mul_of_pos_right
def Vd:=@List.mem_append_left
def Ve:=@or_false
def Vf:=@List.getElem_mem
def Vg:=@Nat.sub_self
def Vh:=@Nat.pow_succ
def Vi:=@List.drop_eq_nil_of_le
def Vj:=@Int.fmod_nonneg_of_pos
def Vk:=@List.replicate_succ
def Vl:=@Nat.lt_irrefl
def Vm:=@List.length_eq_zero_iff
def Vn:=@congrArg
def Vo:=@Nat.mul_left_comm
def Vp:=@Nat.mul_comm
def Vq:=@PySem.wpAny_of_eq
def Vr:=@Int.add_zero
def Vs:=@PySem.wpAny_mono
def Vt:=@Int.mul_assoc
def Vu:=@Bool.true_and
def Vv:=@List.mem_range
def Vw:=@PySem.Heap.get?_update_self
def Vx:=@PySem.builtinLookup_eq_fast
def Vy:=@Int.fmod_lt_of_pos
def Vz:=@Nat.one_le_two_pow
def VA:=@Nat.pow_add
def VB:=@List.cons.injEq
def VC:=@Int.le_of_lt
def VD:=@Nat.lt_or_ge
def VE:=@PySem.wpAny_truthy_bool
def VG:=@List.flatten_cons
def VH:=@List.append_assoc
def VI:=@PySem.wpAny_holding
def VJ:=@beq_eq_false_iff_ne
def VL:=@PySem.wpAny_seqItems
def VM:=@Int.natAbs_neg
def VN:=@beq_iff_eq
def VO:=@PySem.W.cellsFrom_some
def VP:=@List.take_of_length_le
def VQ:=@Nat.add_mul
def VR:=@Nat.ne_of_gt
def VT:=@PySem.Obj.data_mapFields
def VU:=@PySem.wpAny_setField_rec
def VV:=@Int.zero_add
def VW:=@PySem.wpAny_passesOwn
def VX:=@List.map_append
def VY:=@PySem.F.slot_tuple_iterator_next
def VZ:=@PySem.wpAny_attempt
def V0:=@Classical.byContradiction
def V1:=@PySem.sizeLine_eq
def V2:=@Nat.add_le_add
def V3:=@Option.isSome_iff_exists
def V4:=@Int.le_trans
def V5:=@Array.length_toList
def V6:=@Int.dvd_trans
def V7:=@PySem.wpAny_rule
def V8:=@PySem.wpAny_Call_Name_kw
def V9:=@List.nodup_cons
def V_:=@Bool.false_eq_true
def Wa:=@Option.map_some
def Wb:=@PySem.wpAny_pyIter_tuple
def Wc:=@PySem.typeLookup_type
def Wd:=@Int.natCast_add
def We:=@PySem.Heap.get?_update_other
def Wf:=@and_true
def Wg:=@Nat.le_mul_of_pos_left
def Wh:=@PySem.wpAny_pyIter_list
def Wi:=@Bool.false_and
def Wj:=@PySem.isSubtype_type
def Wk:=@Classical.choose_spec
def Wl:=@List.getElem_set_self
def Wm:=@List.length_drop
def Wn:=@PySem.F.slot_tuple_mul
def Wo:=@PySem.wpAny_isInstance
def Wq:=@List.getElem_map
def Wr:=@PySem.wpAny_standAt
def Ws:=@List.cons.inj
def Wt:=@if_true
def Wu:=@List.filterMap_cons
def Wv:=@Int.eq_zero_of_dvd_of_natAbs_lt_natAbs
def Ww:=@List.getElem_set_ne
def Wx:=@PyProof.Rows.get?_update_seq
def Wy:=@PySem.wpAny_specialOf
def Wz:=@List.length_nil
def WA:=@List.mem_filterMap
def WB:=@List.getElem?_take_of_lt
def WC:=@PySem.F.args_tuple_add_2
def WD:=@if_false
def WE:=@not_or
def WG:=@Int.sub_eq_add_neg
def WH:=@Nat.lt_or_gt_of_ne
def WI:=@Int.dvd_refl
def WJ:=@PySem.call_meets
def WK:=@PySem.wpAny_setField
def WL:=@PySem.F.entry_tuple_add
def WM:=@List.getElem?_cons_succ
def WN:=@PySem.W.kitx_list
def WO:=@PySem.W.kitx_dict
def WQ:=@PySem.F.slot_tuple_add
def WR:=@Nat.one_mul
def WS:=@Nat.mul_add
def WT:=@List.any_cons
def WU:=@beq_self_eq_true
def WV:=@Int.dvd_antisymm
def WW:=@PySem.Obj.isFreed_of_fields
def WX:=@List.lookup_cons_self
def WY:=@PySem.wpAny_execs_nil
def WZ:=@Bool.eq_iff_iff
def W0:=@Nat.le_of_eq
def W2:=@List.of_mem_zip
def W3:=@PySem.wpAny_typeOf
def W4:=@PySem.F.slot_int_rmul
def W5:=@PySem.wpAny_ite_false
def W6:=@bne_iff_ne
def W7:=@Bool.or_eq_true
def W8:=@PySem.wpAny_updateSeq_pair
def W9:=@PySem.F.slot_zip_next
def W_:=@PySem.F.args_object_init_2
def Xa:=@Bool.and_eq_true_iff
def Xb:=@PySem.Around.under_plainId
def Xd:=@List.range_succ
def Xe:=@PySem.W.plainGet_of
def Xf:=@List.getElem?_range
def Xg:=@List.mem_map_of_mem
def Xh:=@Bool.and_false
def Xi:=@PySem.F.args_tuple_iterator_next_1
def Xj:=@Nat.le_succ
def Xk:=@Int.one_mul
def Xl:=@PyProof.Rows.assignInOrder_cons
def Xm:=@PySem.W.callWith_K
def Xn:=@PySem.F.args_tuple_mul_2
def Xo:=@PySem.F.entry_tuple_iterator_next
def Xp:=@Nat.mul_right_comm
def Xq:=@List.pairwise_cons
def Xr:=@Nat.lt_of_le_of_lt
def Xs:=@List.getElem_range
def Xu:=@PySem.Calls.Name_function_global
def Xv:=@PySem.wpAny_onRaise
def Xw:=@PyProof.Rows.listUpdate_at
def Xx:=@PySem.plainId_quiet
def Xy:=@Int.fdiv_eq_ediv_of_nonneg
def Xz:=@Int.le_of_dvd
def XA:=@Nat.le_of_succ_le
def XB:=@PySem.F.entry_tuple_mul
def XC:=@List.pairwise_map
def XD:=@decide_eq_true_eq
def XE:=@Int.gcd_dvd_right
def XF:=@of_decide_eq_true
def XG:=@PySem.typeIs_int
def XH:=@PySem.wpAny_binaryOp_repeat_ref
def XI:=@List.getElem?_eq_none_iff
def XJ:=@PySem.codeAny_mono
def XM:=@PySem.noFill_tuple_add
def XN:=@PySem.wpAny_comprehension_free
def XO:=@List.all_map
def XQ:=@decide_eq_decide
def XR:=@Int.ne_of_gt
def XS:=@Nat.lt_of_not_le
def XT:=@List.getElem?_replicate
def XW:=@Nat.add_sub_cancel_left
def XX:=@PyProof.Rows.IsTup.new
def XY:=@List.forIn_cons
def XZ:=@beq_false_of_ne
def X8:=@PySem.codeAny_builtin
def X9:=@Prod.mk.inj
def X_:=@PySem.wpAny_letGo
def Yb:=@Int.neg_mul
def Yc:=@Nat.mul_pos
def Yd:=@Nat.log2_lt
def Ye:=@List.zipWith_cons_cons
def Yg:=@List.getElem_replicate
def Yh:=@PySem.W.methodCall_KW
def Yi:=@List.length_replicate
def Yj:=@List.forIn_nil
def Yk:=@List.getElem?_toArray
def Yl:=@List.getElem?_eq_none
def Ym:=@PySem.isSubtype_stop
def Yn:=@PySem.F.called_tuple
def Yo:=@List.contains_iff_mem
def Yp:=@Int.mul_fdiv_add_fmod
def Yq:=@Int.natAbs_pos
def Yr:=@List.set_append_right
def Ys:=@List.filterMap_append
def Yt:=@PySem.seq_tuple_add
def Yu:=@PySem.wpAny_newList
def Yv:=@Prod.mk.injEq
def Yw:=@PySem.signature?_of
def Yx:=@PySem.W.mg_of
def Yy:=@PySem.concat_meets
def Yz:=@Nat.succ_mul
def YA:=@Nat.min_self
def YB:=@PySem.callType_new
def YC:=@Nat.zero_add
def YD:=@List.any_map
def YE:=@Nat.lt_trans
def YF:=@List.map_set
def YG:=@Nat.add_zero
namespace L2
open PySem PySem.Spec PyProof.Rows
abbrev Key:=Sum Int Str
def Ki:Key->Value->Bool
 | .inl k,v=>Value.isInt k v
 | .inr x,v=>Value.isStrOf x v
def Se(w:World):Key->Int
 | .inl k=>hashInt k
 | .inr x=>hashStr w x
theorem eD:∀ {k:Key} {v:Value},Ki k v=true->(∃i t,k=Sum.inl i/\v=Value.int i t)\/(∃x t,k=Sum.inr x/\v=Value.str x t)
 | .inl i,v,h=>by
   obtain⟨t,e⟩:=Value.isInt_shape (k:=i) (v:=v) h;exact .inl ⟨i,t,rfl,e⟩
 | .inr x,v,h=>by
   obtain⟨t,e⟩:=Value.isStrOf_shape (x:=x) (v:=v) h;exact .inr ⟨x,t,rfl,e⟩
theorem O0(a b:Int):decide ((Sum.inl a:Key)=Sum.inl b)=(a==b):=by
 by_cases e:a=b
 . subst e;simp
 . have h:¬(Sum.inl a:Key)=Sum.inl b:=λ q=>e (Sum.inl.inj q);rw[T6 h];exact(VJ.mpr e).symm
theorem OO(a b:Str):decide ((Sum.inr a:Key)=Sum.inr b)=decide (a=b):=by
 by_cases e:a=b
 . subst e;simp
 . have h:¬(Sum.inr a:Key)=Sum.inr b:=λ q=>e (Sum.inr.inj q);rw[T6 h,T6 e]
theorem NG(a:Int)(b:Str):decide ((Sum.inl a:Key)=Sum.inr b)=false:=T6 (λ q=>nomatch q)
theorem Ot(a:Str)(b:Int):decide ((Sum.inr a:Key)=Sum.inl b)=false:=T6 (λ q=>nomatch q)
def CQ(prog:Program)(w:World):PySem.KeyKind prog w Key where
 is:=Ki
 hash:=Se w
 inj:=λ v a b ha hb=>by
  rcases eD ha with⟨i,t,rfl,rfl⟩|⟨x,t,rfl,rfl⟩
  . rcases eD hb with⟨j,u,rfl,e⟩|⟨y,u,rfl,e⟩
    . injection e with e1 _;rw[e1]
    . exact nomatch e
  . rcases eD hb with⟨j,u,rfl,e⟩|⟨y,u,rfl,e⟩
    . exact nomatch e
    . injection e with e1 _;rw[e1]
 byValue:=λ k v h=>by
  rcases eD h with⟨i,t,rfl,rfl⟩|⟨x,t,rfl,rfl⟩<;>rfl
 pyHash:=λ hv h=>by
  rcases eD hv with⟨i,t,rfl,rfl⟩|⟨x,t,rfl,rfl⟩
  . exact wpAny_pyHash_int h
  . exact wpAny_pyHash_str h
 eqBool:=λ hu hv h=>by
  rcases eD hu with⟨i,t,rfl,rfl⟩|⟨x,t,rfl,rfl⟩
  . rcases eD hv with⟨j,u,rfl,rfl⟩|⟨y,u,rfl,rfl⟩
    . rw[O0]at h;exact wpAny_eqBool_int h
    . rw[NG]at h;exact SeqAt.EqAt.int_str i t y u _ _ _ _ h
  . rcases eD hv with⟨j,u,rfl,rfl⟩|⟨y,u,rfl,rfl⟩
    . rw[Ot]at h;exact SeqAt.EqAt.str_int x t j u _ _ _ _ h
    . rw[OO]at h;exact wpAny_eqBool_str h
 «strs» :=λ k x t v h=>by
  rcases eD h with⟨i,u,rfl,e⟩|⟨y,u,rfl,e⟩
  . exact nomatch e
  . injection e with e1 _;subst e1;cases v<;>rfl
inductive V where
 |ax|bl (b:Bool)|int (i:Int)|str (x:Str)|um (b:Array UInt8)|uk (b:UInt64)|ref (a:Addr)|ty (n:String)
 deriving DecidableEq
def RelV:V->Value->Prop
 | .ax,u=>u=Value.none
 | .bl b,u=>u=Value.bool b
 | .int i,u=>∃t,u=Value.int i t
 | .str x,u=>∃t,u=Value.str x t
 | .um b,u=>∃t,u=Value.bytes b t
 | .uk b,u=>∃t,u=Value.float b t
 | .ref a,u=>u=Value.ref a
 | .ty n,u=>u=Value.type n
abbrev Vals:List V->List Value->Prop:=Paired RelV
theorem Vals.length{xs:List V}{us:List Value}(r:Vals xs us):xs.length=us.length:=Paired.length r
theorem Vals.get:∀ {xs:List V} {us:List Value} {i:Nat} {x:V},Vals xs us->xs[i]?=some x->∃u,us[i]?=some u/\RelV x u
 |_,_,_,_,.nil,e=>by simp at e
 |_,_,0,_,.cons r _,e=>by simp at e;subst e;exact⟨_,rfl,r⟩
 |_,_,i+1,x,.cons _ t,e=>by
  obtain⟨u,h1,h2⟩:=Vals.get (i:=i) (x:=x) t (by simpa using e);exact⟨u,by simpa using h1,h2⟩
theorem Vals.set{x:V}{u:Value}(r:RelV x u):∀ {xs:List V} {us:List Value} (i:Nat),Vals xs us->Vals (xs.set i x) (us.set i u)
 |_,_,_,.nil=> .nil
 |_,_,0,.cons _ t=> .cons r t
 |_,_,i+1,.cons q t=> .cons q (Vals.set r i t)
theorem Vals.append:∀ {xs ys:List V} {us ws:List Value},Vals xs us->Vals ys ws->Vals (xs++ys) (us++ws)
 |_,_,_,_,.nil,s=>s
 |_,_,_,_,.cons r t,s=> .cons r (Vals.append t s)
theorem Vals.take:∀ {xs:List V} {us:List Value} (n:Nat),Vals xs us->Vals (xs.take n) (us.take n)
 |_,_,0,_=> .nil
 |_,_,_+1,.nil=> .nil
 |_,_,n+1,.cons r t=> .cons r (Vals.take n t)
theorem Vals.drop:∀ {xs:List V} {us:List Value} (n:Nat),Vals xs us->Vals (xs.drop n) (us.drop n)
 |_,_,0,r=>r
 |_,_,_+1,.nil=> .nil
 |_,_,n+1,.cons _ t=>Vals.drop n t
def oy:Option V->Option Value->Prop
 |some v,some u=>RelV v u
 |none,none=>True
 |_,_=>False
def KV{κ:Type}:List (κ×V)->List (κ×Value)->Prop:=Paired λ(p:κ×V) (q:κ×Value)=>p.1=q.1/\RelV p.2 q.2
def kV:Key->V
 | .inl i=> .int i
 | .inr x=> .str x
inductive HO where
 |lst (xs:List V)
 |tup (xs:List V)
 |dK (kvs:List (Key×V))|dT (kvs:List (List Key×V))
 |set (S:Int->Bool) (n:Nat)
 |ins (C dx:Addr) (fs:List (Str×V))
 |own (x:Addr)
 |xd (fs:List (Str×V))
 |met (f x:Addr)
 |OC (lo hi:Int)
 |e8 (o:Obj) (u:HO)
 |jV (ps:Array Value)
 |ext (φ:Heap->Prop)
abbrev Hp:=Addr->Option HO
def upd(H:Hp)(a:Addr)(o:HO):Hp:=λ b=>if b=a then some o else H b
theorem aW{H:Hp}{a:Addr}{o:HO}:upd H a o a=some o:=by unfold upd;rw[TC rfl]
theorem aw{H:Hp}{a b:Addr}{o:HO}(h:b≠a):upd H a o b=H b:=by unfold upd;rw[Tv h]
theorem Ml{H:Hp}{a:Addr}{o u:HO}:upd (upd H a o) a u=upd H a u:=by
 funext b;unfold upd;split<;>rfl
theorem di{H:Hp}{a b:Addr}{o:HO}(h:H a=some o)(h':H b=none):a≠b:=by
 intro e;subst e;rw[h]at h';cases h'
section
variable (P:Program)(w:World)
def c_(H:Hp)(h:Heap)(a:Addr):HO->Prop
 | .lst xs=>xs.length<=sizeLine/\∃(ai:List Value) (n:Nat),Vals xs ai/\h.get? a=some {cls:= .type "list",data:= .seq ai.toArray n}
 | .tup xs=>xs.length<=sizeLine/\∃ai:List Value,Vals xs ai/\IsTup h a ai.toArray
 | .dK kvs=>kvs.length<=sizeLine/\(a==sysModules)=false/\∃vs,KV kvs vs/\h.DictOf (CQ P w) a vs
 | .dT kvs=>kvs.length<=sizeLine/\(a==sysModules)=false/\∃xs:List (List Key×Addr×Value),
    Paired (λ(p:List Key×V) (q:List Key×Addr×Value)=>p.1=q.1/\H q.2.1=some (.tup (p.1.map kV))/\RelV p.2 q.2.2) kvs xs/\
    ∃o es ep,h.get? a=some o/\o.ExactDict/\o.data= .dict es ep/\es.toList=xs.map (entryOfKey (tupleKind (CQ P w)))/\(xs.map (·.1)).Nodup
 | .set S n=>h.SetOf (intKind P w) a S n
 | .ins C dx fs=>H dx=some (.own a)/\fs.length<=1000/\dx≠a/\h.get? a=some (PySem.W.instObj C dx)/\
    ∃mA,h.Ns1 dx mA/\(∀f,oy (fs.lookup f) (mA f))/\PySem.Within mA (fs.map (·.1))
 | .own _=>∃o,h.get? a=some o
 | .xd fs=>∃mA,h.Ns1 a mA/\∀f,oy (fs.lookup f) (mA f)
 | .OC lo hi=>∃t u v,h.get? a=some {cls:= .type "range",data:= .fields #[.int lo t,.int hi u,.int 1 v]}
 | .e8 o u=>h.get? a=some o/\c_ H h a u
 | .jV ps=>h.get? a=some {cls:= .none,data:= .fields ps}
 | .met f x=>h.get? a=some (PySem.W.methodObj (.ref f) (.ref x))
 | .ext φ=>φ h/\(∃o,h.get? a=some o)/\∀h1 h2:Heap,φ h1->(∀o,h1.get? a=some o->h2.get? a=some o)->φ h2
def gX(H:Hp)(h:Heap):Prop:=∀a o,H a=some o->c_ P w H h a o
end
section
variable {P:Program}{w:World}{H H':Hp}{h h':Heap}{a:Addr}{o:HO}
theorem c_.lt(x:c_ P w H h a o):a<h.objs.size:=by
 cases o with
 |lst xs=>obtain⟨_,_,_,_,e⟩:=x;exact TN e
 |tup xs=>obtain⟨_,_,_,p⟩:=x;exact p.lt
 |dK kvs=>obtain⟨_,_,_,_,o,_,_,e,_⟩:=x;exact TN e
 |dT kvs=>obtain⟨_,_,_,_,o,_,_,e,_⟩:=x;exact TN e
 |set S n=>obtain⟨o,_,_,_,e,_⟩:=x;exact TN e
 |ins C dx fs=>obtain⟨_,_,_,e,_⟩:=x;exact TN e
 |own y=>obtain⟨_,e⟩:=x;exact TN e
 |xd fs=>obtain⟨_,⟨_,_,_,e,_⟩,_⟩:=x;exact TN e
 |OC lo hi=>obtain⟨_,_,_,e⟩:=x;exact TN e
 |e8 ob u=>obtain⟨e,_⟩:=x;exact TN e
 |jV ps=>exact TN (show h.get? a=some _ from x)
 |met f y=>exact TN (show h.get? a=some _ from x)
 |ext φ=>obtain⟨_,⟨_,e⟩,_⟩:=x;exact TN e
theorem Paired.Il{α β:Type}{F G:α->β->Prop}:∀ {l₁:List α} {l₂:List β},Paired F l₁ l₂->(∀a b,F a b->G a b)->Paired G l₁ l₂
 |_,_,.nil,_=> .nil
 |_,_,.cons r t,f=> .cons (f _ _ r) (Paired.Il t f)
theorem c_.oq(x:c_ P w H h a o)(k:∀b u,(b=a\/H b=some (.own a))->h.get? b=some u->h'.get? b=some u)
 (ho:∀b,H b=some (.own a)->H' b=some (.own a)) (ht:∀b xs,H b=some (.tup xs)->H' b=some (.tup xs)):c_ P w H' h' a o:=by
 induction o with
 |lst xs=>obtain⟨z,ai,n,r,e⟩:=x;exact⟨z,ai,n,r,k _ _ (.inl rfl) e⟩
 |tup xs=>obtain⟨z,ai,r,ob,e,c⟩:=x;exact⟨z,ai,r,ob,k _ _ (.inl rfl) e,c⟩
 |dK kvs=>obtain⟨z,y,vs,r,ob,es,ep,e,c⟩:=x;exact⟨z,y,vs,r,ob,es,ep,k _ _ (.inl rfl) e,c⟩
 |dT kvs=>
  obtain⟨z,y,xs,r,ob,es,ep,e,c⟩:=x;exact⟨z,y,xs,Paired.Il r λ p q z=>⟨z.1,ht _ _ z.2.1,z.2.2⟩,ob,es,ep,k _ _ (.inl rfl) e,c⟩
 |set S n=>obtain⟨ob,es,ep,t,e,c⟩:=x;exact⟨ob,es,ep,t,k _ _ (.inl rfl) e,c⟩
 |ins C dx fs=>
  obtain⟨d,z,ne,e,mA,⟨od,es,ep,e2,c⟩,r⟩:=x;exact⟨ho _ d,z,ne,k _ _ (.inl rfl) e,mA,⟨od,es,ep,k _ _ (.inr d) e2,c⟩,r⟩
 |own y=>obtain⟨ob,e⟩:=x;exact⟨ob,k _ _ (.inl rfl) e⟩
 |xd fs=>obtain⟨mA,⟨od,es,ep,e,c⟩,r⟩:=x;exact⟨mA,⟨od,es,ep,k _ _ (.inl rfl) e,c⟩,r⟩
 |OC lo hi=>obtain⟨t,u,v,e⟩:=x;exact⟨t,u,v,k _ _ (.inl rfl) e⟩
 |e8 ob u ih=>obtain⟨e,q⟩:=x;exact⟨k _ _ (.inl rfl) e,ih q⟩
 |jV ps=>
  have e:h.get? a=some {cls:= .none,data:= .fields ps}:=x;show h'.get? a=some {cls:= .none,data:= .fields ps};exact k a _ (.inl rfl) e
 |met f y=>
  have e:h.get? a=some (PySem.W.methodObj (.ref f) (.ref y)):=x;show h'.get? a=some (PySem.W.methodObj (.ref f) (.ref y));exact k a _ (.inl rfl) e
 |ext φ=>obtain⟨p,⟨o,e⟩,st⟩:=x;exact⟨st _ _ p λ o q=>k _ _ (.inl rfl) q,⟨o,k _ _ (.inl rfl) e⟩,st⟩
theorem gX.lt(x:gX P w H h)(e:H a=some o):a<h.objs.size:=(x a o e).lt
theorem gX.fresh(x:gX P w H h)(e:h.objs.size<=a):H a=none:=by
 cases q:H a with
 |none=>rfl
 |some u=>exact absurd (T8 (x.lt q) e) (Vl _)
theorem gX.kept(x:gX P w H h)(k:∀b u,h.get? b=some u->h'.get? b=some u):gX P w H h':=λ a o e=>
 (x a o e).oq (λ b u _ q=>k b u q) (λ _ q=>q) λ _ _ q=>q
theorem gX.laid(x:gX P w H h)(k:∀b u,h.get? b=some u->h'.get? b=some u)(hp:h.objs.size<=a)(new:c_ P w (upd H a o) h' a o):gX P w (upd H a o) h':=λ b u e=>by
 have hn:=x.fresh hp;by_cases hb:b=a
 . subst hb;rw[aW]at e;cases e;exact new
 . rw[aw hb]at e;exact(x b u e).oq (λ c v _ q=>k c v q) (λ c q=>by rw[aw (di q hn)];exact q) λ c xs q=>by rw[aw (di q hn)];exact q
end
def Rd(H:Hp)(a:Addr)(u:HO):Prop:=H a=some u\/∃o,H a=some (.e8 o u)
theorem Rd.of{H:Hp}{a:Addr}{u:HO}(h:H a=some u):Rd H a u:= .inl h
theorem Rd.ok{P:Program}{w:World}{H:Hp}{h:Heap}{a:Addr}{u:HO}(r:Rd H a u)(x:gX P w H h):c_ P w H h a u:=by
 rcases r with r|⟨o,r⟩
 . exact x a u r
 . obtain⟨_,q⟩:=x a _ r;exact q
def JH:Option HO->Prop
 |some (.lst _)=>True
 |some (.dK _)=>True
 |some (.dT _)=>True
 |some (.set _ _)=>True
 |some (.ins _ _ _)=>True
 |some (.ext _)=>True
 |_=>False
section
variable {P:Program}{w:World}{H:Hp}{h h':Heap}{x e:Addr}{o':HO}
theorem gX.write(ok:gX P w H h)(mu:JH (H x))(he:e=x\/H e=some (.own x))(k:∀b u,b≠e->h.get? b=some u->h'.get? b=some u)(heo:∃u,h'.get? e=some u)
 (new:c_ P w (upd H x o') h' x o'):gX P w (upd H x o') h':=λ b u q=>by
 have nown:∀c y,H c=some (.own y)->c≠x:=λ c y r z=>by subst z;rw[r]at mu;exact mu
 have ntup:∀c xs,H c=some (.tup xs)->c≠x:=λ c xs r z=>by subst z;rw[r]at mu;exact mu
 by_cases hb:b=x
 . subst hb;rw[aW]at q;cases q;exact new
 . rw[aw hb]at q;by_cases hbe:b=e
   . have q':H b=some (.own x):=by
      rcases he with z|z
      . exact absurd (hbe.trans z) hb
      . rw[hbe];exact z
     rw[q]at q';cases q';obtain⟨v,hv⟩:=heo;exact⟨v,by rw[hbe];exact hv⟩
   . refine(ok b u q).oq (λ c v hc r=>k c v ?_ r) (λ c r=>by rw[aw (nown c b r)];exact r) λ c xs r=>by rw[aw (ntup c xs r)];exact r
     rcases hc with rfl|hc
     . exact hbe
     . rintro rfl;rcases he with z|z
       . exact nown c b hc z
       . rw[hc]at z;cases z;exact hb rfl
end
structure Un(fs ex:List Addr)(H H':Hp)(h h':Heap):Prop where
 keep:∀b o,h.get? b=some o->H b=none->b∉fs->b∉ex->h'.get? b=some o
 slot:∀b o,h.get? b=some o->H b=none->b∈fs->b∉ex->∃sl,h'.get? b=some {o with slots:=sl}
 free:∀b o,h.get? b=some o->H b=none->b∉ex->H' b=none
 there:∀b o,h.get? b=some o->b∉ex->∃o',h'.get? b=some o'
 ou:∀b xs,H b=some (.tup xs)->H' b=some (.tup xs)
 nj:∀b o u,H b=some (.e8 o u)->H' b=some (.e8 o u)
 nk:∀b ps,H b=some (.jV ps)->∃more,H' b=some (.jV (ps++more))
section
variable {fs fs' ex ex':List Addr}{H H1 H2:Hp}{h h1 h2 h':Heap}{a x e:Addr}{o:HO}
theorem Un.any(u:Un fs ex H H1 h h1){b:Addr}{ob:Obj}(q:h.get? b=some ob)(n:H b=none)(hx:b∉ex):∃sl,h1.get? b=some {ob with slots:=sl}:=by
 by_cases hb:b∈fs
 . exact u.slot b ob q n hb hx
 . exact⟨ob.slots,u.keep b ob q n hb hx⟩
theorem Un.kept(k:∀b u,h.get? b=some u->h'.get? b=some u):Un fs ex H H h h':=
 ⟨λ b ob q _ _ _=>k b ob q,λ b ob q _ _ _=>⟨ob.slots,k b ob q⟩,λ _ _ _ n _=>n,λ b ob q _=>⟨ob,k b ob q⟩,λ _ _ q=>q,λ _ _ _ q=>q,λ _ ps q=>⟨#[],by rw[q];simp⟩⟩
theorem Un.refl:Un fs ex H H h h:=Un.kept λ _ _ q=>q
theorem Un.laid(k:∀b u,h.get? b=some u->h'.get? b=some u)(hp:h.objs.size<=a)(hn:H a=none):Un fs ex H (upd H a o) h h' where
 keep:=λ b u q _ _ _=>k b u q
 slot:=λ b u q _ _ _=>⟨u.slots,k b u q⟩
 free:=λ b u q n _=>by rw[aw (Ue (T8 (TN q) hp))];exact n
 there:=λ b u q _=>⟨u,k b u q⟩
 ou:=λ b xs q=>by rw[aw (di q hn)];exact q
 nj:=λ b u xs q=>by rw[aw (di q hn)];exact q
 nk:=λ b ps q=>⟨#[],by rw[aw (di q hn),q];simp⟩
theorem Un.write(mu:JH (H x))(he:e=x\/H e=some (.own x))(k:∀b u,b≠e->h.get? b=some u->h'.get? b=some u)(heo:∃u,h'.get? e=some u):Un fs ex H (upd H x o) h h':=by
 have hx:∀b,H b=none->b≠x:=λ b n z=>by subst z;rw[n]at mu;exact mu
 have hb:∀b,H b=none->b≠e:=λ b n z=>by
  subst z;rcases he with r|r
  . exact hx b n r
  . rw[n]at r;cases r
 have hm:∀b u,H b=some u->¬JH (some u)->b≠x:=λ b u q nm z=>by subst z;rw[q]at mu;exact nm mu
 refine⟨λ b u q n _ _=>k b u (hb b n) q,λ b u q n _ _=>⟨u.slots,k b u (hb b n) q⟩,λ b u q n _=>by rw[aw (hx b n)];exact n,λ b u q _=>?_,
  λ b xs q=>by rw[aw (hm b _ q λ z=>z)];exact q,λ b u xs q=>by rw[aw (hm b _ q λ z=>z)];exact q,λ b ps q=>⟨#[],by rw[aw (hm b _ q λ z=>z),q];simp⟩⟩
 by_cases hbe:b=e
 . subst hbe;exact heo
 . exact⟨u,k b u hbe q⟩
end
def Jc(h:Heap)(H:Hp):List Addr:=(List.range h.objs.size).filter λ a=>(H a).isSome
def oj(h:Heap)(H:Hp):Heap:=PySem.W.hideAll h (Jc h H)
theorem GB(h:Heap)(H:Hp):(oj h H).objs.size=h.objs.size:=PySem.W.hideAll_size _ _
theorem qx{h:Heap}{H:Hp}{b:Addr}{o:Obj}(e:h.get? b=some o)(n:H b=none):(oj h H).get? b=some o:=
 PySem.W.hideAll_get _ e λ hm=>by
  have q:(H b).isSome=true:=(List.mem_filter.mp hm).2;rw[n]at q;simp at q
theorem Ly{h:Heap}{H:Hp}{b:Addr}{o:Obj}(e:(oj h H).get? b=some o):h.get? b=some o/\H b=none:=by
 have e':h.get? b=some o:=PySem.W.of_hideAll (Jc h H) e;refine⟨e',?_⟩;cases q:H b with
 |none=>rfl
 |some x=>
  have hm:b∈Jc h H:=List.mem_filter.mpr ⟨Vv.mpr (TN e'),by simp[q]⟩;have z:(oj h H).get? b=none:=PySem.W.hideAll_none (Jc h H) hm;rw[z]at e;cases e
def LU(g h:Heap)(L:Addr):List (Addr×Obj):=(List.range h.objs.size).filterMap λ a=>if a=L\/(g.get? a).isSome=true then none else(h.get? a).map λ o=>(a,o)
def rest(g h:Heap)(L d:Addr):List (Addr×Obj):=(LU g h L).filter λ p=>decide (p.1≠d)
structure Mod(K:PySem.W.Frag)(mg:Str->Option Value)(base:Heap):Prop where
 F4:K.In base
 glob:base.Ns mainGlobals mg
 blt:∃mb,base.Ns builtinsNs mb/\∀x:Str,x≠"__name__"->mb x=bootBuiltins x
 nolimit:base.NoLimit
 seer:base.NoSeer
 bmain:∃bm ob,mg "__builtins__"=some (.ref bm)/\bm≠builtinsNs/\base.get? bm=some ob/\ob.cls= .type "module"/\ob.dict=some builtinsNs/\ob.data= .plain
structure Cx where
 prog:Program
 w:World
 K:PySem.W.Frag
 mg:Str->Option Value
 base:Heap
 A:Around
 N:List Str
 s₀:Shared
 H₀:Hp
 env:Env
 outer:List Env
 stack:List Env
 ex:List Addr
 fn:Str->Bool
 calm:Bool
 pn:List (Addr×Obj)
 xe:Value->Shared->Prop
def oP(l:List Env):List Addr:=l.filterMap (·.frame)
abbrev Cx.fs(X:Cx):List Addr:=oP X.outer
def Ad(sc:Scope)(x:Str):Prop:=sc.names.lookup x=some .local\/sc.names.lookup x=some .cell\/sc.names.lookup x=some .free
def Loc(sc:Scope)(x:Str):Prop:=sc.names.lookup x=some .local\/sc.names.lookup x=some .cell
def Look(env:Env)(h:Heap)(m:Str->Option Value)(x:Str)(u:Value):Prop:=
 (env.kindOf x=some .local/\m x=some u)\/((env.kindOf x=some .cell\/env.kindOf x=some .free)/\∃c,env.cells.lookup x=some c/\h.IsCell c (some u))
structure Cx.Ok(X:Cx):Prop where
 mod:Mod X.K X.mg X.base
 kind:X.env.scope.kind= .function
 glob:X.env.globals=mainGlobals
 blt:X.env.builtins=builtinsNs
 above:X.s₀.heap.objs.size<=X.env.locals
 inj:∀x y c,X.env.cells.lookup x=some c->X.env.cells.lookup y=some c->x=y
 has:∀x,(X.env.kindOf x=some .cell\/X.env.kindOf x=some .free)->∃c,X.env.cells.lookup x=some c
 AX:∀x c,X.fn x=true->X.env.cells.lookup x=some c->X.s₀.heap.objs.size<=c
 hd:X.calm=true->X.A.handled=none
 frames:X.A.frames=some X.stack
 CI:X.stack=X.outer\/(X.stack=X.env::X.outer/\X.env.frame=some X.env.locals)
 Fq:∀b∈X.ex,b≠X.env.locals/\∀x c,X.env.cells.lookup x=some c->c≠b
 bs:∀b o,X.base.get? b=some o->X.s₀.heap.get? b=some o/\X.H₀ b=none
 sQ:X.base.objs.size<=X.s₀.heap.objs.size
 u9:∀b o,X.base.get? b=some o->b∉X.ex
 uH:∀b∈X.ex,b∉X.fs
 j_:X.s₀.heap.FunFrames X.base X.outer
 vM:∀b∈X.fs,X.H₀ b=none
 gt:X.prog.given.tree=none
structure Inv(X:Cx)(pins:List (Addr×Obj))(σ:List (Option V))(H:Hp)(s:Shared):Prop where
 ok:X.Ok
 os:s.os=X.s₀.os
 bare:AllBare s.gens
 base:Un X.fs X.ex X.H₀ H X.s₀.heap s.heap
 loc:∃m,s.heap.Ns X.env.locals m/\∀(i:Nat) (x:Str) (v:V),X.N[i]?=some x->σ[i]?=some (some v)->Ad X.env.scope x->∃u,RelV v u/\Look X.env s.heap m x u
 cell:∀x c,X.env.cells.lookup x=some c->∃v,s.heap.IsCell c v
 free:H X.env.locals=none
 ig:∀x c,X.env.cells.lookup x=some c->H c=none
 pin:∀p∈X.pn++pins,s.heap.get? p.1=some p.2/\H p.1=none/\p.1≠X.env.locals/\p.1∉X.fs/\∀v,p.2.data≠ .cell v
 aF:gX X.prog X.w H s.heap
 len:σ.length=X.N.length
section
variable {X:Cx}{pins:List (Addr×Obj)}{σ:List (Option V)}{H H':Hp}{s:Shared}{h':Heap}
theorem Cx.Ok.RZ(ok:X.Ok){b:Addr}{o:Obj}(e:X.base.get? b=some o):b∉X.fs:=λ hb=>by
 have:=(ok.j_.mem hb).1;rw[e]at this;cases this
theorem Inv.bs(I:Inv X pins σ H s):∀b o,X.base.get? b=some o->s.heap.get? b=some o/\H b=none:=λ b o e=>
 ⟨I.base.keep b o (I.ok.bs b o e).1 (I.ok.bs b o e).2 (I.ok.RZ e) (I.ok.u9 b o e),I.base.free b o (I.ok.bs b o e).1 (I.ok.bs b o e).2 (I.ok.u9 b o e)⟩
theorem Inv.bk(I:Inv X pins σ H s):∀b o,X.base.get? b=some o->s.heap.get? b=some o:=λ b o e=>(I.bs b o e).1
theorem Inv.mod(I:Inv X pins σ H s):Mod X.K X.mg X.base:=I.ok.mod
theorem Inv.gD(I:Inv X pins σ H s):X.K.In s.heap:=I.ok.mod.F4.keeps I.bk
theorem Inv.nolimit(I:Inv X pins σ H s):s.heap.NoLimit:=I.ok.mod.nolimit.keeps I.bk
theorem Inv.lt(I:Inv X pins σ H s):X.env.locals<s.heap.objs.size:=let⟨_,hn,_⟩:=I.loc;hn.lt
theorem Inv.sz(I:Inv X pins σ H s):X.s₀.heap.objs.size<=s.heap.objs.size:=TB I.ok.above (UO I.lt)
theorem Inv.Oc(I:Inv X pins σ H s){a:Addr}(h:s.heap.objs.size<=a):a∉X.fs:=λ hb=>by
 obtain⟨_,o,ho,_⟩:=I.ok.j_.mem hb;exact absurd (T8 (TN ho) (TB I.sz h)) (Vl _)
theorem Inv.AH(I:Inv X pins σ H s):∀x c,X.env.cells.lookup x=some c->c≠X.env.locals:=λ x c e z=>by
 obtain⟨v,o,ho,hd⟩:=I.cell x c e;obtain⟨m,⟨o',es,ep,ho',hd',_⟩,_⟩:=I.loc;rw[z,ho']at ho;cases ho;rw[hd']at hd;cases hd
theorem Inv.j_(I:Inv X pins σ H s):s.heap.FunFrames X.base X.outer:=by
 have all:∀(l:List Env),(∀b∈oP l,b∈X.fs)->X.s₀.heap.FunFrames X.base l->s.heap.FunFrames X.base l:=by
  intro l;induction l with
  |nil=>intro _ _;trivial
  |cons env r ih=>
   intro hs hl;obtain⟨hk,⟨L,o,hf,hn,ho,hd⟩,hr⟩:=hl;have hL:L∈X.fs:=hs L (by unfold oP;rw[Wu,hf];exact Ua);obtain⟨sl,e⟩:=I.base.slot L o ho (I.ok.vM L hL) hL λ z=>I.ok.uH L z hL;exact⟨hk,⟨L,_,hf,hn,e,hd⟩,ih (λ b hb=>hs b (by unfold oP;rw[Wu,hf];exact TY _ hb)) hr⟩
 exact all X.outer (λ _ hb=>hb) I.ok.j_
theorem Inv.stack(I:Inv X pins σ H s):s.heap.FunFrames X.base X.stack:=by
 rcases I.ok.CI with e|⟨e,hf⟩
 . rw[e];exact I.j_
 . rw[e];obtain⟨m,hn,_⟩:=I.loc;refine .cons (by rw[I.ok.kind];decide) hf hn ?_ I.j_;exact Heap.get?_none_of_le (TB I.ok.sQ I.ok.above)
theorem Inv.AD(I:Inv X pins σ H s):∀b∈oP X.stack,b∈X.env.locals::X.fs:=λ b hb=>by
 rcases I.ok.CI with e|⟨e,hf⟩
 . rw[e]at hb;exact TY _ hb
 . rw[e]at hb;unfold oP at hb;rw[Wu,hf]at hb;exact hb
theorem Inv.wL(I:Inv X pins σ H s):∀b∈oP X.stack,H b=none:=λ b hb=>by
 rcases TU.mp (I.AD b hb)with e|hb
 . rw[e];exact I.free
 . obtain⟨_,o,ho,_⟩:=I.ok.j_.mem hb;exact I.base.free b o ho (I.ok.vM b hb) λ z=>I.ok.uH b z hb
theorem Inv.step{g':Array GenState}{t':Nat}{d':Drawn}{ch:List Addr}(I:Inv X pins σ H s)
 (hch:∀b∈ch,(b∈X.ex\/X.s₀.heap.objs.size<=b)/\b≠X.env.locals/\(∀x c,X.env.cells.lookup x=some c->c≠b)/\∀p∈X.pn++pins,p.1≠b)
 (keep:∀b o,b≠X.env.locals->b∉X.fs->b∉ch->s.heap.get? b=some o->H b=none->h'.get? b=some o)
 (slot:∀b o,b≠X.env.locals->b∈X.fs->b∉ch->s.heap.get? b=some o->H b=none->∃sl,h'.get? b=some {o with slots:=sl}) (free:∀b o,b∉ch->s.heap.get? b=some o->H b=none->H' b=none)
 (there:∀b o,b∉ch->s.heap.get? b=some o->∃o',h'.get? b=some o')
 (ou:∀b xs,H b=some (.tup xs)->H' b=some (.tup xs)) (nj:∀b o u,H b=some (.e8 o u)->H' b=some (.e8 o u)) (nk:∀b ps,H b=some (.jV ps)->∃more,H' b=some (.jV (ps++more)))
 (ns:∀m,s.heap.Ns X.env.locals m->h'.Ns X.env.locals m) (aF:gX X.prog X.w H' h') (hg:AllBare g'):
 Inv X pins σ H' {s with heap:=h',gens:=g',drawn:=d',toks:=t'}:=by
 have neL:∀b o,X.s₀.heap.get? b=some o->b≠X.env.locals:=λ b o e=>Ue (T8 (TN e) I.ok.above)
 have neC:∀b o,X.s₀.heap.get? b=some o->b∉X.ex->b∉ch:=λ b o e hx hb=>by
  rcases(hch b hb).1 with z|z
  . exact hx z
  . exact absurd (T8 (TN e) z) (Vl _)
 have cellK:∀x c,X.env.cells.lookup x=some c->∀v,s.heap.IsCell c v->h'.IsCell c v:=λ x c e v ⟨o,ho,hd⟩=>by
  have nch:c∉ch:=λ z=>(hch c z).2.2.1 x c e rfl;by_cases hc:c∈X.fs
  . obtain⟨sl,q⟩:=slot c o (I.AH x c e) hc nch ho (I.ig x c e);exact⟨_,q,hd⟩
  . exact⟨o,keep c o (I.AH x c e) hc nch ho (I.ig x c e),hd⟩
 refine⟨I.ok,I.os,hg,⟨λ b o e n hb hx=>?_,λ b o e n hb hx=>?_,λ b o e n hx=>?_,λ b o e hx=>?_,λ b xs e=>ou b xs (I.base.ou b xs e),λ b o xs e=>nj b o xs (I.base.nj b o xs e),λ b ps e=>?_⟩,?_,λ x c e=>?_,?_,λ x c e=>?_,λ p hp=>?_,aF,I.len⟩
 . exact keep b o (neL b o e) hb (neC b o e hx) (I.base.keep b o e n hb hx) (I.base.free b o e n hx)
 . obtain⟨sl,e1⟩:=I.base.slot b o e n hb hx;obtain⟨sl',e2⟩:=slot b _ (neL b o e) hb (neC b o e hx) e1 (I.base.free b o e n hx);exact⟨sl',e2⟩
 . obtain⟨o',e1⟩:=I.base.there b o e hx;exact free b o' (neC b o e hx) e1 (I.base.free b o e n hx)
 . obtain⟨o',e1⟩:=I.base.there b o e hx;exact there b o' (neC b o e hx) e1
 . obtain⟨m1,e1⟩:=I.base.nk b ps e;obtain⟨m2,e2⟩:=nk b _ e1;exact⟨m1++m2,by rw[e2,Array.append_assoc]⟩
 . obtain⟨m,hn,hl⟩:=I.loc;refine⟨m,ns m hn,λ i x v e1 e2 e3=>?_⟩;obtain⟨u,r,l⟩:=hl i x v e1 e2 e3;refine⟨u,r,?_⟩;rcases l with l|⟨k,c,e,z⟩
   . exact .inl l
   . exact .inr ⟨k,c,e,cellK x c e _ z⟩
 . obtain⟨v,z⟩:=I.cell x c e;exact⟨v,cellK x c e v z⟩
 . obtain⟨m,⟨o,_,_,ho,_⟩,_⟩:=I.loc;exact free _ o (λ z=>(hch _ z).2.1 rfl) ho I.free
 . obtain⟨v,o,ho,hd⟩:=I.cell x c e;exact free c o (λ z=>(hch c z).2.2.1 x c e rfl) ho (I.ig x c e)
 . obtain⟨e,n,ne,nf,d⟩:=I.pin p hp;have nch:p.1∉ch:=λ z=>(hch p.1 z).2.2.2 p hp rfl;exact⟨keep p.1 p.2 ne nf nch e n,free p.1 p.2 nch e n,ne,nf,d⟩
theorem Inv.un{t':Nat}(I:Inv X pins σ H s)(u:Un X.fs [] H H' s.heap h')(aF:gX X.prog X.w H' h'):Inv X pins σ H' {s with heap:=h',toks:=t'}:=by
 obtain⟨m,⟨o,es,ep,ho,r⟩,_⟩:=id I.loc;obtain⟨sl,hL⟩:=u.any ho I.free (by simp)
 exact I.step (g':=s.gens) (d':=s.drawn) (ch:=[]) (λ _ z=>nomatch z) (λ b o _ hb _ e n=>u.keep b o e n hb (by simp)) (λ b o _ hb _ e n=>u.slot b o e n hb (by simp)) (λ b o _ e n=>u.free b o e n (by simp)) (λ b o _ e=>u.there b o e (by simp)) u.ou u.nj u.nk (λ m' hm=>by
  obtain⟨o',es',ep',ho',r'⟩:=hm;rw[ho]at ho';cases ho';exact⟨_,es',ep',hL,r'⟩) aF I.bare
theorem Inv.call{g':Array GenState}{t':Nat}{d':Drawn}{ch:List Addr}(I:Inv X pins σ H s)(u:Un (oP X.stack) ch H H' s.heap h')(aF:gX X.prog X.w H' h')(hg:AllBare g')
 (hch:∀b∈ch,(b∈X.ex\/X.s₀.heap.objs.size<=b)/\b≠X.env.locals/\(∀x c,X.env.cells.lookup x=some c->c≠b)/\∀p∈X.pn++pins,p.1≠b):
 Inv X pins σ H' {s with heap:=h',gens:=g',drawn:=d',toks:=t'}:=by
 obtain⟨m,⟨o,es,ep,ho,r⟩,_⟩:=id I.loc;obtain⟨sl,hL⟩:=u.any ho I.free λ z=>(hch _ z).2.1 rfl
 exact I.step (ch:=ch) hch (λ b o hL hb hc e n=>u.keep b o e n (λ z=>(TU.mp (I.AD b z)).elim hL hb) hc) (λ b o _ _ hc e n=>u.any e n hc) (λ b o hc e n=>u.free b o e n hc) (λ b o hc e=>u.there b o e hc) u.ou u.nj u.nk (λ m' hm=>by
  obtain⟨o',es',ep',ho',r'⟩:=hm;rw[ho]at ho';cases ho';exact⟨_,es',ep',hL,r'⟩) aF hg
theorem Inv.turned{t':Nat}{it:Addr}(I:Inv X pins σ H s)(k:∀b o,b≠it->s.heap.get? b=some o->h'.get? b=some o)(hn:H it=none)(hL:it≠X.env.locals)
 (h1:it∈X.ex\/X.s₀.heap.objs.size<=it) (h2:∀x c,X.env.cells.lookup x=some c->c≠it) (h3:∀p∈X.pn++pins,p.1≠it):Inv X pins σ H {s with heap:=h',toks:=t'}:=by
 have nit:∀b u,H b=some u->b≠it:=λ b u e z=>by rw[z,hn]at e;cases e
 refine I.step (g':=s.gens) (d':=s.drawn) (ch:=[it]) (λ b hb=>?_) (λ b o _ _ hc e _=>k b o (λ z=>hc (by simp[z])) e) (λ b o _ _ hc e _=>⟨o.slots,k b o (λ z=>hc (by simp[z])) e⟩) (λ _ _ _ _ n=>n)
  (λ b o hc e=>⟨o,k b o (λ z=>hc (by simp[z])) e⟩) (λ _ _ e=>e) (λ _ _ _ e=>e) (λ b ps e=>⟨#[],by rw[e];simp⟩) (λ m hm=>?_) (λ b u e=>?_) I.bare
 . have e:b=it:=by simpa using hb
   subst e;exact⟨h1,hL,h2,h3⟩
 . obtain⟨o,es,ep,ho,r⟩:=hm;exact⟨o,es,ep,k _ o (TK hL) ho,r⟩
 . refine(I.aF b u e).oq (λ c v hc q=>k c v ?_ q) (λ _ q=>q) λ _ _ q=>q;rcases hc with z|z
   . rw[z];exact nit b u e
   . exact nit c _ z
theorem Inv.tok(I:Inv X pins σ H s)(t:Nat):Inv X pins σ H {s with toks:=t}:=I.un (h':=s.heap) (t':=t) Un.refl I.aF
theorem Inv.kept{t':Nat}(I:Inv X pins σ H s)(k:∀b u,s.heap.get? b=some u->h'.get? b=some u):Inv X pins σ H {s with heap:=h',toks:=t'}:=I.un (Un.kept k) (I.aF.kept k)
theorem Inv.laid{a:Addr}{o:HO}{t':Nat}(I:Inv X pins σ H s)(k:∀b u,s.heap.get? b=some u->h'.get? b=some u)(hp:s.heap.objs.size<=a)(new:c_ X.prog X.w (upd H a o) h' a o):
 Inv X pins σ (upd H a o) {s with heap:=h',toks:=t'}:=I.un (Un.laid k hp (I.aF.fresh hp)) (I.aF.laid k hp new)
theorem Inv.write{x e:Addr}{o:HO}{t':Nat}(I:Inv X pins σ H s)(mu:JH (H x))(he:e=x\/H e=some (.own x))(k:∀b u,b≠e->s.heap.get? b=some u->h'.get? b=some u)(heo:∃u,h'.get? e=some u)
 (new:c_ X.prog X.w (upd H x o) h' x o):Inv X pins σ (upd H x o) {s with heap:=h',toks:=t'}:=I.un (Un.write mu he k heo) (I.aF.write mu he k heo new)
theorem Inv.sY{pins':List (Addr×Obj)}(I:Inv X pins σ H s)(h:∀p∈pins',s.heap.get? p.1=some p.2/\H p.1=none/\p.1≠X.env.locals/\p.1∉X.fs/\∀v,p.2.data≠ .cell v):Inv X pins' σ H s:=
 ⟨I.ok,I.os,I.bare,I.base,I.loc,I.cell,I.free,I.ig,λ p hp=>(Uh.mp hp).elim (λ z=>I.pin p (Vd _ z)) (h p),I.aF,I.len⟩
theorem Bw{N:List Str}(hN:N.Nodup){i j:Nat}{x:Str}(a:N[i]?=some x)(b:N[j]?=some x):i=j:=by
 obtain⟨h1,e1⟩:=Tt.mp a;obtain⟨h2,e2⟩:=Tt.mp b;exact(List.getElem_inj hN).mp (e1.trans e2.symm)
theorem yx{M:Model}{A:Around}{E:Value->Shared->Prop}{i:Nat}{x:Str}{v:V}{u:Value}{Q:Unit->Shared->Prop}(I:Inv X pins σ H s)(hN:X.N.Nodup)(hi:X.N[i]?=some x)(hx:Loc X.env.scope x)(r:RelV v u)
 (h:∀s',Inv X pins (σ.set i (some v)) H s'->(∃a,Heap.SameBut a s.heap s'.heap/\(a=X.env.locals\/X.env.cells.lookup x=some a))->Q () s') (hf:X.fn x=true\/X.env.scope.names.lookup x=some .local:=by first|exact .inl rfl|exact .inr rfl|assumption):wpAny M A (storeName X.env x u) Q E s:=by
 obtain⟨m,hn,hl⟩:=id I.loc;have hcls:(X.env.scope.kind== .class||(X.env.scope.kind== .module&&X.env.locals != X.env.globals))=false:=by rw[I.ok.kind];rfl
 have hiσ:i<σ.length:=by rw[I.len];exact(Tt.mp hi).1
 have AH:=I.AH
 have tracked:∀ {a:Addr} {h':Heap},(∃o,s.heap.get? a=some o/\H a=none)->Heap.SameBut a s.heap h'->gX X.prog X.w H h':=λ{a h'} ha hs b ob e=>by
  obtain⟨_,_,hfree⟩:=ha;refine(I.aF b ob e).oq (λ c w' hc q=>(hs.2 c ?_).trans q) (λ _ q=>q) λ _ _ q=>q;rintro rfl;rcases hc with rfl|hc
  . rw[hfree]at e;cases e
  . rw[hfree]at hc;cases hc
 rcases hx with hk|hk
 . refine wpAny_storeName_local hk hn (λ h' hn' hs=>?_) hcls;obtain⟨oL,_,_,hoL,_⟩:=id hn;refine h _ ⟨I.ok,I.os,I.bare,⟨λ b o e n hb hx=>?_,λ b o e n hb hx=>?_,I.base.free,λ b o e hx=>?_,I.base.ou,I.base.nj,I.base.nk⟩,⟨_,hn',λ j y v' e1 e2 e3=>?_⟩,λ y c e=>?_,I.free,I.ig,λ p hp=>?_,tracked ⟨oL,hoL,I.free⟩ hs,by simpa using I.len⟩ ⟨_,hs,.inl rfl⟩
   . exact(hs.2 b (Ue (T8 (TN e) I.ok.above))).trans (I.base.keep b o e n hb hx)
   . obtain⟨sl,e1⟩:=I.base.slot b o e n hb hx;exact⟨sl,(hs.2 b (Ue (T8 (TN e) I.ok.above))).trans e1⟩
   . obtain⟨o',e1⟩:=I.base.there b o e hx;exact⟨o',(hs.2 b (Ue (T8 (TN e) I.ok.above))).trans e1⟩
   . by_cases hj:j=i
     . subst hj;rw[hi]at e1;cases e1;rw[TJ hiσ]at e2;cases e2;exact⟨u,r,.inl ⟨hk,by simp⟩⟩
     . rw[Tx (TK hj)]at e2;obtain⟨u',r',q⟩:=hl j y v' e1 e2 e3;refine⟨u',r',?_⟩;rcases q with⟨k,e⟩|⟨k,c,e,z⟩
       . refine .inl ⟨k,?_⟩;have:y≠x:=λ e=>hj (Bw hN e1 (e▸hi));simp[this,e]
       . exact .inr ⟨k,c,e,z.sameBut hs (AH y c e)⟩
   . obtain⟨w',z⟩:=I.cell y c e;exact⟨w',z.sameBut hs (AH y c e)⟩
   . obtain⟨e,n,ne,nf,d⟩:=I.pin p hp;exact⟨(hs.2 p.1 ne).trans e,n,ne,nf,d⟩
 . have hfn:X.fn x=true:=by
    rcases hf with z|z
    . exact z
    . rw[z]at hk;cases hk
   obtain⟨c,hc⟩:=I.ok.has x (.inl hk);obtain⟨w',z⟩:=I.cell x c hc;refine wpAny_storeName_cell I.ok.kind hk hc z (λ h' hc' hs=>?_);obtain⟨oc,hoc,hocd⟩:=id z;refine h {s with heap:=h'} ⟨I.ok,I.os,I.bare,⟨λ b o e n hb hx=>?_,λ b o e n hb hx=>?_,I.base.free,λ b o e hx=>?_,I.base.ou,I.base.nj,I.base.nk⟩,⟨m,hn.sameBut hs (TK (AH x c hc)),λ j y v' e1 e2 e3=>?_⟩,λ y c' e=>?_,I.free,I.ig,λ p hp=>?_,tracked ⟨oc,hoc,I.ig x c hc⟩ hs,by simpa using I.len⟩ ⟨c,hs,.inr hc⟩
   . exact(hs.2 b (Ue (T8 (TN e) (I.ok.AX x c hfn hc)))).trans (I.base.keep b o e n hb hx)
   . obtain⟨sl,e1⟩:=I.base.slot b o e n hb hx;exact⟨sl,(hs.2 b (Ue (T8 (TN e) (I.ok.AX x c hfn hc)))).trans e1⟩
   . obtain⟨o',e1⟩:=I.base.there b o e hx;exact⟨o',(hs.2 b (Ue (T8 (TN e) (I.ok.AX x c hfn hc)))).trans e1⟩
   . by_cases hj:j=i
     . subst hj;rw[hi]at e1;cases e1;rw[TJ hiσ]at e2;cases e2;exact⟨u,r,.inr ⟨.inl hk,c,hc,hc'⟩⟩
     . rw[Tx (TK hj)]at e2;obtain⟨u',r',q⟩:=hl j y v' e1 e2 e3;refine⟨u',r',?_⟩;rcases q with q|⟨k,c',e,z'⟩
       . exact .inl q
       . refine .inr ⟨k,c',e,z'.sameBut hs ?_⟩;rintro rfl;exact hj (Bw hN e1 (I.ok.inj _ _ _ e hc▸hi))
   . by_cases hcc:c'=c
     . subst hcc;exact⟨_,hc'⟩
     . obtain⟨w2,z2⟩:=I.cell y c' e;exact⟨w2,z2.sameBut hs hcc⟩
   . obtain⟨e,n,ne,nf,d⟩:=I.pin p hp;refine⟨(hs.2 p.1 ?_).trans e,n,ne,nf,d⟩;intro q;rw[q,hoc]at e;have q':oc=p.2:=UE e;exact d w' (by rw[<-q'];exact hocd)
theorem nv{M:Model}{A:Around}{E:Value->Shared->Prop}{i:Nat}{x:Str}{v:V}{u:Value}{Q:Unit->Shared->Prop}(I:Inv X pins σ H s)(hN:X.N.Nodup)(hi:X.N[i]?=some x)(hx:Loc X.env.scope x)(r:RelV v u)
 (h:∀s',Inv X pins (σ.set i (some v)) H s'->Q () s') (hf:X.fn x=true\/X.env.scope.names.lookup x=some .local:=by first|exact .inl rfl|exact .inr rfl|assumption):wpAny M A (storeName X.env x u) Q E s:=
 yx I hN hi hx r (λ s' I' _=>h s' I') hf
theorem Inv.Ez{s':Shared}{ch:List Addr}(I:Inv X pins σ H s)(ho:s'.os=s.os)(u:Un (oP X.stack) ch H H' s.heap s'.heap)(aF:gX X.prog X.w H' s'.heap)(hg:AllBare s'.gens)
 (hch:∀b∈ch,(b∈X.ex\/X.s₀.heap.objs.size<=b)/\b≠X.env.locals/\(∀x c,X.env.cells.lookup x=some c->c≠b)/\∀p∈X.pn++pins,p.1≠b):Inv X pins σ H' s':=by
 obtain⟨h',g',d',t',o'⟩:=s';have e:o'=s.os:=ho;subst e;exact I.call (g':=g') (t':=t') (d':=d') u aF hg hch
end
abbrev XK:=Value->Option Addr->Hp->Prop
abbrev St:=List (Option V)
abbrev VK:=V->Hp->Prop
abbrev TE:=St->Hp->VK->Prop
abbrev TT:=St->Hp->(Bool->Hp->Prop)->Prop
abbrev TA:=St->Hp->(List V->Hp->Prop)->Prop
structure Ends where
 nx:St->Hp->Prop
 rt:VK
 bk:St->Hp->Prop:=λ _ _=>False
 ct:St->Hp->Prop:=λ _ _=>False
abbrev TS:=Ends->St->Hp->Prop
def EP(X:Cx)(pins:List (Addr×Obj))(σ:St)(Q:VK)(u:Value)(s':Shared):Prop:=∃v H',Inv X pins σ H' s'/\RelV v u/\Q v H'
def TP(X:Cx)(pins:List (Addr×Obj))(σ:St)(Q:Bool->Hp->Prop)(b:Bool)(s':Shared):Prop:=∃H',Inv X pins σ H' s'/\Q b H'
def AP(X:Cx)(pins:List (Addr×Obj))(σ:St)(Q:List V->Hp->Prop)(us:List Value)(s':Shared):Prop:=∃vs H',Inv X pins σ H' s'/\Vals vs us/\Q vs H'
def SP(X:Cx)(pins:List (Addr×Obj))(D:Ends)(f:Flow)(s':Shared):Prop:=
 match f with
 | .next=>∃σ' H',Inv X pins σ' H' s'/\D.nx σ' H'
 | .brk=>∃σ' H',Inv X pins σ' H' s'/\D.bk σ' H'
 | .cont=>∃σ' H',Inv X pins σ' H' s'/\D.ct σ' H'
 | .ret u=>∃v σ' H',Inv X pins σ' H' s'/\RelV v u/\D.rt v H'
def PE(X:Cx)(e:Expr)(t:TE):Prop:=
 ∀(pins:List (Addr×Obj)) (s:Shared) (σ:St) (H:Hp) (Q:VK),Inv X pins σ H s->t σ H Q->wpAny (model X.prog X.w) X.A (eval e X.env) (EP X pins σ Q) X.xe s
def PT(X:Cx)(e:Expr)(t:TT):Prop:=
 ∀(pins:List (Addr×Obj)) (s:Shared) (σ:St) (H:Hp) (Q:Bool->Hp->Prop),Inv X pins σ H s->t σ H Q->wpAny (model X.prog X.w) X.A (isTrue e X.env (eval e X.env)) (TP X pins σ Q) X.xe s
def PW(X:Cx)(e:Expr)(t:TT):Prop:=
 ∀(whole:Sem Value) (pins:List (Addr×Obj)) (s:Shared) (σ:St) (H:Hp) (Q:Bool->Hp->Prop),Inv X pins σ H s->t σ H Q->wpAny (model X.prog X.w) X.A (isTrue e X.env whole) (TP X pins σ Q) X.xe s
theorem PW.pt{X:Cx}{e:Expr}{t:TT}(h:PW X e t):PT X e t:=h _
def PA(X:Cx)(es:List Expr)(t:TA):Prop:=
 ∀(pos:Pos) (pins:List (Addr×Obj)) (s:Shared) (σ:St) (H:Hp) (Q:List V->Hp->Prop),Inv X pins σ H s->t σ H Q->wpAny (model X.prog X.w) X.A (spliced (backTo pos (starEach es X.env))) (AP X pins σ Q) X.xe s
def PS(X:Cx)(st:Stmt)(t:TS):Prop:=
 ∀(pins:List (Addr×Obj)) (s:Shared) (σ:St) (H:Hp) (D:Ends),Inv X pins σ H s->t D σ H->wpAny (model X.prog X.w) X.A (exec st X.env) (SP X pins D) X.xe s
def gH(X:Cx)(st:List Stmt)(t:TS):Prop:=
 ∀(pins:List (Addr×Obj)) (s:Shared) (σ:St) (H:Hp) (D:Ends),Inv X pins σ H s->t D σ H->wpAny (model X.prog X.w) X.A (execs st X.env) (SP X pins D) X.xe s
theorem bP{α:Type}{t:Sem α}{Q Q':α->Shared->Prop}{M:Model}{A:Around}{E:Value->Shared->Prop}{s:Shared}(h:wpAny M A t Q E s)(hQ:∀a s,Q a s->Q' a s):wpAny M A t Q' E s:=Vs h hQ λ _ _ x=>x
section
variable {X:Cx}
def Nx(i:Nat):TE:=λ σ H Q=>∃v,σ[i]?=some (some v)/\Q v H
def tC(v:V):TE:=λ _ H Q=>Q v H
theorem NA{i:Nat}{x:Str}{pos:Pos}(hN:X.N[i]?=some x)(hv:Ad X.env.scope x)(hd:(x==("__debug__":Str))=false:=by decide)(hcd:(x==("__classdict__":Str))=false:=by decide):PE X (.Name x pos) (Nx i):=by
 intro pins s σ H Q I h;obtain⟨v,e,h⟩:=h;obtain⟨m,hn,hl⟩:=I.loc;obtain⟨u,r,l⟩:=hl i x v hN e hv;have fin:EP X pins σ Q u s:=⟨v,H,I,r,h⟩
 rcases l with⟨hk,hm⟩|⟨hk,c,hc,hcell⟩
 . exact wpAny_Name (wpAny_loadName_local I.ok.kind hk hn hm fin) hd
 . rcases hk with hk|hk
   . exact wpAny_Name (wpAny_loadName_cell I.ok.kind hk hc hcell fin) hd
   . exact wpAny_Name (wpAny_loadName_free I.ok.kind hk hc hcell fin hcd) hd
theorem MH{i j pos}:PE X (.Constant (.int i) j pos) (tC (.int i)):=λ _ _ _ H _ I h=>wpAny_Constant_int ⟨.int i,H,I.tok _,⟨_,rfl⟩,h⟩
theorem Pz{b j pos}:PE X (.Constant (.bool b) j pos) (tC (.bl b)):=λ _ _ _ H _ I h=>Constant_bool ⟨.bl b,H,I,rfl,h⟩
theorem NU{j pos}:PE X (.Constant .none j pos) (tC .ax):=λ _ _ _ H _ I h=>Constant_none ⟨.ax,H,I,rfl,h⟩
theorem NH{x j pos}:PE X (.Constant (.str x) j pos) (tC (.str x)):=λ _ _ _ H _ I h=>Calls.Constant_str ⟨.str x,H,I.tok _,⟨_,rfl⟩,h⟩
def Gl(X:Cx)(x:Str):Prop:=X.env.kindOf x=some .globalImplicit
theorem C_{E:Value->Shared->Prop}{pins:List (Addr×Obj)}{s:Shared}{σ:St}{H:Hp}{x:Str}{u:Value}{pos:Pos}{Q:Value->Shared->Prop}(I:Inv X pins σ H s)(hg:Gl X x)(hm:X.mg x=some u)(h:Q u s)
 (hd:(x==("__debug__":Str))=false:=by decide):wpAny (model X.prog X.w) X.A (eval (.Name x pos) X.env) Q E s:=
 Xu I.ok.kind hg (Calls.loadGlobal_global (by rw[I.ok.glob];exact I.mod.glob.keeps I.bk) hm h) hd
theorem jv{E:Value->Shared->Prop}{pins:List (Addr×Obj)}{s:Shared}{σ:St}{H:Hp}{x:Str}{u:Value}{pos:Pos}{Q:Value->Shared->Prop}(I:Inv X pins σ H s)(hg:Gl X x)(hm:X.mg x=none)(hv:bootBuiltins x=some u)(h:Q u s)
 (hn:x≠"__name__":=by decide) (hd:(x==("__debug__":Str))=false:=by decide):wpAny (model X.prog X.w) X.A (eval (.Name x pos) X.env) Q E s:=by
 obtain⟨mb,h1,h2⟩:=I.mod.blt;exact Xu I.ok.kind hg (Calls.loadGlobal_builtin (by rw[I.ok.glob];exact I.mod.glob.keeps I.bk) hm (by rw[I.ok.blt];exact h1.keeps I.bk) ((h2 x hn).trans hv) h) hd
theorem K6{x:Str}{v:V}{u:Value}{pos:Pos}(hg:Gl X x)(hm:X.mg x=none)(hv:bootBuiltins x=some u)(r:RelV v u)(hn:x≠"__name__":=by decide)(hd:(x==("__debug__":Str))=false:=by decide):PE X (.Name x pos) (tC v):=
 λ _ _ _ H _ I h=>jv I hg hm hv ⟨v,H,I,r,h⟩ hn hd
variable {a b:Expr}{ta tb:TE}{pos:Pos}
def tB(t:TE):TT:=λ σ H Q=>t σ H λ x H1=>∃c,x= .bl c/\Q c H1
theorem N2{e:Expr}{t:TE}(h:PE X e t)(he:∀whole,isTrue e X.env whole=(do let v <-whole;standAt e.pos;holding [v] (truthy v)):=by intro _;rfl):PT X e (tB t):=by
 intro pins s σ H Q I hw;refine isTrue_plain (bP (h pins s σ H _ I hw) λ v s1 ⟨x,H1,I1,r1,q1⟩=>?_) (he _);obtain⟨d,rfl,q⟩:=q1;cases r1;exact VE ⟨H1,I1,q⟩
variable {tA tB':TT}{rest:List Expr}
def Oz(t u:TT):TT:=λ σ H Q=>t σ H λ c H1=>if c=true then u σ H1 Q else Q false H1
def Q6(t u:TT):TT:=λ σ H Q=>t σ H λ c H1=>if c=true then Q true H1 else u σ H1 Q
def RE(t:TT):TT:=λ σ H Q=>t σ H λ c H1=>Q (!c) H1
theorem pw_and1(ha:PT X a tA):PW X (.BoolOp .And [a] pos) tA:=by
 intro wh pins s σ H Q I h;refine isTrue_and (bP (ha pins s σ H Q I h) λ c s1 e=>?_);cases c with
 |true=>exact isTrue_and_nil e
 |false=>exact e
theorem pw_or1(ha:PT X a tA):PW X (.BoolOp .Or [a] pos) tA:=by
 intro wh pins s σ H Q I h;refine isTrue_or (bP (ha pins s σ H Q I h) λ c s1 e=>?_);cases c with
 |false=>exact isTrue_or_nil e
 |true=>exact e
theorem pw_and(ha:PT X a tA)(hb:PW X (.BoolOp .And (b::rest) pos) tB'):PW X (.BoolOp .And (a::b::rest) pos) (Oz tA tB'):=by
 intro wh pins s σ H Q I h;refine isTrue_and (bP (ha pins s σ H _ I h) λ c s1 ⟨H1,I1,q1⟩=>?_);cases c with
 |true=>exact hb wh pins s1 σ H1 Q I1 q1
 |false=>exact⟨H1,I1,q1⟩
theorem pw_or(ha:PT X a tA)(hb:PW X (.BoolOp .Or (b::rest) pos) tB'):PW X (.BoolOp .Or (a::b::rest) pos) (Q6 tA tB'):=by
 intro wh pins s σ H Q I h;refine isTrue_or (bP (ha pins s σ H _ I h) λ c s1 ⟨H1,I1,q1⟩=>?_);cases c with
 |true=>exact⟨H1,I1,q1⟩
 |false=>exact hb wh pins s1 σ H1 Q I1 q1
theorem NO(ha:PT X a tA):PT X (.UnaryOp .Not a pos) (RE tA):=by
 intro pins s σ H Q I h;exact isTrue_not (ha pins s σ H (λ c H1=>Q (!c) H1) I h)
def Qr(ta tb:TE):TE:=λ σ H Q=>ta σ H λ x H1=>∃c,x= .bl c/\if c=true then tb σ H1 Q else Q (.bl false) H1
def Sw(ta tb:TE):TE:=λ σ H Q=>ta σ H λ x H1=>∃c,x= .bl c/\if c=true then Q (.bl true) H1 else tb σ H1 Q
def Pp(ta:TE):TE:=λ σ H Q=>ta σ H λ x H1=>∃c,x= .bl c/\Q (.bl (!c)) H1
theorem O3{op}{t:TE}(h:PE X a t):PE X (.BoolOp op [a] pos) t:=λ pins s σ H Q I hw=>BoolOp_one (h pins s σ H Q I hw)
theorem OY(ha:PE X a ta)(hb:PE X (.BoolOp .And (b::rest) pos) tb):PE X (.BoolOp .And (a::b::rest) pos) (Qr ta tb):=by
 intro pins s σ H Q I h;refine BoolOp_and (bP (ha pins s σ H _ I h) λ v s1 ⟨x,H1,I1,r1,q1⟩=>?_);obtain⟨c,rfl,q1⟩:=q1;cases r1;refine VE ?_;cases c with
 |true=>exact hb pins s1 σ H1 Q I1 q1
 |false=>exact⟨.bl false,H1,I1,rfl,q1⟩
theorem Px(ha:PE X a ta)(hb:PE X (.BoolOp .Or (b::rest) pos) tb):PE X (.BoolOp .Or (a::b::rest) pos) (Sw ta tb):=by
 intro pins s σ H Q I h;refine BoolOp_or (bP (ha pins s σ H _ I h) λ v s1 ⟨x,H1,I1,r1,q1⟩=>?_);obtain⟨c,rfl,q1⟩:=q1;cases r1;refine VE ?_;cases c with
 |false=>exact hb pins s1 σ H1 Q I1 q1
 |true=>exact⟨.bl true,H1,I1,rfl,q1⟩
theorem OE(ha:PE X a ta):PE X (.UnaryOp .Not a pos) (Pp ta):=by
 intro pins s σ H Q I h;refine UnaryOp_ (bP (ha pins s σ H _ I h) λ v s1 ⟨x,H1,I1,r1,q1⟩=>?_);obtain⟨c,rfl,q1⟩:=q1;cases r1;exact not_of (VE ⟨.bl (!c),H1,I1,rfl,q1⟩)
def SH(t:TT)(ta tb:TE):TE:=λ σ H Q=>t σ H λ c H1=>if c=true then ta σ H1 Q else tb σ H1 Q
theorem Iu{c:Expr}(hc:PT X c tA)(ha:PE X a ta)(hb:PE X b tb):PE X (.IfExp c a b pos) (SH tA ta tb):=by
 intro pins s σ H Q I h;refine wpAny_IfExp (bP (hc pins s σ H _ I h) λ d s1 ⟨H1,I1,q1⟩=>?_);cases d with
 |true=>exact ha pins s1 σ H1 Q I1 q1
 |false=>exact hb pins s1 σ H1 Q I1 q1
end
def lK(K:PySem.W.Frag)(H:Hp)(a:Addr)(xs:List V):Prop:=
 Rd H a (.lst xs)\/
  ∃(o:Obj) (ai:Array Value) (n:Nat),K.lookup a=some o/\o.cls= .type "list"/\o.dict=none/\o.data= .seq ai n/\ai.size<=sizeLine/\Vals xs ai.toList
def ie(K:PySem.W.Frag)(H:Hp)(a:Addr)(xs:List V):Prop:=
 Rd H a (.tup xs)\/
  ∃(o:Obj) (ai:Array Value) (n:Nat),K.lookup a=some o/\o.cls= .type "tuple"/\o.data= .seq ai n/\ai.size<=sizeLine/\Vals xs ai.toList
def RJ:Value->Option V
 | .none=>some .ax
 | .bool b=>some (.bl b)
 | .int i _=>some (.int i)
 | .str x _=>some (.str x)
 | .bytes b _=>some (.um b)
 | .float b _=>some (.uk b)
 | .ref a=>some (.ref a)
 | .type n=>some (.ty n)
 |_=>none
theorem RelV.abs{x:V}{u:Value}(r:RelV x u):RJ u=some x:=by
 cases x with
 |ax=>cases r;rfl
 |bl _=>cases r;rfl
 |int _=>obtain⟨t,rfl⟩:=r;rfl
 |str _=>obtain⟨t,rfl⟩:=r;rfl
 |um _=>obtain⟨t,rfl⟩:=r;rfl
 |uk _=>obtain⟨t,rfl⟩:=r;rfl
 |ref _=>cases r;rfl
 |ty _=>cases r;rfl
theorem RelV.inj{x y:V}{u:Value}(r:RelV x u)(q:RelV y u):x=y:=UE (r.abs.symm.trans q.abs)
theorem Vals.inj:∀ {xs ys:List V} {us:List Value},Vals xs us->Vals ys us->xs=ys
 |_,_,_,.nil,.nil=>rfl
 |_,_,_,.cons r t,.cons r' t'=>by rw[r.inj r',Vals.inj t t']
section
variable {X:Cx}{pins:List (Addr×Obj)}{σ:St}{H:Hp}{s:Shared}{a:Addr}{xs ys:List V}
theorem lK.of{K:PySem.W.Frag}(h:H a=some (.lst xs)):lK K H a xs:= .inl (.inl h)
theorem ie.of{K:PySem.W.Frag}(h:H a=some (.tup xs)):ie K H a xs:= .inl (.inl h)
theorem Inv.list(I:Inv X pins σ H s)(h:lK X.K H a xs):∃ai:List Value,Vals xs ai/\PlainL s.heap a ai.toArray/\xs.length<=sizeLine:=by
 rcases h with h|⟨o,ai,n,hk,hc,hd,hs,hz,r⟩
 . obtain⟨z,ai,n,r,e⟩:=h.ok I.aF;exact⟨ai,r,⟨_,n,e,rfl,rfl,rfl⟩,z⟩
 . refine⟨ai.toList,r,⟨o,n,I.gD a o hk,hc,hd,by simpa using hs⟩,?_⟩;have e:=r.length;simp only[V5]at e;omega
theorem Inv.tuple(I:Inv X pins σ H s)(h:ie X.K H a xs):∃ai:List Value,Vals xs ai/\IsTup s.heap a ai.toArray/\xs.length<=sizeLine:=by
 rcases h with h|⟨o,ai,n,hk,hc,hs,hz,r⟩
 . obtain⟨z,ai,r,p⟩:=h.ok I.aF;exact⟨ai,r,p,z⟩
 . refine⟨ai.toList,r,⟨o,I.gD a o hk,hc,n,by simpa using hs⟩,?_⟩;have e:=r.length;simp only[V5]at e;omega
theorem Inv.Ao(I:Inv X pins σ H s)(h:lK X.K H a xs)(h':lK X.K H a ys):xs=ys:=by
 obtain⟨ai,r,⟨o,n,e,_,_,d⟩,_⟩:=I.list h;obtain⟨its',r',⟨o',n',e',_,_,d'⟩,_⟩:=I.list h';rw[e]at e';cases e';rw[d]at d';injection d' with d1 _;have:ai=its':=by simpa using Vn Array.toList d1
 subst this;exact r.inj r'
theorem Inv.yw(I:Inv X pins σ H s)(h:ie X.K H a xs)(h':ie X.K H a ys):xs=ys:=by
 obtain⟨ai,r,⟨o,e,_,n,d⟩,_⟩:=I.tuple h;obtain⟨its',r',⟨o',e',_,n',d'⟩,_⟩:=I.tuple h';rw[e]at e';cases e';rw[d]at d';injection d' with d1 _;have:ai=its':=by simpa using Vn Array.toList d1
 subst this;exact r.inj r'
end
abbrev Cx.oi(X:Cx)(E:Value->Shared->Prop):Cx:={X with xe:=E}
abbrev Cx.t_(X:Cx):Cx:=X.oi λ _ _=>False
theorem Cx.Ok.oi{X:Cx}(ok:X.Ok)(E:Value->Shared->Prop):(X.oi E).Ok:=
 ⟨ok.mod,ok.kind,ok.glob,ok.blt,ok.above,ok.inj,ok.has,ok.AX,ok.hd,ok.frames,ok.CI,ok.Fq,ok.bs,ok.sQ,ok.u9,ok.uH,ok.j_,ok.vM,ok.gt⟩
theorem Cx.Ok.lI{X:Cx}{E:Value->Shared->Prop}(ok:(X.oi E).Ok):X.Ok:=
 ⟨ok.mod,ok.kind,ok.glob,ok.blt,ok.above,ok.inj,ok.has,ok.AX,ok.hd,ok.frames,ok.CI,ok.Fq,ok.bs,ok.sQ,ok.u9,ok.uH,ok.j_,ok.vM,ok.gt⟩
section
variable {X:Cx}{pins:List (Addr×Obj)}{σ:St}{H:Hp}{s:Shared}{E:Value->Shared->Prop}
theorem Inv.oi(I:Inv X pins σ H s)(E:Value->Shared->Prop):Inv (X.oi E) pins σ H s:=⟨I.ok.oi E,I.os,I.bare,I.base,I.loc,I.cell,I.free,I.ig,I.pin,I.aF,I.len⟩
theorem Inv.lI(I:Inv (X.oi E) pins σ H s):Inv X pins σ H s:=⟨I.ok.lI,I.os,I.bare,I.base,I.loc,I.cell,I.free,I.ig,I.pin,I.aF,I.len⟩
theorem SP.lI{D:Ends}{f:Flow}{s':Shared}(h:SP (X.oi E) pins D f s'):SP X pins D f s':=by
 cases f with
 |next=>obtain⟨σ',H',I,q⟩:=h;exact⟨σ',H',I.lI,q⟩
 |brk=>obtain⟨σ',H',I,q⟩:=h;exact⟨σ',H',I.lI,q⟩
 |cont=>obtain⟨σ',H',I,q⟩:=h;exact⟨σ',H',I.lI,q⟩
 |ret u=>obtain⟨v,σ',H',I,r,q⟩:=h;exact⟨v,σ',H',I.lI,r,q⟩
theorem gH.t_{st:List Stmt}{t:TS}(h:gH X.t_ st t):gH X st t:=λ pins s σ H D I hw=>
 Vs (h pins s σ H D (I.oi _) hw) (λ _ _ q=>q.lI) λ _ _ z=>False.elim z
end
section
variable {X:Cx}{st:Stmt}{rest:List Stmt}{t u:TS}{e:Expr}{te:TE}{pos:Pos}
def Qj:TS:=λ D σ H=>D.nx σ H
def RX(t u:TS):TS:=λ D σ H=>t {D with nx:=u D} σ H
theorem K9:gH X [] Qj:=λ _ _ σ H _ I h=>WY ⟨σ,H,I,h⟩
theorem Io(h1:PS X st t)(h2:gH X rest u):gH X (st::rest) (RX t u):=by
 intro pins s σ H D I h;refine wpAny_execs_cons (bP (h1 pins s σ H {D with nx:=u D} I h) λ f s1 q=>?_);cases f with
 |next=>
  obtain⟨σ',H',I',q⟩:=q;exact h2 pins s1 σ' H' D I' q
 |ret v=>exact q
 |brk=>exact q
 |cont=>exact q
theorem Lz(h1:PS X st t):gH X [st] t:=by
 intro pins s σ H D I h;refine wpAny_execs_cons (bP (h1 pins s σ H D I h) λ f s1 q=>?_);cases f with
 |next=>exact WY q
 |ret v=>exact q
 |brk=>exact q
 |cont=>exact q
theorem Inv.quiet{pins:List (Addr×Obj)}{σ:St}{H:Hp}{s:Shared}(I:Inv X pins σ H s):interactive X.env=false:=by simp[interactive,I.ok.kind]
def Pm(te:TE):TS:=λ D σ H=>te σ H λ _ H1=>D.nx σ H1
theorem Ld(he:PE X e te)(hs:swapsWith e none pos.line X.env=pure false:=by rfl):PS X (.Expr e pos) (Pm te):=by
 intro pins s σ H D I h;exact wpAny_Expr_any (bP (he pins s σ H _ I h) λ v s1 ⟨x,H1,I1,r1,q1⟩=>⟨σ,H1,I1,q1⟩) I.quiet hs
def RK(te:TE):TS:=λ D σ H=>te σ H D.rt
theorem OP(he:PE X e te):PS X (.Return (some e) pos) (RK te):=by
 intro pins s σ H D I h;exact wpAny_Return_some (bP (he pins s σ H _ I h) λ v s1 ⟨x,H1,I1,r1,q1⟩=>⟨x,σ,H1,I1,r1,q1⟩)
def Sv(c:TT)(t u:TS):TS:=λ D σ H=>c σ H λ b H1=>if b=true then t D σ H1 else u D σ H1
theorem QQ{c:Expr}{a b:List Stmt}{tc:TT}(hc:PT X c tc)(ha:gH X a t)(hb:gH X b u):PS X (.If c a b pos) (Sv tc t u):=by
 intro pins s σ H D I h;refine wpAny_If (bP (hc pins s σ H _ I h) λ d s1 ⟨H1,I1,q1⟩=>?_);cases d with
 |true=>exact ha pins s1 σ H1 D I1 q1
 |false=>exact hb pins s1 σ H1 D I1 q1
end
abbrev TG:=V->St->Hp->(St->Hp->Prop)->Prop
abbrev wt:=List V->St->Hp->(St->Hp->Prop)->Prop
def PG(X:Cx)(target:Expr)(t:TG):Prop:=
 ∀(pins:List (Addr×Obj)) (s:Shared) (σ:St) (H:Hp) (v:V) (u:Value) (Q:St->Hp->Prop),Inv X pins σ H s->RelV v u->t v σ H Q->
  wpAny (model X.prog X.w) X.A (assign target X.env u) (λ _ s'=>∃σ' H',Inv X pins σ' H' s'/\Q σ' H') X.xe s
def Bm(X:Cx)(ts:List Expr)(t:wt):Prop:=
 ∀(pins:List (Addr×Obj)) (s:Shared) (σ:St) (H:Hp) (vs:List V) (us:List Value) (Q:St->Hp->Prop),Inv X pins σ H s->Vals vs us->t vs σ H Q->
  wpAny (model X.prog X.w) X.A (assignInOrder ((assignEach ts X.env).map (·.2)) us) (λ _ s'=>∃σ' H',Inv X pins σ' H' s'/\Q σ' H') X.xe s
abbrev Iz:=V->V->V->Hp->(Hp->Prop)->Prop
def NK(X:Cx)(t:Iz):Prop:=
 ∀(pins:List (Addr×Obj)) (s:Shared) (σ:St) (H:Hp) (o i v:V) (ov iv u:Value) (Q:Hp->Prop),Inv X pins σ H s->RelV o ov->RelV i iv->RelV v u->t o i v H Q->
  wpAny (model X.prog X.w) X.A (setItem ov iv u) (λ _ s'=>∃H',Inv X pins σ H' s'/\Q H') X.xe s
abbrev IU:=V->V->Hp->VK->Prop
def NW(X:Cx)(op:Operator)(t:IU):Prop:=
 ∀(pins:List (Addr×Obj)) (s:Shared) (σ:St) (H:Hp) (x y:V) (v u:Value) (Q:VK),Inv X pins σ H s->RelV x v->RelV y u->t x y H Q->
  wpAny (model X.prog X.w) X.A (inplaceOp op v u) (EP X pins σ Q) X.xe s
section
variable {X:Cx}{pos:Pos}
def dA(i:Nat):TG:=λ v σ H Q=>Q (σ.set i (some v)) H
theorem fA{i:Nat}{x:Str}(hN:X.N.Nodup)(hi:X.N[i]?=some x)(hx:Loc X.env.scope x)(hf:X.fn x=true\/X.env.scope.names.lookup x=some .local:=by first|exact .inl rfl|exact .inr rfl|assumption):PG X (.Name x pos) (dA i):=by
 intro pins s σ H v u Q I r h;exact wpAny_assign_Name (nv I hN hi hx r (λ s' I'=>⟨_,H,I',h⟩) hf)
def xf:wt:=λ vs σ H Q=>vs=[]/\Q σ H
def ff(t:TG)(u:wt):wt:=λ vs σ H Q=>∃v r,vs=v::r/\t v σ H λ σ' H'=>u r σ' H' Q
theorem sX:Bm X [] xf:=by
 intro pins s σ H vs us Q I r h;obtain⟨e,h⟩:=h;subst e;cases r;exact assignInOrder_nil ⟨σ,H,I,h⟩
theorem dS{e:Expr}{es:List Expr}{t:TG}{u:wt}(h1:PG X e t)(h2:Bm X es u)
 (hs:(assignEach (e::es) X.env).map (·.2)=assign e X.env::(assignEach es X.env).map (·.2):=by rfl):Bm X (e::es) (ff t u):=by
 intro pins s σ H vs us Q I r h;obtain⟨v,vr,e1,h⟩:=h;subst e1;cases r with
 |cons r rr=>
  rw[hs];refine Xl (bP (h1 pins s σ H _ _ _ I r h) λ _ s1 ⟨σ1,H1,I1,q1⟩=>?_);exact h2 pins s1 σ1 H1 _ _ Q I1 rr q1
def EC(K:PySem.W.Frag)(n:Nat)(t:wt):TG:=λ v σ H Q=>∃a xs,v= .ref a/\ie K H a xs/\xs.length=n/\t xs σ H Q
theorem vJ{es:List Expr}{k:Nat}{t:wt}{n:Nat}(hc:X.calm=true)(h:Bm X es t)
 (hn:(assignEach es X.env).length=n:=by rfl) (hst:(assignEach es X.env).findIdx? (·.1)=none:=by rfl):PG X (.Tuple es k pos) (EC X.K n t):=by
 intro pins s σ H v u Q I r hw;obtain⟨a,xs,e1,hq,hl,hw⟩:=hw;subst e1;cases r;obtain⟨ai,rv,ht,hz⟩:=I.tuple hq;refine assign_Tuple_tuple (I.ok.hd hc) ht (by simp[hn,<-hl,rv.length]) hst λ h' hx=>?_;have I1:Inv X pins σ H {s with heap:=h'}:=I.kept (t':=s.toks) λ b o e=>hx b o (Ue (TN e)) e;exact h pins _ σ H xs _ Q I1 (by simpa using rv) hw
def zC(to ti:TE)(t:Iz):TG:=λ v σ H Q=>to σ H λ o H1=>ti σ H1 λ i H2=>t o i v H2 λ H3=>Q σ H3
theorem A7{o i:Expr}{to ti:TE}{t:Iz}(ho:PE X o to)(hi:PE X i ti)(hs:NK X t)
 (ha:∀v,assign (.Subscript o i pos) X.env v=(do
   let ov <-holding [v] (eval o X.env)
   let iv <-holding [v,ov] (eval i X.env)
   standAt pos
   holding [v,ov,iv] (setItem ov iv v)
   release [v,ov,iv] []):=by intro _;rfl):PG X (.Subscript o i pos) (zC to ti t):=by
 intro pins s σ H v u Q I r h;rw[ha];refine Tr (VI (bP (ho pins s σ H _ I h) λ ov s1 ⟨x,H1,I1,r1,q1⟩=>?_));refine Tr (VI (bP (hi pins s1 σ H1 _ I1 q1) λ iv s2 ⟨y,H2,I2,r2,q2⟩=>?_));refine Tr (Wr (Tr (VI (bP (hs pins s2 σ H2 x y v ov iv u _ I2 r1 r2 r q2) λ _ s3 ⟨H3,I3,q3⟩=>?_))));exact wpAny_release ⟨σ,H3,I3,q3⟩
def l9(te:TE)(g:TG):TS:=λ D σ H=>te σ H λ x H1=>g x σ H1 D.nx
theorem zW{tg e:Expr}{te:TE}{g:TG}(he:PE X e te)(hg:PG X tg g)(hs:swapsWithSole [tg] e pos.line X.env=pure false:=by rfl)(hw:swappedStores [tg] e X.env=pure none:=by rfl)
 (h1:(assignEach [tg] X.env).map (·.2)=[assign tg X.env]:=by rfl):PS X (.Assign [tg] e pos) (l9 te g):=by
 intro pins s σ H D I h;refine wpAny_Assign_stores (bP (he pins s σ H _ I h) λ v s1 ⟨x,H1,I1,r1,q1⟩=>?_) hs hw;rw[h1];exact bP (hg pins s1 σ H1 x v _ I1 r1 q1) λ _ s2 q=>q
theorem N9{i:Nat}{x:Str}{e:Expr}{te:TE}{pos':Pos}(hN:X.N.Nodup)(hi:X.N[i]?=some x)(hx:Loc X.env.scope x)(he:PE X e te)(hs:swapsWith e (some (.Name x pos')) pos.line X.env=pure false:=by rfl)(hf:X.fn x=true\/X.env.scope.names.lookup x=some .local:=by first|exact .inl rfl|exact .inr rfl|assumption):
 PS X (.Assign [.Name x pos'] e pos) (l9 te (dA i)):=by
 intro pins s σ H D I h;refine wpAny_Assign_Name (bP (he pins s σ H _ I h) λ v s1 ⟨y,H1,I1,r1,q1⟩=>?_) hs;exact nv I1 hN hi hx r1 (λ s2 I2=>⟨_,H1,I2,q1⟩) hf
def Og(i j:Nat)(ta:TA):TS:=λ D σ H=>ta σ H λ vs H1=>∃v w,vs=[v,w]/\D.nx ((σ.set i (some v)).set j (some w)) H1
theorem Nr{i j:Nat}{x y:Str}{a b:Expr}{ta:TA}{px py pt:Pos}{kt k2 pt2}(hc:X.calm=true)(hN:X.N.Nodup)(hi:X.N[i]?=some x)(hj:X.N[j]?=some y)(hij:i≠j)
 (hx:X.env.scope.names.lookup x=some .local) (hy:X.env.scope.names.lookup y=some .local) (ha:PA X [a,b] ta)
 (hw:swappedStores [.Tuple [.Name x px,.Name y py] kt pt] (.Tuple [a,b] k2 pt2) X.env=pure (some [x,y]))
 (hs:swapsWithSole [.Tuple [.Name x px,.Name y py] kt pt] (.Tuple [a,b] k2 pt2) pos.line X.env=pure false:=by rfl):
 PS X (.Assign [.Tuple [.Name x px,.Name y py] kt pt] (.Tuple [a,b] k2 pt2) pos) (Og i j ta):=by
 intro pins s σ H D I h;rw[exec_Assign_arm];refine Tr (Wr ?_);rw[hs];refine Tr (TH ?_);rw[Tv (by decide)];refine Tr (Tuple_ (bP (ha _ pins s σ H _ I h) λ us s1 ⟨vs,H1,I1,r1,q1⟩=>?_));obtain⟨v,w,e1,q1⟩:=q1;subst e1
 obtain⟨u1,u2,rfl,rv,rw'⟩:∃u1 u2,us=[u1,u2]/\RelV v u1/\RelV w u2:=by
  cases r1 with
  |cons p q=>
   cases q with
   |cons p' q'=>
    cases q';exact⟨_,_,rfl,p,p'⟩
 refine UP ?_ (by show 2<=sizeLine;decide);have I2:Inv X pins σ H1 {s1 with heap:=s1.heap.push {cls:= .type "tuple",data:= .seq [u1,u2].toArray}}:=I1.kept (t':=s1.toks) λ b o e=>Tz _ e;rw[hw];refine Tr (TH ?_);show wpAny (model X.prog X.w) X.A (do rule "assign.swapped-stores";let items <-unpackItems (.ref s1.heap.objs.size) 2 none;assignInOrder [λ v=>bindName X.env y v,λ v=>bindName X.env x v] items.reverse;pure Flow.next) _ _ _;refine Tr (V7 (Tr (unpackItems_tuple (items:= #[u1,u2]) (I.ok.hd hc) (XX s1.heap _) λ h' hx'=>?_)));have I3:=I2.kept (h':=h') (t':=s1.toks) λ b o e=>hx' b o (Ue (TN e)) e;show wpAny _ _ (assignInOrder [λ v=>bindName X.env y v,λ v=>bindName X.env x v] [u2,u1] >>= λ _=>pure Flow.next) _ _ _;refine Tr (Xl (wpAny_bindName (nv I3 hN hj (.inl hy) rw' (λ s2 I4=>?_) (.inr hy))));refine Xl (wpAny_bindName (nv I4 hN hi (.inl hx) rv (λ s3 I5=>assignInOrder_nil (TH ?_)) (.inr hx)));rw[List.set_comm _ _ (TK hij)]at I5;exact⟨_,H1,I5,q1⟩
def N6(i:Nat)(te:TE)(ti:IU):TS:=λ D σ H=>∃x,σ[i]?=some (some x)/\te σ H λ y H1=>ti x y H1 λ z H2=>D.nx (σ.set i (some z)) H2
theorem Ou{i:Nat}{x:Str}{e:Expr}{te:TE}{op:Operator}{ti:IU}{pos':Pos}(hN:X.N.Nodup)(hi:X.N[i]?=some x)(hx:Loc X.env.scope x)(he:PE X e te)(ho:NW X op ti)(hf:X.fn x=true\/X.env.scope.names.lookup x=some .local:=by first|exact .inl rfl|exact .inr rfl|assumption):
 PS X (.AugAssign (.Name x pos') op e pos) (N6 i te ti):=by
 intro pins s σ H D I h;obtain⟨v,e1,h⟩:=h;obtain⟨m,hn,hl⟩:=I.loc;have vis:Ad X.env.scope x:=by rcases hx with k|k;exact .inl k;exact .inr (.inl k)
 obtain⟨u,r,l⟩:=hl i x v hi e1 vis;refine wpAny_AugAssign_Name ?_
 have go:wpAny (model X.prog X.w) X.A (eval e X.env) (λ w s₂=>wpAny (model X.prog X.w) X.A (inplaceOp op u w) (λ r s₃=>wpAny (model X.prog X.w) X.A (storeName X.env x r) (λ _=>SP X pins D .next) X.xe s₃) X.xe s₂) X.xe s:=by
  refine bP (he pins s σ H _ I h) λ w s1 ⟨y,H1,I1,r1,q1⟩=>?_;refine bP (ho pins s1 σ H1 v y u w _ I1 r r1 q1) λ z s2 ⟨zv,H2,I2,r2,q2⟩=>?_;exact nv I2 hN hi hx r2 (λ s3 I3=>⟨_,H2,I3,q2⟩) hf
 rcases l with⟨hk,hm⟩|⟨hk,c,hc,hcell⟩
 . exact wpAny_loadName_local I.ok.kind hk hn hm go
 . rcases hk with hk|hk
   . exact wpAny_loadName_cell I.ok.kind hk hc hcell go
   . rcases hx with k|k
     . have:X.env.scope.names.lookup x=some .free:=hk;rw[k]at this;cases this
     . have:X.env.scope.names.lookup x=some .free:=hk;rw[k]at this;cases this
def NY(f:Int->Int->Int):IU:=λ x y H Q=>∃i j,x= .int i/\y= .int j/\Q (.int (f i j)) H
theorem O6:NW X .Add (NY λ i j=>i+j):=by
 intro pins s σ H x y v u Q I r1 r2 h;obtain⟨i,j,e1,e2,q⟩:=h;subst e1;subst e2;obtain⟨t,rfl⟩:=r1;obtain⟨t',rfl⟩:=r2;exact iadd_int ⟨.int _,H,I.tok _,⟨_,rfl⟩,q⟩
def Fw(c:TT)(tb:TS):TS:=λ D σ H=>∃W:Nat->St->Hp->Prop,(∃m,W m σ H)/\∀m σ H,W m σ H->
 c σ H λ b H1=>if b=true then∃N:St->Hp->Prop,(∀σ' H',N σ' H'->∃m',m'<m/\W m' σ' H')/\tb {D with nx:=N,ct:=N,bk:=D.nx} σ H1 else D.nx σ H1
theorem Ho{c:Expr}{body:List Stmt}{tc:TT}{tb:TS}(hp:PassesOwn (model X.prog X.w) X.A X.env X.xe)(hc:PT X c tc)(hb:gH X body tb):PS X (.While c body [] pos) (Fw tc tb):=by
 intro pins s σ H D I h;obtain⟨W,⟨m0,w0⟩,turn⟩:=h;refine wpAny_While (codeAny_whileLoop (λ n s'=>∃σ' H',Inv X pins σ' H' s'/\W n σ' H') ?_ m0 ⟨σ,H,I,w0⟩);rintro n s1 ⟨σ1,H1,I1,w1⟩;refine VW hp (bP (hc pins s1 σ1 H1 _ I1 (turn n σ1 H1 w1)) λ b s2 ⟨H2,I2,q2⟩=>?_);cases b with
 |true=>
  obtain⟨N,hN,q2⟩:=q2;rw[TC rfl];refine VW hp (bP (hb pins s2 σ1 H2 _ I2 q2) λ f s3 q3=>?_);cases f with
  |next=>
   obtain⟨σ3,H3,I3,n3⟩:=q3;obtain⟨m',hm,w3⟩:=hN σ3 H3 n3;exact⟨m',hm,σ3,H3,I3,w3⟩
  |cont=>
   obtain⟨σ3,H3,I3,n3⟩:=q3;obtain⟨m',hm,w3⟩:=hN σ3 H3 n3;exact⟨m',hm,σ3,H3,I3,w3⟩
  |brk=>exact q3
  |ret v=>exact q3
 |false=>
  rw[Tv Uo];exact WY ⟨σ1,H2,I2,q2⟩
end
structure It where
 go:Nat->Hp->Prop
 pE:Nat->Hp->V->Hp->Prop
 stop:Nat->Hp->Prop
def kU(X:Cx)(pins:List (Addr×Obj))(H:Hp)(b:Addr):Prop:=
 H b=none/\b≠X.env.locals/\b∉X.fs/\(b∈X.ex\/X.s₀.heap.objs.size<=b)/\(∀x c,X.env.cells.lookup x=some c->c≠b)/\∀p∈X.pn++pins,p.1≠b
theorem Inv.wX{X:Cx}{pins:List (Addr×Obj)}{σ:St}{H H':Hp}{s:Shared}{b:Addr}(I:Inv X pins σ H s)(hb:s.heap.objs.size<=b)(hn:H' b=none):kU X pins H' b:=by
 refine⟨hn,VR (T8 I.lt hb),I.Oc hb,.inr (TB I.sz hb),λ x c e z=>?_,λ p hp z=>?_⟩
 . obtain⟨v,q⟩:=I.cell x c e;exact absurd (T8 q.lt (by rw[z];exact hb)) (Vl _)
 . exact absurd (T8 (TN (I.pin p hp).1) (by rw[z];exact hb)) (Vl _)
structure Turn(P:Program)(w:World)(K:PySem.W.Frag)(tg:Expr)(J:It)(fp:List Addr)(it:Addr)(tn:Nat->Heap->Prop):Prop where
 mem:it∈fp
 obj:∀i h,tn i h->∀b∈fp,∃o,h.get? b=some o/\∀v,o.data≠ .cell v
 keep:∀i h h',tn i h->(∀b∈fp,∀o,h.get? b=some o->h'.get? b=some o)->tn i h'
 item:∀(X:Cx),X.prog=P->X.w=w->X.K=K->X.calm=true->∀(i:Nat) (pins:List (Addr×Obj)) (s:Shared) (σ:St) (H:Hp) (E:Value->Shared->Prop),Inv X pins σ H s->(∀b∈fp,kU X pins H b)->tn i s.heap->J.go i H->
  wpAny (model P w) X.A (pyNext (.ref it)) (λ r s1=>∃u,r=some u/\
   wpAny (model P w) X.A (letOwnedTupleGo tg (.ref it) u) (λ _ s2=>∃x H',Inv X pins σ H' s2/\RelV x u/\J.pE i H x H'/\tn (i+1) s2.heap/\∀b∈fp,H' b=none) E s1) E s
 done:∀(X:Cx),X.prog=P->X.w=w->X.K=K->X.calm=true->∀(i:Nat) (pins:List (Addr×Obj)) (s:Shared) (σ:St) (H:Hp) (E:Value->Shared->Prop),Inv X pins σ H s->(∀b∈fp,kU X pins H b)->tn i s.heap->J.stop i H->
  wpAny (model P w) X.A (pyNext (.ref it)) (λ r s1=>r=none/\Inv X pins σ H s1) E s
 self:∀(A:Around) (i:Nat) (s:Shared) (Q:Value->Shared->Prop) (E:Value->Shared->Prop),tn i s.heap->Q (.ref it) s->wpAny (model P w) A (pyIter (.ref it)) Q E s
abbrev TI:=St->Hp->(It->Hp->Prop)->Prop
def JU(X:Cx)(pins:List (Addr×Obj))(σ:St)(tg:Expr)(R:It->Hp->Prop)(itv:Value)(s2:Shared):Prop:=
 ∃(it:Addr) (fp:List Addr) (tn:Nat->Heap->Prop) (J:It) (H':Hp),itv= .ref it/\Inv X pins σ H' s2/\Turn X.prog X.w X.K tg J fp it tn/\tn 0 s2.heap/\(∀b∈fp,kU X pins H' b)/\R J H'
def PI(X:Cx)(tg iter:Expr)(wi:TI):Prop:=
 ∀(pins:List (Addr×Obj)) (s:Shared) (σ:St) (H:Hp) (R:It->Hp->Prop),Inv X pins σ H s->wi σ H R->
  wpAny (model X.prog X.w) X.A (eval iter X.env) (λ v s1=>wpAny (model X.prog X.w) X.A (pyIter v) (JU X pins σ tg R) X.xe s1) X.xe s
theorem Ek{M:Model}{A:Around}{E:Value->Shared->Prop}{s:Shared}{tg:Expr}{it:Addr}{u:Value}{o:Obj}{n:String}{vs:Array Value}{Q:Unit->Shared->Prop}(ho:s.heap.get? it=some o)(hc:o.cls= .type n)(hd:o.data= .fields vs)
 (hn: ["enumerate","zip","dict_itemiterator","dict_reverseitemiterator","odict_iterator","itertools.zip_longest","itertools.pairwise"].contains n=false) (hQ:Q () s):wpAny M A (letOwnedTupleGo tg (.ref it) u) Q E s:=by
 unfold letOwnedTupleGo
 cases tg<;>first
  |exact TH hQ
  |(cases u<;>first
     |exact TH hQ
     |(refine Tr (wpAny_load ho ?_)
       rw[hc,hd];show wpAny M A (if(["enumerate","zip","dict_itemiterator","dict_reverseitemiterator","odict_iterator","itertools.zip_longest","itertools.pairwise"].contains n&&vs[0]?==some (rawInt _))=true then _ else _) Q E s;rw[Tv (by intro h;rw[hn,Wi]at h;cases h)];exact TH hQ))
def ML(K:PySem.W.Frag)(a:Addr):It:=
 ⟨λ i H=>∃xs x,lK K H a xs/\xs[i]?=some x,λ i H x H'=>H'=H/\∀xs,lK K H a xs->xs[i]?=some x,λ i H=>∃xs,lK K H a xs/\xs.length<=i⟩
def Ny(K:PySem.W.Frag)(a:Addr):It:=
 ⟨λ i H=>∃xs x,ie K H a xs/\xs[i]?=some x,λ i H x H'=>H'=H/\∀xs,ie K H a xs->xs[i]?=some x,λ i H=>∃xs,ie K H a xs/\xs.length<=i⟩
def yv(lo:Int)(n:Nat):It:=⟨λ i _=>i<n,λ i H x H'=>H'=H/\x= .int (lo+i),λ i _=>n<=i⟩
theorem F_{P:Program}{w:World}{K:PySem.W.Frag}{tg:Expr}(a it:Addr):Turn P w K tg (ML K a) [it] it (λ i h=>h.IsListIter it a i) where
 mem:=by simp
 obj:=λ i h st b hb=>by
  have e:b=it:=by simpa using hb
  subst e;obtain⟨o,e,c,d⟩:=st;exact⟨o,e,λ v z=>by rw[d]at z;cases z⟩
 keep:=λ i h h' st k=>st.at λ o e=>k it (by simp) o e
 item:=by
  intro X hP hw hK hc i pins s σ H E I hf st hg;subst hP hw hK;obtain⟨xs,x,hq,hx⟩:=hg;obtain⟨ai,rv,p,hz⟩:=I.list hq;obtain⟨u,hu,ru⟩:=rv.get hx;obtain⟨f0,f1,f2,f3,f4,f5⟩:=hf it (by simp);refine wpAny_pyNext_list_item st p.isList (x:=u) (by simpa using hu) λ h' st' sb=>?_;have I1:Inv X pins σ H {s with heap:=h'}:=I.turned (t':=s.toks) (λ b o hb e=>(sb.2 b hb).trans e) f0 f1 f3 f4 f5;obtain⟨o,e,c,d⟩:=id st';exact⟨u,rfl,Ek (s:={s with heap:=h'}) e c d (by decide) ⟨x,H,I1,ru,⟨rfl,λ ys hy=>by rw[I.Ao hy hq];exact hx⟩,st',λ b hb=>(hf b hb).1⟩⟩
 done:=by
  intro X hP hw hK hc i pins s σ H E I hf st hg;subst hP hw hK;obtain⟨xs,hq,hx⟩:=hg;obtain⟨ai,rv,p,hz⟩:=I.list hq;obtain⟨f0,f1,f2,f3,f4,f5⟩:=hf it (by simp);have hl:=rv.length;exact wpAny_pyNext_list_end (I.ok.hd hc) st p.isList (by simp;omega) λ h' eb=>⟨rfl,I.turned (t':=s.toks) (λ b o hb e=>eb b o hb e) f0 f1 f3 f4 f5⟩
 self:=λ _ _ _ _ _ st h=>wpAny_pyIter_listiter st h
theorem D2{P:Program}{w:World}{K:PySem.W.Frag}{tg:Expr}(a it:Addr):Turn P w K tg (Ny K a) [it] it (λ i h=>h.IsTupleIter it a i) where
 mem:=by simp
 obj:=λ i h st b hb=>by
  have e:b=it:=by simpa using hb
  subst e;obtain⟨o,e,c,d⟩:=st;exact⟨o,e,λ v z=>by rw[d]at z;cases z⟩
 keep:=λ i h h' st k=>st.at λ o e=>k it (by simp) o e
 item:=by
  intro X hP hw hK hc i pins s σ H E I hf st hg;subst hP hw hK;obtain⟨xs,x,hq,hx⟩:=hg;obtain⟨ai,rv,p,hz⟩:=I.tuple hq;obtain⟨u,hu,ru⟩:=rv.get hx;obtain⟨f0,f1,f2,f3,f4,f5⟩:=hf it (by simp);refine wpAny_pyNext_tuple_item st (show s.heap.IsTuple a ai.toArray from p) (x:=u) (by simpa using hu) λ h' st' sb=>?_;have I1:Inv X pins σ H {s with heap:=h'}:=I.turned (t':=s.toks) (λ b o hb e=>(sb.2 b hb).trans e) f0 f1 f3 f4 f5;obtain⟨o,e,c,d⟩:=id st';exact⟨u,rfl,Ek (s:={s with heap:=h'}) e c d (by decide) ⟨x,H,I1,ru,⟨rfl,λ ys hy=>by rw[I.yw hy hq];exact hx⟩,st',λ b hb=>(hf b hb).1⟩⟩
 done:=by
  intro X hP hw hK hc i pins s σ H E I hf st hg;subst hP hw hK;obtain⟨xs,hq,hx⟩:=hg;obtain⟨ai,rv,p,hz⟩:=I.tuple hq;obtain⟨f0,f1,f2,f3,f4,f5⟩:=hf it (by simp);have hl:=rv.length;exact wpAny_pyNext_tuple_end (I.ok.hd hc) st (show s.heap.IsTuple a ai.toArray from p) (by simp;omega) λ h' eb=>⟨rfl,I.turned (t':=s.toks) (λ b o hb e=>eb b o hb e) f0 f1 f3 f4 f5⟩
 self:=λ _ _ _ _ _ st h=>wpAny_pyIter_tupleiter st h
theorem EV{P:Program}{w:World}{K:PySem.W.Frag}{tg:Expr}(it:Addr)(lo:Int)(n:Nat):Turn P w K tg (yv lo n) [it] it (λ i h=>IsRangeIter h it (lo+(i:Nat)*1) ((n:Int)-(i:Nat)) 1) where
 mem:=by simp
 obj:=λ i h st b hb=>by
  have e:b=it:=by simpa using hb
  subst e
  exact⟨_,st,λ v z=>by
   have z':Data.fields _=Data.cell v:=z;cases z'⟩
 keep:=λ i h h' st k=>k it (by simp) _ st
 item:=by
  intro X hP hw hK hc i pins s σ H E I hf st hg;subst hP hw hK;obtain⟨f0,f1,f2,f3,f4,f5⟩:=hf it (by simp);have W:=Walks.range (prog:=X.prog) (w:=X.w) (I.ok.hd hc) it lo 1 n;refine W.item i s _ _ hg st λ v h' tk hv st' kk=>?_;obtain⟨t,rfl⟩:=hv;have I1:Inv X pins σ H {s with heap:=h',toks:=tk}:=I.turned (λ b o hb e=>kk b o (by simpa using hb) e) f0 f1 f3 f4 f5;refine⟨_,rfl,Ek (s:={s with heap:=h',toks:=tk}) (n:="range_iterator") st' rfl rfl (by decide) ⟨.int (lo+i),H,I1,⟨t,?_⟩,⟨rfl,rfl⟩,st',λ b hb=>(hf b hb).1⟩⟩;rw[U_]
 done:=by
  intro X hP hw hK hc i pins s σ H E I hf st hg;subst hP hw hK;obtain⟨f0,f1,f2,f3,f4,f5⟩:=hf it (by simp);exact wpAny_pyNext_range_end (I.ok.hd hc) st (by have:n<=i:=hg;omega) λ h' eb=>⟨rfl,I.turned (t':=s.toks) (λ b o hb e=>eb b o hb e) f0 f1 f3 f4 f5⟩
 self:=λ _ _ _ _ _ st h=>wpAny_pyIter_rangeiter st h
section
variable {X:Cx}{tg:Expr}
theorem Br{pins:List (Addr×Obj)}{σ:St}{H:Hp}{s:Shared}{R:It->Hp->Prop}{E:Value->Shared->Prop}{lo hi:Int}{t u v:Tok}{tk:Nat}(I:Inv X pins σ H s)(h1: -(2^62)<=lo)(h2:lo<2^62)(h3: -(2^62)<=hi)(h4:hi<2^62)
 (q:R (yv lo (hi-lo).toNat) H):wpAny (model X.prog X.w) X.A (pyIter (.ref s.heap.objs.size)) (JU X pins σ tg R) E {s with heap:=s.heap.push {cls:= .type "range",data:= .fields #[.int lo t,.int hi u,.int 1 v]},toks:=tk}:=by
 refine wpAny_pyIter_range (IsRange.new ..) (small_one h1 h2 h3 h4) ?_;have I1:Inv X pins σ H {s with heap:=s.heap.push {cls:= .type "range",data:= .fields #[.int lo t,.int hi u,.int 1 v]},toks:=tk}:=I.kept λ b o e=>Tz _ e
 refine⟨(s.heap.push {cls:= .type "range",data:= .fields #[.int lo t,.int hi u,.int 1 v]}).objs.size,[(s.heap.push {cls:= .type "range",data:= .fields #[.int lo t,.int hi u,.int 1 v]}).objs.size],_,_,H,rfl,
  I1.kept (t':=tk) λ b o e=>Tz _ e,EV _ lo (hi-lo).toNat,?_,λ b hb=>?_,q⟩
 . have e1:lo+((0:Nat):Int)*1=lo:=by simp
   have e2:(((hi-lo).toNat:Nat):Int)-((0:Nat):Int)=Builtin.Range.rangeSize lo hi 1:=by rw[rangeSize_one];split<;>omega
   show IsRangeIter _ _ (lo+((0:Nat):Int)*1) ((((hi-lo).toNat:Nat):Int)-((0:Nat):Int)) 1;rw[e1,e2];exact TX _ rfl
 . have e:b=(s.heap.push {cls:= .type "range",data:= .fields #[.int lo t,.int hi u,.int 1 v]}).objs.size:=by simpa using hb
   subst e;exact I1.wX (Tu _) (I1.aF.fresh (Tu _))
def DC(ta:TA):TI:=λ σ H R=>ta σ H λ vs H1=>∃j:Int,vs=[.int j]/\ -(2^62)<=j/\j<2^62/\R (yv 0 j.toNat) H1
def EU(ta:TA):TI:=λ σ H R=>ta σ H λ vs H1=>∃i j:Int,vs=[.int i,.int j]/\(-(2^62)<=i/\i<2^62/\ -(2^62)<=j/\j<2^62)/\R (yv i (j-i).toNat) H1
theorem Gy{a:Expr}{ta:TA}{p pos:Pos}(hg:Gl X "range")(hm:X.mg "range"=none)(ha:PA X [a] ta)(hs:starEach [a] X.env=[(false,eval a X.env)]:=by rfl):PI X tg (.Call (.Name "range" p) [a] [] pos) (DC ta):=by
 intro pins s σ H R I h;refine Call_ (jv I hg hm boot_range (US (bP (ha pos pins s σ H _ I h) λ us s1 ⟨vs,H1,I1,r1,q1⟩=>?_) hs rfl));obtain⟨j,e,q1,q2,q⟩:=q1;subst e;cases r1 with
 |cons r rr=>
  cases rr;obtain⟨t,rfl⟩:=r;exact call_range_1 (Br I1 (by omega) (by omega) q1 q2 (by simpa using q))
theorem EZ{a b:Expr}{ta:TA}{p pos:Pos}(hg:Gl X "range")(hm:X.mg "range"=none)(ha:PA X [a,b] ta)(hs:starEach [a,b] X.env=[(false,eval a X.env),(false,eval b X.env)]:=by rfl)(hs2:starEach [b] X.env=[(false,eval b X.env)]:=by rfl):
 PI X tg (.Call (.Name "range" p) [a,b] [] pos) (EU ta):=by
 intro pins s σ H R I h;refine Call_ (jv I hg hm boot_range (US (bP (ha pos pins s σ H _ I h) λ us s1 ⟨vs,H1,I1,r1,q1⟩=>?_) (by rw[hs,hs2]) (by rw[hs2];rfl)));obtain⟨i,j,e,⟨q1,q2,q3,q4⟩,q⟩:=q1;subst e;cases r1 with
 |cons r rr=>
  cases rr with
  |cons r' rr=>
   cases rr;obtain⟨t,rfl⟩:=r;obtain⟨t',rfl⟩:=r';exact call_range_2 (Br I1 q1 q2 q3 q4 q)
def OF(wi:TI)(g:TG)(tb:TS):TS:=λ D σ H=>wi σ H λ J H1=>∃W:Nat->Nat->St->Hp->Prop,(∃m,W 0 m σ H1)/\∀i m σ H,W i m σ H->
 (J.stop i H/\D.nx σ H)\/(J.go i H/\∃N:St->Hp->Prop,(∀σ' H',N σ' H'->∃m',m'<m/\W (i+1) m' σ' H')/\∀x H',J.pE i H x H'->g x σ H' λ σ2 H2=>tb {D with nx:=N,ct:=N,bk:=D.nx} σ2 H2)
def sv(fp:List Addr)(h:Heap):List (Addr×Obj):=fp.filterMap λ b=>(h.get? b).map λ o=>(b,o)
theorem mM{fp:List Addr}{h:Heap}{b:Addr}{o:Obj}(hb:b∈fp)(e:h.get? b=some o):(b,o)∈sv fp h:=WA.mpr ⟨b,hb,by rw[e];rfl⟩
theorem EY{fp:List Addr}{h:Heap}{p:Addr×Obj}(hp:p∈sv fp h):p.1∈fp/\h.get? p.1=some p.2:=by
 obtain⟨b,hb,e⟩:=WA.mp hp;cases q:h.get? b with
 |none=>rw[q]at e;cases e
 |some o=>
  rw[q]at e;have e':(b,o)=p:=UE e;subst e';exact⟨hb,q⟩
theorem Inv.pinned{pins:List (Addr×Obj)}{σ:St}{H:Hp}{s:Shared}{fp:List Addr}(I:Inv X pins σ H s)(hf:∀b∈fp,kU X pins H b)(ho:∀b∈fp,∃o,s.heap.get? b=some o/\∀v,o.data≠ .cell v):Inv X (pins++sv fp s.heap) σ H s:=
 I.sY λ p hp=>(Uh.mp hp).elim (λ z=>I.pin p (T9 _ z)) λ z=>by
  obtain⟨hb,e⟩:=EY z;obtain⟨f0,f1,f2,_⟩:=hf p.1 hb;obtain⟨o,e',d⟩:=ho p.1 hb;rw[e]at e';cases e';exact⟨e,f0,f1,f2,d⟩
theorem Inv.gQ{pins pl:List (Addr×Obj)}{σ:St}{H:Hp}{s:Shared}(I:Inv X (pins++pl) σ H s):Inv X pins σ H s:=I.sY λ p hp=>I.pin p (T9 _ (Vd _ hp))
theorem MS{iter:Expr}{body:List Stmt}{wi:TI}{g:TG}{tb:TS}{pos:Pos}(hp:PassesOwn (model X.prog X.w) X.A X.env X.xe)(hc:X.calm=true)(hi:PI X tg iter wi)(hg:PG X tg g)(hb:gH X body tb)
 (hs:∀x,foldedSetIterable iter X.env x=pure x:=by intro _;rfl):PS X (.For tg iter body [] pos) (OF wi g tb):=by
 intro pins s σ H D I h;refine wpAny_For (bP (hi pins s σ H _ I h) λ v s1 h1=>bP h1 λ itv s2 h2=>?_) hs;obtain⟨it,fp,tn,J,H2,e,I2,T,st2,f2,W,⟨m0,w0⟩,turn⟩:=h2;subst e;have stat:∀ {H':Hp},(∀b∈fp,H' b=none)->∀b∈fp,kU X pins H' b:=λ hn b hb=>⟨hn b hb,(f2 b hb).2⟩
 refine codeAny_forLoop_any (λ n s'=>∃i σ' H',Inv X pins σ' H' s'/\tn i s'.heap/\(∀b∈fp,H' b=none)/\W i n σ' H') ?_ m0 ⟨0,σ,H2,I2,st2,λ b hb=>(f2 b hb).1,w0⟩;rintro n s3 ⟨i,σ3,H3,I3,st3,fr3,w3⟩;rcases turn i n σ3 H3 w3 with⟨stop,qn⟩|⟨go,N,hN,step⟩
 . refine VW hp (bP (T.done X rfl rfl rfl hc i pins s3 σ3 H3 X.xe I3 (stat fr3) st3 stop) λ r s4 ⟨hr,I4⟩=>?_);subst hr;exact WY ⟨σ3,H3,I4,qn⟩
 . refine VW hp (bP (T.item X rfl rfl rfl hc i pins s3 σ3 H3 X.xe I3 (stat fr3) st3 go) λ r s4 ⟨u,hr,h4⟩=>?_);subst hr;refine VW hp (bP h4 λ _ s5 ⟨x,H5,I5,r5,y5,st5,fr5⟩=>?_);have I5':=I5.pinned (stat fr5) (T.obj _ _ st5);refine VW hp (bP (hg _ s5 σ3 H5 x u _ I5' r5 (step x H5 y5)) λ _ s6 ⟨σ6,H6,I6,q6⟩=>?_);refine VW hp (bP (hb _ s6 σ6 H6 _ I6 q6) λ f s7 q7=>?_)
   have again:∀ {σ7:St} {H7:Hp},Inv X (pins++sv fp s5.heap) σ7 H7 s7->N σ7 H7->∃m,m<n/\∃i σ' H',Inv X pins σ' H' s7/\tn i s7.heap/\(∀b∈fp,H' b=none)/\W i m σ' H':=λ{σ7 H7} I7 n7=>by
    obtain⟨m',hm,w7⟩:=hN σ7 H7 n7;refine⟨m',hm,i+1,σ7,H7,I7.gQ,T.keep _ _ _ st5 λ b hb o e=>(I7.pin (b,o) (T9 _ (T9 _ (mM hb e)))).1,λ b hb=>?_,w7⟩;obtain⟨o,e,d⟩:=T.obj _ _ st5 b hb;exact(I7.pin (b,o) (T9 _ (T9 _ (mM hb e)))).2.1
   cases f with
   |next=>obtain⟨σ7,H7,I7,n7⟩:=q7;exact again I7 n7
   |cont=>obtain⟨σ7,H7,I7,n7⟩:=q7;exact again I7 n7
   |brk=>obtain⟨σ7,H7,I7,q7⟩:=q7;exact⟨σ7,H7,I7.gQ,q7⟩
   |ret v=>obtain⟨x7,σ7,H7,I7,r7,q7⟩:=q7;exact⟨x7,σ7,H7,I7.gQ,r7,q7⟩
end
theorem gI{lo:Int}{n:Nat}{g:TG}{tb:TS}{D:Ends}{σ:St}{H:Hp}(Pv:Nat->St->Hp->Prop)(h0:Pv 0 σ H)
 (hs:∀i σ H,i<n->Pv i σ H->g (.int (lo+i)) σ H λ σ2 H2=>tb {D with nx:=Pv (i+1),ct:=Pv (i+1),bk:=D.nx} σ2 H2) (hd:∀σ H,Pv n σ H->D.nx σ H):
 ∃W:Nat->Nat->St->Hp->Prop,(∃m,W 0 m σ H)/\∀i m σ H,W i m σ H->
  ((yv lo n).stop i H/\D.nx σ H)\/((yv lo n).go i H/\∃N:St->Hp->Prop,(∀σ' H',N σ' H'->∃m',m'<m/\W (i+1) m' σ' H')/\∀x H',(yv lo n).pE i H x H'->g x σ H' λ σ2 H2=>tb {D with nx:=N,ct:=N,bk:=D.nx} σ2 H2):=by
 refine⟨λ i m σ H=>m=n-i/\i<=n/\Pv i σ H,⟨n,by simp,T4 _,h0⟩,?_⟩;rintro i m σ H ⟨rfl,hi,p⟩;by_cases hlt:i<n
 . refine .inr ⟨hlt,Pv (i+1),λ σ' H' p'=>⟨n-(i+1),by omega,rfl,hlt,p'⟩,λ x H' y=>?_⟩;obtain⟨e,y⟩:=y;subst e y;exact hs i σ _ hlt p
 . have e:i=n:=by omega
   subst e;exact .inl ⟨Tu _,hd σ H p⟩
abbrev R2:=V->V->Hp->VK->Prop
def bV(X:Cx)(f:Value->Value->Sem Value)(r:R2):Prop:=
 ∀(pins:List (Addr×Obj)) (s:Shared) (σ:St) (H:Hp) (x y:V) (v u:Value) (Q:VK),Inv X pins σ H s->RelV x v->RelV y u->r x y H Q->
  wpAny (model X.prog X.w) X.A (f v u) (EP X pins σ Q) X.xe s
def Di(X:Cx)(f:Value->Sem Value)(r:V->Hp->VK->Prop):Prop:=
 ∀(pins:List (Addr×Obj)) (s:Shared) (σ:St) (H:Hp) (x:V) (v:Value) (Q:VK),Inv X pins σ H s->RelV x v->r x H Q->
  wpAny (model X.prog X.w) X.A (f v) (EP X pins σ Q) X.xe s
def bM(X:Cx)(f:Value)(r:List V->Hp->VK->Prop):Prop:=
 ∀(pins:List (Addr×Obj)) (s:Shared) (σ:St) (H:Hp) (xs:List V) (us:List Value) (Q:VK),Inv X pins σ H s->Vals xs us->r xs H Q->
  wpAny (model X.prog X.w) X.A (call f us) (EP X pins σ Q) X.xe s
def Fv(r:R2)(ta tb:TE):TE:=λ σ H Q=>ta σ H λ x H1=>tb σ H1 λ y H2=>r x y H2 Q
def Rq(r:V->Hp->VK->Prop)(ta:TE):TE:=λ σ H Q=>ta σ H λ x H1=>r x H1 Q
def rI(C:Int->Int->Prop)(g:Int->Int->V):R2:=λ x y H Q=>∃i j,x= .int i/\y= .int j/\C i j/\Q (g i j) H
def vp(g:Int->Int->V):R2:=λ x y H Q=>∃i j,x= .int i/\y= .int j/\Q (g i j) H
def rU(g:Int->V):V->Hp->VK->Prop:=λ x H Q=>∃i,x= .int i/\Q (g i) H
section
variable {X:Cx}{a b c:Expr}{ta tb tc:TE}{pos:Pos}
theorem HD(ha:PE X a ta)(hb:PE X b tb){pins:List (Addr×Obj)}{s:Shared}{σ:St}{H:Hp}{R:V->V->Hp->Prop}(I:Inv X pins σ H s)
 (h:ta σ H λ x H1=>tb σ H1 λ y H2=>R x y H2) {Q:Value->Shared->Prop} {f:Value->Value->Sem Value}
 (hf:∀v u s2 x y H2,Inv X pins σ H2 s2->RelV x v->RelV y u->R x y H2->wpAny (model X.prog X.w) X.A (f v u) Q X.xe s2):
 wpAny (model X.prog X.w) X.A (eval a X.env) (λ v s₁=>wpAny (model X.prog X.w) X.A (eval b X.env) (λ u s₂=>wpAny (model X.prog X.w) X.A (f v u) Q X.xe s₂) X.xe s₁) X.xe s:=by
 refine bP (ha pins s σ H _ I h) λ v s1 ⟨x,H1,I1,r1,q1⟩=>?_;refine bP (hb pins s1 σ H1 _ I1 q1) λ u s2 ⟨y,H2,I2,r2,q2⟩=>?_;exact hf v u s2 x y H2 I2 r1 r2 q2
theorem QU{op:Operator}{r:R2}(ho:bV X (binaryOp op) r)(ha:PE X a ta)(hb:PE X b tb):PE X (.BinOp a op b pos) (Fv r ta tb):=by
 intro pins s σ H Q I h;exact wpAny_BinOp (HD ha hb I h λ v u s2 x y H2 I2 rx ry q=>ho pins s2 σ H2 x y v u Q I2 rx ry q)
theorem O7{op:UnaryOp}{r:V->Hp->VK->Prop}(ho:Di X (unaryOp op) r)(ha:PE X a ta):PE X (.UnaryOp op a pos) (Rq r ta):=by
 intro pins s σ H Q I h;exact UnaryOp_ (bP (ha pins s σ H _ I h) λ v s1 ⟨x,H1,I1,r1,q1⟩=>ho pins s1 σ H1 x v Q I1 r1 q1)
theorem Jt{f:Value->Value->Sem Value}{C:Int->Int->Prop}{g:Int->Int->Int}
 (rule:∀(i j:Int) (t u:Tok) (s:Shared) (Q:Value->Shared->Prop) (E:Value->Shared->Prop),C i j->Q (.int (g i j) s.toks) {s with toks:=s.toks+1}->wpAny (model X.prog X.w) X.A (f (.int i t) (.int j u)) Q E s):
 bV X f (rI C λ i j=> .int (g i j)):=by
 intro pins s σ H x y v u Q I rx ry h;obtain⟨i,j,rfl,rfl,hc,q⟩:=h;obtain⟨t,rfl⟩:=rx;obtain⟨t',rfl⟩:=ry;exact rule i j t t' s _ _ hc ⟨.int (g i j),H,I.tok _,⟨_,rfl⟩,q⟩
theorem OB{f:Value->Value->Sem Value}{g:Int->Int->Int}
 (rule:∀(i j:Int) (t u:Tok) (s:Shared) (Q:Value->Shared->Prop) (E:Value->Shared->Prop),Q (.int (g i j) s.toks) {s with toks:=s.toks+1}->wpAny (model X.prog X.w) X.A (f (.int i t) (.int j u)) Q E s):
 bV X f (vp λ i j=> .int (g i j)):=by
 intro pins s σ H x y v u Q I rx ry h;obtain⟨i,j,rfl,rfl,q⟩:=h;obtain⟨t,rfl⟩:=rx;obtain⟨t',rfl⟩:=ry;exact rule i j t t' s _ _ ⟨.int (g i j),H,I.tok _,⟨_,rfl⟩,q⟩
theorem Eh{f:Value->Value->Sem Value}{g:Int->Int->Bool}
 (rule:∀(i j:Int) (t u:Tok) (s:Shared) (Q:Value->Shared->Prop) (E:Value->Shared->Prop),Q (.bool (g i j)) s->wpAny (model X.prog X.w) X.A (f (.int i t) (.int j u)) Q E s):
 bV X f (vp λ i j=> .bl (g i j)):=by
 intro pins s σ H x y v u Q I rx ry h;obtain⟨i,j,rfl,rfl,q⟩:=h;obtain⟨t,rfl⟩:=rx;obtain⟨t',rfl⟩:=ry;exact rule i j t t' s _ _ ⟨.bl (g i j),H,I,rfl,q⟩
def HY(i j:Int):Prop:=0<=j/\j<=1000000/\i.natAbs<2^64
theorem NM:bV X (binaryOp .Add) (vp λ i j=> .int (i+j)):=OB λ _ _ _ _ _ _ _ q=>add_int q
theorem MY:bV X (binaryOp .Sub) (vp λ i j=> .int (i-j)):=OB λ _ _ _ _ _ _ _ q=>sub_int q
theorem Mr:bV X (binaryOp .Mod) (rI (λ _ j=>j≠0) λ i j=> .int (i.fmod j)):=Jt λ _ _ _ _ _ _ _ hc q=>mod_int' hc q
theorem Oh:bV X (binaryOp .Pow) (rI HY λ i j=> .int (i^j.toNat)):=Jt λ _ _ _ _ _ _ _ hc q=>pow_int_small hc.1 hc.2.1 hc.2.2 q
theorem SJ{f:Value->Sem Value}{g:Int->Int}
 (rule:∀(i:Int) (t:Tok) (s:Shared) (Q:Value->Shared->Prop) (E:Value->Shared->Prop),Q (.int (g i) s.toks) {s with toks:=s.toks+1}->wpAny (model X.prog X.w) X.A (f (.int i t)) Q E s):
 Di X f (rU λ i=> .int (g i)):=by
 intro pins s σ H x v Q I rx h;obtain⟨i,rfl,q⟩:=h;obtain⟨t,rfl⟩:=rx;exact rule i t s _ _ ⟨.int (g i),H,I.tok _,⟨_,rfl⟩,q⟩
theorem Oi:Di X (unaryOp .USub) (rU λ i=> .int (-i)):=SJ λ _ _ _ _ _ q=>neg_int q
end
def RV:V->V->Bool
 | .ax,.ax=>true| .ax,.int _=>true| .int _,.ax=>true| .ax,.bl _=>true| .bl _,.ax=>true| .ax,.str _=>true| .str _,.ax=>true
 | .int _,.int _=>true| .bl _,.bl _=>true| .str _,.str _=>true| .um _,.um _=>true
 | .int _,.str _=>true| .str _,.int _=>true| .bl _,.str _=>true| .str _,.bl _=>true
 |_,_=>false
def SN:R2:=λ x y H Q=>RV x y=true/\Q (.bl (!decide (x=y))) H
theorem K8{i j:Int}:decide (V.int i=V.int j)=(i==j):=by
 rw[WZ];simp
theorem Ov{i j:Bool}:decide (V.bl i=V.bl j)=(i==j):=by
 rw[WZ];simp
theorem Mo{i j:Str}:decide (V.str i=V.str j)=(i==j):=by
 rw[WZ];simp
theorem Lw{i j:Array UInt8}:decide (V.um i=V.um j)=(i.toList==j.toList):=by
 rw[WZ];cases i;cases j;simp
section
variable {X:Cx}{a b c:Expr}{ta tb tc:TE}{pos:Pos}
theorem fo{pins:List (Addr×Obj)}{σ:St}{H:Hp}{s:Shared}{Q:VK}{k k':Bool}(I:Inv X pins σ H s)(q:Q (.bl k) H)(e:k=k'):EP X pins σ Q (.bool k') s:=by
 subst e;exact⟨.bl k,H,I,rfl,q⟩
theorem Pa:bV X (compareOp .NotEq) SN:=by
 intro pins s σ H x y v u Q I rx ry h;obtain⟨hs,q⟩:=h;cases x with
 |ax=>
  cases rx;cases y with
  |ax=>cases ry;exact PySem.EqNone.ne_none_none (fo I q (by simp))
  |bl j=>cases ry;exact PySem.EqNone.ne_none_bool (fo I q (by simp))
  |int j=>obtain⟨t',rfl⟩:=ry;exact PySem.EqNone.ne_none_int (fo I q (by simp))
  |str j=>obtain⟨t',rfl⟩:=ry;exact PySem.EqNone.ne_none_str (fo I q (by simp))
  |_=>exact absurd (show false=true from hs) Uo
 |bl i=>
  cases rx;cases y with
  |ax=>cases ry;exact PySem.EqNone.ne_bool_none (fo I q (by simp))
  |bl j=>cases ry;exact ne_bool (fo I q (Vn not Ov))
  |str j=>obtain⟨t',rfl⟩:=ry;exact PySem.EqMixed.ne_bool_str (fo I q (by simp))
  |_=>exact absurd (show false=true from hs) Uo
 |int i=>
  obtain⟨t,rfl⟩:=rx;cases y with
  |ax=>cases ry;exact PySem.EqNone.ne_int_none (fo I q (by simp))
  |int j=>obtain⟨t',rfl⟩:=ry;exact ne_int (fo I q (Vn not K8))
  |str j=>obtain⟨t',rfl⟩:=ry;exact PySem.EqMixed.ne_int_str (fo I q (by simp))
  |_=>exact absurd (show false=true from hs) Uo
 |str i=>
  obtain⟨t,rfl⟩:=rx;cases y with
  |ax=>cases ry;exact PySem.EqNone.ne_str_none (fo I q (by simp))
  |bl j=>cases ry;exact PySem.EqMixed.ne_str_bool (fo I q (by simp))
  |int j=>obtain⟨t',rfl⟩:=ry;exact PySem.EqMixed.ne_str_int (fo I q (by simp))
  |str j=>obtain⟨t',rfl⟩:=ry;exact ne_str (fo I q (Vn not Mo))
  |_=>exact absurd (show false=true from hs) Uo
 |um i=>
  obtain⟨t,rfl⟩:=rx;cases y with
  |um j=>obtain⟨t',rfl⟩:=ry;exact PySem.W.ne_bytes (fo I q (Vn not Lw))
  |_=>exact absurd (show false=true from hs) Uo
 |_=>cases y<;>exact absurd (show false=true from hs) Uo
theorem QG:bV X (compareOp .Lt) (vp λ i j=> .bl (decide (i<j))):=Eh λ _ _ _ _ _ _ _ q=>lt_int q
theorem Qw:bV X (compareOp .LtE) (vp λ i j=> .bl (decide (i<=j))):=Eh λ _ _ _ _ _ _ _ q=>le_int q
theorem P7:bV X (compareOp .Gt) (vp λ i j=> .bl (decide (j<i))):=Eh λ _ _ _ _ _ _ _ q=>gt_int q
theorem Qp:bV X (compareOp .GtE) (vp λ i j=> .bl (decide (j<=i))):=Eh λ _ _ _ _ _ _ _ q=>ge_int q
theorem Mi:bV X (compareOp .IsNot) (λ x y H Q=>y= .ax/\Q (.bl (!decide (x= .ax))) H):=by
 intro pins s σ H x y v u Q I rx ry h;obtain⟨rfl,q⟩:=h;cases ry;refine isnot_none_gen (fo I q ?_)
 cases x<;>first
  |(cases rx;rfl)
  |(obtain⟨t,rfl⟩:=rx;rfl)
theorem js(b:Expr){op:CmpOp}(h:op≠ .In:=by decide)(h2:op≠ .NotIn:=by decide):behindInMarks op b=false:=by
 have e1:(op==CmpOp.In)=false:=by cases op<;>first|rfl|exact absurd rfl h
 have e2:(op==CmpOp.NotIn)=false:=by cases op<;>first|rfl|exact absurd rfl h2
 cases b<;>simp[behindInMarks,e1,e2]
theorem KS{op:CmpOp}{r:R2}(ho:bV X (compareOp op) r)(ha:PE X a ta)(hb:PE X b tb)(hm:behindInMarks op b=false):PE X (.Compare a [op] [b] pos) (Fv r ta tb):=by
 intro pins s σ H Q I h;exact wpAny_Compare1 (HD ha hb I h λ v u s2 x y H2 I2 rx ry q=>ho pins s2 σ H2 x y v u Q I2 rx ry q) hm
def QA(t:TE):TT:=λ σ H Q=>t σ H λ x H'=>∃k,x= .bl k/\Q k H'
theorem L4{op:CmpOp}{r:R2}(ho:bV X (compareOp op) r)(ha:PE X a ta)(hb:PE X b tb)(hm:behindInMarks op b=false):PT X (.Compare a [op] [b] pos) (QA (Fv r ta tb)):=by
 intro pins s σ H Q I h
 refine wpAny_isTrue_Compare1 (bP (ha pins s σ H _ I h) λ v s1 ⟨x,H1,I1,r1,q1⟩=>bP (hb pins s1 σ H1 _ I1 q1) λ u s2 ⟨y,H2,I2,r2,q2⟩=>
  bP (ho pins s2 σ H2 x y v u _ I2 r1 r2 q2) λ c s3 ⟨z,H3,I3,r3,k,e,q3⟩=>?_) hm
 subst e;cases r3;exact VE ⟨H3,I3,q3⟩
theorem q_:(sizeLine:Nat)<2^63:=by rw[V1];decide
theorem Ec:bV X (binaryOp .Add) (λ x y H Q=>∃i j,x= .str i/\y= .str j/\i.length+j.length<=sizeLine/\Q (.str (i++j)) H):=by
 intro pins s σ H x y v u Q I rx ry h;obtain⟨i,j,rfl,rfl,hz,q⟩:=h;obtain⟨t,rfl⟩:=rx;obtain⟨t',rfl⟩:=ry;exact add_str (λ t' tk=>⟨.str (i++j),H,I.tok _,⟨_,rfl⟩,q⟩) hz
theorem vals1{x:V}{us:List Value}(r:Vals [x] us):∃u,us=[u]/\RelV x u:=by
 cases r with
 |cons r1 r2=>cases r2;exact⟨_,rfl,r1⟩
theorem vals2{x y:V}{us:List Value}(r:Vals [x,y] us):∃u w',us=[u,w']/\RelV x u/\RelV y w':=by
 cases r with
 |cons r1 r2=>
  cases r2 with
  |cons r3 r4=>cases r4;exact⟨_,_,rfl,r1,r3⟩
theorem HM:bM X (.builtin "abs") (λ xs H Q=>∃i,xs=[.int i]/\Q (.int (if i<0 then-i else i)) H):=by
 intro pins s σ H xs us Q I r h;obtain⟨i,rfl,q⟩:=h;obtain⟨u,rfl,t,rfl⟩:=vals1 r;exact call_abs_int λ u tk=>⟨.int (if i<0 then-i else i),H,I.tok _,⟨_,rfl⟩,q⟩
theorem Ff(hc:X.calm=true):bM X (.builtin "min") (λ xs H Q=>∃i j,xs=[.int i,.int j]/\Q (.int (if j<i then j else i)) H):=by
 intro pins s σ H xs us Q I r h;obtain⟨i,j,rfl,q⟩:=h;obtain⟨u,w',rfl,⟨t,rfl⟩,⟨t',rfl⟩⟩:=vals2 r;refine min_two_ints (I.ok.hd hc) λ h' tk k=>⟨_,H,I.kept k,?_,q⟩
 by_cases hj:j<i
 . rw[TC hj,TC hj];exact⟨_,rfl⟩
 . rw[Tv hj,Tv hj];exact⟨_,rfl⟩
theorem Gh:bM X (.type "int") (λ xs H Q=>(∃i,xs=[.int i]/\Q (.int i) H)\/∃k,xs=[.bl k]/\Q (.int (if k then 1 else 0)) H):=by
 intro pins s σ H xs us Q I r h;rcases h with⟨i,rfl,q⟩|⟨k,rfl,q⟩
 . obtain⟨u,rfl,t,rfl⟩:=vals1 r;exact call_int_int ⟨.int i,H,I,⟨_,rfl⟩,q⟩
 . obtain⟨u,rfl,r1⟩:=vals1 r;cases r1;exact call_int_bool ⟨.int (if k then 1 else 0),H,I.tok _,⟨_,rfl⟩,q⟩
end
structure uE(h:Heap)(x dx C:Addr)(mA:Str->Option Value):Prop where
 obj:h.get? x=some (PySem.W.instObj C dx)
 ns:h.Ns1 dx mA
 ne:dx≠x
theorem FH{h:Heap}{dx:Addr}{mA:Str->Option Value}(n:h.Ns1 dx mA):∃od,h.get? dx=some od/\∀name,PySem.W.lookIn name od=some (mA name):=by
 obtain⟨o,es,ep,ho,hd,hk,_,hm⟩:=n;refine⟨o,ho,λ name=>?_⟩;have e:=hm name;unfold nsFind findBy at e;rw[<-Array.find?_toList]at e;unfold PySem.W.lookIn;rw[hd];dsimp only;split
 . rename_i y q;rw[q]at e;exact Vn some e
 . rename_i q;rw[q]at e
   have a:es.toList.any (·.refKey)=false:=by
    rw[List.any_eq_false];intro y hy;obtain⟨z,t,hkey⟩:=hk y (Array.mem_toList_iff.mp hy);simp[DictEntry.refKey,hkey]
   have a':¬es.toList.any (·.refKey)=true:=by rw[a];exact Uo
   rw[Tv a'];exact Vn some e
theorem uE.look{h:Heap}{x dx C:Addr}{mA:Str->Option Value}(I:uE h x dx C mA):∃od,PySem.W.InstAt h x (PySem.W.instObj C dx) C (some od)/\∀name,PySem.W.lookIn name od=some (mA name):=
 let⟨od,ho,hl⟩:=FH I.ns
 ⟨od,⟨I.obj,rfl,rfl,ho⟩,hl⟩
section
variable {prog:Program}{w:World}{A:Around}{E:Value->Shared->Prop}{s:Shared}{K:PySem.W.Frag}{x dx C f:Addr}{mA:Str->Option Value}{name:Str}{v:Value}
theorem get_map{expr:Bool}{Q:Value->Shared->Prop}(X:K.In s.heap)(I:uE s.heap x dx C mA)(hg:PySem.W.plainGet K C name=true)(hh:PySem.W.hasDictIn K C=true)
 (ha:PySem.W.findIn K (.ref C) name=some none) (hv:mA name=some v) (hv':PySem.W.handedIn v=true) (h:Q v {s with toks:=s.toks+1}):
 wpAny (model prog w) A (getAttr (.ref x) name expr) Q E s:=by
 obtain⟨od,J,hl⟩:=I.look;exact PySem.W.get_value X J (Xe hg).1 (PySem.W.findObj_own hh ha rfl (by rw[hl,hv])) hv' h
theorem Ir{pl:Sem Bool}{Q:Value×List Value->Shared->Prop}(X:K.In s.heap)(I:uE s.heap x dx C mA)(hg:PySem.W.plainGet K C name=true)
 (hf:PySem.W.findIn K (.ref C) name=some (some (.ref f))) (ht:PySem.W.isFn K (.ref f)=true) (hv:mA name=none) (h:Q (.ref f,[.ref x]) s):
 wpAny (model prog w) A (getMethod (.ref x) name pl) Q E s:=by
 obtain⟨od,J,hl⟩:=I.look;exact PySem.W.method_fn X J (Xe hg).1 (Xe hg).2 hf (VN.mp ht) (by show(PySem.W.lookIn name od).map (·.isSome)=some false;rw[hl,hv];rfl) h
theorem g9{ns:List Str}{Q:Unit->Shared->Prop}(X:K.In s.heap)(I:uE s.heap x dx C mA)
 (hs:PySem.W.findIn K (.ref C) "__setattr__"=some (some (.builtin "object.__setattr__"))) (hp:PySem.W.plainOver K C=true) (ht:PySem.W.takerIn K C name=some none) (hh:PySem.W.hasDictIn K C=true)
 (hw:PySem.Within mA ns) (hsz:ns.length<=sizeLine)
 (h:∀h',uE h' x dx C (λ y=>if y=name then some v else mA y)->Heap.SameBut dx s.heap h'->Q () {s with heap:=h',toks:=s.toks+2}):
 wpAny (model prog w) A (setAttr (.ref x) name v) Q E s:=by
 obtain⟨od,J,hl⟩:=I.look;refine PySem.W.set_plain X J hs (PySem.W.osa_open (s:={s with toks:=s.toks+1}) (r:=none) X J hp ht λ b=>?_);obtain⟨cd,hc,hd'⟩:=PySem.W.any_some hh;have hx:s.heap.get? x=some ⟨.ref C,some dx,.plain,#[]⟩:=I.obj;refine Tr (TH (Tr (Tr (wpAny_loadPart hx (Tr (PySem.W.Looks.here (s:={s with toks:=s.toks+1}) (PySem.W.looks_clsIn X hc) ?_))))));rw[hd'];refine TH (a:=some dx) (Tr (TH (Tr ?_)));refine wpAny_nsSet1 (s:={s with toks:=s.toks+1}) I.ns λ h' hn2 hs2=>?_;obtain⟨oD,esD,epD,hoD,hdD,hcD⟩:=hn2.count (PySem.Within.cons name v hw);refine Tr (wpAny_lookBehind hoD (by rw[hdD];exact pastItsLine_dict (TB hcD (by rw[Uv];omega))) ?_);exact TH (h _ ⟨(hs2.2 _ (TK I.ne)).trans I.obj,hn2,I.ne⟩ hs2)
theorem Hy{R:Result->Shared->Prop}{vs:List Value}{kw:List (Str×Value)}(X:K.In s.heap)(hm:PySem.W.makesIn K C=true)
 (hi:PySem.W.findIn K (.ref C) "__init__"=some (some (.ref f))) (hf:PySem.W.typeIn K (.ref f)=some (.type "function"))
 (h:codeAny (model prog w) (A.under (.builtin "type.__call__" ⟨.ref C::vs,kw⟩)) (.call (.ref f) ⟨.ref (s.heap.objs.size+1)::vs,kw⟩) (PySem.W.InitBack (s.heap.objs.size+1) R)
   {s with heap:=(s.heap.push PySem.W.emptyDict).push (PySem.W.instObj C s.heap.objs.size)}):
 codeAny (model prog w) A (.call (.ref C) ⟨vs,kw⟩) R s:=by
 obtain⟨hh,g,d,t,os⟩:=s;exact PySem.W.make_core (PySem.W.makes_of X hm) (PySem.W.looks_findIn X hi) (λ self=>PySem.W.bind_fn X self hf) (.inl rfl) h
end
def gq(f:Str)(v:V):List (Str×V)->List (Str×V)
 | []=>[(f,v)]
 |(g,x)::r=>if g=f then(g,v)::r else(g,x)::gq f v r
theorem uj(f g:Str)(v:V):∀fs:List (Str×V),(gq f v fs).lookup g=if g=f then some v else fs.lookup g
 | []=>by
   show List.lookup g [(f,v)]=_;by_cases h:g=f
   . have hb:(g==f)=true:=VN.mpr h;simp only[List.lookup,hb,TC h]
   . have hb:(g==f)=false:=VJ.mpr h;simp only[List.lookup,hb,Tv h]
 |(k,x)::r=>by
  have ih:=uj f g v r;rw[show gq f v ((k,x)::r)=(if k=f then(k,v)::r else(k,x)::gq f v r)from rfl];by_cases hk:k=f
  . rw[TC hk];by_cases h:g=k
    . have hb:(g==k)=true:=VN.mpr h;simp only[List.lookup,hb,TC (h.trans hk)]
    . have hb:(g==k)=false:=VJ.mpr h;simp only[List.lookup,hb,Tv (λ e:g=f=>h (e.trans hk.symm))]
  . rw[Tv hk];by_cases h:g=k
    . have hb:(g==k)=true:=VN.mpr h;simp only[List.lookup,hb,Tv (λ e:g=f=>hk (h.symm.trans e))]
    . have hb:(g==k)=false:=VJ.mpr h;simp only[List.lookup,hb];exact ih
theorem rV(f:Str)(v:V):∀fs:List (Str×V),f∈(gq f v fs).map (·.1)/\∀g,g∈fs.map (·.1)->g∈(gq f v fs).map (·.1)
 | []=>⟨by simp[gq],λ g h=>by simp at h⟩
 |(k,x)::r=>by
  obtain⟨i1,i2⟩:=rV f v r;rw[show gq f v ((k,x)::r)=(if k=f then(k,v)::r else(k,x)::gq f v r)from rfl];by_cases hk:k=f
  . rw[TC hk];subst hk;exact⟨by simp,λ g h=>by simpa using h⟩
  . rw[Tv hk];refine⟨?_,λ g h=>?_⟩
    . rw[Uj];exact TY _ i1
    . rw[Uj]at h⊢;rcases TU.mp h with e|e
      . exact TU.mpr (.inl e)
      . exact TY _ (i2 g e)
theorem uv(f:Str)(v:V):∀fs:List (Str×V),(gq f v fs).length<=fs.length+1
 | []=>by simp[gq]
 |(k,x)::r=>by
  have ih:=uv f v r;rw[show gq f v ((k,x)::r)=(if k=f then(k,v)::r else(k,x)::gq f v r)from rfl];by_cases hk:k=f
  . rw[TC hk,Uv,Uv];omega
  . rw[Tv hk,Uv,Uv];omega
theorem oy.some_of{v:V}{o:Option Value}(r:oy (some v) o):∃u,o=some u/\RelV v u:=by
 cases o with
 |none=>exact(show False from r).elim
 |some u=>exact⟨u,rfl,r⟩
theorem oy.none_of{o:Option Value}(r:oy none o):o=none:=by
 cases o with
 |none=>rfl
 |some u=>exact(show False from r).elim
theorem Gk{v:V}{u:Value}(r:RelV v u):PySem.W.handedIn u=true:=by
 cases v with
 |ax=>cases (show u=Value.none from r);rfl
 |bl b=>cases (show u=Value.bool b from r);rfl
 |int i=>obtain⟨t,e⟩:=(show∃t,u=Value.int i t from r);cases e;rfl
 |str x=>obtain⟨t,e⟩:=(show∃t,u=Value.str x t from r);cases e;rfl
 |um b=>obtain⟨t,e⟩:=(show∃t,u=Value.bytes b t from r);cases e;rfl
 |uk b=>obtain⟨t,e⟩:=(show∃t,u=Value.float b t from r);cases e;rfl
 |ref a=>cases (show u=Value.ref a from r);rfl
 |ty n=>cases (show u=Value.type n from r);rfl
section
variable {P:Program}{w:World}{H H':Hp}{h h':Heap}{a C dx:Addr}{fs fs':List (Str×V)}
theorem ph(aF:gX P w H h)(e:H a=some (.ins C dx fs)):∃mA,uE h a dx C mA/\(∀f,oy (fs.lookup f) (mA f))/\PySem.Within mA (fs.map (·.1))/\fs.length<=1000/\H dx=some (.own a):=by
 obtain⟨d,z,ne,ob,mA,n,r,q⟩:=(show c_ P w H h a (.ins C dx fs)from aF a _ e)
 exact⟨mA,⟨ob,n,ne⟩,r,q,z,d⟩
end
structure lP(K:PySem.W.Frag)(C:Addr):Prop where
 pg:PySem.W.plainGet K C Str.empty=true
 hd:PySem.W.hasDictIn K C=true
 po:PySem.W.plainOver K C=true
 sa:PySem.W.findIn K (.ref C) "__setattr__"=some (some (.builtin "object.__setattr__"))
theorem lP.get{K:PySem.W.Frag}{C:Addr}(c:lP K C)(f:Str):PySem.W.plainGet K C f=true:=c.pg
def du(K:PySem.W.Frag)(C:Addr)(f:Str):Prop:=PySem.W.findIn K (.ref C) f=some none
theorem du.QS{K:PySem.W.Frag}{C:Addr}{f:Str}(n:du K C f):PySem.W.takerIn K C f=some none:=by
 unfold PySem.W.takerIn;rw[show PySem.W.findIn K (.ref C) f=some none from n];rfl
structure Meth(K:PySem.W.Frag)(C:Addr)(m:Str)(f:Addr):Prop where
 at_:PySem.W.findIn K (.ref C) m=some (some (.ref f))
 fn:PySem.W.isFn K (.ref f)=true
 kp:PySem.W.keepIn K (.ref f)=true
section
variable {X:Cx}{pins:List (Addr×Obj)}{σ:St}{H:Hp}{s:Shared}{a C dx:Addr}{fs:List (Str×V)}{f:Str}{v:V}{A:Around}{E:Value->Shared->Prop}
theorem Ep{b:Bool}{Q:Value->Shared->Prop}(I:Inv X pins σ H s)(e:H a=some (.ins C dx fs))(c:lP X.K C)(n:du X.K C f)(l:fs.lookup f=some v)
 (h:∀u s',Inv X pins σ H s'->RelV v u->Q u s'):wpAny (model X.prog X.w) A (getAttr (.ref a) f b) Q E s:=by
 obtain⟨mA,O,r,_,_,_⟩:=ph I.aF e;obtain⟨u,hu,ru⟩:=oy.some_of (v:=v) (o:=mA f) (by rw[<-l];exact r f);exact get_map I.gD O (c.get f) c.hd n hu (Gk ru) (h u _ (I.tok _) ru)
theorem vR{m:Str}{g:Addr}{pl:Sem Bool}{Q:Value×List Value->Shared->Prop}(I:Inv X pins σ H s)(e:H a=some (.ins C dx fs))(c:lP X.K C)(k:Meth X.K C m g)(l:fs.lookup m=none)
 (h:Q (.ref g,[.ref a]) s):wpAny (model X.prog X.w) A (getMethod (.ref a) m pl) Q E s:=by
 obtain⟨mA,O,r,_,_,_⟩:=ph I.aF e;have hn:mA m=none:=oy.none_of (by rw[<-l];exact r m);exact Ir I.gD O (c.get m) k.at_ k.fn hn h
theorem DJ{y:V}{u:Value}{Q:Unit->Shared->Prop}(I:Inv X pins σ H s)(e:H a=some (.ins C dx fs))(c:lP X.K C)(n:du X.K C f)(hl:fs.length<1000)(ry:RelV y u)
 (h:∀s',Inv X pins σ (upd H a (.ins C dx (gq f y fs))) s'->Q () s'):wpAny (model X.prog X.w) A (setAttr (.ref a) f u) Q E s:=by
 obtain⟨mA,O,r,wi,_,ho⟩:=ph I.aF e;have hz:(fs.map (·.1)).length<=sizeLine:=by rw[Tw,V1];omega
 refine g9 I.gD O c.sa c.po n.QS c.hd wi hz λ h' O' sb=>h _ ?_;have hd:∃o,h'.get? dx=some o:=let⟨o,_,_,e',_⟩:=O'.ns;⟨o,e'⟩
 refine I.write (x:=a) (e:=dx) (by rw[e];exact True.intro) (.inr ho) (λ b q hb z=>(sb.2 b hb).trans z) hd ?_;refine⟨by rw[aw O.ne];exact ho,?_,O.ne,O'.obj,_,O'.ns,λ g=>?_,λ g hg=>?_⟩
 . have:=uv f y fs;omega
 . show oy ((gq f y fs).lookup g) (if g=f then some u else mA g);rw[uj];by_cases q:g=f
   . rw[TC q,TC q];exact ry
   . rw[Tv q,Tv q];exact r g
 . by_cases q:g=f
   . rw[q];exact(rV f y fs).1
   . refine(rV f y fs).2 g (wi g λ z=>hg ?_);show(if g=f then some u else mA g)=none;rw[Tv q];exact z
theorem Inv.made(I:Inv X pins σ H s):Inv X pins σ (upd (upd H s.heap.objs.size (.own (s.heap.objs.size+1))) (s.heap.objs.size+1) (.ins C s.heap.objs.size []))
 {s with heap:=(s.heap.push PySem.W.emptyDict).push (PySem.W.instObj C s.heap.objs.size)}:=by
 have e1:(s.heap.push PySem.W.emptyDict).get? s.heap.objs.size=some PySem.W.emptyDict:=TX s.heap rfl
 have e2:((s.heap.push PySem.W.emptyDict).push (PySem.W.instObj C s.heap.objs.size)).get? (s.heap.objs.size+1)=some (PySem.W.instObj C s.heap.objs.size):=by
  have:=TX (s.heap.push PySem.W.emptyDict) (o:=PySem.W.instObj C s.heap.objs.size) rfl;rwa [U9]at this
 have e3:(s.heap.push PySem.W.emptyDict).Ns s.heap.objs.size (λ _=>none):=⟨PySem.W.emptyDict,#[],_,e1,rfl,(λ e he=>absurd he (by simp)),λ _=>rfl⟩
 have I1:=I.laid (a:=s.heap.objs.size) (o:= .own (s.heap.objs.size+1)) (h':=s.heap.push PySem.W.emptyDict) (t':=s.toks) (λ b u q=>Tz _ q) (Tu _) ⟨_,e1⟩;refine I1.laid (a:=s.heap.objs.size+1) (o:= .ins C s.heap.objs.size []) (t':=s.toks) (λ b u q=>Tz _ q) (W0 (U9 _ _)) ?_;have ne:s.heap.objs.size≠s.heap.objs.size+1:=Ue (Uz _);refine⟨by rw[aw ne,aW],T4 _,ne,e2,λ _=>none,(Heap.Ns1.of_empty e3).at λ o q=>Tz _ q,λ _=>True.intro,λ y hy=>absurd rfl hy⟩
theorem Lx{prog:Program}{w:World}{env:Env}{e:Expr}{f:Str}{pos:Pos}{s:Shared}{Q:Value->Shared->Prop}(hb:attributeBase e f env (eval e env)=eval e env)
 (h:wpAny (model prog w) A (eval e env) (λ o s₁=>wpAny (model prog w) A (getAttr o f true) Q E s₁) E s):wpAny (model prog w) A (eval (.Attribute e f pos) env) Q E s:=
 Attribute_any_ h (by rw[arm_eval_Attribute,hb])
end
def Ru(K:PySem.W.Frag)(ta:TE)(f:Str):TE:=λ σ H Q=>ta σ H λ x H1=>∃a C dx fs v,x= .ref a/\H1 a=some (.ins C dx fs)/\lP K C/\du K C f/\fs.lookup f=some v/\Q v H1
def RM(K:PySem.W.Frag)(ta tv:TE)(f:Str):TS:=λ D σ H=>tv σ H λ y H1=>ta σ H1 λ x H2=>∃a C dx fs,x= .ref a/\H2 a=some (.ins C dx fs)/\lP K C/\du K C f/\fs.length<1000/\
 D.nx σ (upd H2 a (.ins C dx (gq f y fs)))
section
variable {X:Cx}{o e value:Expr}{f:Str}{pos pos' tpos:Pos}{ta tv:TE}
theorem MT(he:PE X e ta)(hb:attributeBase e f X.env (eval e X.env)=eval e X.env):PE X (.Attribute e f pos) (Ru X.K ta f):=by
 intro pins s σ H Q I h;refine Lx hb (bP (he pins s σ H _ I h) λ u s1 ⟨x,H1,I1,rx,a,C,dx,fs,v,ex,ea,c,n,l,q⟩=>?_);subst ex;obtain rfl:u=Value.ref a:=rx;exact Ep I1 ea c n l λ u' s2 I2 ru=>⟨v,H1,I2,ru,q⟩
theorem Nl(ha:PE X o ta)(hv:PE X value tv)(hs:swapsWith value (some (.Attribute o f pos')) pos.line X.env=pure false):PS X (.Assign [.Attribute o f pos'] value pos) (RM X.K ta tv f):=by
 intro pins s σ H D I h;refine plainObj_wpAny_Assign_Attribute (bP (hv pins s σ H _ I h) λ u s1 ⟨y,H1,I1,ry,q⟩=>bP (ha pins s1 σ H1 _ I1 q) λ ov s2 ⟨x,H2,I2,rx,a,C,dx,fs,ex,ea,c,n,l,q2⟩=>?_) hs;subst ex;obtain rfl:ov=Value.ref a:=rx;exact DJ I2 ea c n l ry λ s3 I3=>⟨σ,_,I3,q2⟩
end
section
variable {X:Cx}{pins:List (Addr×Obj)}{σ:St}{H:Hp}{s:Shared}{A:Around}{E:Value->Shared->Prop}{Q:Value->Shared->Prop}{c:Value}{b:Bool}
inductive je(K:PySem.W.Frag)(H:Hp):V->Value->Prop where
 |ax:je K H .ax (.type "NoneType")
 |bl (x:Bool):je K H (.bl x) (.type "bool")
 |int (i:Int):je K H (.int i) (.type "int")
 |str (x:Str):je K H (.str x) (.type "str")
 |uk (x:UInt64):je K H (.uk x) (.type "float")
 |lst {a:Addr} {xs:List V} (e:H a=some (.lst xs)):je K H (.ref a) (.type "list")
 |e8 {a:Addr} {o:Obj} {xs:List V} (e:H a=some (.e8 o (.lst xs))):je K H (.ref a) (.type "list")
 |tup {a:Addr} {xs:List V} (e:H a=some (.tup xs)):je K H (.ref a) (.type "tuple")
 |dK {a:Addr} {kvs:List (Key×V)} (e:H a=some (.dK kvs)):je K H (.ref a) (.type "dict")
 |dT {a:Addr} {kvs:List (List Key×V)} (e:H a=some (.dT kvs)):je K H (.ref a) (.type "dict")
 |ins {a C dx:Addr} {fs:List (Str×V)} (e:H a=some (.ins C dx fs)) (cl:lP K C) (ha:PySem.W.findIn K (.ref C) "__class__"=some (some (.builtin "object.__class__")))
   (hn:PySem.W.specialIn K (.builtin "object.__class__") "__get__"=some (some (.builtin "getset_descriptor.__get__"))) (htk:PySem.W.takesIn K (.builtin "object.__class__")=some true)
   (hm:PySem.W.mroIn K C (.type "object")=some true):je K H (.ref a) (.ref C)
theorem Gx{x:V}{u t:Value}(I:Inv X pins σ H s)(rx:RelV x u)(ty:je X.K H x t)(e:PySem.W.kitOne X.K t c=some b)(h:∀tk,Q (.bool b) {s with toks:=tk}):
 wpAny (model X.prog X.w) A (call (.builtin "isinstance") [u,c]) Q E s:=by
 cases ty with
 |ax=>cases (show u=Value.none from rx);exact Va PySem.W.kitx_none I.gD True.intro e (λ z=>nomatch z) h
 |bl y=>cases (show u=Value.bool y from rx);exact Va PySem.W.kitx_bool I.gD True.intro e (λ z=>nomatch z) h
 |int i=>obtain⟨t,q⟩:=(show∃t,u=Value.int i t from rx);cases q;exact Va PySem.W.kitx_int I.gD True.intro e (λ z=>nomatch z) h
 |str y=>obtain⟨t,q⟩:=(show∃t,u=Value.str y t from rx);cases q;exact Va PySem.W.kitx_str I.gD True.intro e (λ z=>nomatch z) h
 |uk y=>obtain⟨t,q⟩:=(show∃t,u=Value.float y t from rx);cases q;exact Va PySem.W.kitx_float I.gD True.intro e (λ z=>nomatch z) h
 | @lst a xs ea=>
   cases (show u=Value.ref a from rx);obtain⟨_,_,n,_,h1⟩:=(show c_ X.prog X.w H s.heap a (.lst xs)from I.aF a _ ea)
   exact Va WN I.gD ⟨_,h1,rfl⟩ e (λ z=>nomatch z) h
 | @e8 a ob xs ea=>
   cases (show u=Value.ref a from rx);obtain⟨_,_,_,n,_,h1⟩:=(show c_ X.prog X.w H s.heap a (.e8 ob (.lst xs))from I.aF a _ ea)
   exact Va WN I.gD ⟨_,h1,rfl⟩ e (λ z=>nomatch z) h
 | @tup a xs ea=>
   cases (show u=Value.ref a from rx);obtain⟨_,_,_,p⟩:=(show c_ X.prog X.w H s.heap a (.tup xs)from I.aF a _ ea)
   obtain⟨o,h1,h2,_⟩:=p;exact Va PySem.W.kitx_tuple I.gD ⟨o,h1,h2⟩ e (λ z=>nomatch z) h
 | @dK a kvs ea=>
   cases (show u=Value.ref a from rx);obtain⟨_,_,vs,_,p⟩:=(show c_ X.prog X.w H s.heap a (.dK kvs)from I.aF a _ ea)
   obtain⟨o,es,ep,h1,h2,_⟩:=p;exact Va WO I.gD ⟨o,h1,h2.1⟩ e (λ z=>nomatch z) h
 | @dT a kvs ea=>
   cases (show u=Value.ref a from rx);obtain⟨_,_,xs,_,o,es,ep,h1,h2,_⟩:=(show c_ X.prog X.w H s.heap a (.dT kvs)from I.aF a _ ea)
   exact Va WO I.gD ⟨o,h1,h2.1⟩ e (λ z=>nomatch z) h
 | @ins a C dx fs ea cl ha hn htk hm=>
   cases (show u=Value.ref a from rx);obtain⟨mA,O,_⟩:=ph I.aF ea;obtain⟨od,J,_⟩:=O.look;exact Va (PySem.W.kitx_own (cl.get _) cl.hd ha hn htk hm) I.gD J e (λ z=>nomatch z) h
end
structure cJ(k:Nat)(A:Around):Prop where
 hd:A.handled=none
 dp:A.depth+3*k+105<recursionLimit
 un:A.units+16*k+200<cLine
theorem cJ.mono{j k:Nat}{A:Around}(r:cJ k A)(h:j<=k):cJ j A:=⟨r.hd,by have:=r.dp;omega,by have:=r.un;omega⟩
theorem cJ.deeper{k:Nat}{A:Around}(r:cJ (k+1) A)(env:Env):cJ k (A.deeper env):=
 ⟨r.hd,by have:=r.dp;show A.depth+1+3*k+105<_;omega,by have:=r.un;show A.units+3+16*k+200<_;omega⟩
theorem EO{A:Around}{C:Addr}{us:List Value}{kw:List (Str×Value)}:(A.under (.builtin "type.__call__" ⟨.ref C::us,kw⟩)).depth=A.depth+1:=by
 first|rfl|simp[Around.under,Code.weight,Code.isCreation,Code.isGuard,Code.isCaller,Code.frames,Code.isFrame,guardIds]
theorem EA{A:Around}{C:Addr}{us:List Value}{kw:List (Str×Value)}:(A.under (.builtin "type.__call__" ⟨.ref C::us,kw⟩)).units=A.units+1:=by
 first|rfl|simp[Around.under,Code.cUnits,Code.frames,Code.isFrame]
theorem cJ.make{k:Nat}{A:Around}(r:cJ (k+1) A)(C:Addr)(us:List Value)(kw:List (Str×Value)):cJ k (A.under (.builtin "type.__call__" ⟨.ref C::us,kw⟩)):=
 ⟨r.hd,by have:=r.dp;rw[EO];omega,by have:=r.un;rw[EA];omega⟩
theorem cJ.depth{k:Nat}{A:Around}(r:cJ k A):A.depth<recursionLimit:=by have:=r.dp;omega
theorem cJ.units{k:Nat}{A:Around}(r:cJ k A):A.units+64<cLine:=by have:=r.un;omega
def OZ:TA:=λ _ H Q=>Q [] H
def Qx(ta:TE)(tr:TA):TA:=λ σ H Q=>ta σ H λ x H1=>tr σ H1 λ xs H2=>Q (x::xs) H2
section
variable {X:Cx}{e:Expr}{es:List Expr}{te:TE}{t:TA}{pos:Pos}
theorem OT:PA X [] OZ:=λ _ _ _ _ H Q I h=>Calls.spliced_nil ⟨[],H,I,.nil,h⟩
theorem Lg(ha:PE X e te)(hr:PA X es t)(hs:starEach (e::es) X.env=(false,eval e X.env)::starEach es X.env:=by rfl):PA X (e::es) (Qx te t):=by
 intro pos pins s σ H Q I h;rw[hs];show wpAny _ _ (spliced ((false,eval e X.env)::backTo pos (starEach es X.env))) _ _ s;refine Calls.spliced_cons (bP (ha pins s σ H _ I h) λ u s1 ⟨x,H1,I1,r1,q1⟩=>?_);exact bP (hr pos pins s1 σ H1 _ I1 q1) λ us s2 ⟨xs,H2,I2,r2,q2⟩=>⟨x::xs,H2,I2,.cons r1 r2,q2⟩
def RQ(t:TA):TE:=λ σ H Q=>t σ H λ xs H1=>xs.length<=sizeLine/\∀p,H1 p=none->Q (.ref p) (upd H1 p (.tup xs))
def Sq(t:TA):TE:=λ σ H Q=>t σ H λ xs H1=>xs.length<=sizeLine/\∀p,H1 p=none->Q (.ref p) (upd H1 p (.lst xs))
theorem ON{x1}(h:PA X es t):PE X (.Tuple es x1 pos) (RQ t):=by
 intro pins s σ H Q I hq;refine wpAny_Tuple_spliced (bP (h pos pins s σ H _ I hq) λ us s1 ⟨xs,H1,I1,r,z,q⟩=>⟨by rw[<-r.length];exact z,?_⟩);have hf:H1 s1.heap.objs.size=none:=I1.aF.fresh (Tu _);refine⟨.ref s1.heap.objs.size,upd H1 s1.heap.objs.size (.tup xs),I1.laid (t':=s1.toks) (λ b u e=>Tz _ e) (Tu _) ?_,rfl,q _ hf⟩;exact⟨z,us,r,⟨_,TX _ rfl,rfl,_,rfl⟩⟩
theorem F2(h:PA X es t):PE X (.List es pos) (Sq t):=by
 intro pins s σ H Q I hq;refine wpAny_List_spliced (bP (h pos pins s σ H _ I hq) λ us s1 ⟨xs,H1,I1,r,z,q⟩=>⟨by rw[<-r.length];exact z,?_⟩);have hf:H1 s1.heap.objs.size=none:=I1.aF.fresh (Tu _);refine⟨.ref s1.heap.objs.size,upd H1 s1.heap.objs.size (.lst xs),I1.laid (t':=s1.toks) (λ b u e=>Tz _ e) (Tu _) ?_,rfl,q _ hf⟩;exact⟨z,us,0,r,TX _ rfl⟩
end
abbrev Sp:=List V->Hp->VK->XK->Prop
abbrev tY:=List Env->Hp->Shared->XK->Value->Shared->Prop
structure uO(P:Program)(w:World)(K:PySem.W.Frag)(mg:Str->Option Value)(base:Heap)(A:Around)(outer:List Env)(s:Shared)(H:Hp):Prop where
 frames:A.frames=some outer
 mod:Mod K mg base
 bs:∀b o,base.get? b=some o->s.heap.get? b=some o/\H b=none
 sQ:base.objs.size<=s.heap.objs.size
 j_:s.heap.FunFrames base outer
 vM:∀b∈oP outer,H b=none
 aF:gX P w H s.heap
 bare:AllBare s.gens
 gt:P.given.tree=none
def CE(outer:List Env)(P:Program)(w:World)(H:Hp)(s:Shared)(Q:VK)(u:Value)(s':Shared):Prop:=
 ∃v H',s'.os=s.os/\AllBare s'.gens/\Un (oP outer) [] H H' s.heap s'.heap/\gX P w H' s'.heap/\RelV v u/\Q v H'
def CR(CX:tY)(outer:List Env)(P:Program)(w:World)(H:Hp)(s:Shared)(Q:VK)(E:XK)(r:Result)(s':Shared):Prop:=
 match r with
 | .ok (.ret u)=>CE outer P w H s Q u s'
 | .ok _=>False
 | .error e=>CX outer H s E e s'
structure cR(P:Program)(w:World)(K:PySem.W.Frag)(mg:Str->Option Value)(base:Heap)(CX:tY)(k:Nat)(f:Addr)(fd:FuncData)(ps:List Str)(sp:Sp):Prop where
 len:∀vs H Q E,sp vs H Q E->vs.length=ps.length
 run:∀(A:Around) (outer:List Env) (s:Shared) (H:Hp) (args:Args) (us:List Value) (vs:List V) (Q:VK) (E:XK),cJ k A->uO P w K mg base A outer s H->BindsTo s fd args (ps.zip us)->Vals vs us->sp vs H Q E->
  codeAny (model P w) A (.call (.ref f) args) (CR CX outer P w H s Q E) s
theorem cR.imp{P:Program}{w:World}{K:PySem.W.Frag}{mg:Str->Option Value}{base:Heap}{CX:tY}{k:Nat}{f:Addr}{fd:FuncData}{ps:List Str}{sp sp':Sp}(F:cR P w K mg base CX k f fd ps sp)
 (h:∀vs H Q E,sp' vs H Q E->sp vs H Q E):cR P w K mg base CX k f fd ps sp':=
 ⟨λ vs H Q E q=>F.len vs H Q E (h _ _ _ _ q),λ A outer s H args us vs Q E hr he hb hv hs=>F.run A outer s H args us vs Q E hr he hb hv (h _ _ _ _ hs)⟩
theorem uO.make{P:Program}{w:World}{K:PySem.W.Frag}{mg:Str->Option Value}{base:Heap}{A:Around}{outer:List Env}{s:Shared}{H:Hp}(e:uO P w K mg base A outer s H)(C:Addr)(us:List Value)(kw:List (Str×Value)):
 uO P w K mg base (A.under (.builtin "type.__call__" ⟨.ref C::us,kw⟩)) outer s H:=⟨by first|exact e.frames|(simpa[Around.under,Code.envs,Code.isFrame,pushEnvs]using e.frames),e.mod,e.bs,e.sQ,e.j_,e.vM,e.aF,e.bare,e.gt⟩
section
variable {X:Cx}{pins:List (Addr×Obj)}{σ:St}{H:Hp}{s s':Shared}
theorem Inv.N4(I:Inv X pins σ H s):uO X.prog X.w X.K X.mg X.base X.A X.stack s H:=
 ⟨I.ok.frames,I.ok.mod,I.bs,TB I.ok.sQ I.sz,I.stack,I.wL,I.aF,I.bare,I.ok.gt⟩
theorem Inv.after{Q:VK}{u:Value}(I:Inv X pins σ H s)(h:CE X.stack X.prog X.w H s Q u s'):EP X pins σ Q u s':=by
 obtain⟨v,H',os,bare,un,aF,r,q⟩:=h;obtain⟨hh,g,d,t,os'⟩:=s';obtain rfl:os'=s.os:=os;exact⟨v,H',I.call (h':=hh) (g':=g) (d':=d) (t':=t) (ch:=[]) un aF bare (λ b z=>absurd z (by simp)),r,q⟩
end
def Ju(sp:Sp)(dvs:List V)(E:XK)(t:TA):TE:=λ σ H Q=>t σ H λ vs H1=>sp (vs++dvs) H1 Q E
def DV(C:Addr)(m:Str)(sp:Sp)(dvs:List V)(E:XK)(ta:TE)(t:TA):TE:=λ σ H Q=>ta σ H λ x H1=>∃a dx fs,x= .ref a/\H1 a=some (.ins C dx fs)/\fs.lookup m=none/\
 t σ H1 λ vs H2=>sp (x::(vs++dvs)) H2 Q E
def Jv(C:Addr)(sp:Sp)(dvs:List V)(E:XK)(t:TA):TE:=λ σ H Q=>t σ H λ vs H1=>∀x dx,H1 x=none->H1 dx=none->dx≠x->
 sp (.ref x::(vs++dvs)) (upd (upd H1 dx (.own x)) x (.ins C dx [])) (λ v H2=>v= .ax/\Q (.ref x) H2) E
def Binds(K:PySem.W.Frag)(fd:FuncData)(ps:List Str)(ds:List Value):Prop:=
 ∀(s:Shared) (us:List Value),K.In s.heap->(us++ds).length=ps.length->BindsTo s fd ⟨us,[]⟩ (ps.zip (us++ds))
theorem Binds.all{K:PySem.W.Frag}{fd:FuncData}{ps:List Str}(h:∀us:List Value,us.length=ps.length->bindArgs fd ⟨us,[]⟩=pure (ps.zip us)):Binds K fd ps []:=λ s us _ hl=>by
 rw[Vb]at hl⊢;exact .of_eq (h us hl)
def Passes(CX:tY)(X:Cx)(E:XK):Prop:=∀(pins:List (Addr×Obj)) (σ:St) (H:Hp) (s:Shared) (e:Value) (s':Shared),Inv X pins σ H s->CX X.stack H s E e s'->X.xe e s'
section
variable {X:Cx}{CX:tY}{k:Nat}{f C:Addr}{fd:FuncData}{ps:List Str}{sp:Sp}{dvs:List V}{ds:List Value}{E:XK}{x m:Str}{p pos apos:Pos}{e o:Expr}{es:List Expr}{ta:TE}{t:TA}
theorem Aj{pins:List (Addr×Obj)}{σ:St}{H:Hp}{s:Shared}{Q:VK}{us:List Value}{vs:List V}(F:cR X.prog X.w X.K X.mg X.base CX k f fd ps sp)(hr:cJ k X.A)(hb:Binds X.K fd ps ds)(hd:Vals dvs ds)(hx:Passes CX X E)
 (I:Inv X pins σ H s) (r:Vals vs us) (h:sp (vs++dvs) H Q E):wpAny (model X.prog X.w) X.A (call (.ref f) us) (EP X pins σ Q) X.xe s:=by
 have r2:Vals (vs++dvs) (us++ds):=r.append hd;have hl:(us++ds).length=ps.length:=by rw[<-r2.length];exact F.len _ _ _ _ h
 refine wpAny_call (XJ (F.run X.A X.stack s H ⟨us,[]⟩ (us++ds) (vs++dvs) Q E hr I.N4 (hb s us I.gD hl) r2 h) λ r s' hq=>?_);cases r with
 |error e=>exact hx pins σ H s e s' I hq
 |ok fl=>
  cases fl with
  |ret u=>exact I.after hq
  |next=>exact False.elim hq
  |brk=>exact False.elim hq
  |cont=>exact False.elim hq
theorem Mn(F:cR X.prog X.w X.K X.mg X.base CX k f fd ps sp)(hr:cJ k X.A)(hg:Gl X x)(hm:X.mg x=some (.ref f))(hk:PySem.W.keepIn X.K (.ref f)=true)(hb:Binds X.K fd ps ds)(hd:Vals dvs ds)(hx:Passes CX X E)
 (ha:PA X (e::es) t) (hdb:(x==("__debug__":Str))=false:=by decide) (he:starEach (e::es) X.env=(false,eval e X.env)::starEach es X.env:=by rfl) (hpl:(backTo pos (starEach es X.env)).any (·.1)=false:=by rfl):
 PE X (.Call (.Name x p) (e::es) [] pos) (Ju sp dvs E t):=by
 intro pins s σ H Q I h;refine V8 (C_ I hg hm ?_ hdb);refine Xm (h₀:=X.base) I.ok.mod.F4 hk (bP (ha pos pins s σ H _ I h) λ us s1 ⟨vs,H1,I1,r,q⟩=>⟨I1.gD,?_⟩) he hpl;exact Aj F hr hb hd hx I1 r q
theorem L7{pl:Sem Bool}(he:PE X o ta)(c:lP X.K C)(hm:Meth X.K C m f)(F:cR X.prog X.w X.K X.mg X.base CX k f fd ps sp)(hr:cJ k X.A)(hb:Binds X.K fd ps ds)(hd:Vals dvs ds)(hx:Passes CX X E)(ha:PA X (e::es) t)
 (hst:starEach (e::es) X.env=(false,eval e X.env)::starEach es X.env:=by rfl) (hpl:(backTo pos (starEach es X.env)).any (·.1)=false:=by rfl)
 (ht:eval (.Call (.Attribute o m apos) (e::es) [] pos) X.env=(do
   let ov <-eval o X.env
   standAt apos.atName
   let(f,first) <-holding [ov] (getMethod ov m pl)
   callWith pos f first (backTo pos (starEach (e::es) X.env)) (backToKw pos (keywordEach [] X.env))):=by rfl):
 PE X (.Call (.Attribute o m apos) (e::es) [] pos) (DV C m sp dvs E ta t):=by
 intro pins s σ H Q I h;refine Yh (pl:=pl) (bP (he pins s σ H _ I h) λ u s1 ⟨x,H1,I1,rx,a,dx,fs,ex,ea,l,q⟩=>?_) ht;subst ex;obtain rfl:u=Value.ref a:=rx;refine vR I1 ea c hm l ?_;refine Xm (first:=[.ref a]) (h₀:=X.base) I.ok.mod.F4 hm.kp (bP (ha pos pins s1 σ H1 _ I1 q) λ us s2 ⟨vs,H2,I2,r,q2⟩=>⟨I2.gD,?_⟩) hst hpl;exact Aj (us:= .ref a::us) (vs:= .ref a::vs) F hr hb hd hx I2 (.cons rfl r) q2
theorem IB{pl:Sem Bool}(he:PE X o ta)(c:lP X.K C)(hm:Meth X.K C m f)(F:cR X.prog X.w X.K X.mg X.base CX k f fd ps sp)(hr:cJ k X.A)(hb:Binds X.K fd ps ds)(hd:Vals dvs ds)(hx:Passes CX X E)
 (ht:eval (.Call (.Attribute o m apos) [] [] pos) X.env=(do
   let ov <-eval o X.env
   standAt apos.atName
   let(f,first) <-holding [ov] (getMethod ov m pl)
   callWith pos f first (backTo pos (starEach [] X.env)) (backToKw pos (keywordEach [] X.env))):=by rfl):
 PE X (.Call (.Attribute o m apos) [] [] pos) (DV C m sp dvs E ta OZ):=by
 intro pins s σ H Q I h;refine Yh (pl:=pl) (bP (he pins s σ H _ I h) λ u s1 ⟨x,H1,I1,rx,a,dx,fs,ex,ea,l,q⟩=>?_) ht;subst ex;obtain rfl:u=Value.ref a:=rx;refine vR I1 ea c hm l ?_;exact PySem.W.callWith_K0 (first:=[.ref a]) I1.gD hm.kp (Aj (us:=[.ref a]) (vs:=[.ref a]) F hr hb hd hx I1 (.cons rfl .nil) q)
structure Mk(K:PySem.W.Frag)(C f:Addr):Prop where
 makes:PySem.W.makesIn K C=true
 init:PySem.W.findIn K (.ref C) "__init__"=some (some (.ref f))
 fn:PySem.W.isFn K (.ref f)=true
 kp:PySem.W.keepIn K (.ref C)=true
theorem Ih{pins:List (Addr×Obj)}{σ:St}{H:Hp}{s:Shared}{Q:VK}{us:List Value}{vs:List V}(M:Mk X.K C f)(F:cR X.prog X.w X.K X.mg X.base CX k f fd ps sp)(hr:cJ (k+1) X.A)(hb:Binds X.K fd ps ds)(hd:Vals dvs ds)
 (hx:Passes CX X E) (I:Inv X pins σ H s) (r:Vals vs us)
 (h:∀x dx,H x=none->H dx=none->dx≠x->sp (.ref x::(vs++dvs)) (upd (upd H dx (.own x)) x (.ins C dx [])) (λ v H2=>v= .ax/\Q (.ref x) H2) E):
 wpAny (model X.prog X.w) X.A (call (.ref C) us) (EP X pins σ Q) X.xe s:=by
 have hq:=h (s.heap.objs.size+1) s.heap.objs.size (I.aF.fresh (Xj _)) (I.aF.fresh (Tu _)) (Ue (Uz _));have I2:=Inv.made (C:=C) I;have r2:Vals (V.ref (s.heap.objs.size+1)::(vs++dvs)) (Value.ref (s.heap.objs.size+1)::(us++ds)):= .cons rfl (r.append hd)
 have hl:(Value.ref (s.heap.objs.size+1)::us++ds).length=ps.length:=by
  have e:=r2.length;rw[F.len _ _ _ _ hq]at e;exact e.symm
 refine wpAny_call (Hy (f:=f) I.gD M.makes M.init (VN.mp M.fn) (XJ (F.run _ X.stack _ _ ⟨Value.ref (s.heap.objs.size+1)::us,[]⟩ (Value.ref (s.heap.objs.size+1)::(us++ds)) _ _ E (hr.make C us [])
  (I2.N4.make C us []) (hb _ (Value.ref (s.heap.objs.size+1)::us) I2.gD hl) r2 hq) λ r s' hq'=>?_))
 cases r with
 |error e=>exact hx pins σ _ _ e s' I2 hq'
 |ok fl=>
  cases fl with
  |ret u=>
   obtain⟨v,H',I3,rv,ev,q3⟩:=I2.after hq';subst ev;exact⟨rv,⟨V.ref (s.heap.objs.size+1),H',I3,rfl,q3⟩⟩
  |next=>exact False.elim hq'
  |brk=>exact False.elim hq'
  |cont=>exact False.elim hq'
theorem Ms(M:Mk X.K C f)(F:cR X.prog X.w X.K X.mg X.base CX k f fd ps sp)(hr:cJ (k+1) X.A)(hg:Gl X x)(hm:X.mg x=some (.ref C))(hb:Binds X.K fd ps ds)(hd:Vals dvs ds)(hx:Passes CX X E)
 (ha:PA X (e::es) t) (hdb:(x==("__debug__":Str))=false:=by decide) (he:starEach (e::es) X.env=(false,eval e X.env)::starEach es X.env:=by rfl) (hpl:(backTo pos (starEach es X.env)).any (·.1)=false:=by rfl):
 PE X (.Call (.Name x p) (e::es) [] pos) (Jv C sp dvs E t):=by
 intro pins s σ H Q I h;refine V8 (C_ I hg hm ?_ hdb);refine Xm (h₀:=X.base) I.ok.mod.F4 M.kp (bP (ha pos pins s σ H _ I h) λ us s1 ⟨vs,H1,I1,r,q⟩=>⟨I1.gD,?_⟩) he hpl;exact Ih M F hr hb hd hx I1 r q
end
section
variable {X:Cx}{CX:tY}{k:Nat}{f C:Addr}{fd:FuncData}{ps ks:List Str}{sp:Sp}{E:XK}{x m:Str}{p pos apos kpos:Pos}{e o:Expr}{es:List Expr}{kws:List Keyword}{te ta:TE}{t tk:TA}{nm:Option Str}
variable {g:List Value->List Value->List Value}{gV:List V->List V->List V}
end
structure kM(N P:List Str)(sc:Scope):Prop where
 kind:sc.kind= .function
 co:sc.isCoroutine=false
 gen:sc.isGenerator=false
 nd:N.Nodup
 pre:N.take P.length=P
 par:∀x∈P,sc.names.lookup x=some .local\/sc.names.lookup x=some .cell
 Ol:∀y∈sc.names,y.2≠ .free
theorem xZ{kindOf:Str->Option NameKind}{x:Str}:∀ {binds:List (Str×Value)} {m:Str->Option Value},(∀v,(x,v)∉binds)->bindL kindOf binds m x=m x
 | [],_,_=>rfl
 |(n,v)::r,m,h=>by
  unfold bindL;rw[xZ λ w hw=>h w (TY _ hw)];split
  . have:x≠n:=by rintro rfl;exact h v Ua
    simp[this]
  . rfl
theorem ya{kindOf:Str->Option NameKind}{x:Str}:∀ {binds:List (Str×Value)} {m:Str->Option Value},(∀v,(x,v)∉binds)->bindC kindOf binds m x=m x
 | [],_,_=>rfl
 |(n,v)::r,m,h=>by
  unfold bindC;rw[ya λ w hw=>h w (TY _ hw)];split
  . rfl
  . have:x≠n:=by rintro rfl;exact h v Ua
    simp[this]
theorem x9{kindOf:Str->Option NameKind}{x:Str}{v:Value}:∀ {P:List Str} {vs:List Value} {i:Nat} {m:Str->Option Value},P.Nodup->P[i]?=some x->vs[i]?=some v->kindOf x=some .local->
 bindL kindOf (P.zip vs) m x=some v
 | [],_,_,_,_,h,_,_=>by simp at h
 |_::_,[],_,_,_,_,h,_=>by simp at h
 |p::P,w::vs,0,m,nd,h1,h2,hk=>by
  simp at h1 h2;subst h1;subst h2;show bindL kindOf ((p,w)::P.zip vs) m p=_;unfold bindL;rw[xZ λ v hv=>(V9.mp nd).1 (W2 hv).1,TC hk];simp
 |p::P,w::vs,i+1,m,nd,h1,h2,hk=>by
  show bindL kindOf ((p,w)::P.zip vs) m x=_;unfold bindL;exact x9 (i:=i) (V9.mp nd).2 (by simpa using h1) (by simpa using h2) hk
theorem xX{kindOf:Str->Option NameKind}{x:Str}{v:Value}:∀ {P:List Str} {vs:List Value} {i:Nat} {m:Str->Option Value},P.Nodup->P[i]?=some x->vs[i]?=some v->kindOf x≠some .local->
 bindC kindOf (P.zip vs) m x=some v
 | [],_,_,_,_,h,_,_=>by simp at h
 |_::_,[],_,_,_,_,h,_=>by simp at h
 |p::P,w::vs,0,m,nd,h1,h2,hk=>by
  simp at h1 h2;subst h1;subst h2;show bindC kindOf ((p,w)::P.zip vs) m p=_;unfold bindC;rw[ya λ v hv=>(V9.mp nd).1 (W2 hv).1,Tv hk];simp
 |p::P,w::vs,i+1,m,nd,h1,h2,hk=>by
  show bindC kindOf ((p,w)::P.zip vs) m x=_;unfold bindC;exact xX (i:=i) (V9.mp nd).2 (by simpa using h1) (by simpa using h2) hk
def start(N:List Str)(vs:List V):St:=vs.map some++List.replicate (N.length-vs.length) none
def oz(CX:tY)(P:Program)(w:World)(K:PySem.W.Frag)(mg:Str->Option Value)(base:Heap)(N:List Str)(qual:Str)(scope:Scope)(f:Addr)(cd:Value)(A:Around)(outer:List Env)(s:Shared)(H:Hp)(E:XK):Cx where
 prog:=P
 w:=w
 K:=K
 mg:=mg
 base:=base
 A:=A.deeper (envOfC qual scope s.heap.objs.size f cd)
 N:=N
 s₀:=s
 H₀:=H
 env:=envOfC qual scope s.heap.objs.size f cd
 outer:=outer
 stack:=envOfC qual scope s.heap.objs.size f cd::outer
 ex:=[]
 calm:=true
 fn:=λ _=>true
 pn:=[]
 xe:=λ e s'=>wpAny (model P w) (A.deeper (envOfC qual scope s.heap.objs.size f cd)) (leaving (envOfC qual scope s.heap.objs.size f cd) e) (λ _ s''=>CX outer H s E e s'') (λ e' s''=>CX outer H s E e' s'') s'
theorem A8{sc:Scope}{n:Nat}{x:Str}(h:sc.names.lookup x=some .cell):∃c,(cellsFrom n sc.names []).lookup x=some c:=by
 have q:=VO sc.names n [] (.inl h);exact V3.mp q
theorem FE{CX:tY}{P:Program}{w:World}{K:PySem.W.Frag}{mg:Str->Option Value}{base:Heap}{N ps:List Str}{qual:Str}{scope:Scope}{f:Addr}{cd:Value}{A:Around}{outer:List Env}{s s1:Shared}{H:Hp}{E:XK}{us:List Value}{vs:List V}
 (S:kM N ps scope) (hd:A.handled=none) (e0:uO P w K mg base A outer s H) (hl:vs.length=ps.length) (r:Vals vs us)
 (x:InCallC s s.heap.objs.size (bindL (envOfC qual scope s.heap.objs.size f cd).kindOf (ps.zip us) λ _=>none) (cellsFrom (s.heap.objs.size+1) scope.names []) (bindC (envOfC qual scope s.heap.objs.size f cd).kindOf (ps.zip us) λ _=>none) s1):
 Inv (oz CX P w K mg base N qual scope f cd A outer s H E) [] (start N vs) H s1:=by
 have hpl:ps.length<=N.length:=by have:=Vn List.length S.pre;rw[UY]at this;omega
 obtain⟨h1,tk,rfl,hk⟩:=x.done;have noA:∀b:Addr,b∉(oz CX P w K mg base N qual scope f cd A outer s H E).ex:=λ b z=>absurd (show b∈([]:List Addr)from z) (by simp)
 refine⟨⟨e0.mod,S.kind,rfl,rfl,Tu _,λ y z c h1 h2=>?_,λ y hy=>?_,λ y c _ h=>?_,λ _=>hd,Around.frames_deeper e0.frames,.inr ⟨rfl,rfl⟩,λ b z=>absurd z (noA b),e0.bs,e0.sQ,λ b _ _=>noA b,λ b z=>absurd z (noA b),e0.j_,e0.vM,e0.gt⟩,
  rfl,e0.bare,Un.kept hk,⟨_,x.toInCall.ns,λ i y v h1 h2 h3=>?_⟩,λ y c h=>⟨_,x.cell y c h⟩,e0.aF.fresh (Tu _),λ y c h=>?_,λ p hp=>absurd (show p∈([]:List (Addr×Obj))from hp) (by simp),e0.aF.kept hk,?_⟩
 . exact name_of_addr x.apart (Ux h1) (Ux h2)
 . have hy:scope.names.lookup y=some .cell\/scope.names.lookup y=some .free:=hy;rcases hy with hy|hy
   . exact A8 hy
   . exact absurd rfl (S.Ol _ (Ux hy))
 . exact UO (x.above y c (Ux h))
 . have hi:i<vs.length:=by
    unfold start at h2;by_cases hi:i<vs.length
    . exact hi
    . rw[Uc (by simpa using hi)]at h2;rw[XT]at h2;split at h2<;>cases h2
   have ha:vs[i]?=some v:=by
    unfold start at h2;rw[TF (by simpa using hi),T7]at h2;cases e:vs[i]? with
    |none=>rw[e]at h2;cases h2
    |some a=>rw[e]at h2;cases h2;rfl
   obtain⟨u,hu,rv⟩:=r.get ha
   have hp:ps[i]?=some y:=by
    rw[<-S.pre,WB (by omega)];exact h1
   have ndP:ps.Nodup:=by rw[<-S.pre];exact S.nd.sublist (List.take_sublist _ _)
   refine⟨u,rv,?_⟩;rcases S.par y (Ui hp)with k|k
   . exact .inl ⟨k,x9 ndP hp hu k⟩
   . obtain⟨c,e⟩:=A8 (n:=s.heap.objs.size+1) k;refine .inr ⟨.inl k,c,e,?_⟩;have q:=x.cell y c e;rw[xX ndP hp hu (by show scope.names.lookup y≠_;rw[k];decide)]at q;exact q
 . exact e0.aF.fresh (UO (x.above y c (Ux h)))
 . unfold start;show _=N.length;rw[Ud,Tw,Yi];omega
theorem Ji{CX:tY}{P:Program}{w:World}{K:PySem.W.Frag}{mg:Str->Option Value}{base:Heap}{k:Nat}{f:Addr}{name qual:Str}{params:Arguments}{body:List Stmt}{scope:Scope}{dV kV doc pm cdv ct oc:Value}{an od:Option Addr}
 {osl:Array (Option Value)} {N ps:List Str} {sp:Sp} (lk:K.lookup f=some ⟨oc,od,.func (PySem.W.fnOf name qual params body scope dV kV doc pm an cdv ct),osl⟩) (hcd:PySem.W.codeIn K cdv qual=true) (S:kM N ps scope)
 (len:∀vs H Q E,sp vs H Q E->vs.length=ps.length)
 (hbody:∀(A:Around) (outer:List Env) (s:Shared) (H:Hp) (vs:List V) (Q:VK) (E:XK),cJ k (A.deeper (envOfC qual scope s.heap.objs.size f cdv))->sp vs H Q E->
   ∃t,gH (oz CX P w K mg base N qual scope f cdv A outer s H E) body t/\t {nx:=λ _ H'=>Q .ax H',rt:=Q} (start N vs) H):
 cR P w K mg base CX (k+1) f (PySem.W.fnOf name qual params body scope dV kV doc pm an cdv ct) ps sp:=by
 refine⟨len,λ A outer s H args us vs Q E hr e0 hb r hsp=>?_⟩;have hl:=len _ _ _ _ hsp;have KX:K.In s.heap:=e0.mod.F4.keeps λ b o e=>(e0.bs b o e).1;have lim:s.heap.NoLimit:=e0.mod.nolimit.keeps λ b o e=>(e0.bs b o e).1
 have hkind:∀y∈ps.zip us,scope.names.lookup y.1=some .local\/(scope.names.lookup y.1=some .cell/\((cellsFrom (s.heap.objs.size+1) scope.names []).lookup y.1).isSome=true):=λ⟨n,v⟩ hy=>by
  rcases S.par n (W2 hy).1 with q|q
  . exact .inl q
  . exact .inr ⟨q,VO _ _ _ (.inl q)⟩
 refine codeAny_call_function hr.depth (KX _ _ lk) rfl S.co S.gen rfl (PySem.W.codeRec_of KX hcd) (hb _ _ _ _ ?_);refine wpAny_newFunctionEnv_cells S.kind hkind λ env he s1 x=>?_;subst he;refine⟨lim.keeps x.toInCall.keep,codeAny_func ?_⟩;obtain⟨t,ht,hq⟩:=hbody A outer s H vs Q E (hr.deeper _) hsp;have I:Inv (oz CX P w K mg base N qual scope f cdv A outer s H E) [] (start N vs) H s1:=FE S hr.hd e0 hl r x;refine Vs (ht [] s1 (start N vs) H _ I hq) (λ fl s' hs=>?_) λ e s' hs=>hs
 have fin:∀ {σ':St} {H':Hp} {v:V} {u:Value},Inv (oz CX P w K mg base N qual scope f cdv A outer s H E) [] σ' H' s'->RelV v u->Q v H'->CE outer P w H s Q u s':=
  λ{σ' H' v u} J rv q=>⟨v,H',J.os,J.bare,J.base,J.aF,rv,q⟩
 cases fl with
 |ret u=>
  obtain⟨v,σ',H',J,rv,q⟩:=hs;exact fin J rv q
 |next=>
  obtain⟨σ',H',J,q⟩:=hs;exact fin (v:=V.ax) (u:=Value.none) J rfl q
 |brk=>
  obtain⟨_,_,_,q⟩:=hs;exact False.elim q
 |cont=>
  obtain⟨_,_,_,q⟩:=hs;exact False.elim q
section
variable {X:Cx}{x:Str}{p pos:Pos}{e:Expr}{es:List Expr}{t:TA}{id T:String}{r:List V->Hp->VK->Prop}
def Oq(r:List V->Hp->VK->Prop)(t:TA):TE:=λ σ H Q=>t σ H λ vs H1=>r vs H1 Q
theorem HV(hc:bM X (.builtin id) r)(hg:Gl X x)(hm:X.mg x=none)(hv:bootBuiltins x=some (.builtin id))(ha:PA X (e::es) t)(hn:x≠"__name__":=by decide)(hdb:(x==("__debug__":Str))=false:=by decide)
 (he:starEach (e::es) X.env=(false,eval e X.env)::starEach es X.env:=by rfl) (hpl:(backTo pos (starEach es X.env)).any (·.1)=false:=by rfl):PE X (.Call (.Name x p) (e::es) [] pos) (Oq r t):=by
 intro pins s σ H Q I h;refine V8 (jv I hg hm hv ?_ hn hdb);exact PyProof.Rows.callWith_builtin1 (bP (ha pos pins s σ H _ I h) λ us s1 ⟨vs,H1,I1,r1,q1⟩=>hc pins s1 σ H1 vs us Q I1 r1 q1) he hpl
theorem E7(hc:bM X (.type T) r)(hg:Gl X x)(hm:X.mg x=none)(hv:bootBuiltins x=some (.type T))(ha:PA X (e::es) t)(hn:x≠"__name__":=by decide)(hdb:(x==("__debug__":Str))=false:=by decide)
 (he:starEach (e::es) X.env=(false,eval e X.env)::starEach es X.env:=by rfl) (hpl:(backTo pos (starEach es X.env)).any (·.1)=false:=by rfl):PE X (.Call (.Name x p) (e::es) [] pos) (Oq r t):=by
 intro pins s σ H Q I h;refine V8 (jv I hg hm hv ?_ hn hdb);exact US (bP (ha pos pins s σ H _ I h) λ us s1 ⟨vs,H1,I1,r1,q1⟩=>hc pins s1 σ H1 vs us Q I1 r1 q1) he hpl
end
end L2
namespace HT
open PySem PyProof.Rows
section
open PySem.SeqAt
open PySem.AutoSeq1 (wpAny_loadPart')
open PySem.MeetsSeq PySem.MeetsSeq2 PySem.MeetsSeq3
end
section
variable {prog:Program}{w:World}{A:Around}{E:Value->Shared->Prop}{s:Shared}
theorem K7{t b:Addr}{vs ws:List Value}{Q:Value->Shared->Prop}(ht:IsTup s.heap t vs.toArray)(hb:IsTup s.heap b ws.toArray)(hv:vs≠ [])
 (h1:ws=[]->Q (.ref t) s) (h2:ws≠ []->Q (.ref s.heap.objs.size) {s with heap:=s.heap.push {cls:= .type "tuple",data:= .seq (vs++ws).toArray}})
 (hsz:vs.length+ws.length<=sizeLine):wpAny (model prog w) A (binaryOp .Add (.ref t) (.ref b)) Q E s:=by
 obtain⟨⟨cls,dd,data,sl⟩,ho,hc,n,hd⟩:=id ht;obtain⟨⟨cls2,dd2,data2,sl2⟩,ho2,hc2,n2,hd2⟩:=id hb;simp only at hc hd hc2 hd2;subst hc hd hc2 hd2;have e:vs.toArray++ws.toArray=(vs++ws).toArray:=by simp
 by_cases hw:ws=[]
 . exact Yy ⟨_,ho,rfl⟩ ⟨_,ho2,rfl⟩ XM Yt WQ WL (WC _ _)
    (tuple_addW1 t b vs.toArray ws.toArray n n2 dd dd2 sl sl2 (by simpa using hv) (by simp[hw])) ⟨ho,ho2,h1 hw⟩
 . refine Yy ⟨_,ho,rfl⟩ ⟨_,ho2,rfl⟩ XM Yt WQ WL (WC _ _)
    (tuple_addW2 t b vs.toArray ws.toArray n n2 dd dd2 sl sl2 (by simpa using hv) (by simpa using hw) (by rw[TL,TL];exact hsz)) ⟨ho,ho2,?_⟩
   rw[e];exact h2 hw
def bW(n d:Nat):Option Int->Nat
 |none=>d
 |some v=>if v<0 then(v+(n:Int)).toNat else min v.toNat n
theorem HR(n d:Nat):bW n d none=d:=rfl
theorem LQ(n d k:Nat):bW n d (some (k:Int))=min k n:=by
 show(if(k:Int)<0 then((k:Int)+(n:Int)).toNat else min (k:Int).toNat n)=min k n;rw[Tv (by omega),TZ]
theorem Ob(n d:Nat)(hd:d<=n)(o:Option Int):bW n d o<=n:=by
 cases o with
 |none=>exact hd
 |some v=>
  show(if v<0 then(v+(n:Int)).toNat else min v.toNat n)<=n;by_cases hv:v<0
  . rw[TC hv];omega
  . rw[Tv hv];exact Nat.min_le_right _ _
theorem CW(v:Int)(n d:Nat):(if v<0 then max (v+(n:Int)) 0 else min v (n:Int))=((bW n d (some v):Nat):Int):=by
 show(if v<0 then max (v+(n:Int)) 0 else min v (n:Int))=(((if v<0 then(v+(n:Int)).toNat else min v.toNat n):Nat):Int)
 by_cases hv:v<0
 . simp only[TC hv];omega
 . simp only[Tv hv];omega
theorem Dy(lo hi:Option Int)(n:Nat):Builtin.Slice.sliceAdjust lo hi 1 (n:Int)=(((bW n 0 lo:Nat):Int),((bW n n hi:Nat):Int)):=by
 have h1:¬((1:Int)<0):=by omega
 unfold Builtin.Slice.sliceAdjust;simp only[h1,WD];refine Prod.ext ?_ ?_
 . cases lo with
   |none=>rfl
   |some v=>exact CW v n 0
 . cases hi with
   |none=>rfl
   |some v=>exact CW v n n
theorem ER(i j:Nat):Builtin.Slice.slicePlaces (i:Int) (j:Int) 1=j-i:=by
 unfold Builtin.Slice.slicePlaces;have h1:(1:Int)>0:=by omega
 simp only[h1,Wt,Int.ediv_one];split<;>omega
theorem v7{v:Value}{o:Option Int}{Q:Option Int->Shared->Prop}(p:IsPart v o)(h:Q o s):wpAny (model prog w) A (Builtin.Slice.slicePartIndex v) Q E s:=by
 cases p with
 |none=>exact slicePart_none h
 |int i t=>exact slicePart_int h
theorem m6{sl:Addr}{vl vu:Value}{lo hi:Option Int}{n:Nat}{Q:Int×Int×Nat->Shared->Prop}(hs:s.heap.IsSliceOf sl vl vu .none)(pl:IsPart vl lo)(pu:IsPart vu hi)
 (h:Q (((bW n 0 lo:Nat):Int),1,bW n n hi-bW n 0 lo) s):wpAny (model prog w) A (Builtin.Slice.sliceApplied (.ref sl) (pure (n:Int))) Q E s:=by
 obtain⟨os,hos,hcs,hds⟩:=id hs;unfold Builtin.Slice.sliceApplied Builtin.Slice.sliceFields;refine Tr (Tr (UB hos hds (x:=vl) rfl (Tr (UB hos hds (x:=vu) rfl (Tr (UB hos hds (x:= .none) rfl (TH ?_)))))));refine Tr (slicePart_none ?_);show wpAny _ _ (if((1:Int)==0)=true then _ else _) _ _ s;rw[Tv (by decide)];refine Tr (v7 pl (Tr (v7 pu (Tr (TH ?_)))));show wpAny _ _ (match Builtin.Slice.sliceAdjust lo hi 1 (n:Int)with|(lo,hi)=>pure (lo,(1:Int),Builtin.Slice.slicePlaces lo hi 1)) _ _ s;rw[Dy lo hi n];show wpAny _ _ (pure (((bW n 0 lo:Nat):Int),(1:Int),Builtin.Slice.slicePlaces ((bW n 0 lo:Nat):Int) ((bW n n hi:Nat):Int) 1)) _ _ s;rw[ER];exact TH h
theorem Hr(xs:Array Value)(i k:Nat):((List.range k).filterMap λ(m:Nat)=>xs[((i:Int)+(m:Int)*1).toNat]?).toArray=((xs.toList.drop i).take k).toArray:=by
 have e:(λ(m:Nat)=>xs[((i:Int)+(m:Int)*1).toNat]?)=λ m=>xs[i+m]?:=by
  funext m;have:((i:Int)+(m:Int)*1).toNat=i+m:=by omega
  rw[this]
 rw[e];have:=pick_run xs i k;rw[List.filterMap_map]at this;have e2:((λ x=>xs[x]?)∘λ x=>i+x)=λ m=>xs[i+m]?:=rfl;rw[e2]at this;rw[this]
theorem tP{t sl:Addr}{items:Array Value}{vl vu:Value}{lo hi:Option Int}{Q:Value->Shared->Prop}(ht:IsTup s.heap t items)(hs:s.heap.IsSliceOf sl vl vu .none)(pl:IsPart vl lo)(pu:IsPart vu hi)
 (hw:¬(bW items.size 0 lo=0/\bW items.size items.size hi=items.size))
 (h:Q (.ref s.heap.objs.size) {s with heap:=s.heap.push {cls:= .type "tuple",data:= .seq ((items.toList.drop (bW items.size 0 lo)).take (bW items.size items.size hi-bW items.size 0 lo)).toArray}})
 (hsz:items.size<=sizeLine):wpAny (model prog w) A (getItem (.ref t) (.ref sl)) Q E s:=by
 have htake:sizeOk (.seq ((items.toList.drop (bW items.size 0 lo)).take (bW items.size items.size hi-bW items.size 0 lo)).toArray):=by
  show((items.toList.drop (bW items.size 0 lo)).take (bW items.size items.size hi-bW items.size 0 lo)).toArray.size<=sizeLine;rw[TL,UY,Wm,V5];omega
 have hj:bW items.size items.size hi<=items.size:=Ob _ _ (Tu _) hi;obtain⟨os,hos,hcs,hds⟩:=id hs;have hTs:s.TypeIs (.ref sl) "slice":=⟨os,hos,hcs⟩
 unfold getItem;try with_reducible refine VI ?_
 first|refine Tr (TH ?_)|skip
 refine Tr (wpAny_sequenceKey ht.typeIs (by decide) ?_)
 refine Tr (UN (name:=Str.ofString "__getitem__") ht.typeIs UU
  (UZ UU ht.typeIs entry_tuple_getitem ?_ (args_tuple_getitem _ _)))
 show wpAny _ _ (Builtin.Tuple.tupleItemsOf (.ref t) >>= _) _ _ s;refine Tr (tupleItemsOf_ ht ?_);refine Tr (W3 hTs ?_);rw[TC (by decide)];refine Tr (m6 hs pl pu ?_)
 have hno:¬((((bW items.size 0 lo:Nat):Int)==0&&(1:Int)==1&&(bW items.size items.size hi-bW items.size 0 lo)==items.size)=true):=by
  intro q;rw[Ub,Ub]at q;have q1:((bW items.size 0 lo:Nat):Int)=0:=eq_of_beq q.1.1;have q2:bW items.size items.size hi-bW items.size 0 lo=items.size:=eq_of_beq q.2;exact hw ⟨by omega,by omega⟩
 show wpAny _ _ (if(((bW items.size 0 lo:Nat):Int)==0&&(1:Int)==1&&(bW items.size items.size hi-bW items.size 0 lo)==items.size)=true then _ else _) _ _ s;rw[Tv hno,Hr]
 first
  |exact Tr (m:=Builtin.Tuple.tupleExact _) (UP (TH ⟨_,rfl,TH h⟩) htake)
  |exact Tr (m:=Builtin.Tuple.tupleExact _) (UP (Tr (TH (TH ⟨_,rfl,TH h⟩))) htake)
  |exact Tr (Tr (m:=Builtin.Tuple.tupleExact _) (UP (TH (TH ⟨_,rfl,TH h⟩)) htake))
  |exact Tr (Tr (m:=Builtin.Tuple.tupleExact _) (UP (TH ⟨_,rfl,TH h⟩) htake))
end
end HT
namespace L2
open PySem PySem.Spec PyProof.Rows
abbrev TO:=St->Hp->(Option Int->Hp->Prop)->Prop
def PO(X:Cx)(e:Option Expr)(t:TO):Prop:=
 ∀(pins:List (Addr×Obj)) (s:Shared) (σ:St) (H:Hp) (Q:Option Int->Hp->Prop),Inv X pins σ H s->t σ H Q->
  wpAny (model X.prog X.w) X.A (evalPart e X.env) (λ u s'=>∃o H',Inv X pins σ H' s'/\IsPart u o/\Q o H') X.xe s
def KU:TO:=λ _ H Q=>Q none H
def Qd(t:TE):TO:=λ σ H Q=>t σ H λ x H1=>∃i,x= .int i/\Q (some i) H1
section
variable {X:Cx}{e:Expr}{te:TE}{lo hi:Option Expr}{tl th:TO}{pos p2:Pos}
theorem K_:PO X none KU:=by
 intro pins s σ H Q I h;rw[evalPart_none];exact TH ⟨none,H,I,.none,h⟩
theorem LJ(h:PE X e te):PO X (some e) (Qd te):=by
 intro pins s σ H Q I hw;rw[evalPart_some];refine bP (h pins s σ H _ I hw) λ u s1 ⟨x,H1,I1,r1,q1⟩=>?_;obtain⟨i,rfl,q⟩:=q1;obtain⟨t,rfl⟩:=r1;exact⟨some i,H1,I1,.int i t,q⟩
def Gp(X:Cx)(r:V->Option Int->Option Int->Hp->VK->Prop):Prop:=
 ∀(pins:List (Addr×Obj)) (s:Shared) (σ:St) (H:Hp) (x:V) (v vl vu:Value) (lo hi:Option Int) (sl:Addr) (Q:VK),Inv X pins σ H s->RelV x v->s.heap.IsSliceOf sl vl vu .none->IsPart vl lo->IsPart vu hi->r x lo hi H Q->
  ∃T id,typeLookup (.type T) "__getitem__"=pure (some (.builtin id))/\s.TypeIs v T/\wpAny (model X.prog X.w) X.A (getItem v (.ref sl)) (EP X pins σ Q) X.xe s
def Ta(r:V->Option Int->Option Int->Hp->VK->Prop)(te:TE)(tl th:TO):TE:=λ σ H Q=>te σ H λ x H1=>tl σ H1 λ l H2=>th σ H2 λ u H3=>r x l u H3 Q
theorem Hg{r:V->Option Int->Option Int->Hp->VK->Prop}(hr:Gp X r)(he:PE X e te)(hl:PO X lo tl)(hu:PO X hi th):PE X (.Subscript e (.Slice lo hi none p2) pos) (Ta r te tl th):=by
 intro pins s σ H Q I h;refine Subscript_ (bP (he pins s σ H _ I h) λ v s1 ⟨x,H1,I1,r1,q1⟩=>?_);refine wpAny_Slice (bP (hl pins s1 σ H1 _ I1 q1) λ vl s2 ⟨l,H2,I2,pl,q2⟩=>bP (hu pins s2 σ H2 _ I2 q2) λ vu s3 ⟨u,H3,I3,pu,q3⟩=>?_);rw[evalPart_none];refine TH ?_;have I4:Inv X pins σ H3 {s3 with heap:=s3.heap.push {cls:= .type "slice",data:= .fields #[vl,vu,.none]}}:=I3.kept (t':=s3.toks) λ b ob q=>Tz _ q;obtain⟨T,id,hT,ht,hg⟩:=hr pins {s3 with heap:=s3.heap.push {cls:= .type "slice",data:= .fields #[vl,vu,.none]}} σ H3 x v vl vu l u s3.heap.objs.size Q I4 r1 (Heap.IsSliceOf.new ..) pl pu q3;show wpAny (model X.prog X.w) X.A (subscriptTail e (.Slice lo hi none p2) v (.ref s3.heap.objs.size)) (EP X pins σ Q) X.xe {s3 with heap:=s3.heap.push {cls:= .type "slice",data:= .fields #[vl,vu,.none]}};exact tail_any (ops:=[.ref s3.heap.objs.size,v]) ht hT hg (by with_unfolding_all rfl)
def qm(xs:List V)(lo hi:Option Int):List V:=(xs.drop (HT.bW xs.length 0 lo)).take (HT.bW xs.length xs.length hi-HT.bW xs.length 0 lo)
theorem uo(xs:List V)(lo hi:Option Int):(qm xs lo hi).length<=xs.length:=by
 unfold qm;rw[UY,Wm];omega
def R8(K:PySem.W.Frag):V->Option Int->Option Int->Hp->VK->Prop:=λ x lo hi H Q=>∃a xs,x= .ref a/\ie K H a xs/\
 ¬(HT.bW xs.length 0 lo=0/\HT.bW xs.length xs.length hi=xs.length)/\∀p,H p=none->Q (.ref p) (upd H p (.tup (qm xs lo hi)))
theorem OV:Gp X (R8 X.K):=by
 intro pins s σ H x v vl vu lo hi sl Q I rx hs pl pu h;obtain⟨a,xs,rfl,hx,hw,q⟩:=h;cases rx;obtain⟨ai,r,ht,hz⟩:=I.tuple hx;have hlen:ai.toArray.size=xs.length:=by rw[TL];exact r.length.symm
 refine⟨"tuple",_,UU.lookup,ht.typeIs,?_⟩;refine HT.tP ht hs pl pu (by rw[hlen];exact hw) ?_ (by rw[hlen];exact hz);rw[hlen];refine⟨.ref s.heap.objs.size,_,I.laid (t':=s.toks) (o:= .tup (qm xs lo hi)) (λ b ob q=>Tz _ q) (Tu _) ?_,rfl,q _ (I.aF.fresh (Tu _))⟩;exact⟨TB (uo xs lo hi) hz,_,(r.drop (HT.bW xs.length 0 lo)).take (HT.bW xs.length xs.length hi-HT.bW xs.length 0 lo),XX _ _⟩
def QL(K:PySem.W.Frag):R2:=λ x y H Q=>∃a b xs ys,x= .ref a/\y= .ref b/\ie K H a xs/\ie K H b ys/\xs≠ []/\xs.length+ys.length<=sizeLine/\
 (ys=[]->Q (.ref a) H)/\(ys≠ []->∀p,H p=none->Q (.ref p) (upd H p (.tup (xs++ys))))
theorem Vals.tu{xs:List V}{us:List Value}(r:Vals xs us):us=[]↔xs=[]:=by
 cases r with
 |nil=>simp
 |cons _ _=>simp
theorem KL:bV X (binaryOp .Add) (QL X.K):=by
 intro pins s σ H x y v u Q I rx ry h;obtain⟨a,b,xs,ys,rfl,rfl,ha,hb,hx,hz,q1,q2⟩:=h;cases rx;cases ry;obtain⟨ai,r1,p1,_⟩:=I.tuple ha;obtain⟨its2,r2,p2,_⟩:=I.tuple hb;refine HT.K7 p1 p2 (λ z=>hx (r1.tu.mp z)) (λ z=>⟨.ref a,H,I,rfl,q1 (r2.tu.mp z)⟩) (λ z=>?_) (by rw[<-r1.length,<-r2.length];exact hz);refine⟨.ref s.heap.objs.size,_,I.laid (t':=s.toks) (o:= .tup (xs++ys)) (λ b ob q=>Tz _ q) (Tu _) ?_,rfl,q2 (λ w=>z (r2.tu.mpr w)) _ (I.aF.fresh (Tu _))⟩;exact⟨by rw[Ud];exact hz,_,r1.append r2,XX _ _⟩
end
def ni(n:Nat)(i:Int):Option Nat:=if 0<=i then(if i<n then some i.toNat else none)else if-(n:Int)<=i then some (i+n).toNat else none
def d6{α:Type}(xs:List α)(i:Int):Option α:=(ni xs.length i).bind λ j=>xs[j]?
theorem CU{n:Nat}{i:Int}{j:Nat}(h:ni n i=some j):seqIndex? i n=some j/\j<n/\ -(n:Int)<=i/\i<n:=by
 unfold ni at h;by_cases h0:0<=i
 . rw[TC h0]at h;by_cases h1:i<n
   . rw[TC h1]at h;have e:i.toNat=j:=UE h;exact⟨by rw[seqIndex_of h0 h1,e],by omega,by omega,h1⟩
   . rw[Tv h1]at h;cases h
 . rw[Tv h0]at h;by_cases h1: -(n:Int)<=i
   . rw[TC h1]at h;have e:(i+n).toNat=j:=UE h;exact⟨by rw[seqIndex_neg (by omega) h1,e],by omega,h1,by omega⟩
   . rw[Tv h1]at h;cases h
theorem wZ{α:Type}{xs:List α}{i:Int}{v:α}(h:d6 xs i=some v):∃j,seqIndex? i xs.length=some j/\xs[j]?=some v/\j<xs.length/\ -(xs.length:Int)<=i/\i<xs.length:=by
 unfold d6 at h;cases e:ni xs.length i with
 |none=>rw[e]at h;cases h
 |some j=>
  rw[e]at h;obtain⟨h1,h2,h3,h4⟩:=CU e;exact⟨j,h1,h,h2,h3,h4⟩
theorem gB{α:Type}{xs:List α}{j:Nat}{v:α}(h:xs[j]?=some v):d6 xs (j:Int)=some v:=by
 have hj:j<xs.length:=(Tt.mp h).1
 have e:ni xs.length (j:Int)=some j:=by
  unfold ni;rw[TC (by omega),TC (by omega)];simp
 unfold d6;rw[e];exact h
def sZ(b:Expr):Prop:=∀o i,subscripted b false o i=operate [o,i] (getItem o i)
def JY(X:Cx)(r:R2):Prop:=
 ∀(value slice:Expr) (pins:List (Addr×Obj)) (s:Shared) (σ:St) (H:Hp) (x y:V) (v u:Value) (Q:VK),Inv X pins σ H s->RelV x v->RelV y u->r x y H Q->
  subscripted slice false v u=operate [v,u] (getItem v u)->wpAny (model X.prog X.w) X.A (subscriptTail value slice v u) (EP X pins σ Q) X.xe s
def Rg(X:Cx)(id:String)(r:V->List V->Hp->VK->Prop):Prop:=
 ∀(pins:List (Addr×Obj)) (s:Shared) (σ:St) (H:Hp) (x:V) (xs:List V) (v:Value) (us:List Value) (Q:VK),Inv X pins σ H s->RelV x v->Vals xs us->r x xs H Q->
  wpAny (model X.prog X.w) X.A (call (.builtin id) (v::us)) (EP X pins σ Q) X.xe s
section
variable {X:Cx}{a b:Expr}{ta tb:TE}{pos:Pos}
theorem QN{r:R2}(hr:JY X r)(ha:PE X a ta)(hb:PE X b tb)(hs:sZ b):PE X (.Subscript a b pos) (Fv r ta tb):=by
 intro pins s σ H Q I h;exact Subscript_ (HD ha hb I h λ v u s2 x y H2 I2 rx ry q=>hr a b pins s2 σ H2 x y v u Q I2 rx ry q (hs _ _))
def RC(K:PySem.W.Frag):R2:=λ x y H Q=>∃p xs i v,x= .ref p/\y= .int i/\lK K H p xs/\d6 xs i=some v/\Q v H
def Ss(K:PySem.W.Frag):R2:=λ x y H Q=>∃p xs i v,x= .ref p/\y= .int i/\ie K H p xs/\d6 xs i=some v/\Q v H
theorem CS:JY X (RC X.K):=by
 intro value slice pins s σ H x y v u Q I rx ry h hs;obtain⟨p,xs,i,z,rfl,rfl,hq,he,q⟩:=h;cases rx;obtain⟨t,rfl⟩:=ry;obtain⟨ai,r,pl,hz⟩:=I.list hq;obtain⟨j,h1,h2,h3,h4,h5⟩:=wZ he;obtain⟨w,ew,rw'⟩:=r.get h2;have hl:=r.length;have hn:=q_;have fin:EP X pins σ Q w s:=⟨z,H,I,rw',q⟩
 by_cases h0:0<=i
 . have hj:i.toNat=j:=by
    rw[seqIndex_of h0 h5]at h1;exact UE h1
   exact item_listR pl.isList h0 (by omega) (by rw[hj];simpa using ew) fin hs
 . have hj:(i+(ai.toArray.size:Int)).toNat=j:=by
    rw[seqIndex_neg (by omega) h4]at h1;rw[TL,<-hl];exact UE h1
   exact subscriptTail_builtinR (x:=w) pl.isList.typeIs slot_list_getitem.lookup
    (wpAny_getItem_list_neg (Q:=λ r s'=>r=w/\EP X pins σ Q r s') pl.isList (by omega) (by rw[TL]<;>omega) (by omega) (by rw[hj];simpa using ew) ⟨rfl,fin⟩) hs
theorem NT:JY X (Ss X.K):=by
 intro value slice pins s σ H x y v u Q I rx ry h hs;obtain⟨p,xs,i,z,rfl,rfl,hq,he,q⟩:=h;cases rx;obtain⟨t,rfl⟩:=ry;obtain⟨ai,r,pl,hz⟩:=I.tuple hq;obtain⟨j,h1,h2,h3,h4,h5⟩:=wZ he;obtain⟨w,ew,rw'⟩:=r.get h2;have hl:=r.length;have hn:=q_;have fin:EP X pins σ Q w s:=⟨z,H,I,rw',q⟩
 exact subscriptTail_builtinR (x:=w) pl.typeIs slot_tuple_getitem.lookup
  (getItem_tuple (j:=j) (Q:=λ r s'=>r=w/\EP X pins σ Q r s') pl (by omega) (by omega) (by rw[TL,<-hl];exact h1) (by simpa using ew) ⟨rfl,fin⟩) hs
theorem D4(ai:List Value)(n j:Nat)(u:Value):Obj.mapSeq (·.setIfInBounds j u) {cls:= .type "list",data:= .seq ai.toArray n}= {cls:= .type "list",data:= .seq (ai.set j u).toArray n}:=by
 simp[Obj.mapSeq]
theorem Inv.lst{pins:List (Addr×Obj)}{σ:St}{H:Hp}{s:Shared}{p:Addr}{xs:List V}(I:Inv X pins σ H s)(h:H p=some (.lst xs)):
 ∃(ai:List Value) (n:Nat),Vals xs ai/\s.heap.get? p=some {cls:= .type "list",data:= .seq ai.toArray n}/\xs.length<=sizeLine:=by
 obtain⟨z,ai,n,r,e⟩:=I.aF p _ h;exact⟨ai,n,r,e,z⟩
theorem Inv.Ni{pins:List (Addr×Obj)}{σ:St}{H:Hp}{s:Shared}{p:Addr}{xs ys:List V}{ai its':List Value}{n n':Nat}{f:Obj->Obj}(I:Inv X pins σ H s)(h:H p=some (.lst xs))
 (ho:s.heap.get? p=some {cls:= .type "list",data:= .seq ai.toArray n}) (hf:f {cls:= .type "list",data:= .seq ai.toArray n}= {cls:= .type "list",data:= .seq its'.toArray n'}) (r:Vals ys its') (hz:ys.length<=sizeLine) (t:Nat):
 Inv X pins σ (upd H p (.lst ys)) {s with heap:=s.heap.update p f,toks:=t}:=by
 have e:(s.heap.update p f).get? p=some {cls:= .type "list",data:= .seq its'.toArray n'}:=by
  rw[Vw f ho (by rw[hf]<;>rfl),hf]
 refine I.write (x:=p) (e:=p) (by rw[h];trivial) (.inl rfl) (λ b u hb q=>(We _ _ (TK hb)).trans q) ⟨_,e⟩ ?_;exact⟨hz,its',n',r,e⟩
def wy:V->V->V->Hp->(Hp->Prop)->Prop:=λ o i v H Q=>∃p xs k j,o= .ref p/\i= .int k/\H p=some (.lst xs)/\ni xs.length k=some j/\Q (upd H p (.lst (xs.set j v)))
theorem set_list:NK X wy:=by
 intro pins s σ H o i v ov iv u Q I ro ri rv h;obtain⟨p,xs,k,j,rfl,rfl,hp,hj,q⟩:=h;cases ro;obtain⟨t,rfl⟩:=ri;obtain⟨ai,n,r,ho,hz⟩:=I.lst hp;obtain⟨h1,h2,h3,h4⟩:=CU hj;have hl:=r.length;have hn:=q_
 have I':Inv X pins σ (upd H p (.lst (xs.set j v))) {s with heap:=s.heap.update p (Obj.mapSeq (·.setIfInBounds j u))}:=
  I.Ni hp ho (D4 ai n j u) (r.set rv j) (by rw[TQ];exact hz) s.toks
 by_cases h0:0<=k
 . have hk:k.toNat=j:=by
    rw[seqIndex_of h0 h4]at h1;exact UE h1
   exact PySem.W.ki_setAt ho h0 (by omega) (by rw[TL,<-hl];exact h4) (by rw[hk];exact⟨_,I',q⟩)
 . have hk:(k+(ai.toArray.size:Int)).toNat=j:=by
    rw[seqIndex_neg (by omega) h3]at h1;rw[TL,<-hl];exact UE h1
   exact PySem.W.ki_setBack ho (by omega) (by rw[TL,<-hl];exact h3) (by omega) (by rw[hk];exact⟨_,I',q⟩)
theorem Bd(lo hi:Option Int)(n:Nat):(sliceBounds lo hi none n).1=((HT.bW n 0 lo:Nat):Int)/\(sliceBounds lo hi none n).2.1=((HT.bW n n hi:Nat):Int)/\(sliceBounds lo hi none n).2.2=1:=by
 refine⟨?_,?_,rfl⟩
 . cases lo with
   |none=>simp[sliceBounds,HT.bW]
   |some i=>
    simp only[sliceBounds,HT.bW,Option.getD_none,show(1:Int)>0 by decide,Wt];by_cases h:i<0
    . simp only[h,Wt]<;>omega
    . simp only[h,WD]<;>omega
 . cases hi with
   |none=>simp[sliceBounds,HT.bW]
   |some i=>
    simp only[sliceBounds,HT.bW,Option.getD_none,show(1:Int)>0 by decide,Wt];by_cases h:i<0
    . simp only[h,Wt]<;>omega
    . simp only[h,WD]<;>omega
theorem yZ(ai:List Value)(lo hi:Option Int):slicePick ai.toArray lo hi none=((ai.drop (HT.bW ai.length 0 lo)).take (HT.bW ai.length ai.length hi-HT.bW ai.length 0 lo)).toArray:=by
 obtain⟨h1,h2,h3⟩:=Bd lo hi ai.toArray.size;unfold slicePick;rw[h1,h2,h3];simp only[sliceRange_one,pick_run,TL]<;>rfl
def R7(K:PySem.W.Frag):V->Option Int->Option Int->Hp->VK->Prop:=λ x lo hi H Q=>∃a xs,x= .ref a/\lK K H a xs/\∀p,H p=none->Q (.ref p) (upd H p (.lst (qm xs lo hi)))
theorem CG:Gp X (R7 X.K):=by
 intro pins s σ H x v vl vu lo hi sl Q I rx hs pl pu h;obtain⟨a,xs,rfl,hx,q⟩:=h;cases rx;obtain⟨ai,r,ht,hz⟩:=I.list hx;have hlen:=r.length;refine⟨"list",_,slot_list_getitem.lookup,ht.isList.typeIs,?_⟩;refine wpAny_getItem_list_slice ht.isList hs pl pu .none (by simp) ?_ (by rw[TL]<;>omega);rw[yZ,<-hlen];refine⟨.ref s.heap.objs.size,_,I.laid (t':=s.toks) (o:= .lst (qm xs lo hi)) (λ b ob q=>Tz _ q) (Tu _) ?_,rfl,q _ (I.aF.fresh (Tu _))⟩;exact⟨TB (uo xs lo hi) hz,_,0,(r.drop (HT.bW xs.length 0 lo)).take (HT.bW xs.length xs.length hi-HT.bW xs.length 0 lo),TX _ rfl⟩
theorem Bq:bM X (.builtin "len") (λ xs H Q=>∃p ys,xs=[.ref p]/\(lK X.K H p ys\/ie X.K H p ys)/\Q (.int ys.length) H):=by
 intro pins s σ H xs us Q I r h;obtain⟨p,ys,rfl,hq,q⟩:=h;obtain⟨u,rfl,rx⟩:=vals1 r;cases rx;have hn:=q_;rcases hq with hq|hq
 . obtain⟨ai,r',pl,hz⟩:=I.list hq;have hlen:=r'.length;exact Calls.call_len_list pl.isList (by simp only[TL]<;>omega) ⟨.int ys.length,H,I.tok _,⟨s.toks+1,by rw[TL,hlen]⟩,q⟩
 . obtain⟨ai,r',pl,hz⟩:=I.tuple hq;have hlen:=r'.length;exact len_tuple pl (by simp only[TL]<;>omega) ⟨.int ys.length,H,I.tok _,⟨s.toks+1,by rw[TL,hlen]⟩,q⟩
theorem A_:bM X (.builtin "len") (λ xs H Q=>∃z,xs=[.str z]/\z.length<=sizeLine/\Q (.int z.length) H):=by
 intro pins s σ H xs us Q I r h;obtain⟨z,rfl,hz,q⟩:=h;obtain⟨u,rfl,t,rfl⟩:=vals1 r;have hn:=q_;exact len_str (by omega) ⟨.int z.length,H,I.tok _,⟨_,rfl⟩,q⟩
theorem rE:bM X (.type "list") (λ xs H Q=>∃p ys,xs=[.ref p]/\(lK X.K H p ys\/ie X.K H p ys)/\∀l,H l=none->Q (.ref l) (upd H l (.lst ys))):=by
 intro pins s σ H xs us Q I r h;obtain⟨p,ys,rfl,hq,q⟩:=h;obtain⟨u,rfl,rx⟩:=vals1 r;cases rx
 have fin:∀(ai:List Value),Vals ys ai->ys.length<=sizeLine->∀(h':Heap) (c':Nat),(∀b o',s.heap.get? b=some o'->h'.get? b=some o')->
  h'.get? s.heap.objs.size=some {cls:= .type "list",dict:=none,data:= .seq ai.toArray c',slots:= #[]}->EP X pins σ Q (.ref s.heap.objs.size) {s with heap:=h'}:=λ ai r' hz h' c' kp e=>
  ⟨.ref s.heap.objs.size,_,I.laid (t':=s.toks) kp (Tu _) (show c_ X.prog X.w _ h' _ (.lst ys)from⟨hz,ai,c',r',e⟩),rfl,q _ (I.aF.fresh (Tu _))⟩
 rcases hq with hq|hq
 . obtain⟨ai,r',pl,hz⟩:=I.list hq;have hlen:=r'.length;obtain⟨o,ho,hc,n,hd⟩:=pl.isList;exact call_list_seq p (.inl rfl) ho hc hd (λ h' c' kp e=>fin ai r' hz h' c' kp e) (by simp only[TL]<;>omega)
 . obtain⟨ai,r',pl,hz⟩:=I.tuple hq;have hlen:=r'.length;obtain⟨o,ho,hc,n,hd⟩:=pl;exact call_list_seq p (.inr rfl) ho hc hd (λ h' c' kp e=>fin ai r' hz h' c' kp e) (by simp only[TL]<;>omega)
theorem yQ:bM X (.type "tuple") (λ xs H Q=>∃p ys,xs=[.ref p]/\((lK X.K H p ys/\∀l,H l=none->Q (.ref l) (upd H l (.tup ys)))\/(ie X.K H p ys/\Q (.ref p) H))):=by
 intro pins s σ H xs us Q I r h;obtain⟨p,ys,rfl,h⟩:=h;obtain⟨u,rfl,rx⟩:=vals1 r;cases rx;rcases h with⟨hq,q⟩|⟨hq,q⟩
 . obtain⟨ai,r',pl,hz⟩:=I.list hq;have hlen:=r'.length;refine call_tuple_list pl.isList (λ h' kp=>?_) (by simp only[TL]<;>omega);have I1:Inv X pins σ H {s with heap:=h'}:=I.kept (t':=s.toks) kp
   have I2:Inv X pins σ (upd H h'.objs.size (.tup ys)) {s with heap:=h'.push {cls:= .type "tuple",data:= .seq ai.toArray}}:=
    I1.laid (t':=s.toks) (λ b o e=>Tz _ e) (Tu _) (show c_ X.prog X.w _ _ _ (.tup ys)from⟨hz,ai,r',XX _ _⟩)
   exact⟨.ref h'.objs.size,_,I2,rfl,q _ (I1.aF.fresh (Tu _))⟩
 . obtain⟨ai,r',pl,hz⟩:=I.tuple hq;exact call_tuple_same pl ⟨.ref p,H,I,rfl,q⟩
def Rr(K:PySem.W.Frag)(T:String)(x:V)(H:Hp):Prop:=match x with
 | .str _=>T="str"
 | .int _=>T="int"
 | .ref p=>(T="list"/\∃xs,lK K H p xs)\/(T="tuple"/\∃o,K.lookup p=some o/\o.cls= .type "tuple"/\o.dict=none)\/
    (T="dict"/\((∃kvs,H p=some (.dK kvs))\/∃kvs,H p=some (.dT kvs)))\/(T="set"/\∃S n,H p=some (.set S n))
 |_=>False
theorem OQ{pins:List (Addr×Obj)}{σ:St}{H:Hp}{s:Shared}{T:String}{x:V}{v:Value}(I:Inv X pins σ H s)(r:RelV x v)(ty:Rr X.K T x H):
 s.TypeIs v T/\∀a,v= .ref a->∃ob,s.heap.get? a=some ob/\ob.dict=none:=by
 cases x with
 |str z=>
  obtain⟨t,rfl⟩:=r;cases (show T="str" from ty);exact⟨typeIs_str s z t,λ _ e=>nomatch e⟩
 |int i=>
  obtain⟨t,rfl⟩:=r;cases (show T="int" from ty);exact⟨XG s i t,λ _ e=>nomatch e⟩
 |ref p=>
  cases r;rcases ty with⟨rfl,xs,hq⟩|⟨rfl,o,hk,hc,hd⟩|⟨rfl,hk⟩|⟨rfl,S,n,hk⟩
  . obtain⟨ai,_,pl,_⟩:=I.list hq;refine⟨pl.isList.typeIs,λ a e=>?_⟩;cases e;obtain⟨o,n,e,c,hd,_⟩:=pl;exact⟨o,e,hd⟩
  . refine⟨⟨o,I.gD p o hk,hc⟩,λ a e=>?_⟩;cases e;exact⟨o,I.gD _ o hk,hd⟩
  . have z:∃o,s.heap.get? p=some o/\o.ExactDict:=by
     rcases hk with⟨kvs,hk⟩|⟨kvs,hk⟩
     . obtain⟨_,_,_,_,o,_,_,e,ex,_⟩:=I.aF p _ hk;exact⟨o,e,ex⟩
     . obtain⟨_,_,_,_,o,_,_,e,ex,_⟩:=I.aF p _ hk;exact⟨o,e,ex⟩
    obtain⟨o,e,ex⟩:=z;refine⟨⟨o,e,ex.1⟩,λ a e2=>?_⟩;cases e2;exact⟨o,e,ex.2.1⟩
  . obtain⟨o,_,_,_,e,ex,_⟩:=I.aF p _ hk;refine⟨⟨o,e,ex.1⟩,λ a e2=>?_⟩;cases e2;exact⟨o,e,ex.2.1⟩
 |_=>exact False.elim ty
def Q_(K:PySem.W.Frag)(T:String)(r:V->List V->Hp->VK->Prop)(to:TE)(t:TA):TE:=λ σ H Q=>to σ H λ x H1=>Rr K T x H1/\t σ H1 λ xs H2=>r x xs H2 Q
variable {o e:Expr}{es:List Expr}{to:TE}{t:TA}{name:Str}{apos cpos:Pos}{T id:String}{r:V->List V->Hp->VK->Prop}
theorem Pd(pa:PlainAttrs T)(slot:Slot T name id)(hty:typeOf (.builtin id)=pure (.type "method_descriptor"))(hm:Rg X id r)(ho:PE X o to)(ha:PA X (e::es) t)
 (hbase:attributeBase o name X.env (eval o X.env)=eval o X.env:=by rfl)
 (hfew:((backTo cpos (starEach (e::es) X.env)).all (λ x=> !x.1)&&(backToKw cpos (keywordEach [] X.env)).all (λ x=>x.1.isSome)
   &&decide ((e::es).length+([]:List Keyword).length+(if([]:List Keyword).isEmpty then 0 else 1)<30))=true:=by rfl)
 (hline:(apos.endLine==cpos.line)=true:=by rfl) (hs:starEach (e::es) X.env=(false,eval e X.env)::starEach es X.env:=by rfl) (hplain:(backTo cpos (starEach es X.env)).any (·.1)=false:=by rfl):
 PE X (.Call (.Attribute o name apos) (e::es) [] cpos) (Q_ X.K T r to t):=by
 intro pins s σ H Q I h;refine wpAny_Call_method_late hbase hfew hline rfl (bP (ho pins s σ H _ I h) λ v s1 ⟨x,H1,I1,r1,ty,q1⟩=>?_);obtain⟨h1,h2⟩:=OQ I1 r1 ty;refine⟨T,id,pa,slot,hty,h1,h2,?_⟩;have hA:=ha cpos pins s1 σ H1 _ I1 q1;rw[hs]at hA⊢;refine Calls.callWith_builtin (by show(false||(backTo cpos (starEach es X.env)).any (·.1))=false;rw[hplain]<;>rfl) (Calls.evalArgs_plain ?_);exact bP hA λ us s2 ⟨vs,H2,I2,r2,q2⟩=>hm pins s2 σ H2 x vs v us Q I2 r1 r2 q2
/-xs.append(e),list.index on a module's tuple .. are Rg facts of 06m-/
end
def SI(X:Cx)(id:String)(r:V->List V->Hp->VK->Prop):Prop:=
 ∀(pins:List (Addr×Obj)) (s:Shared) (σ:St) (H:Hp) (x:V) (xs:List V) (v:Value) (us:List Value) (Q:VK),Inv X pins σ H s->RelV x v->Vals xs us->r x xs H Q->
  wpAny (model X.prog X.w) X.A (call (.builtin id) (v::us)) (EP X pins σ Q) X.xe s
theorem Vals.one:∀ {x:V} {us:List Value},Vals [x] us->∃u,us=[u]/\RelV x u
 |_,_,.cons r .nil=>⟨_,rfl,r⟩
theorem Vals.rep{xs:List V}{us:List Value}(h:Vals xs us):∀k:Nat,Vals (List.replicate k xs).flatten (List.replicate k us).flatten
 |0=> .nil
 |k+1=>by
  rw[Vk,Vk,VG,VG];exact Vals.append h (Vals.rep h k)
theorem foldl_rep(ai:List Value):∀(k:Nat) (acc:List Value),
 List.foldl (λ x1 x2=>x1++x2) acc.toArray (List.replicate k ai.toArray)=(acc++(List.replicate k ai).flatten).toArray
 |0,acc=>by simp
 |k+1,acc=>by
  have e:acc.toArray++ai.toArray=(acc++ai).toArray:=by simp
  have e2:(acc++ai)++(List.replicate k ai).flatten=acc++(List.replicate (k+1) ai).flatten:=by
   rw[Vk,VG,VH]
  rw[<-e2,<-foldl_rep ai k (acc++ai),<-e,Vk,List.foldl_cons]
section
variable {X:Cx}{pins:List (Addr×Obj)}{σ:St}{H:Hp}{s:Shared}{l b:Addr}{xs ys zs:List V}
theorem Inv.RN{ai its':List Value}{n:Nat}{f:Array Value->Array Value}{t':Nat}(I:Inv X pins σ H s)(hH:H l=some (.lst xs))
 (e:s.heap.get? l=some {cls:= .type "list",data:= .seq ai.toArray n}) (hf:f ai.toArray=its'.toArray) (hv:Vals ys its') (hz:ys.length<=sizeLine):
 Inv X pins σ (upd H l (.lst ys)) {s with heap:=s.heap.update l (Obj.mapSeq f),toks:=t'}:=by
 have q:=PySem.IsL.update e f;rw[hf]at q;refine I.write (x:=l) (e:=l) (by rw[hH];exact trivial) (.inl rfl) (λ b' u hb hu=>(We s.heap (Obj.mapSeq f) (TK hb)).trans hu) ⟨_,q⟩ ?_;exact⟨hz,its',_,hv,q⟩
theorem Inv.IP{ai:List Value}{t':Nat}(I:Inv X pins σ H s)(hv:Vals ys ai)(hz:ys.length<=sizeLine):
 Inv X pins σ (upd H s.heap.objs.size (.lst ys)) {s with heap:=s.heap.push {cls:= .type "list",data:= .seq ai.toArray},toks:=t'}:=
 I.laid (λ _ _ q=>Tz _ q) (Tu _) ⟨hz,ai,0,hv,TX _ rfl⟩
theorem Inv.fresh(I:Inv X pins σ H s):H s.heap.objs.size=none:=I.aF.fresh (Tu _)
theorem Inv.Sl(I:Inv X pins σ H s)(hH:H l=some (.lst xs)):xs.length<=sizeLine/\∃(ai:List Value) (n:Nat),Vals xs ai/\xs.length=ai.length/\s.heap.get? l=some {cls:= .type "list",data:= .seq ai.toArray n}:=by
 obtain⟨z,ai,n,r,e⟩:=I.aF l _ hH;exact⟨z,ai,n,r,r.length,e⟩
theorem Hk{n:Nat}(h:n<=sizeLine):Builtin.List.listTooLong n=false:=by
 unfold Builtin.List.listTooLong;exact T6 (by omega)
end
section
variable {X:Cx}
def CF:V->List V->Hp->VK->Prop:=λ x vs H Q=>∃l xs y,x= .ref l/\vs=[y]/\H l=some (.lst xs)/\xs.length<sizeLine/\Q .ax (upd H l (.lst (xs++[y])))
theorem yb:SI X "list.append" CF:=by
 intro pins s σ H x vs v us Q I rx rv h;obtain⟨l,xs,y,rfl,rfl,hH,hz,q⟩:=h;cases rx;obtain⟨u,rfl,ru⟩:=rv.one;obtain⟨z,ai,n,r,hl,e⟩:=I.Sl hH;refine WJ F.slot_list_append ⟨_,e,rfl⟩ F.entry_list_append (F.args_list_append_2 _ _) (PySem.list_append l ai.toArray n u (by rw[TL];omega)) ⟨e,?_⟩;refine⟨.ax,_,I.RN (its':=ai++[u]) hH e (by simp) (r.append (.cons ru .nil)) ?_,rfl,q⟩;rw[Ud,UC];omega
theorem len_rep{α:Type}(xs:List α)(k:Nat):(List.replicate k xs).flatten.length=k*xs.length:=by
 induction k with
 |zero=>simp
 |succ k ih=>rw[Vk,VG,Ud,ih,Yz,Nat.add_comm]
end
section
variable {prog:Program}{w:World}{A:Around}{E:Value->Shared->Prop}{s:Shared}
set_option maxRecDepth 100000 in
end
section
variable {X:Cx}
end
end L2
namespace Att
open PySem PySem.W PySem.Calls PyProof.Rows
theorem v_{P:Params}{h:Heap}:∀(ns:List Int) (vs:List Value),WellAll P h vs (ns.map WData.int)->IntsAre vs ns:=by
 intro ns;induction ns with
 |nil=>
  intro vs w;rw[List.map_nil]at w;cases w;exact .nil
 |cons n ns ih=>
  intro vs w;rw[Uj]at w;cases w with
  |cons a b=>
   cases a;exact .cons _ _ (ih _ b)
theorem GN{l:OpenLaw}{n:Nat}(hn:l.most=some n){P:Params}{h:Heap}{args:List WData}{vals:List Value}
 (hpre:l.row.toRowW.claim.pre args=true) (hwl:WellAll P h vals args):
 ∃a vs ns,vals=[Value.ref a]/\args=[WData.list (ns.map WData.int)]/\h.get? a=some {cls:= .type "list",data:= .seq vs.toArray}/\IntsAre vs ns/\ns.length<=n:=by
 have hsh:WShape.hasAll [] args [.list .int]=true:=(pre_splitW hpre).1;have hc:l.pre.holds [] {args:=args}=true:=(pre_splitW hpre).2;obtain⟨d,r,rfl,h1,h2⟩:=hasAllW_cons hsh;obtain rfl:=hasAllW_nil h2;obtain⟨xs,rfl,h3⟩:=hasW_list h1;obtain⟨ns,rfl⟩:=items_int h3
 have hlen:ns.length<=n:=by
  unfold OpenLaw.pre at hc
  have h4:(WTm.not (.lt (.lit (.int (n:Int))) (.len (.arg 0)))).holds [] {args:=[.list (ns.map .int)]}=true:=by
   have h4:=(holds_andW hc).1;rw[hn]at h4;exact h4
  have h5:=condW_of h4 (w_not (w_lt w_lit (w_len_list (w_arg rfl))));rw[Tw]at h5;refine UR λ q=>?_;have q':(n:Int)<((ns.length:Nat):Int):=by omega
  first
   |(rw[Ul q']at h5;exact absurd h5 (by decide))
   |(simp at h5;omega)
 cases hwl with
 |cons w1 w2=>
  cases w2;cases w1 with
  |list ho hall=>exact⟨_,_,ns,rfl,rfl,ho,v_ ns _ hall,hlen⟩
theorem G9(l:OpenLaw)(args:List WData):l.row.toRowW.claim.post args (.bool true) args=true:=
 postW_of (r:=l.row.toRowW) (X:=(true==true))
  (show WShape.has [] (.bool true) .bool=true by first|rfl|decide|simp[WShape.has,WShape.arms,WShape.armsAll])
  (show(WTm.eq .res (.lit (.bool true))).value [] {args:=args,res:=some (.bool true),after:=args}=some (.bool (true==true))from w_eq_bool (w_res rfl) w_lit) rfl
theorem Cf{l:OpenLaw}{n:Nat}{q:Program}{loose:List Str}{XP:(Str->Option Value)->Heap->Prop}{YP:World->Heap->Prop}{d:DefRec}
 (hn:l.most=some n) (hdf:d.params.defaults=[])
 (call:∀(w:World) (s₀ s₁:Shared) (mg mb:Str->Option Value) (fa:Addr) (o:Obj) (pm cd doc:Value) (a:Addr) (vs:List Value) (ns:List Int),
   Ground q loose [] XP w s₀ mg mb s₁.heap->YP w s₁.heap->
   s₁.heap.get? fa=some o->o.data= .func (docDef d.name d.params d.body d.scope pm cd doc)->s₁.heap.CodeRec cd d.name->mg d.name=some (.ref fa)->
   s₁.heap.get? a=some {cls:= .type "list",data:= .seq vs.toArray}->IntsAre vs ns->ns.length<=n->s₁.gens= #[]->
   codeAny (model l.prog w) callerA (.call (.ref fa) ⟨[.ref a],[]⟩) (λ r s'=>r= .ok (.ret (.bool true))/\OldK s₁.heap s'.heap/\s'.os=s₁.os/\AllBare s'.gens) s₁):
 WalkO q loose XP YP l.row.toRowW d [] (λ f vs=>PySem.call f vs):=by
 intro w s₀ s₁ mg mb G Y fa o pm cd doc dV kV ho hd hcd hD hmg hg args vals as hpre hlay hrd hwl hlo;obtain rfl:dV= .none:=Dflts.none hD hdf;obtain rfl:kV= .none:=Dflts.noKw hD;obtain⟨a,vs,ns,rfl,rfl,hobj,hints,hlen⟩:=GN hn hpre hwl;refine enter_call (XJ (call w s₀ s₁ mg mb fa o pm cd doc a vs ns G Y ho (fd_plain hd) hcd hmg hobj hints hlen hg) λ r s' hq=>?_);obtain⟨rfl,h2,h3,h4⟩:=hq;exact⟨.inl ⟨.bool true,.bool true,[],rfl,λ _=>rfl,.bool true,G9 l _,λ _=>⟨List.Pairwise.nil,λ _ hm=>(nomatch hm)⟩⟩,h2,h3,h4⟩
section
variable {prog:Program}{w:World}{A:Around}{E:Value->Shared->Prop}{s:Shared}{K:Frag}
end
end Att
namespace L2
open PySem PySem.Spec PyProof.Rows
theorem nR:∀ {vs:List Value} {ns:List Int},IntsAre vs ns->Vals (ns.map V.int) vs
 |_,_,.nil=> .nil
 |_,_,.cons n t h=> .cons ⟨t,rfl⟩ (nR h)
end L2
/-THE LAST THEOREM (shape;LID,My.*are yours):
 My.Adr:a structure of the addresses that your layer names (classes,functions);My.Txt K t:a structure (Prop) of the equations over K;
 My.txt_mk:{K} {implicit addresses ..} (e1:nsIn K mainGlobals "law"=some (some (.ref f))) (e2:K.lookup f=some ⟨oc,od,.func (fnOf "law" "law" params body scope dV kV doc pm an cdv ct),sl⟩) (e3:codeIn K cdv "law"=true) .. :∃t,My.Txt K t
set_option maxRecDepth 100000 in
set_option maxHeartbeats 0 in
(the tactic k_is has no namespace:write k_is)-/
namespace L2
open PySem PySem.Spec PyProof.Rows
def inClass(s:Stmt)(j:Nat):Stmt:=match s with
 | .ClassDef _ _ _ body _ _ _ _ _ _ _=>body.getD j (.Pass ⟨0,0,0,0⟩)
 |_=> .Pass ⟨0,0,0,0⟩
def jU(s:Stmt):Arguments:=match s with
 | .FunctionDef _ a _ _ _ _ _ _ _ _=>a
 |_=>{posonlyargs:=[],args:=[],vararg:=none,kwonlyargs:=[],kw_defaults:=[],kwarg:=none,defaults:=[]}
def fJ(s:Stmt):List Stmt:=match s with
 | .FunctionDef _ _ b _ _ _ _ _ _ _=>b
 |_=>[]
def bE(s:Stmt):Scope:=match s with
 | .FunctionDef _ _ _ _ _ _ sc _ _ _=>sc
 |_=>{kind:= .function,names:=[],isGenerator:=false,isCoroutine:=false}
abbrev fy:tY:=λ _ _ _ _ _ _=>False
abbrev E0:XK:=λ _ _ _=>False
theorem y_{X:Cx}:Passes fy X E0:=λ _ _ _ _ _ _ _ h=>h.elim
structure nB(K:PySem.W.Frag)(x qual:Str)(st:Stmt)(f:Addr)(fd:FuncData):Prop where
 ex:∃(oc:Value) (od:Option Addr) (kV doc pm:Value) (an:Option Addr) (cdv ct:Value) (osl:Array (Option Value)),
  fd=PySem.W.fnOf x qual (jU st) (fJ st) (bE st) .none kV doc pm an cdv ct/\K.lookup f=some ⟨oc,od,.func fd,osl⟩/\PySem.W.codeIn K cdv qual=true
 kp:PySem.W.keepIn K (.ref f)=true
section
variable {P:Program}{w:World}{K:PySem.W.Frag}{mg:Str->Option Value}{base:Heap}
theorem nB.ok{x qual:Str}{st:Stmt}{f:Addr}{fd:FuncData}{N ps:List Str}{k:Nat}{sp:Sp}(F:nB K x qual st f fd)(S:kM N ps (bE st))(len:∀vs H Q E,sp vs H Q E->vs.length=ps.length)
 (hbody:∀(cdv:Value) (A:Around) (outer:List Env) (s:Shared) (H:Hp) (vs:List V) (Q:VK) (E:XK),cJ k (A.deeper (envOfC qual (bE st) s.heap.objs.size f cdv))->sp vs H Q E->
   ∃t,gH (oz fy P w K mg base N qual (bE st) f cdv A outer s H E).t_ (fJ st) t/\t {nx:=λ _ H'=>Q .ax H',rt:=Q} (start N vs) H):cR P w K mg base fy (k+1) f fd ps sp:=by
 obtain⟨oc,od,kV,doc,pm,an,cdv,ct,osl,rfl,lk,hcd⟩:=F.ex;refine Ji lk hcd S len λ A outer s H vs Q E hr hsp=>?_;obtain⟨t,h,q⟩:=hbody cdv A outer s H vs Q E hr hsp;exact⟨t,h.t_,q⟩
theorem nB.binds{x qual:Str}{st:Stmt}{f:Addr}{fd:FuncData}{ps:List Str}(F:nB K x qual st f fd)
 (h:∀(kV doc pm:Value) (an:Option Addr) (cdv ct:Value) (us:List Value),us.length=ps.length->bindArgs (PySem.W.fnOf x qual (jU st) (fJ st) (bE st) .none kV doc pm an cdv ct) ⟨us,[]⟩=pure (ps.zip us)):Binds K fd ps []:=by
 obtain⟨oc,od,kV,doc,pm,an,cdv,ct,osl,rfl,lk,hcd⟩:=F.ex;exact .all (h kV doc pm an cdv ct)
theorem Fp{x qual:Str}{st:Stmt}{f:Addr}{oc:Value}{od an:Option Addr}{osl:Array (Option Value)}{kV doc pm cdv ct:Value}(l:K.lookup f=some ⟨oc,od,.func (PySem.W.fnOf x qual (jU st) (fJ st) (bE st) .none kV doc pm an cdv ct),osl⟩)
 (c:PySem.W.codeIn K cdv qual=true) (k:PySem.W.keepIn K (.ref f)=true):nB K x qual st f (PySem.W.fnOf x qual (jU st) (fJ st) (bE st) .none kV doc pm an cdv ct):=⟨⟨oc,od,kV,doc,pm,an,cdv,ct,osl,rfl,l,c⟩,k⟩
end
section
variable {X:Cx}
end
theorem RW{A B:Prop}(h:B):if false=true then A else B:=by
 rw[Tv Uo];exact h
theorem dj{A B:Prop}(h:A):if true=true then A else B:=by
 rw[TC rfl];exact h
def H0(H H':Hp):Prop:=∀b o,H b=some o->H' b=some o
end L2
set_option maxHeartbeats 4000000
namespace Hd
open PySem PySem.W PySem.Calls PyProof.Rows
noncomputable def bt (P:Params):BT:=(.node (boot_o_0 P) (.node (boot_o_1 P) (.node (boot_o_3 P) (.node (boot_o_7 P) .nil .nil) .nil) (.node (boot_o_5 P) (.node (boot_o_9 P) .nil .nil) .nil)) (.node (boot_o_2 P) (.node (boot_o_4 P) (.node (boot_o_8 P) .nil .nil) .nil) (.node (boot_o_6 P) (.node (boot_o_10 P) .nil .nil) .nil)))
theorem Nv(P:Params):absHeap (bt P) 11 (boot_heap P).life=boot_heap P:=by kernel_rfl
noncomputable def run (p:Program) (w:World) (n:Nat) (ann:Option Value):Nat->SharedT->Thread->Option SharedT
 |0,_,_=>none
 |k+1,s,t=>match through t with
  |true=>some s
  |false=>match Fast.tw6613529449190102663 n ann t with
   |false=>none
   |true=>match Fast.tw10156331382660048174 (Fast.tw11892475500146522536 Fast.tw14364793385576792824) p w s t with
    |some (s',t')=>run p w n ann k s' t'
    |none=>none
theorem FG{p:Program}{w:World}{n:Nat}{ann:Option Value}:∀ {k:Nat} {s s':SharedT} {t:Thread},run p w n ann k s t=some s'->topRun treeTable p w n ann k s.abs t=some s'.abs
 |0,_,_,_,h=>by cases h
 |k+1,s,s',t,h=>by
  unfold run at h;unfold topRun;cases he:through t with
  |true=>rw[he]at h;cases h;rfl
  |false=>
   rw[he]at h;rw[<-Fast.te6613529449190102663,<-Fast.te10156331382660048174,<-Fast.te11892475500146522536,<-Fast.te14364793385576792824]at h;cases hk:stepOk n ann t with
   |false=>simp only[hk]at h;cases h
   |true=>
    simp only[hk]at h;cases hs:stepT (denote treeTable) p w s t with
    |none=>rw[hs]at h;cases h
    |some r=>obtain⟨s2,t2⟩:=r;rw[hs]at h;rw[stepT_spec hs];exact FG h
noncomputable def b0 (w:World) (os:OsState):SharedT:=⟨bt w.params,11,(boot_heap w.params).life,⟨[]⟩,boot_drawn,boot_toks,os⟩
theorem N0(w:World)(os:OsState):(b0 w os).abs=⟨boot_heap w.params,⟨[]⟩,boot_drawn,boot_toks,os⟩:=by
 unfold b0 SharedT.abs;dsimp only;rw[Nv]
theorem left{p q:Program}{loose:List Str}{α:Type}{Yf:Shared->α}{Ya:World->α}{N:Nat}
 (e:opening p=plainProg p.main.scope.names) (f:∀s,fenceModules? p s=some s) (hN:Nat.ble 600 N=true)
 (h:∀(w:World) (os:OsState),(run p w 11 (some (.ref 6)) N (b0 w os) (topStub p)).bind (λ s=>match staticsOk (importedModules p.main.body) (boot_heap w.params) s.abs.heap&&namesBound p s.abs.heap&&gensDone s.abs&&laidKept (boot_heap w.params) s.abs.heap with
   |true=>some (Fast.tw4187177175401517315 q loose (importedModules p.main.body) (λ _=>true) true s.abs,Yf s.abs)
   |false=>none)=some (openGood q loose,Ya w)):LeftO p q loose (λ _=>true) Yf Ya N:=λ w=>by
 obtain⟨⟨hp,gs,d,k,os⟩,e1,e2⟩:=Option.map_eq_some_iff.mp (boot_open e hN f w);obtain⟨rfl,rfl,rfl,rfl⟩:hp=boot_heap w.params/\gs=⟨[]⟩/\d=boot_drawn/\k=boot_toks:=by simpa using e2
 obtain⟨s,r1,r2⟩:=Option.bind_eq_some_iff.mp (h w os);have r3:=FG r1;rw[N0]at r3;rw[<-Fast.te4187177175401517315]at r2;unfold openEnds;rw[e1];show(topFrom treeTable p w N _).map _=_;unfold topFrom;rw[show((boot_heap w.params).isNs mainGlobals&&(⟨[]⟩:Array GenState).size==0)=true from by kernel_rfl];dsimp only;rw[show(boot_heap w.params).objs.size=11 from by kernel_rfl,show(boot_heap w.params).nsMap mainGlobals "__annotations__"=some (.ref 6)from by kernel_rfl,r3];show((match staticsOk (importedModules p.main.body) (boot_heap w.params) s.abs.heap&&namesBound p s.abs.heap&&gensDone s.abs&&laidKept (boot_heap w.params) s.abs.heap with|true=>some s.abs|false=>none):Option Shared).map _=_;cases z:(staticsOk (importedModules p.main.body) (boot_heap w.params) s.abs.heap&&namesBound p s.abs.heap&&gensDone s.abs&&laidKept (boot_heap w.params) s.abs.heap)with
 |false=>rw[z]at r2;cases r2
 |true=>rw[z]at r2;exact r2
abbrev e(x:Str)(t:Nat)(v:Value):Str×Nat×Value:=(x,t,v)
abbrev k(a:Addr)(o:Obj):Addr×Obj:=(a,o)
def no(P:Params)(n:Nat)(l:List (Str×Nat×Value)):Obj:=⟨.type "dict",none,.dict (l.map λ e=>⟨PyData.keyHash P e.1,.str e.1 e.2.1,e.2.2⟩).toArray n,#[]⟩
def fd(st:Stmt)(x q:Str)(pm:Value)(c:Addr):FuncData:=fnOf x q (L2.jU st) (L2.fJ st) (L2.bE st) .none .none .none pm none (.ref c) .none
def fq(st:Stmt)(x q:Str)(pm:Value)(c:Addr):Obj:=⟨.type "function",none,.func (fd st x q pm c),#[]⟩
def co(x q:Str)(t:Nat)(line argc:Int)(a b:Addr)(u v:Value)(d:Addr)(i:Int)(z:Nat):Obj:=⟨.type "code",none,.fields #[.str x t,.str q (t+1),.str "/claim/cut.py" (t+2),.int line 0,.int argc 0,.int 0 0,.int 0 0,.int 3 0,.ref a,.bool true,.int 181 0,.ref b,.none,u,v,.ref d,.int i 0,.int line 0,.str "/claim/cut.py" z],#[]⟩
end Hd
namespace Row
open PySem L2
open PySem.Spec hiding items?
open PyProof.Rows hiding St
def top(i:Nat):Stmt:=PySem.Challenge.pw_latticeworks_k24_papers_of_numbers.main.body.getD i (.Pass ⟨0,0,0,0⟩)
abbrev PW:Program:=PySem.Challenge.pw_latticeworks_k24_papers_of_numbers
abbrev oE:Stmt:=top 1
abbrev oB:Stmt:=top 2
abbrev kv:Stmt:=top 3
abbrev mh:Stmt:=top 4
abbrev rq:Stmt:=top 6
abbrev xm:Stmt:=top 7
abbrev uU:Stmt:=top 8
abbrev sD:Stmt:=top 9
abbrev uK:Stmt:=top 10
abbrev mf:Stmt:=top 11
abbrev pV:Stmt:=top 12
abbrev ow:Stmt:=top 13
abbrev sO:Stmt:=top 14
abbrev qf:Stmt:=top 15
abbrev nD:Stmt:=top 16
abbrev iF:Stmt:=top 18
abbrev ox:Stmt:=top 19
abbrev rG:Stmt:=top 20
abbrev de:Stmt:=inClass (top 21) 0
abbrev iw:Stmt:=inClass (top 21) 1
abbrev fE:Stmt:=inClass (top 21) 2
abbrev d_:Stmt:=inClass (top 21) 3
abbrev dk:Stmt:=inClass (top 21) 4
abbrev gu:Stmt:=inClass (top 21) 5
abbrev d9:Stmt:=inClass (top 21) 6
abbrev pM:Stmt:=top 22
abbrev fG:Stmt:=inClass (top 24) 0
abbrev fj:Stmt:=inClass (top 24) 1
abbrev eS:Stmt:=inClass (top 24) 2
abbrev eM:Stmt:=inClass (top 24) 3
abbrev dN:Stmt:=inClass (top 24) 4
abbrev mi:Stmt:=top 26
abbrev gF:Stmt:=inClass (top 24) 5
abbrev ke:Stmt:=top 25
abbrev gY:Stmt:=inClass (top 24) 6
abbrev nG:Stmt:=top 27
abbrev qt:Stmt:=top 28
abbrev ku:Stmt:=top 29
abbrev qp:Stmt:=top 30
abbrev jN:Stmt:=top 31
abbrev nc:Stmt:=top 33
abbrev pY:Stmt:=top 34
abbrev nK:Stmt:=top 35
abbrev mq:Stmt:=top 36
abbrev oA:Stmt:=top 37
abbrev oG:Stmt:=top 38
abbrev j9:Stmt:=top 39
abbrev kT:Stmt:=top 40
abbrev j4:Stmt:=top 41
abbrev rX:Stmt:=top 42
abbrev qh:Stmt:=top 43
abbrev jj:Stmt:=top 44
abbrev kR:Stmt:=top 45
abbrev m8:Stmt:=top 46
abbrev om:Stmt:=top 47
abbrev nH:Stmt:=top 48
abbrev wg:Stmt:=top 49
def yr:Value:=(.str "latticeworks.kinds" 187)
def jb:Value:=(.str "latticeworks.rows" 217)
def fM:Value:=(.str "latticeworks.standing" 297)
def eH:Value:=(.str "latticeworks.dividing" 418)
def eJ:Value:=(.str "law_latticeworks_k24_papers_of_numbers" 560)
def KX(P:Params):PySem.W.Frag:=[Hd.k 3 (Hd.no P 54 [Hd.e "__name__" 165 (.str "law_latticeworks_k24_papers_of_numbers" 560),Hd.e "__doc__" 166 .none,Hd.e "__package__" 167 .none,Hd.e "__loader__" 168 (.builtin "__main__.__loader__#opaque"),Hd.e "__spec__" 169 .none,Hd.e "__annotations__" 170 (.ref 6),Hd.e "__builtins__" 171 (.ref 4),Hd.e "__file__" 173 (.str "/claim/cut.py" 172),Hd.e "__cached__" 174 .none,Hd.e "is_number" 195 (.ref 21),Hd.e "is_listed" 202 (.ref 28),Hd.e "is_listed_of" 210 (.ref 35),Hd.e "are_numbers" 216 (.ref 40),Hd.e "as_rows" 224 (.ref 45),Hd.e "added" 230 (.ref 50),Hd.e "sum_by" 242 (.ref 57),Hd.e "product" 248 (.ref 62),Hd.e "column" 254 (.ref 67),Hd.e "turned_over" 260 (.ref 72),Hd.e "unit_row" 266 (.ref 77),Hd.e "unit_rows" 272 (.ref 82),Hd.e "is_rows" 278 (.ref 87),Hd.e "are_back" 287 (.ref 94),Hd.e "is_turn_of" 296 (.ref 101),Hd.e "nearest_quotient" 306 (.ref 108),Hd.e "exchanged" 316 (.ref 115),Hd.e "negated" 322 (.ref 120),Hd.e "Bench" 406 (.ref 175),Hd.e "standing" 417 (.ref 186),Hd.e "Sides" 504 (.ref 245),Hd.e "unit_rows_but" 510 (.ref 254),Hd.e "is_diagonal" 516 (.ref 259),Hd.e "numbers_of" 522 (.ref 264),Hd.e "dividing" 533 (.ref 271),Hd.e "are_dividing" 543 (.ref 278),Hd.e "diagonal" 549 (.ref 283),Hd.e "shows_dividing" 559 (.ref 290),Hd.e "_law_source" 570 (.ref 297),Hd.e "_law_take" 580 (.ref 304),Hd.e "_law_number" 588 (.ref 311),Hd.e "_law_product" 594 (.ref 316),Hd.e "_law_units" 600 (.ref 321),Hd.e "_law_slope" 606 (.ref 326),Hd.e "_law_is_number" 613 (.ref 333),Hd.e "_law_are_rows" 619 (.ref 338),Hd.e "_law_are_turns" 628 (.ref 345),Hd.e "_law_due" 634 (.ref 350),Hd.e "_law_case" 640 (.ref 355),Hd.e "_law_bad_numbers" 646 (.ref 360),Hd.e "_law_bad_rows" 652 (.ref 365),Hd.e "_law_spoilt" 664 (.ref 372),Hd.e "_law_about" 670 (.ref 377),Hd.e "_law_looked" 679 (.ref 384),Hd.e "law" 691 (.ref 391)]),
 Hd.k 20 (Hd.co "is_number" "is_number" 189 2 1 15 16 (.ref 17) (.ref 18) 19 193 194),
 Hd.k 21 (Hd.fq oE "is_number" "is_number" yr 20),
 Hd.k 27 (Hd.co "is_listed" "is_listed" 196 4 1 22 23 (.ref 24) (.ref 25) 26 200 201),
 Hd.k 28 (Hd.fq oB "is_listed" "is_listed" yr 27),
 Hd.k 34 (Hd.co "is_listed_of" "is_listed_of" 203 6 2 29 30 (.ref 31) (.ref 32) 33 208 209),
 Hd.k 35 (Hd.fq kv "is_listed_of" "is_listed_of" yr 34),
 Hd.k 39 (Hd.co "are_numbers" "are_numbers" 211 8 2 36 37 .none .none 38 214 215),
 Hd.k 40 (Hd.fq mh "are_numbers" "are_numbers" yr 39),
 Hd.k 44 (Hd.co "as_rows" "as_rows" 219 11 1 41 42 .none .none 43 222 223),
 Hd.k 45 (Hd.fq rq "as_rows" "as_rows" jb 44),
 Hd.k 49 (Hd.co "added" "added" 225 13 3 46 47 .none .none 48 228 229),
 Hd.k 50 (Hd.fq xm "added" "added" jb 49),
 Hd.k 56 (Hd.co "sum_by" "sum_by" 231 15 3 51 52 (.ref 53) (.ref 54) 55 240 241),
 Hd.k 57 (Hd.fq uU "sum_by" "sum_by" jb 56),
 Hd.k 61 (Hd.co "product" "product" 243 20 2 58 59 .none .none 60 246 247),
 Hd.k 62 (Hd.fq sD "product" "product" jb 61),
 Hd.k 66 (Hd.co "column" "column" 249 23 2 63 64 .none .none 65 252 253),
 Hd.k 67 (Hd.fq uK "column" "column" jb 66),
 Hd.k 71 (Hd.co "turned_over" "turned_over" 255 25 2 68 69 .none .none 70 258 259),
 Hd.k 72 (Hd.fq mf "turned_over" "turned_over" jb 71),
 Hd.k 76 (Hd.co "unit_row" "unit_row" 261 27 2 73 74 .none .none 75 264 265),
 Hd.k 77 (Hd.fq pV "unit_row" "unit_row" jb 76),
 Hd.k 81 (Hd.co "unit_rows" "unit_rows" 267 29 1 78 79 .none .none 80 270 271),
 Hd.k 82 (Hd.fq ow "unit_rows" "unit_rows" jb 81),
 Hd.k 86 (Hd.co "is_rows" "is_rows" 273 31 3 83 84 .none .none 85 276 277),
 Hd.k 87 (Hd.fq sO "is_rows" "is_rows" jb 86),
 Hd.k 93 (Hd.co "are_back" "are_back" 279 37 2 88 89 (.ref 90) (.ref 91) 92 285 286),
 Hd.k 94 (Hd.fq qf "are_back" "are_back" jb 93),
 Hd.k 100 (Hd.co "is_turn_of" "is_turn_of" 288 44 3 95 96 (.ref 97) (.ref 98) 99 294 295),
 Hd.k 101 (Hd.fq nD "is_turn_of" "is_turn_of" jb 100),
 Hd.k 107 (Hd.co "nearest_quotient" "nearest_quotient" 299 47 2 102 103 (.ref 104) (.ref 105) 106 304 305),
 Hd.k 108 (Hd.fq iF "nearest_quotient" "nearest_quotient" fM 107),
 Hd.k 114 (Hd.co "exchanged" "exchanged" 307 49 3 109 110 (.ref 111) (.ref 112) 113 314 315),
 Hd.k 115 (Hd.fq ox "exchanged" "exchanged" fM 114),
 Hd.k 119 (Hd.co "negated" "negated" 317 54 1 116 117 .none .none 118 320 321),
 Hd.k 120 (Hd.fq rG "negated" "negated" fM 119),
 Hd.k 131 (Hd.co "__init__" "Bench.__init__" 335 58 2 128 129 .none .none 130 338 339),
 Hd.k 132 (Hd.fq de "__init__" "Bench.__init__" fM 131),
 Hd.k 138 (Hd.co "take" "Bench.take" 341 63 4 133 134 (.ref 135) (.ref 136) 137 348 349),
 Hd.k 139 (Hd.fq iw "take" "Bench.take" fM 138),
 Hd.k 145 (Hd.co "exchange" "Bench.exchange" 351 68 3 140 141 (.ref 142) (.ref 143) 144 357 358),
 Hd.k 146 (Hd.fq fE "exchange" "Bench.exchange" fM 145),
 Hd.k 152 (Hd.co "change_sign" "Bench.change_sign" 360 73 2 147 148 (.ref 149) (.ref 150) 151 365 366),
 Hd.k 153 (Hd.fq d_ "change_sign" "Bench.change_sign" fM 152),
 Hd.k 157 (Hd.co "live_rows" "Bench.live_rows" 368 78 3 154 155 .none .none 156 371 372),
 Hd.k 158 (Hd.fq dk "live_rows" "Bench.live_rows" fM 157),
 Hd.k 164 (Hd.co "gather" "Bench.gather" 374 82 3 159 160 (.ref 161) (.ref 162) 163 383 384),
 Hd.k 165 (Hd.fq gu "gather" "Bench.gather" fM 164),
 Hd.k 171 (Hd.co "lower_above" "Bench.lower_above" 386 96 3 166 167 (.ref 168) (.ref 169) 170 393 394),
 Hd.k 172 (Hd.fq d9 "lower_above" "Bench.lower_above" fM 171),
 Hd.k 174 (Hd.no P 4 [Hd.e "__module__" 330 (.str "latticeworks.standing" 297),Hd.e "__firstlineno__" 334 (.int (56) 333),Hd.e "__init__" 340 (.ref 132),Hd.e "take" 350 (.ref 139),Hd.e "exchange" 359 (.ref 146),Hd.e "change_sign" 367 (.ref 153),Hd.e "live_rows" 373 (.ref 158),Hd.e "gather" 385 (.ref 165),Hd.e "lower_above" 395 (.ref 172),Hd.e "__static_attributes__" 399 (.ref 173),Hd.e "__dict__" 401 (.ref 176),Hd.e "__weakref__" 403 (.ref 177),Hd.e "__doc__" 404 .none]),
 Hd.k 175 (⟨(.type "type"),none,.cls {name:="Bench",bases:=[(.type "object")],mro:=[(.ref 175),(.type "object")],ns:=174,qualname:="Bench",hasDict:=true,subclasses:=[],abstract:=false,hasDel:=false},#[none,none,(some (.str "Bench" 323)),(some (.str "Bench" 331)),(some (.builtin "object.__new__")),(some (.bool true))]⟩),
 Hd.k 185 (Hd.co "standing" "standing" 407 99 1 180 181 (.ref 182) (.ref 183) 184 415 416),
 Hd.k 186 (Hd.fq pM "standing" "standing" fM 185),
 Hd.k 199 (Hd.co "__init__" "Sides.__init__" 432 111 2 194 195 (.ref 196) (.ref 197) 198 437 438),
 Hd.k 200 (Hd.fq fG "__init__" "Sides.__init__" eH 199),
 Hd.k 206 (Hd.co "turn_left" "Sides.turn_left" 440 120 3 201 202 (.ref 203) (.ref 204) 205 446 447),
 Hd.k 207 (Hd.fq fj "turn_left" "Sides.turn_left" eH 206),
 Hd.k 213 (Hd.co "turn_right" "Sides.turn_right" 449 125 3 208 209 (.ref 210) (.ref 211) 212 455 456),
 Hd.k 214 (Hd.fq eS "turn_right" "Sides.turn_right" eH 213),
 Hd.k 220 (Hd.co "stand_rows" "Sides.stand_rows" 458 130 1 215 216 (.ref 217) (.ref 218) 219 463 464),
 Hd.k 221 (Hd.fq eM "stand_rows" "Sides.stand_rows" eH 220),
 Hd.k 227 (Hd.co "stand_columns" "Sides.stand_columns" 466 134 1 222 223 (.ref 224) (.ref 225) 226 471 472),
 Hd.k 228 (Hd.fq dN "stand_columns" "Sides.stand_columns" eH 227),
 Hd.k 234 (Hd.co "settle" "Sides.settle" 474 138 1 229 230 (.ref 231) (.ref 232) 233 478 479),
 Hd.k 235 (Hd.fq gF "settle" "Sides.settle" eH 234),
 Hd.k 241 (Hd.co "merge" "Sides.merge" 481 145 3 236 237 (.ref 238) (.ref 239) 240 487 488),
 Hd.k 242 (Hd.fq gY "merge" "Sides.merge" eH 241),
 Hd.k 244 (Hd.no P 4 [Hd.e "__module__" 427 (.str "latticeworks.dividing" 418),Hd.e "__firstlineno__" 431 (.int (109) 430),Hd.e "__init__" 439 (.ref 200),Hd.e "turn_left" 448 (.ref 207),Hd.e "turn_right" 457 (.ref 214),Hd.e "stand_rows" 465 (.ref 221),Hd.e "stand_columns" 473 (.ref 228),Hd.e "settle" 480 (.ref 235),Hd.e "merge" 489 (.ref 242),Hd.e "__static_attributes__" 497 (.ref 243),Hd.e "__dict__" 499 (.ref 246),Hd.e "__weakref__" 501 (.ref 247),Hd.e "__doc__" 502 .none]),
 Hd.k 245 (⟨(.type "type"),none,.cls {name:="Sides",bases:=[(.type "object")],mro:=[(.ref 245),(.type "object")],ns:=244,qualname:="Sides",hasDict:=true,subclasses:=[],abstract:=false,hasDel:=false},#[none,none,(some (.str "Sides" 420)),(some (.str "Sides" 428)),(some (.builtin "object.__new__")),(some (.bool true))]⟩),
 Hd.k 253 (Hd.co "unit_rows_but" "unit_rows_but" 505 148 4 250 251 .none .none 252 508 509),
 Hd.k 254 (Hd.fq ke "unit_rows_but" "unit_rows_but" eH 253),
 Hd.k 258 (Hd.co "is_diagonal" "is_diagonal" 511 152 1 255 256 .none .none 257 514 515),
 Hd.k 259 (Hd.fq mi "is_diagonal" "is_diagonal" eH 258),
 Hd.k 263 (Hd.co "numbers_of" "numbers_of" 517 157 1 260 261 .none .none 262 520 521),
 Hd.k 264 (Hd.fq nG "numbers_of" "numbers_of" eH 263),
 Hd.k 270 (Hd.co "dividing" "dividing" 523 160 1 265 266 (.ref 267) (.ref 268) 269 531 532),
 Hd.k 271 (Hd.fq qt "dividing" "dividing" eH 270),
 Hd.k 277 (Hd.co "are_dividing" "are_dividing" 534 169 2 272 273 (.ref 274) (.ref 275) 276 541 542),
 Hd.k 278 (Hd.fq ku "are_dividing" "are_dividing" eH 277),
 Hd.k 282 (Hd.co "diagonal" "diagonal" 544 178 3 279 280 .none .none 281 547 548),
 Hd.k 283 (Hd.fq qp "diagonal" "diagonal" eH 282),
 Hd.k 289 (Hd.co "shows_dividing" "shows_dividing" 550 183 2 284 285 (.ref 286) (.ref 287) 288 557 558),
 Hd.k 290 (Hd.fq jN "shows_dividing" "shows_dividing" eH 289),
 Hd.k 296 (Hd.co "_law_source" "_law_source" 562 192 2 291 292 (.ref 293) (.ref 294) 295 568 569),
 Hd.k 297 (Hd.fq nc "_law_source" "_law_source" eJ 296),
 Hd.k 303 (Hd.co "_law_take" "_law_take" 571 197 2 298 299 (.ref 300) (.ref 301) 302 578 579),
 Hd.k 304 (Hd.fq pY "_law_take" "_law_take" eJ 303),
 Hd.k 310 (Hd.co "_law_number" "_law_number" 581 206 1 305 306 (.ref 307) (.ref 308) 309 586 587),
 Hd.k 311 (Hd.fq nK "_law_number" "_law_number" eJ 310),
 Hd.k 315 (Hd.co "_law_product" "_law_product" 589 213 2 312 313 .none .none 314 592 593),
 Hd.k 316 (Hd.fq mq "_law_product" "_law_product" eJ 315),
 Hd.k 320 (Hd.co "_law_units" "_law_units" 595 218 1 317 318 .none .none 319 598 599),
 Hd.k 321 (Hd.fq oA "_law_units" "_law_units" eJ 320),
 Hd.k 325 (Hd.co "_law_slope" "_law_slope" 601 220 3 322 323 .none .none 324 604 605),
 Hd.k 326 (Hd.fq oG "_law_slope" "_law_slope" eJ 325),
 Hd.k 332 (Hd.co "_law_is_number" "_law_is_number" 607 225 1 327 328 (.ref 329) (.ref 330) 331 611 612),
 Hd.k 333 (Hd.fq j9 "_law_is_number" "_law_is_number" eJ 332),
 Hd.k 337 (Hd.co "_law_are_rows" "_law_are_rows" 614 227 3 334 335 .none .none 336 617 618),
 Hd.k 338 (Hd.fq kT "_law_are_rows" "_law_are_rows" eJ 337),
 Hd.k 344 (Hd.co "_law_are_turns" "_law_are_turns" 620 234 3 339 340 (.ref 341) (.ref 342) 343 626 627),
 Hd.k 345 (Hd.fq j4 "_law_are_turns" "_law_are_turns" eJ 344),
 Hd.k 349 (Hd.co "_law_due" "_law_due" 629 236 2 346 347 .none .none 348 632 633),
 Hd.k 350 (Hd.fq rX "_law_due" "_law_due" eJ 349),
 Hd.k 354 (Hd.co "_law_case" "_law_case" 635 248 1 351 352 .none .none 353 638 639),
 Hd.k 355 (Hd.fq qh "_law_case" "_law_case" eJ 354),
 Hd.k 359 (Hd.co "_law_bad_numbers" "_law_bad_numbers" 641 260 2 356 357 .none .none 358 644 645),
 Hd.k 360 (Hd.fq jj "_law_bad_numbers" "_law_bad_numbers" eJ 359),
 Hd.k 364 (Hd.co "_law_bad_rows" "_law_bad_rows" 647 265 2 361 362 .none .none 363 650 651),
 Hd.k 365 (Hd.fq kR "_law_bad_rows" "_law_bad_rows" eJ 364),
 Hd.k 371 (Hd.co "_law_spoilt" "_law_spoilt" 653 274 2 366 367 (.ref 368) (.ref 369) 370 662 663),
 Hd.k 372 (Hd.fq m8 "_law_spoilt" "_law_spoilt" eJ 371),
 Hd.k 376 (Hd.co "_law_about" "_law_about" 665 290 2 373 374 .none .none 375 668 669),
 Hd.k 377 (Hd.fq om "_law_about" "_law_about" eJ 376),
 Hd.k 383 (Hd.co "_law_looked" "_law_looked" 671 296 2 378 379 (.ref 380) (.ref 381) 382 677 678),
 Hd.k 384 (Hd.fq nH "_law_looked" "_law_looked" eJ 383),
 Hd.k 390 (Hd.co "law" "law" 680 299 1 385 386 (.ref 387) (.ref 388) 389 689 690),
 Hd.k 391 (Hd.fq wg "law" "law" eJ 390)]
def KA:List Addr:=[3,20,21,27,28,34,35,39,40,44,45,49,50,56,57,61,62,66,67,71,72,76,77,81,82,86,87,93,94,100,101,107,108,114,115,119,120,131,132,138,139,145,146,152,153,157,158,164,165,171,172,174,175,185,186,199,200,206,207,213,214,220,221,227,228,234,235,241,242,244,245,253,254,258,259,263,264,270,271,277,278,282,283,289,290,296,297,303,304,310,311,315,316,320,321,325,326,332,333,337,338,344,345,349,350,354,355,359,360,364,365,371,372,376,377,383,384,390,391]
set_option maxHeartbeats 0 in
theorem left:PySem.W.LeftO PW (PySem.W.view PW [1,2,3,4,6,7,8,9,10,11,12,13,14,15,16,18,19,20,21,22,24,25,26,27,28,29,30,31,33,34,35,36,37,38,39,40,41,42,43,44,45,46,47,48,49]) [] (λ _=>true) (PySem.W.kmHook Row.KX Row.KA (λ _=>rfl) [155]).obs (PySem.W.kmHook Row.KX Row.KA (λ _=>rfl) [155]).val 4346:=
 Hd.left (by kernel_rfl) (λ s=>by kernel_rfl) rfl λ w os=>by kernel_rfl
end Row
namespace L3
open PySem PySem.Spec PyProof.Rows L2
section
variable {prog:Program}{w:World}{A:Around}{R:Result->Shared->Prop}{s:Shared}
theorem BR{elt target iter:Expr}{ifs:List Expr}{scope:Scope}{pos:Pos}{it acc:Value}{env:Env}(I:Nat->Shared->Prop)
 (turn:∀n s,I n s->wpAny (model prog w) A (pyNext it) (λ r s₁=>match r with
   |none=>R (.ok .next) s₁
   |some v=>wpAny (model prog w) A (letOwnedTupleGo target it v) (λ _ s₀=>wpAny (model prog w) A (assign target env v) (λ _ s₂=>
     wpAny (model prog w) A (forIn ifs true λ c r=>if r=true then do let ok <-isTrue c env (eval c env);pure (ForInStep.yield ok)else pure (ForInStep.yield r)) (λ ok s₃=>
      if ok=true then wpAny (model prog w) A (eval elt env) (λ x s₄=>
       wpAny (model prog w) A (call (.builtin "list.append") [acc,x]) (λ _ s₅=>∃m,m<n/\I m s₅) (λ _ _=>False) s₄) (λ _ _=>False) s₃
      else∃m,m<n/\I m s₃) (λ _ _=>False) s₂) (λ _ _=>False) s₀) (λ _ _=>False) s₁) (λ _ _=>False) s)
 (n:Nat) (h:I n s):
 codeAny (model prog w) A (.compLoop (.ListComp elt [⟨target,iter,ifs,0⟩] scope pos) 0 it acc env) R s:=by
 refine codeAny_loop rfl I (λ n s hI=>?_) n h;show wpAny _ A ((compTurn (.ListComp elt [⟨target,iter,ifs,0⟩] scope pos) 0 it acc env).onRaise (λ x=>do noteFrame x env;theTreesLotGoes x)) _ _ s;refine wpAny_noted ?_;rw[compTurn_list];refine Tr (Wr (Tr (Vs (turn n s hI) (λ r s₁ h₁=>?_) λ _ _ h'=>h'.elim)));cases r with
 |none=>exact TH h₁
 |some v=>
  refine Tr (Vs h₁ (λ _ s₀ h₀=>?_) λ _ _ h'=>h'.elim);refine Tr (Vs h₀ (λ _ s₂ h₂=>Tr (Vs h₂ (λ ok s₃ h₃=>?_) λ _ _ h'=>h'.elim)) λ _ _ h'=>h'.elim);cases ok with
  |false=>exact TH ⟨rfl,h₃⟩
  |true=>
   exact Tr (Tr (Vs h₃ (λ x s₄ h₄=>Tr (Vs h₄ (λ _ s₅ h₅=>TH (TH ⟨rfl,h₅⟩)) λ _ _ h'=>h'.elim)) λ _ _ h'=>h'.elim))
end
def c8(cells:List (Str×Addr)):List (Str×NameKind)->List (Str×Addr)->List (Str×Addr)
 | [],acc=>acc
 |(n,k)::r,acc=>if k== .free then(match cells.lookup n with|some c=>c8 cells r ((n,c)::acc)|none=>c8 cells r acc)else c8 cells r acc
theorem cP{cells:List (Str×Addr)}:∀(names:List (Str×NameKind)) (acc:List (Str×Addr)),(∀x c,acc.lookup x=some c->cells.lookup x=some c)->
 ∀x c,(c8 cells names acc).lookup x=some c->cells.lookup x=some c
 | [],acc,h,x,c,e=>h x c e
 |(n,k)::r,acc,h,x,c,e=>by
  unfold c8 at e;split at e
  . split at e
    . rename_i d q;refine cP r _ (λ y b e'=>?_) x c e;rw[Uw]at e';split at e'
      . rename_i z;cases e';have z':y=n:=by simpa using z
        rw[z'];exact q
      . exact h y b e'
    . exact cP r _ h x c e
  . exact cP r _ h x c e
theorem iy{cells:List (Str×Addr)}{x:Str}:∀(names:List (Str×NameKind)) (acc:List (Str×Addr)),(∃c,cells.lookup x=some c)->((x,NameKind.free)∈names\/∃c,acc.lookup x=some c)->
 ∃c,(c8 cells names acc).lookup x=some c
 | [],acc,_,h=>by
   rcases h with h|h
   . simp at h
   . exact h
 |(n,k)::r,acc,hc,h=>by
  unfold c8;split
  . rename_i hk;split
    . rename_i d q;refine iy r _ hc ?_;rcases h with h|⟨c,h⟩
      . rcases TU.mp h with e|e
        . cases e;exact .inr ⟨d,by simp[Uw]⟩
        . exact .inl e
      . refine .inr ?_;rw[Uw];split
        . exact⟨_,rfl⟩
        . exact⟨c,h⟩
    . rename_i q;refine iy r _ hc ?_;rcases h with h|h
      . rcases TU.mp h with e|e
        . cases e;obtain⟨c,hc⟩:=hc;rw[hc]at q;cases q
        . exact .inl e
      . exact .inr h
  . rename_i hk;refine iy r _ hc ?_;rcases h with h|h
    . rcases TU.mp h with e|e
      . cases e;exact absurd rfl hk
      . exact .inl e
    . exact .inr h
theorem l_{scope:Scope}{env:Env}(h:∀x∈scope.names,x.2= .free->∃c,env.cells.lookup x.1=some c):closureFor scope env=pure (c8 env.cells scope.names []):=by
 have key:∀(names:List (Str×NameKind)) (acc:List (Str×Addr)),(∀x∈names,x.2= .free->∃c,env.cells.lookup x.1=some c)->
  (forIn names acc (λ(x:Str×NameKind) (cs:List (Str×Addr))=>if(x.2==NameKind.free)=true then(do let a <-cellOf env x.1;pure (ForInStep.yield ((x.1,a)::cs)):Sem (ForInStep (List (Str×Addr))))else pure (ForInStep.yield cs)))=(pure (c8 env.cells names acc):Sem (List (Str×Addr))):=by
  intro names;induction names with
  |nil=>intro acc _;rfl
  |cons p r ih=>
   intro acc hh;obtain⟨n,k⟩:=p;rw[XY];have ih':=ih;by_cases hk:(k==NameKind.free)=true
   . obtain⟨c,e⟩:=hh (n,k) Ua (by simpa using hk);simp only[hk,Wt]
     have e1:cellOf env n=pure c:=by
      unfold cellOf;rw[e]
     rw[e1];simp only[pure_bind];rw[ih _ λ x hx=>hh x (TY _ hx)];conv=>rhs;unfold c8
     simp only[hk,Wt];rw[show env.cells.lookup n=some c from e]
   . have hk':(k==NameKind.free)=false:=by simpa using hk
     simp only[hk',V_,WD,pure_bind];rw[ih _ λ x hx=>hh x (TY _ hx)];conv=>rhs;unfold c8
     simp only[hk',V_,WD]
 unfold closureFor;have:=key scope.names [] h;rw[bind_pure]
 first
  |exact this
  |(simp only[bind_pure]at this⊢;exact this)
end L3
namespace L3
open PySem PySem.Spec L2
open PyProof.Rows hiding St
theorem iW(env:Env):∀(names:List (Str×NameKind)) (x:Str),
 (names.map λ(n,k)=>if(k==NameKind.free&&env.scope.kind== .function&&env.kindOf n==some .cell)then(n,NameKind.cell)else(n,k)).lookup x=
   (names.lookup x).map λ k=>if(k==NameKind.free&&env.scope.kind== .function&&env.kindOf x==some .cell)then NameKind.cell else k
 | [],_=>rfl
 |(n,k)::r,x=>by
  show List.lookup x ((if(k==NameKind.free&&env.scope.kind== .function&&env.kindOf n==some .cell)=true then(n,NameKind.cell)else(n,k))::_)=_;cases hx:x==n with
  |true=>
   have e:x=n:=by simpa using hx
   subst e;by_cases hc:(k==NameKind.free&&env.scope.kind== .function&&env.kindOf x==some .cell)=true
   . rw[TC hc];simp only[Uw,WU,Wa];rw[TC hc]
   . rw[Tv hc];simp only[Uw,WU,Wa];rw[Tv hc]
  |false=>
   by_cases hc:(k==NameKind.free&&env.scope.kind== .function&&env.kindOf n==some .cell)=true
   . rw[TC hc];simp only[Uw,hx];exact iW env r x
   . rw[Tv hc];simp only[Uw,hx];exact iW env r x
theorem zQ{env:Env}{scope:Scope}{x:Str}(h:scope.names.lookup x=some .free):(relabel scope env).names.lookup x=some .cell\/(relabel scope env).names.lookup x=some .free:=by
 have e:(relabel scope env).names.lookup x=_:=iW env scope.names x;rw[e,h];simp only[Wa];split
 . exact .inl rfl
 . exact .inr rfl
theorem zL{env:Env}{scope:Scope}{x:Str}(h:(relabel scope env).names.lookup x=some .cell\/(relabel scope env).names.lookup x=some .free):(x,NameKind.free)∈scope.names\/scope.names.lookup x=some .cell:=by
 have e:(relabel scope env).names.lookup x=_:=iW env scope.names x;rw[e]at h;cases q:scope.names.lookup x with
 |none=>rw[q]at h;rcases h with h|h<;>cases h
 |some k=>
  rw[q]at h;simp only[Wa]at h;have m:=Ux q;by_cases hc:(k==NameKind.free&&env.scope.kind== .function&&env.kindOf x==some .cell)=true
  . have:k= .free:=by
     simp only[Ub]at hc;simpa using hc.1.1
    subst this;exact .inl m
  . rw[Tv hc]at h;rcases h with h|h
    . cases h;exact .inr rfl
    . cases h;exact .inl m
theorem fT:∀(names:List (Str×NameKind)) (L:Nat) (acc:List (Str×Addr)),cellsFrom L names acc=cellsFrom L names []++acc
 | [],_,_=>rfl
 |(n,k)::r,L,acc=>by
  unfold cellsFrom;by_cases hk:(k==NameKind.cell)=true
  . rw[TC hk,TC hk,fT r (L+1) ((n,L)::acc),fT r (L+1) [(n,L)],VH];rfl
  . rw[Tv hk,Tv hk];exact fT r L acc
theorem r9:∀ {names:List (Str×NameKind)} {L:Nat} {x:Str} {c:Addr},(x,c)∈cellsFrom L names []->(x,NameKind.cell)∈names
 | [],_,_,_,h=>by unfold cellsFrom at h;cases h
 |(n,k)::r,L,x,c,h=>by
  unfold cellsFrom at h;by_cases hk:(k==NameKind.cell)=true
  . rw[TC hk,fT]at h;have hk':k= .cell:=by simpa using hk
    subst hk';rcases Uh.mp h with h|h
    . exact TY _ (r9 h)
    . have:(x,c)=(n,L):=by simpa using h
      cases this;exact Ua
  . rw[Tv hk]at h;exact TY _ (r9 h)
theorem pJ:∀ {l1 l2:List (Str×Addr)} {x:Str} {c:Addr},(l1++l2).lookup x=some c->l1.lookup x=some c\/(l1.lookup x=none/\l2.lookup x=some c)
 | [],_,_,_,h=> .inr ⟨rfl,h⟩
 |(n,d)::l1,l2,x,c,h=>by
  rw[List.cons_append,Uw]at h;rw[Uw];cases hx:x==n with
  |true=>rw[hx]at h;exact .inl h
  |false=>rw[hx]at h;exact pJ h
theorem uz:∀ {l1 l2:List (Str×Addr)} {x:Str},l1.lookup x=none->(l1++l2).lookup x=l2.lookup x
 | [],_,_,_=>rfl
 |(n,d)::l1,l2,x,h=>by
  rw[Uw]at h;rw[List.cons_append,Uw];cases hx:x==n with
  |true=>rw[hx]at h;cases h
  |false=>rw[hx]at h;exact uz h
def lu(scope:Scope)(C:Addr)(cl:List (Str×Addr)):List (Str×Addr):=cellsFrom (C+1) scope.names cl
theorem iN{scope:Scope}{C:Addr}{cl:List (Str×Addr)}{x:Str}{c:Addr}(h:(lu scope C cl).lookup x=some c):(x,c)∈cellsFrom (C+1) scope.names []\/cl.lookup x=some c:=by
 unfold lu at h;rw[fT]at h;rcases pJ h with h|h
 . exact .inl (Ux h)
 . exact .inr h.2
theorem M9(names:List (Str×NameKind))(h:Heap){C:Addr}(e:h.objs.size=C+1):CellsOk (pushCells h names) (C+1) (cellsFrom (C+1) names []):=by
 have:=cellsFrom_ok names h (C+1) [] ⟨λ _ _ hm=>(nomatch hm),List.Pairwise.nil⟩ (by rw[e];exact Tu _);rw[e]at this;exact this
theorem nC{names:List (Str×NameKind)}{C:Addr}{x:Str}{c:Addr}:∀ {L:Nat},C<=L->(x,c)∈cellsFrom L names []->C<=c:=by
 induction names with
 |nil=>intro L _ h;unfold cellsFrom at h;cases h
 |cons p r ih=>
  obtain⟨n,k⟩:=p;intro L hL h;unfold cellsFrom at h;by_cases hk:(k==NameKind.cell)=true
  . rw[TC hk,fT]at h;rcases Uh.mp h with h|h
    . exact ih (TB hL (Xj L)) h
    . have:(x,c)=(n,L):=by simpa using h
      cases this;exact hL
  . rw[Tv hk]at h;exact ih hL h
theorem own_apart{names:List (Str×NameKind)}{x y:Str}{c:Addr}:∀ {L:Nat},(x,c)∈cellsFrom L names []->(y,c)∈cellsFrom L names []->x=y:=by
 induction names with
 |nil=>intro L h;unfold cellsFrom at h;cases h
 |cons p r ih=>
  obtain⟨n,k⟩:=p;intro L h1 h2;unfold cellsFrom at h1 h2;by_cases hk:(k==NameKind.cell)=true
  . rw[TC hk,fT]at h1 h2;rcases Uh.mp h1 with g1|g1<;>rcases Uh.mp h2 with g2|g2
    . exact ih g1 g2
    . have e2:(y,c)=(n,L):=by simpa using g2
      have ec:c=L:=(X9 e2).2;have:=nC (C:=L+1) (Tu _) g1;rw[ec]at this;exact absurd this (Nat.not_succ_le_self _)
    . have e1:(x,c)=(n,L):=by simpa using g1
      have ec:c=L:=(X9 e1).2;have:=nC (C:=L+1) (Tu _) g2;rw[ec]at this;exact absurd this (Nat.not_succ_le_self _)
    . have e1:(x,c)=(n,L):=by simpa using g1
      have e2:(y,c)=(n,L):=by simpa using g2
      exact(X9 e1).1.trans (X9 e2).1.symm
  . rw[Tv hk]at h1 h2;exact ih h1 h2
theorem uA{M:Model}{A:Around}{E:Value->Shared->Prop}{s:Shared}{scope:Scope}{globals:Addr}{cl:List (Str×Addr)}{qual:Str}{env:Env}{Q:Env->Shared->Prop}
 (hQ:Q (newEnv scope s.heap.objs.size globals (lu scope s.heap.objs.size cl) qual none .none (some env) builtinsNs) {s with heap:=pushCells (s.heap.push {cls:= .type "dict",data:= .dict #[]}) scope.names}):
 wpAny M A (newFunctionEnv scope globals cl [] qual none .none (some env)) Q E s:=by
 simp only[newFunctionEnv,Option.isSome_some,Wt];refine Tr (wpAny_alloc ?_);refine Tr (wpAny_layCells _ (λ name kind cells=>by cases hkc:kind==NameKind.cell<;>simp[hkc]) _ _ _ _ ?_);rw[show({s with heap:=s.heap.push {cls:= .type "dict",data:= .dict #[]}}:Shared).heap.objs.size=s.heap.objs.size+1 from U9 ..];rw[Yj];exact Tr (TH (TH hQ))
structure cT(X:Cx)(scope:Scope)(Nc:List Str)(fr:List (Option Nat)):Prop where
 kind:scope.kind= .function
 cells:∀x∈scope.names,x.2= .cell->scope.names.lookup x.1=some .cell
 names:∀x∈scope.names,x.2= .local->scope.names.lookup x.1=some .local
 free:∀x∈scope.names,x.2= .free->X.env.kindOf x.1=some .cell\/X.env.kindOf x.1=some .free
 len:fr.length=Nc.length
 map:∀(i j:Nat) (x:Str),Nc[i]?=some x->fr[i]?=some (some j)->X.N[j]?=some x/\scope.names.lookup x=some .free/\(X.env.kindOf x=some .cell\/X.env.kindOf x=some .free)
def σC(fr:List (Option Nat))(σ:St):St:=fr.map λ o=>o.bind λ j=>(σ[j]?).join
def cn(X:Cx)(scope:Scope)(Nc:List Str)(C:Addr)(s:Shared)(H:Hp)(ex:List Addr):Cx:=
 {X with N:=Nc,s₀:=s,H₀:=H,env:=compEnvC scope (lu scope C (c8 X.env.cells scope.names [])) C X.env,outer:=X.stack,stack:=X.stack,ex:=ex,fn:=λ x=>scope.names.lookup x==some .cell,pn:=[],xe:=λ _ _=>False}
def tD(wi:TI)(fr:List (Option Nat))(g:TG)(c:TT)(te:TE):TE:=λ σ H Q=>wi σ H λ J H1=>∀l,H1 l=none->
 ∃W:Nat->Nat->L2.St->Hp->Prop,(∃m,W 0 m (σC fr σ) (upd H1 l (.lst [])))/\∀i m σ H,W i m σ H->
  (J.stop i H/\Q (.ref l) H)\/(J.go i H/\∃N:L2.St->Hp->Prop,(∀σ' H',N σ' H'->∃m',m'<m/\W (i+1) m' σ' H')/\∀x H',J.pE i H x H'->
    g x σ H' λ σ2 H2=>c σ2 H2 λ b H3=>if b=true then te σ2 H3 λ y H4=>∃ys,H4 l=some (.lst ys)/\ys.length<sizeLine/\N σ2 (upd H4 l (.lst (ys++[y])))else N σ2 H3)
def su(X:Cx)(ifs:List Expr)(t:TT):Prop:=
 ∀(pins:List (Addr×Obj)) (s:Shared) (σ:St) (H:Hp) (Q:Bool->Hp->Prop),Inv X pins σ H s->t σ H Q->
  wpAny (model X.prog X.w) X.A (forIn ifs true λ c r=>if r=true then do let ok <-isTrue c X.env (eval c X.env);pure (ForInStep.yield ok)else pure (ForInStep.yield r)) (TP X pins σ Q) X.xe s
def QT:TT:=λ _ H Q=>Q true H
theorem Mq{X:Cx}:su X [] QT:=λ _ _ _ H _ I h=>wpAny_tests_nil ⟨H,I,h⟩
theorem L8{X:Cx}{c:Expr}{t:TT}(h:PT X c t):su X [c] t:=λ pins s σ H Q I q=>wpAny_tests_one (h pins s σ H Q I q)
section
variable {X:Cx}{scope:Scope}{Nc:List Str}{fr:List (Option Nat)}{pins:List (Addr×Obj)}{σ:St}{H:Hp}{s:Shared}
theorem Oo{C:Addr}{fp:List Addr}(S:cT X scope Nc fr)(I:Inv X pins σ H s)(hC:C=s.heap.objs.size)(hf:∀b∈fp,kU X pins H b)(hlt:∀b∈fp,b<s.heap.objs.size)(hnc:∀b∈fp,∀x c,X.env.cells.lookup x=some c->c≠b):
 (cn X scope Nc C s H fp).Ok where
 mod:=I.ok.mod
 kind:=S.kind
 glob:=I.ok.glob
 blt:=I.ok.blt
 above:=W0 hC.symm
 inj:=λ x y c h1 h2=>by
  have low:∀ {z},(c8 X.env.cells scope.names []).lookup z=some c->c<s.heap.objs.size:=λ{z} hz=>by
   obtain⟨v,q⟩:=I.cell z c (cP _ [] (λ _ _ e=>by cases e) z c hz);exact q.lt
  rcases iN h1 with h1|h1<;>rcases iN h2 with h2|h2
  . exact own_apart h1 h2
  . have a:=nC (C:=C+1) (Tu _) h1;have b:c<C:=by rw[hC];exact low h2
    exact absurd a (Nat.not_le_of_gt (UA b))
  . have a:=nC (C:=C+1) (Tu _) h2;have b:c<C:=by rw[hC];exact low h1
    exact absurd a (Nat.not_le_of_gt (UA b))
  . exact I.ok.inj x y c (cP _ [] (λ _ _ e=>by cases e) x c h1) (cP _ [] (λ _ _ e=>by cases e) y c h2)
 has:=λ x hx=>by
  rcases zL hx with m|m
  . obtain⟨c,e⟩:=iy scope.names [] (I.ok.has x (S.free _ m rfl)) (.inl m);exact V3.mp (VO _ _ _ (.inr (by rw[e];rfl)))
  . exact V3.mp (VO _ _ _ (.inl m))
 AX:=λ x c hf h=>by
  have hl:scope.names.lookup x=some .cell:=by
   have:(scope.names.lookup x==some .cell)=true:=hf;simpa using this
  obtain⟨c',e⟩:=V3.mp (VO (x:=x) scope.names (C+1) [] (.inl hl))
  have h':(cellsFrom (C+1) scope.names []++c8 X.env.cells scope.names []).lookup x=some c:=by
   rw[<-fT];exact h
  rcases pJ h' with q|q
  . have:=nC (C:=C+1) (Tu _) (Ux q);show s.heap.objs.size<=c;rw[<-hC];exact XA this
  . rw[q.1]at e;cases e
 hd:=I.ok.hd
 frames:=I.ok.frames
 CI:= .inl rfl
 Fq:=λ b hb=>⟨by rw[show(cn X scope Nc C s H fp).env.locals=s.heap.objs.size from hC];exact Ue (hlt b hb),λ x c h=>by
  rcases iN h with h|h
  . have a:=nC (C:=C+1) (Tu _) h;have b':b<C:=by rw[hC];exact hlt b hb
    exact VR (T8 b' (XA a))
  . exact hnc b hb x c (cP _ [] (λ _ _ e=>by cases e) x c h)⟩
 bs:=I.bs
 sQ:=TB I.ok.sQ I.sz
 u9:=λ b o e hb=>by
  have hn:=(hf b hb).2.2.2.1;rcases hn with hn|hn
  . exact I.ok.u9 b o e hn
  . exact absurd (TN (I.ok.bs b o e).1) (Nat.not_lt.mpr hn)
 uH:=λ b hb z=>by
  have q:=I.AD b z;rcases TU.mp q with q|q
  . exact(hf b hb).2.1 q
  . exact(hf b hb).2.2.1 q
 j_:=I.stack
 vM:=λ b hb=>I.wL b hb
 gt:=I.ok.gt
theorem CZ{i:Nat}{v:V}(h:(σC fr σ)[i]?=some (some v)):∃j,fr[i]?=some (some j)/\σ[j]?=some (some v):=by
 unfold σC at h;rw[T7]at h;cases q:fr[i]? with
 |none=>rw[q]at h;cases h
 |some o=>
  rw[q]at h;cases o with
  |none=>simp at h
  |some j=>
   simp only[Wa,Option.some.injEq,Option.bind_some]at h;refine⟨j,rfl,?_⟩;cases r:σ[j]? with
   |none=>rw[r]at h;cases h
   |some u=>rw[r]at h;simp at h;rw[h]
theorem Ip{s':Shared}{h':Heap}{C:Addr}{fp:List Addr}{t':Nat}(S:cT X scope Nc fr)(I:Inv X pins σ H s)(hC:C=s.heap.objs.size)(ok:(cn X scope Nc C s H fp).Ok)(hfr:∀b∈fp,H b=none)
 (k:∀b o,s.heap.get? b=some o->h'.get? b=some o) (hn:h'.Ns C (λ _=>none)) (hcs:∀x c,(x,c)∈cellsFrom (C+1) scope.names []->h'.IsCell c none):Inv (cn X scope Nc C s H fp) [] (σC fr σ) H {s with heap:=h',toks:=t'} where
 ok:=ok
 os:=rfl
 bare:=I.bare
 base:=Un.kept k
 loc:=⟨_,hn,λ i x v h1 h2 h3=>by
  obtain⟨j,q1,q2⟩:=CZ h2;obtain⟨n1,n2,n3⟩:=S.map i j x h1 q1;obtain⟨m,hm,hl⟩:=I.loc
  have vis:Ad X.env.scope x:=by
   rcases n3 with z|z
   . exact .inr (.inl z)
   . exact .inr (.inr z)
  obtain⟨u,r,lk⟩:=hl j x v n1 q2 vis;refine⟨u,r,?_⟩;rcases lk with⟨z,_⟩|⟨z,c,e,ic⟩
  . rcases n3 with y|y
    . rw[y]at z;cases z
    . rw[y]at z;cases z
  . refine .inr ⟨zQ n2,?_⟩;obtain⟨c',e'⟩:=iy scope.names [] ⟨c,e⟩ (.inl (Ux n2));have e2:=cP _ [] (λ _ _ e=>by cases e) x c' e';rw[e]at e2;cases e2;refine⟨c,?_,ic.keeps k⟩;show(lu scope C (c8 X.env.cells scope.names [])).lookup x=some c;unfold lu;rw[fT,uz ?_]
    . exact e'
    . cases q:(cellsFrom (C+1) scope.names []).lookup x with
      |none=>rfl
      |some c2=>
       have:=S.cells _ (r9 (Ux q)) rfl;rw[n2]at this;cases this⟩
 cell:=λ x c h=>by
  rcases iN h with h|h
  . exact⟨_,hcs x c h⟩
  obtain⟨v,q⟩:=I.cell x c (cP _ [] (λ _ _ e=>by cases e) x c h);exact⟨v,q.keeps k⟩
 free:=by show H C=none;rw[hC];exact I.aF.fresh (Tu _)
 ig:=λ x c h=>by
  rcases iN h with h|h
  . have a:=nC (C:=C+1) (Tu _) h;exact I.aF.fresh (by rw[<-hC];exact XA a)
  . exact I.ig x c (cP _ [] (λ _ _ e=>by cases e) x c h)
 pin:=λ p hp=>by cases hp
 aF:=I.aF.kept k
 len:=by unfold σC;rw[Tw];exact S.len
theorem Inv.forget{C:Addr}{h':Heap}(I:Inv X pins σ H s)(f:kU X pins H C)(hs:Heap.SameBut C s.heap h'):Inv X pins σ H {s with heap:=h'}:=by
 refine I.Ez (s':={s with heap:=h'}) (ch:=[C]) rfl ?_ ?_ I.bare λ b hb=>?_
 . have ne:∀b,b∉[C]->b≠C:=λ b hb z=>hb (by simp[z]);exact{keep:=λ b o q _ _ hx=>(hs.2 b (ne b hx)).trans q,slot:=λ b o q _ _ hx=>⟨o.slots,(hs.2 b (ne b hx)).trans q⟩,free:=λ b o q n _=>n,there:=λ b o q hx=>⟨o,(hs.2 b (ne b hx)).trans q⟩,ou:=λ _ _ e=>e,nj:=λ _ _ _ e=>e,nk:=λ b ps e=>⟨#[],by rw[e];simp⟩}
 . intro a o q;have na:∀b u,H b=some u->b≠C:=λ b u q z=>by rw[z,f.1]at q;cases q
   refine(I.aF a o q).oq (λ b u hb e=>?_) (λ _ q=>q) λ _ _ q=>q;rw[hs.2 b ?_]
   . exact e
   . rcases hb with rfl|hb
     . exact na _ _ q
     . exact na _ _ hb
 . have:b=C:=by simpa using hb
   subst this;exact⟨f.2.2.2.1,f.2.1,f.2.2.2.2.1,f.2.2.2.2.2⟩
theorem vA{elt tg iter:Expr}{ifs:List Expr}{wi:TI}{g:TG}{c:TT}{te:TE}{pos:Pos}{Q:VK}{RR:Value->Addr->Result->Shared->Prop}(hx:X.xe=λ _ _=>False)(hc:X.calm=true)(S:cT X scope Nc fr)(hi:PI X tg iter wi)
 (hg:∀C s H ex,PG (cn X scope Nc C s H ex) tg g) (ht:∀C s H ex,su (cn X scope Nc C s H ex) ifs c) (he:∀C s H ex,PE (cn X scope Nc C s H ex) elt te) (I:Inv X pins σ H s) (h:tD wi fr g c te σ H Q)
 (fin:∀(l C:Addr) (s6:Shared) (H5:Hp) (m:Str->Option Value),s6.heap.Ns C m->kU X pins H5 C->Inv X pins σ H5 s6->Q (.ref l) H5->RR (.ref l) C (.ok .next) s6):
 wpAny (model X.prog X.w) X.A (eval iter X.env) (λ x s₁=>wpAny (model X.prog X.w) X.A (pyIter x) (λ it s₂=>wpAny (model X.prog X.w) X.A (newList []) (λ acc s₃=>
  wpAny (model X.prog X.w) X.A (newFunctionEnv scope X.env.globals (c8 X.env.cells scope.names []) [] X.env.qual none .none (some X.env)) (λ cenv s₄=>
   codeAny (model X.prog X.w) X.A (.compStart (.ListComp elt [⟨tg,iter,ifs,0⟩] scope pos) 0 it acc {cenv with scope:=relabel scope X.env}) (RR acc cenv.locals) s₄) X.xe s₃) X.xe s₂) X.xe s₁) X.xe s:=by
 refine bP (hi pins s σ H _ I h) λ v s1 h1=>bP h1 λ itv s2 h2=>?_;obtain⟨it,fp,tn,J,H2,e,I2,T,st2,f2,hR⟩:=h2;subst e;refine Yu ?_ (T4 _);have I3:=I2.IP (t':=s2.toks) (ai:=[]) (ys:=[]) .nil (T4 _);generalize e3:({s2 with heap:=s2.heap.push {cls:= .type "list",data:= .seq ([]:List Value).toArray}}:Shared)=s3;have I3:Inv X pins σ (upd H2 s2.heap.objs.size (.lst [])) s3:=by rw[<-e3];exact I3
 have ml:s2.heap.objs.size<s3.heap.objs.size:=by rw[<-e3];show _<(s2.heap.push _).objs.size;rw[U9];omega
 have k3:∀b o,s2.heap.get? b=some o->s3.heap.get? b=some o:=λ b o q=>by rw[<-e3];exact Tz _ q
 obtain⟨W,⟨m0,w0⟩,turn⟩:=hR s2.heap.objs.size (I2.aF.fresh (Tu _));refine uA ?_;have hn:(pushCells (s3.heap.push {cls:= .type "dict",data:= .dict #[]}) scope.names).Ns s3.heap.objs.size (λ _=>none):=(Heap.Ns.new s3.heap (.type "dict")).keeps (pushCells_keeps _ _);have hcs:∀x c,(x,c)∈cellsFrom (s3.heap.objs.size+1) scope.names []->(pushCells (s3.heap.push {cls:= .type "dict",data:= .dict #[]}) scope.names).IsCell c none:=λ x c h=>((M9 scope.names _ (U9 ..)).empty x c h).1;have k4:∀b o,s3.heap.get? b=some o->(pushCells (s3.heap.push {cls:= .type "dict",data:= .dict #[]}) scope.names).get? b=some o:=λ b o q=>pushCells_keeps _ _ b o (Tz _ q);generalize(pushCells (s3.heap.push {cls:= .type "dict",data:= .dict #[]}) scope.names)=h' at hn hcs k4⊢;have hobj:∀b∈fp,∃o,s2.heap.get? b=some o/\∀v,o.data≠ .cell v:=T.obj _ _ st2;have hlt2:∀b∈fp,b<s3.heap.objs.size:=λ b hb=>let⟨o,q,_⟩:=hobj b hb;TN (k3 b o q)
 have hnl:∀b∈fp,b≠s2.heap.objs.size:=λ b hb=>by
  obtain⟨o,q,_⟩:=hobj b hb;exact Ue (TN q)
 have f3:∀b∈fp,kU X pins (upd H2 s2.heap.objs.size (.lst [])) b:=λ b hb=>⟨by rw[aw (hnl b hb)];exact(f2 b hb).1,(f2 b hb).2⟩
 have ok:=Oo (C:=s3.heap.objs.size) (fp:=fp) S I3 rfl f3 hlt2 λ b hb=>(f2 b hb).2.2.2.2.1
 have I4:Inv (cn X scope Nc s3.heap.objs.size s3 (upd H2 s2.heap.objs.size (.lst [])) fp) [] (σC fr σ) (upd H2 s2.heap.objs.size (.lst [])) {s3 with heap:=h',toks:=s3.toks}:=
  Ip (s':=s3) S I3 rfl ok (λ b hb=>(f3 b hb).1) k4 hn hcs
 have st4:tn 0 h':=T.keep _ _ _ st2 λ b _ o q=>k4 b o (k3 b o q);generalize hXc:cn X scope Nc s3.heap.objs.size s3 (upd H2 s2.heap.objs.size (.lst [])) fp=Xc at I4;have hgc:PG Xc tg g:=by rw[<-hXc];exact hg _ _ _ _
 have htc:su Xc ifs c:=by rw[<-hXc];exact ht _ _ _ _
 have hec:PE Xc elt te:=by rw[<-hXc];exact he _ _ _ _
 have xP:Xc.prog=X.prog:=by rw[<-hXc];rfl
 have xW:Xc.w=X.w:=by rw[<-hXc];rfl
 have xK:Xc.K=X.K:=by rw[<-hXc];rfl
 have xc:Xc.calm=true:=by rw[<-hXc];exact hc
 have xA:Xc.A=X.A:=by rw[<-hXc];rfl
 have xE:Xc.env=compEnvC scope (lu scope s3.heap.objs.size (c8 X.env.cells scope.names [])) s3.heap.objs.size X.env:=by rw[<-hXc];rfl
 have xx:Xc.xe=λ _ _=>False:=by rw[<-hXc];rfl
 have fpc:∀ {H':Hp},(∀b∈fp,H' b=none)->∀b∈fp,kU Xc [] H' b:=λ{H'} hn b hb=>by
  rw[<-hXc];refine⟨hn b hb,Ue (hlt2 b hb),ok.uH b hb,.inl hb,(ok.Fq b hb).2,λ p hp=>by cases hp⟩
 have loop:codeAny (model X.prog X.w) X.A (.compLoop (.ListComp elt [⟨tg,iter,ifs,0⟩] scope pos) 0 (.ref it) (.ref s2.heap.objs.size) (compEnvC scope (lu scope s3.heap.objs.size (c8 X.env.cells scope.names [])) s3.heap.objs.size X.env))
  (RR (.ref s2.heap.objs.size) s3.heap.objs.size) {s3 with heap:=h',toks:=s3.toks}:=by
  refine BR (λ n s'=>∃i σ' H',Inv Xc [] σ' H' s'/\tn i s'.heap/\(∀b∈fp,H' b=none)/\W i n σ' H') ?_ m0 ⟨0,_,_,I4,st4,λ b hb=>(f3 b hb).1,w0⟩;rintro n s5 ⟨i,σ5,H5,I5,st5,fr5,w5⟩;rcases turn i n σ5 H5 w5 with⟨stop,qn⟩|⟨go,N,hN,step⟩
  . have q:=T.done Xc xP xW xK xc i [] s5 σ5 H5 (λ _ _=>False) I5 (fpc fr5) st5 stop;rw[xA]at q;refine bP q λ r s6 ⟨hr,I6⟩=>?_;subst hr;obtain⟨m,hm,_⟩:=I6.loc;rw[xE]at hm;have free6:H5 s3.heap.objs.size=none:=by have:=I6.free;rw[xE]at this;exact this
    have un6:Un (oP X.stack) fp (upd H2 s2.heap.objs.size (.lst [])) H5 s3.heap s6.heap:=by have:=I6.base;rw[<-hXc]at this;exact this
    have os6:s6.os=s3.os:=by have:=I6.os;rw[<-hXc]at this;exact this
    have hok6:gX X.prog X.w H5 s6.heap:=by have:=I6.aF;rw[xP,xW]at this;exact this
    have J:=I3.Ez (s':=s6) (ch:=fp) os6 un6 hok6 I6.bare λ b hb=>⟨(f3 b hb).2.2.2.1,(f3 b hb).2.1,(f3 b hb).2.2.2.2.1,(f3 b hb).2.2.2.2.2⟩
    exact fin _ _ s6 H5 m hm (I3.wX (Tu _) free6) J qn
  . have q:=T.item Xc xP xW xK xc i [] s5 σ5 H5 (λ _ _=>False) I5 (fpc fr5) st5 go;rw[xA]at q;refine bP q λ r s6 ⟨u,hr,h6⟩=>?_;subst hr;refine bP h6 λ _ s7 ⟨x,H7,I7,r7,y7,st7,fr7⟩=>?_;have I7':=I7.pinned (fpc fr7) (T.obj _ _ st7);have q8:=hgc _ s7 σ5 H7 x u _ I7' r7 (step x H7 y7);rw[xP,xW,xA,xE,xx]at q8;refine bP q8 λ _ s8 ⟨σ8,H8,I8,q8⟩=>?_;have q9:=htc _ s8 σ8 H8 _ I8 q8;rw[xP,xW,xA,xE,xx]at q9;refine bP q9 λ b s9 ⟨H9,I9,q9⟩=>?_
    have again:∀ {H':Hp} {s':Shared},Inv Xc ([]++sv fp s7.heap) σ8 H' s'->N σ8 H'->∃m,m<n/\∃i σ' H',Inv Xc [] σ' H' s'/\tn i s'.heap/\(∀b∈fp,H' b=none)/\W i m σ' H':=λ{H' s'} J nn=>by
     obtain⟨m',hm,w7⟩:=hN σ8 H' nn;refine⟨m',hm,i+1,σ8,H',J.gQ,T.keep _ _ _ st7 λ b hb o e=>(J.pin (b,o) (T9 _ (T9 _ (mM hb e)))).1,λ b hb=>?_,w7⟩;obtain⟨o,e,d⟩:=T.obj _ _ st7 b hb;exact(J.pin (b,o) (T9 _ (T9 _ (mM hb e)))).2.1
    cases b with
    |false=>exact again I9 q9
    |true=>
     have qe:=hec _ s9 σ8 H9 _ I9 q9;rw[xP,xW,xA,xE,xx]at qe;refine bP qe λ y s10 ⟨vy,H10,I10,ry,ys,hy,hlt,qN⟩=>?_;have qa:=yb (X:=Xc) _ s10 σ8 H10 (.ref s2.heap.objs.size) [vy] (.ref s2.heap.objs.size) [y] (λ _ H'=>N σ8 H') I10 rfl (.cons ry .nil) ⟨_,ys,vy,rfl,rfl,hy,hlt,qN⟩;rw[xP,xW,xA,xx]at qa;exact bP qa λ _ s11 ⟨_,H11,I11,_,q11⟩=>again I11 q11
 refine codeAny_compStart_list ?_ ?_
 . exact loop
 . exact T.self _ 0 _ _ _ st4 loop
theorem Dn{elt tg iter:Expr}{ifs:List Expr}{wi:TI}{g:TG}{c:TT}{te:TE}{pos:Pos}(hx:X.xe=λ _ _=>False)(hc:X.calm=true)(S:cT X scope Nc fr)(hi:PI X tg iter wi)
 (hg:∀C s H ex,PG (cn X scope Nc C s H ex) tg g) (ht:∀C s H ex,su (cn X scope Nc C s H ex) ifs c) (he:∀C s H ex,PE (cn X scope Nc C s H ex) elt te)
 (hs:∀x,foldedSetIterable iter X.env x=pure x:=by intro _;rfl):PE X (.ListComp elt [⟨tg,iter,ifs,0⟩] scope pos) (tD wi fr g c te):=by
 intro pins s σ H Q I h;rw[eval_ListComp];have hcl:closureFor scope X.env=pure (c8 X.env.cells scope.names []):=l_ λ x hx hk=>I.ok.has x.1 (S.free x hx hk);refine XN rfl hs hcl S.kind S.names ?_;exact vA (RR:=λ acc C=>compPost (model X.prog X.w) X.A X.xe none (EP X pins σ Q) acc C) hx hc S hi hg ht he I h λ l C s6 H5 m hm f J q=>⟨m,hm,λ h'' hs''=>⟨.ref l,H5,Inv.forget J f hs'',rfl,q⟩⟩
theorem Dd{elt tg iter:Expr}{ifs:List Expr}{wi:TI}{g:TG}{c:TT}{te:TE}{pos pos' spos:Pos}{i:Nat}{x:Str}(hx:X.xe=λ _ _=>False)(hc:X.calm=true)(S:cT X scope Nc fr)(hi:PI X tg iter wi)
 (hg:∀C s H ex,PG (cn X scope Nc C s H ex) tg g) (ht:∀C s H ex,su (cn X scope Nc C s H ex) ifs c) (he:∀C s H ex,PE (cn X scope Nc C s H ex) elt te) (hN:X.N.Nodup) (hni:X.N[i]?=some x) (hl:Loc X.env.scope x) (hf:X.fn x=true\/X.env.scope.names.lookup x=some .local)
 (hsw:swapsWith (.ListComp elt [⟨tg,iter,ifs,0⟩] scope pos) (some (.Name x pos')) spos.line X.env=pure true)
 (hs:∀x,foldedSetIterable iter X.env x=pure x:=by intro _;rfl):PS X (.Assign [.Name x pos'] (.ListComp elt [⟨tg,iter,ifs,0⟩] scope pos) spos) (l9 (tD wi fr g c te) (dA i)):=by
 intro pins s σ H D I h;have hcl:closureFor scope X.env=pure (c8 X.env.cells scope.names []):=l_ λ x hx hk=>I.ok.has x.1 (S.free x hx hk);rw[exec_Assign_Name_used _ _ _ _ hsw];refine Tr (Wr (Tr ?_));show wpAny _ X.A (do let _ <-comprehension (.ListComp elt [⟨tg,iter,ifs,0⟩] scope pos) scope X.env _ (newList []) false (eval iter X.env) (some (assign (.Name x pos') X.env))) _ _ s
 refine Tr (Vs (XN (use:=some (assign (.Name x pos') X.env)) (Q:=λ _ s'=>SP X pins D .next s') rfl hs hcl S.kind S.names
  (vA (RR:=λ acc C=>compPost (model X.prog X.w) X.A X.xe (some (assign (.Name x pos') X.env)) (λ _ s'=>SP X pins D .next s') acc C) hx hc S hi hg ht he I h λ l C s6 H5 m hm f J q=>?_)) (λ _ s' hq=>TH (TH hq)) λ _ _ e=>e)
 show wpAny _ X.A (assign (.Name x pos') X.env (.ref l)) _ _ _;refine wpAny_assign_Name (yx J hN hni hl (show RelV (.ref l) (.ref l)from rfl) (λ s7 J7 hch=>?_) hf);obtain⟨a,hsame,ha⟩:=hch
 have hCa:C≠a:=by
  rcases ha with rfl|ha
  . exact f.2.1
  . exact λ z=>f.2.2.2.2.1 x a ha z.symm
 refine⟨m,hm.sameBut hsame hCa,λ h'' hs''=>⟨σ.set i (some (.ref l)),H5,Inv.forget J7 f hs'',q⟩⟩
end
inductive D where
 |ax|bl (b:Bool)|int (i:Int)|str (x:Str)|ty (n:String)|ref (n:Nat)|lst (xs:List D)|tup (xs:List D)
inductive Cell where
 |lst (xs:List D)|ins (C:Addr) (fs:List (Str×D))|dead
  |tab (P:Addr) (pos:Pos) (qual:Str) (b:Bool)
abbrev ae:=List Cell
abbrev bF:=List (Option D)
mutual
def Rep(α:List (Option Addr))(H:Hp):D->V->Prop
 | .ax,v=>v= .ax
 | .bl b,v=>v= .bl b
 | .int i,v=>v= .int i
 | .str x,v=>v= .str x
 | .ty n,v=>v= .ty n
 | .ref n,v=>α[n]?=some none\/∃a,α[n]?=some (some a)/\v= .ref a
 | .lst xs,v=>∃a vs,v= .ref a/\some a∉α/\Rd H a (.lst vs)/\aD α H xs vs
 | .tup xs,v=>∃a vs,v= .ref a/\some a∉α/\H a=some (.tup vs)/\aD α H xs vs
def aD(α:List (Option Addr))(H:Hp):List D->List V->Prop
 | [],vs=>vs=[]
 |d::ds,vs=>∃v r,vs=v::r/\Rep α H d v/\aD α H ds r
end
theorem a8{α:List (Option Addr)}{H:Hp}:∀ {ds:List D} {vs:List V},aD α H ds vs↔Paired (Rep α H) ds vs
 | [],vs=>by
   unfold aD;constructor
   . rintro rfl;exact .nil
   . intro h;cases h;rfl
 |d::ds,vs=>by
  unfold aD;constructor
  . rintro⟨v,r,rfl,h1,h2⟩;exact .cons h1 (a8.mp h2)
  . intro h;cases h with|cons h1 h2=>exact⟨_,_,rfl,h1,a8.mpr h2⟩
section
variable {α:List (Option Addr)}{H:Hp}
theorem aD.length{ds:List D}{vs:List V}(h:aD α H ds vs):ds.length=vs.length:=Paired.length (a8.mp h)
theorem ve{A B:Type}{F:A->B->Prop}:∀ {xs:List A} {ys:List B} {i:Nat} {x:A},Paired F xs ys->xs[i]?=some x->∃y,ys[i]?=some y/\F x y
 |_,_,_,_,.nil,e=>by simp at e
 |_,_,0,_,.cons r _,e=>by simp at e;subst e;exact⟨_,rfl,r⟩
 |_,_,i+1,x,.cons _ t,e=>by
  obtain⟨u,h1,h2⟩:=ve (i:=i) (x:=x) t (by simpa using e);exact⟨u,by simpa using h1,h2⟩
theorem fL{A B:Type}{F:A->B->Prop}:∀ {xs xs':List A} {ys ys':List B},Paired F xs ys->Paired F xs' ys'->Paired F (xs++xs') (ys++ys')
 |_,_,_,_,.nil,s=>s
 |_,_,_,_,.cons r t,s=> .cons r (fL t s)
theorem tX{A B:Type}{F:A->B->Prop}:∀ {xs:List A} {ys:List B} (n:Nat),Paired F xs ys->Paired F (xs.take n) (ys.take n)
 |_,_,0,_=> .nil
 |_,_,_+1,.nil=> .nil
 |_,_,n+1,.cons r t=> .cons r (tX n t)
theorem uh{A B:Type}{F:A->B->Prop}:∀ {xs:List A} {ys:List B} (n:Nat),Paired F xs ys->Paired F (xs.drop n) (ys.drop n)
 |_,_,0,r=>r
 |_,_,_+1,.nil=> .nil
 |_,_,n+1,.cons _ t=>uh n t
theorem qi{A B:Type}{F:A->B->Prop}{x:A}{y:B}(r:F x y):∀ {xs:List A} {ys:List B} (i:Nat),Paired F xs ys->Paired F (xs.set i x) (ys.set i y)
 |_,_,_,.nil=> .nil
 |_,_,0,.cons _ t=> .cons r t
 |_,_,i+1,.cons q t=> .cons q (qi r i t)
theorem lj{A B:Type}{F:A->B->Prop}{xs:List A}{ys:List B}(h:Paired F xs ys):∀k:Nat,Paired F (List.replicate k xs).flatten (List.replicate k ys).flatten
 |0=> .nil
 |k+1=>by
  rw[Vk,Vk,VG,VG];exact fL h (lj h k)
theorem aD.get{ds:List D}{vs:List V}{i:Nat}{d:D}(h:aD α H ds vs)(e:ds[i]?=some d):∃v,vs[i]?=some v/\Rep α H d v:=ve (a8.mp h) e
end
structure Step(α:List (Option Addr))(H:Hp)(α':List (Option Addr))(H':Hp):Prop where
 ext:∀b o,some b∉α->H b=some o->H' b=some o
 pre:∀(n:Nat) (x:Option Addr),α[n]?=some x->α'[n]?=some x\/α'[n]?=some none
 new:∀b,some b∈α'->some b∉α->H b=none
theorem Step.refl{α:List (Option Addr)}{H:Hp}:Step α H α H:=⟨λ _ _ _ h=>h,λ _ _ h=> .inl h,λ _ h n=>absurd h n⟩
theorem Step.trans{α α1 α2:List (Option Addr)}{H H1 H2:Hp}(a:Step α H α1 H1)(b:Step α1 H1 α2 H2):Step α H α2 H2 where
 ext:=λ c o hc e=>b.ext c o (λ z=>by rw[a.new c z hc]at e;cases e) (a.ext c o hc e)
 pre:=λ n x e=>by
  rcases a.pre n x e with h|h
  . exact b.pre n x h
  . rcases b.pre n none h with h'|h'
    . exact .inr h'
    . exact .inr h'
 new:=λ c hc n=>by
  by_cases h1:some c∈α1
  . exact a.new c h1 n
  . have:=b.new c hc h1;cases q:H c with
    |none=>rfl
    |some o=>rw[a.ext c o n q]at this;cases this
theorem Step.laid{α:List (Option Addr)}{H:Hp}{p:Addr}{o:HO}(h:H p=none):Step α H α (upd H p o):=
 ⟨λ b u _ e=>by rw[aw (di e h)];exact e,λ _ _ h=> .inl h,λ _ h n=>absurd h n⟩
theorem Step.cell{α:List (Option Addr)}{H:Hp}{p:Addr}{o:HO}(h:H p=none):Step α H (α++[some p]) (upd H p o):=
 ⟨λ b u _ e=>by rw[aw (di e h)];exact e,λ n x e=> .inl (by rw[TF (Tt.mp e).1];exact e),λ b hb n=>by
  rcases Uh.mp hb with z|z
  . exact absurd z n
  . have:b=p:=by simpa using z
    subst this;exact h⟩
theorem Step.write{α:List (Option Addr)}{H:Hp}{p:Addr}{o:HO}(h:some p∈α):Step α H α (upd H p o):=
 ⟨λ b u n e=>by rw[aw (λ z=>by subst z;exact n h)];exact e,λ _ _ h=> .inl h,λ _ h n=>absurd h n⟩
theorem Step.e8{α:List (Option Addr)}{H:Hp}{n:Nat}:Step α H (α.set n none) H:=
 ⟨λ _ _ _ h=>h,λ m x e=>by
  by_cases hm:n=m
  . subst hm;exact .inr (TJ (Tt.mp e).1)
  . exact .inl (by rw[Tx hm];exact e),λ b hb hn=>by
  rcases UQ hb with z|z
  . exact absurd z hn
  . cases z⟩
mutual
theorem Rep.step{α α':List (Option Addr)}{H H':Hp}(s:Step α H α' H'):∀ {d:D} {v:V},Rep α H d v->Rep α' H' d v
 | .ax,_,h=>by unfold Rep at h⊢;exact h
 | .bl _,_,h=>by unfold Rep at h⊢;exact h
 | .int _,_,h=>by unfold Rep at h⊢;exact h
 | .str _,_,h=>by unfold Rep at h⊢;exact h
 | .ty _,_,h=>by unfold Rep at h⊢;exact h
 | .ref n,_,h=>by
   unfold Rep at h⊢;rcases h with h|⟨a,e,r⟩
   . rcases s.pre _ _ h with z|z<;>exact .inl z
   . rcases s.pre _ _ e with z|z
     . exact .inr ⟨a,z,r⟩
     . exact .inl z
 | .lst xs,_,h=>by
   unfold Rep at h⊢;obtain⟨a,vs,e,n,r,q⟩:=h;refine⟨a,vs,e,λ z=>?_,?_,aD.step s q⟩
   . have:=s.new a z n;rcases r with r|⟨o,r⟩<;>(rw[this]at r;cases r)
   . rcases r with r|⟨o,r⟩
     . exact .inl (s.ext _ _ n r)
     . exact .inr ⟨o,s.ext _ _ n r⟩
 | .tup xs,_,h=>by
   unfold Rep at h⊢;obtain⟨a,vs,e,n,r,q⟩:=h;exact⟨a,vs,e,(λ z=>by rw[s.new a z n]at r;exact nomatch r),s.ext _ _ n r,aD.step s q⟩
theorem aD.step{α α':List (Option Addr)}{H H':Hp}(s:Step α H α' H'):∀ {ds:List D} {vs:List V},aD α H ds vs->aD α' H' ds vs
 | [],_,h=>by unfold aD at h⊢;exact h
 |d::ds,_,h=>by
  unfold aD at h⊢;obtain⟨v,r,e,h1,h2⟩:=h;exact⟨v,r,e,Rep.step s h1,aD.step s h2⟩
end
structure bZ(G F H:Hp):Prop where
 eq:∀b,H b=(G b).or (F b)
 z_:∀b o,G b=some o->F b=none
section
variable {G F H:Hp}
theorem bZ.get(P:bZ G F H){b:Addr}{o:HO}(h:G b=some o):H b=some o:=by rw[P.eq b,h];rfl
theorem bZ.same(P:bZ G F H):H0 G H:=λ _ _ h=>P.get h
theorem bZ.none(P:bZ G F H){b:Addr}(h:H b=none):G b=none/\F b=none:=by
 have e:=P.eq b;rw[h]at e;cases q:G b with
 |none=>rw[q]at e;exact⟨rfl,e.symm⟩
 |some o=>rw[q]at e;cases e
theorem bZ.frame(P:bZ G F H){b:Addr}{o:HO}(h:F b=some o):H b=some o/\G b=Option.none:=by
 have hn:G b=Option.none:=by
  cases q:G b with
  |none=>rfl
  |some u=>rw[P.z_ b u q]at h;cases h
 exact⟨by rw[P.eq b,hn,h];rfl,hn⟩
theorem bZ.laid(P:bZ G F H){p:Addr}{o:HO}(h:H p=Option.none):bZ (upd G p o) F (upd H p o):=by
 obtain⟨h1,h2⟩:=P.none h;refine⟨λ b=>?_,λ b u e=>?_⟩
 . by_cases hb:b=p
   . subst hb;rw[aW,aW];rfl
   . rw[aw hb,aw hb];exact P.eq b
 . by_cases hb:b=p
   . subst hb;exact h2
   . rw[aw hb]at e;exact P.z_ b u e
theorem bZ.write(P:bZ G F H){p:Addr}{o o':HO}(h:G p=some o):bZ (upd G p o') F (upd H p o'):=by
 refine⟨λ b=>?_,λ b u e=>?_⟩
 . by_cases hb:b=p
   . subst hb;rw[aW,aW];rfl
   . rw[aw hb,aw hb];exact P.eq b
 . by_cases hb:b=p
   . subst hb;exact P.z_ b o h
   . rw[aw hb]at e;exact P.z_ b u e
theorem bZ.hide(P:bZ G F H){p:Addr}{o:HO}(h:H p=Option.none):bZ G (upd F p o) (upd H p o):=by
 obtain⟨h1,h2⟩:=P.none h;refine⟨λ b=>?_,λ b u e=>?_⟩
 . by_cases hb:b=p
   . subst hb;rw[aW,aW,h1];rfl
   . rw[aw hb,aw hb];exact P.eq b
 . by_cases hb:b=p
   . subst hb;rw[h1]at e;cases e
   . rw[aw hb];exact P.z_ b u e
theorem bZ.E2(P:bZ G F H){p:Addr}{o o':HO}(h:F p=some o):bZ G (upd F p o') (upd H p o'):=by
 have h1:=(P.frame h).2;refine⟨λ b=>?_,λ b u e=>?_⟩
 . by_cases hb:b=p
   . subst hb;rw[aW,aW,h1];rfl
   . rw[aw hb,aw hb];exact P.eq b
 . by_cases hb:b=p
   . subst hb;rw[h1]at e;cases e
   . rw[aw hb];exact P.z_ b u e
theorem bZ.show{p:Addr}{o:HO}(P:bZ G (upd F p o) H)(h:F p=Option.none):bZ (upd G p o) F H:=by
 have h1:=(P.frame (b:=p) aW)
 refine⟨λ b=>?_,λ b u e=>?_⟩
 . by_cases hb:b=p
   . subst hb;rw[aW,h1.1];rfl
   . rw[aw hb,P.eq b,aw hb]
 . by_cases hb:b=p
   . subst hb;exact h
   . rw[aw hb]at e;have:=P.z_ b u e;rw[aw hb]at this;exact this
end
mutual
theorem Rep.mono{α:List (Option Addr)}{G H:Hp}(s:H0 G H):∀ {d:D} {v:V},Rep α G d v->Rep α H d v
 | .ax,_,h=>by unfold Rep at h⊢;exact h
 | .bl _,_,h=>by unfold Rep at h⊢;exact h
 | .int _,_,h=>by unfold Rep at h⊢;exact h
 | .str _,_,h=>by unfold Rep at h⊢;exact h
 | .ty _,_,h=>by unfold Rep at h⊢;exact h
 | .ref n,_,h=>by unfold Rep at h⊢;exact h
 | .lst xs,_,h=>by
   unfold Rep at h⊢;obtain⟨a,vs,e,n,r,q⟩:=h;refine⟨a,vs,e,n,?_,aD.mono s q⟩;rcases r with r|⟨o,r⟩
   . exact .inl (s _ _ r)
   . exact .inr ⟨o,s _ _ r⟩
 | .tup xs,_,h=>by
   unfold Rep at h⊢;obtain⟨a,vs,e,n,r,q⟩:=h;exact⟨a,vs,e,n,s _ _ r,aD.mono s q⟩
theorem aD.mono{α:List (Option Addr)}{G H:Hp}(s:H0 G H):∀ {ds:List D} {vs:List V},aD α G ds vs->aD α H ds vs
 | [],_,h=>by unfold aD at h⊢;exact h
 |d::ds,_,h=>by
  unfold aD at h⊢;obtain⟨v,r,e,h1,h2⟩:=h;exact⟨v,r,e,Rep.mono s h1,aD.mono s h2⟩
end
def jF(α:List (Option Addr))(H:Hp):List (Str×D)->List (Str×V)->Prop:=Paired λ p q=>p.1=q.1/\Rep α H p.2 q.2
def j7(α:List (Option Addr))(H:Hp)(a:Addr):Cell->Prop
 | .lst xs=>∃vs,H a=some (.lst vs)/\aD α H xs vs
 | .ins C fs=>∃dx vs,H a=some (.ins C dx vs)/\jF α H fs vs
 | .dead=>False
 | .tab P pos qual b=>a=P/\∃ps:Array Value,H a=some (.jV ps)/\TriplesOk ps.toList/\
    ((b=false/\codeAmong pos ps.toList=none)\/(b=true/\∃c o vs t,codeAmong pos ps.toList=some (.ref c)/\some c∉α/\H c=some (.e8 o (.own c))/\o.data= .fields vs/\vs[1]?=some (.str qual t)))
structure aM(α:List (Option Addr))(st:ae)(H:Hp):Prop where
 len:α.length=st.length
 nd:∀(i j:Nat) (a:Addr),α[i]?=some (some a)->α[j]?=some (some a)->i=j
 at':∀(n:Nat) (c:Cell),st[n]?=some c->(c= .dead/\α[n]?=some none)\/∃a,α[n]?=some (some a)/\j7 α H a c
theorem jF.step{α α':List (Option Addr)}{H H':Hp}(s:Step α H α' H'){ds:List (Str×D)}{vs:List (Str×V)}(h:jF α H ds vs):jF α' H' ds vs:=Paired.Il h λ _ _ z=>⟨z.1,z.2.step s⟩
theorem j7.same{α α':List (Option Addr)}{H H':Hp}{a:Addr}{c:Cell}(s:Step α H α' H')(e:H' a=H a)(h:j7 α H a c):j7 α' H' a c:=by
 cases c with
 |lst xs=>obtain⟨vs,h1,h2⟩:=h;exact⟨vs,e.trans h1,h2.step s⟩
 |ins C fs=>obtain⟨dx,vs,h1,h2⟩:=h;exact⟨dx,vs,e.trans h1,h2.step s⟩
 |dead=>exact h.elim
 |tab P pos qual b=>
  obtain⟨z,ps,h1,h2,h3⟩:=h;refine⟨z,ps,e.trans h1,h2,?_⟩;rcases h3 with h3|⟨hb,c,o,vs,t,q1,q2,q3,q4⟩
  . exact .inl h3
  . exact .inr ⟨hb,c,o,vs,t,q1,(λ y=>by rw[s.new c y q2]at q3;cases q3),s.ext c _ q2 q3,q4⟩
theorem j7.some{α:List (Option Addr)}{H:Hp}{a:Addr}{c:Cell}(h:j7 α H a c):∃o,H a=some o:=by
 cases c with
 |lst xs=>obtain⟨vs,h1,h2⟩:=h;exact⟨_,h1⟩
 |ins C fs=>obtain⟨dx,vs,h1,h2⟩:=h;exact⟨_,h1⟩
 |dead=>exact h.elim
 |tab P pos qual b=>obtain⟨_,ps,h1,_⟩:=h;exact⟨_,h1⟩
theorem dX{α:List (Option Addr)}{H:Hp}{n:Nat}{v:V}{a:Addr}(e:α[n]?=Option.some (Option.some a))(r:Rep α H (.ref n) v):v= .ref a:=by
 unfold Rep at r;rcases r with r|⟨b,eb,rfl⟩
 . rw[e]at r;cases r
 . rw[e]at eb;cases eb;rfl
section
variable {α:List (Option Addr)}{st:ae}{H:Hp}
theorem aM.ib(S:aM α st H){n:Nat}{xs:List D}(e:st[n]?=Option.some (.lst xs)):∃a,α[n]?=Option.some (Option.some a)/\∃vs,H a=Option.some (.lst vs)/\aD α H xs vs:=by
 rcases S.at' n _ e with⟨z,_⟩|z
 . cases z
 . exact z
theorem aM.vP(S:aM α st H){n:Nat}{C:Addr}{fs:List (Str×D)}(e:st[n]?=Option.some (.ins C fs)):∃a,α[n]?=Option.some (Option.some a)/\∃dx vs,H a=Option.some (.ins C dx vs)/\jF α H fs vs:=by
 rcases S.at' n _ e with⟨z,_⟩|z
 . cases z
 . exact z
theorem aM.mem(S:aM α st H){a:Addr}(h:Option.some a∈α):∃(n:Nat) (c:Cell),α[n]?=Option.some (Option.some a)/\st[n]?=Option.some c/\j7 α H a c:=by
 obtain⟨n,hn,e⟩:=UG.mp h;have hl:n<st.length:=by rw[<-S.len];exact hn
 have e':α[n]?=Option.some (Option.some a):=by rw[TM hn,e]
 rcases S.at' n st[n] (by simp[hl])with⟨_,q⟩|⟨a',q,ca⟩
 . rw[e']at q;cases q
 . rw[e']at q;cases q;exact⟨n,_,e',by simp[hl],ca⟩
theorem aM.j8(S:aM α st H){p:Addr}(h:H p=none):Option.some p∉α:=λ z=>by
 obtain⟨n,c,_,_,ca⟩:=S.mem z;obtain⟨o,e⟩:=ca.some;rw[h]at e;cases e
theorem aM.laid(S:aM α st H){p:Addr}{o:HO}(h:H p=none):aM α st (upd H p o):=
 ⟨S.len,S.nd,λ n c e=>by
  rcases S.at' n c e with z|⟨a,q,ca⟩
  . exact .inl z
  . exact .inr ⟨a,q,ca.same (Step.laid h) (aw (by obtain⟨u,z⟩:=ca.some;exact di z h))⟩⟩
theorem aM.cell(S:aM α st H){p:Addr}{o:HO}{c:Cell}(h:H p=none)(hc:j7 (α++[Option.some p]) (upd H p o) p c):aM (α++[Option.some p]) (st++[c]) (upd H p o) where
 len:=by rw[Ud,Ud,S.len];rfl
 nd:=λ i j a ei ej=>by
  have key:∀(i:Nat) (a:Addr),(α++[Option.some p])[i]?=Option.some (Option.some a)->(i<α.length/\α[i]?=Option.some (Option.some a))\/(i=α.length/\a=p):=by
   intro i a e;by_cases hi:i<α.length
   . rw[TF hi]at e;exact .inl ⟨hi,e⟩
   . rw[Uc (UR hi)]at e
     have h0:i-α.length=0:=by
      cases q:i-α.length with
      |zero=>rfl
      |succ k=>rw[q]at e;simp at e
     rw[h0]at e;have:p=a:=by simpa using e
     exact .inr ⟨by omega,this.symm⟩
  rcases key i a ei with⟨h1,e1⟩|⟨h1,e1⟩<;>rcases key j a ej with⟨h2,e2⟩|⟨h2,e2⟩
  . exact S.nd i j a e1 e2
  . subst e2;exact absurd (Ui e1) (S.j8 h)
  . subst e1;exact absurd (Ui e2) (S.j8 h)
  . omega
 at':=λ n d e=>by
  by_cases hn:n<st.length
  . rw[TF hn]at e;have hl:n<α.length:=by rw[S.len];exact hn
    rcases S.at' n d e with⟨z,q⟩|⟨a,q,ca⟩
    . exact .inl ⟨z,by rw[TF hl];exact q⟩
    . exact .inr ⟨a,by rw[TF hl];exact q,ca.same (Step.cell h) (aw (by obtain⟨u,z⟩:=ca.some;exact di z h))⟩
  . rw[Uc (UR hn)]at e
    have h0:n-st.length=0:=by
     cases q:n-st.length with
     |zero=>rfl
     |succ k=>rw[q]at e;simp at e
    rw[h0]at e;have hd:c=d:=by simpa using e
    subst hd;refine .inr ⟨p,?_,hc⟩;rw[Uc (by rw[S.len];exact UR hn),S.len,h0];rfl
theorem aM.write(S:aM α st H){p:Addr}{o:HO}{c:Cell}{n:Nat}(e:α[n]?=Option.some (Option.some p))(hc:j7 α (upd H p o) p c):aM α (st.set n c) (upd H p o) where
 len:=by rw[TQ];exact S.len
 nd:=S.nd
 at':=λ m d q=>by
  have hp:Option.some p∈α:=Ui e;by_cases hm:m=n
  . subst hm
    have hl:m<st.length:=by
     have:=(Tt.mp q).1;rw[TQ]at this;exact this
    rw[TJ hl]at q;cases q;exact .inr ⟨p,e,hc⟩
  . rw[Tx (TK hm)]at q;rcases S.at' m d q with z|⟨a,r,ca⟩
    . exact .inl z
    . refine .inr ⟨a,r,ca.same (Step.write hp) (aw λ z=>?_)⟩;subst z;exact hm (S.nd m n _ r e)
theorem aM.e8(S:aM α st H){n:Nat}(hn:n<st.length):aM (α.set n none) (st.set n .dead) H where
 len:=by rw[TQ,TQ];exact S.len
 nd:=λ i j a ei ej=>by
  have key:∀(i:Nat),(α.set n none)[i]?=Option.some (Option.some a)->α[i]?=Option.some (Option.some a):=by
   intro i e;by_cases hi:n=i
   . subst hi;rw[TJ (by rw[S.len];exact hn)]at e;cases e
   . rw[Tx hi]at e;exact e
  exact S.nd i j a (key i ei) (key j ej)
 at':=λ m d q=>by
  by_cases hm:n=m
  . subst hm;rw[TJ hn]at q;cases q;exact .inl ⟨rfl,TJ (by rw[S.len];exact hn)⟩
  . rw[Tx hm]at q;rcases S.at' m d q with⟨z,r⟩|⟨a,r,ca⟩
    . exact .inl ⟨z,by rw[Tx hm];exact r⟩
    . exact .inr ⟨a,by rw[Tx hm];exact r,ca.same Step.e8 rfl⟩
theorem aM.Lm(S:aM α st H){n:Nat}{xs:List D}{v:V}(e:st[n]?=Option.some (.lst xs))(r:Rep α H (.ref n) v):Rep (α.set n none) H (.lst xs) v:=by
 obtain⟨a,ea,vs,h1,h2⟩:=S.ib e;have:=dX ea r;subst this;unfold Rep;refine⟨a,vs,rfl,λ z=>?_,.inl h1,h2.step Step.e8⟩;obtain⟨m,hm,em⟩:=UG.mp z;have em':(α.set n none)[m]?=Option.some (Option.some a):=by rw[TM hm,em]
 by_cases hx:n=m
 . subst hx;rw[TJ (Tt.mp ea).1]at em';cases em'
 . rw[Tx hx]at em';exact hx (S.nd n m a ea em')
end
abbrev DK:=D->ae->Prop
abbrev DE:=bF->ae->DK->Prop
abbrev DT:=bF->ae->(Bool->ae->Prop)->Prop
abbrev DA:=bF->ae->(List D->ae->Prop)->Prop
structure k6 where
 nx:bF->ae->Prop
 rt:DK
 bk:bF->ae->Prop:=λ _ _=>False
 ct:bF->ae->Prop:=λ _ _=>False
abbrev DS:=k6->bF->ae->Prop
structure dw(α:List (Option Addr))(H:Hp)(σd:bF)(σ:L2.St):Prop where
 len:σd.length=σ.length
 at':∀(i:Nat) (d:D),σd[i]?=some (some d)->∃v,σ[i]?=some (some v)/\Rep α H d v
theorem dw.step{α α':List (Option Addr)}{H H':Hp}{σd:bF}{σ:L2.St}(s:Step α H α' H')(h:dw α H σd σ):dw α' H' σd σ:=
 ⟨h.len,λ i d e=>let⟨v,q,r⟩:=h.at' i d e;⟨v,q,r.step s⟩⟩
theorem dw.set{α:List (Option Addr)}{H:Hp}{σd:bF}{σ:L2.St}(h:dw α H σd σ)(i:Nat){d:D}{v:V}(r:Rep α H d v):dw α H (σd.set i (some d)) (σ.set i (some v)):=by
 refine⟨by rw[TQ,TQ,h.len],λ j e q=>?_⟩;have hl:=h.len;by_cases hj:j=i
 . subst hj
   have hlt:j<σd.length:=by
    have:=(Tt.mp q).1;rw[TQ]at this;exact this
   rw[TJ hlt]at q;cases q;exact⟨v,TJ (by omega),r⟩
 . rw[Tx (TK hj)]at q;rw[Tx (TK hj)];exact h.at' j e q
def LK(α:List (Option Addr))(G F:Hp)(K:DK)(Q:VK):Prop:=∀d st',K d st'->∀α' G' H' v,Step α G α' G'->bZ G' F H'->aM α' st' G'->Rep α' G' d v->Q v H'
def JP(α:List (Option Addr))(G F:Hp)(K:Bool->ae->Prop)(Q:Bool->Hp->Prop):Prop:=∀b st',K b st'->∀α' G' H',Step α G α' G'->bZ G' F H'->aM α' st' G'->Q b H'
def Tg(α:List (Option Addr))(G F:Hp)(K:List D->ae->Prop)(Q:List V->Hp->Prop):Prop:=∀ds st',K ds st'->∀α' G' H' vs,Step α G α' G'->bZ G' F H'->aM α' st' G'->aD α' G' ds vs->Q vs H'
inductive Q1(t:DE)(σ:L2.St)(H:Hp)(Q:VK):Prop
 |mk (α:List (Option Addr)) (σd:bF) (st:ae) (K:DK) (G F:Hp) (P:bZ G F H) (R:dw α G σd σ) (S:aM α st G) (h:t σd st K) (k:LK α G F K Q):Q1 t σ H Q
def LE(t:DE):TE:=Q1 t
inductive Rk(t:DT)(σ:L2.St)(H:Hp)(Q:Bool->Hp->Prop):Prop
 |mk (α:List (Option Addr)) (σd:bF) (st:ae) (K:Bool->ae->Prop) (G F:Hp) (P:bZ G F H) (R:dw α G σd σ) (S:aM α st G) (h:t σd st K) (k:JP α G F K Q):Rk t σ H Q
def LT(t:DT):TT:=Rk t
inductive Q0(t:DA)(σ:L2.St)(H:Hp)(Q:List V->Hp->Prop):Prop
 |mk (α:List (Option Addr)) (σd:bF) (st:ae) (K:List D->ae->Prop) (G F:Hp) (P:bZ G F H) (R:dw α G σd σ) (S:aM α st G) (h:t σd st K) (k:Tg α G F K Q):Q0 t σ H Q
def LA(t:DA):TA:=Q0 t
theorem LK.here{α:List (Option Addr)}{G F H:Hp}{K:DK}{Q:VK}(h:LK α G F K Q)(P:bZ G F H){d:D}{st:ae}{v:V}(k:K d st)(S:aM α st G)(r:Rep α G d v):Q v H:=h d st k α G H v Step.refl P S r
theorem LK.at{α α1:List (Option Addr)}{G F G1:Hp}{K:DK}{Q:VK}(h:LK α G F K Q)(s:Step α G α1 G1):LK α1 G1 F K Q:=λ d st' k α' G' H' v s' P S r=>h d st' k α' G' H' v (s.trans s') P S r
theorem JP.at{α α1:List (Option Addr)}{G F G1:Hp}{K:Bool->ae->Prop}{Q:Bool->Hp->Prop}(h:JP α G F K Q)(s:Step α G α1 G1):JP α1 G1 F K Q:=λ d st' k α' G' H' s' P S=>h d st' k α' G' H' (s.trans s') P S
section
variable {X:Cx}{a b c e:Expr}{es:List Expr}{ta tb tc te:DE}{pos:Pos}
theorem PE.imp{t t':TE}(h:PE X e t)(f:∀σ H Q,t' σ H Q->t σ H Q):PE X e t':=λ pins s σ H Q I q=>h pins s σ H Q I (f σ H Q q)
theorem PT.imp{t t':TT}(h:PT X e t)(f:∀σ H Q,t' σ H Q->t σ H Q):PT X e t':=λ pins s σ H Q I q=>h pins s σ H Q I (f σ H Q q)
theorem PW.imp{t t':TT}(h:PW X e t)(f:∀σ H Q,t' σ H Q->t σ H Q):PW X e t':=λ w pins s σ H Q I q=>h w pins s σ H Q I (f σ H Q q)
theorem PA.imp{t t':TA}(h:PA X es t)(f:∀σ H Q,t' σ H Q->t σ H Q):PA X es t':=λ p pins s σ H Q I q=>h p pins s σ H Q I (f σ H Q q)
def ab(i:Nat):DE:=λ σ st K=>match σ[i]? with|some (some d)=>K d st|_=>False
def dC(d:D):DE:=λ _ st K=>K d st
theorem PK{i:Nat}{x:Str}(h:PE X (.Name x pos) (Nx i)):PE X (.Name x pos) (LE (ab i)):=PE.imp h λ σ H Q ⟨α,σd,st,K,G,F,P,R,S,t,k⟩=>by
 unfold ab at t;split at t
 . rename_i d q;obtain⟨v,e,r⟩:=R.at' i d q;exact⟨v,e,k.here P t S r⟩
 . exact t.elim
theorem pd{v:V}{d:D}(h:PE X e (tC v))(r:∀α H,Rep α H d v):PE X e (LE (dC d)):=PE.imp h λ σ H Q ⟨α,σd,st,K,G,F,P,R,S,t,k⟩=>k.here P t S (r α G)
theorem QE{i:Int}{j:Nat}:PE X (.Constant (.int i) j pos) (LE (dC (.int i))):=pd MH λ _ _=>by unfold Rep;rfl
theorem RT{i:Bool}{j:Nat}:PE X (.Constant (.bool i) j pos) (LE (dC (.bl i))):=pd Pz λ _ _=>by unfold Rep;rfl
theorem PY{i:Str}{j:Nat}:PE X (.Constant (.str i) j pos) (LE (dC (.str i))):=pd NH λ _ _=>by unfold Rep;rfl
theorem Qz{j:Nat}:PE X (.Constant .none j pos) (LE (dC .ax)):=pd NU λ _ _=>by unfold Rep;rfl
abbrev df:=D->D->ae->DK->Prop
abbrev z9:=D->ae->DK->Prop
abbrev eO:=List D->ae->DK->Prop
inductive Ro(r:df)(x y:V)(H:Hp)(Q:VK):Prop
 |mk (α:List (Option Addr)) (d e:D) (st:ae) (K:DK) (G F:Hp) (P:bZ G F H) (rx:Rep α G d x) (ry:Rep α G e y) (S:aM α st G) (h:r d e st K) (k:LK α G F K Q):Ro r x y H Q
def LR(r:df):R2:=Ro r
inductive MV(r:z9)(x:V)(H:Hp)(Q:VK):Prop
 |mk (α:List (Option Addr)) (d:D) (st:ae) (K:DK) (G F:Hp) (P:bZ G F H) (rx:Rep α G d x) (S:aM α st G) (h:r d st K) (k:LK α G F K Q):MV r x H Q
def JQ(r:z9):V->Hp->VK->Prop:=MV r
inductive M5(r:eO)(xs:List V)(H:Hp)(Q:VK):Prop
 |mk (α:List (Option Addr)) (ds:List D) (st:ae) (K:DK) (G F:Hp) (P:bZ G F H) (rx:aD α G ds xs) (S:aM α st G) (h:r ds st K) (k:LK α G F K Q):M5 r xs H Q
def fU(r:eO):List V->Hp->VK->Prop:=M5 r
def aj(r:df)(ta tb:DE):DE:=λ σ st K=>ta σ st λ x st1=>tb σ st1 λ y st2=>r x y st2 K
def jc(r:z9)(ta:DE):DE:=λ σ st K=>ta σ st λ x st1=>r x st1 K
theorem LE.op{r:df}{σ:L2.St}{H:Hp}{Q:VK}(h:LE (aj r ta tb) σ H Q):Fv (LR r) (LE ta) (LE tb) σ H Q:=by
 obtain⟨α,σd,st,K,G,F,P,R,S,t,k⟩:=h;refine⟨α,σd,st,_,G,F,P,R,S,t,λ d st1 q α1 G1 H1 v s1 P1 S1 r1=>?_⟩;refine⟨α1,σd,st1,_,G1,F,P1,R.step s1,S1,q,λ d2 st2 q2 α2 G2 H2 v2 s2 P2 S2 r2=>?_⟩;exact⟨α2,d,d2,st2,K,G2,F,P2,r1.step s2,r2,S2,q2,(k.at s1).at s2⟩
theorem LE.un{r:z9}{σ:L2.St}{H:Hp}{Q:VK}(h:LE (jc r ta) σ H Q):Rq (JQ r) (LE ta) σ H Q:=by
 obtain⟨α,σd,st,K,G,F,P,R,S,t,k⟩:=h;refine⟨α,σd,st,_,G,F,P,R,S,t,λ d st1 q α1 G1 H1 v s1 P1 S1 r1=>?_⟩;exact⟨α1,d,st1,K,G1,F,P1,r1,S1,q,k.at s1⟩
theorem RL{op:Operator}{r:df}(ho:bV X (binaryOp op) (LR r))(ha:PE X a (LE ta))(hb:PE X b (LE tb)):PE X (.BinOp a op b pos) (LE (aj r ta tb)):=PE.imp (QU ho ha hb) λ _ _ _ h=>LE.op h
theorem Sb{op:UnaryOp}{r:z9}(ho:Di X (unaryOp op) (JQ r))(ha:PE X a (LE ta)):PE X (.UnaryOp op a pos) (LE (jc r ta)):=PE.imp (O7 ho ha) λ _ _ _ h=>LE.un h
theorem Pt{op:CmpOp}{r:df}(ho:bV X (compareOp op) (LR r))(ha:PE X a (LE ta))(hb:PE X b (LE tb))(hm:behindInMarks op b=false:=by first|exact js _|rfl):PE X (.Compare a [op] [b] pos) (LE (aj r ta tb)):=PE.imp (KS ho ha hb hm) λ _ _ _ h=>LE.op h
def aU(t:DE):DT:=λ σ st K=>t σ st λ d st1=>match d with| .bl b=>K b st1|_=>False
theorem LT.test{σ:L2.St}{H:Hp}{Q:Bool->Hp->Prop}(h:LT (aU te) σ H Q):LE te σ H λ x H'=>∃k,x= .bl k/\Q k H':=by
 obtain⟨α,σd,st,K,G,F,P,R,S,t,k⟩:=h;refine⟨α,σd,st,_,G,F,P,R,S,t,λ d st1 q α1 G1 H1 v s1 P1 S1 r1=>?_⟩;cases d with
 |bl b=>
  unfold Rep at r1;exact⟨b,r1,k b st1 q α1 G1 H1 s1 P1 S1⟩
 |_=>exact q.elim
theorem MC{op:CmpOp}{r:df}(ho:bV X (compareOp op) (LR r))(ha:PE X a (LE ta))(hb:PE X b (LE tb))(hm:behindInMarks op b=false:=by first|exact js _|rfl):PT X (.Compare a [op] [b] pos) (LT (aU (aj r ta tb))):=PT.imp (L4 ho ha hb hm) λ σ H Q h=>by
 have q:=LT.test h;exact LE.op (Q:=λ x H'=>∃k,x= .bl k/\Q k H') q
theorem NJ(he:PE X e (LE te))(hv:∀whole,isTrue e X.env whole=(do let v <-whole;standAt e.pos;holding [v] (truthy v)):=by intro _;rfl):PT X e (LT (aU te)):=PT.imp (N2 he hv) λ σ H Q h=>LT.test h
def dz(t:DT):DT:=λ σ st K=>t σ st λ b st1=>K (!b) st1
def tI(t u:DT):DT:=λ σ st K=>t σ st λ b st1=>if b=true then u σ st1 K else K false st1
def jm(t u:DT):DT:=λ σ st K=>t σ st λ b st1=>if b=true then K true st1 else u σ st1 K
theorem Oa{t:DT}(ha:PT X a (LT t)):PT X (.UnaryOp .Not a pos) (LT (dz t)):=PT.imp (NO ha) λ σ H Q ⟨α,σd,st,K,G,F,P,R,S,t,k⟩=>
 ⟨α,σd,st,_,G,F,P,R,S,t,λ b st1 q α1 G1 H1 s1 P1 S1=>k _ st1 q α1 G1 H1 s1 P1 S1⟩
theorem LT.and{t u:DT}{σ:L2.St}{H:Hp}{Q:Bool->Hp->Prop}(h:LT (tI t u) σ H Q):Oz (LT t) (LT u) σ H Q:=by
 obtain⟨α,σd,st,K,G,F,P,R,S,t,k⟩:=h;refine⟨α,σd,st,_,G,F,P,R,S,t,λ b st1 q α1 G1 H1 s1 P1 S1=>?_⟩;cases b with
 |true=>exact⟨α1,σd,st1,K,G1,F,P1,R.step s1,S1,q,k.at s1⟩
 |false=>exact k _ st1 q α1 G1 H1 s1 P1 S1
theorem LT.or{t u:DT}{σ:L2.St}{H:Hp}{Q:Bool->Hp->Prop}(h:LT (jm t u) σ H Q):Q6 (LT t) (LT u) σ H Q:=by
 obtain⟨α,σd,st,K,G,F,P,R,S,t,k⟩:=h;refine⟨α,σd,st,_,G,F,P,R,S,t,λ b st1 q α1 G1 H1 s1 P1 S1=>?_⟩;cases b with
 |false=>exact⟨α1,σd,st1,K,G1,F,P1,R.step s1,S1,q,k.at s1⟩
 |true=>exact k _ st1 q α1 G1 H1 s1 P1 S1
theorem Lv{t:DT}(ha:PT X a (LT t)):PW X (.BoolOp .And [a] pos) (LT t):=pw_and1 ha
theorem M7{t:DT}(ha:PT X a (LT t)):PW X (.BoolOp .Or [a] pos) (LT t):=pw_or1 ha
theorem Nf{t u:DT}(ha:PT X a (LT t))(hb:PW X (.BoolOp .And (b::es) pos) (LT u)):PW X (.BoolOp .And (a::b::es) pos) (LT (tI t u)):=PW.imp (pw_and ha hb) λ _ _ _ h=>LT.and h
theorem P8{t u:DT}(ha:PT X a (LT t))(hb:PW X (.BoolOp .Or (b::es) pos) (LT u)):PW X (.BoolOp .Or (a::b::es) pos) (LT (jm t u)):=PW.imp (pw_or ha hb) λ _ _ _ h=>LT.or h
def km(ta tb:DE):DE:=λ σ st K=>ta σ st λ d st1=>match d with| .bl b=>if b=true then tb σ st1 K else K (.bl false) st1|_=>False
def ET(ta tb:DE):DE:=λ σ st K=>ta σ st λ d st1=>match d with| .bl b=>if b=true then K (.bl true) st1 else tb σ st1 K|_=>False
def zu(t:DT):DE:=λ σ st K=>t σ st λ b st1=>K (.bl (!b)) st1
theorem QO{op:BoolOp}(ha:PE X a (LE ta)):PE X (.BoolOp op [a] pos) (LE ta):=O3 ha
theorem PM(ha:PE X a (LE ta))(hb:PE X (.BoolOp .And (b::es) pos) (LE tb)):PE X (.BoolOp .And (a::b::es) pos) (LE (km ta tb)):=PE.imp (OY ha hb) λ σ H Q ⟨α,σd,st,K,G,F,P,R,S,t,k⟩=>by
 refine⟨α,σd,st,_,G,F,P,R,S,t,λ d st1 q α1 G1 H1 v s1 P1 S1 r1=>?_⟩;cases d with
 |bl b=>
  unfold Rep at r1;refine⟨b,r1,?_⟩;cases b with
  |true=>exact⟨α1,σd,st1,K,G1,F,P1,R.step s1,S1,q,k.at s1⟩
  |false=>exact k _ st1 q α1 G1 H1 _ s1 P1 S1 (by unfold Rep;rfl)
 |_=>exact q.elim
theorem Sa(ha:PE X a (LE ta))(hb:PE X (.BoolOp .Or (b::es) pos) (LE tb)):PE X (.BoolOp .Or (a::b::es) pos) (LE (ET ta tb)):=PE.imp (Px ha hb) λ σ H Q ⟨α,σd,st,K,G,F,P,R,S,t,k⟩=>by
 refine⟨α,σd,st,_,G,F,P,R,S,t,λ d st1 q α1 G1 H1 v s1 P1 S1 r1=>?_⟩;cases d with
 |bl b=>
  unfold Rep at r1;refine⟨b,r1,?_⟩;cases b with
  |false=>exact⟨α1,σd,st1,K,G1,F,P1,R.step s1,S1,q,k.at s1⟩
  |true=>exact k _ st1 q α1 G1 H1 _ s1 P1 S1 (by unfold Rep;rfl)
 |_=>exact q.elim
theorem QH(ha:PE X a (LE ta)):PE X (.UnaryOp .Not a pos) (LE (zu (aU ta))):=PE.imp (OE ha) λ σ H Q ⟨α,σd,st,K,G,F,P,R,S,t,k⟩=>by
 refine⟨α,σd,st,_,G,F,P,R,S,t,λ d st1 q α1 G1 H1 v s1 P1 S1 r1=>?_⟩;cases d with
 |bl b=>
  unfold Rep at r1;exact⟨b,r1,k _ st1 q α1 G1 H1 _ s1 P1 S1 (by unfold Rep;rfl)⟩
 |_=>exact q.elim
def yn(t:DT)(ta tb:DE):DE:=λ σ st K=>t σ st λ b st1=>if b=true then ta σ st1 K else tb σ st1 K
theorem Ql{t:DT}(hc:PT X c (LT t))(ha:PE X a (LE ta))(hb:PE X b (LE tb)):PE X (.IfExp c a b pos) (LE (yn t ta tb)):=PE.imp (Iu hc ha hb) λ σ H Q ⟨α,σd,st,K,G,F,P,R,S,t,k⟩=>by
 refine⟨α,σd,st,_,G,F,P,R,S,t,λ b st1 q α1 G1 H1 s1 P1 S1=>?_⟩;cases b with
 |true=>exact⟨α1,σd,st1,K,G1,F,P1,R.step s1,S1,q,k.at s1⟩
 |false=>exact⟨α1,σd,st1,K,G1,F,P1,R.step s1,S1,q,k.at s1⟩
def af:DA:=λ _ st K=>K [] st
def aa(ta:DE)(tr:DA):DA:=λ σ st K=>ta σ st λ x st1=>tr σ st1 λ xs st2=>K (x::xs) st2
theorem Ax:PA X [] (LA af):=PA.imp OT λ σ H Q ⟨α,σd,st,K,G,F,P,R,S,t,k⟩=>k [] st t α G H [] Step.refl P S (by unfold aD;rfl)
theorem xD{tr:DA}(ha:PE X e (LE te))(hr:PA X es (LA tr))(hs:starEach (e::es) X.env=(false,eval e X.env)::starEach es X.env:=by rfl):PA X (e::es) (LA (aa te tr)):=PA.imp (Lg ha hr hs) λ σ H Q ⟨α,σd,st,K,G,F,P,R,S,t,k⟩=>by
 refine⟨α,σd,st,_,G,F,P,R,S,t,λ d st1 q α1 G1 H1 v s1 P1 S1 r1=>?_⟩;refine⟨α1,σd,st1,_,G1,F,P1,R.step s1,S1,q,λ ds st2 q2 α2 G2 H2 vs s2 P2 S2 r2=>?_⟩;exact k _ st2 q2 α2 G2 H2 (v::vs) (s1.trans s2) P2 S2 (by unfold aD;exact⟨v,vs,rfl,r1.step s2,r2⟩)
def cL(t:DA):DE:=λ σ st K=>t σ st λ ds st1=>ds.length<=sizeLine/\K (.tup ds) st1
def gJ(t:DA):DE:=λ σ st K=>t σ st λ ds st1=>ds.length<=sizeLine/\K (.lst ds) st1
def xi(t:DA):DE:=λ σ st K=>t σ st λ ds st1=>ds.length<=sizeLine/\K (.ref st1.length) (st1++[.lst ds])
theorem LK.tup{α:List (Option Addr)}{G F H:Hp}{K:DK}{Q:VK}{ds:List D}{vs:List V}{st:ae}{p:Addr}(k:LK α G F K Q)(P:bZ G F H)(q:K (.tup ds) st)(S:aM α st G)(r:aD α G ds vs)(hp:H p=none):Q (.ref p) (upd H p (.tup vs)):=
 have hg:=(P.none hp).1
 k _ st q α _ _ _ (Step.laid hg) (P.laid hp) (S.laid hg) (by unfold Rep;exact⟨p,vs,rfl,S.j8 hg,aW,r.step (Step.laid hg)⟩)
theorem LK.lst{α:List (Option Addr)}{G F H:Hp}{K:DK}{Q:VK}{ds:List D}{vs:List V}{st:ae}{p:Addr}(k:LK α G F K Q)(P:bZ G F H)(q:K (.lst ds) st)(S:aM α st G)(r:aD α G ds vs)(hp:H p=none):Q (.ref p) (upd H p (.lst vs)):=
 have hg:=(P.none hp).1
 k _ st q α _ _ _ (Step.laid hg) (P.laid hp) (S.laid hg) (by unfold Rep;exact⟨p,vs,rfl,S.j8 hg,.of aW,r.step (Step.laid hg)⟩)
theorem LK.new{α:List (Option Addr)}{G F H:Hp}{K:DK}{Q:VK}{ds:List D}{vs:List V}{st:ae}{p:Addr}(k:LK α G F K Q)(P:bZ G F H)(q:K (.ref st.length) (st++[.lst ds]))(S:aM α st G)(r:aD α G ds vs)(hp:H p=none):Q (.ref p) (upd H p (.lst vs)):=
 have hg:=(P.none hp).1
 k _ _ q (α++[some p]) _ _ _ (Step.cell hg) (P.laid hp) (S.cell hg ⟨vs,aW,r.step (Step.cell hg)⟩) (by
  unfold Rep;refine .inr ⟨p,?_,rfl⟩;rw[Uc (by rw[S.len];exact Tu _),S.len,Vg];rfl)
theorem Pg{n:Nat}{t:DA}(h:PA X es (LA t)):PE X (.Tuple es n pos) (LE (cL t)):=PE.imp (ON h) λ σ H Q ⟨α,σd,st,K,G,F,P,R,S,t,k⟩=>
 ⟨α,σd,st,_,G,F,P,R,S,t,λ ds st1 q α1 G1 H1 vs s1 P1 S1 r1=>⟨by rw[<-r1.length];exact q.1,λ p hp=>(k.at s1).tup P1 q.2 S1 r1 hp⟩⟩
theorem Qh{t:DA}(h:PA X es (LA t)):PE X (.List es pos) (LE (gJ t)):=PE.imp (F2 h) λ σ H Q ⟨α,σd,st,K,G,F,P,R,S,t,k⟩=>
 ⟨α,σd,st,_,G,F,P,R,S,t,λ ds st1 q α1 G1 H1 vs s1 P1 S1 r1=>⟨by rw[<-r1.length];exact q.1,λ p hp=>(k.at s1).lst P1 q.2 S1 r1 hp⟩⟩
theorem PC{t:DA}(h:PA X es (LA t)):PE X (.List es pos) (LE (xi t)):=PE.imp (F2 h) λ σ H Q ⟨α,σd,st,K,G,F,P,R,S,t,k⟩=>
 ⟨α,σd,st,_,G,F,P,R,S,t,λ ds st1 q α1 G1 H1 vs s1 P1 S1 r1=>⟨by rw[<-r1.length];exact q.1,λ p hp=>(k.at s1).new P1 q.2 S1 r1 hp⟩⟩
abbrev bQ:=List D->ae->DK->Prop
inductive NP(T:bQ)(vs:List V)(H:Hp)(Q:VK):Prop
 |mk (α:List (Option Addr)) (ds:List D) (st:ae) (K:DK) (G F:Hp) (P:bZ G F H) (rx:aD α G ds vs) (S:aM α st G) (h:T ds st K) (k:LK α G F K Q):NP T vs H Q
def fP(S:bQ):Sp:=λ vs H Q _=>NP S vs H Q
def aq(S:bQ)(t:DA):DE:=λ σ st K=>t σ st λ ds st1=>S ds st1 K
theorem LE.call{S:bQ}{t:DA}{σ:L2.St}{H:Hp}{Q:VK}(h:LE (aq S t) σ H Q):Ju (fP S) [] E0 (LA t) σ H Q:=by
 obtain⟨α,σd,st,K,G,F,P,R,S,t,k⟩:=h;refine⟨α,σd,st,_,G,F,P,R,S,t,λ ds st1 q α1 G1 H1 vs s1 P1 S1 r1=>?_⟩;try dsimp only
 rw[Vb];exact⟨α1,ds,st1,K,G1,F,P1,r1,S1,q,k.at s1⟩
theorem M0{S:bQ}{k:Nat}{f:Addr}{fd:FuncData}{ps:List Str}{x:Str}{p:Pos}{t:DA}(F:cR X.prog X.w X.K X.mg X.base fy k f fd ps (fP S))(hr:cJ k X.A)(hg:Gl X x)(hm:X.mg x=some (.ref f))(hk:PySem.W.keepIn X.K (.ref f)=true)(hb:Binds X.K fd ps [])
 (ha:PA X (e::es) (LA t)) (hdb:(x==("__debug__":Str))=false:=by decide) (he:starEach (e::es) X.env=(false,eval e X.env)::starEach es X.env:=by rfl) (hpl:(backTo pos (starEach es X.env)).any (·.1)=false:=by rfl):
 PE X (.Call (.Name x p) (e::es) [] pos) (LE (aq S t)):=PE.imp (Mn F hr hg hm hk hb .nil y_ ha hdb he hpl) λ _ _ _ h=>LE.call h
def a9(r:eO)(t:DA):DE:=λ σ st K=>t σ st λ ds st1=>r ds st1 K
theorem LE.cb{r:eO}{t:DA}{σ:L2.St}{H:Hp}{Q:VK}(h:LE (a9 r t) σ H Q):Oq (fU r) (LA t) σ H Q:=by
 obtain⟨α,σd,st,K,G,F,P,R,S,t,k⟩:=h;refine⟨α,σd,st,_,G,F,P,R,S,t,λ ds st1 q α1 G1 H1 vs s1 P1 S1 r1=>?_⟩;exact⟨α1,ds,st1,K,G1,F,P1,r1,S1,q,k.at s1⟩
end
section
variable {X:Cx}
theorem bV.imp{f:Value->Value->Sem Value}{r r':R2}(h:bV X f r)(k:∀x y H Q,r' x y H Q->r x y H Q):bV X f r':=λ pins s σ H x y v u Q I rx ry q=>h pins s σ H x y v u Q I rx ry (k x y H Q q)
theorem bM.imp{f:Value}{r r':List V->Hp->VK->Prop}(h:bM X f r)(k:∀xs H Q,r' xs H Q->r xs H Q):bM X f r':=λ pins s σ H xs us Q I rs q=>h pins s σ H xs us Q I rs (k xs H Q q)
def uy(C:Int->Int->Prop)(g:Int->Int->D):df:=λ x y st K=>match x,y with| .int i,.int j=>C i j/\K (g i j) st|_,_=>False
theorem j5{f:Value->Value->Sem Value}{C:Int->Int->Prop}{g:Int->Int->D}{g':Int->Int->V}(hg:∀i j α H,Rep α H (g i j) (g' i j))(h:bV X f (rI C g')):bV X f (LR (uy C g)):=bV.imp h λ x y H Q ⟨α,d,e,st,K,G,F',P,r1,r2,S,q,k⟩=>by
 cases d<;>cases e<;>first
  |exact q.elim
  |(unfold Rep at r1 r2;exact⟨_,_,r1,r2,q.1,k.here P q.2 S (hg _ _ _ _)⟩)
abbrev T2:Int->Int->Prop:=λ _ _=>True
theorem vN{g:Int->Int->V}{f:Value->Value->Sem Value}(h:bV X f (vp g)):bV X f (rI T2 g):=bV.imp h λ x y H Q ⟨i,j,e1,e2,_,q⟩=>⟨i,j,e1,e2,q⟩
abbrev J_:df:=uy T2 λ i j=> .int (i-j)
abbrev Fi:df:=uy (λ _ j=>j≠0/\j.natAbs.log2<9000) λ i j=> .int (i.fdiv j)
abbrev IX:df:=uy (λ _ j=>j≠0) λ i j=> .int (i.fmod j)
abbrev J0:df:=uy HY λ i j=> .int (i^j.toNat)
abbrev MN:df:=uy T2 λ i j=> .bl (decide (i<j))
abbrev NN:df:=uy T2 λ i j=> .bl (decide (i<=j))
abbrev MI:df:=uy T2 λ i j=> .bl (decide (j<i))
abbrev OJ:df:=uy T2 λ i j=> .bl (decide (j<=i))
theorem PD:bV X (binaryOp .Sub) (LR J_):=j5 (λ _ _ _ _=>by unfold Rep;rfl) (vN MY)
theorem N3:bV X (binaryOp .FloorDiv) (LR Fi):=j5 (λ _ _ _ _=>by unfold Rep;rfl) (Jt λ i j _ _ _ _ _ hc q=>floordiv_int hc.1 q (.inl (PyProof.noPylong_of_log2 hc.2)))
theorem Pk:bV X (binaryOp .Mod) (LR IX):=j5 (λ _ _ _ _=>by unfold Rep;rfl) Mr
theorem Pu:bV X (binaryOp .Pow) (LR J0):=j5 (λ _ _ _ _=>by unfold Rep;rfl) Oh
theorem RB:bV X (compareOp .Lt) (LR MN):=j5 (λ _ _ _ _=>by unfold Rep;rfl) (vN QG)
theorem R0:bV X (compareOp .LtE) (LR NN):=j5 (λ _ _ _ _=>by unfold Rep;rfl) (vN Qw)
theorem RP:bV X (compareOp .Gt) (LR MI):=j5 (λ _ _ _ _=>by unfold Rep;rfl) (vN P7)
theorem RD:bV X (compareOp .GtE) (LR OJ):=j5 (λ _ _ _ _=>by unfold Rep;rfl) (vN Qp)
def Jy:z9:=λ x st K=>match x with| .int i=>K (.int (-i)) st|_=>False
theorem QF:Di X (unaryOp .USub) (JQ Jy):=λ pins s σ H x v Q I rx ⟨α,d,st,K,G,F',P,r,S,q,k⟩=>by
 cases d<;>first
  |exact q.elim
  |(unfold Rep at r;exact Oi pins s σ H x v Q I rx ⟨_,r,k.here P q S (by unfold Rep;rfl)⟩)
theorem Inv.sx{pins:List (Addr×Obj)}{σ:L2.St}{H:Hp}{s:Shared}{l:Addr}{xs:List V}(I:Inv X pins σ H s)(h:Rd H l (.lst xs)):
 xs.length<=sizeLine/\∃(ai:List Value) (n:Nat),Vals xs ai/\xs.length=ai.length/\s.heap.get? l=some {cls:= .type "list",data:= .seq ai.toArray n}:=by
 obtain⟨z,ai,n,r,e⟩:=h.ok I.aF;exact⟨z,ai,n,r,r.length,e⟩
theorem fH{G F H:Hp}(P:bZ G F H){a:Addr}{u:HO}(h:Rd G a u):Rd H a u:=by
 rcases h with h|⟨o,h⟩
 . exact .inl (P.get h)
 . exact .inr ⟨o,P.get h⟩
theorem KY:bV X (binaryOp .Add) (λ x y H Q=>∃l b xs zs,x= .ref l/\y= .ref b/\Rd H l (.lst xs)/\Rd H b (.lst zs)/\xs.length+zs.length<=sizeLine/\∀p,H p=none->Q (.ref p) (upd H p (.lst (xs++zs)))):=by
 intro pins s σ H x y v u Q I rx ry h;obtain⟨l,b,xs,zs,rfl,rfl,hH,hB,hz,q⟩:=h;cases rx;cases ry;obtain⟨z,ai,n,r,hl,e⟩:=Inv.sx I hH;obtain⟨z2,its2,n2,r2,hl2,e2⟩:=Inv.sx I hB;refine PySem.P.add_list e e2 ?_ (by rw[TL,TL];omega);have ea:ai.toArray++its2.toArray=(ai++its2).toArray:=by simp
 rw[ea];exact⟨.ref _,_,I.IP (t':=s.toks) (r.append r2) (by rw[Ud];omega),rfl,q _ I.fresh⟩
theorem Co:bV X (binaryOp .Mult) (λ x y H Q=>∃l k xs,x= .ref l/\y= .int k/\Rd H l (.lst xs)/\ -(2^63)<=k/\k<2^63/\xs.length*k.toNat<=sizeLine/\
 ∀p,H p=none->Q (.ref p) (upd H p (.lst (List.replicate k.toNat xs).flatten))):=by
 intro pins s σ H x y v u Q I rx ry h;obtain⟨l,k,xs,rfl,rfl,hH,h1,h2,hz,q⟩:=h;cases rx;obtain⟨t,rfl⟩:=ry;obtain⟨z,ai,n,r,hl,e⟩:=Inv.sx I hH;have hlen:ai.toArray.size*k.toNat<=sizeLine:=by rw[TL,<-hl];exact hz
 have hcap:¬ai.toArray.size*k.toNat>(2^63-1)/8:=by
  have:(sizeLine:Nat)<=(2^63-1)/8:=by decide
  omega
 have hfit:¬(!Builtin.List.listFitsIndex k)=true:=by
  rw[fitsIndex_both h1 h2];exact Uo
 have hlong:¬Builtin.List.listTooLong (ai.toArray.size*k.toNat)=true:=by
  rw[Hk hlen];exact Uo
 have hnew:List.foldl (λ x1 x2=>x1++x2) #[] (List.replicate (if ai.toArray.isEmpty=true then 0 else k.toNat) ai.toArray)=(List.replicate k.toNat ai).flatten.toArray:=by
  have f0:∀m:Nat,List.foldl (λ x1 x2=>x1++x2) #[] (List.replicate m ai.toArray)=(List.replicate m ai).flatten.toArray:=λ m=>by
   have:=foldl_rep ai m [];rw[List.nil_append]at this;exact this
  rw[f0];cases ai with
  |nil=>simp
  |cons a r'=>rw[Tv (by simp)]
 refine XH (T:="list") (U:="int") (by decide) ⟨_,e,rfl⟩ (λ s'=>XG s' k t) noFill_list_mul F.fills_int_mul W4 repeat_list F.slot_int_index.lookup
  (WJ W4 (XG s k t) F.entry_int_rmul (F.args_int_rmul_2 _ _) (int___rmul___int_list k t l ai.toArray n)
    ⟨e,rfl,⟨_,e,rfl⟩,WJ F.slot_list_mul ⟨_,e,rfl⟩ F.entry_list_mul (F.args_list_mul_2 _ _) (AutoListH.list___mul___list_int_3 l ai.toArray n k t hfit hcap hlong) ⟨e,?_⟩⟩)
 rw[hnew];exact⟨.ref _,_,I.IP (t':=s.toks) (r.rep k.toNat) (by rw[len_rep,Vp];exact hz),rfl,q _ I.fresh⟩
theorem Hm:bV X (binaryOp .Add) (λ x y H Q=>∃a b xs ys,x= .ref a/\y= .ref b/\H a=some (.tup xs)/\H b=some (.tup ys)/\xs.length+ys.length<=sizeLine/\
 (xs=[]->Q (.ref b) H)/\(xs≠ []->ys=[]->Q (.ref a) H)/\(xs≠ []->ys≠ []->∀p,H p=none->Q (.ref p) (upd H p (.tup (xs++ys))))):=by
 intro pins s σ H x y v u Q I rx ry h;obtain⟨a,b,xs,ys,rfl,rfl,ha,hb,hz,q0,q1,q2⟩:=h;by_cases hx:xs=[]
 . cases rx;cases ry;obtain⟨ai,r1,p1,_⟩:=I.tuple (.of ha);obtain⟨its2,r2,p2,_⟩:=I.tuple (.of hb);obtain⟨⟨cls,dd,data,sl⟩,ho,hc,n,hd⟩:=id p1;obtain⟨⟨cls2,dd2,data2,sl2⟩,ho2,hc2,n2,hd2⟩:=id p2;simp only at hc hd hc2 hd2;subst hc hd hc2 hd2;have hi:ai=[]:=(L2.Vals.tu r1).mpr hx
   exact Yy ⟨_,ho,rfl⟩ ⟨_,ho2,rfl⟩ XM Yt WQ WL (WC _ _)
    (tuple_addW0 a b ai.toArray its2.toArray n n2 dd dd2 sl sl2 (by simp[hi])) ⟨ho,ho2,⟨.ref b,H,I,rfl,q0 hx⟩⟩
 . exact KL pins s σ H _ _ v u Q I rx ry ⟨a,b,xs,ys,rfl,rfl,.of ha,.of hb,hx,hz,q1 hx,q2 hx⟩
theorem xa:fillsNumberSlot (.type "tuple") "mul"=pure false:=
 PySem.fillsNumberSlot_seq (id:="tuple.__mul__") (r:=some (.builtin "tuple.__rmul__")) Wn.lookup (by decide+kernel) F.slot_tuple_rmul.lookup (by decide+kernel)
theorem EJ:seqRepeat? (.type "tuple")=pure (some (.builtin "tuple.__mul__")):=by
 unfold seqRepeat?;rw[PySem.seqSlot_of (T:="tuple") (name:="__mul__") (id:="tuple.__mul__") Wn.lookup (by decide+kernel),PySem.seqSlot_of (T:="tuple") (name:="__rmul__") (id:="tuple.__rmul__") F.slot_tuple_rmul.lookup (by decide+kernel)];rfl
theorem zT(a:Int)(t:Tok)(l:Addr)(ai:Array Value)(n:Nat)(dd:Option Addr)(sl:Array (Option Value)):Meets (Builtin.«int.__rmul__» ⟨[.int a t,.ref l],[]⟩) (λ _ R s=>s.heap.get? l=some {cls:= .type "tuple",dict:=dd,data:= .seq ai n,slots:=sl}/\R (.ok (.ret Value.notImplemented)) s):=
 .of_wp λ P w A R s h=>by
  obtain⟨hp,g,d,tk,os⟩:=s;obtain⟨hl,h⟩:=h
  wp_walk
  exact⟨_,rfl,h⟩
theorem Ay(l:Addr)(ai:Array Value)(n:Nat)(dd:Option Addr)(sl:Array (Option Value))(x:Int)(u:Tok)(h0:(decide (x< -(2^63))||decide (x>=2^63))=false)(h1:(ai.isEmpty||x==1)=true):
 Meets (Builtin.«tuple.__mul__» ⟨[.ref l,.int x u],[]⟩) (λ _ R s=>s.heap.get? l=some {cls:= .type "tuple",dict:=dd,data:= .seq ai n,slots:=sl}/\R (.ok (.ret (.ref l))) s):=
 .of_wp λ P w A R s h=>by
  obtain⟨hp,g,d,tk,os⟩:=s;obtain⟨hl,h⟩:=h
  wp_walk
  refine W5 (by rw[h0];rfl) ?_
  wp_walk
  exact⟨_,rfl,h⟩
theorem AY(l:Addr)(ai:Array Value)(n:Nat)(dd:Option Addr)(sl:Array (Option Value))(x:Int)(u:Tok)(h0:(decide (x< -(2^63))||decide (x>=2^63))=false)(h1:(ai.isEmpty||x==1)=false)(h2:(decide (x<=0)||ai.isEmpty)=true):
 Meets (Builtin.«tuple.__mul__» ⟨[.ref l,.int x u],[]⟩) (λ _ R s=>s.heap.get? l=some {cls:= .type "tuple",dict:=dd,data:= .seq ai n,slots:=sl}/\R (.ok (.ret (.ref s.heap.objs.size))) {s with heap:=s.heap.push {cls:= .type "tuple",data:= .seq #[]}}):=
 .of_wp λ P w A R s h=>by
  obtain⟨hp,g,d,tk,os⟩:=s;obtain⟨hl,h⟩:=h
  wp_walk
  refine W5 (by rw[h0];rfl) ?_
  wp_walk
  exact⟨_,rfl,h⟩
theorem Af(l:Addr)(ai:Array Value)(n:Nat)(dd:Option Addr)(sl:Array (Option Value))(x:Int)(u:Tok)(h0:(decide (x< -(2^63))||decide (x>=2^63))=false)(h1:(ai.isEmpty||x==1)=false)(h2:(decide (x<=0)||ai.isEmpty)=false)(h3:¬((ai.size:Int)*x>(2^63-1)/8))(h4:Builtin.Tuple.tupleTooMany (ai.size*x)=false)
 (hz:(List.foldl (λ x1 x2=>x1++x2) #[] (List.replicate x.toNat ai)).size<=sizeLine):
 Meets (Builtin.«tuple.__mul__» ⟨[.ref l,.int x u],[]⟩) (λ _ R s=>s.heap.get? l=some {cls:= .type "tuple",dict:=dd,data:= .seq ai n,slots:=sl}/\R (.ok (.ret (.ref s.heap.objs.size))) {s with heap:=s.heap.push {cls:= .type "tuple",data:= .seq (List.foldl (λ x1 x2=>x1++x2) #[] (List.replicate x.toNat ai))}}):=
 .of_wp λ P w A R s h=>by
  obtain⟨hp,g,d,tk,os⟩:=s;obtain⟨hl,h⟩:=h
  wp_walk
  refine W5 (by rw[h0];rfl) ?_
  wp_walk
  refine W5 (T6 h3) ?_
  wp_walk
  exact⟨_,rfl,h⟩
theorem LF:bV X (binaryOp .Mult) (λ x y H Q=>∃l k xs,x= .ref l/\y= .int k/\H l=some (.tup xs)/\ -(2^63)<=k/\k<2^63/\xs.length*k.toNat<=sizeLine/\
 ((xs=[]\/k=1)->Q (.ref l) H)/\(¬(xs=[]\/k=1)->∀p,H p=none->Q (.ref p) (upd H p (.tup (List.replicate k.toNat xs).flatten)))):=by
 intro pins s σ H x y v u Q I rx ry h;obtain⟨l,k,xs,rfl,rfl,hH,h1,h2,hz,q1,q2⟩:=h;cases rx;obtain⟨t,rfl⟩:=ry;obtain⟨ai,r,p1,_⟩:=I.tuple (.of hH);obtain⟨⟨cls,dd,data,sl⟩,ho,hc,n,hd⟩:=id p1;simp only at hc hd;subst hc hd;have hl:xs.length=ai.length:=r.length
 have f0:(decide (k< -(2^63))||decide (k>=2^63))=false:=by
  rw[T6 (by omega),T6 (by omega)];rfl
 refine XH (T:="tuple") (U:="int") (by decide) ⟨_,ho,rfl⟩ (λ s'=>XG s' k t) xa F.fills_int_mul W4 EJ F.slot_int_index.lookup
  (WJ W4 (XG s k t) F.entry_int_rmul (F.args_int_rmul_2 _ _) (zT k t l ai.toArray n dd sl) ⟨ho,rfl,⟨_,ho,rfl⟩,?_⟩)
 by_cases hs:xs=[]\/k=1
 . have f1:(ai.toArray.isEmpty||k==1)=true:=by
    rcases hs with z|z
    . have:ai=[]:=Vm.mp (by rw[<-hl,z];rfl);rw[this];rfl
    . rw[z];simp
   exact WJ Wn ⟨_,ho,rfl⟩ XB (Xn _ _) (Ay l ai.toArray n dd sl k t f0 f1) ⟨ho,⟨.ref l,H,I,rfl,q1 hs⟩⟩
 . have hne:ai≠ []:=λ z=>hs (.inl (Vm.mp (by rw[hl,z];rfl)));have hk1:k≠1:=λ z=>hs (.inr z);have e1:ai.toArray.isEmpty=false:=by simpa using hne
   have f1:(ai.toArray.isEmpty||k==1)=false:=by rw[e1];simpa using hk1
   have new:∀(us:List Value) (ys:List V),Vals ys us->ys.length<=sizeLine->Inv X pins σ (upd H s.heap.objs.size (.tup ys)) {s with heap:=s.heap.push {cls:= .type "tuple",data:= .seq us.toArray}}:=λ us ys hv hy=>
    I.laid (t':=s.toks) (λ _ _ q=>Tz _ q) (Tu _) ⟨hy,us,hv,⟨_,TX _ rfl,rfl,_,rfl⟩⟩
   by_cases h0:k<=0
   . have f2:(decide (k<=0)||ai.toArray.isEmpty)=true:=by rw[Ul h0];rfl
     refine WJ Wn ⟨_,ho,rfl⟩ XB (Xn _ _) (AY l ai.toArray n dd sl k t f0 f1 f2) ⟨ho,?_⟩;have ez:k.toNat=0:=by omega
     rw[ez]at q2;exact⟨.ref _,_,new [] [] .nil (T4 _),rfl,q2 hs _ I.fresh⟩
   . have f2:(decide (k<=0)||ai.toArray.isEmpty)=false:=by rw[T6 h0,e1];rfl
     have hk:(k.toNat:Int)=k:=by omega
     have hlen:ai.toArray.size*k.toNat<=sizeLine:=by rw[TL,<-hl];exact hz
     have hsz:((ai.toArray.size:Nat):Int)*k<=(sizeLine:Int):=by
      rw[<-hk]
      exact_mod_cast hlen
     have f3:¬(((ai.toArray.size:Nat):Int)*k>(2^63-1)/8):=by
      have:((sizeLine:Nat):Int)<=(2^63-1)/8:=by decide
      omega
     have f4:Builtin.Tuple.tupleTooMany (((ai.toArray.size:Nat):Int)*k)=false:=by
      unfold Builtin.Tuple.tupleTooMany;exact T6 (by omega)
     have hnew:List.foldl (λ x1 x2=>x1++x2) #[] (List.replicate k.toNat ai.toArray)=(List.replicate k.toNat ai).flatten.toArray:=by
      have:=foldl_rep ai k.toNat [];rw[List.nil_append]at this;exact this
     have hfl:(List.replicate k.toNat ai).flatten.length=ai.length*k.toNat:=by rw[len_rep,Vp]
     refine WJ Wn ⟨_,ho,rfl⟩ XB (Xn _ _) (Af l ai.toArray n dd sl k t f0 f1 f2 f3 f4 (by rw[hnew,TL,hfl];exact hlen)) ⟨ho,?_⟩;rw[hnew];exact⟨.ref _,_,new _ _ (r.rep k.toNat) (by rw[len_rep,Vp];exact hz),rfl,q2 hs _ I.fresh⟩
def Kj:df:=λ x y st K=>match x,y with
 | .int i,.int j=>K (.int (i+j)) st
 | .tup xs,.tup ys=>xs.length+ys.length<=sizeLine/\K (.tup (xs++ys)) st
 | .lst xs,.lst ys=>xs.length+ys.length<=sizeLine/\K (.lst (xs++ys)) st
 | .str x,.str y=>x.length+y.length<=sizeLine/\K (.str (x++y)) st
 |_,_=>False
theorem PH:bV X (binaryOp .Add) (LR Kj):=λ pins s σ H x y v u Q I rx ry ⟨α,d,e,st,K,G,F',P,r1,r2,S,q,k⟩=>by
 cases d<;>cases e<;>try exact q.elim
 . unfold Rep at r1 r2;exact NM pins s σ H x y v u Q I rx ry ⟨_,_,r1,r2,k.here P q S (by unfold Rep;rfl)⟩
 . unfold Rep at r1 r2;exact Ec pins s σ H x y v u Q I rx ry ⟨_,_,r1,r2,q.1,k.here P q.2 S (by unfold Rep;rfl)⟩
 . unfold Rep at r1 r2;obtain⟨a,vs,rfl,na,ha,ra⟩:=r1;obtain⟨b,ws,rfl,nb,hb,rb⟩:=r2;refine KY pins s σ H _ _ v u Q I rx ry ⟨a,b,vs,ws,rfl,rfl,fH P ha,fH P hb,by rw[<-ra.length,<-rb.length];exact q.1,λ p hp=>?_⟩;exact k.lst P q.2 S (a8.mpr (fL (a8.mp ra) (a8.mp rb))) hp
 . rename_i xs ys;unfold Rep at r1 r2;obtain⟨a,vs,rfl,na,ha,ra⟩:=r1;obtain⟨b,ws,rfl,nb,hb,rb⟩:=r2;have hl1:=ra.length;have hl2:=rb.length;refine Hm pins s σ H _ _ v u Q I rx ry ⟨a,b,vs,ws,rfl,rfl,P.get ha,P.get hb,by rw[<-hl1,<-hl2];exact q.1,λ z=>?_,λ _ z=>?_,λ _ _ p hp=>?_⟩
   . refine k.here P q.2 S ?_;unfold Rep;have:xs=[]:=by rw[z]at hl1;exact Vm.mp hl1
     subst this;exact⟨b,ws,rfl,nb,hb,rb⟩
   . refine k.here P q.2 S ?_;unfold Rep;have:ys=[]:=by rw[z]at hl2;exact Vm.mp hl2
     subst this;rw[Vb];exact⟨a,vs,rfl,na,ha,ra⟩
   . exact k.tup P q.2 S (a8.mpr (fL (a8.mp ra) (a8.mp rb))) hp
def Kf:df:=λ x y st K=>match x,y with
 | .int i,.int j=>IntMulOk i j/\K (.int (i*j)) st
 | .lst xs,.int k=>(-(2^63)<=k/\k<2^63/\xs.length*k.toNat<=sizeLine)/\K (.lst (List.replicate k.toNat xs).flatten) st
 | .tup xs,.int k=>(-(2^63)<=k/\k<2^63/\xs.length*k.toNat<=sizeLine)/\K (.tup (List.replicate k.toNat xs).flatten) st
 |_,_=>False
theorem Pj:bV X (binaryOp .Mult) (LR Kf):=λ pins s σ H x y v u Q I rx ry ⟨α,d,e,st,K,G,F',P,r1,r2,S,q,k⟩=>by
 cases d<;>cases e<;>try exact q.elim
 . unfold Rep at r1 r2;have h:bV X (binaryOp .Mult) (rI IntMulOk λ i j=> .int (i*j)):=Jt λ _ _ _ _ _ _ _ hc q=>mul_int q hc;exact h pins s σ H x y v u Q I rx ry ⟨_,_,r1,r2,q.1,k.here P q.2 S (by unfold Rep;rfl)⟩
 . unfold Rep at r1 r2;obtain⟨a,vs,rfl,na,ha,ra⟩:=r1;refine Co pins s σ H _ _ v u Q I rx ry ⟨a,_,vs,rfl,r2,fH P ha,q.1.1,q.1.2.1,by rw[<-ra.length];exact q.1.2.2,λ p hp=>?_⟩;exact k.lst P q.2 S (a8.mpr (lj (a8.mp ra) _)) hp
 . rename_i xs m;have r1':=r1;unfold Rep at r1 r2;obtain⟨a,vs,rfl,na,ha,ra⟩:=r1;refine LF pins s σ H _ _ v u Q I rx ry ⟨a,_,vs,rfl,r2,P.get ha,q.1.1,q.1.2.1,by rw[<-ra.length];exact q.1.2.2,λ hs=>?_,λ _ p hp=>k.tup P q.2 S (a8.mpr (lj (a8.mp ra) _)) hp⟩
   have e:(List.replicate m.toNat xs).flatten=xs:=by
    rcases hs with z|z
    . have:xs=[]:=Vm.mp (by rw[ra.length,z];rfl);rw[this];simp
    . rw[z];simp
   have q2:=q.2;rw[e]at q2;exact k.here P q2 S r1'
def live(st:ae):D->Bool
 | .ref n=>(match st[n]? with|some (.lst _)=>true|some (.ins _ _)=>true|_=>false)
 |_=>true
theorem zz{α:List (Option Addr)}{H:Hp}{st:ae}{n:Nat}{v:V}(S:aM α st H)(h:live st (.ref n)=true)(r:Rep α H (.ref n) v):∃a,v= .ref a:=by
 unfold live at h;simp only at h;split at h
 . rename_i e;obtain⟨a,ea,_⟩:=S.ib e;exact⟨a,dX ea r⟩
 . rename_i e;obtain⟨a,ea,_⟩:=S.vP e;exact⟨a,dX ea r⟩
 . cases h
def Ll:df:=λ x y st K=>match y with| .ax=>live st x=true/\K (.bl (match x with| .ax=>false|_=>true)) st|_=>False
theorem Mz:bV X (compareOp .IsNot) (LR Ll):=bV.imp Mi λ x y H Q ⟨α,d,e,st,K,G,F',P,r1,r2,S,q,k⟩=>by
 cases e<;>try exact q.elim
 unfold Rep at r2;refine⟨r2,k.here P q.2 S ?_⟩;unfold Rep;cases d
 case ref n=>
  obtain⟨a,rfl⟩:=zz S q.1 r1;rfl
 all_goals(unfold Rep at r1;first|(rw[r1];rfl)|(obtain⟨a,vs,rfl,_⟩:=r1;rfl))
def p9:df:=λ x y st K=>match y with
 | .int i=>(match x with
   | .lst xs=>(match d6 xs i with|some d=>K d st|none=>False)
   | .tup xs=>(match d6 xs i with|some d=>K d st|none=>False)
   | .ref n=>(match st[n]? with|some (.lst xs)=>(match d6 xs i with|some d=>K d st|none=>False)|_=>False)
   |_=>False)
 |_=>False
theorem aD.d6{α:List (Option Addr)}{H:Hp}{ds:List D}{vs:List V}{i:Int}{d:D}(h:aD α H ds vs)(e:L2.d6 ds i=some d):∃v,L2.d6 vs i=some v/\Rep α H d v:=by
 unfold L2.d6 at e⊢;rw[<-h.length];cases q:ni ds.length i with
 |none=>rw[q]at e;cases e
 |some j=>rw[q]at e;exact h.get e
theorem RO:JY X (LR p9):=λ value slice pins s σ H x y v u Q I rx ry ⟨α,d,e,st,K,G,F',P,r1,r2,S,q,k⟩ hs=>by
 cases e<;>try exact q.elim
 unfold Rep at r2;cases d<;>try exact q.elim
 . rename_i i n;unfold p9 at q;simp only at q;split at q
   . split at q
     . rename_i xs e1 _ d' e2;obtain⟨a,ea,vs,hv,rv⟩:=S.ib e1;have r1':=dX ea r1;subst r1';obtain⟨z,ez,rz⟩:=rv.d6 e2;exact CS value slice pins s σ H _ _ v u Q I rx ry ⟨a,vs,_,z,rfl,r2,.of (P.get hv),ez,k.here P q S rz⟩ hs
     . exact q.elim
   . exact q.elim
 . unfold p9 at q;simp only at q;split at q
   . rename_i xs d' e2;unfold Rep at r1;obtain⟨a,vs,rfl,na,ha,ra⟩:=r1;obtain⟨z,ez,rz⟩:=ra.d6 e2;exact CS value slice pins s σ H _ _ v u Q I rx ry ⟨a,vs,_,z,rfl,r2,.inl (fH P ha),ez,k.here P q S rz⟩ hs
   . exact q.elim
 . unfold p9 at q;simp only at q;split at q
   . rename_i xs d' e2;unfold Rep at r1;obtain⟨a,vs,rfl,na,ha,ra⟩:=r1;obtain⟨z,ez,rz⟩:=ra.d6 e2;exact NT value slice pins s σ H _ _ v u Q I rx ry ⟨a,vs,_,z,rfl,r2,.of (P.get ha),ez,k.here P q S rz⟩ hs
   . exact q.elim
theorem RU{a b:Expr}{ta tb:DE}{pos:Pos}(ha:PE X a (LE ta))(hb:PE X b (LE tb))(hs:sZ b:=by intro _ _;rfl):PE X (.Subscript a b pos) (LE (aj p9 ta tb)):=PE.imp (QN RO ha hb hs) λ _ _ _ h=>LE.op h
def items?(st:ae):D->Option (List D)
 | .lst xs=>some xs
 | .tup xs=>some xs
 | .ref n=>(match st[n]? with|some (.lst xs)=>some xs|_=>none)
 |_=>none
@[simp] theorem Rj(st:ae)(xs:List D):items? st (.lst xs)=some xs:=rfl
@[simp] theorem Q3(st:ae)(xs:List D):items? st (.tup xs)=some xs:=rfl
@[simp] theorem items_int(st:ae)(i:Int):items? st (.int i)=none:=rfl
@[simp] theorem Rz(st:ae)(i:Bool):items? st (.bl i)=none:=rfl
@[simp] theorem items_str(st:ae)(i:Str):items? st (.str i)=none:=rfl
@[simp] theorem Rf(st:ae):items? st .ax=none:=rfl
theorem aX{st:ae}{n:Nat}{xs:List D}(h:st[n]?=some (.lst xs)):items? st (.ref n)=some xs:=by unfold items?;simp only[h]
theorem nW{α:List (Option Addr)}{H:Hp}{st:ae}{d:D}{v:V}{xs:List D}(S:aM α st H)(r:Rep α H d v)(e:items? st d=some xs):
 ∃p vs,v= .ref p/\aD α H xs vs/\(Rd H p (.lst vs)\/H p=some (.tup vs)):=by
 cases d<;>try(cases e;done)
 . unfold items? at e;simp only at e;split at e
   . rename_i ys q;cases e;obtain⟨a,ea,vs,h1,h2⟩:=S.ib q;have r':=dX ea r;subst r';exact⟨a,vs,rfl,h2,.inl (.of h1)⟩
   . cases e
 . cases e;unfold Rep at r;obtain⟨a,vs,rfl,_,h1,h2⟩:=r;exact⟨a,vs,rfl,h2,.inl h1⟩
 . cases e;unfold Rep at r;obtain⟨a,vs,rfl,_,h1,h2⟩:=r;exact⟨a,vs,rfl,h2,.inr h1⟩
theorem EN{K:PySem.W.Frag}{G F H:Hp}(P:bZ G F H){p:Addr}{vs:List V}(h:Rd G p (.lst vs)\/G p=some (.tup vs)):lK K H p vs\/ie K H p vs:=h.elim (λ z=> .inl (.inl (fH P z))) λ z=> .inr (.of (P.get z))
theorem gh{α:List (Option Addr)}{H:Hp}{ds:List D}{xs:List V}{d:D}(r:aD α H ds xs)(e:ds=[d]):∃v,xs=[v]/\Rep α H d v:=by
 subst e;unfold aD at r;obtain⟨v,q,rfl,h1,h2⟩:=r;unfold aD at h2;subst h2;exact⟨v,rfl,h1⟩
theorem mJ{α:List (Option Addr)}{H:Hp}{ds:List D}{xs:List V}{d e:D}(r:aD α H ds xs)(q:ds=[d,e]):∃v u,xs=[v,u]/\Rep α H d v/\Rep α H e u:=by
 subst q;unfold aD at r;obtain⟨v,q,rfl,h1,h2⟩:=r;obtain⟨u,rfl,h3⟩:=gh h2 rfl;exact⟨v,u,rfl,h1,h3⟩
def zt:eO:=λ ds st K=>match ds with
 | [.str x]=>x.length<=sizeLine/\K (.int x.length) st
 | [d]=>(match items? st d with|some xs=>K (.int xs.length) st|none=>False)
 |_=>False
theorem QD:bM X (.builtin "len") (fU zt):=λ pins s σ H xs us Q I rs ⟨α,ds,st,K,G,F',P,r,S,q,k⟩=>by
 unfold zt at q;split at q
 . rename_i x;obtain⟨v,rfl,r1⟩:=gh r rfl;unfold Rep at r1;subst r1;exact A_ pins s σ H _ us Q I rs ⟨x,rfl,q.1,k.here P q.2 S (by unfold Rep;rfl)⟩
 . rename_i d _;split at q
   . rename_i ys e;obtain⟨v,rfl,r1⟩:=gh r rfl;obtain⟨p,vs,rfl,r2,h⟩:=nW S r1 e;refine Bq pins s σ H _ us Q I rs ⟨p,vs,rfl,EN P h,k.here P q S (by unfold Rep;rw[r2.length])⟩
   . exact q.elim
 . exact q.elim
def QY(g:Int->Int):eO:=λ ds st K=>match ds with| [.int i]=>K (.int (g i)) st|_=>False
abbrev DF:eO:=QY λ i=>if i<0 then-i else i
theorem QK:bM X (.builtin "abs") (fU DF):=bM.imp HM λ xs H Q ⟨α,ds,st,K,G,F',P,r,S,q,k⟩=>by
 unfold DF QY at q;split at q
 . obtain⟨v,rfl,r1⟩:=gh r rfl;unfold Rep at r1;subst r1;exact⟨_,rfl,k.here P q S (by unfold Rep;rfl)⟩
 . exact q.elim
def NZ(g:Int->Int->Int):eO:=λ ds st K=>match ds with| [.int i,.int j]=>K (.int (g i j)) st|_=>False
abbrev El:eO:=NZ λ i j=>if j<i then j else i
theorem O9(hc:X.calm=true):bM X (.builtin "min") (fU El):=bM.imp (Ff hc) λ xs H Q ⟨α,ds,st,K,G,F',P,r,S,q,k⟩=>by
 unfold El NZ at q;split at q
 . obtain⟨v,u,rfl,r1,r2⟩:=mJ r rfl;unfold Rep at r1 r2;subst r1 r2;exact⟨_,_,rfl,k.here P q S (by unfold Rep;rfl)⟩
 . exact q.elim
def Dq:eO:=λ ds st K=>match ds with| [.int i]=>K (.int i) st| [.bl b]=>K (.int (if b then 1 else 0)) st|_=>False
theorem PJ:bM X (.type "int") (fU Dq):=bM.imp Gh λ xs H Q ⟨α,ds,st,K,G,F',P,r,S,q,k⟩=>by
 unfold Dq at q;split at q
 . obtain⟨v,rfl,r1⟩:=gh r rfl;unfold Rep at r1;subst r1;exact .inl ⟨_,rfl,k.here P q S (by unfold Rep;rfl)⟩
 . obtain⟨v,rfl,r1⟩:=gh r rfl;unfold Rep at r1;subst r1;exact .inr ⟨_,rfl,k.here P q S (by unfold Rep;rfl)⟩
 . exact q.elim
def tF:eO:=λ ds st K=>match ds with| [d]=>(match items? st d with|some xs=>K (.tup xs) st|none=>False)|_=>False
theorem KD:bM X (.type "tuple") (fU tF):=bM.imp yQ λ xs H Q ⟨α,ds,st,K,G,F',P,r,S,q,k⟩=>by
 unfold tF at q;split at q
 . rename_i d;split at q
   . rename_i ys e;obtain⟨v,rfl,r1⟩:=gh r rfl;cases d with
     |tup zs=>
      cases e;have r0:=r1;unfold Rep at r1;obtain⟨a,vs,rfl,na,h1,h2⟩:=r1;exact⟨a,vs,rfl,.inr ⟨.of (P.get h1),k.here P q S r0⟩⟩
     |_=>
      obtain⟨p,vs,rfl,r2,h⟩:=nW S r1 e;refine⟨p,vs,rfl,?_⟩;rcases h with h|h
      . exact .inl ⟨.inl (fH P h),λ l hl=>k.tup P q S r2 hl⟩
      . first
         |(cases e;done)
         |(exfalso
           unfold items? at e;simp only at e
           first
            |(split at e
              . rename_i z;obtain⟨a,ea,vs',h1,h2⟩:=S.ib z;have e':=dX ea r1;cases e';rw[h]at h1;cases h1
              . cases e)
            |(unfold Rep at r1
              obtain⟨a,vs',e',_,h1,_⟩:=r1;cases e';rcases h1 with h1|⟨o,h1⟩<;>(rw[h]at h1;cases h1)))
   . exact q.elim
 . exact q.elim
def vY:eO:=λ ds st K=>match ds with| [d]=>(match items? st d with|some xs=>K (.lst xs) st|none=>False)|_=>False
theorem MG:bM X (.type "list") (fU vY):=bM.imp rE λ xs H Q ⟨α,ds,st,K,G,F',P,r,S,q,k⟩=>by
 unfold vY at q;split at q
 . split at q
   . rename_i ys e;obtain⟨v,rfl,r1⟩:=gh r rfl;obtain⟨p,vs,rfl,r2,h⟩:=nW S r1 e;exact⟨p,vs,rfl,EN P h,λ l hl=>k.lst P q S r2 hl⟩
   . exact q.elim
 . exact q.elim
def tm:eO:=λ ds st K=>match ds with| [d]=>(match items? st d with|some xs=>K (.ref st.length) (st++[.lst xs])|none=>False)|_=>False
theorem Mw:bM X (.type "list") (fU tm):=bM.imp rE λ xs H Q ⟨α,ds,st,K,G,F',P,r,S,q,k⟩=>by
 unfold tm at q;split at q
 . split at q
   . rename_i ys e;obtain⟨v,rfl,r1⟩:=gh r rfl;obtain⟨p,vs,rfl,r2,h⟩:=nW S r1 e;exact⟨p,vs,rfl,EN P h,λ l hl=>k.new P q S r2 hl⟩
   . exact q.elim
 . exact q.elim
def fY:List D->Option (List Bool)
 | []=>some []
 | .bl b::r=>(fY r).map (b:: ·)
 |_::_=>none
def oh:List D->Option (List Int)
 | []=>some []
 | .int b::r=>(oh r).map (b:: ·)
 |_::_=>none
theorem qd{α:List (Option Addr)}{H:Hp}:∀ {ds:List D} {vs:List V} {bs:List Bool},aD α H ds vs->fY ds=some bs->vs=bs.map V.bl
 | [],vs,bs,r,e=>by
   unfold aD at r;cases e;exact r
 |d::ds,vs,bs,r,e=>by
  unfold aD at r;obtain⟨v,q,rfl,h1,h2⟩:=r;cases d<;>try(cases e;done)
  unfold fY at e;cases z:fY ds with
  |none=>rw[z]at e;cases e
  |some cs=>
   rw[z]at e;cases e;unfold Rep at h1;rw[h1,qd h2 z];rfl
theorem xR{α:List (Option Addr)}{H:Hp}:∀ {ds:List D} {vs:List V} {bs:List Int},aD α H ds vs->oh ds=some bs->vs=bs.map V.int
 | [],vs,bs,r,e=>by
   unfold aD at r;cases e;exact r
 |d::ds,vs,bs,r,e=>by
  unfold aD at r;obtain⟨v,q,rfl,h1,h2⟩:=r;cases d<;>try(cases e;done)
  unfold oh at e;cases z:oh ds with
  |none=>rw[z]at e;cases e
  |some cs=>
   rw[z]at e;cases e;unfold Rep at h1;rw[h1,xR h2 z];rfl
theorem qB:∀ {bs:List Bool} {us:List Value},Vals (bs.map V.bl) us->us=bs.map Value.bool
 | [],_,.nil=>rfl
 |b::bs,_,.cons h t=>by
  have h:_=Value.bool b:=h;rw[h,qB t];rfl
def zl:eO:=λ ds st K=>match ds with| [.lst xs]=>(match fY xs with|some bs=>K (.bl (bs.all id)) st|none=>False)|_=>False
theorem range_all{α:Type}(l:List α)(f:α->Bool)(tr:Nat->Bool)(h:∀i x,l[i]?=some x->tr i=f x):(List.range l.length).all tr=l.all f:=by
 induction l generalizing tr with
 |nil=>rfl
 |cons a l ih=>
  rw[Uv,Uq,U8,U8,XO,h 0 a rfl];congr 1;exact ih (tr∘Nat.succ) λ i x e=>h (i+1) x (by simpa using e)
theorem Qm(hc:X.calm=true):bM X (.builtin "all") (fU zl):=λ pins s σ H xs us Q I rs ⟨α,ds,st,K,G,F',P,r,S,q,k⟩=>by
 unfold zl at q;split at q
 . rename_i ys;split at q
   . rename_i bs e;obtain⟨v,rfl,r1⟩:=gh r rfl;unfold Rep at r1;obtain⟨a,vs,rfl,na,h1,h2⟩:=r1;obtain⟨u,rfl,ru⟩:=vals1 rs;cases ru;have hv:=qd h2 e;subst hv;obtain⟨z,ai,n,rv,hl,eo⟩:=Inv.sx I (fH P h1);have hits:=qB rv;subst hits;have isL:s.heap.IsList a (bs.map Value.bool).toArray:=⟨_,eo,rfl,n,rfl⟩
     refine call_all_walk (Wh isL ?_);have hne:a≠s.heap.objs.size:=Ue (TN eo);refine⟨s.heap.objs.size,_,_,_,_,_,λ i=>(bs[i]?).getD true,rfl,Walks.list (A:=X.A.in1) (I.ok.hd hc) _ a hne (bs.map Value.bool).toArray,⟨⟨_,TX _ rfl,rfl,rfl⟩,⟨_,Tz _ eo,rfl,n,rfl⟩⟩,?_,?_⟩
     . intro i w s' Q' E' hP hQ;rw[Yk,T7]at hP;cases zb:bs[i]? with
       |none=>rw[zb]at hP;cases hP
       |some b=>
        rw[zb]at hP;cases hP;simp only[zb]at hQ;exact VE hQ
     . intro h' tk hk
       have kp:∀b o,s.heap.get? b=some o->h'.get? b=some o:=λ b o q=>hk b o (by
        intro hb;have:b=s.heap.objs.size:=by simpa using hb
        exact absurd (TN q) (by rw[this];exact Vl _)) (Tz _ q)
       have ea:(List.range (bs.map Value.bool).toArray.size).all (λ i=>(bs[i]?).getD true)=bs.all id:=by
        rw[TL,Tw];exact range_all bs id _ λ i x e=>by rw[e];rfl
       rw[ea];exact⟨.bl (bs.all id),H,I.kept (t':=tk) kp,rfl,k.here P q S (by unfold Rep;rfl)⟩
   . exact q.elim
 . exact q.elim
def fu(st:ae):D->Option String
 | .ax=>some "NoneType"
 | .bl _=>some "bool"
 | .int _=>some "int"
 | .str _=>some "str"
 | .lst _=>some "list"
 | .tup _=>some "tuple"
 | .ref n=>(match st[n]? with|some (.lst _)=>some "list"|_=>none)
 | .ty _=>none
@[simp] theorem S8(st:ae)(xs:List D):fu st (.lst xs)=some "list":=rfl
@[simp] theorem SQ(st:ae)(xs:List D):fu st (.tup xs)=some "tuple":=rfl
@[simp] theorem ty_int(st:ae)(i:Int):fu st (.int i)=some "int":=rfl
@[simp] theorem Tp(st:ae)(i:Bool):fu st (.bl i)=some "bool":=rfl
@[simp] theorem ty_str(st:ae)(i:Str):fu st (.str i)=some "str":=rfl
@[simp] theorem To(st:ae):fu st .ax=some "NoneType":=rfl
def rS(t c:String):Bool:=t==c||(t=="bool"&&c=="int")
theorem AB{α:List (Option Addr)}{H:Hp}{st:ae}{K:PySem.W.Frag}{d:D}{v:V}{t:String}(S:aM α st H)(r:Rep α H d v)(e:fu st d=some t):je K H v (.type t):=by
 cases d<;>unfold fu at e<;>try(cases e;done)
 . unfold Rep at r;cases e;subst r;exact .ax
 . unfold Rep at r;cases e;subst r;exact .bl _
 . unfold Rep at r;cases e;subst r;exact .int _
 . unfold Rep at r;cases e;subst r;exact .str _
 . simp only at e;split at e
   . rename_i z;cases e;obtain⟨a,ea,vs',h1,h2⟩:=S.ib z;have r':=dX ea r;subst r';exact .lst h1
   . cases e
 . cases e;unfold Rep at r;obtain⟨a,vs,rfl,na,h1,h2⟩:=r;rcases h1 with h1|⟨o,h1⟩
   . exact .lst h1
   . exact .e8 h1
 . cases e;unfold Rep at r;obtain⟨a,vs,rfl,na,h1,h2⟩:=r;exact .tup h1
theorem C9{G F H:Hp}{K:PySem.W.Frag}(P:bZ G F H){x:V}{t:Value}(h:je K G x t):je K H x t:=by
 cases h with
 |ax=>exact .ax
 |bl x=>exact .bl x
 |int x=>exact .int x
 |str x=>exact .str x
 |uk x=>exact .uk x
 |lst e=>exact .lst (P.get e)
 |e8 e=>exact .e8 (P.get e)
 |tup e=>exact .tup (P.get e)
 |dK e=>exact .dK (P.get e)
 |dT e=>exact .dT (P.get e)
 |ins e a b c d f=>exact .ins (P.get e) a b c d f
def jW:List String:=["NoneType","bool","int","str","list","tuple"]
def kG:List String:=["bool","int","str","list","tuple"]
theorem CV(K:PySem.W.Frag){t c:String}(ht:t∈jW)(hc:c∈kG):PySem.W.kitOne K (.type t) (.type c)=some (rS t c):=by
 simp only[jW,kG,TU,T3,Ve]at ht hc;rcases ht with rfl|rfl|rfl|rfl|rfl|rfl<;>rcases hc with rfl|rfl|rfl|rfl|rfl<;>with_unfolding_all rfl
theorem kH{st:ae}{d:D}{t:String}(e:fu st d=some t):t∈jW:=by
 cases d<;>unfold fu at e<;>first
  |(cases e;done)
  |(cases e;decide)
  |(simp only at e;split at e<;>cases e;decide)
theorem kitx_of{pins:List (Addr×Obj)}{σ:L2.St}{H:Hp}{s:Shared}{x:V}{u:Value}{t:String}(I:Inv X pins σ H s)(rx:RelV x u)(ty:je X.K H x (.type t)):
 ∃Hh:Heap->Prop,PySem.W.KitX X.K u (.type t) Hh/\Hh s.heap/\u≠ .builtin "__main__.__loader__#opaque":=by
 cases ty with
 |ax=>cases (show u=Value.none from rx);exact⟨_,PySem.W.kitx_none,True.intro,λ z=>nomatch z⟩
 |bl y=>cases (show u=Value.bool y from rx);exact⟨_,PySem.W.kitx_bool,True.intro,λ z=>nomatch z⟩
 |int i=>obtain⟨t,q⟩:=(show∃t,u=Value.int i t from rx);cases q;exact⟨_,PySem.W.kitx_int,True.intro,λ z=>nomatch z⟩
 |str y=>obtain⟨t,q⟩:=(show∃t,u=Value.str y t from rx);cases q;exact⟨_,PySem.W.kitx_str,True.intro,λ z=>nomatch z⟩
 |uk y=>obtain⟨t,q⟩:=(show∃t,u=Value.float y t from rx);cases q;exact⟨_,PySem.W.kitx_float,True.intro,λ z=>nomatch z⟩
 | @lst a xs ea=>
   cases (show u=Value.ref a from rx);obtain⟨_,_,n,_,h1⟩:=(show c_ X.prog X.w H s.heap a (.lst xs)from I.aF a _ ea)
   exact⟨_,WN,⟨_,h1,rfl⟩,λ z=>nomatch z⟩
 | @e8 a ob xs ea=>
   cases (show u=Value.ref a from rx);obtain⟨_,_,_,n,_,h1⟩:=(show c_ X.prog X.w H s.heap a (.e8 ob (.lst xs))from I.aF a _ ea)
   exact⟨_,WN,⟨_,h1,rfl⟩,λ z=>nomatch z⟩
 | @tup a xs ea=>
   cases (show u=Value.ref a from rx);obtain⟨_,_,_,p⟩:=(show c_ X.prog X.w H s.heap a (.tup xs)from I.aF a _ ea)
   obtain⟨o,h1,h2,_⟩:=p;exact⟨_,PySem.W.kitx_tuple,⟨o,h1,h2⟩,λ z=>nomatch z⟩
 | @dK a kvs ea=>
   cases (show u=Value.ref a from rx);obtain⟨_,_,vs,_,p⟩:=(show c_ X.prog X.w H s.heap a (.dK kvs)from I.aF a _ ea)
   obtain⟨o,es,ep,h1,h2,_⟩:=p;exact⟨_,WO,⟨o,h1,h2.1⟩,λ z=>nomatch z⟩
 | @dT a kvs ea=>
   cases (show u=Value.ref a from rx);obtain⟨_,_,xs,_,o,es,ep,h1,h2,_⟩:=(show c_ X.prog X.w H s.heap a (.dT kvs)from I.aF a _ ea)
   exact⟨_,WO,⟨o,h1,h2.1⟩,λ z=>nomatch z⟩
def mN:List D->Option (List String)
 | []=>some []
 | .ty b::r=>(mN r).map (b:: ·)
 |_::_=>none
theorem AR{α:List (Option Addr)}{H:Hp}:∀ {ds:List D} {vs:List V} {bs:List String},aD α H ds vs->mN ds=some bs->vs=bs.map V.ty
 | [],vs,bs,r,e=>by
   unfold aD at r;cases e;exact r
 |d::ds,vs,bs,r,e=>by
  unfold aD at r;obtain⟨v,q,rfl,h1,h2⟩:=r;cases d<;>try(cases e;done)
  unfold mN at e;cases z:mN ds with
  |none=>rw[z]at e;cases e
  |some cs=>
   rw[z]at e;cases e;unfold Rep at h1;rw[h1,AR h2 z];rfl
theorem Ap:∀ {bs:List String} {us:List Value},Vals (bs.map V.ty) us->us=bs.map Value.type
 | [],_,.nil=>rfl
 |b::bs,_,.cons h t=>by
  have h:_=Value.type b:=h;rw[h,Ap t];rfl
theorem CO(K:PySem.W.Frag){t:String}(ht:t∈jW):∀cs:List String,(∀c∈cs,c∈kG)->PySem.W.kitAny K (.type t) (cs.map Value.type)=some (cs.any (rS t))
 | [],_=>rfl
 |c::cs,h=>by
  show(match PySem.W.kitOne K (.type t) (.type c)with|some true=>some true|some false=>PySem.W.kitAny K (.type t) (cs.map Value.type)|none=>none)=_;rw[CV K ht (h c Ua),WT];cases rS t c with
  |true=>rfl
  |false=>exact CO K ht cs λ c hc=>h c (TY _ hc)
def wm:eO:=λ ds st K=>match ds with
 | [d,.ty c]=>(match fu st d with|some t=>c∈kG/\K (.bl (rS t c)) st|none=>False)
 | [d,.tup cs]=>(match fu st d,mN cs with|some t,some cl=>(∀c∈cl,c∈kG)/\K (.bl (cl.any (rS t))) st|_,_=>False)
 |_=>False
theorem Pq:bM X (.builtin "isinstance") (fU wm):=λ pins s σ H xs us Q I rs ⟨α,ds,st,K,G,F',P,r,S,q,k⟩=>by
 unfold wm at q;split at q
 . rename_i d c;split at q
   . rename_i t e;obtain⟨v,v2,rfl,r1,r2⟩:=mJ r rfl;obtain⟨u,u2,rfl,ru,ru2⟩:=vals2 rs;unfold Rep at r2;subst r2;cases (show u2=Value.type c from ru2);exact Gx I ru (C9 P (AB S r1 e)) (CV _ (kH e) q.1) λ tk=>⟨.bl (rS t c),H,I.tok tk,rfl,k.here P q.2 S (by unfold Rep;rfl)⟩
   . exact q.elim
 . rename_i d cs;split at q
   . rename_i t cl e ec;obtain⟨v,v2,rfl,r1,r2⟩:=mJ r rfl;obtain⟨u,u2,rfl,ru,ru2⟩:=vals2 rs;unfold Rep at r2;obtain⟨a,vs,rfl,na,h1,h2⟩:=r2;cases (show u2=Value.ref a from ru2);have hv:=AR h2 ec;subst hv;obtain⟨Hh,Z,hh,hne⟩:=kitx_of I ru (C9 P (AB S r1 e));obtain⟨ai,r',pl,hz⟩:=I.tuple (ie.of (P.get h1));have hi:=Ap r';subst hi;obtain⟨⟨cls,dd,data,sl⟩,ho,hc,n,hd⟩:=pl;simp only at hc hd;subst hc hd;exact PySem.W.kia_tup Z I.gD hh ho (CO _ (kH e) cl q.1) hne λ tk=>⟨.bl _,H,I.tok tk,rfl,k.here P q.2 S (by unfold Rep;rfl)⟩
   . exact q.elim
 . exact q.elim
end
end L3
namespace L3
open PySem PySem.Spec L2 PySem.SeqAt
open PyProof.Rows hiding St
mutual
def cF:D->D->Bool
 | .ax,.ax=>true
 | .bl a,.bl b=>a==b
 | .bl a,.int b=>(if a then 1 else 0)==b
 | .int a,.bl b=>a==(if b then 1 else 0)
 | .int a,.int b=>a==b
 | .str a,.str b=>a==b
 | .lst xs,.lst ys=>ft xs ys
 | .tup xs,.tup ys=>ft xs ys
 |_,_=>false
def ft:List D->List D->Bool
 | [],[]=>true
 |x::xs,y::ys=>cF x y&&ft xs ys
 |_,_=>false
end
def pl:Nat->D->Bool
 |_,.ax=>true
 |_,.bl _=>true
 |_,.int _=>true
 |_,.str _=>true
 |n+1,.lst xs=>xs.all (pl n)
 |n+1,.tup xs=>xs.all (pl n)
 |_,_=>false
mutual
theorem u0:∀(n:Nat) (d:D),pl n d=true->cF d d=true
 |_,.ax,_=>rfl
 |_,.bl _,_=>by simp[cF]
 |_,.int _,_=>by simp[cF]
 |_,.str _,_=>by simp[cF]
 |n+1,.lst xs,h=>by unfold cF;exact rh n xs (by unfold pl at h;exact h)
 |n+1,.tup xs,h=>by unfold cF;exact rh n xs (by unfold pl at h;exact h)
 |0,.lst xs,h=>by cases h
 |0,.tup xs,h=>by cases h
 |_,.ref _,h=>by unfold pl at h;cases h
 |_,.ty _,h=>by unfold pl at h;cases h
theorem rh:∀(n:Nat) (xs:List D),xs.all (pl n)=true->ft xs xs=true
 |_,[],_=>by unfold ft;rfl
 |n,x::xs,h=>by
  rw[U8,Ub]at h;unfold ft;rw[u0 n x h.1,rh n xs h.2];rfl
end
mutual
theorem Rep.inj{α:List (Option Addr)}{H:Hp}:∀ {d e:D} {v:V} (n:Nat),pl n d=true->pl n e=true->Rep α H d v->Rep α H e v->d=e
 | .ax,e,v,n,_,he,h1,h2=>by
   unfold Rep at h1;subst h1;cases e<;>first|(unfold pl at he;cases he;done)|(unfold Rep at h2;cases h2;rfl)|(unfold Rep at h2;cases h2;done)|(unfold Rep at h2;obtain⟨_,_,h2,_⟩:=h2;cases h2)|rfl|(cases h2;done)|(obtain⟨_,_,h2,_⟩:=h2;cases h2)|(obtain⟨_,_,h2⟩:=h2;cases h2)
 | .bl b,e,v,n,_,he,h1,h2=>by
   unfold Rep at h1;subst h1;cases e<;>first|(unfold pl at he;cases he;done)|(unfold Rep at h2;cases h2;rfl)|(unfold Rep at h2;cases h2;done)|(unfold Rep at h2;obtain⟨_,_,h2,_⟩:=h2;cases h2)|(cases h2;rfl)|(cases h2;done)|(obtain⟨_,_,h2,_⟩:=h2;cases h2)|(obtain⟨_,_,h2⟩:=h2;cases h2)
 | .int b,e,v,n,_,he,h1,h2=>by
   unfold Rep at h1;subst h1;cases e<;>first|(unfold pl at he;cases he;done)|(unfold Rep at h2;cases h2;rfl)|(unfold Rep at h2;cases h2;done)|(unfold Rep at h2;obtain⟨_,_,h2,_⟩:=h2;cases h2)|(cases h2;rfl)|(cases h2;done)|(obtain⟨_,_,h2,_⟩:=h2;cases h2)|(obtain⟨_,_,h2⟩:=h2;cases h2)
 | .str b,e,v,n,_,he,h1,h2=>by
   unfold Rep at h1;subst h1;cases e<;>first|(unfold pl at he;cases he;done)|(unfold Rep at h2;cases h2;rfl)|(unfold Rep at h2;cases h2;done)|(unfold Rep at h2;obtain⟨_,_,h2,_⟩:=h2;cases h2)|(cases h2;rfl)|(cases h2;done)|(obtain⟨_,_,h2,_⟩:=h2;cases h2)|(obtain⟨_,_,h2⟩:=h2;cases h2)
 | .ty b,e,v,n,hd,he,h1,h2=>by unfold pl at hd;cases hd
 | .ref b,e,v,n,hd,he,h1,h2=>by unfold pl at hd;cases hd
 | .lst xs,e,v,0,hd,he,h1,h2=>by cases hd
 | .tup xs,e,v,0,hd,he,h1,h2=>by cases hd
 | .lst xs,e,v,n+1,hd,he,h1,h2=>by
   unfold Rep at h1;obtain⟨a,vs,rfl,na,ha,ra⟩:=h1;cases e<;>unfold Rep at h2<;>try(cases h2;done)
   . unfold pl at he;cases he
   . obtain⟨a',vs',e',na',ha',ra'⟩:=h2;cases e'
     have:vs=vs':=by
      rcases ha with ha|⟨o,ha⟩<;>rcases ha' with ha'|⟨o',ha'⟩<;>(rw[ha]at ha';first|(cases ha';rfl)|(cases ha';done))
     subst this;rw[aD.inj n (by unfold pl at hd;exact hd) (by unfold pl at he;exact he) ra ra']
   . obtain⟨a',vs',e',na',ha',ra'⟩:=h2;cases e';rcases ha with ha|⟨o,ha⟩<;>(rw[ha]at ha';cases ha')
 | .tup xs,e,v,n+1,hd,he,h1,h2=>by
   unfold Rep at h1;obtain⟨a,vs,rfl,na,ha,ra⟩:=h1;cases e<;>unfold Rep at h2<;>try(cases h2;done)
   . unfold pl at he;cases he
   . obtain⟨a',vs',e',na',ha',ra'⟩:=h2;cases e';rcases ha' with ha'|⟨o,ha'⟩<;>(rw[ha]at ha';cases ha')
   . obtain⟨a',vs',e',na',ha',ra'⟩:=h2;cases e';rw[ha]at ha';cases ha';rw[aD.inj n (by unfold pl at hd;exact hd) (by unfold pl at he;exact he) ra ra']
theorem aD.inj{α:List (Option Addr)}{H:Hp}:∀ {ds es:List D} {vs:List V} (n:Nat),ds.all (pl n)=true->es.all (pl n)=true->aD α H ds vs->aD α H es vs->ds=es
 | [],es,vs,n,_,_,h1,h2=>by
   unfold aD at h1;subst h1;cases es with
   |nil=>rfl
   |cons e es=>unfold aD at h2;obtain⟨_,_,h,_⟩:=h2;cases h
 |d::ds,es,vs,n,hd,he,h1,h2=>by
  unfold aD at h1;obtain⟨v,r,rfl,r1,r2⟩:=h1;cases es with
  |nil=>unfold aD at h2;cases h2
  |cons e es=>
   unfold aD at h2;obtain⟨v',r',h,q1,q2⟩:=h2;cases h;rw[U8,Ub]at hd he;rw[Rep.inj n hd.1 he.1 r1 q1,aD.inj n hd.2 he.2 r2 q2]
end
theorem ng:∀ {xs ys:List D},xs.length≠ys.length->ft xs ys=false
 | [],[],h=>absurd rfl h
 | [],_::_,_=>by unfold ft;rfl
 |_::_,[],_=>by unfold ft;rfl
 |x::xs,y::ys,h=>by
  unfold ft;rw[ng (by simpa using h),Xh]
theorem nP:∀ {xs ys:List D},xs.length=ys.length->ft xs ys=(List.range xs.length).all λ j=>cF (xs.getD j .ax) (ys.getD j .ax)
 | [],[],_=>by unfold ft;rfl
 | [],_::_,h=>by cases h
 |_::_,[],h=>by cases h
 |x::xs,y::ys,h=>by
  unfold ft;rw[Uv,Uq,U8,XO,nP (by simpa using h)];rfl
section
variable {X:Cx}{pins:List (Addr×Obj)}{σ:L2.St}{H:Hp}{s:Shared}{α:List (Option Addr)}
theorem jT{xs:List D}{vs:List V}{ai:List Value}(r:aD α H xs vs)(v:Vals vs ai)(j:Nat)(hj:j<ai.length):∃x,xs[j]?=some (xs.getD j .ax)/\Rep α H (xs.getD j .ax) x/\RelV x ai[j]:=by
 have h1:=r.length;have h2:=v.length;have hx:j<xs.length:=by omega
 have e:xs[j]?=some (xs.getD j .ax):=by rw[TM hx,Ug,TM hx];rfl
 obtain⟨x,q,rr⟩:=r.get e;obtain⟨u,q2,rv⟩:=v.get q;rw[TM hj]at q2;cases q2;exact⟨x,e,rr,rv⟩
theorem iI{xs:List D}{n:Nat}(h:xs.all (pl n)=true)(j:Nat):pl n (xs.getD j .ax)=true:=by
 rw[Ug];cases e:xs[j]? with
 |none=>cases n<;>rfl
 |some d=>exact Um.mp h d (Ui e)
def x3:D->Bool
 | .ax=>true
 | .bl _=>true
 | .int _=>true
 | .str _=>true
 |_=>false
theorem Dl{A:Around}{d e:D}{x y:V}{u v:Value}(hd:x3 d=true)(he:x3 e=true)(rd:Rep α H d x)(re:Rep α H e y)(rx:RelV x u)(ry:RelV y v):RcAt A s u v (cF d e)/\EqAt A s u v (cF d e):=by
 cases d<;>cases e<;>try(first|(cases hd;done)|(cases he;done))
 all_goals(unfold Rep at rd re;subst rd re)
 all_goals(first|(obtain⟨t,rfl⟩:=rx;obtain⟨t',rfl⟩:=ry)|(obtain⟨t,rfl⟩:=rx;cases ry)|(cases rx;obtain⟨t,rfl⟩:=ry)|(cases rx;cases ry))
 all_goals unfold cF
 . exact⟨RcAt.none_none,EqAt.same _⟩
 . exact⟨RcAt.none_bool _,EqAt.none_bool _⟩
 . exact⟨RcAt.none_int _ _,EqAt.none_int _ _⟩
 . exact⟨RcAt.none_str _ _,EqAt.none_str _ _⟩
 . exact⟨RcAt.bool_none _,EqAt.bool_none _⟩
 . exact⟨RcAt.bool_bool _ _,EqAt.bool_bool _ _⟩
 . exact⟨RcAt.bool_int _ _ _,EqAt.bool_int _ _ _⟩
 . exact⟨RcAt.bool_str _ _ _,EqAt.bool_str _ _ _⟩
 . exact⟨RcAt.int_none _ _,EqAt.int_none _ _⟩
 . exact⟨RcAt.int_bool _ _ _,EqAt.int_bool _ _ _⟩
 . exact⟨RcAt.int_int _ _ _ _,EqAt.int_int _ _ _ _⟩
 . exact⟨RcAt.int_str _ _ _ _,EqAt.int_str _ _ _ _⟩
 . exact⟨RcAt.str_none _ _,EqAt.str_none _ _⟩
 . exact⟨RcAt.str_bool _ _ _,EqAt.str_bool _ _ _⟩
 . exact⟨RcAt.str_int _ _ _ _,EqAt.str_int _ _ _ _⟩
 . exact⟨RcAt.str_str _ _ _ _,EqAt.str_str _ _ _ _⟩
theorem lst_is(I:Inv X pins σ H s){xs:List D}{x:V}{u:Value}(r:Rep α H (.lst xs) x)(rx:RelV x u):∃a vs ai,u= .ref a/\aD α H xs vs/\Vals vs ai/\s.heap.IsList a ai.toArray:=by
 unfold Rep at r;obtain⟨a,vs,rfl,na,ha,ra⟩:=r;cases rx;obtain⟨z,ai,n,rv,hl,eo⟩:=Inv.sx I ha;exact⟨a,vs,ai,rfl,ra,rv,⟨_,eo,rfl,n,rfl⟩⟩
theorem tup_is(I:Inv X pins σ H s){xs:List D}{x:V}{u:Value}(r:Rep α H (.tup xs) x)(rx:RelV x u):∃a vs ai,u= .ref a/\aD α H xs vs/\Vals vs ai/\s.heap.IsTuple a ai.toArray:=by
 unfold Rep at r;obtain⟨a,vs,rfl,na,ha,ra⟩:=r;cases rx;obtain⟨ai,r',p,hz⟩:=I.tuple (ie.of ha);exact⟨a,vs,ai,rfl,ra,r',p⟩
theorem yu(I:Inv X pins σ H s){A:Around}{xs:List D}{e:D}{x y:V}{u v:Value}(he:x3 e=true)(rd:Rep α H (.lst xs) x)(re:Rep α H e y)(rx:RelV x u)(ry:RelV y v)(hu:A.units<cLine):
 (RcAt A s u v (cF (.lst xs) e)/\EqAt A s u v (cF (.lst xs) e))/\RcAt A s v u (cF e (.lst xs))/\EqAt A s v u (cF e (.lst xs)):=by
 obtain⟨a,vs,ai,rfl,_,_,hl⟩:=lst_is I rd rx;cases e<;>try(cases he;done)
 all_goals(unfold Rep at re;subst re)
 all_goals(first|(obtain⟨t,rfl⟩:=ry)|(cases ry))
 all_goals unfold cF
 . exact⟨⟨RcAt.list_none hl hu,EqAt.list_none hl hu⟩,RcAt.none_list hl hu,EqAt.none_list hl hu⟩
 . exact⟨⟨RcAt.list_bool _ hl hu,EqAt.list_bool _ hl hu⟩,RcAt.bool_list _ hl hu,EqAt.bool_list _ hl hu⟩
 . exact⟨⟨RcAt.list_int _ _ hl hu,EqAt.list_int _ _ hl hu⟩,RcAt.int_list _ _ hl hu,EqAt.int_list _ _ hl hu⟩
 . exact⟨⟨RcAt.list_str _ _ hl hu,EqAt.list_str _ _ hl hu⟩,RcAt.str_list _ _ hl hu,EqAt.str_list _ _ hl hu⟩
theorem xT(I:Inv X pins σ H s){A:Around}{xs:List D}{e:D}{x y:V}{u v:Value}(he:x3 e=true)(rd:Rep α H (.tup xs) x)(re:Rep α H e y)(rx:RelV x u)(ry:RelV y v)(hu:A.units<cLine):
 (RcAt A s u v (cF (.tup xs) e)/\EqAt A s u v (cF (.tup xs) e))/\RcAt A s v u (cF e (.tup xs))/\EqAt A s v u (cF e (.tup xs)):=by
 obtain⟨a,vs,ai,rfl,_,_,hl⟩:=tup_is I rd rx;cases e<;>try(cases he;done)
 all_goals(unfold Rep at re;subst re)
 all_goals(first|(obtain⟨t,rfl⟩:=ry)|(cases ry))
 all_goals unfold cF
 . exact⟨⟨RcAt.tuple_none hl hu,EqAt.tuple_none hl hu⟩,RcAt.none_tuple hl hu,EqAt.none_tuple hl hu⟩
 . exact⟨⟨RcAt.tuple_bool _ hl hu,EqAt.tuple_bool _ hl hu⟩,RcAt.bool_tuple _ hl hu,EqAt.bool_tuple _ hl hu⟩
 . exact⟨⟨RcAt.tuple_int _ _ hl hu,EqAt.tuple_int _ _ hl hu⟩,RcAt.int_tuple _ _ hl hu,EqAt.int_tuple _ _ hl hu⟩
 . exact⟨⟨RcAt.tuple_str _ _ hl hu,EqAt.tuple_str _ _ hl hu⟩,RcAt.str_tuple _ _ hl hu,EqAt.str_tuple _ _ hl hu⟩
theorem Ct{A:Around}{n:Nat}{d e:D}{x y:V}{a b:Addr}(hd:pl n d=true)(he:pl n e=true)(rd:Rep α H d x)(re:Rep α H e y)(rx:RelV x (.ref a))(ry:RelV y (.ref b))(h:RcAt A s (.ref a) (.ref b) (cF d e)):
 RcAt A s (.ref a) (.ref b) (cF d e)/\EqAt A s (.ref a) (.ref b) (cF d e):=by
 refine⟨h,?_⟩;by_cases hab:a=b
 . subst hab;have hx:x=y:=RelV.inj rx ry;subst hx;have:=Rep.inj n hd he rd re;subst this;rw[u0 n d hd];exact EqAt.same _
 . exact EqAt.of_refs hab h
theorem DW(I:Inv X pins σ H s):∀(n:Nat) (A:Around) (d e:D) (x y:V) (u v:Value),pl n d=true->pl n e=true->Rep α H d x->Rep α H e y->RelV x u->RelV y v->A.units+n<cLine->
 RcAt A s u v (cF d e)/\EqAt A s u v (cF d e):=by
 intro n;induction n with
 |zero=>
  intro A d e x y u v hd he rd re rx ry hu;refine Dl ?_ ?_ rd re rx ry
  . cases d<;>first|rfl|(cases hd)
  . cases e<;>first|rfl|(cases he)
 |succ n ih=>
  intro A d e x y u v hd he rd re rx ry hu;have hu0:A.units<cLine:=by omega
  have hin:A.in1.units+n<cLine:=by rw[Around.in1_units];omega
  cases d<;>try(cases hd;done)
  case lst xs=>
   cases e<;>try(cases he;done)
   case lst ys=>
    have rd0:=rd;have re0:=re;have rx0:=rx;have ry0:=ry;obtain⟨a,vs,ai,rfl,r1,v1,l1⟩:=lst_is I rd rx;obtain⟨b,ws,jts,rfl,r2,v2,l2⟩:=lst_is I re ry;have e1:=r1.length;have e2:=v1.length;have e3:=r2.length;have e4:=v2.length;refine Ct hd he rd0 re0 rx0 ry0 ?_;unfold cF;by_cases hlen:xs.length=ys.length
    . rw[nP hlen];have hsz:ai.toArray.size=jts.toArray.size:=by simp only[TL];omega
      have hx:xs.length=ai.toArray.size:=by simp only[TL];omega
      rw[hx];refine RcAt.lists l1 l2 hsz hu0 λ j h1 h2=>?_;have h1':j<ai.length:=by simpa using h1
      have h2':j<jts.length:=by simpa using h2
      obtain⟨p,_,q1,q2⟩:=jT r1 v1 j h1';obtain⟨p',_,q1',q2'⟩:=jT r2 v2 j h2';exact(ih A.in1 _ _ p p' _ _ (iI (by unfold pl at hd;exact hd) j) (iI (by unfold pl at he;exact he) j) q1 q1' (by simpa using q2) (by simpa using q2') hin).2
    . rw[ng hlen];exact RcAt.lists_lengths l1 l2 (by simp only[TL,W6,ne_eq];omega) hu0
   case tup ys=>
    obtain⟨a,vs,ai,rfl,r1,v1,l1⟩:=lst_is I rd rx;obtain⟨b,ws,jts,rfl,r2,v2,l2⟩:=tup_is I re ry;unfold cF;exact⟨RcAt.list_tuple l1 l2 hu0,EqAt.list_tuple l1 l2 hu0⟩
   all_goals exact(yu I rfl rd re rx ry hu0).1
  case tup xs=>
   cases e<;>try(cases he;done)
   case tup ys=>
    have rd0:=rd;have re0:=re;have rx0:=rx;have ry0:=ry;obtain⟨a,vs,ai,rfl,r1,v1,l1⟩:=tup_is I rd rx;obtain⟨b,ws,jts,rfl,r2,v2,l2⟩:=tup_is I re ry;have e1:=r1.length;have e2:=v1.length;have e3:=r2.length;have e4:=v2.length;refine Ct hd he rd0 re0 rx0 ry0 ?_;unfold cF
    have key:=RcAt.tuples (e:=λ j=>cF (xs.getD j .ax) (ys.getD j .ax)) l1 l2 hu0 λ j h1 h2=>by
     have h1':j<ai.length:=by simpa using h1
     have h2':j<jts.length:=by simpa using h2
     obtain⟨p,_,q1,q2⟩:=jT r1 v1 j h1';obtain⟨p',_,q1',q2'⟩:=jT r2 v2 j h2';exact(ih A.in1 _ _ p p' _ _ (iI (by unfold pl at hd;exact hd) j) (iI (by unfold pl at he;exact he) j) q1 q1' (by simpa using q2) (by simpa using q2') hin).2
    by_cases hlen:xs.length=ys.length
    . rw[nP hlen];have hsz:ai.toArray.size=jts.toArray.size:=by simp only[TL];omega
      have hx:xs.length=ai.toArray.size:=by simp only[TL];omega
      rw[hsz,YA,WU,Bool.and_true,<-hsz,<-hx]at key;exact key
    . rw[ng hlen];have hne:(ai.toArray.size==jts.toArray.size)=false:=by simp only[TL,VJ,ne_eq];omega
      rw[hne,Xh]at key;exact key
   case lst ys=>
    obtain⟨a,vs,ai,rfl,r1,v1,l1⟩:=tup_is I rd rx;obtain⟨b,ws,jts,rfl,r2,v2,l2⟩:=lst_is I re ry;unfold cF;exact⟨RcAt.tuple_list l1 l2 hu0,EqAt.tuple_list l1 l2 hu0⟩
   all_goals exact(xT I rfl rd re rx ry hu0).1
  all_goals
   cases e<;>try(cases he;done)
   case lst ys=>exact(yu I rfl re rd ry rx hu0).2
   case tup ys=>exact(xT I rfl re rd ry rx hu0).2
   all_goals exact Dl rfl rfl rd re rx ry
def OI:df:=λ x y st K=>pl 40 x=true/\pl 40 y=true/\K (.bl (cF x y)) st
theorem Sn{k:Nat}(hr:cJ k X.A):bV X (compareOp .Eq) (LR OI):=λ pins s σ H x y v u Q I rx ry ⟨α,d,e,st,K,G,F',P,r1,r2,S,q,k⟩=>by
 have hu:=hr.units;exact(DW I 40 X.A d e x y v u q.1 q.2.1 (r1.mono P.same) (r2.mono P.same) rx ry (by omega)).1 _ _ _ _ ⟨.bl (cF d e),H,I,rfl,k.here P q.2.2 S (by unfold Rep;rfl)⟩
def Ox:df:=λ x y st K=>match x,y with
 | .int i,.int j=>K (.bl (!decide (i=j))) st
 | .bl i,.bl j=>K (.bl (!decide (i=j))) st
 | .str i,.str j=>K (.bl (!decide (i=j))) st
 |_,_=>False
theorem RI:bV X (compareOp .NotEq) (LR Ox):=bV.imp Pa λ x y H Q ⟨α,d,e,st,K,G,F',P,r1,r2,S,q,k⟩=>by
 cases d<;>cases e<;>try exact q.elim
 all_goals(unfold Rep at r1 r2;subst r1 r2)
 . exact⟨rfl,k.here P q S (by unfold Rep;congr 2;exact XQ.mpr ⟨λ h=>by cases h;rfl,λ h=>by rw[h]⟩)⟩
 . exact⟨rfl,k.here P q S (by unfold Rep;congr 2;exact XQ.mpr ⟨λ h=>by cases h;rfl,λ h=>by rw[h]⟩)⟩
 . exact⟨rfl,k.here P q S (by unfold Rep;congr 2;exact XQ.mpr ⟨λ h=>by cases h;rfl,λ h=>by rw[h]⟩)⟩
end
end L3
namespace L3
open PySem PySem.Spec L2
open PyProof.Rows hiding St
def LC(α:List (Option Addr))(G F:Hp)(K:bF->ae->Prop)(Q:L2.St->Hp->Prop):Prop:=∀σd' st',K σd' st'->∀α' G' H' σ',Step α G α' G'->bZ G' F H'->dw α' G' σd' σ'->aM α' st' G'->Q σ' H'
structure zq(α:List (Option Addr))(G F:Hp)(DD:k6)(D:Ends):Prop where
 nx:LC α G F DD.nx D.nx
 rt:LK α G F DD.rt D.rt
 bk:LC α G F DD.bk D.bk
 ct:LC α G F DD.ct D.ct
inductive Q4(t:DS)(D:Ends)(σ:L2.St)(H:Hp):Prop
 |mk (α:List (Option Addr)) (σd:bF) (st:ae) (DD:k6) (G F:Hp) (P:bZ G F H) (R:dw α G σd σ) (S:aM α st G) (h:t DD σd st) (k:zq α G F DD D):Q4 t D σ H
def LS(t:DS):TS:=Q4 t
theorem LC.at{α α1:List (Option Addr)}{G F G1:Hp}{K:bF->ae->Prop}{Q:L2.St->Hp->Prop}(h:LC α G F K Q)(s:Step α G α1 G1):LC α1 G1 F K Q:=λ d st' k α' G' H' v s' P R S=>h d st' k α' G' H' v (s.trans s') P R S
theorem LC.here{α:List (Option Addr)}{G F H:Hp}{K:bF->ae->Prop}{Q:L2.St->Hp->Prop}(h:LC α G F K Q)(P:bZ G F H){σd:bF}{st:ae}{σ:L2.St}(k:K σd st)(R:dw α G σd σ)(S:aM α st G):Q σ H:=h σd st k α G H σ Step.refl P R S
theorem zq.at{α α1:List (Option Addr)}{G F G1:Hp}{DD:k6}{D:Ends}(h:zq α G F DD D)(s:Step α G α1 G1):zq α1 G1 F DD D:=⟨h.nx.at s,h.rt.at s,h.bk.at s,h.ct.at s⟩
section
variable {X:Cx}{a b c e o i:Expr}{es:List Expr}{ta tb tc te:DE}{pos:Pos}{st:Stmt}{sts:List Stmt}{t u:DS}
theorem PS.imp{t t':TS}(h:PS X st t)(f:∀D σ H,t' D σ H->t D σ H):PS X st t':=λ pins s σ H D I q=>h pins s σ H D I (f D σ H q)
theorem gH.imp{t t':TS}(h:gH X sts t)(f:∀D σ H,t' D σ H->t D σ H):gH X sts t':=λ pins s σ H D I q=>h pins s σ H D I (f D σ H q)
def cv:DS:=λ D σ st=>D.nx σ st
def az(t u:DS):DS:=λ D σ st=>t {D with nx:=u D} σ st
theorem LH:gH X [] (LS cv):=gH.imp K9 λ D σ H ⟨α,σd,st,DD,G,F,P,R,S,t,k⟩=>k.nx.here P t R S
theorem Mt(h:PS X st (LS t)):gH X [st] (LS t):=Lz h
theorem Hl(h:PS X st (LS t))(h2:gH X sts (LS u)):gH X (st::sts) (LS (az t u)):=gH.imp (Io h h2) λ D σ H ⟨α,σd,st,DD,G,F,P,R,S,t,k⟩=>
 ⟨α,σd,st,_,G,F,P,R,S,t,λ σd' st' q α' G' H' σ' s' P' R' S'=>⟨α',σd',st',DD,G',F,P',R',S',q,k.at s'⟩,k.rt,k.bk,k.ct⟩
def a7(te:DE):DS:=λ D σ st=>te σ st D.rt
theorem MQ(h:PE X e (LE te)):PS X (.Return (some e) pos) (LS (a7 te)):=PS.imp (OP h) λ D σ H ⟨α,σd,st,DD,G,F,P,R,S,t,k⟩=>⟨α,σd,st,_,G,F,P,R,S,t,k.rt⟩
def fb(te:DE):DS:=λ D σ st=>te σ st λ _ st1=>D.nx σ st1
theorem KG(h:PE X e (LE te))(hs:swapsWith e none pos.line X.env=pure false:=by rfl):PS X (.Expr e pos) (LS (fb te)):=PS.imp (Ld h hs) λ D σ H ⟨α,σd,st,DD,G,F,P,R,S,t,k⟩=>
 ⟨α,σd,st,_,G,F,P,R,S,t,λ d st1 q α1 G1 H1 v s1 P1 S1 r1=>(k.nx.at s1).here P1 q (R.step s1) S1⟩
def cZ(c:DT)(t u:DS):DS:=λ D σ st=>c σ st λ b st1=>if b=true then t D σ st1 else u D σ st1
theorem Qa{x y:List Stmt}{tc:DT}(hc:PT X c (LT tc))(ha:gH X x (LS t))(hb:gH X y (LS u)):PS X (.If c x y pos) (LS (cZ tc t u)):=PS.imp (QQ hc ha hb) λ D σ H ⟨α,σd,st,DD,G,F,P,R,S,t,k⟩=>by
 refine⟨α,σd,st,_,G,F,P,R,S,t,λ b st1 q α1 G1 H1 s1 P1 S1=>?_⟩;cases b with
 |true=>exact⟨α1,σd,st1,DD,G1,F,P1,R.step s1,S1,q,k.at s1⟩
 |false=>exact⟨α1,σd,st1,DD,G1,F,P1,R.step s1,S1,q,k.at s1⟩
abbrev ef:=D->bF->Option bF
def aK(i:Nat):ef:=λ d σ=>some (σ.set i (some d))
def gO(i j:Nat):ef:=λ d σ=>match d with| .tup [x,y]=>some ((σ.set i (some x)).set j (some y))|_=>none
inductive Q5(t:ef)(v:V)(σ:L2.St)(H:Hp)(Q:L2.St->Hp->Prop):Prop
 |mk (α:List (Option Addr)) (σd:bF) (st:ae) (d:D) (K:bF->ae->Prop) (G F:Hp) (P:bZ G F H) (R:dw α G σd σ) (S:aM α st G) (r:Rep α G d v) (h:∃σ',t d σd=some σ'/\K σ' st) (k:LC α G F K Q):Q5 t v σ H Q
def LG(t:ef):TG:=Q5 t
theorem PG.imp{tg:Expr}{t t':TG}(h:PG X tg t)(f:∀v σ H Q,t' v σ H Q->t v σ H Q):PG X tg t':=λ pins s σ H v u Q I r q=>h pins s σ H v u Q I r (f v σ H Q q)
theorem KN{tg:Expr}{i:Nat}(h:PG X tg (dA i)):PG X tg (LG (aK i)):=PG.imp h λ v σ H Q ⟨α,σd,st,d,K,G,F,P,R,S,r,⟨σ',e,q⟩,k⟩=>by
 cases e;exact k.here P q (R.set i r) S
theorem MJ{tg:Expr}{i j:Nat}(h:PG X tg (EC X.K 2 (ff (dA i) (ff (dA j) xf)))):PG X tg (LG (gO i j)):=PG.imp h λ v σ H Q ⟨α,σd,st,d,K,G,F,P,R,S,r,⟨σ',e,q⟩,k⟩=>by
 unfold gO at e;split at e
 . rename_i x y;cases e;unfold Rep at r;obtain⟨a,vs,rfl,na,h1,h2⟩:=r;obtain⟨v1,v2,rfl,r1,r2⟩:=mJ h2 rfl;exact⟨a,_,rfl,.of (P.get h1),rfl,v1,_,rfl,v2,_,rfl,rfl,k.here P q ((R.set i r1).set j r2) S⟩
 . cases e
def bJ(i:Nat)(te:DE):DS:=λ D σ st=>te σ st λ d st1=>D.nx (σ.set i (some d)) st1
theorem N_{i:Nat}(h:PS X st (l9 (LE te) (dA i))):PS X st (LS (bJ i te)):=PS.imp h λ D σ H ⟨α,σd,st,DD,G,F,P,R,S,t,k⟩=>
 ⟨α,σd,st,_,G,F,P,R,S,t,λ d st1 q α1 G1 H1 v s1 P1 S1 r1=>(k.nx.at s1).here P1 q ((R.step s1).set i r1) S1⟩
def uV(tg:ef)(te:DE):DS:=λ D σ st=>te σ st λ d st1=>∃σ',tg d σ=some σ'/\D.nx σ' st1
theorem Np{tg:ef}(h:PS X st (l9 (LE te) (LG tg))):PS X st (LS (uV tg te)):=PS.imp h λ D σ H ⟨α,σd,st,DD,G,F,P,R,S,t,k⟩=>
 ⟨α,σd,st,_,G,F,P,R,S,t,λ d st1 q α1 G1 H1 v s1 P1 S1 r1=>⟨α1,σd,st1,d,DD.nx,G1,F,P1,R.step s1,S1,r1,q,k.nx.at s1⟩⟩
def IF(i j:Nat)(ta:DA):DS:=λ D σ st=>ta σ st λ ds st1=>match ds with| [x,y]=>D.nx ((σ.set i (some x)).set j (some y)) st1|_=>False
theorem Nq{i j:Nat}{ta:DA}(h:PS X st (Og i j (LA ta))):PS X st (LS (IF i j ta)):=PS.imp h λ D σ H ⟨α,σd,st,DD,G,F,P,R,S,t,k⟩=>by
 refine⟨α,σd,st,_,G,F,P,R,S,t,λ ds st1 q α1 G1 H1 vs s1 P1 S1 r1=>?_⟩;match ds,q,r1 with
 | [x,y],q,r1=>
   obtain⟨v1,v2,rfl,q1,q2⟩:=mJ r1 rfl;exact⟨v1,v2,rfl,(k.nx.at s1).here P1 q (((R.step s1).set i q1).set j q2) S1⟩
def DU(i:Nat)(r:df)(te:DE):DS:=λ D σ st=>match σ[i]? with|some (some x)=>te σ st λ y st1=>r x y st1 λ z st2=>D.nx (σ.set i (some z)) st2|_=>False
def BH(f:Int->Int->Int):df:=λ x y st K=>match x,y with| .int i,.int j=>K (.int (f i j)) st|_,_=>False
theorem MA{i:Nat}{f:Int->Int->Int}(h:PS X st (N6 i (LE te) (NY f))):PS X st (LS (DU i (BH f) te)):=PS.imp h λ D σ H ⟨α,σd,st,DD,G,F,P,R,S,t,k⟩=>by
 unfold DU at t;split at t
 . rename_i x e;obtain⟨v,ev,rv⟩:=R.at' i x e;refine⟨v,ev,α,σd,st,_,G,F,P,R,S,t,λ y st1 q α1 G1 H1 w s1 P1 S1 r1=>?_⟩;cases x<;>cases y<;>try exact q.elim
   have rv':=rv;unfold Rep at rv r1;exact⟨_,_,rv,r1,(k.nx.at s1).here P1 q ((R.step s1).set i (by unfold Rep;rfl)) S1⟩
 . exact t.elim
def BA(x y d:D)(st:ae)(K:ae->Prop):Prop:=match x,y with
 | .ref n,.int k=>(match st[n]? with
   |some (.lst xs)=>(match ni xs.length k with|some j=>K (st.set n (.lst (xs.set j d)))|none=>False)
   |_=>False)
 |_,_=>False
def Oe(to ti te:DE):DS:=λ D σ st=>te σ st λ d st1=>to σ st1 λ x st2=>ti σ st2 λ y st3=>BA x y d st3 λ st4=>D.nx σ st4
theorem Hz{to ti:DE}(h:PS X st (l9 (LE te) (zC (LE to) (LE ti) wy))):PS X st (LS (Oe to ti te)):=PS.imp h λ D σ H ⟨α,σd,st,DD,G,F,P,R,S,t,k⟩=>by
 refine⟨α,σd,st,_,G,F,P,R,S,t,λ d st1 q α1 G1 H1 v s1 P1 S1 r1=>?_⟩;refine⟨α1,σd,st1,_,G1,F,P1,R.step s1,S1,q,λ x st2 q2 α2 G2 H2 v2 s2 P2 S2 r2=>?_⟩;refine⟨α2,σd,st2,_,G2,F,P2,(R.step s1).step s2,S2,q2,λ y st3 q3 α3 G3 H3 v3 s3 P3 S3 r3=>?_⟩;cases x<;>cases y<;>try exact q3.elim
 rename_i n kk;unfold BA at q3;simp only at q3;split at q3
 . rename_i xs e;split at q3
   . rename_i j ej;obtain⟨p,ep,vs,hv,rv⟩:=S3.ib e;have r2':=dX ep (r2.step s3);subst r2';unfold Rep at r3;have hm:some p∈α3:=Ui ep;have rd:=(r1.step s2).step s3;refine⟨p,vs,kk,j,rfl,r3,P3.get hv,by rw[<-rv.length];exact ej,?_⟩;refine(((k.nx.at s1).at s2).at s3) σd _ q3 α3 (upd G3 p (.lst (vs.set j v))) _ σ (Step.write hm) (P3.write hv) ((((R.step s1).step s2).step s3).step (Step.write hm)) ?_;exact S3.write ep ⟨vs.set j v,aW,(a8.mpr (qi rd j (a8.mp rv))).step (Step.write hm)⟩
   . exact q3.elim
 . exact q3.elim
def vm(c:DT)(tb:DS):DS:=λ D σ st=>∃W:Nat->bF->ae->Prop,(∃m,W m σ st)/\∀m σ st,W m σ st->
 c σ st λ b st1=>if b=true then tb {D with nx:=λ σ' st'=>∃m',m'<m/\W m' σ' st',ct:=λ σ' st'=>∃m',m'<m/\W m' σ' st',bk:=D.nx} σ st1 else D.nx σ st1
theorem Iq{tc:DT}(h:PS X st (Fw (LT tc) (LS t))):PS X st (LS (vm tc t)):=PS.imp h λ D σ H ⟨α,σd,st,DD,G,F,P,R,S,⟨W,⟨m0,w0⟩,turn⟩,k⟩=>by
 refine⟨λ m σ' H'=>∃α' σd' st' G',Step α G α' G'/\bZ G' F H'/\dw α' G' σd' σ'/\aM α' st' G'/\W m σd' st',⟨m0,α,σd,st,G,Step.refl,P,R,S,w0⟩,?_⟩;rintro m σ1 H1 ⟨α1,σd1,st1,G1,s1,P1,R1,S1,w1⟩;refine⟨α1,σd1,st1,_,G1,F,P1,R1,S1,turn m σd1 st1 w1,λ b st2 q α2 G2 H2 s2 P2 S2=>?_⟩;cases b with
 |false=>exact((k.nx.at s1).at s2).here P2 q (R1.step s2) S2
 |true=>
  refine⟨λ σ' H'=>∃m',m'<m/\∃α' σd' st' G',Step α G α' G'/\bZ G' F H'/\dw α' G' σd' σ'/\aM α' st' G'/\W m' σd' st',λ σ' H' z=>z,?_⟩;refine⟨α2,σd1,st2,_,G2,F,P2,R1.step s2,S2,q,?_⟩;refine⟨?_,(k.rt.at s1).at s2,(k.nx.at s1).at s2,?_⟩
  . rintro σd3 st3 ⟨m',hm,w3⟩ α3 G3 H3 σ3 s3 P3 R3 S3;exact⟨m',hm,α3,σd3,st3,G3,(s1.trans s2).trans s3,P3,R3,S3,w3⟩
  . rintro σd3 st3 ⟨m',hm,w3⟩ α3 G3 H3 σ3 s3 P3 R3 S3;exact⟨m',hm,α3,σd3,st3,G3,(s1.trans s2).trans s3,P3,R3,S3,w3⟩
abbrev DI:=bF->ae->(List D->(ae->Prop)->ae->Prop)->Prop
structure w6(J:It)(α:List (Option Addr))(G:Hp)(ok:ae->Prop)(xs:List D):Prop where
 stop:∀(n:Nat) α' G' F' H' st',Step α G α' G'->bZ G' F' H'->aM α' st' G'->ok st'->xs.length<=n->J.stop n H'
 go:∀(n:Nat) d α' G' F' H' st',Step α G α' G'->bZ G' F' H'->aM α' st' G'->ok st'->xs[n]?=some d->J.go n H'
 pE:∀(n:Nat) d α' G' F' H' st' x H'',Step α G α' G'->bZ G' F' H'->aM α' st' G'->ok st'->xs[n]?=some d->J.pE n H' x H''->∃G'',Step α' G' α' G''/\bZ G'' F' H''/\aM α' st' G''/\Rep α' G'' d x
def LI(t:DI):TI:=λ σ H R=>∃α σd st K G F,bZ G F H/\dw α G σd σ/\aM α st G/\t σd st K/\∀xs ok st1,K xs ok st1->∀J α1 G1 H1,Step α G α1 G1->bZ G1 F H1->aM α1 st1 G1->w6 J α1 G1 ok xs->R J H1
def wV(d:D)(st1:ae)(K:List D->(ae->Prop)->ae->Prop):Prop:=match d with
 | .lst xs=>K xs (λ _=>True) st1
 | .tup xs=>K xs (λ _=>True) st1
 | .ref n=>(match st1[n]? with|some (.lst xs)=>K xs (λ st'=>st'[n]?=some (.lst xs)) st1|_=>False)
 |_=>False
def Po(t:DE):DI:=λ σ st K=>t σ st λ d st1=>wV d st1 K
theorem Dm{K:PySem.W.Frag}{a:Addr}{α:List (Option Addr)}{G:Hp}{ok:ae->Prop}{xs:List D}
 (h:∀α' G' st',Step α G α' G'->aM α' st' G'->ok st'->∃vs,Rd G' a (.lst vs)/\aD α' G' xs vs):w6 (ML K a) α G ok xs where
 stop:=λ n α' G' F' H' st' s P S o hn=>by
  obtain⟨vs,h1,h2⟩:=h α' G' st' s S o;exact⟨vs,.inl (fH P h1),by rw[<-h2.length];exact hn⟩
 go:=λ n d α' G' F' H' st' s P S o hn=>by
  obtain⟨vs,h1,h2⟩:=h α' G' st' s S o;obtain⟨v,e,_⟩:=h2.get hn;exact⟨vs,v,.inl (fH P h1),e⟩
 pE:=λ n d α' G' F' H' st' x H'' s P S o hn y=>by
  obtain⟨vs,h1,h2⟩:=h α' G' st' s S o;obtain⟨v,e,r⟩:=h2.get hn;obtain⟨rfl,y⟩:=y;have:=y vs (.inl (fH P h1));rw[e]at this;cases this;exact⟨G',Step.refl,P,S,r⟩
theorem OX{K:PySem.W.Frag}{a:Addr}{α:List (Option Addr)}{G:Hp}{ok:ae->Prop}{xs:List D}
 (h:∀α' G' st',Step α G α' G'->aM α' st' G'->ok st'->∃vs,G' a=some (.tup vs)/\aD α' G' xs vs):w6 (Ny K a) α G ok xs where
 stop:=λ n α' G' F' H' st' s P S o hn=>by
  obtain⟨vs,h1,h2⟩:=h α' G' st' s S o;exact⟨vs,.of (P.get h1),by rw[<-h2.length];exact hn⟩
 go:=λ n d α' G' F' H' st' s P S o hn=>by
  obtain⟨vs,h1,h2⟩:=h α' G' st' s S o;obtain⟨v,e,_⟩:=h2.get hn;exact⟨vs,v,.of (P.get h1),e⟩
 pE:=λ n d α' G' F' H' st' x H'' s P S o hn y=>by
  obtain⟨vs,h1,h2⟩:=h α' G' st' s S o;obtain⟨v,e,r⟩:=h2.get hn;obtain⟨rfl,y⟩:=y;have:=y vs (.of (P.get h1));rw[e]at this;cases this;exact⟨G',Step.refl,P,S,r⟩
theorem HZ{α α':List (Option Addr)}{G G':Hp}{a:Addr}{vs:List V}{xs:List D}(s:Step α G α' G')(na:some a∉α)(h1:Rd G a (.lst vs))(h2:aD α G xs vs):Rd G' a (.lst vs)/\aD α' G' xs vs:=by
 refine⟨?_,h2.step s⟩;rcases h1 with h|⟨o,h⟩
 . exact .inl (s.ext _ _ na h)
 . exact .inr ⟨o,s.ext _ _ na h⟩
theorem OG{l tg:Expr}{tl:DE}(hl:PE X l (LE tl)):PI X tg l (LI (Po tl)):=by
 intro pins s σ H R I h;obtain⟨α,σd,st,K,G,F,P,RS,S,t,k⟩:=h;refine bP (hl pins s σ H (λ x H1=>∃d α1 G1 st1,Step α G α1 G1/\bZ G1 F H1/\aM α1 st1 G1/\Rep α1 G1 d x/\wV d st1 K) I ⟨α,σd,st,_,G,F,P,RS,S,t,λ d st1 q α1 G1 H1 v s1 P1 S1 r1=>⟨d,α1,G1,st1,s1,P1,S1,r1,q⟩⟩) λ v s1 ⟨x,H1,I1,rx,d,α1,G1,st1,s1',P1,S1,r1,q⟩=>?_;unfold wV at q
 have viaL:∀ {a:Addr} {vs:List V},x= .ref a->Rd H1 a (.lst vs)->R (ML X.K a) H1->wpAny (model X.prog X.w) X.A (pyIter v) (JU X pins σ tg R) X.xe s1:=by
  intro a vs ex hr hR;subst ex;cases rx;obtain⟨ai,rv,p,hz⟩:=I1.list (.inl hr);refine Wh p.isList ?_;refine⟨s1.heap.objs.size,[s1.heap.objs.size],_,_,H1,rfl,I1.kept (t':=s1.toks) λ b o e=>Tz _ e,F_ a _,⟨_,TX _ rfl,rfl,rfl⟩,λ b hb=>?_,hR⟩;have e:b=s1.heap.objs.size:=by simpa using hb
  subst e;exact I1.wX (Tu _) (I1.aF.fresh (Tu _))
 have viaT:∀ {a:Addr} {vs:List V},x= .ref a->H1 a=some (.tup vs)->R (Ny X.K a) H1->wpAny (model X.prog X.w) X.A (pyIter v) (JU X pins σ tg R) X.xe s1:=by
  intro a vs ex hr hR;subst ex;cases rx;obtain⟨ai,rv,p,hz⟩:=I1.tuple (ie.of hr);refine Wb (show s1.heap.IsTuple a ai.toArray from p) ?_;refine⟨s1.heap.objs.size,[s1.heap.objs.size],_,_,H1,rfl,I1.kept (t':=s1.toks) λ b o e=>Tz _ e,D2 a _,⟨_,TX _ rfl,rfl,rfl⟩,λ b hb=>?_,hR⟩;have e:b=s1.heap.objs.size:=by simpa using hb
  subst e;exact I1.wX (Tu _) (I1.aF.fresh (Tu _))
 cases d<;>try exact q.elim
 . rename_i n;simp only at q;split at q
   . rename_i xs e;obtain⟨a,ea,vs,h1,h2⟩:=S1.ib e;have r1':=dX ea r1;subst r1';refine viaL rfl (fH P1 (.of h1)) (k _ _ st1 q _ α1 G1 H1 s1' P1 S1 (Dm λ α' G' st' s S o=>?_));obtain⟨b,eb,ws,g1,g2⟩:=S.ib o
     have hb:b=a:=by
      rcases s.pre _ _ ea with z|z<;>(rw[z]at eb;cases eb)
      rfl
     subst hb;exact⟨ws,.of g1,g2⟩
   . exact q.elim
 . unfold Rep at r1;obtain⟨a,vs,rfl,na,ha,ra⟩:=r1;exact viaL rfl (fH P1 ha) (k _ _ st1 q _ α1 G1 H1 s1' P1 S1 (Dm λ α' G' st' s S o=>⟨vs,HZ s na ha ra⟩))
 . unfold Rep at r1;obtain⟨a,vs,rfl,na,ha,ra⟩:=r1;exact viaT rfl (P1.get ha) (k _ _ st1 q _ α1 G1 H1 s1' P1 S1 (OX λ α' G' st' s S o=>⟨vs,s.ext _ _ na ha,ra.step s⟩))
def cX(lo:Int)(n:Nat):List D:=(List.range n).map λ(k:Nat)=>D.int (lo+(k:Int))
theorem vk{lo:Int}{n k:Nat}:(cX lo n)[k]?=if k<n then some (.int (lo+(k:Int)))else none:=by
 unfold cX;rw[T7];by_cases h:k<n
 . rw[Xf h,TC h];rfl
 . rw[Yl (by simpa using h),Tv h];rfl
theorem cw{lo:Int}{n:Nat}:(cX lo n).length=n:=by unfold cX;simp
theorem As{α:List (Option Addr)}{G:Hp}{lo:Int}{n:Nat}:w6 (yv lo n) α G (λ _=>True) (cX lo n) where
 stop:=λ m α' G' F' H' st' s P S o hn=>by rw[cw]at hn;exact hn
 go:=λ m d α' G' F' H' st' s P S o hn=>by
  rw[vk]at hn;split at hn
  . assumption
  . cases hn
 pE:=λ m d α' G' F' H' st' x H'' s P S o hn y=>by
  obtain⟨rfl,rfl⟩:=y;rw[vk]at hn;split at hn
  . cases hn;exact⟨G',Step.refl,P,S,by unfold Rep;rfl⟩
  . cases hn
theorem PI.imp{tg iter:Expr}{t t':TI}(h:PI X tg iter t)(f:∀σ H R,t' σ H R->t σ H R):PI X tg iter t':=λ pins s σ H R I q=>h pins s σ H R I (f σ H R q)
def Ku(ds:List D)(st1:ae)(K:List D->(ae->Prop)->ae->Prop):Prop:=match ds with
 | [.int j]=>(-(2^62)<=j/\j<2^62)/\K (cX 0 j.toNat) (λ _=>True) st1
 |_=>False
def Je(ds:List D)(st1:ae)(K:List D->(ae->Prop)->ae->Prop):Prop:=match ds with
 | [.int i,.int j]=>(-(2^62)<=i/\i<2^62/\ -(2^62)<=j/\j<2^62)/\K (cX i (j-i).toNat) (λ _=>True) st1
 |_=>False
def Ma(t:DA):DI:=λ σ st K=>t σ st λ ds st1=>Ku ds st1 K
def L6(t:DA):DI:=λ σ st K=>t σ st λ ds st1=>Je ds st1 K
theorem FF{tg iter:Expr}{t:DA}(h:PI X tg iter (DC (LA t))):PI X tg iter (LI (Ma t)):=PI.imp h λ σ H R ⟨α,σd,st,K,G,F,P,RS,S,t,k⟩=>by
 refine⟨α,σd,st,_,G,F,P,RS,S,t,λ ds st1 q α1 G1 H1 vs s1 P1 S1 r1=>?_⟩;match ds,q,r1 with
 | [.int j],q,r1=>
   obtain⟨v,rfl,r2⟩:=gh r1 rfl;unfold Rep at r2;subst r2;exact⟨j,rfl,q.1.1,q.1.2,k _ _ st1 q.2 _ α1 G1 H1 s1 P1 S1 As⟩
theorem E3{tg iter:Expr}{t:DA}(h:PI X tg iter (EU (LA t))):PI X tg iter (LI (L6 t)):=PI.imp h λ σ H R ⟨α,σd,st,K,G,F,P,RS,S,t,k⟩=>by
 refine⟨α,σd,st,_,G,F,P,RS,S,t,λ ds st1 q α1 G1 H1 vs s1 P1 S1 r1=>?_⟩;match ds,q,r1 with
 | [.int i,.int j],q,r1=>
   obtain⟨v,u,rfl,r2,r3⟩:=mJ r1 rfl;unfold Rep at r2 r3;subst r2 r3;exact⟨i,j,rfl,q.1,k _ _ st1 q.2 _ α1 G1 H1 s1 P1 S1 As⟩
def iQ(tg:ef)(body:DS)(ok:ae->Prop)(E:k6):List D->bF->ae->Prop
 | [],σ,st=>ok st/\E.nx σ st
 |x::xs,σ,st=>ok st/\∃σ1,tg x σ=some σ1/\body {E with nx:=iQ tg body ok E xs,ct:=iQ tg body ok E xs,bk:=E.nx} σ1 st
def ia(src:DI)(tg:ef)(body:DS):DS:=λ D σ st=>src σ st λ xs ok st1=>iQ tg body ok D xs σ st1
theorem MK{src:DI}{tg:ef}(h:PS X st (OF (LI src) (LG tg) (LS t))):PS X st (LS (ia src tg t)):=PS.imp h λ D σ H ⟨α,σd,st,DD,G,F,P,R,S,tt,k⟩=>by
 refine⟨α,σd,st,_,G,F,P,R,S,tt,λ xs ok st1 q J α1 G1 H1 s1 P1 S1 it=>?_⟩;refine⟨λ i m σ' H'=>∃α' σd' st' G',Step α1 G1 α' G'/\bZ G' F H'/\dw α' G' σd' σ'/\aM α' st' G'/\iQ tg t ok DD (xs.drop i) σd' st'/\m=xs.length-i,⟨xs.length,α1,σd,st1,G1,Step.refl,P1,R.step s1,S1,q,rfl⟩,?_⟩;rintro i m σ2 H2 ⟨α2,σd2,st2,G2,s2,P2,R2,S2,q2,rfl⟩;cases e:xs[i]? with
 |none=>
  have hl:xs.length<=i:=XI.mp e;rw[Vi hl]at q2;unfold iQ at q2;exact .inl ⟨it.stop i α2 G2 F H2 st2 s2 P2 S2 q2.1 hl,((k.nx.at s1).at s2).here P2 q2.2 R2 S2⟩
 |some d=>
  have hl:i<xs.length:=(Tt.mp e).1
  have ed:xs.drop i=d::xs.drop (i+1):=by
   rw[UL hl];congr 1;rw[TM hl]at e;exact UE e
  rw[ed]at q2;unfold iQ at q2;obtain⟨aF,σ3,e3,q3⟩:=q2;refine .inr ⟨it.go i d α2 G2 F H2 st2 s2 P2 S2 aF e,λ σ' H'=>∃α' σd' st' G',Step α1 G1 α' G'/\bZ G' F H'/\dw α' G' σd' σ'/\aM α' st' G'/\iQ tg t ok DD (xs.drop (i+1)) σd' st',?_,?_⟩
  . rintro σ' H' ⟨α',σd',st',G',z1,z2,z3,z4,z5⟩;exact⟨xs.length-(i+1),by omega,α',σd',st',G',z1,z2,z3,z4,z5,rfl⟩
  . intro x H' y;obtain⟨G3,s3,P3,S3,r3⟩:=it.pE i d α2 G2 F H2 st2 x H' s2 P2 S2 aF e y;refine⟨α2,σd2,st2,d,λ σ' st'=>σ'=σ3/\st'=st2,G3,F,P3,R2.step s3,S3,r3,⟨σ3,e3,rfl,rfl⟩,?_⟩;rintro σ' st' ⟨rfl,rfl⟩ α4 G4 H4 σ4 s4 P4 R4 S4;have s24:=(s2.trans s3).trans s4;refine⟨α4,σ',st',_,G4,F,P4,R4,S4,q3,?_,((k.rt.at s1).at s24),(k.nx.at s1).at s24,?_⟩
    . intro σd5 st5 q5 α5 G5 H5 σ5 s5 P5 R5 S5;exact⟨α5,σd5,st5,G5,s24.trans s5,P5,R5,S5,q5⟩
    . intro σd5 st5 q5 α5 G5 H5 σ5 s5 P5 R5 S5;exact⟨α5,σd5,st5,G5,s24.trans s5,P5,R5,S5,q5⟩
end
def gE(fr:List (Option Nat))(σ:bF):bF:=fr.map λ o=>o.bind λ j=>(σ[j]?).join
theorem dw.comp{α:List (Option Addr)}{G:Hp}{σd:bF}{σ:L2.St}{fr:List (Option Nat)}(h:dw α G σd σ):dw α G (gE fr σd) (σC fr σ):=by
 refine⟨by unfold gE σC;simp,λ i d e=>?_⟩;unfold gE at e;rw[T7]at e;cases q:fr[i]? with
 |none=>rw[q]at e;cases e
 |some o=>
  rw[q]at e;cases o with
  |none=>simp at e
  |some j=>
   simp only[Wa,Option.some.injEq,Option.bind_some]at e
   have ej:σd[j]?=some (some d):=by
    cases r:σd[j]? with
    |none=>rw[r]at e;cases e
    |some u=>rw[r]at e;simp at e;rw[e]
   obtain⟨v,ev,rv⟩:=h.at' j d ej;refine⟨v,?_,rv⟩;unfold σC;rw[T7,q];simp[ev]
def bO(tg:ef)(c:DT)(te:DE)(ok:ae->Prop)(σc:bF):List D->List D->ae->(List D->ae->Prop)->Prop
 | [],acc,st,K=>ok st/\K acc st
 |x::xs,acc,st,K=>ok st/\∃σ2,tg x σc=some σ2/\c σ2 st λ b st1=>if b=true then te σ2 st1 λ y st2=>bO tg c te ok σc xs (acc++[y]) st2 K else bO tg c te ok σc xs acc st1 K
def cj(src:DI)(fr:List (Option Nat))(tg:ef)(c:DT)(te:DE):DE:=λ σ st K=>src σ st λ xs ok st1=>xs.length<=sizeLine/\bO tg c te ok (gE fr σ) xs [] st1 λ ys st2=>K (.lst ys) st2
def jq(src:DI)(fr:List (Option Nat))(tg:ef)(c:DT)(te:DE):DE:=λ σ st K=>src σ st λ xs ok st1=>xs.length<=sizeLine/\bO tg c te ok (gE fr σ) xs [] st1 λ ys st2=>K (.ref st2.length) (st2++[.lst ys])
def bf:DT:=λ _ st K=>K true st
def nM(fr:List (Option Nat))(tg:ef):Prop:=∀(σ:bF) (d:D) (σ2:bF),tg d (gE fr σ)=some σ2->σ2.length=(gE fr σ).length/\∀(i:Nat) (e:D),(gE fr σ)[i]?=some (some e)->σ2[i]?=some (some e)
theorem si{fr:List (Option Nat)}{σ:bF}{k:Nat}(h:fr[k]?=some none){e:D}(q:(gE fr σ)[k]?=some (some e)):False:=by
 unfold gE at q;rw[T7,h]at q;simp at q
theorem nq{fr:List (Option Nat)}{k:Nat}(h:fr[k]?=some none:=by rfl):nM fr (aK k):=λ σ d σ2 e=>by
 cases e;refine⟨TQ,λ i x q=>?_⟩;by_cases hi:i=k
 . subst hi;exact(si h q).elim
 . rw[Tx (TK hi)];exact q
theorem Mg{fr:List (Option Nat)}{k j:Nat}(h:fr[k]?=some none:=by rfl)(h':fr[j]?=some none:=by rfl):nM fr (gO k j):=λ σ d σ2 e=>by
 unfold gO at e;split at e
 . cases e;refine⟨by rw[TQ,TQ],λ i x q=>?_⟩;by_cases hi:i=k
   . subst hi;exact(si h q).elim
   . by_cases hj:i=j
     . subst hj;exact(si h' q).elim
     . rw[Tx (TK hj),Tx (TK hi)];exact q
 . cases e
section
variable {X:Cx}
theorem N8{c:Expr}{t:DT}(h:PT X c (LT t)):su X [c] (LT t):=L8 h
theorem Hi:su X [] (LT bf):=λ pins s σ H Q I ⟨α,σd,st,K,G,F,P,R,S,t,k⟩=>Mq pins s σ H Q I (k true st t α G H Step.refl P S)
theorem LE.comp{src:DI}{fr:List (Option Nat)}{tg:ef}{c:DT}{te:DE}(fit:nM fr tg){σ:L2.St}{H:Hp}{Q:VK}{α:List (Option Addr)}{σd:bF}{st:ae}{KE:List D->ae->Prop}{G F:Hp}(P:bZ G F H)(R:dw α G σd σ)(S:aM α st G)
 (t:src σd st λ xs ok st1=>xs.length<=sizeLine/\bO tg c te ok (gE fr σd) xs [] st1 KE)
 (fin:∀ys st2 α2 G2 H2 l vs,KE ys st2->Step α G α2 G2->bZ G2 (upd F l (.lst vs)) H2->F l=none->aM α2 st2 G2->aD α2 G2 ys vs->Q (.ref l) H2):
 tD (LI src) fr (LG tg) (LT c) (LE te) σ H Q:=by
 refine⟨α,σd,st,_,G,F,P,R,S,t,λ xs ok st1 q J α1 G1 H1 s1 P1 S1 it l hl=>?_⟩;obtain⟨hsz,q⟩:=q;obtain⟨hG,hF⟩:=P1.none hl
 refine⟨λ i m σ' H'=>∃α' st' G' acc vs,Step α1 G1 α' G'/\bZ G' (upd F l (.lst vs)) H'/\dw α' G' (gE fr σd) σ'/\aM α' st' G'/\aD α' G' acc vs/\acc.length<=i/\i<=xs.length/\bO tg c te ok (gE fr σd) (xs.drop i) acc st' KE/\m=xs.length-i,
  ⟨xs.length,α1,st1,G1,[],[],Step.refl,P1.hide hl,(R.step s1).comp,S1,by unfold aD;rfl,Tu _,T4 _,q,rfl⟩,?_⟩
 rintro i m σ2 H2 ⟨α2,st2,G2,acc,vs,s2,P2,R2,S2,ra,hacc,hi,q2,rfl⟩;cases e:xs[i]? with
 |none=>
  have hl2:xs.length<=i:=XI.mp e;rw[Vi hl2]at q2;unfold bO at q2;exact .inl ⟨it.stop i α2 G2 _ H2 st2 s2 P2 S2 q2.1 hl2,fin acc st2 α2 G2 H2 l vs q2.2 (s1.trans s2) P2 hF S2 ra⟩
 |some d=>
  have hl2:i<xs.length:=(Tt.mp e).1
  have ed:xs.drop i=d::xs.drop (i+1):=by
   rw[UL hl2];congr 1;rw[TM hl2]at e;exact UE e
  rw[ed]at q2;unfold bO at q2;obtain⟨aF,σ3,e3,q3⟩:=q2;refine .inr ⟨it.go i d α2 G2 _ H2 st2 s2 P2 S2 aF e,λ σ' H'=>∃α' st' G' acc vs,Step α1 G1 α' G'/\bZ G' (upd F l (.lst vs)) H'/\dw α' G' (gE fr σd) σ'/\aM α' st' G'/\aD α' G' acc vs/\acc.length<=i+1/\bO tg c te ok (gE fr σd) (xs.drop (i+1)) acc st' KE,?_,?_⟩
  . rintro σ' H' ⟨α',st',G',acc',vs',z1,z2,z3,z4,z5,z6,z7⟩;exact⟨xs.length-(i+1),by omega,α',st',G',acc',vs',z1,z2,z3,z4,z5,z6,hl2,z7,rfl⟩
  . intro x H' y;obtain⟨G3,s3,P3,S3,r3⟩:=it.pE i d α2 G2 _ H2 st2 x H' s2 P2 S2 aF e y;refine⟨α2,gE fr σd,st2,d,λ σ' st'=>σ'=σ3/\st'=st2,G3,_,P3,R2.step s3,S3,r3,⟨σ3,e3,rfl,rfl⟩,?_⟩;rintro σ' st' ⟨rfl,rfl⟩ α4 G4 H4 σ4 s4 P4 R4 S4;have s24:=(s2.trans s3).trans s4;have Rc:dw α4 G4 (gE fr σd) σ4:=⟨by rw[<-(fit σd d σ' e3).1];exact R4.len,λ j z hz=>R4.at' j z ((fit σd d σ' e3).2 j z hz)⟩
    refine⟨α4,σ',st',_,G4,_,P4,R4,S4,q3,λ b st5 q5 α5 G5 H5 s5 P5 S5=>?_⟩;cases b with
    |false=>exact⟨α5,st5,G5,acc,vs,s24.trans s5,P5,Rc.step s5,S5,((ra.step s3).step s4).step s5,by omega,q5⟩
    |true=>
     refine⟨α5,σ',st5,_,G5,_,P5,R4.step s5,S5,q5,λ z st6 q6 α6 G6 H6 v6 s6 P6 S6 r6=>?_⟩;have hr:=(((ra.step s3).step s4).step s5).step s6;refine⟨vs,(P6.frame aW).1,by rw[<-hr.length];omega,α6,st6,G6,acc++[z],vs++[v6],(s24.trans s5).trans s6,?_,(Rc.step s5).step s6,S6,a8.mpr (fL (a8.mp hr) (.cons r6 .nil)),by rw[Ud,UC];omega,q6⟩;have:=P6.E2 (p:=l) (o':= .lst (vs++[v6])) aW;rw[Ml]at this;exact this
theorem NC{scope:Scope}{Nc:List Str}{elt tg iter:Expr}{ifs:List Expr}{pos:Pos}{src:DI}{fr:List (Option Nat)}{dtg:ef}{c:DT}{te:DE}(S:cT X scope Nc fr)(hi:PI X tg iter (LI src))
 (hg:∀C s H ex,PG (cn X scope Nc C s H ex) tg (LG dtg)) (ht:∀C s H ex,su (cn X scope Nc C s H ex) ifs (LT c)) (he:∀C s H ex,PE (cn X scope Nc C s H ex) elt (LE te)) (fit:nM fr dtg)
 (hx:X.xe=λ _ _=>False:=by rfl) (hc:X.calm=true:=by rfl) (hs:∀x,foldedSetIterable iter X.env x=pure x:=by intro _;rfl):PE X (.ListComp elt [⟨tg,iter,ifs,0⟩] scope pos) (LE (cj src fr dtg c te)):=
 PE.imp (Dn hx hc S hi hg ht he hs) λ σ H Q ⟨α,σd,st,K,G,F,P,R,S,t,k⟩=>LE.comp fit P R S t λ ys st2 α2 G2 H2 l vs q s2 P2 hl S2 r=>by
  have hg:G2 l=none:=(P2.frame aW).2;refine k _ st2 q α2 (upd G2 l (.lst vs)) H2 (.ref l) (s2.trans (Step.laid hg)) (P2.show hl) (S2.laid hg) ?_;unfold Rep;exact⟨l,vs,rfl,S2.j8 hg,.of aW,r.step (Step.laid hg)⟩
theorem KZ{scope:Scope}{Nc:List Str}{elt tg iter:Expr}{ifs:List Expr}{pos:Pos}{src:DI}{fr:List (Option Nat)}{dtg:ef}{c:DT}{te:DE}(S:cT X scope Nc fr)(hi:PI X tg iter (LI src))
 (hg:∀C s H ex,PG (cn X scope Nc C s H ex) tg (LG dtg)) (ht:∀C s H ex,su (cn X scope Nc C s H ex) ifs (LT c)) (he:∀C s H ex,PE (cn X scope Nc C s H ex) elt (LE te)) (fit:nM fr dtg)
 (hx:X.xe=λ _ _=>False:=by rfl) (hc:X.calm=true:=by rfl) (hs:∀x,foldedSetIterable iter X.env x=pure x:=by intro _;rfl):PE X (.ListComp elt [⟨tg,iter,ifs,0⟩] scope pos) (LE (jq src fr dtg c te)):=
 PE.imp (Dn hx hc S hi hg ht he hs) λ σ H Q ⟨α,σd,st,K,G,F,P,R,S,t,k⟩=>LE.comp fit P R S t λ ys st2 α2 G2 H2 l vs q s2 P2 hl S2 r=>by
  have hg:G2 l=none:=(P2.frame aW).2;refine k _ _ q (α2++[some l]) (upd G2 l (.lst vs)) H2 (.ref l) (s2.trans (Step.cell hg)) (P2.show hl) (S2.cell hg ⟨vs,aW,r.step (Step.cell hg)⟩) ?_;unfold Rep;refine .inr ⟨l,?_,rfl⟩;rw[Uc (by rw[S2.len];exact Tu _),S2.len,Vg];rfl
theorem Kv{st:Stmt}{k:Nat}{src:DI}{fr:List (Option Nat)}{dtg:ef}{c:DT}{te:DE}(fit:nM fr dtg)(h:PS X st (l9 (tD (LI src) fr (LG dtg) (LT c) (LE te)) (dA k))):PS X st (LS (bJ k (cj src fr dtg c te))):=
 PS.imp h λ D σ H ⟨α,σd,st,DD,G,F,P,R,S,t,q⟩=>LE.comp fit P R S t λ ys st2 α2 G2 H2 l vs qq s2 P2 hl S2 r=>by
  have hg:G2 l=none:=(P2.frame aW).2;have s3:=s2.trans (Step.laid (o:= .lst vs) hg);refine q.nx _ st2 qq α2 (upd G2 l (.lst vs)) H2 _ s3 (P2.show hl) ((R.step s3).set k ?_) (S2.laid hg);unfold Rep;exact⟨l,vs,rfl,S2.j8 hg,.of aW,r.step (Step.laid hg)⟩
theorem HQ{st:Stmt}{k:Nat}{src:DI}{fr:List (Option Nat)}{dtg:ef}{c:DT}{te:DE}(fit:nM fr dtg)(h:PS X st (l9 (tD (LI src) fr (LG dtg) (LT c) (LE te)) (dA k))):PS X st (LS (bJ k (jq src fr dtg c te))):=
 PS.imp h λ D σ H ⟨α,σd,st,DD,G,F,P,R,S,t,q⟩=>LE.comp fit P R S t λ ys st2 α2 G2 H2 l vs qq s2 P2 hl S2 r=>by
  have hg:G2 l=none:=(P2.frame aW).2;have s3:=s2.trans (Step.cell (o:= .lst vs) hg);refine q.nx _ _ qq (α2++[some l]) (upd G2 l (.lst vs)) H2 _ s3 (P2.show hl) ((R.step s3).set k ?_) (S2.cell hg ⟨vs,aW,r.step (Step.cell hg)⟩);unfold Rep;refine .inr ⟨l,?_,rfl⟩;rw[Uc (by rw[S2.len];exact Tu _),S2.len,Vg];rfl
def aH(N:List Str)(ds:List D):bF:=ds.map some++List.replicate (N.length-ds.length) none
theorem dw.start{α:List (Option Addr)}{G:Hp}{N:List Str}{ds:List D}{vs:List V}(r:aD α G ds vs):dw α G (aH N ds) (L2.start N vs):=by
 have hl:=r.length;refine⟨by unfold aH L2.start;simp[hl],λ i d e=>?_⟩;unfold aH at e;by_cases hi:i<ds.length
 . rw[TF (by simpa using hi),T7]at e;cases q:ds[i]? with
   |none=>rw[q]at e;cases e
   |some x=>
    rw[q]at e;cases e;obtain⟨v,ev,rv⟩:=r.get q;refine⟨v,?_,rv⟩;unfold L2.start;rw[TF (by rw[Tw];omega),T7,ev];rfl
 . rw[Uc (by simpa using hi),XT]at e;split at e<;>cases e
theorem Pb{P:Program}{w:World}{K:PySem.W.Frag}{mg:Str->Option Value}{base:Heap}{x qual:Str}{st:Stmt}{f:Addr}{fd:FuncData}{N ps:List Str}{k:Nat}{sp:bQ}{t:DS}(F:nB K x qual st f fd)(S:kM N ps (bE st))
 (hbody:∀(cdv:Value) (A:Around) (outer:List Env) (s:Shared) (H:Hp) (E:XK),cJ k (A.deeper (envOfC qual (bE st) s.heap.objs.size f cdv))->gH (oz fy P w K mg base N qual (bE st) f cdv A outer s H E).t_ (fJ st) (LS t))
 (hsp:∀ds st K,sp ds st K->ds.length=ps.length/\t {nx:=λ _ st'=>K .ax st',rt:=K} (aH N ds) st):cR P w K mg base fy (k+1) f fd ps (fP sp):=by
 refine F.ok S (λ vs H Q E h=>?_) λ cdv A outer s H vs Q E hr h=>⟨_,hbody cdv A outer s H E hr,?_⟩
 . obtain⟨α,ds,st,K,G,F,P,r,S,q,k⟩:=h;rw[<-r.length];exact(hsp ds st K q).1
 . obtain⟨α,ds,st,K,G,F,P,r,S,q,k⟩:=h;refine⟨α,aH N ds,st,_,G,F,P,dw.start r,S,(hsp ds st K q).2,?_,k,?_,?_⟩
   . intro σd' st' kk α' G' H' σ' s' P' R' S';exact k .ax st' kk α' G' H' .ax s' P' S' (by unfold Rep;rfl)
   . intro σd' st' kk;exact kk.elim
   . intro σd' st' kk;exact kk.elim
def o8(to te:DE):DE:=λ σ st K=>to σ st λ x st1=>match x with
 | .ref n=>(match st1[n]? with
   |some (.lst _)=>te σ st1 λ y st2=>∃y',[y]=[y']/\(match st2[n]? with|some (.lst xs)=>xs.length<sizeLine/\K .ax (st2.set n (.lst (xs++[y'])))|_=>False)
   |_=>False)
 |_=>False
end
structure mL(K:PySem.W.Frag)(mg:Str->Option Value)(x qual:Str)(st:Stmt)(ps:List Str)(f:Addr)(fd:FuncData):Prop where
 fn:nB K x qual st f fd
 mg:mg x=some (.ref f)
 bd:Binds K fd ps []
def ny(sc:Scope)(N:List Str)(scope:Scope)(Nc:List Str)(fr:List (Option Nat)):Bool:=
 (scope.kind== .function)&&scope.names.all (λ x=>x.2 != .cell||scope.names.lookup x.1==some .cell)&&scope.names.all (λ x=>x.2 != .local||scope.names.lookup x.1==some .local)&&
 scope.names.all (λ x=>x.2 != .free||sc.names.lookup x.1==some .cell||sc.names.lookup x.1==some .free)&&(fr.length==Nc.length)&&
 (List.range fr.length).all λ i=>match fr[i]?,Nc[i]? with
   |some (some j),some x=>(N[j]?==some x)&&(scope.names.lookup x==some .free)&&(sc.names.lookup x==some .cell||sc.names.lookup x==some .free)
   |_,_=>true
theorem cT.look{X:Cx}{scope:Scope}{Nc:List Str}{fr:List (Option Nat)}(sc:Scope)(N:List Str)(h:ny sc N scope Nc fr=true)(hsc:X.env.scope=sc:=by rfl)(hN:X.N=N:=by rfl):cT X scope Nc fr:=by
 unfold ny at h;simp only[Ub]at h;obtain⟨⟨⟨⟨⟨h1,h2⟩,h3⟩,h4⟩,h5⟩,h6⟩:=h;subst hsc hN;refine⟨by simpa using h1,λ x hx hk=>?_,λ x hx hk=>?_,λ x hx hk=>?_,by simpa using h5,λ i j x e1 e2=>?_⟩
 . have:=Um.mp h2 x hx;rw[hk]at this;simpa using this
 . have:=Um.mp h3 x hx;rw[hk]at this;simpa using this
 . have:=Um.mp h4 x hx;rw[hk]at this;have z:X.env.scope.names.lookup x.1=some .cell\/X.env.scope.names.lookup x.1=some .free:=by simpa using this
   exact z
 . have hi:i<fr.length:=(Tt.mp e2).1;have:=Um.mp h6 i (Vv.mpr hi);rw[e1,e2]at this;simp only[Ub,W7,VN]at this;exact⟨this.1.1,this.1.2,this.2⟩
section
variable {X:Cx}
theorem Sf{e:Expr}{es:List Expr}{pos p:Pos}{x:Str}{id:String}{r:eO}{t:DA}(hc:bM X (.builtin id) (fU r))(ha:PA X (e::es) (LA t))(hm:X.mg x=none)(hv:bootBuiltins x=some (.builtin id))(hg:Gl X x:=by rfl)(hn:x≠"__name__":=by decide)(hdb:(x==("__debug__":Str))=false:=by decide)
 (he:starEach (e::es) X.env=(false,eval e X.env)::starEach es X.env:=by rfl) (hpl:(backTo pos (starEach es X.env)).any (·.1)=false:=by rfl):PE X (.Call (.Name x p) (e::es) [] pos) (LE (a9 r t)):=PE.imp (HV hc hg hm hv ha hn hdb he hpl) λ _ _ _ h=>LE.cb h
theorem Rw{e:Expr}{es:List Expr}{pos p:Pos}{x:Str}{T:String}{r:eO}{t:DA}(hc:bM X (.type T) (fU r))(ha:PA X (e::es) (LA t))(hm:X.mg x=none)(hv:bootBuiltins x=some (.type T))(hg:Gl X x:=by rfl)(hn:x≠"__name__":=by decide)(hdb:(x==("__debug__":Str))=false:=by decide)
 (he:starEach (e::es) X.env=(false,eval e X.env)::starEach es X.env:=by rfl) (hpl:(backTo pos (starEach es X.env)).any (·.1)=false:=by rfl):PE X (.Call (.Name x p) (e::es) [] pos) (LE (a9 r t)):=PE.imp (E7 hc hg hm hv ha hn hdb he hpl) λ _ _ _ h=>LE.cb h
theorem R9{pos:Pos}{x:Str}{T:String}(hm:X.mg x=none)(hv:bootBuiltins x=some (.type T))(hg:Gl X x:=by rfl)(hn:x≠"__name__":=by decide)(hdb:(x==("__debug__":Str))=false:=by decide):PE X (.Name x pos) (LE (dC (.ty T))):=
 pd (v:= .ty T) (K6 hg hm hv rfl hn hdb) λ _ _=>by unfold Rep;rfl
theorem Rt{e:Expr}{es:List Expr}{pos p:Pos}{x qual:Str}{st:Stmt}{ps:List Str}{f:Addr}{fd:FuncData}{k:Nat}{S:bQ}{t:DA}(A:mL X.K X.mg x qual st ps f fd)(F:cR X.prog X.w X.K X.mg X.base fy k f fd ps (fP S))(hr:cJ k X.A)
 (ha:PA X (e::es) (LA t)) (hg:Gl X x:=by rfl) (hdb:(x==("__debug__":Str))=false:=by decide) (he:starEach (e::es) X.env=(false,eval e X.env)::starEach es X.env:=by rfl) (hpl:(backTo pos (starEach es X.env)).any (·.1)=false:=by rfl):
 PE X (.Call (.Name x p) (e::es) [] pos) (LE (aq S t)):=M0 F hr hg A.mg A.fn.kp A.bd ha hdb he hpl
def M4(d:D)(b:Bool):Bool:=match d with| .bl c=>c==b|_=>false
def Rp(d:D):Bool:=match d with| .ax=>true|_=>false
theorem Li{α:List (Option Addr)}{H:Hp}{st:ae}{d:D}{v:V}{u:Value}{b:Bool}(S:aM α st H)(hl:live st d=true)(r:Rep α H d v)(ru:RelV v u):(u==Value.bool b)=M4 d b:=by
 cases d
 case ref n=>
  obtain⟨a,rfl⟩:=zz S hl r;cases ru;rfl
 all_goals unfold Rep at r
 case bl c=>
  subst r;cases ru;cases c<;>cases b<;>rfl
 all_goals first
  |(subst r;first|(cases ru;rfl)|(obtain⟨t,rfl⟩:=ru;rfl))
  |(obtain⟨a,vs,rfl,_⟩:=r;cases ru;rfl)
theorem LE.append{to te:DE}{σ:L2.St}{H:Hp}{Q:VK}(h:LE (o8 to te) σ H Q):Q_ X.K "list" CF (LE to) (LA (aa te af)) σ H Q:=by
 obtain⟨α,σd,st,K,G,F,P,R,S,t,k⟩:=h;refine⟨α,σd,st,_,G,F,P,R,S,t,λ x st1 q α1 G1 H1 v s1 P1 S1 r1=>?_⟩;cases x<;>try exact q.elim
 rename_i n;simp only at q;split at q
 . rename_i ys e;obtain⟨p,ep,vs,h1,h2⟩:=S1.ib e;have r1':=dX ep r1;subst r1';refine⟨.inl ⟨rfl,vs,.inl (.of (P1.get h1))⟩,α1,σd,st1,λ ds st2=>∃y,ds=[y]/\(match st2[n]? with|some (.lst xs)=>xs.length<sizeLine/\K .ax (st2.set n (.lst (xs++[y])))|_=>False),G1,F,P1,R.step s1,S1,?_,?_⟩
   . refine Eq.mp ?_ q;rfl
   . rintro ds st2 ⟨y,rfl,q2⟩ α2 G2 H2 ws s2 P2 S2 r2;obtain⟨w,rfl,rw'⟩:=gh r2 rfl;split at q2
     . rename_i xs e2;obtain⟨p2,ep2,us,g1,g2⟩:=S2.ib e2
       have:p2=p:=by
        rcases s2.pre _ _ ep with z|z<;>(rw[z]at ep2;cases ep2)
        rfl
       subst this;have hm:some p2∈α2:=Ui ep2;refine⟨p2,us,w,rfl,rfl,P2.get g1,by rw[<-g2.length];exact q2.1,?_⟩;refine((k.at s1).at s2) _ _ q2.2 α2 (upd G2 p2 (.lst (us++[w]))) _ .ax (Step.write hm) (P2.write g1) ?_ (by unfold Rep;rfl);exact S2.write ep2 ⟨us++[w],aW,(a8.mpr (fL (a8.mp g2) (.cons rw' .nil))).step (Step.write hm)⟩
     . exact q2.elim
 . exact q.elim
theorem HS{o e:Expr}{to te:DE}{apos cpos:Pos}(ho:PE X o (LE to))(he:PE X e (LE te))(hbase:attributeBase o "append" X.env (eval o X.env)=eval o X.env:=by rfl)
 (hfew:((backTo cpos (starEach [e] X.env)).all (λ x=> !x.1)&&(backToKw cpos (keywordEach [] X.env)).all (λ x=>x.1.isSome)
   &&decide (([e]:List Expr).length+([]:List Keyword).length+(if([]:List Keyword).isEmpty then 0 else 1)<30))=true:=by rfl)
 (hline:(apos.endLine==cpos.line)=true:=by rfl) (hs:starEach [e] X.env=(false,eval e X.env)::starEach [] X.env:=by rfl) (hplain:(backTo cpos (starEach [] X.env)).any (·.1)=false:=by rfl):PE X (.Call (.Attribute o "append" apos) [e] [] cpos) (LE (o8 to te)):=
 PE.imp (Pd PySem.F.plainAttrs_list PySem.F.slot_list_append PySem.F.type_list_append yb ho (xD he Ax hs) hbase hfew hline hs hplain) λ _ _ _ h=>LE.append h
end
end L3
namespace L3
open PySem L2
open PySem.Spec hiding items?
open PyProof.Rows hiding St
section
variable {X:Cx}
@[irreducible] def bT:df:=Kj
theorem zm:bV X (binaryOp .Add) (LR bT):=by unfold bT;exact PH
@[irreducible] def nr:df:=J_
theorem Kg:bV X (binaryOp .Sub) (LR nr):=by unfold nr;exact PD
@[irreducible] def eN:df:=Kf
theorem zo:bV X (binaryOp .Mult) (LR eN):=by unfold eN;exact Pj
@[irreducible] def tj:df:=Fi
theorem Gn:bV X (binaryOp .FloorDiv) (LR tj):=by unfold tj;exact N3
@[irreducible] def kb:df:=IX
theorem D9:bV X (binaryOp .Mod) (LR kb):=by unfold kb;exact Pk
@[irreducible] def pW:df:=J0
theorem J6:bV X (binaryOp .Pow) (LR pW):=by unfold pW;exact Pu
@[irreducible] def my:df:=MN
theorem DN:bV X (compareOp .Lt) (LR my):=by unfold my;exact RB
@[irreducible] def ym:df:=NN
theorem Ib:bV X (compareOp .LtE) (LR ym):=by unfold ym;exact R0
@[irreducible] def oY:df:=MI
theorem ES:bV X (compareOp .Gt) (LR oY):=by unfold oY;exact RP
@[irreducible] def Cz:df:=OJ
theorem IK:bV X (compareOp .GtE) (LR Cz):=by unfold Cz;exact RD
@[irreducible] def mw:df:=Ox
theorem Aw:bV X (compareOp .NotEq) (LR mw):=by unfold mw;exact RI
@[irreducible] def gc:df:=OI
theorem DY{k:Nat}(hr:cJ k X.A):bV X (compareOp .Eq) (LR gc):=by unfold gc;exact Sn hr
@[irreducible] def fF:z9:=Jy
theorem P_:Di X (unaryOp .USub) (JQ fF):=by unfold fF;exact QF
@[irreducible] def a_:df:=p9
theorem RG{a b:Expr}{ta tb:DE}{pos:Pos}(ha:PE X a (LE ta))(hb:PE X b (LE tb))(hs:sZ b:=by intro _ _;rfl):PE X (.Subscript a b pos) (LE (aj a_ ta tb)):=by unfold a_;exact RU ha hb hs
@[irreducible] def cY:eO:=zt
theorem jC:bM X (.builtin "len") (fU cY):=by unfold cY;exact QD
@[irreducible] def Al:eO:=DF
theorem Qu:bM X (.builtin "abs") (fU Al):=by unfold Al;exact QK
@[irreducible] def r_:eO:=El
theorem JN(hc:X.calm=true):bM X (.builtin "min") (fU r_):=by unfold r_;exact O9 hc
@[irreducible] def u_:eO:=Dq
theorem JX:bM X (.type "int") (fU u_):=by unfold u_;exact PJ
@[irreducible] def cy:eO:=tF
theorem Dh:bM X (.type "tuple") (fU cy):=by unfold cy;exact KD
@[irreducible] def mI:eO:=vY
theorem rm:bM X (.type "list") (fU mI):=by unfold mI;exact MG
@[irreducible] def m7:eO:=tm
theorem C6:bM X (.type "list") (fU m7):=by unfold m7;exact Mw
@[irreducible] def oF:eO:=zl
theorem Jg(hc:X.calm=true):bM X (.builtin "all") (fU oF):=by unfold oF;exact Qm hc
@[irreducible] def iz:eO:=wm
theorem Kc:bM X (.builtin "isinstance") (fU iz):=by unfold iz;exact Pq
@[irreducible] def ot:D->ae->(List D->(ae->Prop)->ae->Prop)->Prop:=wV
def c9(t:DE):DI:=λ σ st K=>t σ st λ d st1=>ot d st1 K
theorem NF{l tg:Expr}{tl:DE}(hl:PE X l (LE tl)):PI X tg l (LI (c9 tl)):=by unfold c9 ot;exact OG hl
@[irreducible] def za:List D->ae->(List D->(ae->Prop)->ae->Prop)->Prop:=Ku
@[irreducible] def zg:List D->ae->(List D->(ae->Prop)->ae->Prop)->Prop:=Je
def cB(t:DA):DI:=λ σ st K=>t σ st λ ds st1=>za ds st1 K
def pe(t:DA):DI:=λ σ st K=>t σ st λ ds st1=>zg ds st1 K
theorem GJ{tg iter:Expr}{t:DA}(h:PI X tg iter (DC (LA t))):PI X tg iter (LI (cB t)):=by unfold cB za;exact FF h
theorem Gg{tg iter:Expr}{t:DA}(h:PI X tg iter (EU (LA t))):PI X tg iter (LI (pe t)):=by unfold pe zg;exact E3 h
@[irreducible] def uJ:D->D->D->ae->(ae->Prop)->Prop:=BA
def eK(to ti te:DE):DS:=λ D σ st=>te σ st λ d st1=>to σ st1 λ x st2=>ti σ st2 λ y st3=>uJ x y d st3 λ st4=>D.nx σ st4
theorem Hv{st:Stmt}{to ti te:DE}(h:PS X st (l9 (LE te) (zC (LE to) (LE ti) wy))):PS X st (LS (eK to ti te)):=by unfold eK uJ;exact Hz h
end
section
variable {st:ae}{K:DK}{i j:Int}{b c:Bool}{xs ys:List D}{d e:D}{n:Nat}
theorem dW(k:K (.int (i+j)) st):bT (.int i) (.int j) st K:=by unfold bT;exact k
theorem dF(h:xs.length+ys.length<=sizeLine)(k:K (.tup (xs++ys)) st):bT (.tup xs) (.tup ys) st K:=by unfold bT;exact⟨h,k⟩
theorem pA(h:xs.length+ys.length<=sizeLine)(k:K (.lst (xs++ys)) st):bT (.lst xs) (.lst ys) st K:=by unfold bT;exact⟨h,k⟩
theorem pF(k:K (.int (i-j)) st):nr (.int i) (.int j) st K:=by unfold nr;exact⟨trivial,k⟩
theorem fC(h:IntMulOk i j)(k:K (.int (i*j)) st):eN (.int i) (.int j) st K:=by unfold eN;exact⟨h,k⟩
theorem Lr(h: -(2^63)<=i/\i<2^63/\xs.length*i.toNat<=sizeLine)(k:K (.lst (List.replicate i.toNat xs).flatten) st):eN (.lst xs) (.int i) st K:=by unfold eN;exact⟨h,k⟩
theorem Cp(h0:j≠0)(h:j.natAbs.log2<9000)(k:K (.int (i.fdiv j)) st):tj (.int i) (.int j) st K:=by unfold tj;exact⟨⟨h0,h⟩,k⟩
theorem jx(h0:j≠0)(k:K (.int (i.fmod j)) st):kb (.int i) (.int j) st K:=by unfold kb;exact⟨h0,k⟩
theorem vO(h:HY i j)(k:K (.int (i^j.toNat)) st):pW (.int i) (.int j) st K:=by unfold pW;exact⟨h,k⟩
theorem IV(k:K (.bl (decide (i<j))) st):my (.int i) (.int j) st K:=by unfold my;exact⟨trivial,k⟩
theorem JR(k:K (.bl (decide (i<=j))) st):ym (.int i) (.int j) st K:=by unfold ym;exact⟨trivial,k⟩
theorem zd(k:K (.bl (decide (j<i))) st):oY (.int i) (.int j) st K:=by unfold oY;exact⟨trivial,k⟩
theorem QM(k:K (.bl (decide (j<=i))) st):Cz (.int i) (.int j) st K:=by unfold Cz;exact⟨trivial,k⟩
theorem DL(k:K (.bl (!decide (i=j))) st):mw (.int i) (.int j) st K:=by unfold mw;exact k
theorem tf(h1:pl 40 d=true)(h2:pl 40 e=true)(k:K (.bl (cF d e)) st):gc d e st K:=by unfold gc;exact⟨h1,h2,k⟩
theorem Mh(a b:Int):(a==b)=decide (a=b):=by
 by_cases h:a=b
 . subst h;simp
 . simp[h]
theorem AA(k:K (.bl (decide (i=j))) st):gc (.int i) (.int j) st K:=by
 refine tf rfl rfl ?_;have:cF (.int i) (.int j)=decide (i=j):=by unfold cF;exact Mh i j
 rw[this];exact k
theorem jw(k:K (.int (-i)) st):fF (.int i) st K:=by unfold fF;exact k
theorem HE(h:items? st d=some xs)(a:d6 xs i=some e)(k:K e st):p9 d (.int i) st K:=by
 cases d<;>unfold items? at h<;>first
  |(cases h;done)
  |(cases h;simp only[p9,a];exact k)
  |(simp only at h
    split at h
    . rename_i q;cases h;simp only[p9,q,a];exact k
    . cases h)
theorem aE(h:items? st d=some xs)(a:d6 xs i=some e)(k:K e st):a_ d (.int i) st K:=by unfold a_;exact HE h a k
theorem cq(h:items? st d=some xs)(k:K (.int xs.length) st):cY [d] st K:=by
 unfold cY zt;split
 . rename_i z;cases z;cases h
 . rename_i z;cases z;rw[h];exact k
 . rename_i z1 z2;exact absurd rfl (z2 d)
theorem Mb(i:Int):(if i<0 then-i else i)=((i.natAbs:Nat):Int):=by split<;>omega
theorem MX(k:K (.int ((i.natAbs:Nat):Int)) st):Al [.int i] st K:=by unfold Al;show K (.int (if i<0 then-i else i)) st;rw[Mb];exact k
theorem vC(k:K (.int (if j<i then j else i)) st):r_ [.int i,.int j] st K:=by unfold r_;exact k
theorem xJ(k:K (.int (if b then 1 else 0)) st):u_ [.bl b] st K:=by unfold u_;exact k
theorem cf(h:items? st d=some xs)(k:K (.tup xs) st):cy [d] st K:=by unfold cy tF;simp only[h];exact k
theorem oO(h:items? st d=some xs)(k:K (.lst xs) st):mI [d] st K:=by unfold mI vY;simp only[h];exact k
theorem uZ(h:items? st d=some xs)(k:K (.ref st.length) (st++[.lst xs])):m7 [d] st K:=by unfold m7 tm;simp only[h];exact k
theorem rR{bs:List Bool}(h:fY xs=some bs)(k:K (.bl (bs.all id)) st):oF [.lst xs] st K:=by unfold oF zl;simp only[h];exact k
theorem mY{t c:String}(h:fu st d=some t)(hc:c∈kG)(k:K (.bl (rS t c)) st):iz [d,.ty c] st K:=by unfold iz wm;simp only[h];exact⟨hc,k⟩
theorem CK{t:String}{cs:List D}{cl:List String}(h:fu st d=some t)(h2:mN cs=some cl)(hc:∀c∈cl,c∈kG)(k:K (.bl (cl.any (rS t))) st):iz [d,.tup cs] st K:=by unfold iz wm;simp only[h,h2];exact⟨hc,k⟩
theorem iE{K:List D->(ae->Prop)->ae->Prop}(h:items? st d=some xs)(k:∀ok:ae->Prop,ok st->K xs ok st):ot d st K:=by
 unfold ot wV
 cases d<;>unfold items? at h<;>first
  |(cases h;done)
  |(cases h;exact k _ trivial)
  |(simp only at h
    split at h
    . rename_i q;cases h;simp only[q];exact k _ q
    . cases h)
theorem Kx{K:List D->(ae->Prop)->ae->Prop}(k:K xs (λ _=>True) st):ot (.lst xs) st K:=by unfold ot;exact k
theorem fz{K:List D->(ae->Prop)->ae->Prop}(k:K xs (λ _=>True) st):ot (.tup xs) st K:=by unfold ot;exact k
theorem cN{K:List D->(ae->Prop)->ae->Prop}(h: -(2^62)<=j/\j<2^62)(k:K (cX 0 j.toNat) (λ _=>True) st):za [.int j] st K:=by unfold za;exact⟨h,k⟩
theorem Dp{K:List D->(ae->Prop)->ae->Prop}(h: -(2^62)<=i/\i<2^62/\ -(2^62)<=j/\j<2^62)(k:K (cX i (j-i).toNat) (λ _=>True) st):zg [.int i,.int j] st K:=by unfold zg;exact⟨h,k⟩
theorem eh{K:ae->Prop}{m:Nat}(h:st[n]?=some (.lst xs))(e:ni xs.length i=some m)(k:K (st.set n (.lst (xs.set m d)))):uJ (.ref n) (.int i) d st K:=by unfold uJ BA;simp only[h,e];exact k
end
def Gv(K:PySem.W.Frag):Bool:=K.all λ p=>p.2.cls != .type "list"
theorem tZ{a:Addr}{o:Obj}:∀ {l:List (Addr×Obj)},l.lookup a=some o->(a,o)∈l
 | [],h=>by cases h
 |(b,u)::r,h=>by
  rw[Uw]at h;split at h
  . rename_i z;cases h;have:a=b:=by simpa using z
    subst this;exact Ua
  . exact TY _ (tZ h)
theorem yW{K:PySem.W.Frag}(h:Gv K=true){a:Addr}{o:Obj}(e:K.lookup a=some o):o.cls≠ .type "list":=by
 have:=Um.mp h (a,o) (tZ e);simpa using this
theorem yp{α:List (Option Addr)}{G:Hp}:∀ns:List Int,aD α G (ns.map D.int) (ns.map V.int)
 | []=>by unfold aD;rfl
 |n::ns=>by
  rw[Uj,Uj];unfold aD;exact⟨_,_,rfl,by unfold Rep;rfl,yp ns⟩
def notStar:Expr->Bool
 | .Starred .. =>false
 |_=>true
theorem cD{e:Expr}{es:List Expr}{env:Env}(h:notStar e=true):starEach (e::es) env=(false,eval e env)::starEach es env:=by
 cases e<;>first|rfl|cases h
def gy:List Expr->Bool
 | []=>true
 |e::es=>notStar e&&gy es
theorem kP{pos:Pos}{env:Env}:∀ {es:List Expr},gy es=true->(backTo pos (starEach es env)).any (·.1)=false
 | [],_=>rfl
 |e::es,h=>by
  unfold gy at h;rw[Ub]at h;rw[cD h.1];have ih:=kP (pos:=pos) (env:=env) h.2;unfold backTo at ih⊢;rw[Uj,WT,ih];rfl
def nu:Expr->Bool
 | .Slice .. =>false
 |_=>true
def sJ:Expr->Bool
 | .Name .. =>true
 | .Call .. =>true
 | .Subscript .. =>true
 | .Attribute .. =>true
 |_=>false
def kF:Expr->Bool
 | .ListComp .. =>false
 | .SetComp .. =>false
 | .DictComp .. =>false
 |_=>true
section
variable {X:Cx}
theorem Ij{b:Expr}(h:nu b=true):sZ b:=by
 intro o i;cases b<;>first|rfl|cases h
theorem EI{e:Expr}(h:sJ e=true):∀whole,isTrue e X.env whole=(do let v <-whole;standAt e.pos;holding [v] (truthy v)):=by
 intro whole;cases e<;>first|(cases h;done)|rfl
theorem xl{e:Expr}{tg:Option Expr}{n:Nat}{env:Env}(h:kF e=true):swapsWith e tg n env=pure false:=by
 cases e<;>first|(cases h;done)|rfl
theorem HF{e:Expr}{es:List Expr}{te:DE}{tr:DA}(ha:PE X e (LE te))(hr:PA X es (LA tr))(hs:notStar e=true:=by rfl):PA X (e::es) (LA (aa te tr)):=xD ha hr (cD hs)
theorem Qs{e:Expr}{es:List Expr}{pos p:Pos}{x:Str}{id:String}{r:eO}{t:DA}(hc:bM X (.builtin id) (fU r))(ha:PA X (e::es) (LA t))(hm:X.mg x=none)(hv:bootBuiltins x=some (.builtin id))(hn:x≠"__name__")(hdb:(x==("__debug__":Str))=false)(hg:Gl X x:=by rfl)(hs:notStar e=true:=by rfl)(hs2:gy es=true:=by rfl):
 PE X (.Call (.Name x p) (e::es) [] pos) (LE (a9 r t)):=Sf hc ha hm hv hg hn hdb (cD hs) (kP hs2)
theorem Qf{e:Expr}{es:List Expr}{pos p:Pos}{x:Str}{T:String}{r:eO}{t:DA}(hc:bM X (.type T) (fU r))(ha:PA X (e::es) (LA t))(hm:X.mg x=none)(hv:bootBuiltins x=some (.type T))(hn:x≠"__name__")(hdb:(x==("__debug__":Str))=false)(hg:Gl X x:=by rfl)(hs:notStar e=true:=by rfl)(hs2:gy es=true:=by rfl):
 PE X (.Call (.Name x p) (e::es) [] pos) (LE (a9 r t)):=Rw hc ha hm hv hg hn hdb (cD hs) (kP hs2)
theorem PZ{e:Expr}{es:List Expr}{pos p:Pos}{x qual:Str}{st:Stmt}{ps:List Str}{f:Addr}{fd:FuncData}{k:Nat}{S:bQ}{t:DA}(A:mL X.K X.mg x qual st ps f fd)(F:cR X.prog X.w X.K X.mg X.base fy k f fd ps (fP S))(hr:cJ k X.A)
 (ha:PA X (e::es) (LA t)) (hdb:(x==("__debug__":Str))=false) (hg:Gl X x:=by rfl) (hs:notStar e=true:=by rfl) (hs2:gy es=true:=by rfl):
 PE X (.Call (.Name x p) (e::es) [] pos) (LE (aq S t)):=Rt A F hr ha hg hdb (cD hs) (kP hs2)
theorem QB{a b:Expr}{ta tb:DE}{pos:Pos}(ha:PE X a (LE ta))(hb:PE X b (LE tb))(hs:nu b=true:=by rfl):PE X (.Subscript a b pos) (LE (aj a_ ta tb)):=RG ha hb (Ij hs)
theorem KP{e:Expr}{te:DE}(he:PE X e (LE te))(h:sJ e=true:=by rfl):PT X e (LT (aU te)):=NJ he (EI h)
theorem Ik{e:Expr}{te:DE}{pos:Pos}(he:PE X e (LE te))(h:kF e=true:=by rfl):PS X (.Expr e pos) (LS (fb te)):=KG he (xl h)
theorem LL{i:Nat}{x:Str}{e:Expr}{te:TE}{pos pos':Pos}(hN:X.N.Nodup)(hi:X.N[i]?=some x)(hx:Loc X.env.scope x)(he:PE X e te)(hf:X.fn x=true\/X.env.scope.names.lookup x=some .local:=by first|exact .inl rfl|exact .inr rfl)(h:kF e=true:=by rfl):
 PS X (.Assign [.Name x pos'] e pos) (l9 te (dA i)):=N9 hN hi hx he (xl h) hf
theorem Mv{i:Nat}{x:Str}{pos:Pos}(hd:(x==("__debug__":Str))=false)(hcd:(x==("__classdict__":Str))=false)(hv:Ad X.env.scope x)(hN:X.N[i]?=some x:=by rfl):PE X (.Name x pos) (LE (ab i)):=PK (NA hN hv hd hcd)
theorem MU{o i e:Expr}{to ti te:TE}{pos pos':Pos}(he:PE X e te)(ho:PE X o to)(hi:PE X i ti)(h1:kF e=true:=by rfl)(h2:nu i=true:=by rfl):PS X (.Assign [.Subscript o i pos'] e pos) (l9 te (zC to ti wy)):=
 zW he (A7 ho hi set_list (by intro v;cases i<;>first|rfl|cases h2)) (by unfold swapsWithSole;exact xl h1) (by cases e<;>rfl) rfl
end
@[irreducible] def JE(X:Cx)(e:Expr)(t:DE):Prop:=PE X e (LE t)
@[irreducible] def JT(X:Cx)(e:Expr)(t:DT):Prop:=PT X e (LT t)
@[irreducible] def JW(X:Cx)(e:Expr)(t:DT):Prop:=PW X e (LT t)
@[irreducible] def JA(X:Cx)(es:List Expr)(t:DA):Prop:=PA X es (LA t)
@[irreducible] def JS(X:Cx)(s:Stmt)(t:DS):Prop:=PS X s (LS t)
@[irreducible] def JB(X:Cx)(s:List Stmt)(t:DS):Prop:=gH X s (LS t)
@[irreducible] def JG(X:Cx)(e:Expr)(t:ef):Prop:=PG X e (LG t)
@[irreducible] def JI(X:Cx)(tg e:Expr)(t:DI):Prop:=PI X tg e (LI t)
@[irreducible] def JC(X:Cx)(es:List Expr)(t:DT):Prop:=su X es (LT t)
section
variable {X:Cx}{a b c e o i:Expr}{es:List Expr}{ta tb tc te to ti:DE}{t u:DT}{ar:DA}{pos p pos':Pos}{s:Stmt}{ss:List Stmt}{T U:DS}
theorem Gs{n:Nat}{x:Str}(hd:(x==("__debug__":Str))=false)(hcd:(x==("__classdict__":Str))=false)(hv:Ad X.env.scope x)(hN:X.N[n]?=some x:=by rfl):JE X (.Name x pos) (ab n):=by unfold JE;exact Mv hd hcd hv hN
theorem rQ{x:Str}{T:String}(hm:X.mg x=none)(hv:bootBuiltins x=some (.type T))(hn:x≠"__name__")(hdb:(x==("__debug__":Str))=false)(hg:Gl X x):JE X (.Name x pos) (dC (.ty T)):=by unfold JE;exact R9 hm hv hg hn hdb
theorem dZ{k:Int}{j:Nat}:JE X (.Constant (.int k) j pos) (dC (.int k)):=by unfold JE;exact QE
theorem DR{k:Bool}{j:Nat}:JE X (.Constant (.bool k) j pos) (dC (.bl k)):=by unfold JE;exact RT
theorem Kt{k:Str}{j:Nat}:JE X (.Constant (.str k) j pos) (dC (.str k)):=by unfold JE;exact PY
theorem J5{j:Nat}:JE X (.Constant .none j pos) (dC .ax):=by unfold JE;exact Qz
theorem qr{op:Operator}{r:df}(ho:bV X (binaryOp op) (LR r))(ha:JE X a ta)(hb:JE X b tb):JE X (.BinOp a op b pos) (aj r ta tb):=by unfold JE at*;exact RL ho ha hb
theorem pU(ha:JE X a ta):JE X (.UnaryOp .USub a pos) (jc fF ta):=by unfold JE at*;exact Sb P_ ha
theorem JD(ha:JE X a ta):JE X (.UnaryOp .Not a pos) (zu (aU ta)):=by unfold JE at*;exact QH ha
theorem JM{op:BoolOp}(ha:JE X a ta):JE X (.BoolOp op [a] pos) ta:=by unfold JE at*;exact QO ha
theorem Jj(ha:JE X a ta)(hb:JE X (.BoolOp .And (b::es) pos) tb):JE X (.BoolOp .And (a::b::es) pos) (km ta tb):=by unfold JE at*;exact PM ha hb
theorem MM(ha:JE X a ta)(hb:JE X (.BoolOp .Or (b::es) pos) tb):JE X (.BoolOp .Or (a::b::es) pos) (ET ta tb):=by unfold JE at*;exact Sa ha hb
theorem Ja{op:CmpOp}{r:df}(ho:bV X (compareOp op) (LR r))(hm:behindInMarks op b=false)(ha:JE X a ta)(hb:JE X b tb):JE X (.Compare a [op] [b] pos) (aj r ta tb):=by unfold JE at*;exact Pt ho ha hb hm
theorem Jq(hc:JT X c t)(ha:JE X a ta)(hb:JE X b tb):JE X (.IfExp c a b pos) (yn t ta tb):=by unfold JE at*;unfold JT at hc;exact Ql hc ha hb
theorem zc{n:Nat}(h:JA X es ar):JE X (.Tuple es n pos) (cL ar):=by unfold JE;unfold JA at h;exact Pg h
theorem JZ(h:JA X es ar):JE X (.List es pos) (gJ ar):=by unfold JE;unfold JA at h;exact Qh h
theorem Ks(h:JA X es ar):JE X (.List es pos) (xi ar):=by unfold JE;unfold JA at h;exact PC h
theorem aR:JA X [] af:=by unfold JA;exact Ax
theorem ak(ha:JE X e te)(hr:JA X es ar)(hs:notStar e=true:=by rfl):JA X (e::es) (aa te ar):=by unfold JA at*;unfold JE at ha;exact HF ha hr hs
theorem cU(ha:JE X a ta)(hb:JE X b tb)(hs:nu b=true:=by rfl):JE X (.Subscript a b pos) (aj a_ ta tb):=by unfold JE at*;exact QB ha hb hs
theorem fB{x:Str}{id:String}{r:eO}(hc:bM X (.builtin id) (fU r))(ha:JA X (e::es) ar)(hm:X.mg x=none)(hv:bootBuiltins x=some (.builtin id))(hn:x≠"__name__")(hdb:(x==("__debug__":Str))=false)(hg:Gl X x)(hs:notStar e=true:=by rfl)(hs2:gy es=true:=by rfl):JE X (.Call (.Name x p) (e::es) [] pos) (a9 r ar):=by
 unfold JE;unfold JA at ha;exact Qs hc ha hm hv hn hdb hg hs hs2
theorem nt{x:Str}{T:String}{r:eO}(hc:bM X (.type T) (fU r))(ha:JA X (e::es) ar)(hm:X.mg x=none)(hv:bootBuiltins x=some (.type T))(hn:x≠"__name__")(hdb:(x==("__debug__":Str))=false)(hg:Gl X x)(hs:notStar e=true:=by rfl)(hs2:gy es=true:=by rfl):JE X (.Call (.Name x p) (e::es) [] pos) (a9 r ar):=by
 unfold JE;unfold JA at ha;exact Qf hc ha hm hv hn hdb hg hs hs2
theorem cu{x qual:Str}{st:Stmt}{ps:List Str}{f:Addr}{fd:FuncData}{k:Nat}{S:bQ}(A:mL X.K X.mg x qual st ps f fd)(F:cR X.prog X.w X.K X.mg X.base fy k f fd ps (fP S))(hr:cJ k X.A)(ha:JA X (e::es) ar)(hdb:(x==("__debug__":Str))=false)(hg:Gl X x)(hs:notStar e=true:=by rfl)(hs2:gy es=true:=by rfl):
 JE X (.Call (.Name x p) (e::es) [] pos) (aq S ar):=by unfold JE;unfold JA at ha;exact PZ A F hr ha hdb hg hs hs2
theorem Im{apos cpos:Pos}(ho:JE X o to)(he:JE X e te)(hbase:attributeBase o "append" X.env (eval o X.env)=eval o X.env:=by rfl)(hline:(apos.endLine==cpos.line)=true:=by rfl)(hs:notStar e=true:=by rfl):JE X (.Call (.Attribute o "append" apos) [e] [] cpos) (o8 to te):=by
 unfold JE at*;refine HS ho he hbase ?_ hline (cD hs) rfl;rw[cD hs];rfl
theorem oK{op:CmpOp}{r:df}(ho:bV X (compareOp op) (LR r))(hm:behindInMarks op b=false)(ha:JE X a ta)(hb:JE X b tb):JT X (.Compare a [op] [b] pos) (aU (aj r ta tb)):=by unfold JE at*;unfold JT;exact MC ho ha hb hm
theorem F0(ha:JT X a t):JT X (.UnaryOp .Not a pos) (dz t):=by unfold JT at*;exact Oa ha
theorem A4(he:JE X e te)(h:sJ e=true:=by rfl):JT X e (aU te):=by unfold JT;unfold JE at he;exact KP he h
theorem Lp(ha:JT X a t):JW X (.BoolOp .And [a] pos) t:=by unfold JW;unfold JT at ha;exact Lv ha
theorem NI(ha:JT X a t):JW X (.BoolOp .Or [a] pos) t:=by unfold JW;unfold JT at ha;exact M7 ha
theorem NX(ha:JT X a t)(hb:JW X (.BoolOp .And (b::es) pos) u):JW X (.BoolOp .And (a::b::es) pos) (tI t u):=by unfold JW at*;unfold JT at ha;exact Nf ha hb
theorem Qb(ha:JT X a t)(hb:JW X (.BoolOp .Or (b::es) pos) u):JW X (.BoolOp .Or (a::b::es) pos) (jm t u):=by unfold JW at*;unfold JT at ha;exact P8 ha hb
theorem P9(h:JW X e t):JT X e t:=by unfold JT;unfold JW at h;exact PW.pt h
theorem vd{l tg:Expr}(hl:JE X l ta):JI X tg l (c9 ta):=by unfold JI;unfold JE at hl;exact NF hl
theorem nI{tg:Expr}(hg:Gl X "range")(hm:X.mg "range"=none)(ha:JA X [a] ar)(hs:notStar a=true:=by rfl):JI X tg (.Call (.Name "range" p) [a] [] pos) (cB ar):=by unfold JI;unfold JA at ha;exact GJ (Gy hg hm ha (cD hs))
theorem Az{tg:Expr}(hg:Gl X "range")(hm:X.mg "range"=none)(ha:JA X [a,b] ar)(hs:notStar a=true:=by rfl)(hs2:notStar b=true:=by rfl):JI X tg (.Call (.Name "range" p) [a,b] [] pos) (pe ar):=by unfold JI;unfold JA at ha;exact Gg (EZ hg hm ha (by rw[cD hs,cD hs2];rfl) (cD hs2))
theorem oH{k:Nat}{x:Str}(hN:X.N.Nodup)(hx:Loc X.env.scope x:=by first|exact Or.inl rfl|exact Or.inr rfl)(hf:X.fn x=true\/X.env.scope.names.lookup x=some .local:=by first|exact .inl rfl|exact .inr rfl)(hi:X.N[k]?=some x:=by rfl):JG X (.Name x pos) (aK k):=by unfold JG;exact KN (fA hN hi hx hf)
theorem Jx{k j n:Nat}{x y:Str}{px py:Pos}(hc:X.calm=true)(hN:X.N.Nodup)(hx:Loc X.env.scope x:=by first|exact Or.inl rfl|exact Or.inr rfl)(hf:X.fn x=true\/X.env.scope.names.lookup x=some .local:=by first|exact .inl rfl|exact .inr rfl)(hy:Loc X.env.scope y:=by first|exact Or.inl rfl|exact Or.inr rfl)(hg:X.fn y=true\/X.env.scope.names.lookup y=some .local:=by first|exact .inl rfl|exact .inr rfl)(hi:X.N[k]?=some x:=by rfl)(hj:X.N[j]?=some y:=by rfl):
 JG X (.Tuple [.Name x px,.Name y py] n pos) (gO k j):=by unfold JG;exact MJ (vJ hc (dS (fA hN hi hx hf) (dS (fA hN hj hy hg) sX)))
theorem tw:JC X [] bf:=by unfold JC;exact Hi
theorem FV(h:JT X c t):JC X [c] t:=by unfold JC;unfold JT at h;exact N8 h
theorem Fh{scope:Scope}{Nc:List Str}{elt tg iter:Expr}{ifs:List Expr}{src:DI}{fr:List (Option Nat)}{dtg:ef}(S:cT X scope Nc fr)(hi:JI X tg iter src)(hg:∀C s H ex,JG (cn X scope Nc C s H ex) tg dtg)(ht:∀C s H ex,JC (cn X scope Nc C s H ex) ifs t)(he:∀C s H ex,JE (cn X scope Nc C s H ex) elt te)(fit:nM fr dtg)
 (hx:X.xe=λ _ _=>False:=by rfl) (hc:X.calm=true:=by rfl) (hs:∀x,foldedSetIterable iter X.env x=pure x:=by intro _;rfl):JE X (.ListComp elt [⟨tg,iter,ifs,0⟩] scope pos) (cj src fr dtg t te):=by
 unfold JE JI JG JC at*;exact NC S hi hg ht he fit hx hc hs
theorem xk{scope:Scope}{Nc:List Str}{elt tg iter:Expr}{ifs:List Expr}{src:DI}{fr:List (Option Nat)}{dtg:ef}(S:cT X scope Nc fr)(hi:JI X tg iter src)(hg:∀C s H ex,JG (cn X scope Nc C s H ex) tg dtg)(ht:∀C s H ex,JC (cn X scope Nc C s H ex) ifs t)(he:∀C s H ex,JE (cn X scope Nc C s H ex) elt te)(fit:nM fr dtg)
 (hx:X.xe=λ _ _=>False:=by rfl) (hc:X.calm=true:=by rfl) (hs:∀x,foldedSetIterable iter X.env x=pure x:=by intro _;rfl):JE X (.ListComp elt [⟨tg,iter,ifs,0⟩] scope pos) (jq src fr dtg t te):=by
 unfold JE JI JG JC at*;exact KZ S hi hg ht he fit hx hc hs
theorem rZ:JB X [] cv:=by unfold JB;exact LH
theorem cH(h:JS X s T):JB X [s] T:=by unfold JB;unfold JS at h;exact Mt h
theorem ba(h:JS X s T)(h2:JB X ss U):JB X (s::ss) (az T U):=by unfold JB at*;unfold JS at h;exact Hl h h2
theorem nh(h:JE X e te):JS X (.Return (some e) pos) (a7 te):=by unfold JS;unfold JE at h;exact MQ h
theorem d4(h:JE X e te)(hc:kF e=true:=by rfl):JS X (.Expr e pos) (fb te):=by unfold JS;unfold JE at h;exact Ik h hc
theorem vj{x y:List Stmt}(hc:JT X c t)(ha:JB X x T)(hb:JB X y U):JS X (.If c x y pos) (cZ t T U):=by unfold JS;unfold JB at*;unfold JT at hc;exact Qa hc ha hb
theorem AL{x:List Stmt}(hc:JT X c t)(hb:JB X x T)(hx:X.xe=λ _ _=>False:=by rfl):JS X (.While c x [] pos) (vm t T):=by unfold JS;unfold JB at hb;unfold JT at hc;exact Iq (Ho (by rw[hx];exact PassesOwn.never) hc hb)
theorem qY{tg iter:Expr}{x:List Stmt}{src:DI}{dtg:ef}(hi:JI X tg iter src)(hg:JG X tg dtg)(hb:JB X x T)(hx:X.xe=λ _ _=>False:=by rfl)(hc:X.calm=true:=by rfl)(hs:∀x,foldedSetIterable iter X.env x=pure x:=by intro _;rfl):JS X (.For tg iter x [] pos) (ia src dtg T):=by
 unfold JS;unfold JI at hi;unfold JG at hg;unfold JB at hb;exact MK (MS (by rw[hx];exact PassesOwn.never) hc hi hg hb hs)
theorem gT{k:Nat}{x:Str}(hN:X.N.Nodup)(hx:Loc X.env.scope x)(he:JE X e te)(hf:X.fn x=true\/X.env.scope.names.lookup x=some .local:=by first|exact .inl rfl|exact .inr rfl)(h:kF e=true:=by rfl)(hi:X.N[k]?=some x:=by rfl):JS X (.Assign [.Name x pos'] e pos) (bJ k te):=by
 unfold JS;unfold JE at he;exact N_ (LL hN hi hx he hf h)
theorem Mf{scope:Scope}{Nc:List Str}{elt tg iter:Expr}{ifs:List Expr}{src:DI}{fr:List (Option Nat)}{dtg:ef}{k:Nat}{x:Str}(hN:X.N.Nodup)(hl:Loc X.env.scope x)(S:cT X scope Nc fr)(hi:JI X tg iter src)(hg:∀C s H ex,JG (cn X scope Nc C s H ex) tg dtg)(ht:∀C s H ex,JC (cn X scope Nc C s H ex) ifs t)(he:∀C s H ex,JE (cn X scope Nc C s H ex) elt te)(fit:nM fr dtg)
 (hf:X.fn x=true\/X.env.scope.names.lookup x=some .local:=by first|exact .inl rfl|exact .inr rfl) (hsw:swapsWith (.ListComp elt [⟨tg,iter,ifs,0⟩] scope p) (some (.Name x pos')) pos.line X.env=pure true:=by rfl) (hni:X.N[k]?=some x:=by rfl) (hx:X.xe=λ _ _=>False:=by rfl) (hc:X.calm=true:=by rfl) (hs:∀x,foldedSetIterable iter X.env x=pure x:=by intro _;rfl):
 JS X (.Assign [.Name x pos'] (.ListComp elt [⟨tg,iter,ifs,0⟩] scope p) pos) (bJ k (cj src fr dtg t te)):=by
 unfold JS;unfold JE JI JG JC at*;exact Kv fit (Dd hx hc S hi hg ht he hN hni hl hf hsw hs)
theorem Ig{scope:Scope}{Nc:List Str}{elt tg iter:Expr}{ifs:List Expr}{src:DI}{fr:List (Option Nat)}{dtg:ef}{k:Nat}{x:Str}(hN:X.N.Nodup)(hl:Loc X.env.scope x)(S:cT X scope Nc fr)(hi:JI X tg iter src)(hg:∀C s H ex,JG (cn X scope Nc C s H ex) tg dtg)(ht:∀C s H ex,JC (cn X scope Nc C s H ex) ifs t)(he:∀C s H ex,JE (cn X scope Nc C s H ex) elt te)(fit:nM fr dtg)
 (hf:X.fn x=true\/X.env.scope.names.lookup x=some .local:=by first|exact .inl rfl|exact .inr rfl) (hsw:swapsWith (.ListComp elt [⟨tg,iter,ifs,0⟩] scope p) (some (.Name x pos')) pos.line X.env=pure true:=by rfl) (hni:X.N[k]?=some x:=by rfl) (hx:X.xe=λ _ _=>False:=by rfl) (hc:X.calm=true:=by rfl) (hs:∀x,foldedSetIterable iter X.env x=pure x:=by intro _;rfl):
 JS X (.Assign [.Name x pos'] (.ListComp elt [⟨tg,iter,ifs,0⟩] scope p) pos) (bJ k (jq src fr dtg t te)):=by
 unfold JS;unfold JE JI JG JC at*;exact HQ fit (Dd hx hc S hi hg ht he hN hni hl hf hsw hs)
theorem jO(he:JE X e te)(ho:JE X o to)(hi:JE X i ti)(h1:kF e=true:=by rfl)(h2:nu i=true:=by rfl):JS X (.Assign [.Subscript o i pos'] e pos) (eK to ti te):=by unfold JS;unfold JE at*;exact Hv (MU he ho hi h1 h2)
theorem Nj{k:Nat}{x:Str}{op:Operator}{f:Int->Int->Int}(hN:X.N.Nodup)(hx:Loc X.env.scope x)(he:JE X e te)(ho:NW X op (NY f))(hf:X.fn x=true\/X.env.scope.names.lookup x=some .local:=by first|exact .inl rfl|exact .inr rfl)(hi:X.N[k]?=some x:=by rfl):JS X (.AugAssign (.Name x pos') op e pos) (DU k (BH f) te):=by
 unfold JS;unfold JE at he;exact MA (Ou hN hi hx he ho hf)
theorem Nz{k j kt k2:Nat}{x y:Str}{px py pt pt2:Pos}(hN:X.N.Nodup)(hij:k≠j)(hx:X.env.scope.names.lookup x=some .local)(hy:X.env.scope.names.lookup y=some .local)(ha:JA X [a,b] ar)
 (hw:swappedStores [.Tuple [.Name x px,.Name y py] kt pt] (.Tuple [a,b] k2 pt2) X.env=pure (some [x,y]):=by rfl) (hc:X.calm=true:=by rfl) (hi:X.N[k]?=some x:=by rfl) (hj:X.N[j]?=some y:=by rfl) (hs:swapsWithSole [.Tuple [.Name x px,.Name y py] kt pt] (.Tuple [a,b] k2 pt2) pos.line X.env=pure false:=by rfl):
 JS X (.Assign [.Tuple [.Name x px,.Name y py] kt pt] (.Tuple [a,b] k2 pt2) pos) (IF k j ar):=by unfold JS;unfold JA at ha;exact Nq (Nr hc hN hi hj hij hx hy ha hw hs)
theorem M3{tg:Expr}{dtg:ef}(he:JE X e te)(hg:JG X tg dtg)(hs:swapsWithSole [tg] e pos.line X.env=pure false:=by rfl)(hw:swappedStores [tg] e X.env=pure none:=by rfl)(h1:(assignEach [tg] X.env).map (·.2)=[assign tg X.env]:=by rfl):JS X (.Assign [tg] e pos) (uV dtg te):=by
 unfold JS;unfold JE at he;unfold JG at hg;exact Np (zW he hg hs hw h1)
end
theorem ik{P:Program}{w:World}{K:PySem.W.Frag}{mg:Str->Option Value}{base:Heap}{x qual:Str}{st:Stmt}{f:Addr}{fd:FuncData}{N ps:List Str}{k:Nat}{sp:bQ}{t:DS}(F:nB K x qual st f fd)(S:kM N ps (bE st))
 (hbody:∀(cdv:Value) (A:Around) (outer:List Env) (s:Shared) (H:Hp) (E:XK),cJ k (A.deeper (envOfC qual (bE st) s.heap.objs.size f cdv))->JB (oz fy P w K mg base N qual (bE st) f cdv A outer s H E).t_ (fJ st) t)
 (hsp:∀ds st K,sp ds st K->ds.length=ps.length/\t {nx:=λ _ st'=>K .ax st',rt:=K} (aH N ds) st):cR P w K mg base fy (k+1) f fd ps (fP sp):=by
 unfold JB at hbody;exact Pb F S hbody hsp
end L3
namespace HT
open PySem PyProof.Rows
section
variable {prog:Program}{w:World}{A:Around}{E:Value->Shared->Prop}{s:Shared}
theorem qT{t sl:Addr}{items:Array Value}{vl vu:Value}{lo hi:Option Int}{Q:Value->Shared->Prop}(ht:IsTup s.heap t items)(hs:s.heap.IsSliceOf sl vl vu .none)(pl:IsPart vl lo)(pu:IsPart vu hi)
 (hw:bW items.size 0 lo=0/\bW items.size items.size hi=items.size) (h:Q (.ref t) s):wpAny (model prog w) A (getItem (.ref t) (.ref sl)) Q E s:=by
 obtain⟨os,hos,hcs,hds⟩:=id hs;have hTs:s.TypeIs (.ref sl) "slice":=⟨os,hos,hcs⟩
 unfold getItem;try with_reducible refine VI ?_
 first|refine Tr (TH ?_)|skip
 refine Tr (wpAny_sequenceKey ht.typeIs (by decide) ?_)
 refine Tr (UN (name:=Str.ofString "__getitem__") ht.typeIs UU
  (UZ UU ht.typeIs entry_tuple_getitem ?_ (args_tuple_getitem _ _)))
 show wpAny _ _ (Builtin.Tuple.tupleItemsOf (.ref t) >>= _) _ _ s;refine Tr (tupleItemsOf_ ht ?_);refine Tr (W3 hTs ?_);rw[TC (by decide)];refine Tr (m6 hs pl pu ?_)
 have hyes:(((bW items.size 0 lo:Nat):Int)==0&&(1:Int)==1&&(bW items.size items.size hi-bW items.size 0 lo)==items.size)=true:=by
  rw[hw.1,hw.2];simp
 show wpAny _ _ (if(((bW items.size 0 lo:Nat):Int)==0&&(1:Int)==1&&(bW items.size items.size hi-bW items.size 0 lo)==items.size)=true then _ else _) _ _ s;rw[TC hyes];refine Tr ?_;unfold Builtin.Tuple.tupleIsExact;exact Tr (W3 ht.typeIs (TH (Tr (V7 (TH ⟨_,rfl,TH h⟩)))))
end
end HT
namespace L3
open PySem L2
open PySem.Spec hiding items?
open PyProof.Rows hiding St
abbrev DO:=bF->ae->(Option Int->ae->Prop)->Prop
def bS:DO:=λ _ st K=>K none st
def cQ(t:DE):DO:=λ σ st K=>t σ st λ d st1=>match d with| .int i=>K (some i) st1|_=>False
def cutD(xs:List D)(lo hi:Option Int):List D:=(xs.drop (HT.bW xs.length 0 lo)).take (HT.bW xs.length xs.length hi-HT.bW xs.length 0 lo)
def zx(d:D)(lo hi:Option Int)(st:ae)(K:DK):Prop:=match d with
 | .lst xs=>K (.lst (cutD xs lo hi)) st
 | .tup xs=>K (.tup (cutD xs lo hi)) st
 | .ref n=>(match st[n]? with|some (.lst xs)=>K (.lst (cutD xs lo hi)) st|_=>False)
 |_=>False
@[irreducible] def ko:D->Option Int->Option Int->ae->DK->Prop:=zx
def cm(t:DE)(lo hi:DO):DE:=λ σ st K=>t σ st λ d st1=>lo σ st1 λ l st2=>hi σ st2 λ u st3=>ko d l u st3 K
theorem uI{α:List (Option Addr)}{G:Hp}{xs:List D}{vs:List V}{lo hi:Option Int}(r:aD α G xs vs):aD α G (cutD xs lo hi) (qm vs lo hi):=by
 unfold cutD qm;rw[<-r.length];exact a8.mpr (tX _ (uh _ (a8.mp r)))
def S7(α:List (Option Addr))(G F:Hp)(K:Option Int->ae->Prop)(Q:Option Int->Hp->Prop):Prop:=∀o st',K o st'->∀α' G' H',Step α G α' G'->bZ G' F H'->aM α' st' G'->Q o H'
inductive Rm(t:DO)(σ:L2.St)(H:Hp)(Q:Option Int->Hp->Prop):Prop
 |mk (α:List (Option Addr)) (σd:bF) (st:ae) (K:Option Int->ae->Prop) (G F:Hp) (P:bZ G F H) (R:dw α G σd σ) (S:aM α st G) (h:t σd st K) (k:S7 α G F K Q):Rm t σ H Q
def LO(t:DO):TO:=Rm t
section
variable {X:Cx}
theorem PO.imp{e:Option Expr}{t t':TO}(h:PO X e t)(f:∀σ H Q,t' σ H Q->t σ H Q):PO X e t':=λ pins s σ H Q I q=>h pins s σ H Q I (f σ H Q q)
theorem Mu:PO X none (LO bS):=PO.imp K_ λ σ H Q ⟨α,σd,st,K,G,F,P,R,S,t,k⟩=>k none st t α G H Step.refl P S
theorem Mp{e:Expr}{te:DE}(h:PE X e (LE te)):PO X (some e) (LO (cQ te)):=PO.imp (LJ h) λ σ H Q ⟨α,σd,st,K,G,F,P,R,S,t,k⟩=>by
 refine⟨α,σd,st,_,G,F,P,R,S,t,λ d st1 q α1 G1 H1 v s1 P1 S1 r1=>?_⟩;cases d<;>try exact q.elim
 unfold Rep at r1;exact⟨_,r1,k _ st1 q α1 G1 H1 s1 P1 S1⟩
def Tj(x:V)(lo hi:Option Int)(H:Hp)(Q:VK):Prop:=∃α d st K G F,bZ G F H/\Rep α G d x/\aM α st G/\ko d lo hi st K/\LK α G F K Q
theorem Lq:Gp X (λ x lo hi H Q=>∃a xs,x= .ref a/\H a=some (.tup xs)/\((HT.bW xs.length 0 lo=0/\HT.bW xs.length xs.length hi=xs.length)->Q (.ref a) H)/\(¬(HT.bW xs.length 0 lo=0/\HT.bW xs.length xs.length hi=xs.length)->∀p,H p=none->Q (.ref p) (upd H p (.tup (qm xs lo hi))))):=by
 intro pins s σ H x v vl vu lo hi sl Q I rx hs pl pu h;obtain⟨a,xs,rfl,hx,q1,q2⟩:=h;by_cases hw:HT.bW xs.length 0 lo=0/\HT.bW xs.length xs.length hi=xs.length
 . cases rx;obtain⟨ai,r,ht,hz⟩:=I.tuple (ie.of hx);have hlen:ai.toArray.size=xs.length:=by rw[TL];exact r.length.symm
   exact⟨"tuple",_,UU.lookup,ht.typeIs,HT.qT ht hs pl pu (by rw[hlen];exact hw) ⟨.ref a,H,I,rfl,q1 hw⟩⟩
 . exact OV pins s σ H _ v vl vu lo hi sl Q I rx hs pl pu ⟨a,xs,rfl,.of hx,hw,q2 hw⟩
theorem F3{xs:List D}{lo hi:Option Int}(hw:HT.bW xs.length 0 lo=0/\HT.bW xs.length xs.length hi=xs.length):cutD xs lo hi=xs:=by
 unfold cutD;rw[hw.1,hw.2];simp
theorem Oy:Gp X Tj:=by
 intro pins s σ H x v vl vu lo hi sl Q I rx hs pl pu ⟨α,d,st,K,G,F',P,r1,S,q,k⟩;unfold ko zx at q;cases d<;>try exact q.elim
 . rename_i n;simp only at q;split at q
   . rename_i xs e;obtain⟨a,ea,vs,h1,h2⟩:=S.ib e;have r1':=dX ea r1;subst r1';exact CG pins s σ H _ v vl vu lo hi sl Q I rx hs pl pu ⟨a,vs,rfl,.inl (.of (P.get h1)),λ p hp=>k.lst P q S (uI h2) hp⟩
   . exact q.elim
 . unfold Rep at r1;obtain⟨a,vs,rfl,na,ha,ra⟩:=r1;exact CG pins s σ H _ v vl vu lo hi sl Q I rx hs pl pu ⟨a,vs,rfl,.inl (fH P ha),λ p hp=>k.lst P q S (uI ra) hp⟩
 . rename_i xs;have r0:=r1;unfold Rep at r1;obtain⟨a,vs,rfl,na,ha,ra⟩:=r1;refine Lq pins s σ H _ v vl vu lo hi sl Q I rx hs pl pu ⟨a,vs,rfl,P.get ha,λ hw=>?_,λ _ p hp=>k.tup P q S (uI ra) hp⟩;rw[<-ra.length]at hw;simp only at q;rw[F3 hw]at q;exact k.here P q S r0
theorem LW{e:Expr}{lo hi:Option Expr}{te:DE}{tl th:DO}{p2 pos:Pos}(he:PE X e (LE te))(hl:PO X lo (LO tl))(hh:PO X hi (LO th)):PE X (.Subscript e (.Slice lo hi none p2) pos) (LE (cm te tl th)):=PE.imp (Hg Oy he hl hh) λ σ H Q ⟨α,σd,st,K,G,F,P,R,S,t,k⟩=>by
 refine⟨α,σd,st,_,G,F,P,R,S,t,λ d st1 q α1 G1 H1 v s1 P1 S1 r1=>?_⟩;refine⟨α1,σd,st1,_,G1,F,P1,R.step s1,S1,q,λ l st2 q2 α2 G2 H2 s2 P2 S2=>?_⟩;refine⟨α2,σd,st2,_,G2,F,P2,(R.step s1).step s2,S2,q2,λ u st3 q3 α3 G3 H3 s3 P3 S3=>?_⟩;exact⟨α3,d,st3,K,G3,F,P3,(r1.step s2).step s3,S3,q3,((k.at s1).at s2).at s3⟩
@[irreducible] def JO(X:Cx)(e:Option Expr)(t:DO):Prop:=PO X e (LO t)
theorem CA:JO X none bS:=by unfold JO;exact Mu
theorem Dk{e:Expr}{te:DE}(h:JE X e te):JO X (some e) (cQ te):=by unfold JO;unfold JE at h;exact Mp h
theorem wU{e:Expr}{lo hi:Option Expr}{te:DE}{tl th:DO}{p2 pos:Pos}(he:JE X e te)(hl:JO X lo tl)(hh:JO X hi th):JE X (.Subscript e (.Slice lo hi none p2) pos) (cm te tl th):=by unfold JE at*;unfold JO at*;exact LW he hl hh
end
theorem FN{st:ae}{K:DK}{xs:List D}{lo hi:Option Int}(k:K (.lst (cutD xs lo hi)) st):ko (.lst xs) lo hi st K:=by unfold ko;exact k
theorem fR{st:ae}{K:DK}{xs:List D}{lo hi:Option Int}(k:K (.tup (cutD xs lo hi)) st):ko (.tup xs) lo hi st K:=by unfold ko;exact k
theorem FK{st:ae}{K:DK}{xs:List D}{lo hi:Option Int}{n:Nat}(h:st[n]?=some (.lst xs))(k:K (.lst (cutD xs lo hi)) st):ko (.ref n) lo hi st K:=by unfold ko zx;simp only[h];exact k
section
variable {prog:Program}{w:World}{A:Around}{E:Value->Shared->Prop}{s:Shared}
theorem Et{iT tp:Addr}{n:Nat}{ai:Array Value}{v:Value}{Q:Value->Shared->Prop}(hI:s.heap.IsTupleIter iT tp n)(hT:s.heap.IsTuple tp ai)(hv:ai[n]?=some v)
 (q:∀g,g.IsTupleIter iT tp (n+1)->Heap.SameBut iT s.heap g->Q v {s with heap:=g}):wpAny (model prog w) A (Builtin.SmallTypes.nextOf (.ref iT)) Q E s:=by
 obtain⟨oI,eI,cI,dI⟩:=id hI;obtain⟨oT,eT,_,nT,dT⟩:=hT;unfold Builtin.SmallTypes.nextOf;refine Tr (UN (name:=Str.ofString "__next__") hI.typeIs VY (UZ VY hI.typeIs Xo ?_ (Xi _)));show wpAny _ _ (field (.ref iT) 0 >>= _) _ _ s;refine Tr (UB eI dI (x:= .ref tp) rfl ?_);show wpAny _ _ (if(Value.ref tp==Value.none)=true then _ else _) _ _ s;rw[Tv (show¬((Value.ref tp==Value.none)=true)from Uo)];show wpAny _ _ (field (.ref iT) 1 >>= _) _ _ s;refine Tr (UB eI dI (x:= .int n 0) rfl ?_);show wpAny _ _ (seqItems? (.ref tp) >>= _) _ _ s;refine Tr (VL eT dT ?_);simp only[TZ,hv];refine Tr (WK eI dI (by simp) (TH ⟨v,rfl,TH (q _ ?_ (UM ..))⟩));refine⟨_,Vw _ eI (WW (VT dI _)),(Obj.cls_mapFields ..).trans cI,?_⟩;rw[VT dI];simp[rawInt]
theorem Gw{iT tp:Addr}{n:Nat}{ai:Array Value}{Q:Value->Shared->Prop}(hh:A.handled=none)(hI:s.heap.IsTupleIter iT tp n)(hT:s.heap.IsTuple tp ai)(hv:ai[n]?=none)
 (q:∀g e,Heap.ExtBut iT s.heap g->(∃o,g.get? e=some o/\o.cls= .type "StopIteration")->E (.ref e) {s with heap:=g}):wpAny (model prog w) A (Builtin.SmallTypes.nextOf (.ref iT)) Q E s:=by
 obtain⟨oI,eI,cI,dI⟩:=id hI;obtain⟨oT,eT,_,nT,dT⟩:=hT;unfold Builtin.SmallTypes.nextOf;refine Tr (UN (name:=Str.ofString "__next__") hI.typeIs VY (UZ VY hI.typeIs Xo ?_ (Xi _)));show wpAny _ _ (field (.ref iT) 0 >>= _) _ _ s;refine Tr (UB eI dI (x:= .ref tp) rfl ?_);show wpAny _ _ (if(Value.ref tp==Value.none)=true then _ else _) _ _ s;rw[Tv (show¬((Value.ref tp==Value.none)=true)from Uo)];show wpAny _ _ (field (.ref iT) 1 >>= _) _ _ s;refine Tr (UB eI dI (x:= .int n 0) rfl ?_);show wpAny _ _ (seqItems? (.ref tp) >>= _) _ _ s;refine Tr (VL eT dT ?_);simp only[TZ,hv];refine Tr (V7 (Tr (WK eI dI (by simp) ?_)));show wpAny _ _ (newExc (.type "StopIteration") [] >>= _) _ _ _;refine Tr ?_;simp only[newExc,newTuple];refine Tr (UP ?_ (by size_fits));refine Tr (m:=firstArgMember _ _) (Vq (a:=Value.none) (by first|rfl|(simp only[firstArgMember];rfl)) ?_);refine UP ?_ (by size_fits);simp only[raiseNew];refine Tr (wpAny_handled ?_);first|rw[show A.in1.handled=none from hh]|rw[hh]
 refine Tr (TH (wpAny_throw ?_));exact q _ _ (((UM ..).extBut.push _).push _) ⟨_,TX _ rfl,rfl⟩
end
section
variable {st:ae}{K:DK}{i j:Int}{b c:Bool}{xs ys:List D}{d e:D}{n:Nat}
theorem eqT(h:i=j)(k:K (.bl true) st):gc (.int i) (.int j) st K:=AA (by rw[Ul h];exact k)
theorem QW(h:i≠j)(k:K (.bl false) st):gc (.int i) (.int j) st K:=AA (by rw[T6 h];exact k)
theorem eq2(h1:i=j->K (.bl true) st)(h2:i≠j->K (.bl false) st):gc (.int i) (.int j) st K:=by
 by_cases h:i=j
 . exact eqT h (h1 h)
 . exact QW h (h2 h)
theorem neT(h:i≠j)(k:K (.bl true) st):mw (.int i) (.int j) st K:=DL (by rw[T6 h];exact k)
theorem SE(h:i=j)(k:K (.bl false) st):mw (.int i) (.int j) st K:=DL (by rw[Ul h];exact k)
theorem ne2(h1:i≠j->K (.bl true) st)(h2:i=j->K (.bl false) st):mw (.int i) (.int j) st K:=by
 by_cases h:i=j
 . exact SE h (h2 h)
 . exact neT h (h1 h)
theorem SW(h:i<j)(k:K (.bl true) st):my (.int i) (.int j) st K:=IV (by rw[Ul h];exact k)
theorem Th(h:j<=i)(k:K (.bl false) st):my (.int i) (.int j) st K:=IV (by rw[T6 (by omega)];exact k)
theorem xN(h1:i<j->K (.bl true) st)(h2:j<=i->K (.bl false) st):my (.int i) (.int j) st K:=by
 by_cases h:i<j
 . exact SW h (h1 h)
 . exact Th (by omega) (h2 (by omega))
theorem S_(h:i<=j)(k:K (.bl true) st):ym (.int i) (.int j) st K:=JR (by rw[Ul h];exact k)
theorem SD(h:j<i)(k:K (.bl false) st):ym (.int i) (.int j) st K:=JR (by rw[T6 (by omega)];exact k)
theorem Sz(h1:i<=j->K (.bl true) st)(h2:j<i->K (.bl false) st):ym (.int i) (.int j) st K:=by
 by_cases h:i<=j
 . exact S_ h (h1 h)
 . exact SD (by omega) (h2 (by omega))
theorem Te(h:j<i)(k:K (.bl true) st):oY (.int i) (.int j) st K:=zd (by rw[Ul h];exact k)
theorem SV(h:i<=j)(k:K (.bl false) st):oY (.int i) (.int j) st K:=zd (by rw[T6 (by omega)];exact k)
theorem Kk(h1:j<i->K (.bl true) st)(h2:i<=j->K (.bl false) st):oY (.int i) (.int j) st K:=by
 by_cases h:j<i
 . exact Te h (h1 h)
 . exact SV (by omega) (h2 (by omega))
theorem Sy{P:Prop}(h:xs.length<=1000)(k:P):xs.length<=sizeLine/\P:=⟨by rw[V1];omega,k⟩
theorem aY{m:Nat}(h:m<=1000):m<=sizeLine:=by rw[V1];omega
theorem wZ(h0:0<=i)(e:xs[i.toNat]?=some d):d6 xs i=some d:=by
 have:=gB e;rw[Int.toNat_of_nonneg h0]at this;exact this
theorem rf{m:Nat}(h0:0<=i)(h:i.toNat<m):ni m i=some i.toNat:=by
 unfold ni;have:i<(m:Int):=by omega
 simp[h0,this]
end
theorem iV{tg:ef}{body:DS}{ok:ae->Prop}{E:k6}(I:List D->bF->ae->Prop)(hend:∀σ st,I [] σ st->ok st/\E.nx σ st)
 (hstep:∀x xs σ st,I (x::xs) σ st->(∀σ' st',I xs σ' st'->iQ tg body ok E xs σ' st')->ok st/\∃σ1,tg x σ=some σ1/\body {E with nx:=iQ tg body ok E xs,ct:=iQ tg body ok E xs,bk:=E.nx} σ1 st):
 ∀xs σ st,I xs σ st->iQ tg body ok E xs σ st
 | [],σ,st,h=>by unfold iQ;exact hend σ st h
 |x::xs,σ,st,h=>by unfold iQ;exact hstep x xs σ st h λ σ' st' h'=>iV I hend hstep xs σ' st' h'
theorem eA{tg:ef}{c:DT}{te:DE}{ok:ae->Prop}{σc:bF}{K:List D->ae->Prop}(I:List D->List D->ae->Prop)(hend:∀acc st,I [] acc st->ok st/\K acc st)
 (hstep:∀x xs acc st,I (x::xs) acc st->(∀acc' st',I xs acc' st'->bO tg c te ok σc xs acc' st' K)->ok st/\∃σ2,tg x σc=some σ2/\c σ2 st λ b st1=>if b=true then te σ2 st1 λ y st2=>bO tg c te ok σc xs (acc++[y]) st2 K else bO tg c te ok σc xs acc st1 K):
 ∀xs acc st,I xs acc st->bO tg c te ok σc xs acc st K
 | [],acc,st,h=>by unfold bO;exact hend acc st h
 |x::xs,acc,st,h=>by unfold bO;exact hstep x xs acc st h λ acc' st' h'=>eA I hend hstep xs acc' st' h'
theorem comp_map{tg:ef}{te:DE}{ok:ae->Prop}{σc:bF}{st:ae}{K:List D->ae->Prop}{g:D->D}(aF:ok st)(xs:List D)(hx:∀x∈xs,∀K',K' (g x) st->∃σ2,tg x σc=some σ2/\te σ2 st K')(k:K (xs.map g) st):bO tg bf te ok σc xs [] st K:=by
 refine eA (λ r acc st'=>st'=st/\(∀x∈r,x∈xs)/\acc++r.map g=xs.map g) (λ acc st' h=>?_) (λ x r acc st' h next=>?_) xs [] st ⟨rfl,λ _ h=>h,rfl⟩
 . obtain⟨rfl,_,e⟩:=h;rw[List.map_nil,Vb]at e;rw[e];exact⟨aF,k⟩
 . obtain⟨rfl,hm,e⟩:=h;obtain⟨σ2,e2,q⟩:=hx x (hm x Ua) (λ y st2=>bO tg bf te ok σc r (acc++[y]) st2 K) (next _ _ ⟨rfl,λ z hz=>hm z (TY _ hz),by rw[<-e];simp⟩);exact⟨aF,σ2,e2,q⟩
theorem oS{A B:DS}{E:k6}{σ:bF}{st:ae}(J:bF->ae->Prop)(h:∀nx,(∀σ' st',J σ' st'->nx σ' st')->A {E with nx:=nx} σ st)(k:∀σ' st',J σ' st'->B E σ' st'):az A B E σ st:=h (B E) k
def M8(n:Nat)(K:DK)(y:D)(st2:ae):Prop:=∃y',[y]=[y']/\(match st2[n]? with|some (.lst xs)=>xs.length<sizeLine/\K .ax (st2.set n (.lst (xs++[y'])))|_=>False)
theorem Cu{n:Nat}{K:DK}{y:D}{st:ae}{xs:List D}(e:st[n]?=some (.lst xs))(h:xs.length<sizeLine)(k:K .ax (st.set n (.lst (xs++[y])))):M8 n K y st:=by
 refine⟨y,rfl,?_⟩;simp only[e];exact⟨h,k⟩
@[irreducible] def mQ(to te:DE):DE:=o8 to te
theorem GC{σ:bF}{st:ae}{K:DK}{i n:Nat}{xs:List D}{te:DE}(ei:σ[i]?=some (some (.ref n)))(e:st[n]?=some (.lst xs))(h:te σ st (M8 n K)):mQ (ab i) te σ st K:=by
 unfold mQ o8 ab;simp only[ei,e];exact h
theorem yg{X:Cx}{o e:Expr}{to te:DE}{apos cpos:Pos}(ho:JE X o to)(he:JE X e te)(hbase:attributeBase o "append" X.env (eval o X.env)=eval o X.env:=by rfl)(hline:(apos.endLine==cpos.line)=true:=by rfl)(hs:notStar e=true:=by rfl):JE X (.Call (.Attribute o "append" apos) [e] [] cpos) (mQ to te):=by
 unfold mQ;exact Im ho he hbase hline hs
@[irreducible] def tH(i:Nat)(t:DS):DS:=λ D σ st=>match σ[i]? with
 |some (some (.ref n))=>(match st[n]? with|some (.lst xs)=>t D (σ.set i (some (.lst xs))) (st.set n .dead)|_=>False)
 |_=>False
section
variable {X:Cx}
theorem OR{s:Stmt}{i:Nat}{t:DS}(h:PS X s (LS t)):PS X s (LS (tH i t)):=PS.imp h λ D σ H ⟨α,σd,st,DD,G,F,P,R,S,q,k⟩=>by
 unfold tH at q;split at q
 . rename_i n e;split at q
   . rename_i xs e2;have hn:n<st.length:=(Tt.mp e2).1;obtain⟨v,ev,rv⟩:=R.at' i _ e;have R2:dw (α.set n none) G (σd.set i (some (.lst xs))) (σ.set i (some v)):=(R.step Step.e8).set i (S.Lm e2 rv)
     have es:σ.set i (some v)=σ:=by
      refine List.ext_getElem? λ j=>?_;by_cases hj:i=j
      . subst hj;rw[TJ (Tt.mp ev).1,ev]
      . rw[Tx hj]
     rw[es]at R2;exact⟨α.set n none,_,_,DD,G,F,P,R2,S.e8 hn,q,k.at Step.e8⟩
   . exact q.elim
 . exact q.elim
theorem N5{s:Stmt}{i:Nat}{t:DS}(h:JS X s t):JS X s (tH i t):=by unfold JS at*;exact OR h
end
theorem O5{σ:bF}{st:ae}{E:k6}{i n:Nat}{t:DS}{xs:List L3.D}(e:σ[i]?=some (some (.ref n)))(e2:st[n]?=some (.lst xs))(k:t E (σ.set i (some (.lst xs))) (st.set n .dead)):tH i t E σ st:=by
 unfold tH;simp only[e,e2];exact k
structure Src(P:Program)(w:World)(t a:Addr)(J:Nat->Heap->Prop)(us:Array Value):Prop where
 fr:∀n g k,J n g->(∀b,b=t\/b=a->∀o,g.get? b=some o->k.get? b=some o)->J n k
 lv:∀n g,J n g->(∃o,g.get? t=some o)/\∃o,g.get? a=some o
 nx:∀n (A:Around) (s:Shared) (Q:Value->Shared->Prop) (E:Value->Shared->Prop) v,J n s.heap->us[n]?=some v->(∀k,J (n+1) k->Heap.SameBut t s.heap k->Q v {s with heap:=k})->wpAny (model P w) A (Builtin.SmallTypes.nextOf (.ref t)) Q E s
 en:∀n (A:Around) (s:Shared) (Q:Value->Shared->Prop) (E:Value->Shared->Prop),A.handled=none->J n s.heap->us[n]?=none->(∀k e,Heap.ExtBut t s.heap k->(∃o,k.get? e=some o/\o.cls= .type "StopIteration")->E (.ref e) {s with heap:=k})->wpAny (model P w) A (Builtin.SmallTypes.nextOf (.ref t)) Q E s
section
variable {P:Program}{w:World}
theorem src_list(t a:Addr)(hne:a≠t)(us:Array Value):Src P w t a (λ n g=>g.IsListIter t a n/\g.IsList a us) us where
 fr:=λ n g k j kp=>⟨j.1.at λ o e=>kp t (.inl rfl) o e,j.2.at λ o e=>kp a (.inr rfl) o e⟩
 lv:=λ n g j=>⟨let⟨o,e,_⟩:=j.1;⟨o,e⟩,let⟨o,e,_⟩:=j.2;⟨o,e⟩⟩
 nx:=λ n A s Q E v j hv q=>wpAny_nextOf_list_item j.1 j.2 hv λ k jk sb=>q k ⟨jk,j.2.extBut sb.extBut hne⟩ sb
 en:=λ n A s Q E hh j hv q=>wpAny_nextOf_list_end hh j.1 j.2 hv q
theorem Lc(t a:Addr)(hne:a≠t)(us:Array Value):Src P w t a (λ n g=>g.IsTupleIter t a n/\g.IsTuple a us) us where
 fr:=λ n g k j kp=>by
  obtain⟨⟨o,e,r⟩,⟨o2,e2,r2⟩⟩:=j;exact⟨⟨o,kp t (.inl rfl) o e,r⟩,⟨o2,kp a (.inr rfl) o2 e2,r2⟩⟩
 lv:=λ n g j=>⟨let⟨o,e,_⟩:=j.1;⟨o,e⟩,let⟨o,e,_⟩:=j.2;⟨o,e⟩⟩
 nx:=λ n A s Q E v j hv q=>Et j.1 j.2 hv λ k jk sb=>q k ⟨jk,j.2.extBut sb.extBut hne⟩ sb
 en:=λ n A s Q E hh j hv q=>Gw hh j.1 j.2 hv q
theorem Src.ext{t a c:Addr}{J:Nat->Heap->Prop}{us:Array Value}(S:Src P w t a J us){n:Nat}{g k:Heap}(j:J n g)(x:Heap.ExtBut c g k)(h1:c≠t)(h2:c≠a):J n k:=
 S.fr n g k j λ b hb o e=>x b o (by rcases hb with rfl|rfl;exact TK h1;exact TK h2) e
structure Df(z ti to t1 t2 a1 a2:Addr):Prop where
 nd: [z,ti,to,t1,t2].Nodup
 a1:a1∉[z,ti,to,t1,t2]
 a2:a2∉[z,ti,to,t1,t2]
section
variable {z ti to t1 t2 a1 a2:Addr}
theorem Df.n(D:Df z ti to t1 t2 a1 a2):(ti≠z/\to≠z/\t1≠z/\t2≠z)/\(ti≠to/\ti≠t1/\ti≠t2)/\(to≠t1/\to≠t2)/\t1≠t2:=by
 have:=D.nd;simp only[V9,TU,WE,T3,UT,Wf,List.nodup_nil]at this;obtain⟨⟨b1,b2,b3,b4⟩,⟨b5,b6,b7⟩,⟨b8,b9⟩,b10⟩:=this;exact⟨⟨TK b1,TK b2,TK b3,TK b4⟩,⟨b5,b6,b7⟩,⟨b8,b9⟩,b10⟩
theorem Gd{A:Around}{s:Shared}{E:Value->Shared->Prop}{J1 J2:Nat->Heap->Prop}{us vs:Array Value}{n:Nat}{x y a b:Value}{Q:Value->Shared->Prop}(D:Df z ti to t1 t2 a1 a2)(S1:Src P w t1 a1 J1 us)(S2:Src P w t2 a2 J2 vs)
 (Z:IsZip s.heap z ti to .none) (pI:IsPair s.heap ti (.ref t1) (.ref t2)) (pO:IsPair s.heap to a b) (j1:J1 n s.heap) (j2:J2 n s.heap) (ex:us[n]?=some x) (ey:vs[n]?=some y)
 (q:∀k,IsZip k z ti to (rawInt s.heap.objs.size)->IsPair k to x y->J1 (n+1) k->J2 (n+1) k->IsPair k s.heap.objs.size x y->k.objs.size=s.heap.objs.size+1->
   (∀c o,c≠z->c≠to->c≠t1->c≠t2->s.heap.get? c=some o->k.get? c=some o)->Q (.ref s.heap.objs.size) {s with heap:=k}):
 wpAny (model P w) A (Builtin.«zip.__next__» ⟨[.ref z],[]⟩) (λ fin s'=>∃v,fin= .done (.ret v)/\Q v s') E s:=by
 obtain⟨⟨n1,n2,n3,n4⟩,⟨n5,n6,n7⟩,⟨n8,n9⟩,n10⟩:=D.n;have m1:=D.a1;have m2:=D.a2;simp only[TU,WE,T3,UT,Wf]at m1 m2;show wpAny _ _ (field (.ref z) 2 >>= _) _ _ _;refine Tr (UB Z rfl (x:= .bool false) rfl ?_);show wpAny _ _ (field (.ref z) 3 >>= _) _ _ _;refine Tr (UB Z rfl (x:= .ref ti) rfl ?_);refine Tr (VL pI rfl ?_);show wpAny _ _ (Builtin.SmallTypes.ownedTupleIsFree (.ref z) >>= _) _ _ _;refine Tr ?_;unfold Builtin.SmallTypes.ownedTupleIsFree;refine Tr (UB Z rfl (x:= .none) rfl (TH ?_));simp only[Wt];refine Tr (V7 ?_);refine Tr (UB Z rfl (x:= .ref to) rfl ?_);refine Tr (VU Z (by simp) λ k1 Z1 b1=>?_);replace Z1:IsZip k1 z ti to .ellipsis:=Z1;refine Tr ?_;simp only[List.zipIdx_cons,List.zipIdx_nil,XY,Yj];refine Tr (Tr (Xv ?_));show wpAny _ _ (Builtin.SmallTypes.nextOf (.ref t1) >>= _) _ _ _;refine Tr (S1.nx n _ _ _ _ x (S1.ext j1 b1.extBut (TK n3) (TK m1.1)) ex λ k2 j1b b2=>TH ?_);have pO2:IsPair k2 to a b:=b2.extBut _ _ n8 (b1.extBut _ _ n2 pO);refine Tr (VL pO2 rfl ?_);refine Tr (W8 pO2 λ k3 pO3 b3=>?_);replace pO3:IsPair k3 to x b:=pO3;refine Tr (X_ (TH ?_));refine Tr (Tr (Xv ?_));show wpAny _ _ (Builtin.SmallTypes.nextOf (.ref t2) >>= _) _ _ _;have j2c:J2 n k3:=S2.ext (S2.ext (S2.ext j2 b1.extBut (TK n4) (TK m2.1)) b2.extBut n10 (TK m2.2.2.2.1)) b3.extBut n9 (TK m2.2.2.1);refine Tr (S2.nx n _ _ _ _ y j2c ey λ k4 j2d b4=>TH ?_);have pO4:IsPair k4 to x b:=b4.extBut _ _ n9 pO3;refine Tr (VL pO4 rfl ?_);refine Tr (W8 pO4 λ k5 pO5 b5=>?_);replace pO5:IsPair k5 to x y:=pO5;refine Tr (X_ (TH (TH ?_)));refine Tr (VL pO5 rfl ?_);refine Tr (wpAny_newTuple ?_);have sz:k5.objs.size=s.heap.objs.size:=by rw[b5.1,b4.1,b3.1,b2.1,b1.1]
 have Z5:IsZip k5 z ti to .ellipsis:=b5.extBut _ _ (TK n2) (b4.extBut _ _ (TK n4) (b3.extBut _ _ (TK n2) (b2.extBut _ _ (TK n3) Z1)));have kp5:∀c o,c≠z->c≠to->c≠t1->c≠t2->s.heap.get? c=some o->k5.get? c=some o:=λ c o c1 c2 c3 c4 e=>b5.extBut _ _ c2 (b4.extBut _ _ c4 (b3.extBut _ _ c2 (b2.extBut _ _ c3 (b1.extBut _ _ c1 e))));have j1e:J1 (n+1) k5:=S1.ext (S1.ext (S1.ext j1b b3.extBut n8 (TK m1.2.2.1)) b4.extBut (TK n10) (TK m1.2.2.2.2)) b5.extBut n8 (TK m1.2.2.1);have j2e:J2 (n+1) k5:=S2.ext j2d b5.extBut n9 (TK m2.2.2.1);have ltz:z<k5.objs.size:=TN Z5;show wpAny _ _ (Builtin.SmallTypes.ownedTupleHandOut (.ref z) (.ref k5.objs.size) >>= _) _ _ _;refine Tr ?_;unfold Builtin.SmallTypes.ownedTupleHandOut;have Z6:IsZip (k5.push {cls:= .type "tuple",data:= .seq #[x,y]}) z ti to .ellipsis:=Tz _ Z5;refine Tr (VU Z6 (by simp) λ k7 Z7 b7=>?_);replace Z7:IsZip k7 z ti to (rawInt k5.objs.size):=Z7;refine VU Z7 (by simp) λ k8 Z8 b8=>?_;replace Z8:IsZip k8 z ti to (rawInt k5.objs.size):=Z8;have up:∀c o,c≠z->k5.get? c=some o->k8.get? c=some o:=λ c o c1 e=>b8.extBut _ _ c1 (b7.extBut _ _ c1 (Tz _ e));have pT:IsPair k8 k5.objs.size x y:=b8.extBut _ _ (VR ltz) (b7.extBut _ _ (VR ltz) (TX _ rfl));have sz8:k8.objs.size=k5.objs.size+1:=by rw[b8.1,b7.1,U9]
 rw[sz]at Z8 pT sz8;refine TH ⟨_,rfl,?_⟩;show Q (.ref k5.objs.size) _;rw[sz];refine q k8 Z8 (up _ _ n2 pO5) (S1.fr _ _ _ j1e λ b hb o e=>up b o ?_ e) (S2.fr _ _ _ j2e λ b hb o e=>up b o ?_ e) pT sz8 λ c o c1 c2 c3 c4 e=>up c o c1 (kp5 c o c1 c2 c3 c4 e)
 . rcases hb with rfl|rfl
   . exact n3
   . exact m1.1
 . rcases hb with rfl|rfl
   . exact n4
   . exact m2.1
theorem IT{A:Around}{s:Shared}{E:Value->Shared->Prop}{J1 J2:Nat->Heap->Prop}{us vs:Array Value}{n:Nat}{a b:Value}{Q:Fin->Shared->Prop}(hh:A.handled=none)(D:Df z ti to t1 t2 a1 a2)(S1:Src P w t1 a1 J1 us)(S2:Src P w t2 a2 J2 vs)
 (Z:IsZip s.heap z ti to .none) (pI:IsPair s.heap ti (.ref t1) (.ref t2)) (pO:IsPair s.heap to a b) (j1:J1 n s.heap) (j2:J2 n s.heap) (he:us[n]?=none\/vs[n]?=none)
 (q:∀k e,(∀c o,c≠z->c≠to->c≠t1->c≠t2->s.heap.get? c=some o->k.get? c=some o)->(∃o,k.get? e=some o/\o.cls= .type "StopIteration")->E (.ref e) {s with heap:=k}):
 wpAny (model P w) A (Builtin.«zip.__next__» ⟨[.ref z],[]⟩) Q E s:=by
 obtain⟨⟨n1,n2,n3,n4⟩,⟨n5,n6,n7⟩,⟨n8,n9⟩,n10⟩:=D.n;have m1:=D.a1;have m2:=D.a2;simp only[TU,WE,T3,UT,Wf]at m1 m2;show wpAny _ _ (field (.ref z) 2 >>= _) _ _ _;refine Tr (UB Z rfl (x:= .bool false) rfl ?_);show wpAny _ _ (field (.ref z) 3 >>= _) _ _ _;refine Tr (UB Z rfl (x:= .ref ti) rfl ?_);refine Tr (VL pI rfl ?_);show wpAny _ _ (Builtin.SmallTypes.ownedTupleIsFree (.ref z) >>= _) _ _ _;refine Tr ?_;unfold Builtin.SmallTypes.ownedTupleIsFree;refine Tr (UB Z rfl (x:= .none) rfl (TH ?_));simp only[Wt];refine Tr (V7 ?_);refine Tr (UB Z rfl (x:= .ref to) rfl ?_);refine Tr (VU Z (by simp) λ k1 Z1 b1=>?_);replace Z1:IsZip k1 z ti to .ellipsis:=Z1;refine Tr ?_;simp only[List.zipIdx_cons,List.zipIdx_nil,XY,Yj];refine Tr (Tr (Xv ?_));show wpAny _ _ (Builtin.SmallTypes.nextOf (.ref t1) >>= _) _ _ _;have j1a:J1 n k1:=S1.ext j1 b1.extBut (TK n3) (TK m1.1);cases ex:us[n]? with
 |none=>
  refine Tr (S1.en n _ _ _ _ hh j1a ex λ k2 e b2 hx=>?_);obtain⟨oe,he1,he2⟩:=hx;have Z2:IsZip k2 z ti to .ellipsis:=b2 _ _ (TK n3) Z1;have hez:e≠z:=λ c=>by subst c;rw[Z2]at he1;cases he1;simp at he2
  refine VU Z2 (by simp) λ k3 _ b3=>q k3 e (λ c o c1 _ c3 _ f=>b3.extBut _ _ c1 (b2 _ _ c3 (b1.extBut _ _ c1 f))) ⟨oe,b3.extBut _ _ hez he1,he2⟩
 |some x=>
  have ey:vs[n]?=none:=by
   rcases he with h|h
   . rw[ex]at h;cases h
   . exact h
  refine Tr (S1.nx n _ _ _ _ x j1a ex λ k2 j1b b2=>TH ?_);have pO2:IsPair k2 to a b:=b2.extBut _ _ n8 (b1.extBut _ _ n2 pO);refine Tr (VL pO2 rfl ?_);refine Tr (W8 pO2 λ k3 pO3 b3=>?_);refine Tr (X_ (TH ?_));refine Tr (Tr (Xv ?_));show wpAny _ _ (Builtin.SmallTypes.nextOf (.ref t2) >>= _) _ _ _;have j2c:J2 n k3:=S2.ext (S2.ext (S2.ext j2 b1.extBut (TK n4) (TK m2.1)) b2.extBut n10 (TK m2.2.2.2.1)) b3.extBut n9 (TK m2.2.2.1);refine Tr (S2.en n _ _ _ _ hh j2c ey λ k4 e b4 hx=>?_);obtain⟨oe,he1,he2⟩:=hx;have Z4:IsZip k4 z ti to .ellipsis:=b4 _ _ (TK n4) (b3.extBut _ _ (TK n2) (b2.extBut _ _ (TK n3) Z1));have hez:e≠z:=λ c=>by subst c;rw[Z4]at he1;cases he1;simp at he2
  refine VU Z4 (by simp) λ k5 _ b5=>q k5 e (λ c o c1 c2 c3 c4 f=>b5.extBut _ _ c1 (b4 _ _ c4 (b3.extBut _ _ c2 (b2.extBut _ _ c3 (b1.extBut _ _ c1 f))))) ⟨oe,b5.extBut _ _ hez he1,he2⟩
end
end
theorem Kb{X:Cx}{pins:List (Addr×Obj)}{σ:L2.St}{H:Hp}{s:Shared}{g:Heap}{tk:Nat}{fp:List Addr}{T:Addr}{xs:List V}(I:Inv X pins σ H s)(hf:∀b∈fp,kU X pins H b)
 (k:∀b o,b∉fp->s.heap.get? b=some o->g.get? b=some o) (hT:s.heap.objs.size<=T) (new:c_ X.prog X.w (upd H T (.tup xs)) g T (.tup xs)):Inv X pins σ (upd H T (.tup xs)) {s with heap:=g,toks:=tk}:=by
 have hn:H T=none:=I.aF.fresh hT;have nfp:∀b u,H b=some u->b∉fp:=λ b u e z=>by rw[(hf b z).1]at e;cases e
 have nT:∀b u,H b=some u->b≠T:=λ b u e=>di e hn
 refine I.step (g':=s.gens) (d':=s.drawn) (ch:=fp) (λ b hb=>?_) (λ b o _ _ hc e _=>k b o hc e) (λ b o _ _ hc e _=>⟨o.slots,k b o hc e⟩) (λ b o _ e n=>?_) (λ b o hc e=>⟨o,k b o hc e⟩)
  (λ b ys e=>by rw[aw (nT b _ e)];exact e) (λ b o u e=>by rw[aw (nT b _ e)];exact e) (λ b ps e=>⟨#[],by rw[aw (nT b _ e),e];simp⟩) (λ m hm=>?_) (λ b u e=>?_) I.bare
 . obtain⟨f0,f1,f2,f3,f4,f5⟩:=hf b hb;exact⟨f3,f1,f4,f5⟩
 . rw[aw (Ue (T8 (TN e) hT))];exact n
 . obtain⟨o,es,ep,ho,r⟩:=hm;exact⟨o,es,ep,k _ o (λ z=>(hf _ z).2.1 rfl) ho,r⟩
 . by_cases hb:b=T
   . subst hb;rw[aW]at e;cases e;exact new
   . rw[aw hb]at e;refine(I.aF b u e).oq (λ c v hc q=>k c v ?_ q) (λ c q=>by rw[aw (nT c _ q)];exact q) λ c ys q=>by rw[aw (nT c _ q)];exact q
     rcases hc with z|z
     . rw[z];exact nfp b u e
     . exact nfp c _ z
theorem Jz{X:Cx}{pins:List (Addr×Obj)}{σ:L2.St}{H:Hp}{s:Shared}{g:Heap}{tk:Nat}{fp:List Addr}(I:Inv X pins σ H s)(hf:∀b∈fp,kU X pins H b)
 (k:∀b o,b∉fp->s.heap.get? b=some o->g.get? b=some o):Inv X pins σ H {s with heap:=g,toks:=tk}:=by
 have nfp:∀b u,H b=some u->b∉fp:=λ b u e z=>by rw[(hf b z).1]at e;cases e
 refine I.step (g':=s.gens) (d':=s.drawn) (ch:=fp) (λ b hb=>?_) (λ b o _ _ hc e _=>k b o hc e) (λ b o _ _ hc e _=>⟨o.slots,k b o hc e⟩) (λ b o _ e n=>n) (λ b o hc e=>⟨o,k b o hc e⟩)
  (λ b ys e=>e) (λ b o u e=>e) (λ b ps e=>⟨#[],by rw[e];simp⟩) (λ m hm=>?_) (λ b u e=>?_) I.bare
 . obtain⟨f0,f1,f2,f3,f4,f5⟩:=hf b hb;exact⟨f3,f1,f4,f5⟩
 . obtain⟨o,es,ep,ho,r⟩:=hm;exact⟨o,es,ep,k _ o (λ z=>(hf _ z).2.1 rfl) ho,r⟩
 . refine(I.aF b u e).oq (λ c v hc q=>k c v ?_ q) (λ c q=>q) λ c ys q=>q;rcases hc with z|z
   . rw[z];exact nfp b u e
   . exact nfp c _ z
inductive SK where
 |l|t
def pf(k:SK)(K:PySem.W.Frag)(H:Hp)(a:Addr)(xs:List V):Prop:=match k with
 | .l=>lK K H a xs
 | .t=>ie K H a xs
def qI(k:SK)(t a:Addr)(n:Nat)(g:Heap):Prop:=match k with
 | .l=>g.IsListIter t a n
 | .t=>g.IsTupleIter t a n
def lW(k:SK)(g:Heap)(a:Addr)(us:Array Value):Prop:=match k with
 | .l=>g.IsList a us
 | .t=>g.IsTuple a us
def z8(k:SK)(a:Addr):Obj:=match k with
 | .l=>{cls:= .type "list_iterator",data:= .fields #[.ref a,.int 0 0]}
 | .t=>{cls:= .type "tuple_iterator",data:= .fields #[.ref a,.int 0 0]}
theorem mK{P:Program}{w:World}(k:SK)(t a:Addr)(hne:a≠t)(us:Array Value):Src P w t a (λ n g=>qI k t a n g/\lW k g a us) us:=by
 cases k
 . exact src_list t a hne us
 . exact Lc t a hne us
theorem kh{X:Cx}{pins:List (Addr×Obj)}{σ:L2.St}{H:Hp}{s:Shared}{k:SK}{a:Addr}{xs:List V}(I:Inv X pins σ H s)(h:pf k X.K H a xs):∃ai:List Value,Vals xs ai/\lW k s.heap a ai.toArray:=by
 cases k
 . obtain⟨ai,rv,p,_⟩:=I.list h;exact⟨ai,rv,p.isList⟩
 . obtain⟨ai,rv,p,_⟩:=I.tuple h;exact⟨ai,rv,p⟩
theorem xj{X:Cx}{pins:List (Addr×Obj)}{σ:L2.St}{H:Hp}{s:Shared}{k:SK}{a:Addr}{xs ys:List V}(I:Inv X pins σ H s)(h:pf k X.K H a xs)(h':pf k X.K H a ys):xs=ys:=by
 cases k
 . exact I.Ao h h'
 . exact I.yw h h'
theorem GG{P:Program}{w:World}{A:Around}{s:Shared}{E:Value->Shared->Prop}{k:SK}{a:Addr}{us:Array Value}{Q:Value->Shared->Prop}(h:lW k s.heap a us)(q:Q (.ref s.heap.objs.size) {s with heap:=s.heap.push (z8 k a)}):wpAny (model P w) A (pyIter (.ref a)) Q E s:=by
 cases k
 . exact Wh h q
 . exact Wb h q
theorem lW.push{k:SK}{g:Heap}{a:Addr}{us:Array Value}(h:lW k g a us)(o:Obj):lW k (g.push o) a us:=by
 cases k
 . obtain⟨o',e,r⟩:=h;exact⟨o',Tz _ e,r⟩
 . obtain⟨o',e,r⟩:=h;exact⟨o',Tz _ e,r⟩
theorem lW.some{k:SK}{g:Heap}{a:Addr}{us:Array Value}(h:lW k g a us):∃o,g.get? a=Option.some o:=by
 cases k
 . obtain⟨o',e,r⟩:=h;exact⟨o',e⟩
 . obtain⟨o',e,r⟩:=h;exact⟨o',e⟩
theorem C8{k:SK}{g h:Heap}{t a:Addr}(e:g.get? t=Option.some (z8 k a)):qI k t a 0 g:=by
 cases k
 . exact⟨_,e,rfl,rfl⟩
 . exact⟨_,e,rfl,rfl⟩
theorem o5{k:SK}{t a:Addr}{n:Nat}{g g':Heap}(h:qI k t a n g)(kp:∀o,g.get? t=Option.some o->g'.get? t=Option.some o):qI k t a n g':=by
 cases k
 . obtain⟨o,e,r⟩:=h;exact⟨o,kp o e,r⟩
 . obtain⟨o,e,r⟩:=h;exact⟨o,kp o e,r⟩
theorem mO{k:SK}{t a:Addr}{n:Nat}{g:Heap}(h:qI k t a n g):∃o,g.get? t=Option.some o/\∀v,o.data≠ .cell v:=by
 cases k
 . obtain⟨o,e,c,d⟩:=h;exact⟨o,e,λ v z=>by rw[d]at z;cases z⟩
 . obtain⟨o,e,c,d⟩:=h;exact⟨o,e,λ v z=>by rw[d]at z;cases z⟩
def Q2(K:PySem.W.Frag)(k1 k2:SK)(a1 a2:Addr):It:=
 ⟨λ i H=>∃xs ys x y,pf k1 K H a1 xs/\pf k2 K H a2 ys/\xs[i]?=some x/\ys[i]?=some y,
  λ i H v H'=>∃T x y,H T=none/\v= .ref T/\H'=upd H T (.tup [x,y])/\(∀xs,pf k1 K H a1 xs->xs[i]?=some x)/\∀ys,pf k2 K H a2 ys->ys[i]?=some y,
  λ i H=>∃xs ys,pf k1 K H a1 xs/\pf k2 K H a2 ys/\(xs.length<=i\/ys.length<=i)⟩
def Ph(z ti to t1 t2 a1 a2:Addr)(k1 k2:SK)(i:Nat)(h:Heap):Prop:=IsZip h z ti to .none/\IsPair h ti (.ref t1) (.ref t2)/\(∃a b,IsPair h to a b)/\qI k1 t1 a1 i h/\qI k2 t2 a2 i h
theorem HH{P:Program}{w:World}{K:PySem.W.Frag}{elts:List Expr}{kx:Nat}{pos:Pos}{z ti to t1 t2 a1 a2:Addr}(k1 k2:SK)(D:Df z ti to t1 t2 a1 a2):
 Turn P w K (.Tuple elts kx pos) (Q2 K k1 k2 a1 a2) [z,ti,to,t1,t2] z (Ph z ti to t1 t2 a1 a2 k1 k2) where
 mem:=by simp
 obj:=λ i h st b hb=>by
  obtain⟨Z,pI,⟨a,b',pO⟩,i1,i2⟩:=st;simp only[TU,T3,Ve]at hb;rcases hb with rfl|rfl|rfl|rfl|rfl
  . exact⟨_,Z,λ v e=>by cases e⟩
  . exact⟨_,pI,λ v e=>by cases e⟩
  . exact⟨_,pO,λ v e=>by cases e⟩
  . exact mO i1
  . exact mO i2
 keep:=λ i h h' st k=>by
  obtain⟨Z,pI,⟨a,b',pO⟩,i1,i2⟩:=st;exact⟨k z (by simp) _ Z,k ti (by simp) _ pI,⟨a,b',k to (by simp) _ pO⟩,o5 i1 (k t1 (by simp)),o5 i2 (k t2 (by simp))⟩
 item:=by
  intro X hP hw hK hc i pins s σ H E I hf st hg;subst hP hw hK;obtain⟨Z,pI,⟨a,b',pO⟩,i1,i2⟩:=st;obtain⟨xs,ys,x,y,q1,q2,ex,ey⟩:=hg;obtain⟨us,r1,l1⟩:=kh I q1;obtain⟨vs,r2,l2⟩:=kh I q2;obtain⟨u,eu,ru⟩:=r1.get ex;obtain⟨v,ev,rv⟩:=r2.get ey;have m1:=D.a1;have m2:=D.a2;simp only[TU,WE,T3,UT,Wf]at m1 m2;obtain⟨⟨n1,n2,n3,n4⟩,⟨n5,n6,n7⟩,⟨n8,n9⟩,n10⟩:=D.n;have tz:s.TypeIs (.ref z) "zip":=⟨_,Z,rfl⟩
  unfold pyNext;refine Tr (VZ (UN (name:=Str.ofString "__next__") tz W9 (UZ W9 tz F.entry_zip_next (Gd D (mK k1 t1 a1 m1.2.2.2.1 us.toArray) (mK k2 t2 a2 m2.2.2.2.2 vs.toArray) Z pI pO ⟨i1,l1⟩ ⟨i2,l2⟩ (x:=u) (y:=v) (by simpa using eu) (by simpa using ev) λ k Z2 pO2 j1 j2 pT szk kp=>TH ⟨_,rfl,?_⟩) (F.args_zip_next_1 _))));refine wpAny_letOwnedTupleGo_zip (s:={s with heap:=k}) Z2 λ k' Z3 b3=>?_;have hT:s.heap.objs.size≠z:=VR (TN Z)
  have kp3:∀b o,b∉[z,ti,to,t1,t2]->s.heap.get? b=some o->k'.get? b=some o:=λ b o hb e=>by
   simp only[TU,WE,T3,UT,Wf]at hb;exact b3.extBut _ _ hb.1 (kp b o hb.1 hb.2.2.1 hb.2.2.2.1 hb.2.2.2.2 e)
  refine⟨.ref s.heap.objs.size,upd H s.heap.objs.size (.tup [x,y]),Kb (s:=s) (tk:=s.toks) I hf kp3 (Tu _) ?_,rfl,⟨s.heap.objs.size,x,y,I.aF.fresh (Tu _),rfl,rfl,?_,?_⟩,?_,?_⟩
  . refine⟨Ts rfl,[u,v],.cons ru (.cons rv .nil),?_⟩;exact⟨_,b3.extBut _ _ hT pT,rfl,_,rfl⟩
  . intro xs' q';rw[xj I q' q1];exact ex
  . intro ys' q';rw[xj I q' q2];exact ey
  . refine⟨Z3,b3.extBut _ _ n1 (kp _ _ n1 n5 n6 n7 pI),⟨_,_,b3.extBut _ _ n2 pO2⟩,o5 j1.1 λ o e=>b3.extBut _ _ n3 e,o5 j2.1 λ o e=>b3.extBut _ _ n4 e⟩
  . intro b hb
    have:b≠s.heap.objs.size:=by
     obtain⟨o,e,_⟩:∃o,s.heap.get? b=some o/\True:=by
      simp only[TU,T3,Ve]at hb;rcases hb with rfl|rfl|rfl|rfl|rfl
      . exact⟨_,Z,trivial⟩
      . exact⟨_,pI,trivial⟩
      . exact⟨_,pO,trivial⟩
      . obtain⟨o,e,_⟩:=mO i1;exact⟨o,e,trivial⟩
      . obtain⟨o,e,_⟩:=mO i2;exact⟨o,e,trivial⟩
     exact Ue (TN e)
    rw[aw this];exact(hf b hb).1
 done:=by
  intro X hP hw hK hc i pins s σ H E I hf st hg;subst hP hw hK;obtain⟨Z,pI,⟨a,b',pO⟩,i1,i2⟩:=st;obtain⟨xs,ys,q1,q2,he⟩:=hg;obtain⟨us,r1,l1⟩:=kh I q1;obtain⟨vs,r2,l2⟩:=kh I q2;have e1:=r1.length;have e2:=r2.length;have m1:=D.a1;have m2:=D.a2;simp only[TU,WE,T3,UT,Wf]at m1 m2;have tz:s.TypeIs (.ref z) "zip":=⟨_,Z,rfl⟩
  unfold pyNext;refine Tr (VZ (UN (name:=Str.ofString "__next__") tz W9 (UZ W9 tz F.entry_zip_next (IT (I.ok.hd hc) D (mK k1 t1 a1 m1.2.2.2.1 us.toArray) (mK k2 t2 a2 m2.2.2.2.2 vs.toArray) Z pI pO ⟨i1,l1⟩ ⟨i2,l2⟩ ?_ λ k e kp hx=>?_) (F.args_zip_next_1 _))))
  . rcases he with h|h
    . left;simp;omega
    . right;simp;omega
  . obtain⟨o,ho,hc2⟩:=hx;refine Tr (Wo (T:="StopIteration") (b:=true) ⟨o,ho,hc2⟩ Ym ?_);refine TH ⟨rfl,Jz (s:=s) (tk:=s.toks) I hf λ b o hb e=>?_⟩;simp only[TU,WE,T3,UT,Wf]at hb;exact kp b o hb.1 hb.2.2.1 hb.2.2.2.1 hb.2.2.2.2 e
 self:=λ _ _ _ _ _ st h=>wpAny_pyIter_zip st.1 h
abbrev Jl(h:Heap)(k1:SK)(a1:Addr):Heap:=h.push (z8 k1 a1)
abbrev J4(h:Heap)(k1 k2:SK)(a1 a2:Addr):Heap:=(Jl h k1 a1).push (z8 k2 a2)
abbrev Jp(h:Heap)(k1 k2:SK)(a1 a2:Addr):Heap:=(J4 h k1 k2 a1 a2).push {cls:= .type "tuple",data:= .seq #[.ref h.objs.size,.ref (Jl h k1 a1).objs.size]}
abbrev Ke(h:Heap)(k1 k2:SK)(a1 a2:Addr):Heap:=(Jp h k1 k2 a1 a2).push {cls:= .type "tuple",data:= .seq #[.none,.none]}
abbrev CM(h:Heap)(k1 k2:SK)(a1 a2:Addr):Heap:=(Ke h k1 k2 a1 a2).push {cls:= .type "zip",data:= .fields #[.none,.bool false,.bool false,.ref (J4 h k1 k2 a1 a2).objs.size,.ref (Jp h k1 k2 a1 a2).objs.size]}
theorem FZ(k1 k2:SK)(a1 a2:Addr)(us vs:Array Value):Meets (Builtin.«zip.__new__» ⟨[.type "zip",.ref a1,.ref a2],[]⟩) (λ _ R s=>lW k1 s.heap a1 us/\lW k2 s.heap a2 vs/\
 R (.ok (.ret (.ref (Ke s.heap k1 k2 a1 a2).objs.size))) {s with heap:=CM s.heap k1 k2 a1 a2}):=
 .of_wp λ P w A R s h=>by
  obtain⟨hp,g,d,tk,os⟩:=s;obtain⟨c1,c2,h⟩:=h;have hsub:=sub_zip;have L1:lW k1 (Shared.heap ⟨hp,g,d,tk,os⟩) a1 us:=c1;have L2:lW k2 (Shared.heap ⟨hp.push (z8 k1 a1),g,d,tk,os⟩) a2 vs:=lW.push c2 _
  wp_walk using GG L1,GG L2
  exact⟨_,rfl,h⟩
theorem HA{P:Program}{w:World}{A:Around}{s:Shared}{E:Value->Shared->Prop}{k1 k2:SK}{a1 a2:Addr}{us vs:Array Value}{Q:Value->Shared->Prop}(c1:lW k1 s.heap a1 us)(c2:lW k2 s.heap a2 vs)
 (q:∀g n,n=s.heap.objs.size->IsZip g (n+4) (n+2) (n+3) .none->IsPair g (n+2) (.ref n) (.ref (n+1))->IsPair g (n+3) .none .none->qI k1 n a1 0 g->qI k2 (n+1) a2 0 g->(∀c o,s.heap.get? c=some o->g.get? c=some o)->Q (.ref (n+4)) {s with heap:=g}):
 wpAny (model P w) A (call (.type "zip") [.ref a1,.ref a2]) Q E s:=by
 refine YB F.called_zip (by decide) (F.typeCall_zip_2 _ _) (F.newCall_zip_2 _ _) (λ ob=>F.args_object_init_3 ob _ _) F.entry_zip_new (FZ k1 k2 a1 a2 us vs) ⟨c1,c2,?_⟩;have y1:(Jl s.heap k1 a1).objs.size=s.heap.objs.size+1:=U9 ..;have y2:(J4 s.heap k1 k2 a1 a2).objs.size=s.heap.objs.size+2:=by rw[U9,y1]
 have y3:(Jp s.heap k1 k2 a1 a2).objs.size=s.heap.objs.size+3:=by rw[U9,y2]
 have y4:(Ke s.heap k1 k2 a1 a2).objs.size=s.heap.objs.size+4:=by rw[U9,y3]
 have e5:(CM s.heap k1 k2 a1 a2).get? (Ke s.heap k1 k2 a1 a2).objs.size=some _:=TX _ rfl;have e4:(CM s.heap k1 k2 a1 a2).get? (Jp s.heap k1 k2 a1 a2).objs.size=some _:=Tz _ (TX _ rfl);have e3:(CM s.heap k1 k2 a1 a2).get? (J4 s.heap k1 k2 a1 a2).objs.size=some _:=Tz _ (Tz _ (TX _ rfl));have e2:(CM s.heap k1 k2 a1 a2).get? (Jl s.heap k1 a1).objs.size=some (z8 k2 a2):=Tz _ (Tz _ (Tz _ (TX _ (by cases k2<;>rfl))));have e1:(CM s.heap k1 k2 a1 a2).get? s.heap.objs.size=some (z8 k1 a1):=Tz _ (Tz _ (Tz _ (Tz _ (TX _ (by cases k1<;>rfl)))));show _/\_;rw[y2,y3,y4]at e5;rw[y1,y2]at e3;rw[y3]at e4;rw[y1]at e2;rw[y4];exact⟨⟨_,e5,rfl⟩,q _ _ rfl e5 e3 e4 (C8 (h:=s.heap) e1) (C8 (h:=s.heap) e2) λ c o x=>Tz _ (Tz _ (Tz _ (Tz _ (Tz _ x))))⟩
def Jh:D->SK
 | .tup _=> .t
 |_=> .l
def GK(k:SK)(G:Hp)(a:Addr)(vs:List V):Prop:=match k with
 | .l=>Rd G a (.lst vs)
 | .t=>G a=some (.tup vs)
theorem jA{K:PySem.W.Frag}{k:SK}{G F H:Hp}(P:bZ G F H){a:Addr}{vs:List V}(h:GK k G a vs):pf k K H a vs:=by
 cases k
 . exact .inl (fH P h)
 . exact ie.of (P.get h)
theorem mT{α:List (Option Addr)}{H:Hp}{st:ae}{d:D}{v:V}{xs:List D}(S:aM α st H)(r:Rep α H d v)(e:items? st d=some xs):∃p vs,v= .ref p/\aD α H xs vs/\GK (Jh d) H p vs:=by
 cases d<;>try(cases e;done)
 . unfold items? at e;simp only at e;split at e
   . rename_i ys q;cases e;obtain⟨a,ea,vs,h1,h2⟩:=S.ib q;exact⟨a,vs,dX ea r,h2,Rd.of h1⟩
   . cases e
 . cases e;unfold Rep at r;obtain⟨a,vs,rfl,_,h1,h2⟩:=r;exact⟨a,vs,rfl,h2,h1⟩
 . cases e;unfold Rep at r;obtain⟨a,vs,rfl,_,h1,h2⟩:=r;exact⟨a,vs,rfl,h2,h1⟩
def iu(xs ys:List D):List D:=(xs.zip ys).map λ p=> .tup [p.1,p.2]
theorem uX{xs ys:List D}:(iu xs ys).length=min xs.length ys.length:=by unfold iu;simp
theorem uF{xs ys:List D}{n:Nat}{d:D}(e:(iu xs ys)[n]?=some d):∃x y,xs[n]?=some x/\ys[n]?=some y/\d= .tup [x,y]:=by
 unfold iu at e;rw[T7]at e;cases q:(xs.zip ys)[n]? with
 |none=>rw[q]at e;cases e
 |some p=>
  rw[q]at e;cases e;rw[List.getElem?_zip_eq_some]at q;exact⟨p.1,p.2,q.1,q.2,rfl⟩
theorem Nk{K:PySem.W.Frag}{k1 k2:SK}{a1 a2:Addr}{α:List (Option Addr)}{G:Hp}{ok:ae->Prop}{xs ys:List D}
 (h:∀α' G' st',Step α G α' G'->aM α' st' G'->ok st'->∃vs ws,GK k1 G' a1 vs/\GK k2 G' a2 ws/\aD α' G' xs vs/\aD α' G' ys ws):w6 (Q2 K k1 k2 a1 a2) α G ok (iu xs ys) where
 stop:=λ n α' G' F' H' st' s P S o hn=>by
  obtain⟨vs,ws,h1,h2,r1,r2⟩:=h α' G' st' s S o;rw[uX]at hn;refine⟨vs,ws,jA P h1,jA P h2,?_⟩;have:=r1.length;have:=r2.length;omega
 go:=λ n d α' G' F' H' st' s P S o hn=>by
  obtain⟨vs,ws,h1,h2,r1,r2⟩:=h α' G' st' s S o;obtain⟨x,y,ex,ey,rfl⟩:=uF hn;obtain⟨v,ev,_⟩:=r1.get ex;obtain⟨u,eu,_⟩:=r2.get ey;exact⟨vs,ws,v,u,jA P h1,jA P h2,ev,eu⟩
 pE:=λ n d α' G' F' H' st' x H'' s P S o hn y=>by
  obtain⟨vs,ws,h1,h2,r1,r2⟩:=h α' G' st' s S o;obtain⟨c,e,ec,ee,rfl⟩:=uF hn;obtain⟨T,v,u,hT,rfl,rfl,y1,y2⟩:=y;obtain⟨v',ev,rv⟩:=r1.get ec;obtain⟨u',eu,ru⟩:=r2.get ee;rw[y1 vs (jA P h1)]at ev;rw[y2 ws (jA P h2)]at eu;cases ev;cases eu;have hg:=(P.none hT).1;refine⟨upd G' T (.tup [v,u]),Step.laid hg,P.laid hT,S.laid hg,?_⟩;unfold Rep;refine⟨T,[v,u],rfl,S.j8 hg,aW,?_⟩;unfold aD;refine⟨v,[u],rfl,rv.step (Step.laid hg),?_⟩;unfold aD;exact⟨u,[],rfl,ru.step (Step.laid hg),by unfold aD;rfl⟩
def Iw(ds:List D)(st1:ae)(K:List D->(ae->Prop)->ae->Prop):Prop:=match ds with
 | [x,y]=>(match items? st1 x,items? st1 y with
   |some xs,some ys=>K (iu xs ys) (λ st'=>items? st' x=some xs/\items? st' y=some ys) st1
   |_,_=>False)
 |_=>False
@[irreducible] def wo:List D->ae->(List D->(ae->Prop)->ae->Prop)->Prop:=Iw
def zJ(t:DA):DI:=λ σ st K=>t σ st λ ds st1=>wo ds st1 K
theorem LN{n a1 a2:Nat}(h1:a1<n)(h2:a2<n):Df (n+4) (n+2) (n+3) n (n+1) a1 a2:=by
 have e0:([n+4,n+2,n+3,n,n+1]:List Nat).Nodup:=by
  simp only[V9,TU,WE,T3,UT,Wf,List.nodup_nil];omega
 have e1:∀a:Nat,a<n->a∉([n+4,n+2,n+3,n,n+1]:List Nat):=λ a ha=>by
  simp only[TU,WE,T3,UT,Wf];omega
 exact⟨e0,e1 a1 h1,e1 a2 h2⟩
theorem MR{X:Cx}{a b:Expr}{elts:List Expr}{kx:Nat}{tpos p pos:Pos}{t:DA}(hg:Gl X "zip")(hm:X.mg "zip"=none)(ha:PA X [a,b] (LA t))(hs:starEach [a,b] X.env=[(false,eval a X.env),(false,eval b X.env)])(hs2:starEach [b] X.env=[(false,eval b X.env)]):
 PI X (.Tuple elts kx tpos) (.Call (.Name "zip" p) [a,b] [] pos) (LI (zJ t)):=by
 intro pins s σ H R I h;obtain⟨α,σd,st,K,G,F,P,RS,S,t,k⟩:=h;refine Call_ (jv I hg hm boot_zip (US (bP (ha pos pins s σ H (λ vs H1=>∃ds α1 G1 st1,Step α G α1 G1/\bZ G1 F H1/\aM α1 st1 G1/\aD α1 G1 ds vs/\wo ds st1 K) I ⟨α,σd,st,_,G,F,P,RS,S,t,λ ds st1 q α1 G1 H1 vs s1 P1 S1 r1=>⟨ds,α1,G1,st1,s1,P1,S1,r1,q⟩⟩) λ us s1 ⟨vs,H1,I1,rv,ds,α1,G1,st1,w1,P1,S1,r1,q⟩=>?_) (by rw[hs,hs2]) (by rw[hs2];rfl)));unfold wo Iw at q;split at q
 . rename_i x y;split at q
   . rename_i xs ys ex ey;obtain⟨v1,v2,rfl,q1,q2⟩:=mJ r1 rfl;obtain⟨p1,vs1,rfl,g1,c1⟩:=mT S1 q1 ex;obtain⟨p2,vs2,rfl,g2,c2⟩:=mT S1 q2 ey;obtain⟨u1,u2,rfl,ru1,ru2⟩:=vals2 rv;cases ru1;cases ru2;obtain⟨its1,_,l1⟩:=kh I1 (jA P1 c1);obtain⟨its2,_,l2⟩:=kh I1 (jA P1 c2);refine HA l1 l2 λ g n hn Z pI pO i1 i2 kp=>?_;obtain⟨o1,eo1⟩:=l1.some;obtain⟨o2,eo2⟩:=l2.some;refine wpAny_pyIter_zip (s:={s1 with heap:=g}) Z ?_;refine⟨n+4,[n+4,n+2,n+3,n,n+1],_,_,H1,rfl,I1.kept (t':=s1.toks) kp,HH (Jh x) (Jh y) (LN (by rw[hn];exact TN eo1) (by rw[hn];exact TN eo2)),⟨Z,pI,⟨_,_,pO⟩,i1,i2⟩,λ b hb=>?_,?_⟩
     . have hb':s1.heap.objs.size<=b:=by
        simp only[TU,T3,Ve]at hb;rcases hb with rfl|rfl|rfl|rfl|rfl<;>(rw[<-hn];first|exact Tu _|exact Nat.le_add_right _ _)
       exact I1.wX hb' (I1.aF.fresh hb')
     . refine k _ _ st1 q _ α1 G1 H1 w1 P1 S1 (Nk λ α' G' st' s' S' o=>?_);obtain⟨p1',ws1,e1,f1,d1⟩:=mT S' (q1.step s') o.1;obtain⟨p2',ws2,e2,f2,d2⟩:=mT S' (q2.step s') o.2;cases e1;cases e2;exact⟨ws1,ws2,d1,d2,f1,f2⟩
   . exact q.elim
 . exact q.elim
theorem Bp{st:ae}{x y:D}{xs ys:List D}{K:List D->(ae->Prop)->ae->Prop}(ex:items? st x=some xs)(ey:items? st y=some ys)(k:∀ok:ae->Prop,(∀st',items? st' x=some xs->items? st' y=some ys->ok st')->K (iu xs ys) ok st):wo [x,y] st K:=by
 unfold wo Iw;simp only[ex,ey];exact k _ λ st' h1 h2=>⟨h1,h2⟩
theorem J8{X:Cx}{a b:Expr}{elts:List Expr}{kx:Nat}{tpos p pos:Pos}{ar:DA}(hg:Gl X "zip")(hm:X.mg "zip"=none)(ha:JA X [a,b] ar)(hs:notStar a=true:=by rfl)(hs2:notStar b=true:=by rfl):JI X (.Tuple elts kx tpos) (.Call (.Name "zip" p) [a,b] [] pos) (zJ ar):=by
 unfold JI;unfold JA at ha;exact MR hg hm ha (by rw[cD hs,cD hs2];rfl) (cD hs2)
theorem zP(f:Nat->Int):∀n,preSum f (n+1)=f 0+preSum (λ i=>f (i+1)) n
 |0=>by show preSum f 0+f 0=f 0+0;show(0:Int)+f 0=f 0+0;omega
 |n+1=>by
  have h:=zP f n;show preSum f (n+1)+f (n+1)=f 0+(preSum (λ i=>f (i+1)) n+f (n+1));rw[h];omega
theorem Dj:∀ns:List Int,preSum (λ i=>ns.getD i 0) ns.length=ns.sum
 | []=>rfl
 |n::ns=>by
  rw[Uv,zP];have:(λ i=>(n::ns).getD (i+1) 0)=λ i=>ns.getD i 0:=by funext i;simp
  rw[this,Dj ns,List.sum_cons];rfl
section
variable {X:Cx}
def zp:eO:=λ ds st K=>match ds with| [.lst xs]=>(match oh xs with|some ns=>K (.int ns.sum) st|none=>False)|_=>False
theorem nR:∀ {ns:List Int} {us:List Value},Vals (ns.map V.int) us->∀(i:Nat) (u:Value),us[i]?=some u->∃t,u=Value.int (ns.getD i 0) t
 | [],_,.nil,i,u,e=>by simp at e
 |n::ns,_,.cons h t,0,u,e=>by
  obtain⟨tk,rfl⟩:=h;simp at e;exact⟨tk,by rw[<-e];rfl⟩
 |n::ns,_,.cons h t,i+1,u,e=>by
  obtain⟨tk,q⟩:=nR t i u (by simpa using e);exact⟨tk,by rw[q];simp⟩
theorem Qg(hc:X.calm=true):bM X (.builtin "sum") (fU zp):=λ pins s σ H xs us Q I rs ⟨α,ds,st,K,G,F',P,r,S,q,k⟩=>by
 unfold zp at q;split at q
 . rename_i ys;split at q
   . rename_i ns e;obtain⟨v,rfl,r1⟩:=gh r rfl;unfold Rep at r1;obtain⟨a,vs,rfl,na,h1,h2⟩:=r1;obtain⟨u,rfl,ru⟩:=vals1 rs;cases ru;have hv:=xR h2 e;subst hv;obtain⟨z,ai,n,rv,hl,eo⟩:=Inv.sx I (fH P h1);have isL:s.heap.IsList a ai.toArray:=⟨_,eo,rfl,n,rfl⟩
     refine call_sum_walkAnyB (Wh isL ?_);have hne:a≠s.heap.objs.size:=Ue (TN eo);refine⟨s.heap.objs.size,_,_,_,_,_,_,λ i=>ns.getD i 0,rfl,(Walks.list (A:=X.A.in1) (I.ok.hd hc) _ a hne ai.toArray).toS,⟨⟨_,TX _ rfl,rfl,rfl⟩,⟨_,Tz _ eo,rfl,n,rfl⟩⟩,?_,?_,?_⟩
     . intro b hb;rw[U9];simp only[TU,T3,Ve]at hb;rcases hb with rfl|rfl
       . exact Uz _
       . exact UA (TN eo)
     . intro i w hw;obtain⟨t,e⟩:=nR rv i w (by simpa using hw);exact .inl ⟨t,e⟩
     . intro s' t' hm
       have kp:∀b o,s.heap.get? b=some o->s'.heap.get? b=some o:=λ b o q=>hm.heap b o (by
        intro hb;have:b=s.heap.objs.size:=by simpa using hb
        exact absurd (TN q) (by rw[this];exact Vl _)) (Tz _ q)
       have es:s'= {s with heap:=s'.heap,toks:=s'.toks}:=by
        have g:=hm.gens;have d:=hm.drawn;have o:=hm.os;cases s';cases s
        simp_all
       have en:preSum (λ i=>ns.getD i 0) ai.toArray.size=ns.sum:=by
        have:ai.toArray.size=ns.length:=by rw[TL,<-hl,Tw]
        rw[this];exact Dj ns
       rw[en,es];exact⟨.int ns.sum,H,I.kept (t':=s'.toks) kp,⟨t',rfl⟩,k.here P q S (by unfold Rep;rfl)⟩
   . exact q.elim
 . exact q.elim
@[irreducible] def zw:eO:=zp
theorem JJ(hc:X.calm=true):bM X (.builtin "sum") (fU zw):=by unfold zw;exact Qg hc
end
theorem ints_map:∀ns:List Int,oh (ns.map D.int)=some ns
 | []=>rfl
 |n::ns=>by simp[oh,ints_map ns]
theorem Oj{st:ae}{K:DK}{xs:List D}{ns:List Int}(h:oh xs=some ns)(k:K (.int ns.sum) st):zw [.lst xs] st K:=by unfold zw zp;simp only[h];exact k
section
variable {X:Cx}{pos:Pos}
theorem Pe{α:List (Option Addr)}{H:Hp}{ds:List D}{xs:List V}{d e f:D}(r:aD α H ds xs)(q:ds=[d,e,f]):∃v u t,xs=[v,u,t]/\Rep α H d v/\Rep α H e u/\Rep α H f t:=by
 subst q;unfold aD at r;obtain⟨v,q,rfl,h1,h2⟩:=r;obtain⟨u,t,rfl,h3,h4⟩:=mJ h2 rfl;exact⟨v,u,t,rfl,h1,h3,h4⟩
end
end L3
namespace L3
open PySem L2 PySem.SeqAt
open PySem.Spec hiding items?
open PyProof.Rows hiding St
section
variable {X:Cx}{pins:List (Addr×Obj)}{σ:L2.St}{H:Hp}{s:Shared}{α:List (Option Addr)}
theorem CJ{A:Around}{d e:D}{x y:V}{u v:Value}(hd:x3 d=true)(he:x3 e=true)(rd:Rep α H d x)(re:Rep α H e y)(rx:RelV x u)(ry:RelV y v):RcNeAt A s u v (!cF d e):=by
 cases d<;>cases e<;>try(first|(cases hd;done)|(cases he;done))
 all_goals(unfold Rep at rd re;subst rd re)
 all_goals(first|(obtain⟨t,rfl⟩:=rx;obtain⟨t',rfl⟩:=ry)|(obtain⟨t,rfl⟩:=rx;cases ry)|(cases rx;obtain⟨t,rfl⟩:=ry)|(cases rx;cases ry))
 all_goals unfold cF
 . exact RcNeAt.none_none
 . exact RcNeAt.none_bool _
 . exact RcNeAt.none_int _ _
 . exact RcNeAt.none_str _ _
 . exact RcNeAt.bool_none _
 . exact RcNeAt.bool_bool _ _
 . exact RcNeAt.bool_int _ _ _
 . exact RcNeAt.bool_str _ _ _
 . exact RcNeAt.int_none _ _
 . exact RcNeAt.int_bool _ _ _
 . exact RcNeAt.int_int _ _ _ _
 . exact RcNeAt.int_str _ _ _ _
 . exact RcNeAt.str_none _ _
 . exact RcNeAt.str_bool _ _ _
 . exact RcNeAt.str_int _ _ _ _
 . exact RcNeAt.str_str _ _ _ _
theorem yt(I:Inv X pins σ H s){A:Around}{xs:List D}{e:D}{x y:V}{u v:Value}(he:x3 e=true)(rd:Rep α H (.lst xs) x)(re:Rep α H e y)(rx:RelV x u)(ry:RelV y v)(hu:A.units<cLine):
 RcNeAt A s u v (!cF (.lst xs) e)/\RcNeAt A s v u (!cF e (.lst xs)):=by
 obtain⟨a,vs,ai,rfl,_,_,hl⟩:=lst_is I rd rx;cases e<;>try(cases he;done)
 all_goals(unfold Rep at re;subst re)
 all_goals(first|(obtain⟨t,rfl⟩:=ry)|(cases ry))
 all_goals unfold cF
 . exact⟨RcNeAt.list_none hl hu,RcNeAt.none_list hl hu⟩
 . exact⟨RcNeAt.list_bool _ hl hu,RcNeAt.bool_list _ hl hu⟩
 . exact⟨RcNeAt.list_int _ _ hl hu,RcNeAt.int_list _ _ hl hu⟩
 . exact⟨RcNeAt.list_str _ _ hl hu,RcNeAt.str_list _ _ hl hu⟩
theorem xU(I:Inv X pins σ H s){A:Around}{xs:List D}{e:D}{x y:V}{u v:Value}(he:x3 e=true)(rd:Rep α H (.tup xs) x)(re:Rep α H e y)(rx:RelV x u)(ry:RelV y v)(hu:A.units<cLine):
 RcNeAt A s u v (!cF (.tup xs) e)/\RcNeAt A s v u (!cF e (.tup xs)):=by
 obtain⟨a,vs,ai,rfl,_,_,hl⟩:=tup_is I rd rx;cases e<;>try(cases he;done)
 all_goals(unfold Rep at re;subst re)
 all_goals(first|(obtain⟨t,rfl⟩:=ry)|(cases ry))
 all_goals unfold cF
 . exact⟨RcNeAt.tuple_none hl hu,RcNeAt.none_tuple hl hu⟩
 . exact⟨RcNeAt.tuple_bool _ hl hu,RcNeAt.bool_tuple _ hl hu⟩
 . exact⟨RcNeAt.tuple_int _ _ hl hu,RcNeAt.int_tuple _ _ hl hu⟩
 . exact⟨RcNeAt.tuple_str _ _ hl hu,RcNeAt.str_tuple _ _ hl hu⟩
theorem PR(I:Inv X pins σ H s)(n:Nat)(A:Around)(d e:D)(x y:V)(u v:Value)(hd:pl n d=true)(he:pl n e=true)(rd:Rep α H d x)(re:Rep α H e y)(rx:RelV x u)(ry:RelV y v)(hu:A.units+n<cLine):RcNeAt A s u v (!cF d e):=by
 cases n with
 |zero=>
  refine CJ ?_ ?_ rd re rx ry
  . cases d<;>first|rfl|(cases hd)
  . cases e<;>first|rfl|(cases he)
 |succ n=>
  have hu0:A.units<cLine:=by omega
  have hin:A.in1.units+n<cLine:=by rw[Around.in1_units];omega
  cases d<;>try(cases hd;done)
  case lst xs=>
   cases e<;>try(cases he;done)
   case lst ys=>
    obtain⟨a,vs,ai,rfl,r1,v1,l1⟩:=lst_is I rd rx;obtain⟨b,ws,jts,rfl,r2,v2,l2⟩:=lst_is I re ry;have e1:=r1.length;have e2:=v1.length;have e3:=r2.length;have e4:=v2.length;unfold cF;by_cases hlen:xs.length=ys.length
    . rw[nP hlen];have hsz:ai.toArray.size=jts.toArray.size:=by simp only[TL];omega
      have hx:xs.length=ai.toArray.size:=by simp only[TL];omega
      rw[hx];refine RcNeAt.lists l1 l2 hsz hu0 λ j h1 h2=>?_;obtain⟨p,_,q1,q2⟩:=jT r1 v1 j (by simpa using h1);obtain⟨p',_,q1',q2'⟩:=jT r2 v2 j (by simpa using h2);exact(DW I n A.in1 _ _ p p' _ _ (iI (by unfold pl at hd;exact hd) j) (iI (by unfold pl at he;exact he) j) q1 q1' (by simpa using q2) (by simpa using q2') hin).2
    . rw[ng hlen];exact RcNeAt.lists_lengths l1 l2 (by simp only[TL,W6,ne_eq];omega) hu0
   case tup ys=>
    obtain⟨a,vs,ai,rfl,r1,v1,l1⟩:=lst_is I rd rx;obtain⟨b,ws,jts,rfl,r2,v2,l2⟩:=tup_is I re ry;unfold cF;exact RcNeAt.list_tuple l1 l2 hu0
   all_goals exact(yt I rfl rd re rx ry hu0).1
  case tup xs=>
   cases e<;>try(cases he;done)
   case tup ys=>
    obtain⟨a,vs,ai,rfl,r1,v1,l1⟩:=tup_is I rd rx;obtain⟨b,ws,jts,rfl,r2,v2,l2⟩:=tup_is I re ry;have e1:=r1.length;have e2:=v1.length;have e3:=r2.length;have e4:=v2.length;unfold cF
    have key:=RcNeAt.tuples (e:=λ j=>cF (xs.getD j .ax) (ys.getD j .ax)) l1 l2 hu0 λ j h1 h2=>by
     obtain⟨p,_,q1,q2⟩:=jT r1 v1 j (by simpa using h1);obtain⟨p',_,q1',q2'⟩:=jT r2 v2 j (by simpa using h2);exact(DW I n A.in1 _ _ p p' _ _ (iI (by unfold pl at hd;exact hd) j) (iI (by unfold pl at he;exact he) j) q1 q1' (by simpa using q2) (by simpa using q2') hin).2
    by_cases hlen:xs.length=ys.length
    . rw[nP hlen];have hsz:ai.toArray.size=jts.toArray.size:=by simp only[TL];omega
      have hx:xs.length=ai.toArray.size:=by simp only[TL];omega
      rw[hsz,YA,WU,Bool.and_true,<-hsz,<-hx]at key;exact key
    . rw[ng hlen];have hne:(ai.toArray.size==jts.toArray.size)=false:=by simp only[TL,VJ,ne_eq];omega
      rw[hne,Xh]at key;exact key
   case lst ys=>
    obtain⟨a,vs,ai,rfl,r1,v1,l1⟩:=tup_is I rd rx;obtain⟨b,ws,jts,rfl,r2,v2,l2⟩:=lst_is I re ry;unfold cF;exact RcNeAt.tuple_list l1 l2 hu0
   all_goals exact(xU I rfl rd re rx ry hu0).1
  all_goals
   cases e<;>try(cases he;done)
   case lst ys=>exact(yt I rfl re rd ry rx hu0).2
   case tup ys=>exact(xU I rfl re rd ry rx hu0).2
   all_goals exact CJ rfl rfl rd re rx ry
def OA:df:=λ x y st K=>pl 40 x=true/\pl 40 y=true/\K (.bl (!cF x y)) st
theorem QJ{k:Nat}(hr:cJ k X.A):bV X (compareOp .NotEq) (LR OA):=λ pins s σ H x y v u Q I rx ry ⟨α,d,e,st,K,G,F',P,r1,r2,S,q,k⟩=>by
 have hu:=hr.units;exact PR I 40 X.A d e x y v u q.1 q.2.1 (r1.mono P.same) (r2.mono P.same) rx ry (by omega) _ _ _ _ ⟨.bl (!cF d e),H,I,rfl,k.here P q.2.2 S (by unfold Rep;rfl)⟩
@[irreducible] def zH:df:=OA
theorem En{k:Nat}(hr:cJ k X.A):bV X (compareOp .NotEq) (LR zH):=by unfold zH;exact QJ hr
end
theorem Nh{st:ae}{K:DK}{d e:D}(h1:pl 40 d=true)(h2:pl 40 e=true)(k:K (.bl (!cF d e)) st):zH d e st K:=by unfold zH;exact⟨h1,h2,k⟩
theorem sN{st:ae}{n:Nat}{xs:List D}(h:items? st (.ref n)=some xs):st[n]?=some (.lst xs):=by
 unfold items? at h;simp only at h;split at h
 . rename_i q;cases h;exact q
 . cases h
theorem La{st:ae}{d:D}{xs:List D}{K:List D->(ae->Prop)->ae->Prop}(h:items? st d=some xs)(k:∀ok:ae->Prop,(∀st',items? st' d=some xs->ok st')->K xs ok st):ot d st K:=by
 cases d with
 |lst ys=>cases h;exact Kx (k _ λ _ _=>trivial)
 |tup ys=>cases h;exact fz (k _ λ _ _=>trivial)
 |ref n=>
  have e:=sN h;unfold ot wV;simp only[e];exact k _ λ st' h'=>sN h'
 |_=>cases h
theorem pL{env:Env}:∀(l:List (Str×NameKind)) (x:Str),(l.lookup x=some .cell\/l.lookup x=some .free)->
 ((l.map λ(n,k)=>if(k== .free&&env.scope.kind== .function&&env.kindOf n==some .cell)then(n,.cell)else(n,k)).lookup x=some .cell\/(l.map λ(n,k)=>if(k== .free&&env.scope.kind== .function&&env.kindOf n==some .cell)then(n,.cell)else(n,k)).lookup x=some .free)
 | [],x,h=>by simp at h
 |(n,k)::l,x,h=>by
  rw[Uj];dsimp only;by_cases hx:x=n
  . subst hx;rw[WX]at h;split
    . rw[WX];exact .inl rfl
    . rw[WX];exact h
  . have hb:(x==n)=false:=by simpa using hx
    have e1:List.lookup x ((n,k)::l)=List.lookup x l:=by rw[Uw,hb]
    rw[e1]at h;have ih:=pL (env:=env) l x h;split
    . rw[Uw,hb];exact ih
    . rw[Uw,hb];exact ih
theorem cT.Qi{X0:Cx}{scope0 scope:Scope}{Nc0 Nc:List Str}{C:Addr}{s:Shared}{H:Hp}{ex:List Addr}{fr:List (Option Nat)}(h:ny scope0 Nc0 scope Nc fr=true):cT (cn X0 scope0 Nc0 C s H ex) scope Nc fr:=by
 unfold ny at h;simp only[Ub]at h;obtain⟨⟨⟨⟨⟨h1,h2⟩,h3⟩,h4⟩,h5⟩,h6⟩:=h;refine⟨by simpa using h1,λ x hx hk=>?_,λ x hx hk=>?_,λ x hx hk=>?_,by simpa using h5,λ i j x e1 e2=>?_⟩
 . have:=Um.mp h2 x hx;rw[hk]at this;simpa using this
 . have:=Um.mp h3 x hx;rw[hk]at this;simpa using this
 . have:=Um.mp h4 x hx;rw[hk]at this;have z:scope0.names.lookup x.1=some .cell\/scope0.names.lookup x.1=some .free:=by simpa using this
   exact pL _ _ z
 . have hi:i<fr.length:=(Tt.mp e2).1;have:=Um.mp h6 i (Vv.mpr hi);rw[e1,e2]at this;simp only[Ub,W7,VN]at this;exact⟨this.1.1,this.1.2,pL _ _ this.2⟩
end L3
namespace L3
open PySem L2
open PySem.Spec hiding items?
open PyProof.Rows hiding St
section
variable {X:Cx}
def Jb:df:=λ x y st K=>match x,y with
 | .lst xs,.int k=>(-(2^63)<=k/\k<2^63/\xs.length*k.toNat<=sizeLine)/\K (.ref st.length) (st++[.lst (List.replicate k.toNat xs).flatten])
 |_,_=>False
theorem OL:bV X (binaryOp .Mult) (LR Jb):=λ pins s σ H x y v u Q I rx ry ⟨α,d,e,st,K,G,F',P,r1,r2,S,q,k⟩=>by
 cases d<;>cases e<;>try exact q.elim
 unfold Rep at r1 r2;obtain⟨a,vs,rfl,na,ha,ra⟩:=r1;refine Co pins s σ H _ _ v u Q I rx ry ⟨a,_,vs,rfl,r2,fH P ha,q.1.1,q.1.2.1,by rw[<-ra.length];exact q.1.2.2,λ p hp=>?_⟩;exact k.new P q.2 S (a8.mpr (lj (a8.mp ra) _)) hp
@[irreducible] def wq:df:=Jb
theorem Ft:bV X (binaryOp .Mult) (LR wq):=by unfold wq;exact OL
end
theorem LD{st:ae}{K:DK}{xs:List D}{i:Int}(h: -(2^63)<=i/\i<2^63/\xs.length*i.toNat<=sizeLine)(k:K (.ref st.length) (st++[.lst (List.replicate i.toNat xs).flatten])):wq (.lst xs) (.int i) st K:=by unfold wq;exact⟨h,k⟩
theorem G_{n:Nat}{d:D}(h:d∈cX 0 n):∃i:Nat,i<n/\d= .int (i:Int):=by
 unfold cX at h;obtain⟨i,hi,rfl⟩:=T5.mp h;rw[Vv]at hi;exact⟨i,hi,by rw[VV]⟩
theorem Ga{f:Nat->D}(n:Nat):(cX 0 n).map (λ d=>match d with| .int i=>f i.toNat|_=> .ax)=(List.range n).map f:=by
 unfold cX;rw[UD];refine UK λ i _=>?_;show f ((0:Int)+(i:Int)).toNat=f i;have:((0:Int)+(i:Int)).toNat=i:=by omega
 rw[this]
theorem fN{tg:ef}{te:DE}{σc:bF}{st:ae}{K:List D->ae->Prop}(f:Nat->D)(n:Nat)(hx:∀i:Nat,i<n->∀K',K' (f i) st->∃σ2,tg (.int (i:Int)) σc=some σ2/\te σ2 st K')(k:K ((List.range n).map f) st):bO tg bf te (λ _=>True) σc (cX 0 n) [] st K:=by
 refine comp_map (g:=λ d=>match d with| .int i=>f i.toNat|_=> .ax) trivial _ (λ d hd K' q=>?_) (by rw[Ga];exact k);obtain⟨i,hi,rfl⟩:=G_ hd;exact hx i hi K' q
theorem gI{tg:ef}{body:DS}{E:k6}(n:Nat)(I:Nat->bF->ae->Prop)(hend:∀σ st,I n σ st->E.nx σ st)
 (hstep:∀(j:Nat) σ st (rest:List D),j<n->I j σ st->(∀σ' st',I (j+1) σ' st'->iQ tg body (λ _=>True) E rest σ' st')->∃σ1,tg (.int (j:Int)) σ=some σ1/\body {E with nx:=iQ tg body (λ _=>True) E rest,ct:=iQ tg body (λ _=>True) E rest,bk:=E.nx} σ1 st)
 {σ:bF} {st:ae} (h0:I 0 σ st):iQ tg body (λ _=>True) E (cX 0 n) σ st:=by
 refine iV (λ rest σ st=>∃j:Nat,j<=n/\rest=(List.range (n-j)).map (λ i=>D.int (((j+i:Nat):Int)))/\I j σ st) ?_ ?_ _ _ _ ⟨0,T4 _,by unfold cX;simp,h0⟩
 . rintro σ st ⟨j,hj,hr,hI⟩
   have:n-j=0:=by
    cases q:n-j with
    |zero=>rfl
    |succ m=>rw[q,Uq]at hr;cases hr
   have hjn:j=n:=by omega
   subst hjn;exact⟨trivial,hend σ st hI⟩
 . rintro d rest σ st ⟨j,hj,hr,hI⟩ next
   cases q:n-j with
   |zero=>rw[q]at hr;cases hr
   |succ m=>
    rw[q,Uq,Uj,UD]at hr;simp only[VB]at hr;obtain⟨rfl,hrest⟩:=hr;refine⟨trivial,hstep j σ st rest (by omega) hI λ σ' st' h'=>next σ' st' ⟨j+1,by omega,?_,h'⟩⟩;have:n-(j+1)=m:=by omega
    rw[this,hrest];refine UK λ i _=>?_;show D.int (((j+(i+1):Nat):Int))=D.int (((j+1+i:Nat):Int));congr 2;omega
section
variable {X:Cx}
end
abbrev yl:=D->bF->ae->(bF->ae->Prop)->Prop
inductive Nu(t:yl)(v:V)(σ:L2.St)(H:Hp)(Q:L2.St->Hp->Prop):Prop
 |mk (α:List (Option Addr)) (σd:bF) (st:ae) (d:D) (K:bF->ae->Prop) (G F:Hp) (P:bZ G F H) (R:dw α G σd σ) (S:aM α st G) (r:Rep α G d v) (h:t d σd st K) (k:LC α G F K Q):Nu t v σ H Q
def BF(t:yl):TG:=Nu t
def nQ(to ti:DE):yl:=λ d σ st K=>to σ st λ x st1=>ti σ st1 λ y st2=>uJ x y d st2 λ st3=>K σ st3
section
variable {X:Cx}{pos:Pos}
theorem Fg{tg:Expr}{to ti:DE}(h:PG X tg (zC (LE to) (LE ti) wy)):PG X tg (BF (nQ to ti)):=PG.imp h λ v σ H Q ⟨α,σd,st,d,K,G,F,P,R,S,r,q,k⟩=>by
 unfold nQ uJ at q;refine⟨α,σd,st,_,G,F,P,R,S,q,λ x st2 q2 α2 G2 H2 v2 s2 P2 S2 r2=>?_⟩;refine⟨α2,σd,st2,_,G2,F,P2,R.step s2,S2,q2,λ y st3 q3 α3 G3 H3 v3 s3 P3 S3 r3=>?_⟩;cases x<;>cases y<;>try exact q3.elim
 rename_i n kk;unfold BA at q3;simp only at q3;split at q3
 . rename_i xs e;split at q3
   . rename_i j ej;obtain⟨p,ep,vs,hv,rv⟩:=S3.ib e;have r2':=dX ep (r2.step s3);subst r2';unfold Rep at r3;have hm:some p∈α3:=Ui ep;have rd:=(r.step s2).step s3;refine⟨p,vs,kk,j,rfl,r3,P3.get hv,by rw[<-rv.length];exact ej,?_⟩;refine((k.at s2).at s3) σd _ q3 α3 (upd G3 p (.lst (vs.set j v))) _ σ (Step.write hm) (P3.write hv) (((R.step s2).step s3).step (Step.write hm)) ?_;exact S3.write ep ⟨vs.set j v,aW,(a8.mpr (qi rd j (a8.mp rv))).step (Step.write hm)⟩
   . exact q3.elim
 . exact q3.elim
def rY(t u:yl):yl:=λ d σ st K=>match d with| .tup [x,y]=>t x σ st λ σ1 st1=>u y σ1 st1 K|_=>False
theorem LV{a b:Expr}{kx:Nat}{t u:yl}(hc:X.calm=true)(ha:PG X a (BF t))(hb:PG X b (BF u))(hn:(assignEach [a,b] X.env).length=2)(hst:(assignEach [a,b] X.env).findIdx? (·.1)=none)(hs1:Bm X [a,b] (ff (BF t) (ff (BF u) xf))):
 PG X (.Tuple [a,b] kx pos) (BF (rY t u)):=PG.imp (vJ hc hs1 hn hst) λ v σ H Q ⟨α,σd,st,d,K,G,F,P,R,S,r,q,k⟩=>by
 unfold rY at q;split at q
 . rename_i x y;unfold Rep at r;obtain⟨p,vs,rfl,na,h1,h2⟩:=r;obtain⟨v1,v2,rfl,r1,r2⟩:=mJ h2 rfl;refine⟨p,_,rfl,.of (P.get h1),rfl,v1,_,rfl,α,σd,st,x,_,G,F,P,R,S,r1,q,λ σ1 st1 q1 α1 G1 H1 σ1' s1 P1 R1 S1=>?_⟩;refine⟨v2,_,rfl,α1,σ1,st1,y,_,G1,F,P1,R1,S1,r2.step s1,q1,λ σ2 st2 q2 α2 G2 H2 σ2' s2 P2 R2 S2=>?_⟩;exact⟨rfl,((k.at s1).at s2).here P2 q2 R2 S2⟩
 . exact q.elim
def zk(t:yl)(te:DE):DS:=λ E σ st=>te σ st λ d st1=>t d σ st1 E.nx
theorem Md{s:Stmt}{te:DE}{t:yl}(h:PS X s (l9 (LE te) (BF t))):PS X s (LS (zk t te)):=PS.imp h λ D σ H ⟨α,σd,st,DD,G,F,P,R,S,q,k⟩=>
 ⟨α,σd,st,_,G,F,P,R,S,q,λ d st1 q1 α1 G1 H1 v s1 P1 S1 r1=>⟨α1,σd,st1,d,DD.nx,G1,F,P1,R.step s1,S1,r1,q1,k.nx.at s1⟩⟩
theorem KR{o1 i1 o2 i2 e:Expr}{kx:Nat}{p1 p2 tp:Pos}{to1 ti1 to2 ti2 te:DE}(ho1:JE X o1 to1)(hi1:JE X i1 ti1)(ho2:JE X o2 to2)(hi2:JE X i2 ti2)(he:JE X e te)(hc:X.calm=true:=by rfl)
 (hs:swapsWithSole [.Tuple [.Subscript o1 i1 p1,.Subscript o2 i2 p2] kx tp] e pos.line X.env=pure false:=by rfl) (hw:swappedStores [.Tuple [.Subscript o1 i1 p1,.Subscript o2 i2 p2] kx tp] e X.env=pure none:=by rfl)
 (h1:(assignEach [.Tuple [.Subscript o1 i1 p1,.Subscript o2 i2 p2] kx tp] X.env).map (·.2)=[assign (.Tuple [.Subscript o1 i1 p1,.Subscript o2 i2 p2] kx tp) X.env]:=by rfl) (hn:(assignEach [.Subscript o1 i1 p1,.Subscript o2 i2 p2] X.env).length=2:=by rfl) (hst:(assignEach [.Subscript o1 i1 p1,.Subscript o2 i2 p2] X.env).findIdx? (·.1)=none:=by rfl)
 (ha1:∀v,assign (.Subscript o1 i1 p1) X.env v=(do
   let ov <-holding [v] (eval o1 X.env)
   let iv <-holding [v,ov] (eval i1 X.env)
   standAt p1
   holding [v,ov,iv] (setItem ov iv v)
   release [v,ov,iv] []):=by intro _;rfl) (ha2:∀v,assign (.Subscript o2 i2 p2) X.env v=(do
   let ov <-holding [v] (eval o2 X.env)
   let iv <-holding [v,ov] (eval i2 X.env)
   standAt p2
   holding [v,ov,iv] (setItem ov iv v)
   release [v,ov,iv] []):=by intro _;rfl):
 JS X (.Assign [.Tuple [.Subscript o1 i1 p1,.Subscript o2 i2 p2] kx tp] e pos) (zk (rY (nQ to1 ti1) (nQ to2 ti2)) te):=by
 unfold JS;unfold JE at*;have g1:=Fg (A7 ho1 hi1 set_list ha1);have g2:=Fg (A7 ho2 hi2 set_list ha2);exact Md (zW he (LV hc g1 g2 hn hst (dS g1 (dS g2 sX))) hs hw h1)
end
section
variable {X:Cx}
theorem xH{M:Model}{A:Around}{E:Value->Shared->Prop}{s:Shared}{Q:Value->Shared->Prop}{x:V}{v:Value}{b:Bool}(r:RelV x v)(h:Q (.bool (!(v== .bool b))) s):wpAny M A (compareOp .IsNot v (.bool b)) Q E s:=by
 cases x
 case bl c=>
  cases r;cases c<;>cases b<;>exact TH h
 all_goals first
  |(cases r;exact TH h)
  |(obtain⟨t,rfl⟩:=r;exact TH h)
def zM:df:=λ x y st K=>match y with| .ax=>live st x=true/\K (.bl (!Rp x)) st| .bl b=>live st x=true/\K (.bl (!M4 x b)) st|_=>False
theorem IC:bV X (compareOp .IsNot) (LR zM):=λ pins s σ H x y v u Q I rx ry ⟨α,d,e,st,K,G,F',P,r1,r2,S,q,k⟩=>by
 cases e<;>try exact q.elim
 . refine Mz pins s σ H x y v u Q I rx ry ⟨α,d,.ax,st,K,G,F',P,r1,r2,S,⟨q.1,?_⟩,k⟩;have q2:=q.2;cases d<;>exact q2
 . rename_i b;unfold Rep at r2;subst r2;cases ry;refine xH rx ?_;rw[Li S q.1 r1 rx];exact⟨.bl (!M4 d b),H,I,rfl,k.here P q.2 S (by unfold Rep;rfl)⟩
@[irreducible] def vX:df:=zM
theorem Ac:bV X (compareOp .IsNot) (LR vX):=by unfold vX;exact IC
end
section
variable {st:ae}{K:DK}{d:D}{b:Bool}
theorem GR(h:live st d=true)(k:K (.bl (!Rp d)) st):vX d .ax st K:=by unfold vX;exact⟨h,k⟩
end
section
variable {X:Cx}
end
end L3
namespace L3
open PySem L2
open PySem.Spec hiding items?
open PyProof.Rows hiding St
open AutoSeq1 (wpAny_loadPart')
theorem K0{P:Program}{w:World}{A:Around}(hh:A.handled=none)(k:SK)(t a:Addr)(hne:a≠t)(us:Array Value):Draws P w A t [t,a] us.size (λ i v=>us[i]?=some v) (λ n g=>qI k t a n g/\lW k g a us) where
 live:=λ i h z=>((mK (P:=P) (w:=w) k t a hne us).lv i h z).1
 frame:=λ i h h' z kp=>(mK (P:=P) (w:=w) k t a hne us).fr i h h' z λ b hb o e=>kp b (by rcases hb with rfl|rfl<;>simp) o e
 item:=λ i s Q E hi z q=>(mK (P:=P) (w:=w) k t a hne us).nx i A s Q E us[i] z (by simp[hi]) λ g j sb=>q _ g s.toks (by simp[hi]) j sb
 done:=λ s Q E z q=>(mK (P:=P) (w:=w) k t a hne us).en us.size A s Q E hh z (by simp) q
theorem pK(l:Addr)(items:Array Value)(n:Nat)(dct:Option Addr)(sl:Array (Option Value)):
 Meets (Builtin.«enumerate.__new__» ⟨[.type "enumerate",.ref l],[]⟩) (λ _ R s=>s.heap.get? l=some {cls:= .type "tuple",dict:=dct,data:= .seq items n,slots:=sl}/\
  R (.ok (.ret (.ref (s.heap.push {cls:= .type "tuple_iterator",data:= .fields #[.ref l,.int 0 0]}).objs.size)))
   {s with heap:=(s.heap.push {cls:= .type "tuple_iterator",data:= .fields #[.ref l,.int 0 0]}).push {cls:= .type "enumerate",data:= .fields #[.none,.bool false,.ref s.heap.objs.size,rawInt 0,.none,.none]}}):=
 .of_wp λ prog w A R s h=>by
  obtain⟨hp,g,d,tk,os⟩:=s;obtain⟨hl,h⟩:=h;have hsub:=sub_enumerate;have hL:Heap.IsTuple (Shared.heap ⟨hp,g,d,tk,os⟩) l items:=⟨_,hl,rfl,n,rfl⟩
  wp_walk using wpAny_loadPart' hl
  refine wpAny_stack_any λ st=>TH ?_;split
  . rename_i c _ _ _ _ _;cases (c==Value.type "enumerate")
    . wp_walk using wpAny_loadPart' hl,Wb hL
      exact⟨_,rfl,h⟩
    . wp_walk using wpAny_loadPart' hl,Wb hL
      exact⟨_,rfl,h⟩
  . wp_walk using wpAny_loadPart' hl,Wb hL
    exact⟨_,rfl,h⟩
theorem F1{P:Program}{w:World}{A:Around}{s:Shared}{E:Value->Shared->Prop}{k:SK}{a:Addr}{us:Array Value}{Q:Value->Shared->Prop}(c:lW k s.heap a us)
 (q:∀g,IsEnum g (s.heap.objs.size+1) s.heap.objs.size 0 .none->qI k s.heap.objs.size a 0 g->(∀b o,s.heap.get? b=some o->g.get? b=some o)->Q (.ref (s.heap.objs.size+1)) {s with heap:=g}):
 wpAny (model P w) A (call (.type "enumerate") [.ref a]) Q E s:=by
 cases k
 . exact call_enumerate_list c λ g h1 h2 _ h4=>q g h1 h2 h4
 . obtain⟨⟨c,dct,dt,sl⟩,hl,hc,n,hd⟩:=c;replace hc:c= .type "tuple":=hc;replace hd:dt= .seq us n:=hd;subst hc hd
   refine YB F.called_enumerate (by decide) (F.typeCall_enumerate_1 _) (F.newCall_enumerate_1 _) (λ obj=>W_ obj _) F.entry_enumerate_new
    (pK a us n dct sl) ⟨hl,?_⟩
   have hz:(s.heap.push {cls:= .type "tuple_iterator",data:= .fields #[.ref a,.int 0 0]}).objs.size=s.heap.objs.size+1:=U9 ..;show _/\_;rw[hz]
   have he:IsEnum ((s.heap.push {cls:= .type "tuple_iterator",data:= .fields #[.ref a,.int 0 0]}).push
    {cls:= .type "enumerate",data:= .fields #[.none,.bool false,.ref s.heap.objs.size,rawInt 0,.none,.none]}) (s.heap.objs.size+1) s.heap.objs.size 0 .none:=by
    have:=TX (s.heap.push {cls:= .type "tuple_iterator",data:= .fields #[.ref a,.int 0 0]})
     (o:={cls:= .type "enumerate",data:= .fields #[.none,.bool false,.ref s.heap.objs.size,rawInt 0,.none,.none]}) rfl
    rw[hz]at this;exact this
   exact⟨⟨_,he,rfl⟩,q _ he ⟨_,Tz _ (TX _ rfl),rfl,rfl⟩ λ b o x=>Tz _ (Tz _ x)⟩
def Q7(K:PySem.W.Frag)(k:SK)(a:Addr):It:=
 ⟨λ i H=>∃xs x,pf k K H a xs/\xs[i]?=some x,
  λ i H v H'=>∃T x,H T=none/\v= .ref T/\H'=upd H T (.tup [.int (i:Int),x])/\∀xs,pf k K H a xs->xs[i]?=some x,
  λ i H=>∃xs,pf k K H a xs/\xs.length<=i⟩
def Sh(e t a:Addr)(k:SK)(i:Nat)(h:Heap):Prop:=(∃old,IsEnum h e t i old)/\qI k t a i h
theorem GQ{P:Program}{w:World}{K:PySem.W.Frag}{elts:List Expr}{kx:Nat}{pos:Pos}{e t a:Addr}(k:SK)(n1:e≠t)(n2:a≠e)(n3:a≠t):
 Turn P w K (.Tuple elts kx pos) (Q7 K k a) [e,t] e (Sh e t a k) where
 mem:=by simp
 obj:=λ i h st b hb=>by
  obtain⟨⟨old,he⟩,i1⟩:=st;simp only[TU,T3,Ve]at hb;rcases hb with rfl|rfl
  . exact⟨_,he,λ v z=>by cases z⟩
  . exact mO i1
 keep:=λ i h h' st kp=>by
  obtain⟨⟨old,he⟩,i1⟩:=st;exact⟨⟨old,kp e (by simp) _ he⟩,o5 i1 (kp t (by simp))⟩
 item:=by
  intro X hP hw hK hc i pins s σ H E I hf st hg;subst hP hw hK;obtain⟨⟨old,he⟩,i1⟩:=st;obtain⟨xs,x,q1,ex⟩:=hg;obtain⟨us,r1,l1⟩:=kh I q1;obtain⟨u,eu,ru⟩:=r1.get ex
  have hlt:i<us.toArray.size:=by
   have:=(Tt.mp eu).1;simpa using this
  refine wpAny_pyNext_enum_itemD (K0 (A:=X.A.in1) (show X.A.in1.handled=none from I.ok.hd hc) k t a n3 us.toArray) he ⟨i1,l1⟩ hlt n1 (by simp only[TU,T3,Ve,WE];exact⟨n1,TK n2⟩) λ y h' tk py ho hs hT hsz kp=>⟨_,rfl,?_⟩
  have hy:y=u:=by
   have:us[i]?=some y:=by simpa using py
   rw[eu]at this;cases this;rfl
  subst hy;refine wpAny_letOwnedTupleGo_enum (s:={s with heap:=h',toks:=tk+1}) ho λ k' he' sb=>?_;have hTe:s.heap.objs.size≠e:=VR (TN he)
  have kp3:∀b o,b∉[e,t]->s.heap.get? b=some o->k'.get? b=some o:=λ b o hb eb=>by
   simp only[TU,WE,T3,UT,Wf]at hb;exact sb.extBut _ _ hb.1 (kp b o hb.1 hb.2 eb)
  refine⟨.ref s.heap.objs.size,upd H s.heap.objs.size (.tup [.int (i:Int),x]),Kb (s:=s) (tk:=tk+1) I hf kp3 (Tu _) ?_,rfl,⟨s.heap.objs.size,x,I.aF.fresh (Tu _),rfl,rfl,?_⟩,?_,?_⟩
  . refine⟨Ts rfl,[.int (i:Int) tk,y],.cons ⟨tk,rfl⟩ (.cons ru .nil),?_⟩;exact⟨_,sb.extBut _ _ hTe hT,rfl,_,rfl⟩
  . intro xs' q';rw[xj I q' q1];exact ex
  . refine⟨⟨_,by simpa using he'⟩,o5 hs.1 λ o eo=>sb.extBut _ _ (TK n1) eo⟩
  . intro b hb
    have:b≠s.heap.objs.size:=by
     obtain⟨o,eb⟩:∃o,s.heap.get? b=some o:=by
      simp only[TU,T3,Ve]at hb;rcases hb with rfl|rfl
      . exact⟨_,he⟩
      . obtain⟨o,eo,_⟩:=mO i1;exact⟨o,eo⟩
     exact Ue (TN eb)
    rw[aw this];exact(hf b hb).1
 done:=by
  intro X hP hw hK hc i pins s σ H E I hf st hg;subst hP hw hK;obtain⟨⟨old,he⟩,i1⟩:=st;obtain⟨xs,q1,hle⟩:=hg;obtain⟨us,r1,l1⟩:=kh I q1;have e1:=r1.length;have tz:s.TypeIs (.ref e) "enumerate":=⟨_,he,rfl⟩
  unfold pyNext;refine Tr (VZ (UN (name:=Str.ofString "__next__") tz F.slot_enumerate_next (UZ F.slot_enumerate_next tz F.entry_enumerate_next ?_ (F.args_enumerate_next_1 _))));show wpAny _ _ (field (.ref e) 2 >>= _) _ _ _;refine Tr (UB he rfl (x:= .ref t) rfl ?_);refine Tr ((mK k t a n3 us.toArray).en i _ s _ _ (I.ok.hd hc) ⟨i1,l1⟩ (by simp;omega) λ g x sb hx=>?_);obtain⟨o,ho,hc2⟩:=hx;refine Tr (Wo (T:="StopIteration") (b:=true) ⟨o,ho,hc2⟩ Ym ?_);refine TH ⟨rfl,Jz (s:=s) (tk:=s.toks) I hf λ b o hb eb=>?_⟩;simp only[TU,WE,T3,UT,Wf]at hb;exact sb b o hb.2 eb
 self:=λ _ _ _ _ _ st h=>wpAny_pyIter_enum st.1.choose_spec h
def d8:Nat->List D->List D
 |_,[]=>[]
 |i,x::xs=> .tup [.int (i:Int),x]::d8 (i+1) xs
theorem nV:∀ {xs:List D} {i:Nat},(d8 i xs).length=xs.length
 | [],_=>rfl
 |_::xs,i=>by unfold d8;rw[Uv,Uv,nV]
theorem rj:∀ {xs:List D} {i n:Nat} {d:D},(d8 i xs)[n]?=some d->∃x,xs[n]?=some x/\d= .tup [.int ((i+n:Nat):Int),x]
 | [],_,_,_,e=>by unfold d8 at e;cases e
 |x::xs,i,0,d,e=>by
  unfold d8 at e;rw[List.getElem?_cons_zero]at e;cases e;exact⟨x,rfl,rfl⟩
 |x::xs,i,n+1,d,e=>by
  unfold d8 at e;rw[WM]at e;obtain⟨y,h1,h2⟩:=rj e;refine⟨y,by rw[WM];exact h1,?_⟩;rw[h2,show i+1+n=i+(n+1) by omega]
theorem Kz{K:PySem.W.Frag}{k:SK}{a:Addr}{α:List (Option Addr)}{G:Hp}{ok:ae->Prop}{xs:List D}
 (h:∀α' G' st',Step α G α' G'->aM α' st' G'->ok st'->∃vs,GK k G' a vs/\aD α' G' xs vs):w6 (Q7 K k a) α G ok (d8 0 xs) where
 stop:=λ n α' G' F' H' st' s P S o hn=>by
  obtain⟨vs,h1,r1⟩:=h α' G' st' s S o;rw[nV]at hn;refine⟨vs,jA P h1,?_⟩;have:=r1.length;omega
 go:=λ n d α' G' F' H' st' s P S o hn=>by
  obtain⟨vs,h1,r1⟩:=h α' G' st' s S o;obtain⟨x,ex,rfl⟩:=rj hn;obtain⟨v,ev,_⟩:=r1.get ex;exact⟨vs,v,jA P h1,ev⟩
 pE:=λ n d α' G' F' H' st' x H'' s P S o hn y=>by
  obtain⟨vs,h1,r1⟩:=h α' G' st' s S o;obtain⟨c,ec,rfl⟩:=rj hn;obtain⟨T,v,hT,rfl,rfl,y1⟩:=y;obtain⟨v',ev,rv⟩:=r1.get ec;rw[y1 vs (jA P h1)]at ev;cases ev;have hg:=(P.none hT).1;refine⟨upd G' T (.tup [.int (n:Int),v]),Step.laid hg,P.laid hT,S.laid hg,?_⟩;unfold Rep;refine⟨T,[.int (n:Int),v],rfl,S.j8 hg,aW,?_⟩;unfold aD;refine⟨.int (n:Int),[v],rfl,?_,?_⟩
  . unfold Rep;rw[YC]
  unfold aD;exact⟨v,[],rfl,rv.step (Step.laid hg),by unfold aD;rfl⟩
def Ei(ds:List D)(st1:ae)(K:List D->(ae->Prop)->ae->Prop):Prop:=match ds with
 | [x]=>(match items? st1 x with
   |some xs=>K (d8 0 xs) (λ st'=>items? st' x=some xs) st1
   |_=>False)
 |_=>False
@[irreducible] def rO:List D->ae->(List D->(ae->Prop)->ae->Prop)->Prop:=Ei
def vw(t:DA):DI:=λ σ st K=>t σ st λ ds st1=>rO ds st1 K
theorem GD:bootBuiltins "enumerate"=some (.type "enumerate"):=by decide+kernel
theorem L_{X:Cx}{a:Expr}{elts:List Expr}{kx:Nat}{tpos p pos:Pos}{t:DA}(hg:Gl X "enumerate")(hm:X.mg "enumerate"=none)(ha:PA X [a] (LA t))(hs:starEach [a] X.env=[(false,eval a X.env)]):
 PI X (.Tuple elts kx tpos) (.Call (.Name "enumerate" p) [a] [] pos) (LI (vw t)):=by
 intro pins s σ H R I h;obtain⟨α,σd,st,K,G,F,P,RS,S,t,k⟩:=h;refine Call_ (jv I hg hm GD (US (bP (ha pos pins s σ H (λ vs H1=>∃ds α1 G1 st1,Step α G α1 G1/\bZ G1 F H1/\aM α1 st1 G1/\aD α1 G1 ds vs/\rO ds st1 K) I ⟨α,σd,st,_,G,F,P,RS,S,t,λ ds st1 q α1 G1 H1 vs s1 P1 S1 r1=>⟨ds,α1,G1,st1,s1,P1,S1,r1,q⟩⟩) λ us s1 ⟨vs,H1,I1,rv,ds,α1,G1,st1,w1,P1,S1,r1,q⟩=>?_) (by rw[hs];rfl) (by rfl)));unfold rO Ei at q;split at q
 . rename_i x;split at q
   . rename_i xs ex;obtain⟨v1,rfl,q1⟩:=gh r1 rfl;obtain⟨p1,vs1,rfl,g1,c1⟩:=mT S1 q1 ex;obtain⟨u1,rfl,ru1⟩:=vals1 rv;cases ru1;obtain⟨its1,_,l1⟩:=kh I1 (jA P1 c1);refine F1 l1 λ g he i1 kp=>?_;obtain⟨o1,eo1⟩:=l1.some;have hp1:p1<s1.heap.objs.size:=TN eo1;refine wpAny_pyIter_enum (s:={s1 with heap:=g}) he ?_;refine⟨s1.heap.objs.size+1,[s1.heap.objs.size+1,s1.heap.objs.size],_,_,H1,rfl,I1.kept (t':=s1.toks) kp,GQ (Jh x) (VR (Uz _)) (Ue (UA hp1)) (Ue hp1),⟨⟨_,he⟩,i1⟩,λ b hb=>?_,?_⟩
     . have hb':s1.heap.objs.size<=b:=by
        simp only[TU,T3,Ve]at hb;rcases hb with rfl|rfl
        . exact Xj _
        . exact Tu _
       exact I1.wX hb' (I1.aF.fresh hb')
     . refine k _ _ st1 q _ α1 G1 H1 w1 P1 S1 (Kz λ α' G' st' s' S' o=>?_);obtain⟨p1',ws1,e1,f1,d1⟩:=mT S' (q1.step s') o;cases e1;exact⟨ws1,d1,f1⟩
   . exact q.elim
 . exact q.elim
theorem xF{st:ae}{x:D}{xs:List D}{K:List D->(ae->Prop)->ae->Prop}(ex:items? st x=some xs)(k:∀ok:ae->Prop,(∀st',items? st' x=some xs->ok st')->K (d8 0 xs) ok st):rO [x] st K:=by
 unfold rO Ei;simp only[ex];exact k _ λ st' h1=>h1
theorem Fj{X:Cx}{a:Expr}{elts:List Expr}{kx:Nat}{tpos p pos:Pos}{ar:DA}(hg:Gl X "enumerate")(hm:X.mg "enumerate"=none)(ha:JA X [a] ar)(hs:notStar a=true:=by rfl):JI X (.Tuple elts kx tpos) (.Call (.Name "enumerate" p) [a] [] pos) (vw ar):=by
 unfold JI;unfold JA at ha;exact L_ hg hm ha (cD hs)
end L3
namespace L3
open PySem L2
open PySem.Spec hiding items?
open PyProof.Rows hiding St
section
variable {prog:Program}{w:World}{A:Around}{E:Value->Shared->Prop}{s:Shared}
end
theorem IG:bootBuiltins "reversed"=some (.type "reversed"):=by decide+kernel
section
variable {X:Cx}{tg:Expr}
end
section
variable {X:Cx}
end
end L3
namespace L3
open PySem L2
open PySem.Spec hiding items?
open PyProof.Rows hiding St
open PySem PySem.Spec L2 PySem.SeqAt
section
variable {X:Cx}
end
end L3
namespace L3
open PySem L2
open PySem.Spec hiding items?
open PyProof.Rows hiding St
section
variable {X:Cx}
end
section
variable {P:Program}{w:World}
section
variable {z ti to t1 t2 t3 a1 a2 a3:Addr}
end
end
section
variable {X:Cx}
end
end L3
namespace L3
open PySem L2
open PySem.Spec hiding items?
open PyProof.Rows hiding St
open Sem (wp)
section
variable {prog:Program}{w:World}{A:Around}{s:Shared}{E:Value->Shared->Prop}
end
section
variable {prog:Program}{w:World}{A:Around}{R:Result->Shared->Prop}{I:Addr}{fp wr:List Addr}{G:Array GenState->Array GenState->Prop}{n:Nat}{P:Nat->Value->Prop}{Sx:Nat->Shared->Prop}
end
section
variable {prog:Program}{w:World}{A:Around}{E:Value->Shared->Prop}{s:Shared}
end
section
variable {X:Cx}{pins:List (Addr×Obj)}{σ:L2.St}{H:Hp}{s:Shared}{α:List (Option Addr)}
end
end L3
namespace L3
open PySem L2
open PySem.Spec hiding items?
open PyProof.Rows hiding St
section
variable {X:Cx}
def zi:eO:=λ ds st K=>match ds with| [.lst xs]=>(match fY xs with|some bs=>K (.bl (bs.any id)) st|none=>False)|_=>False
theorem range_any{α:Type}(l:List α)(f:α->Bool)(tr:Nat->Bool)(h:∀i x,l[i]?=some x->tr i=f x):(List.range l.length).any tr=l.any f:=by
 induction l generalizing tr with
 |nil=>rfl
 |cons a l ih=>
  rw[Uv,Uq,WT,WT,YD,h 0 a rfl];congr 1;exact ih (tr∘Nat.succ) λ i x e=>h (i+1) x (by simpa using e)
theorem QC(hc:X.calm=true):bM X (.builtin "any") (fU zi):=λ pins s σ H xs us Q I rs ⟨α,ds,st,K,G,F',P,r,S,q,k⟩=>by
 unfold zi at q;split at q
 . rename_i ys;split at q
   . rename_i bs e;obtain⟨v,rfl,r1⟩:=gh r rfl;unfold Rep at r1;obtain⟨a,vs,rfl,na,h1,h2⟩:=r1;obtain⟨u,rfl,ru⟩:=vals1 rs;cases ru;have hv:=qd h2 e;subst hv;obtain⟨z,ai,n,rv,hl,eo⟩:=Inv.sx I (fH P h1);have hits:=qB rv;subst hits;have isL:s.heap.IsList a (bs.map Value.bool).toArray:=⟨_,eo,rfl,n,rfl⟩
     refine call_any_walk (Wh isL ?_);have hne:a≠s.heap.objs.size:=Ue (TN eo);refine⟨s.heap.objs.size,_,_,_,_,_,λ i=>(bs[i]?).getD true,rfl,Walks.list (A:=X.A.in1) (I.ok.hd hc) _ a hne (bs.map Value.bool).toArray,⟨⟨_,TX _ rfl,rfl,rfl⟩,⟨_,Tz _ eo,rfl,n,rfl⟩⟩,?_,?_⟩
     . intro i w s' Q' E' hP hQ;rw[Yk,T7]at hP;cases zb:bs[i]? with
       |none=>rw[zb]at hP;cases hP
       |some b=>
        rw[zb]at hP;cases hP;simp only[zb]at hQ;exact VE hQ
     . intro h' tk hk
       have kp:∀b o,s.heap.get? b=some o->h'.get? b=some o:=λ b o q=>hk b o (by
        intro hb;have:b=s.heap.objs.size:=by simpa using hb
        exact absurd (TN q) (by rw[this];exact Vl _)) (Tz _ q)
       have ea:(List.range (bs.map Value.bool).toArray.size).any (λ i=>(bs[i]?).getD true)=bs.any id:=by
        rw[TL,Tw];exact range_any bs id _ λ i x e=>by rw[e];rfl
       rw[ea];exact⟨.bl (bs.any id),H,I.kept (t':=tk) kp,rfl,k.here P q S (by unfold Rep;rfl)⟩
   . exact q.elim
 . exact q.elim
@[irreducible] def zN:eO:=zi
theorem IY(hc:X.calm=true):bM X (.builtin "any") (fU zN):=by unfold zN;exact QC hc
end
theorem OS{st:ae}{K:DK}{xs:List D}{bs:List Bool}(h:fY xs=some bs)(k:K (.bl (bs.any id)) st):zN [.lst xs] st K:=by unfold zN zi;simp only[h];exact k
def putD(f:Str)(v:D):List (Str×D)->List (Str×D)
 | []=>[(f,v)]
 |(g,x)::r=>if g=f then(g,v)::r else(g,x)::putD f v r
theorem jF.look{α:List (Option Addr)}{H:Hp}{f:Str}{v:D}:∀ {fs:List (Str×D)} {vs:List (Str×V)},jF α H fs vs->fs.lookup f=some v->∃u,vs.lookup f=some u/\Rep α H v u
 | [],_,_,e=>by cases e
 |(g,x)::fs,_,.cons (b:=q) h t,e=>by
  obtain⟨g',y⟩:=q;obtain⟨h1,h2⟩:=h;simp only at h1 h2;subst h1;rw[Uw]at e⊢;cases hb:f==g with
  |true=>rw[hb]at e;cases e;exact⟨y,rfl,h2⟩
  |false=>rw[hb]at e;exact jF.look t e
theorem jF.none{α:List (Option Addr)}{H:Hp}{f:Str}:∀ {fs:List (Str×D)} {vs:List (Str×V)},jF α H fs vs->fs.lookup f=Option.none->vs.lookup f=Option.none
 | [],_,.nil,_=>rfl
 |(g,x)::fs,_,.cons (b:=q) h t,e=>by
  obtain⟨g',y⟩:=q;obtain⟨h1,h2⟩:=h;simp only at h1 h2;subst h1;rw[Uw]at e⊢;cases hb:f==g with
  |true=>rw[hb]at e;cases e
  |false=>rw[hb]at e;exact jF.none t e
theorem jF.put{α:List (Option Addr)}{H:Hp}{f:Str}{d:D}{v:V}(r:Rep α H d v):∀ {fs:List (Str×D)} {vs:List (Str×V)},jF α H fs vs->jF α H (putD f d fs) (gq f v vs)
 | [],_,.nil=> .cons ⟨rfl,r⟩ .nil
 |(g,x)::fs,_,.cons (b:=q) h t=>by
  obtain⟨g',y⟩:=q;obtain⟨h1,h2⟩:=h;simp only at h1 h2;subst h1;unfold putD gq;by_cases hb:g=f
  . rw[TC hb,TC hb];exact .cons ⟨rfl,r⟩ t
  . rw[Tv hb,Tv hb];exact .cons ⟨rfl,h2⟩ (jF.put r t)
def Ia(C:Addr)(f:Str)(d:D)(st:ae)(K:DK):Prop:=match d with
 | .ref n=>(match st[n]? with|some (.ins C' fs)=>C'=C/\∃v,fs.lookup f=some v/\K v st|_=>False)
 |_=>False
@[irreducible] def D0(C:Addr)(f:Str):D->ae->DK->Prop:=Ia C f
def bN(C:Addr)(f:Str)(te:DE):DE:=λ σ st K=>te σ st λ d st1=>D0 C f d st1 K
theorem aZ{C:Addr}{f:Str}{n:Nat}{st:ae}{K:DK}{fs:List (Str×D)}{v:D}(e:st[n]?=some (.ins C fs))(h:fs.lookup f=some v)(k:K v st):D0 C f (.ref n) st K:=by
 unfold D0 Ia;simp only[e];exact⟨trivial,v,h,k⟩
def EG(C:Addr)(f:Str)(x d:D)(st:ae)(K:ae->Prop):Prop:=match x with
 | .ref n=>(match st[n]? with|some (.ins C' fs)=>C'=C/\fs.length<1000/\K (st.set n (.ins C (putD f d fs)))|_=>False)
 |_=>False
@[irreducible] def vK(C:Addr)(f:Str):D->D->ae->(ae->Prop)->Prop:=EG C f
def eG(C:Addr)(f:Str)(to te:DE):DS:=λ D σ st=>te σ st λ d st1=>to σ st1 λ x st2=>vK C f x d st2 λ st3=>D.nx σ st3
theorem kL{C:Addr}{f:Str}{n:Nat}{d:D}{st:ae}{K:ae->Prop}{fs:List (Str×D)}(e:st[n]?=some (.ins C fs))(h:fs.length<1000)(k:K (st.set n (.ins C (putD f d fs)))):vK C f (.ref n) d st K:=by
 unfold vK EG;simp only[e];exact⟨trivial,h,k⟩
def y9(C:Addr)(m:Str)(x:D)(st:ae)(k:Prop):Prop:=match x with
 | .ref n=>(match st[n]? with|some (.ins C' fs)=>C'=C/\fs.lookup m=none/\k|_=>False)
 |_=>False
@[irreducible] def vx(C:Addr)(m:Str):D->ae->Prop->Prop:=y9 C m
theorem dm{C:Addr}{m:Str}{n:Nat}{st:ae}{k:Prop}{fs:List (Str×D)}(e:st[n]?=some (.ins C fs))(h:fs.lookup m=none)(q:k):vx C m (.ref n) st k:=by
 unfold vx y9;simp only[e];exact⟨trivial,h,q⟩
def dy(C:Addr)(m:Str)(S:bQ)(to:DE)(t:DA):DE:=λ σ st K=>to σ st λ x st1=>vx C m x st1 (t σ st1 λ ds st2=>S (x::ds) st2 K)
def zf(C:Addr)(S:bQ)(t:DA):DE:=λ σ st K=>t σ st λ ds st1=>S (.ref st1.length::ds) (st1++[.ins C []]) λ r st2=>r= .ax/\K (.ref st1.length) st2
section
variable {X:Cx}{C f g:Addr}{fd:FuncData}{k:Nat}{x m fl:Str}{e o value:Expr}{es:List Expr}{p pos pos' apos:Pos}{te to:DE}{t:DA}{S:bQ}{ps:List Str}
theorem Qq(c:lP X.K C)(na:du X.K C fl)(he:PE X e (LE te))(hb:attributeBase e fl X.env (eval e X.env)=eval e X.env):PE X (.Attribute e fl pos) (LE (bN C fl te)):=PE.imp (MT he hb) λ σ H Q ⟨α,σd,st,K,G,F,P,R,S,t,k⟩=>by
 refine⟨α,σd,st,_,G,F,P,R,S,t,λ d st1 q α1 G1 H1 v s1 P1 S1 r1=>?_⟩;unfold D0 Ia at q;cases d<;>try exact q.elim
 simp only at q;split at q
 . rename_i C' fs e';obtain⟨rfl,w,hw,q⟩:=q;obtain⟨a,ea,dx,vs,h1,h2⟩:=S1.vP e';have r1':=dX ea r1;subst r1';obtain⟨u,hu,ru⟩:=h2.look hw;exact⟨a,_,dx,vs,u,rfl,P1.get h1,c,na,hu,(k.at s1).here P1 q S1 ru⟩
 . exact q.elim
theorem NB(c:lP X.K C)(na:du X.K C fl)(ho:PE X o (LE to))(hv:PE X value (LE te))(hs:swapsWith value (some (.Attribute o fl pos')) pos.line X.env=pure false):PS X (.Assign [.Attribute o fl pos'] value pos) (LS (eG C fl to te)):=PS.imp (Nl ho hv hs) λ D σ H ⟨α,σd,st,DD,G,F,P,R,S,t,k⟩=>by
 refine⟨α,σd,st,_,G,F,P,R,S,t,λ d st1 q α1 G1 H1 v s1 P1 S1 r1=>?_⟩;refine⟨α1,σd,st1,_,G1,F,P1,R.step s1,S1,q,λ x st2 q2 α2 G2 H2 v2 s2 P2 S2 r2=>?_⟩;unfold vK EG at q2;cases x<;>try exact q2.elim
 simp only at q2;split at q2
 . rename_i C' fs e';obtain⟨rfl,hl,q2⟩:=q2;obtain⟨a,ea,dx,vs,h1,h2⟩:=S2.vP e';have r2':=dX ea r2;subst r2';have hm:some a∈α2:=Ui ea;have lv:vs.length<1000:=by rw[<-h2.length];exact hl
   refine⟨a,_,dx,vs,rfl,P2.get h1,c,na,lv,?_⟩;refine((k.nx.at s1).at s2) σd _ q2 α2 (upd G2 a (.ins _ dx (gq fl v vs))) _ σ (Step.write hm) (P2.write h1) (((R.step s1).step s2).step (Step.write hm)) ?_;exact S2.write ea ⟨dx,gq fl v vs,aW,(h2.put (r1.step s2)).step (Step.write hm)⟩
 . exact q2.elim
theorem LE.Qn{σ:L2.St}{H:Hp}{Q:VK}(h:LE (dy C m S to t) σ H Q):DV C m (fP S) [] E0 (LE to) (LA t) σ H Q:=by
 obtain⟨α,σd,st,K,G,F,P,R,Sr,tt,k⟩:=h;refine⟨α,σd,st,_,G,F,P,R,Sr,tt,λ d st1 q α1 G1 H1 v s1 P1 S1 r1=>?_⟩;unfold vx y9 at q;cases d<;>try exact q.elim
 simp only at q;split at q
 . rename_i n C' fs e';obtain⟨rfl,hl,q⟩:=q;obtain⟨a,ea,dx,vs,h1,h2⟩:=S1.vP e';have r1':=dX ea r1;subst r1';refine⟨a,dx,vs,rfl,P1.get h1,h2.none hl,?_⟩;refine⟨α1,σd,st1,_,G1,F,P1,R.step s1,S1,q,λ ds st2 q2 α2 G2 H2 us s2 P2 S2 r2=>?_⟩;try dsimp only
   rw[Vb];exact⟨α2,_,st2,K,G2,F,P2,by unfold aD;exact⟨_,_,rfl,r1.step s2,r2⟩,S2,q2,(k.at s1).at s2⟩
 . exact q.elim
theorem LE.make{σ:L2.St}{H:Hp}{Q:VK}(h:LE (zf C S t) σ H Q):Jv C (fP S) [] E0 (LA t) σ H Q:=by
 obtain⟨α,σd,st,K,G,F,P,R,Sr,tt,k⟩:=h;refine⟨α,σd,st,_,G,F,P,R,Sr,tt,λ ds st1 q α1 G1 H1 us s1 P1 S1 r1=>?_⟩;intro x dx hx hdx hne;have hgd:=(P1.none hdx).1;have P2:=P1.laid (o:= .own x) hdx;have S2:=S1.laid (o:= .own x) hgd;have hx2:upd H1 dx (.own x) x=none:=by rw[aw (TK hne)];exact hx
 have hg2:=(P2.none hx2).1;have P3:=P2.laid (o:= .ins C dx []) hx2;have S3:=S2.cell (o:= .ins C dx []) (c:= .ins C []) hg2 ⟨dx,[],aW,.nil⟩;have s2:Step α1 G1 α1 (upd G1 dx (.own x)):=Step.laid hgd;have s3:Step α1 (upd G1 dx (.own x)) (α1++[some x]) (upd (upd G1 dx (.own x)) x (.ins C dx [])):=Step.cell hg2
 have rx:Rep (α1++[some x]) (upd (upd G1 dx (.own x)) x (.ins C dx [])) (.ref st1.length) (.ref x):=by
  unfold Rep;refine .inr ⟨x,?_,rfl⟩;rw[Uc (by rw[S1.len];exact Tu _),S1.len,Vg];rfl
 rw[Vb];refine⟨α1++[some x],.ref st1.length::ds,st1++[.ins C []],_,_,F,P3,by unfold aD;exact⟨_,_,rfl,rx,(r1.step s2).step s3⟩,S3,q,λ d st2 q2 α' G' H' v s' P' S' r'=>?_⟩;obtain⟨rfl,q2⟩:=q2;unfold Rep at r';exact⟨r',(((k.at s1).at s2).at s3) _ st2 q2 α' G' H' _ s' P' S' (rx.step s')⟩
end
section
variable {X:Cx}{tg:Expr}
end
section
variable {X:Cx}
end
section
variable {X:Cx}{e o i value:Expr}{es:List Expr}{te to ti:DE}{t:DA}{pos pos' tpos apos p:Pos}{C f:Addr}{fl m x:Str}{S:bQ}{k:Nat}{fd:FuncData}{ps:List Str}
theorem F8{value o:Expr}{fl:Str}{pos':Pos}{n:Nat}{env:Env}:swapsWith value (some (.Attribute o fl pos')) n env=pure false:=by cases value<;>rfl
theorem bp(c:lP X.K C)(na:du X.K C fl)(he:JE X e te)(hb:attributeBase e fl X.env (eval e X.env)=eval e X.env:=by rfl):JE X (.Attribute e fl pos) (bN C fl te):=by unfold JE at*;exact Qq c na he hb
theorem dh(c:lP X.K C)(na:du X.K C fl)(ho:JE X o to)(hv:JE X value te):JS X (.Assign [.Attribute o fl pos'] value pos) (eG C fl to te):=by unfold JS;unfold JE at*;exact NB c na ho hv F8
theorem gW{pl:Sem Bool}(he:JE X o to)(c:lP X.K C)(hm:Meth X.K C m f)(F:cR X.prog X.w X.K X.mg X.base fy k f fd ps (fP S))(hr:cJ k X.A)(hb:Binds X.K fd ps [])(ha:JA X (e::es) t)
 (hs:notStar e=true:=by rfl) (hs2:gy es=true:=by rfl)
 (ht:eval (.Call (.Attribute o m apos) (e::es) [] pos) X.env=(do
   let ov <-eval o X.env
   standAt apos.atName
   let(f,first) <-holding [ov] (getMethod ov m pl)
   callWith pos f first (backTo pos (starEach (e::es) X.env)) (backToKw pos (keywordEach [] X.env))):=by rfl):
 JE X (.Call (.Attribute o m apos) (e::es) [] pos) (dy C m S to t):=by
 unfold JE at*;unfold JA at ha;exact PE.imp (L7 he c hm F hr hb .nil y_ ha (cD hs) (kP hs2) ht) λ _ _ _ h=>LE.Qn h
theorem mV{pl:Sem Bool}(he:JE X o to)(c:lP X.K C)(hm:Meth X.K C m f)(F:cR X.prog X.w X.K X.mg X.base fy k f fd ps (fP S))(hr:cJ k X.A)(hb:Binds X.K fd ps [])
 (ht:eval (.Call (.Attribute o m apos) [] [] pos) X.env=(do
   let ov <-eval o X.env
   standAt apos.atName
   let(f,first) <-holding [ov] (getMethod ov m pl)
   callWith pos f first (backTo pos (starEach [] X.env)) (backToKw pos (keywordEach [] X.env))):=by rfl):
 JE X (.Call (.Attribute o m apos) [] [] pos) (dy C m S to af):=by
 unfold JE at*;refine PE.imp (IB he c hm F hr hb .nil y_ ht) λ σ H Q h=>?_;obtain⟨α,σd,st,K,G,F,P,R,Sr,tt,k⟩:=h;refine⟨α,σd,st,_,G,F,P,R,Sr,tt,λ d st1 q α1 G1 H1 v s1 P1 S1 r1=>?_⟩;unfold vx y9 at q;cases d<;>try exact q.elim
 simp only at q;split at q
 . rename_i n C' fs e';obtain⟨rfl,hl,q⟩:=q;obtain⟨a,ea,dx,vs,h1,h2⟩:=S1.vP e';have r1':=dX ea r1;subst r1';exact⟨a,dx,vs,rfl,P1.get h1,h2.none hl,α1,_,st1,K,G1,F,P1,by unfold aD;exact⟨_,_,rfl,r1,by unfold aD;rfl⟩,S1,q,k.at s1⟩
 . exact q.elim
theorem Fm(M:Mk X.K C f)(F:cR X.prog X.w X.K X.mg X.base fy k f fd ps (fP S))(hr:cJ (k+1) X.A)(hg:Gl X x)(hmg:X.mg x=some (.ref C))(hb:Binds X.K fd ps [])(ha:JA X (e::es) t)(hdb:(x==("__debug__":Str))=false)
 (hs:notStar e=true:=by rfl) (hs2:gy es=true:=by rfl):JE X (.Call (.Name x p) (e::es) [] pos) (zf C S t):=by
 unfold JE;unfold JA at ha;exact PE.imp (Ms M F hr hg hmg hb .nil y_ ha hdb (cD hs) (kP hs2)) λ _ _ _ h=>LE.make h
end
end L3
namespace L2
open PySem PySem.Spec PyProof.Rows
structure Entry(K:PySem.W.Frag)(ts:List (Addr×Addr))(a:Addr)(ns:List Int)(H:Hp):Prop where
 lst:lK K H a (ns.map V.int)
 tab:∀q∈ts,H q.2=some (.jV #[])/\q.2≠a
theorem x4:∀ {vs:List Value} {ns:List Int},IntsAre vs ns->Vals (ns.map V.int) vs
 |_,_,.nil=> .nil
 |_,_,.cons n t h=> .cons ⟨t,rfl⟩ (x4 h)
structure Om(K:PySem.W.Frag)(ts:List (Addr×Addr))(h:Heap):Prop where
 hd:∀q∈ts,PySem.W.codeHdIn K q.1 q.2=true
 no:∀q∈ts,K.lookup q.2=none
 at':∀q∈ts,h.get? q.2=some (PySem.W.tabObj #[])
theorem FU{P:Program}{w:World}{K:PySem.W.Frag}{mg mb:Str->Option Value}{k:Nat}{fa a:Addr}{fd:FuncData}{x:Str}{sp:Sp}{s₁:Shared}{vs:List Value}{ns:List Int}{ts:List (Addr×Addr)}
 (KX:K.In s₁.heap) (hns:s₁.heap.Ns mainGlobals mg) (hb:s₁.heap.Ns builtinsNs mb) (hbb:∀x:Str,x≠"__name__"->mb x=bootBuiltins x) (hlim:s₁.heap.NoLimit) (hse:s₁.heap.NoSeer) (hgt:P.given.tree=none)
 (hbm:∃bm ob,mg "__builtins__"=some (.ref bm)/\bm≠builtinsNs/\s₁.heap.get? bm=some ob/\ob.cls= .type "module"/\ob.dict=some builtinsNs/\ob.data= .plain) (hT:Om K ts s₁.heap) (hg:s₁.gens= #[])
 (ha:s₁.heap.get? a=some {cls:= .type "list",data:= .seq vs.toArray}) (hi:IntsAre vs ns) (hl:ns.length<=sizeLine) (hr:cJ k callerA)
 (F:∀base:Heap,K.In base->base.Ns mainGlobals mg->cR P w K mg base (λ _ _ _ _ _ _=>False) k fa fd [x] sp) (hbind:∀(s:Shared) (u:Value),BindsTo s fd ⟨[u],[]⟩ [(x,u)])
 (hsp:∀H:Hp,Entry K ts a ns H->sp [.ref a] H (λ v _=>v= .bl true) λ _ _ _=>False):
 codeAny (model P w) callerA (.call (.ref fa) ⟨[.ref a],[]⟩) (λ r s'=>r= .ok (.ret (.bool true))/\OldK s₁.heap s'.heap/\s'.os=s₁.os/\AllBare s'.gens) s₁:=by
 have rv:=x4 hi;have lenV:=hi.length
 have nta:∀q∈ts,q.2≠a:=λ q hq z=>by
  have:=hT.at' q hq;rw[z,ha]at this;cases this
 let sc:Option HO:=match K.lookup a with
  |some _=>none
  |none=>some (.e8 {cls:= .type "list",data:= .seq vs.toArray} (.lst (ns.map V.int)))
 let H:Hp:=λ b=>if b=a then sc else if b∈ts.map (·.2)then some (.jV #[])else none
 have Ha:H a=sc:=TC rfl
 have Ht:∀q∈ts,H q.2=some (.jV #[]):=λ q hq=>by
  show(if q.2=a then sc else if q.2∈ts.map (·.2)then some (HO.jV #[])else none)=_;rw[Tv (nta q hq),TC (Xg hq)]
 have Hs:∀b u,H b=some u->(b=a/\K.lookup a=none/\u= .e8 {cls:= .type "list",data:= .seq vs.toArray} (.lst (ns.map V.int)))\/(∃q∈ts,q.2=b/\u= .jV #[]):=λ b u e=>by
  have e':(if b=a then sc else if b∈ts.map (·.2)then some (HO.jV #[])else none)=some u:=e;by_cases hba:b=a
  . rw[TC hba]at e'
    have e2:(match K.lookup a with
     |some _=>none
     |none=>some (HO.e8 {cls:= .type "list",data:= .seq vs.toArray} (.lst (ns.map V.int))))=some u:=e'
    cases q:K.lookup a with
    |some o=>rw[q]at e2;cases e2
    |none=>rw[q]at e2;cases e2;exact .inl ⟨hba,rfl,rfl⟩
  . rw[Tv hba]at e';by_cases hbt:b∈ts.map (·.2)
    . rw[TC hbt]at e';cases e';obtain⟨q,hq,e⟩:=T5.mp hbt;exact .inr ⟨q,hq,e,rfl⟩
    . rw[Tv hbt]at e';cases e'
 have aF:gX P w H s₁.heap:=λ b u e=>by
  rcases Hs b u e with⟨rfl,_,rfl⟩|⟨q,hq,rfl,rfl⟩
  . exact⟨ha,by rw[Tw];exact hl,vs,_,rv,ha⟩
  . exact hT.at' q hq
 have hE:Entry K ts a ns H:=by
  refine⟨?_,λ q hq=>⟨Ht q hq,nta q hq⟩⟩;cases q:K.lookup a with
  |some o=>
   have e:=KX a o q;rw[ha]at e;cases e;exact .inr ⟨_,vs.toArray,_,q,rfl,rfl,rfl,by rw[TL,lenV];exact hl,by simpa using rv⟩
  |none=>
   refine .inl (.inr ⟨{cls:= .type "list",data:= .seq vs.toArray},?_⟩);rw[Ha]
   show(match K.lookup a with
    |some _=>none
    |none=>some (HO.e8 {cls:= .type "list",data:= .seq vs.toArray} (.lst (ns.map V.int))))=_
   rw[q]
 have dictNo:∀ {b:Addr} {o:Obj},s₁.heap.get? b=some o->(∀es ep,o.data≠ .seq es ep)->o.cls≠ .none->H b=none:=λ{b o} e d1 d2=>by
  cases q:H b with
  |none=>rfl
  |some u=>
   rcases Hs b u q with⟨rfl,_,_⟩|⟨t,ht,rfl,_⟩
   . rw[ha]at e;cases e;exact absurd rfl (d1 _ _)
   . rw[hT.at' t ht]at e;cases e;exact absurd rfl d2
 have nsK:∀ {b:Addr} {m:Str->Option Value},s₁.heap.Ns b m->(oj s₁.heap H).Ns b m:=λ{b m} ⟨o,es,ep,e,d,r⟩=>by
  refine⟨o,es,ep,qx e ?_,d,r⟩;cases q:H b with
  |none=>rfl
  |some u=>
   rcases Hs b u q with⟨rfl,_,_⟩|⟨t,ht,rfl,_⟩
   . rw[ha]at e;cases e;cases d
   . rw[hT.at' t ht]at e;cases e;cases d
 have hKb:K.In (oj s₁.heap H):=λ b o e=>qx (KX b o e) (by
  cases q:H b with
  |none=>rfl
  |some u=>
   rcases Hs b u q with⟨rfl,z,_⟩|⟨t,ht,rfl,_⟩
   . rw[z]at e;cases e
   . rw[hT.no t ht]at e;cases e)
 obtain⟨bm,ob,b1,b2,b3,b4,b5,b6⟩:=hbm;have hbmK:(oj s₁.heap H).get? bm=some ob:=qx b3 (dictNo b3 (λ es ep z=>by rw[b6]at z;cases z) (λ z=>by rw[b4]at z;cases z))
 have seK:(oj s₁.heap H).NoSeer:=by
  obtain⟨⟨m1,a1,a2⟩,⟨m2,c1,c2⟩,⟨m3,d1,d2⟩,⟨mg',bm',ob',e1,e2,e3,e4,e5⟩⟩:=hse;refine⟨⟨m1,nsK a1,a2⟩,⟨m2,nsK c1,c2⟩,⟨m3,nsK d1,d2⟩,⟨mg',bm',ob',nsK e1,e2,qx e3 ?_,e4,e5⟩⟩;cases q:H bm' with
  |none=>rfl
  |some u=>
   rcases Hs bm' u q with⟨rfl,_,_⟩|⟨t,ht,rfl,_⟩
   . rw[ha]at e3;cases e3;exact absurd (show Value.type "list"=Value.type "module" from e4) (by intro z;injection z with z;exact absurd z (by decide))
   . rw[hT.at' t ht]at e3;cases e3;cases e4
 have hM:Mod K mg (oj s₁.heap H):=⟨hKb,nsK hns,⟨mb,nsK hb,hbb⟩,let⟨mc,h1,h2⟩:=hlim;⟨mc,nsK h1,h2⟩,seK,⟨bm,ob,b1,b2,hbmK,b4,b5,b6⟩⟩
 have e0:uO P w K mg (oj s₁.heap H) callerA [] s₁ H:=⟨rfl,hM,λ b o e=>Ly e,W0 (GB _ _),trivial,λ b hb=>absurd (show b∈([]:List Addr)from hb) (by simp),aF,.of_eq hg,hgt⟩
 refine XJ ((F _ hKb (nsK hns)).run callerA [] s₁ H ⟨[.ref a],[]⟩ [.ref a] [.ref a] _ _ hr e0 (hbind s₁ (.ref a)) (.cons rfl .nil) (hsp H hE)) λ r s' h=>?_;cases r with
 |error e=>exact False.elim h
 |ok fl=>
  cases fl with
  |next=>exact False.elim h
  |brk=>exact False.elim h
  |cont=>exact False.elim h
  |ret u=>
   obtain⟨v,H',os,bare,un,hok',r',q⟩:=h;have q':v= .bl true:=q;subst q';obtain rfl:u=Value.bool true:=r';have noF:∀b:Addr,b∉oP ([]:List Env):=λ b z=>absurd (show b∈([]:List Addr)from z) (by simp);refine⟨rfl,⟨λ b o e=>?_,λ b o e=>un.there b o e (by simp)⟩,os,bare⟩;cases q:H b with
   |none=>exact .inl (un.keep b o e q (noF b) (by simp))
   |some u=>
    rcases Hs b u q with⟨rfl,_,rfl⟩|⟨t,ht,rfl,rfl⟩
    . obtain⟨e2,_⟩:=hok' b _ (un.nj b _ _ q);rw[ha]at e;cases e;exact .inl e2
    . obtain⟨more,e1⟩:=un.nk _ _ q;have e2:s'.heap.get? t.2=some {cls:= .none,data:= .fields (#[]++more)}:=hok' _ _ e1;have e3:=hT.at' t ht;rw[e3]at e;cases e;have C:PySem.W.CodeHd s₁.heap t.1 t.2:=PySem.W.codeHd_of_K KX (hT.hd t ht);exact .inr (.inl ⟨(C.tab e3).isCodeTable,rfl,#[],more,rfl,e2⟩)
theorem Pn{l:PySem.W.OpenLaw}{n k:Nat}{q:Program}{loose:List Str}{XP:(Str->Option Value)->Heap->Prop}{YP:World->Heap->Prop}{d:DefRec}{K:Params->PySem.W.Frag}{sp:World->Sp}{x:Str}{ts:List (Addr×Addr)}
 (hn:l.most=some n) (hn2:n<=sizeLine) (hdf:d.params.defaults=[]) (hr:cJ k callerA) (hq:importsNone q=true) (hgt:l.prog.given.tree=none)
 (hY:∀(w:World) (h:Heap),YP w h->(K w.params).In h/\Om (K w.params) ts h)
 (F:∀(w:World) (mg:Str->Option Value) (fa:Addr) (h:Heap),(K w.params).In h->h.Ns mainGlobals mg->mg d.name=some (.ref fa)->
   ∃fd:FuncData,(∀(s:Shared) (u:Value),BindsTo s fd ⟨[u],[]⟩ [(x,u)])/\
    ∀base:Heap,(K w.params).In base->base.Ns mainGlobals mg->cR l.prog w (K w.params) mg base (λ _ _ _ _ _ _=>False) k fa fd [x] (sp w))
 (hsp:∀(w:World) (H:Hp) (a:Addr) (ns:List Int),ns.length<=n->Entry (K w.params) ts a ns H->sp w [.ref a] H (λ v _=>v= .bl true) λ _ _ _=>False):
 PySem.W.WalkO q loose XP YP l.row.toRowW d [] (λ f vs=>PySem.call f vs):=by
 refine Att.Cf hn hdf λ w s₀ s₁ mg mb fa o pm cd doc a vs ns G Y ho hd hcd hmg hobj hints hlen hg=>?_;obtain⟨KX,hT⟩:=hY w _ Y;obtain⟨fd,hb,hF⟩:=F w mg fa _ KX G.T.g hmg;exact FU KX G.T.g G.T.b G.T.builtins G.T.nolimit (G.T.seer hq) hgt G.T.bmain hT hg hobj hints (TB hlen hn2) hr hF hb λ H hE=>hsp w H a ns hlen hE
end L2
namespace L3
open PySem PySem.Spec L2
open PyProof.Rows hiding St
section
variable {X:Cx}{pins:List (Addr×Obj)}{σ:L2.St}{H:Hp}{s:Shared}{p:Addr}{o o':Obj}{h':Heap}
theorem kB{t':Nat}(I:Inv X pins σ H s)(hd:∀v,o.data≠ .cell v)(hfr:o.isFreed=false:=by rfl):Inv X (pins++[(s.heap.objs.size,o)]) σ H {s with heap:=s.heap.push o,toks:=t'}:=by
 have I':=I.kept (h':=s.heap.push o) (t':=t') (λ b u e=>Tz _ e);refine I'.sY λ q hq=>?_;rcases Uh.mp hq with hq|hq
 . exact I'.pin q (T9 _ hq)
 . have e:q=(s.heap.objs.size,o):=by simpa using hq
   subst e;exact⟨TX _ hfr,I.aF.fresh (Tu _),VR I.lt,I.Oc (Tu _),hd⟩
theorem fD(I:Inv X (pins++[(p,o)]) σ H s):s.heap.get? p=some o/\H p=none/\p≠X.env.locals/\p∉X.fs/\∀v,o.data≠ .cell v:=
 I.pin (p,o) (T9 _ (T9 _ (UI.mpr rfl)))
theorem zF(I:Inv X (pins++[(p,o)]) σ H s):∀x c,X.env.cells.lookup x=some c->c≠p:=λ x c e z=>by
 obtain⟨v,u,hu,hd⟩:=I.cell x c e;obtain⟨h1,_,_,_,h5⟩:=fD I;rw[z,h1]at hu;cases hu;exact h5 v hd
theorem m_{t':Nat}(I:Inv X (pins++[(p,o)]) σ H s)(hs:Heap.SameBut p s.heap h')(hn:h'.get? p=some o')(hd:∀v,o'.data≠ .cell v)(h0:X.s₀.heap.objs.size<=p)(hp:∀q∈X.pn++pins,q.1≠p):
 Inv X (pins++[(p,o')]) σ H {s with heap:=h',toks:=t'}:=by
 obtain⟨_,n,neL,nfs,_⟩:=fD I;have I0:Inv X pins σ H s:=I.gQ;have I1:=I0.turned (t':=t') (h':=h') (it:=p) (λ b u hb e=>(hs.2 b hb).trans e) n neL (.inr h0) (zF I) hp;refine I1.sY λ q hq=>?_;rcases Uh.mp hq with hq|hq
 . exact I1.pin q (T9 _ hq)
 . have e:q=(p,o'):=by simpa using hq
   subst e;exact⟨hn,n,neL,nfs,hd⟩
theorem Hc{u:HO}(I:Inv X (pins++[(p,o)]) σ H s)(h0:X.s₀.heap.objs.size<=p)(hp:∀q∈X.pn++pins,q.1≠p)(new:c_ X.prog X.w (upd H p u) s.heap p u):Inv X pins σ (upd H p u) s:=by
 obtain⟨e0,n,neL,nfs,_⟩:=fD I;have ne:∀ {b:Addr} {w:HO},H b=some w->b≠p:=λ e=>di e n;have ne0:∀ {b:Addr} {w:Obj},X.s₀.heap.get? b=some w->b≠p:=λ e=>Ue (T8 (TN e) h0);refine⟨I.ok,I.os,I.bare,⟨I.base.keep,I.base.slot,λ b w e q hx=>?_,I.base.there,λ b xs e=>?_,λ b w y e=>?_,λ b ps e=>?_⟩,I.loc,I.cell,?_,λ x c e=>?_,λ q hq=>?_,λ b w e=>?_,I.len⟩
 . rw[aw (ne0 e)];exact I.base.free b w e q hx
 . have:=I.base.ou b xs e;rw[aw (ne this)];exact this
 . have:=I.base.nj b w y e;rw[aw (ne this)];exact this
 . obtain⟨m,q⟩:=I.base.nk b ps e;exact⟨m,by rw[aw (ne q)];exact q⟩
 . rw[aw (TK neL)];exact I.free
 . rw[aw (zF I x c e)];exact I.ig x c e
 . have hq':q∈X.pn++(pins++[(p,o)]):=by
    rcases Uh.mp hq with z|z
    . exact Vd _ z
    . exact T9 _ (Vd _ z)
   obtain⟨a1,a2,a3⟩:=I.pin q hq';exact⟨a1,by rw[aw (hp q hq)];exact a2,a3⟩
 . by_cases hb:b=p
   . subst hb;rw[aW]at e;cases e;exact new
   . rw[aw hb]at e;exact(I.aF b w e).oq (λ _ _ _ q=>q) (λ c q=>by rw[aw (ne q)];exact q) λ c xs q=>by rw[aw (ne q)];exact q
end
def mv(X:Cx)(pins:List (Addr×Obj))(σ:L2.St)(R:Hp->Prop)(own:List (Addr×Obj))(s:Shared):Prop:=∃H,Inv X (pins++own) σ H s/\R H
section
variable {X:Cx}{pins:List (Addr×Obj)}{σ:L2.St}{R:Hp->Prop}{s:Shared}{A:Around}{E:Value->Shared->Prop}{a kS:Addr}{e1 e:Nat}{keys:Array Value}{P:PySem.Fin->Shared->Prop}
structure Own(X:Cx)(pins:List (Addr×Obj))(p:Addr):Prop where
 ge:X.s₀.heap.objs.size<=p
 ne:∀q∈X.pn++pins,q.1≠p
theorem tG{H:Hp}(I:Inv X pins σ H s):Own X pins s.heap.objs.size:=⟨I.sz,λ q hq=>Ue (TN (I.pin q hq).1)⟩
theorem BG{p:Addr}{q:Addr×Obj}(h:Own X pins p)(hq:q.1≠p):Own X (pins++[q]) p:=⟨h.ge,λ r hr=>by
 rcases Uh.mp hr with z|z
 . exact h.ne r (Vd _ z)
 . rcases Uh.mp z with z|z
   . exact h.ne r (T9 _ z)
   . have e:r=q:=by simpa using z
     rw[e];exact hq⟩
theorem AO{x y:Addr×Obj}(J:mv X pins σ R [x,y] s):∃H,Inv X ((pins++[x])++[y]) σ H s/\R H:=by
 obtain⟨H,I,r⟩:=J;exact⟨H,by rw[VH];exact I,r⟩
theorem Fe{x y:Addr×Obj}{H:Hp}(I:Inv X ((pins++[x])++[y]) σ H s)(r:R H):mv X pins σ R [x,y] s:=⟨H,by rw[VH]at I;exact I,r⟩
theorem A5{st:SortSt}(J:mv X pins σ R [(a,seqObj "list" #[] e1),(kS,seqObj "list" keys e)] s)(ha:Own X pins a)(hk:Own X pins kS)(hka:kS≠a)(hz1:keys.size<=sizeLine)(hz2:(arrOf st).size<=sizeLine)(hf:failedOf st=none)
 (h:∀s' c,mv X pins σ R [(a,seqObj "list" ((arrOf st).map (·.2)) c)] s'->P (.done (.ret .none)) s'):
 wpAny (model X.prog X.w) A (PyProof.Rows.ksk_tail a false e1 (.ref kS) st) P E s:=by
 obtain⟨H,I,r⟩:=AO J;have k1:=(fD I).1;have s1:=UM s.heap kS (Obj.mapSeq λ _=>(#[]:Array Value));have I1:=m_ (t':=s.toks) I s1 (Wx k1 λ _=> #[]) (λ v z=>by cases z) hk.ge (BG hk hka.symm).ne;have I2:Inv X (pins++[(a,seqObj "list" #[] e1)]) σ H {s with heap:=s.heap.update kS (Obj.mapSeq λ _=>(#[]:Array Value)),toks:=s.toks}:=I1.gQ;have a1:=(fD I2).1;have s2:=UM (s.heap.update kS (Obj.mapSeq λ _=>(#[]:Array Value))) a (Obj.mapSeq λ _=>(arrOf st).map (·.2));have I3:=m_ (t':=s.toks) I2 s2 (Wx a1 λ _=>(arrOf st).map (·.2)) (λ v z=>by cases z) ha.ge ha.ne;unfold ksk_tail;simp only[V_,WD];refine Tr (Xw k1 rfl ?_ hz1 (T4 _));refine Tr (X_ ?_);refine Tr (seqEpoch_at a1 rfl ?_);refine Tr (Xw a1 rfl ?_ (T4 _) (Nat.le_succ_of_le (by rw[Array.size_map];exact hz2)));rw[hf];simp only[bne_self_eq_false,V_,WD];exact TH (h _ _ ⟨H,I3,r⟩)
def Dz(kz:List Int)(vs out:List Value):Prop:=
 ∃ps:List (Int×Value),ps.Perm (kz.zip vs)/\out=ps.map Prod.snd/\ps.Pairwise λ p q=>p.1<=q.1
theorem C0{kz:List Int}{vs:List Value}(hk:IntsAre keys.toList kz){xs:Array Keyed}(hp:xs.Perm (keys.zip vs.toArray))(hs:SortedTo xs xs.size):Dz kz vs (xs.map (·.2)).toList:=by
 obtain⟨ps,h1,h2,h3⟩:=ksk_out hk (b:=false) hp hs;exact⟨ps,h1,h2,h3⟩
theorem Lk{kz:List Int}{vs:List Value}(J:mv X pins σ R [(a,seqObj "list" #[] e1),(kS,seqObj "list" keys e)] s)(ha:Own X pins a)(hk:Own X pins kS)(hka:kS≠a)(hi:IntsAre keys.toList kz)(hl:kz.length=vs.length)(h64:vs.length<64)
 (h:∀s' out c,mv X pins σ R [(a,seqObj "list" out c)] s'->Dz kz vs out.toList->P (.done (.ret .none)) s'):
 wpAny (model X.prog X.w) A (ksk_end a false vs.toArray e1 (.ref kS) keys) P E s:=by
 have hsz:keys.size=vs.length:=by have:=hi.length;rw[V5]at this;omega
 have hzs:(keys.zip vs.toArray).size=vs.length:=by rw[Array.size_zip,hsz,TL,YA]
 have hbig:vs.length<=sizeLine:=TB (UO h64) (by decide);unfold ksk_end;simp only[V_,WD];by_cases h2:vs.toArray.size<2
 . rw[TC h2,TC h2];refine Tr (TH ?_);rw[StateT.run_pure];refine Tr (TH ?_);refine A5 (st:=SortSt.mk' general' (keys.zip vs.toArray) #[] 7 none) J ha hk hka (by omega) (by show(keys.zip vs.toArray).size<=_;omega) rfl λ s' c J'=>h s' _ c J' ?_;refine C0 hi (Array.Perm.refl _) λ i j hij hj=>?_;have hj':j<(keys.zip vs.toArray).size:=hj;rw[TL]at h2;have:i=j:=by omega
   rw[this];exact Int.le_refl _
 . rw[Tv h2,Tv h2];rw[TL]at h2;rw[ksk_kind hi (by omega)];refine Tr (TH ?_)
   refine Tr (Vs (wpS_sortRuns (a₀:=keys.zip vs.toArray) (st:=SortSt.mk' oneType' (keys.zip vs.toArray) #[] 7 none)
    (Q:=λ _ st'=>(arrOf st').Perm (keys.zip vs.toArray)/\failedOf st'=none/\SortedTo (arrOf st') (keys.zip vs.toArray).size)
    (ksk_intKeys hi) ⟨Array.Perm.refl _,rfl,rfl,rfl⟩ (by omega) (by omega) λ st' b1 b2 b3=>⟨b1,b2,b3⟩) ?_ λ _ _ z=>z)
   rintro⟨⟨⟩,st'⟩ s' ⟨rfl,hp,hf,hs⟩;have hz2:=hp.size_eq;refine A5 (st:=st') J ha hk hka (by omega) (by rw[hz2];omega) hf λ s' c J'=>h s' _ c J' (C0 hi hp (by rw[hz2];exact hs))
theorem Hx{f:Value}{kz:List Int}{vs:List Value}(J:mv X pins σ R [(a,seqObj "list" #[] e1),(kS,seqObj "list" #[] 0)] s)(ha:Own X pins a)(hk:Own X pins kS)(hka:kS≠a)(hl:kz.length=vs.length)(h64:vs.length<64)
 (turn:∀(i:Nat) (v:Value) (k:Int),vs[i]?=some v->kz[i]?=some k->∀(own:List (Addr×Obj)) (s:Shared),mv X pins σ R own s->wpAny (model X.prog X.w) A (call f [v]) (λ u s'=>(∃t,u= .int k t)/\mv X pins σ R own s') (λ _ _=>False) s)
 (h:∀s' out c,mv X pins σ R [(a,seqObj "list" out c)] s'->Dz kz vs out.toList->P (.done (.ret .none)) s'):
 wpAny (model X.prog X.w) A (ksk_rest a f false vs.toArray e1 (.ref kS)) P E s:=by
 have hbig:vs.length<=sizeLine:=TB (UO h64) (by decide);unfold ksk_rest;refine Tr (V7 ?_)
 first
  |rw[List.forIn_toArray]
  |(rw[<-Array.forIn_toList];simp only[List.toList_toArray])
  |rw[<-Array.forIn_toList]
 refine Tr (ksk_fold (λ i s'=>∃kA e,mv X pins σ R [(a,seqObj "list" #[] e1),(kS,seqObj "list" kA e)] s'/\IntsAre kA.toList (kz.take i)) vs 0 s ⟨#[],0,J,by simpa using IntsAre.nil⟩ ?st ?en)
 case st=>
  rintro j x s' hx ⟨kA,e,J',hk'⟩;simp only[YC]at hk'⊢;have hj:j<vs.length:=(Tt.mp hx).1;have hkj:kz[j]?=some (kz[j]'(by omega)):=TM _
  have hz:kA.size<=vs.length:=by
   have:=hk'.length;rw[V5,UY]at this;omega
  refine Tr (VZ (Vs (turn j x _ hx hkj _ s' J') (λ v s2 he=>?_) λ _ _ z=>z.elim));obtain⟨⟨t,rfl⟩,J2⟩:=he;obtain⟨H,I,r⟩:=AO J2;have k1:=(fD I).1;have s1:=UM s2.heap kS (Obj.mapSeq (·.push (.int (kz[j]'(by omega)) t)));have I1:=m_ (t':=s2.toks) I s1 (Wx k1 (·.push (.int (kz[j]'(by omega)) t))) (λ v z=>by cases z) hk.ge (BG hk hka.symm).ne;refine Tr (Xw k1 rfl ?_ (by omega) (TB (W0 (Array.size_push ..)) (by omega)));refine TH ⟨rfl,_,_,Fe I1 r,?_⟩;have ek:kz.take (j+1)=kz.take j++[kz[j]'(by omega)]:=by rw[List.take_add_one,hkj];simp
  rw[ek,Array.toList_push];exact ksk_snoc hk'
 case en=>
  rintro s' ⟨kA,e,J',hk'⟩;rw[show kz.take (0+vs.length)=kz from VP (by omega)]at hk';obtain⟨H,I,r⟩:=AO J';refine Tr (listItems_at (fD I).1 rfl ?_);exact Lk J' ha hk hka hk' hl h64 h
theorem Dt{f:Addr}{l:Addr}{kz:List Int}{vs:List Value}{H:Hp}{Q:Value->Shared->Prop}(I:Inv X pins σ H s)(r:R H)(hli:s.heap.IsList l vs.toArray)(hl:kz.length=vs.length)(h64:vs.length<64)
 (turn:∀(i:Nat) (v:Value) (k:Int),vs[i]?=some v->kz[i]?=some k->∀(own:List (Addr×Obj)) (s:Shared),mv X pins σ R own s->wpAny (model X.prog X.w) A.in1.in1 (call (.ref f) [v]) (λ u s'=>(∃t,u= .int k t)/\mv X pins σ R own s') (λ _ _=>False) s)
 (h:∀D s' out c,Own X pins D->mv X pins σ R [(D,seqObj "list" out c)] s'->Dz kz vs out.toList->Q (.ref D) s'):
 wpAny (model X.prog X.w) A (call (.builtin "sorted") [.ref l] [(Str.ofString "key",.ref f)]) Q E s:=by
 have hbig:vs.length<=sizeLine:=TB (UO h64) (by decide);refine call_function_entry_kw kind_sorted plain_sorted entry_sorted (ksk_s1 _ _) ?_;unfold Builtin.«sorted»;refine Tr (m:=checkCount "sorted" 1 1 _) (TH ?_);refine Tr (collect_list hli ?_ hbig);have I1:=kB (o:=seqObj "list" #[] 0) (t':=s.toks) I (λ v z=>by cases z);have s1:=UM (s.heap.push (seqObj "list" #[] 0)) s.heap.objs.size (Obj.mapSeq (· ++vs.toArray));have I2:=m_ (t':=s.toks) I1 s1 (Wx (fD I1).1 (· ++vs.toArray)) (λ v z=>by cases z) (tG I).ge (tG I).ne;have I3:Inv X pins σ H {s with heap:=(s.heap.push (seqObj "list" #[] 0)).update s.heap.objs.size (Obj.mapSeq (· ++vs.toArray)),toks:=s.toks}:=I2.gQ;refine Tr (Yu ?_ hbig);generalize hs3:({s with heap:=(s.heap.push (seqObj "list" #[] 0)).update s.heap.objs.size (Obj.mapSeq (· ++vs.toArray))}:Shared)=s3;have I3':Inv X pins σ H s3:=by rw[<-hs3];exact I3
 have oD:=tG I3';have I4:=kB (o:=seqObj "list" vs.toArray 0) (t':=s3.toks) I3' (λ v z=>by cases z);have hD:=(fD I4).1;refine Tr (VI (wpAny_call_entry_kw slot_list_sort ⟨_,hD,rfl⟩ entry_list_sort ?body (ksk_l1 _ _)))
 case body=>
  show wpAny (model X.prog X.w) A.in1.in1 (Builtin.«list.sort» ⟨[.ref s3.heap.objs.size],[(Str.ofString "key",.ref f)]⟩) _ _ _;rw[ksk_t1];unfold ksk_tree;refine Tr (listItems_at hD rfl ?_);have s5:=UM (s3.heap.push (seqObj "list" vs.toArray 0)) s3.heap.objs.size (Obj.mapSeq λ _=>(#[]:Array Value));have I5:=m_ (t':=s3.toks) I4 s5 (Wx hD λ _=> #[]) (λ v z=>by cases z) oD.ge oD.ne;have hD5:=(fD I5).1;refine Tr (Xw hD rfl ?_ (by rw[TL];exact hbig) (T4 _));refine Tr (seqEpoch_at hD5 rfl ?_);refine Tr (wpAny_newTuple ?_ (by show vs.length<=_;exact hbig));have I6:=(kB (o:=seqObj "tuple" vs.toArray 0) (t':=s3.toks) I5 (λ v z=>by cases z)).gQ;refine Tr (Yu ?_ (T4 _));have ok:=tG I6;have I7:=kB (o:=seqObj "list" #[] 0) (t':=s3.toks) I6 (λ v z=>by cases z);refine VI ?_
  have okp:Own X pins _:=⟨ok.ge,λ q hq=>ok.ne q (by
   rcases Uh.mp hq with z|z
   . exact Vd _ z
   . exact T9 _ (Vd _ z))⟩
  refine Hx (Fe I7 r) oD okp (λ z=>ok.ne (s3.heap.objs.size,_) (T9 _ (T9 _ (UI.mpr rfl))) z.symm) hl h64 turn λ s' out c J' so=>⟨_,rfl,?_⟩
  exact TH ⟨_,rfl,h _ s' out c oD J' so⟩
end
structure mD(X:Cx)(scope:Scope)(Nc:List Str)(fr:List (Option Nat))(p:Str):Prop where
 sc:cT X scope Nc fr
 GX:∀x∈scope.names,x.2≠ .cell
 co:scope.isCoroutine=false
 gen:scope.isGenerator=false
 p0:Nc[0]?=some p
 f0:fr[0]?=some none
 loc:scope.names.lookup p=some .local
abbrev Ej(X:Cx)(scope:Scope)(qual:Str)(f c:Addr)(s:Shared):Env:=PySem.W.envX qual scope s.heap.objs.size f (.ref c) (c8 X.env.cells scope.names [])
def Gj(X:Cx)(scope:Scope)(Nc:List Str)(qual:Str)(f c:Addr)(s:Shared)(H:Hp):Cx:=
 {X with A:=X.A.in1.in1.deeper (Ej X scope qual f c s),N:=Nc,s₀:=s,H₀:=H,env:=Ej X scope qual f c s,outer:=X.stack,stack:=Ej X scope qual f c s::X.stack,ex:=[],fn:=λ _=>false,calm:=true,pn:=[],xe:=λ _ _=>False}
section
variable {X:Cx}{scope:Scope}{Nc:List Str}{fr:List (Option Nat)}{p qual:Str}{f c:Addr}{pins:List (Addr×Obj)}{σ:L2.St}{H:Hp}{s:Shared}
theorem OM(S:mD X scope Nc fr p)(I:Inv X pins σ H s)(hc:X.calm=true):(Gj X scope Nc qual f c s H).Ok where
 mod:=I.ok.mod
 kind:=S.sc.kind
 glob:=rfl
 blt:=rfl
 above:=Tu _
 inj:=λ x y a h1 h2=>I.ok.inj x y a (cP _ [] (λ _ _ e=>by cases e) x a h1) (cP _ [] (λ _ _ e=>by cases e) y a h2)
 has:=λ x hx=>by
  have hx':scope.names.lookup x=some .cell\/scope.names.lookup x=some .free:=hx;rcases hx' with hx|hx
  . exact absurd rfl (S.GX _ (Ux hx))
  . exact iy scope.names [] (I.ok.has x (S.sc.free _ (Ux hx) rfl)) (.inl (Ux hx))
 AX:=λ x a hf _=>by cases hf
 hd:=λ _=>I.ok.hd hc
 frames:=Around.frames_deeper (by show X.A.frames=_;exact I.ok.frames)
 CI:= .inr ⟨rfl,rfl⟩
 Fq:=λ b hb=>by cases hb
 bs:=I.bs
 sQ:=TB I.ok.sQ I.sz
 u9:=λ b o e hb=>by cases hb
 uH:=λ b hb=>by cases hb
 j_:=I.stack
 vM:=I.wL
 gt:=I.ok.gt
theorem KJ{h':Heap}{t':Nat}{v:V}{u:Value}(S:mD X scope Nc fr p)(I:Inv X pins σ H s)(hc:X.calm=true)(r:RelV v u)(hn:h'.Ns s.heap.objs.size (λ x=>[(p,u)].reverse.lookup x))
 (k:∀b o,s.heap.get? b=some o->h'.get? b=some o):Inv (Gj X scope Nc qual f c s H) [] ((σC fr σ).set 0 (some v)) H {s with heap:=h',toks:=t'} where
 ok:=OM S I hc
 os:=rfl
 bare:=I.bare
 base:=Un.kept k
 loc:=⟨_,hn,λ i x w h1 h2 h3=>by
  by_cases hi:i=0
  . subst hi;have hp:=S.p0;have e:p=x:=UE (hp.symm.trans h1);subst e
    have hl:0<(σC fr σ).length:=by
     have:=(Tt.mp h2).1;rw[TQ]at this;exact this
    rw[TJ hl]at h2;cases h2;exact⟨u,r,.inl ⟨S.loc,by simp⟩⟩
  . rw[Tx (TK hi)]at h2;obtain⟨j,q1,q2⟩:=CZ h2;obtain⟨n1,n2,n3⟩:=S.sc.map i j x h1 q1;obtain⟨m,hm,hl⟩:=I.loc;obtain⟨u',r',lk⟩:=hl j x w n1 q2 (n3.elim (λ z=> .inr (.inl z)) λ z=> .inr (.inr z));refine⟨u',r',?_⟩;rcases lk with⟨z,_⟩|⟨_,a,e,ic⟩
    . rcases n3 with y|y<;>(rw[y]at z;cases z)
    . obtain⟨a',e'⟩:=iy scope.names [] ⟨a,e⟩ (.inl (Ux n2));have e2:=cP _ [] (λ _ _ e=>by cases e) x a' e';rw[e]at e2;cases e2;exact .inr ⟨.inr n2,a,e',ic.keeps k⟩⟩
 cell:=λ x a h=>by
  obtain⟨v,q⟩:=I.cell x a (cP _ [] (λ _ _ e=>by cases e) x a h);exact⟨v,q.keeps k⟩
 free:=I.aF.fresh (Tu _)
 ig:=λ x a h=>I.ig x a (cP _ [] (λ _ _ e=>by cases e) x a h)
 pin:=λ q hq=>by cases hq
 aF:=I.aF.kept k
 len:=by rw[TQ];unfold σC;rw[Tw];exact S.sc.len
theorem HN{R:Hp->Prop}{params:Arguments}{body:Expr}{tb:TE}{own:List (Addr×Obj)}{k:Int}{v:V}{u pm ctv:Value}(S:mD X scope Nc fr p)(hc:X.calm=true)(hr:X.A.depth<recursionLimit)
 (hb:∀(s:Shared) (H:Hp),PE (Gj X scope Nc qual f c s H) body tb)
 (hbind:∀(cl:List (Str×Addr)) (pm cd ct v:Value),bindArgs (PySem.W.kla_fn "<lambda>" qual params body scope cl pm cd ct) ⟨[v],[]⟩=pure [(p,v)])
 (r:RelV v u) (hf:(f,PySem.W.kla_obj "<lambda>" qual params body scope (c8 X.env.cells scope.names []) pm c ctv)∈pins)
 (hcr:∀(H:Hp) (s:Shared),Inv X (pins++own) σ H s->R H->s.heap.CodeRec (.ref c) qual)
 (hq:∀H,R H->tb ((σC fr σ).set 0 (some v)) H λ x H'=>x= .int k/\R H') (J:mv X pins σ R own s):
 wpAny (model X.prog X.w) X.A.in1.in1 (call (.ref f) [u]) (λ u' s'=>(∃t,u'= .int k t)/\mv X pins σ R own s') (λ _ _=>False) s:=by
 obtain⟨H,I,rH⟩:=J;have ho:=(I.pin _ (T9 _ (Vd _ hf))).1;refine wpAny_call (PySem.W.kla_callFunE (fd:=PySem.W.kla_fn "<lambda>" qual params body scope (c8 X.env.cells scope.names []) pm (.ref c) ctv) (by show X.A.depth<_;exact hr) ho rfl S.co S.gen rfl (hcr H s I rH) ?_);rw[hbind]
 refine TH (wpAny_newFunctionEnv S.GX (λ y hy=>by
  have e:y=(p,u):=by simpa using hy
  rw[e];exact S.loc) (λ h₁ hns hsb=>?_) S.sc.kind)
 have hk:∀b o,s.heap.get? b=some o->h₁.get? b=some o:=λ b o e=>hsb.extBut b o (Ue (TN e)) (Tz _ e);refine⟨I.nolimit.keeps hk,?_⟩;show codeAny _ X.A.in1.in1 (.expr body (Ej X scope qual f c s)) _ _;refine PySem.W.kla_codeExpr (Vs (hb s H [] _ _ H _ (KJ S I hc r hns hk) (hq H rH)) (λ w s' he=>?_) λ e s' z=>False.elim z);obtain⟨x,H',I',rx,rfl,rH'⟩:=he;exact⟨rx,H',I.Ez (s':=s') (ch:=[]) I'.os I'.base I'.aF I'.bare (λ b z=>absurd z (by simp)),rH'⟩
theorem set_same{α:Type}:∀ {l:List α} {n:Nat} {x:α},l[n]?=some x->l.set n x=l
 | [],n,x,h=>by simp at h
 |a::l,0,x,h=>by simp at h;subst h;rfl
 |a::l,n+1,x,h=>by
  rw[List.set_cons_succ,set_same (n:=n) (by simpa using h)]
theorem IA{params:Arguments}{body:Expr}{lpos:Pos}{c0 T:Addr}{α:List (Option Addr)}{G F:Hp}{st:ae}{n0:Nat}{b:Bool}{E:Value->Shared->Prop}{Q:Value->Shared->Prop}(S:mD X scope Nc fr p)(hcode:X.env.code= .ref c0)(hC:PySem.W.codeHdIn X.K c0 T=true)
 (hdef:defaultsOf params X.env=([],[])) (hql:X.env.qual++"<lambda>"=qual) (I:Inv X pins σ H s) (Sp:bZ G F H) (SR:aM α st G) (hn0:st[n0]?=some (.tab T lpos qual b))
 (h:∀(f c:Addr) (ctv pm:Value) (G2 H2:Hp) (s2:Shared),Inv X (pins++[(f,PySem.W.kla_obj "<lambda>" qual params body scope (c8 X.env.cells scope.names []) pm c ctv)]) σ H2 s2->Step α G α G2->bZ G2 F H2->aM α (st.set n0 (.tab T lpos qual true)) G2->
   (some c∉α/\∃o vs t,G2 c=some (.e8 o (.own c))/\o.data= .fields vs/\vs[1]?=some (.str qual t))->Q (.ref f) s2):
 wpAny (model X.prog X.w) X.A (eval (.Lambda params body scope lpos) X.env) Q E s:=by
 refine PySem.W.kla_eval hdef ?_;rw[hql];rcases SR.at' n0 _ hn0 with⟨z,_⟩|⟨a,ha,rfl,ps,gP,tr,cs⟩
 . cases z
 have hP:=I.aF a _ (Sp.get gP);have hP:s.heap.get? a=some (PySem.W.tabObj ps):=hP;have hg:s.heap.Ns mainGlobals X.mg:=I.mod.glob.keeps I.bk;obtain⟨bm,ob,b1,b2,b3,b4,b5,b6⟩:=I.mod.bmain;have b3':=I.bk _ _ b3
 have hgP:mainGlobals≠a:=λ q=>by
  obtain⟨o,es,ep,e,hd,_⟩:=hg;rw[q,hP]at e;cases e;cases hd
 have n1:bm≠mainGlobals:=λ q=>by
  obtain⟨o,es,ep,e,hd,_⟩:=hg;rw[q,e]at b3';cases b3';rw[hd]at b6;cases b6
 have n2:bm≠a:=λ q=>by rw[q,hP]at b3';cases b3';cases b4
 have hB:s.heap.BuiltinsAt X.mg a:=⟨bm,ob,b1,b2,n1,n2,b3',b4,b5,b6⟩
 have hcl:closureFor scope X.env=pure (c8 X.env.cells scope.names []):=l_ λ x hx hk=>I.ok.has x.1 (S.sc.free x hx hk);have C:PySem.W.CodeHd s.heap c0 a:=PySem.W.codeHd_of_K I.gD hC;rcases cs with⟨rfl,hnf⟩|⟨rfl,c,o,vs,t,q1,q2,q3,q4,q5⟩
 . refine PySem.W.kla_makeFunction hcl I.ok.glob hg hcode C hP tr hnf hgP hB λ c' ctv h' tk hx hge hlt hrec htb=>?_;obtain⟨c2,oc,vs,t,e2,hoc,hd,hv⟩:=hrec;cases e2;have hHc:H c'=none:=I.aF.fresh hge;have hGc:G c'=none:=(Sp.none hHc).1;have hHa:H a=some (.jV ps):=Sp.get gP;have hac:a≠c':=di hHa hHc
   let ps':=ps++ #[rawInt lpos.line,rawInt lpos.col,.ref c']
   have nb:∀ {b:Addr},H b=none->b≠a:=λ e z=>by rw[z,hHa]at e;cases e
   have I1:Inv X pins σ (upd (upd H c' (.e8 oc (.own c'))) a (.jV ps')) {s with heap:=h',gens:=s.gens,drawn:=s.drawn,toks:=tk}:=by
    have old:∀ {b:Addr} {u:HO},H b=some u->b≠a->upd (upd H c' (.e8 oc (.own c'))) a (.jV ps') b=some u:=λ e n=>by rw[aw n,aw (di e hHc)];exact e
    refine I.step (ch:=[]) (λ _ z=>nomatch z) (λ b o _ _ _ e n=>hx b o (nb n) e) (λ b o _ _ _ e n=>⟨o.slots,hx b o (nb n) e⟩) (λ b o _ e n=>?_) (λ b o _ e=>?_) (λ b xs e=>?_) (λ b o u e=>?_) (λ b qs e=>?_) (λ m hm=>?_) (λ b u e=>?_) I.bare
    . rw[aw (nb n),aw (Ue (T8 (TN e) hge))];exact n
    . by_cases hb:b=a
      . exact⟨_,by rw[hb];exact htb⟩
      . exact⟨o,hx b o hb e⟩
    . exact old e λ z=>by rw[z,hHa]at e;cases e
    . exact old e λ z=>by rw[z,hHa]at e;cases e
    . by_cases hb:b=a
      . subst hb;rw[hHa]at e;cases e;exact⟨_,aW⟩
      . exact⟨#[],by rw[old e hb];simp⟩
    . obtain⟨o,es,ep,ho,r⟩:=hm;exact⟨o,es,ep,hx _ o (nb I.free) ho,r⟩
    . by_cases hb:b=a
      . subst hb;rw[aW]at e;cases e;exact htb
      . rw[aw hb]at e;by_cases hbc:b=c'
        . subst hbc;rw[aW]at e;cases e;exact⟨hoc,_,hoc⟩
        . rw[aw hbc]at e;refine(I.aF b u e).oq (λ d w hd q=>hx d w ?_ q) (λ d q=>old q λ z=>by rw[z,hHa]at q;cases q) λ d xs q=>old q λ z=>by rw[z,hHa]at q;cases q
          rcases hd with rfl|hd
          . exact hb
          . intro z;rw[z,hHa]at hd;cases hd
   have I2:=kB (o:=PySem.W.kla_obj "<lambda>" qual params body scope (c8 X.env.cells scope.names []) ((X.mg "__name__").getD .none) c' ctv) (t':=tk) I1 (λ v z=>by cases z);have gP':upd G c' (.e8 oc (.own c')) a=some (.jV ps):=by rw[aw hac];exact gP
   refine h _ c' ctv _ (upd (upd G c' (.e8 oc (.own c'))) a (.jV ps')) _ _ I2 ((Step.laid hGc).trans (Step.write (Ui ha))) ((Sp.laid hHc).write gP') ((SR.laid hGc).write ha ⟨rfl,ps',aW,?_,.inr ⟨rfl,c',oc,vs,t,?_,SR.j8 hGc,?_,hd,hv⟩⟩) ⟨SR.j8 hGc,oc,vs,t,?_,hd,hv⟩
   . show TriplesOk (ps++ #[rawInt lpos.line,rawInt lpos.col,.ref c']).toList;rw[Array.toList_append];exact TriplesOk_snoc _ _ _ _ tr
   . show codeAmong lpos (ps++ #[rawInt lpos.line,rawInt lpos.col,.ref c']).toList=_;rw[Array.toList_append];exact codeAmong_snoc _ tr hnf
   . rw[aw hac.symm,aW]
   . rw[aw hac.symm,aW]
 . refine PySem.W.kla_makeFunctionHit hcl I.ok.glob hg hcode C hP tr q1 hB λ ctv h' tk hk hsz=>?_;have I1:=I.kept (t':=tk) hk;have I2:=kB (o:=PySem.W.kla_obj "<lambda>" qual params body scope (c8 X.env.cells scope.names []) ((X.mg "__name__").getD .none) c ctv) (t':=tk) I1 (λ v z=>by cases z);refine h _ c ctv _ G H _ I2 Step.refl Sp (by rw[set_same hn0];exact SR) ⟨q2,o,vs,t,q3,q4,q5⟩
end
def slt(p q:Int×Int):Prop:=p.1<=q.1
def Bu(n0:Nat)(T:Addr)(lpos:Pos)(qual:Str)(fr:List (Option Nat))(tb te:DE):DE:=λ σ st K=>te σ st λ d st1=>∃(ns ks:List Int) (b:Bool),d= .lst (ns.map .int)/\ns.length<64/\ns.Pairwise (· < ·)/\ks.length=ns.length/\
 st1[n0]?=some (.tab T lpos qual b)/\(∀(i:Nat) (n k:Int),ns[i]?=some n->ks[i]?=some k->tb ((gE fr σ).set 0 (some (.int n))) (st1.set n0 (.tab T lpos qual true)) λ v st2=>v= .int k/\st2=st1.set n0 (.tab T lpos qual true))/\
 ∀os:List (Int×Int),os.Perm (ks.zip ns)->os.Pairwise slt->K (.lst (os.map λ p=> .int p.2)) (st1.set n0 (.tab T lpos qual true))
theorem Bi{α:List (Option Addr)}{H:Hp}:∀ {ns:List Int} {vs:List V},aD α H (ns.map D.int) vs->vs=ns.map V.int
 | [],vs,h=>by unfold aD at h;exact h
 |n::ns,vs,h=>by
  unfold aD at h;obtain⟨v,r,rfl,h1,h2⟩:=h;unfold Rep at h1;rw[h1,Bi h2];rfl
theorem zK{α:List (Option Addr)}{H:Hp}:∀(ns:List Int),aD α H (ns.map D.int) (ns.map V.int)
 | []=>by unfold aD;rfl
 |n::ns=>by unfold aD;exact⟨_,_,rfl,by unfold Rep;rfl,zK ns⟩
theorem AJ:∀ {ns:List Int} {us:List Value},Vals (ns.map V.int) us->IntsAre us ns
 | [],_,.nil=> .nil
 |n::ns,_,.cons ⟨t,rfl⟩ h=> .cons n t (AJ h)
section
variable {X:Cx}{scope:Scope}{Nc:List Str}{fr:List (Option Nat)}{p x qual:Str}{params:Arguments}{e body:Expr}{te tb:DE}{lpos kpos pos ppos:Pos}{c0 T:Addr}{n0:Nat}
theorem Lh(S:mD X scope Nc fr p)(hc:X.calm=true)(hr:cJ 2 X.A)(hcode:X.env.code= .ref c0)(hC:PySem.W.codeHdIn X.K c0 T=true)(hdef:defaultsOf params X.env=([],[]))(hql:X.env.qual++"<lambda>"=qual)
 (hbind:∀(cl:List (Str×Addr)) (pm cd ct v:Value),bindArgs (PySem.W.kla_fn "<lambda>" qual params body scope cl pm cd ct) ⟨[v],[]⟩=pure [(p,v)])
 (hb:∀(f c:Addr) (s:Shared) (H:Hp),PE (Gj X scope Nc qual f c s H) body (LE tb)) (ha:PA X [e] (LA (aa te af)))
 (hg:Gl X "sorted") (hm:X.mg "sorted"=none) (hv:bootBuiltins "sorted"=some (.builtin "sorted"))
 (he:backTo pos (starEach [e] X.env)=(false,eval e X.env)::backTo pos (starEach [] X.env):=by rfl) (hpl:(backTo pos (starEach [e] X.env)).any (·.1)=false:=by rfl):
 PE X (.Call (.Name "sorted" ppos) [e] [⟨some "key",.Lambda params body scope lpos,kpos⟩] pos) (LE (Bu n0 T lpos qual fr tb te)):=by
 intro pins s σ H Q I h;obtain⟨α,σd,st,K,G,F,Sp,RS,SR,t,k⟩:=h;refine V8 (jv I hg hm hv ?_);refine callWith_kw ?_ he hpl
 let K1:DK:=λ d st1=>∃(ns ks:List Int) (b:Bool),d= .lst (ns.map .int)/\ns.length<64/\ns.Pairwise (· < ·)/\ks.length=ns.length/\
  st1[n0]?=some (.tab T lpos qual b)/\(∀(i:Nat) (n k:Int),ns[i]?=some n->ks[i]?=some k->tb ((gE fr σd).set 0 (some (.int n))) (st1.set n0 (.tab T lpos qual true)) λ v st2=>v= .int k/\st2=st1.set n0 (.tab T lpos qual true))/\
  ∀os:List (Int×Int),os.Perm (ks.zip ns)->os.Pairwise slt->K (.lst (os.map λ p=> .int p.2)) (st1.set n0 (.tab T lpos qual true))
 refine bP (ha pos pins s σ H (λ vs H1=>∃d v st1 α1 G1,vs=[v]/\K1 d st1/\Step α G α1 G1/\bZ G1 F H1/\aM α1 st1 G1/\Rep α1 G1 d v) I
  ⟨α,σd,st,λ ds st1=>match ds with| [d]=>K1 d st1|_=>False,G,F,Sp,RS,SR,t,λ ds st1 q α1 G1 H1 vs s1 P1 S1 r1=>?_⟩) λ us s1 ⟨vs,H1,I1,rv,d,v,st1,α1,G1,hvs,kd,s1',P1,S1,r1⟩=>?_
 . match ds,q,r1 with
   | [d],q,r1=>
     unfold aD at r1;obtain⟨v,r,rfl,h1,h2⟩:=r1;unfold aD at h2;subst h2;exact⟨d,v,st1,α1,G1,rfl,q,s1,P1,S1,h1⟩
 subst hvs;obtain⟨ns,ks,b,rfl,h64,hup,hlen,hn0,hkey,hK⟩:=kd;show wpAny _ _ (evalAll ((do let v <-eval (.Lambda params body scope lpos) X.env;standAt pos;pure v)::[])) _ _ s1;refine wpAny_evalAll_cons (Tr (IA S hcode hC hdef hql I1 P1 S1 hn0 λ f c ctv pm G2 H2 s2 I2 st2 P2 S2 ⟨hc1,o,vs,tq,hc2,hc3,hc4⟩=>Tr (Wr (TH (wpAny_evalAll_nil ?_)))));have r2:=r1.step st2;unfold Rep at r2;obtain⟨l,xs,rfl,hl1,hl2,hl3⟩:=r2;have exs:=Bi hl3;subst exs;cases rv with
 |cons ru rn=>
  cases rn;cases ru
  have hrd:Rd H2 l (.lst (ns.map V.int)):=by
   rcases hl2 with z|⟨w,z⟩
   . exact .inl (P2.get z)
   . exact .inr ⟨w,P2.get z⟩
  obtain⟨_,ai,nn,vv,hobj⟩:=hrd.ok I2.aF;have hints:=AJ vv;have hlen2:=hints.length;have key:∀(H':Hp),(∃α' G',Step α1 G2 α' G'/\bZ G' F H'/\aM α' (st1.set n0 (.tab T lpos qual true)) G')->H' c=some (.e8 o (.own c)):=λ H' ⟨α',G',q1,q2,q3⟩=>q2.get (q1.ext c _ hc1 hc2);show wpAny _ _ (call (.builtin "sorted") [.ref l] [(Str.ofString "key",.ref f)]) _ _ _
  refine Dt (X:=X) (pins:=pins++[(f,PySem.W.kla_obj "<lambda>" qual params body scope (c8 X.env.cells scope.names []) pm c ctv)]) (R:=λ H'=>∃α' G',Step α1 G2 α' G'/\bZ G' F H'/\aM α' (st1.set n0 (.tab T lpos qual true)) G') (kz:=ks) (vs:=ai)
   I2 ⟨α1,G2,Step.refl,P2,S2⟩ ⟨_,hobj,rfl,nn,rfl⟩ (by omega) (by omega) (λ i u kk hu hk own s' J=>?_) λ D s' out cc oD J so=>?_
  . have hi:i<ns.length:=by
     have:=(Tt.mp hu).1;omega
    obtain⟨tt,ht⟩:=hints.get i ns[i] (TM hi);have ht:some u=some (Value.int ns[i] tt):=by rw[<-hu];exact ht
    cases ht;refine HN (v:= .int ns[i]) (u:= .int ns[i] tt) S hc (by have:=hr.dp;omega) (hb f c) hbind ⟨tt,rfl⟩ (T9 _ (UI.mpr rfl)) (λ H' s'' J' r'=>?_) (λ H' r'=>?_) J
    . have q:=J'.aF c _ (key H' r');exact⟨c,o,vs,tq,rfl,q.1,hc3,hc4⟩
    . obtain⟨α',G',q1,q2,q3⟩:=r';refine⟨α',(gE fr σd).set 0 (some (.int ns[i])),_,_,G',F,q2,?_,q3,hkey i ns[i] kk (TM hi) hk,λ d' st' hd α'' G'' H'' v' s'' P'' S'' r''=>?_⟩
      . exact((RS.step ((s1'.trans st2).trans q1)).comp).set 0 (by unfold Rep;rfl)
      . obtain⟨rfl,rfl⟩:=hd;unfold Rep at r'';exact⟨r'',α'',G'',q1.trans s'',P'',S''⟩
  . obtain⟨H',I',α',G',q1,q2,q3⟩:=J;obtain⟨ps,hp,ho,hs⟩:=so
    have hps:∀q∈ps,∃t,q.2= .int (numOf q.2) t:=λ q hq=>by
     have h1:=hp.mem_iff.mp hq;have h2:q.2∈ai:=(W2 (show(q.1,q.2)∈ks.zip ai from h1)).2;obtain⟨n,t,e⟩:=hints.all _ h2;exact⟨t,by rw[e];rfl⟩
    have hos:(ps.map λ q=>(q.1,numOf q.2)).Perm (ks.zip ns):=by
     have h1:=hp.map λ q:Int×Value=>(q.1,numOf q.2)
     have e:(ks.zip ai).map (λ q:Int×Value=>(q.1,numOf q.2))=ks.zip ns:=by
      rw[<-hints.nums,List.zip_map_right];exact UK λ⟨a,b⟩ _=>rfl
     rw[e]at h1;exact h1
    have hpw:(ps.map λ q=>(q.1,numOf q.2)).Pairwise slt:=by rw[XC];exact hs
    have kk:=hK _ hos hpw;rw[UD]at kk;have hD0:=fD I'
    have vout:Vals ((ps.map λ q=>numOf q.2).map V.int) out.toList:=by
     rw[ho];clear hos hpw kk hs hp ho;induction ps with
     |nil=>exact .nil
     |cons q r ih=>
      obtain⟨t,e⟩:=hps q (Ua ..);exact .cons ⟨t,e⟩ (ih λ z hz=>hps z (TY _ hz))
    have hlo:(ps.map λ q=>numOf q.2).length<=sizeLine:=by
     rw[Tw,hp.length_eq,List.length_zip];exact TB (Nat.min_le_left _ _) (TB (show ks.length<=64 by omega) (by decide))
    have I3:=Hc (u:= .lst ((ps.map λ q=>numOf q.2).map V.int)) I' oD.ge oD.ne ⟨by rw[Tw];exact hlo,out.toList,cc,vout,hD0.1⟩;have hG:=(q2.none hD0.2.1).1;refine⟨.ref D,_,I3.gQ,rfl,k _ _ kk α' _ _ _ ((s1'.trans st2).trans (q1.trans (Step.laid hG))) (q2.laid hD0.2.1) (q3.laid hG) ?_⟩;unfold Rep;refine⟨D,_,rfl,q3.j8 hG,.inl aW,?_⟩;have e:List.map ((λ p:Int×Int=>L3.D.int p.snd)∘λ q:Int×Value=>(q.fst,numOf q.snd)) ps=(ps.map λ q=>numOf q.2).map L3.D.int:=by rw[UD];rfl
    rw[e];exact zK _
end
end L3
namespace L3
open PySem L2
open PySem.Spec hiding items?
open PyProof.Rows hiding St
def EE(sc:Scope)(N gl:List Str):Bool:=
 N.all (λ x=>(sc.names.lookup x==some .local||sc.names.lookup x==some .cell)&&x != "__debug__"&&x != "__classdict__")&&gl.all (λ x=>sc.names.lookup x==some .globalImplicit&&x != "__debug__")
structure VS(sc:Scope)(N gl:List Str):Prop where
 ok:EE sc N gl=true
theorem VS.at_{sc:Scope}{N gl:List Str}(V:VS sc N gl){i:Nat}{x:Str}(h:N[i]?=some x):Loc sc x/\(x==("__debug__":Str))=false/\(x==("__classdict__":Str))=false:=by
 have o:=V.ok;unfold EE at o;have:=Um.mp (Xa.mp o).1 x (Ui h);simp only[Ub,W7,VN,W6,ne_eq]at this;exact⟨this.1.1,XZ this.1.2,XZ this.2⟩
theorem VS.QZ{sc:Scope}{N gl:List Str}(V:VS sc N gl){i:Nat}{x:Str}(h:gl[i]?=some x):sc.names.lookup x=some .globalImplicit/\(x==("__debug__":Str))=false:=by
 have o:=V.ok;unfold EE at o;have:=Um.mp (Xa.mp o).2 x (Ui h);simp only[Ub,VN,W6,ne_eq]at this;exact⟨this.1,XZ this.2⟩
section
variable {X:Cx}{sc:Scope}{N gl:List Str}{x:Str}{pos:Pos}
theorem VS.nm(V:VS X.env.scope X.N gl)(i:Nat)(h:X.N[i]?=some x:=by rfl):JE X (.Name x pos) (ab i):=
 let q:=V.at_ h
 Gs q.2.1 q.2.2 (q.1.elim .inl λ z=> .inr (.inl z)) h
theorem VS.l(V:VS sc N gl)(i:Nat)(h:N[i]?=some x:=by rfl):Loc sc x:=(V.at_ h).1
theorem VS.g(V:VS sc N gl)(i:Nat)(h:gl[i]?=some x:=by rfl):sc.names.lookup x=some .globalImplicit:=(V.QZ h).1
theorem VS.d(V:VS sc N gl)(i:Nat)(h:gl[i]?=some x:=by rfl):(x==("__debug__":Str))=false:=(V.QZ h).2
theorem se{n:Nat}(hN:X.N[n]?=some x:=by rfl)(hd:((x==("__debug__":Str))||(x==("__classdict__":Str)))=false:=by decide+kernel)
 (hv:Ad X.env.scope x:=by first|exact Or.inl rfl|exact Or.inr (Or.inl rfl)|exact Or.inr (Or.inr rfl)):JE X (.Name x pos) (ab n):=
 Gs (Bool.or_eq_false_iff.mp hd).1 (Bool.or_eq_false_iff.mp hd).2 hv hN
@[irreducible] def oN:df:=uy (λ _ j=>j≠0) λ i j=> .int (i.fdiv j)
theorem Cr{k:Nat}(hr:cJ k X.A)(hs:X.stack=X.env::X.outer)(hgen:X.env.scope.isGenerator=false)(hco:X.env.scope.isCoroutine=false):bV X (binaryOp .FloorDiv) (LR oN):=by
 unfold oN;refine j5 (g':=λ i j=> .int (i.fdiv j)) (λ _ _ _ _=>by unfold Rep;rfl) ?_;intro pins s σ H x y v u Q I rx ry h;obtain⟨i,j,rfl,rfl,hc,q⟩:=h;obtain⟨t,rfl⟩:=rx;obtain⟨t',rfl⟩:=ry;refine floordiv_int hc ⟨.int (i.fdiv j),H,I.tok _,⟨_,rfl⟩,q⟩ (.inr (PySem.PylongRoom.of I.nolimit ?_ ?_))
 . have:=hr.dp;show X.A.depth+100<_;omega
 . exact PySem.SeerAt.of (env:=X.env) (l:=X.outer) (I.mod.seer.keeps I.bk) I.ok.gt (by rw[I.ok.frames,hs]) hgen hco I.ok.blt I.ok.glob
theorem BB{st:ae}{K:DK}{i j:Int}(h0:j≠0)(k:K (.int (i.fdiv j)) st):oN (.int i) (.int j) st K:=by unfold oN;exact⟨h0,k⟩
theorem mD.look{scope:Scope}{Nc:List Str}{fr:List (Option Nat)}{p:Str}(S:cT X scope Nc fr)(h:(scope.names.all (λ x=>x.2 != .cell)&&(!scope.isCoroutine&& !scope.isGenerator)&&(scope.names.lookup p==some .local))=true:=by decide+kernel)
 (p0:Nc[0]?=some p:=by rfl) (f0:fr[0]?=some none:=by rfl):mD X scope Nc fr p:=by
 simp only[Ub,Bool.not_eq_true',VN]at h;exact⟨S,λ x hx=>by simpa using Um.mp h.1.1 x hx,h.1.2.1,h.1.2.2,p0,f0,h.2⟩
theorem KW{scope:Scope}{Nc:List Str}{fr:List (Option Nat)}{p qual:Str}{params:Arguments}{e body:Expr}{te tb:DE}{lpos kpos pos ppos:Pos}{c0 T:Addr}{n0 k:Nat}(S:mD X scope Nc fr p)(hc:X.calm=true)(hr:cJ k X.A)(hcode:X.env.code= .ref c0)(hC:PySem.W.codeHdIn X.K c0 T=true)
 (hb:∀(f c:Addr) (s:Shared) (H:Hp),JE (Gj X scope Nc qual f c s H) body tb) (he:JE X e te) (hg:X.env.kindOf "sorted"=some .globalImplicit) (hm:X.mg "sorted"=none)
 (hdef:defaultsOf params X.env=([],[]):=by rfl) (hql:X.env.qual++"<lambda>"=qual:=by rfl)
 (hbind:∀(cl:List (Str×Addr)) (pm cd ct v:Value),bindArgs (PySem.W.kla_fn "<lambda>" qual params body scope cl pm cd ct) ⟨[v],[]⟩=pure [(p,v)]:=by(intros;rfl)) (hk:2<=k:=by decide)
 (he1:starEach [e] X.env=(false,eval e X.env)::starEach [] X.env:=by rfl):
 JE X (.Call (.Name "sorted" ppos) [e] [⟨some "key",.Lambda params body scope lpos,kpos⟩] pos) (Bu n0 T lpos qual fr tb te):=by
 unfold JE at he hb⊢;refine Lh S hc (hr.mono hk) hcode hC hdef hql hbind hb (xD he Ax he1) hg hm rfl ?_ ?_
 . rw[he1];rfl
 . rw[he1];rfl
end
structure MO(K:PySem.W.Frag)(x qual:Str)(st:Stmt)(f:Addr)(fd:FuncData)(c:Addr):Prop where
 ex:∃(oc:Value) (od:Option Addr) (kV doc pm:Value) (an:Option Addr) (ct:Value) (osl:Array (Option Value)),
  fd=PySem.W.fnOf x qual (jU st) (fJ st) (bE st) .none kV doc pm an (.ref c) ct/\K.lookup f=some ⟨oc,od,.func fd,osl⟩/\PySem.W.codeIn K (.ref c) qual=true
theorem OW{P:Program}{w:World}{K:PySem.W.Frag}{mg:Str->Option Value}{base:Heap}{x qual:Str}{st:Stmt}{f c:Addr}{fd:FuncData}{N ps:List Str}{k:Nat}{sp:bQ}{t:DS}(F:MO K x qual st f fd c)(S:kM N ps (bE st))
 (hbody:∀(A:Around) (outer:List Env) (s:Shared) (H:Hp) (E:XK),cJ k (A.deeper (envOfC qual (bE st) s.heap.objs.size f (.ref c)))->JB (oz fy P w K mg base N qual (bE st) f (.ref c) A outer s H E).t_ (fJ st) t)
 (hsp:∀ds st K,sp ds st K->ds.length=ps.length/\t {nx:=λ _ st'=>K .ax st',rt:=K} (aH N ds) st):cR P w K mg base fy (k+1) f fd ps (fP sp):=by
 obtain⟨oc,od,kV,doc,pm,an,ct,osl,rfl,lk,hcd⟩:=F.ex;unfold JB at hbody;refine Ji lk hcd S (λ vs H Q E h=>?_) λ A outer s H vs Q E hr h=>?_
 . obtain⟨α,ds,st,K,G,F,P,R,S,q,k⟩:=h;rw[<-R.length];exact(hsp ds st K q).1
 . obtain⟨α,ds,st,K,G,F',P,R,SR,q,k⟩:=h;refine⟨_,(hbody A outer s H E hr).t_,α,aH N ds,st,_,G,F',P,dw.start R,SR,(hsp ds st K q).2,?_,k,?_,?_⟩
   . intro σd' st' kk α' G' H' σ' s' P' R' S';exact k .ax st' kk α' G' H' .ax s' P' S' (by unfold Rep;rfl)
   . intro σd' st' kk;exact kk.elim
   . intro σd' st' kk;exact kk.elim
def Fy(tl:List (Addr×Pos×Str)):bQ:=λ ds st K=>∃ns:List Int,ds=[.lst (ns.map .int)]/\ns.length<=63/\st=tl.map (λ q=> .tab q.1 q.2.1 q.2.2 false)/\∀st',K (.bl true) st'
def Fs(K:PySem.W.Frag)(ts:List (Addr×Addr)):Sp:=λ vs H Q _=>∃(a:Addr) (ns:List Int),vs=[.ref a]/\Entry K ts a ns H/\ns.length<=63/\∀H',Q (.bl true) H'
theorem Gf{K:PySem.W.Frag}{ts:List (Addr×Addr)}{tl:List (Addr×Pos×Str)}(nl:Gv K=true)(hts:ts.map (·.2)=tl.map (·.1))(nd:(tl.map (·.1)).Nodup){vs:List V}{H:Hp}{Q:VK}{E:XK}(h:Fs K ts vs H Q E):fP (Fy tl) vs H Q E:=by
 obtain⟨a,ns,rfl,hE,hl,q⟩:=h
 have tabs:∀q∈tl,H q.1=some (.jV #[])/\q.1≠a:=λ q hq=>by
  have h1:q.1∈ts.map (·.2):=by rw[hts];exact Xg hq
  obtain⟨t,ht,e⟩:=T5.mp h1;rw[<-e];exact hE.tab t ht
 have at_:∀(i:Nat) (x:Addr),(tl.map λ q=>some q.1)[i]?=some (some x)->∃q,tl[i]?=some q/\q.1=x:=λ i x e=>by
  rw[T7]at e;cases z:tl[i]? with
  |none=>rw[z]at e;cases e
  |some w=>rw[z]at e;simp at e;exact⟨w,rfl,e⟩
 have nota:some a∉tl.map λ q=>some q.1:=λ z=>by
  obtain⟨w,hw,e⟩:=T5.mp z;exact(tabs w hw).2 (UE e)
 rcases hE.lst with hS|⟨o,ai,n,e,hc,_⟩
 . refine⟨tl.map λ q=>some q.1,[.lst (ns.map .int)],tl.map (λ q=> .tab q.1 q.2.1 q.2.2 false),λ d _=>d= .bl true,H,λ _=>none,⟨λ b=>by cases H b<;>rfl,λ _ _ _=>rfl⟩,?_,⟨by simp,λ i j x e1 e2=>?_,λ n c e=>?_⟩,⟨ns,rfl,hl,rfl,λ _=>rfl⟩,?_⟩
   . unfold aD;refine⟨.ref a,[],rfl,?_,by unfold aD;rfl⟩;unfold Rep;exact⟨a,ns.map V.int,rfl,nota,hS,yp ns⟩
   . obtain⟨p,hp,e3⟩:=at_ i x e1;obtain⟨r,hr,e4⟩:=at_ j x e2;have k1:(tl.map (·.1))[i]?=some x:=by rw[T7,hp,<-e3];rfl
     have k2:(tl.map (·.1))[j]?=some x:=by rw[T7,hr,<-e4];rfl
     have hi:=(Tt.mp k1).1;exact(List.getElem?_inj hi nd).mp (k1.trans k2.symm)
   . rw[T7]at e;cases z:tl[n]? with
     |none=>rw[z]at e;cases e
     |some w=>
      rw[z]at e;have e':Cell.tab w.1 w.2.1 w.2.2 false=c:=UE e;subst e';refine .inr ⟨w.1,by rw[T7,z];rfl,rfl,#[],(tabs w (Ui z)).1,trivial,.inl ⟨rfl,rfl⟩⟩
   . rintro d st' rfl α' G' H' v _ _ _ r;unfold Rep at r;subst r;exact q H'
 . exact absurd hc (yW nl e)
section
variable {K:PySem.W.Frag}{x qual p1 p2 p3 p4 p5:Str}{st:Stmt}{f:Addr}{fd:FuncData}
abbrev qP(x qual:Str)(st:Stmt)(kV doc pm:Value)(an:Option Addr)(cdv ct:Value):FuncData:=PySem.W.fnOf x qual (jU st) (fJ st) (bE st) .none kV doc pm an cdv ct
theorem f9{α:Type}{n:Nat}{us:List α}(h:us.length=n+1):∃a r,us=a::r/\r.length=n:=by
 cases us with
 |nil=>cases h
 |cons a r=>exact⟨a,r,rfl,Nat.succ.inj h⟩
theorem tE{α:Type}{us:List α}(h:us.length=0):us=[]:=Vm.mp h
theorem Q8(F:nB K x qual st f fd)(h:∀kV doc pm an cdv ct a,bindArgs (qP x qual st kV doc pm an cdv ct) ⟨[a],[]⟩=pure [(p1,a)]):Binds K fd [p1] []:=
 F.binds λ kV doc pm an cdv ct us hl=>by
  obtain⟨a,r1,rfl,h1⟩:=f9 hl;cases tE h1;exact h kV doc pm an cdv ct a
theorem Rl(F:nB K x qual st f fd)(h:∀kV doc pm an cdv ct a b,bindArgs (qP x qual st kV doc pm an cdv ct) ⟨[a,b],[]⟩=pure [(p1,a),(p2,b)]):Binds K fd [p1,p2] []:=
 F.binds λ kV doc pm an cdv ct us hl=>by
  obtain⟨a,r1,rfl,h1⟩:=f9 hl;obtain⟨b,r2,rfl,h2⟩:=f9 h1;cases tE h2;exact h kV doc pm an cdv ct a b
theorem Ra(F:nB K x qual st f fd)(h:∀kV doc pm an cdv ct a b c,bindArgs (qP x qual st kV doc pm an cdv ct) ⟨[a,b,c],[]⟩=pure [(p1,a),(p2,b),(p3,c)]):Binds K fd [p1,p2,p3] []:=
 F.binds λ kV doc pm an cdv ct us hl=>by
  obtain⟨a,r1,rfl,h1⟩:=f9 hl;obtain⟨b,r2,rfl,h2⟩:=f9 h1;obtain⟨c,r3,rfl,h3⟩:=f9 h2;cases tE h3;exact h kV doc pm an cdv ct a b c
theorem Ri(F:nB K x qual st f fd)(h:∀kV doc pm an cdv ct a b c d,bindArgs (qP x qual st kV doc pm an cdv ct) ⟨[a,b,c,d],[]⟩=pure [(p1,a),(p2,b),(p3,c),(p4,d)]):Binds K fd [p1,p2,p3,p4] []:=
 F.binds λ kV doc pm an cdv ct us hl=>by
  obtain⟨a,r1,rfl,h1⟩:=f9 hl;obtain⟨b,r2,rfl,h2⟩:=f9 h1;obtain⟨c,r3,rfl,h3⟩:=f9 h2;obtain⟨d,r4,rfl,h4⟩:=f9 h3;cases tE h4;exact h kV doc pm an cdv ct a b c d
end
section
variable {X:Cx}
end
theorem vg{A B:Type}{F:A->B->Prop}:∀ {xs zs:List A} {ys us:List B},Paired F xs ys->Paired F zs us->Paired F (xs++zs) (ys++us)
 |_,_,_,_,.nil,h=>h
 |_,_,_,_,.cons r t,h=> .cons r (vg t h)
section
variable {X:Cx}
def t_(X:Cx):Cx:={X with xe:=λ _ _=>False}
end
variable {st:ae}{K:D->ae->Prop}{i j:Int}
section
variable {X:Cx}{pos:Pos}
def Of(n:Nat)(t:wt):TG:=λ v σ H Q=>∃a xs,v= .ref a/\Rd H a (.lst xs)/\xs.length=n/\t xs σ H Q
theorem Nm{es:List Expr}{k:Nat}{t:wt}{n:Nat}(hc:X.calm=true)(h:Bm X es t)
 (hn:(assignEach es X.env).length=n:=by rfl) (hst:(assignEach es X.env).findIdx? (·.1)=none:=by rfl):PG X (.Tuple es k pos) (Of n t):=by
 intro pins s σ H v u Q I r hw;obtain⟨a,xs,e1,hq,hl,hw⟩:=hw;subst e1;cases r;obtain⟨hz,ai,n',rv,hle,ho⟩:=L3.Inv.sx I hq;have il:s.heap.IsList a ai.toArray:=⟨_,ho,rfl,n',rfl⟩
 rw[assign_Tuple];refine Tr (Wr ?_);unfold unpack;rw[hn,hst,show n=ai.toArray.size by simp[<-hl,hle]];refine Tr (VI (PySem.W.kun_itemsOf (I.ok.hd hc) il λ h' hx=>?_));have I1:Inv X pins σ H {s with heap:=h'}:=I.kept (t':=s.toks) λ b o e=>hx b o (Ue (TN e)) e;exact h pins _ σ H xs _ Q I1 (by simpa using rv) hw
end
end L3
namespace L3
open PySem L2
structure ClsAt(K:PySem.W.Frag)(mg:Str->Option Value)(x:Str)(C:Addr):Prop where
 cl:lP K C
 mg:mg x=some (.ref C)
 Rn:PySem.W.makesIn K C=true
 kp:PySem.W.keepIn K (.ref C)=true
structure MethAt(K:PySem.W.Frag)(C:Addr)(m qual:Str)(st:Stmt)(ps:List Str)(f:Addr)(fd:FuncData):Prop where
 fn:nB K m qual st f fd
 me:Meth K C m f
 bd:Binds K fd ps []
end L3
namespace Hd
open PySem PySem.W L2 L3
open PySem.Spec hiding items?
open PyProof.Rows hiding St
section
variable {K:Frag}{mg:Str->Option Value}{h:Heap}{x q:Str}{st:Stmt}{f c C:Addr}{pm:Value}{p1 p2 p3 p4 p5 p6:Str}
abbrev Ed(K:Frag)(x:Str)(st:Stmt)(f:Addr)(pm:Value)(c:Addr):Prop:=(nsIn K mainGlobals x,K.lookup f,codeIn K (.ref c) x,keepIn K (.ref f))=(some (some (.ref f)),some (fq st x x pm c),true,true)
abbrev Em(K:Frag)(C:Addr)(x q:Str)(st:Stmt)(f:Addr)(pm:Value)(c:Addr):Prop:=(findIn K (.ref C) x,isFn K (.ref f),K.lookup f,codeIn K (.ref c) q,keepIn K (.ref f))=(some (some (.ref f)),true,some (fq st x q pm c),true,true)
theorem Ed.fn(e:Ed K x st f pm c):nB K x x st f (fd st x x pm c)/\nsIn K mainGlobals x=some (some (.ref f)):=by
 obtain⟨e1,e2,e3,e4⟩:_/\_/\_/\_:=by simpa only[Yv]using e
 exact⟨Fp (st:=st) e2 e3 e4,e1⟩
theorem Em.fn(e:Em K C x q st f pm c):nB K x q st f (fd st x q pm c)/\Meth K C x f:=by
 obtain⟨e1,e2,e3,e4,e5⟩:_/\_/\_/\_/\_:=by simpa only[Yv]using e
 exact⟨Fp (st:=st) e3 e4 e5,e1,e2,e5⟩
theorem SM(X:K.In h)(G:h.Ns mainGlobals mg)(e:Ed K x st f pm c)(b:∀kV doc pm an cdv ct a,bindArgs (qP x x st kV doc pm an cdv ct) ⟨[a],[]⟩=pure [(p1,a)]):mL K mg x x st [p1] f (fd st x x pm c):=⟨e.fn.1,mg_of X G e.fn.2,Q8 e.fn.1 b⟩
theorem Td(X:K.In h)(G:h.Ns mainGlobals mg)(e:Ed K x st f pm c)(b:∀kV doc pm an cdv ct a1 a2,bindArgs (qP x x st kV doc pm an cdv ct) ⟨[a1,a2],[]⟩=pure [(p1,a1),(p2,a2)]):mL K mg x x st [p1,p2] f (fd st x x pm c):=⟨e.fn.1,mg_of X G e.fn.2,Rl e.fn.1 b⟩
theorem Tf(X:K.In h)(G:h.Ns mainGlobals mg)(e:Ed K x st f pm c)(b:∀kV doc pm an cdv ct a1 a2 a3,bindArgs (qP x x st kV doc pm an cdv ct) ⟨[a1,a2,a3],[]⟩=pure [(p1,a1),(p2,a2),(p3,a3)]):mL K mg x x st [p1,p2,p3] f (fd st x x pm c):=⟨e.fn.1,mg_of X G e.fn.2,Ra e.fn.1 b⟩
theorem S9(X:K.In h)(G:h.Ns mainGlobals mg)(e:Ed K x st f pm c)(b:∀kV doc pm an cdv ct a1 a2 a3 a4,bindArgs (qP x x st kV doc pm an cdv ct) ⟨[a1,a2,a3,a4],[]⟩=pure [(p1,a1),(p2,a2),(p3,a3),(p4,a4)]):mL K mg x x st [p1,p2,p3,p4] f (fd st x x pm c):=⟨e.fn.1,mg_of X G e.fn.2,Ri e.fn.1 b⟩
theorem OK(e:Em K C x q st f pm c)(b:∀kV doc pm an cdv ct a,bindArgs (qP x q st kV doc pm an cdv ct) ⟨[a],[]⟩=pure [(p1,a)]):MethAt K C x q st [p1] f (fd st x q pm c):=⟨e.fn.1,e.fn.2,Q8 e.fn.1 b⟩
theorem Na(e:Em K C x q st f pm c)(b:∀kV doc pm an cdv ct a1 a2,bindArgs (qP x q st kV doc pm an cdv ct) ⟨[a1,a2],[]⟩=pure [(p1,a1),(p2,a2)]):MethAt K C x q st [p1,p2] f (fd st x q pm c):=⟨e.fn.1,e.fn.2,Rl e.fn.1 b⟩
theorem By(e:Em K C x q st f pm c)(b:∀kV doc pm an cdv ct a1 a2 a3,bindArgs (qP x q st kV doc pm an cdv ct) ⟨[a1,a2,a3],[]⟩=pure [(p1,a1),(p2,a2),(p3,a3)]):MethAt K C x q st [p1,p2,p3] f (fd st x q pm c):=⟨e.fn.1,e.fn.2,Ra e.fn.1 b⟩
theorem SF(e:Em K C x q st f pm c)(b:∀kV doc pm an cdv ct a1 a2 a3 a4,bindArgs (qP x q st kV doc pm an cdv ct) ⟨[a1,a2,a3,a4],[]⟩=pure [(p1,a1),(p2,a2),(p3,a3),(p4,a4)]):MethAt K C x q st [p1,p2,p3,p4] f (fd st x q pm c):=⟨e.fn.1,e.fn.2,Ri e.fn.1 b⟩
theorem fc(e:(K.lookup f,codeIn K (.ref c) q)=(some (fq st x q pm c),true)):MO K x q st f (fd st x q pm c) c:=by
 obtain⟨e1,e2⟩:_/\_:=by simpa only[Yv]using e
 exact⟨_,_,_,_,_,_,_,_,rfl,e1,e2⟩
theorem na{a:Str}(e:findIn K (.ref C) a=some none):du K C a:=e
end
end Hd
namespace L3
open PySem L2
open PySem.Spec hiding items?
open PyProof.Rows hiding St
section
variable {X:Cx}{pos:Pos}
def Rh(g1 g2:TG):TG:=λ v σ H Q=>g1 v σ H Q\/g2 v σ H Q
theorem Qv{tg:Expr}{g1 g2:TG}(h1:PG X tg g1)(h2:PG X tg g2):PG X tg (Rh g1 g2):=by
 intro pins s σ H v u Q I r hw;rcases hw with hw|hw
 . exact h1 pins s σ H v u Q I r hw
 . exact h2 pins s σ H v u Q I r hw
end
end L3
namespace L3
open PySem L2
open PySem.Spec hiding items?
end L3
namespace L3
open PySem PySem.Spec L2
open PyProof.Rows hiding St
section
variable {X:Cx}{pos:Pos}
end
end L3
namespace L3
open PySem L2
open PySem.Spec hiding items?
open PyProof.Rows hiding St
section
variable {X:Cx}
end
section
variable {X:Cx}{pos:Pos}
theorem DX{α:List (Option Addr)}{H:Hp}{ds:List D}{xs:List V}{d e f g h:D}(r:aD α H ds xs)(q:ds=[d,e,f,g,h]):∃v1 v2 v3 v4 v5,xs=[v1,v2,v3,v4,v5]/\Rep α H d v1/\Rep α H e v2/\Rep α H f v3/\Rep α H g v4/\Rep α H h v5:=by
 subst q;unfold aD at r;obtain⟨v,q,rfl,h1,r⟩:=r;unfold aD at r;obtain⟨u,q,rfl,h2,r⟩:=r;obtain⟨a,b,c,rfl,h3,h4,h5⟩:=Pe r rfl;exact⟨v,u,a,b,c,rfl,h1,h2,h3,h4,h5⟩
def wx(i j k l m:Nat):ef:=λ d σ=>match d with| .tup [x,y,z,u,v]=>some (((((σ.set i (some x)).set j (some y)).set k (some z)).set l (some u)).set m (some v))|_=>none
theorem Lj{tg:Expr}{i j k l m:Nat}(h:PG X tg (EC X.K 5 (ff (dA i) (ff (dA j) (ff (dA k) (ff (dA l) (ff (dA m) xf))))))):PG X tg (LG (wx i j k l m)):=PG.imp h λ v σ H Q ⟨α,σd,st,d,K,G,F,P,R,S,r,⟨σ',e,q⟩,kk⟩=>by
 unfold wx at e;split at e
 . cases e;unfold Rep at r;obtain⟨a,vs,rfl,na,h1,h2⟩:=r;obtain⟨v1,v2,v3,v4,v5,rfl,r1,r2,r3,r4,r5⟩:=DX h2 rfl;exact⟨a,_,rfl,.of (P.get h1),rfl,v1,_,rfl,v2,_,rfl,v3,_,rfl,v4,_,rfl,v5,_,rfl,rfl,kk.here P q (((((R.set i r1).set j r2).set k r3).set l r4).set m r5) S⟩
 . cases e
theorem PX{i j k l m n:Nat}{x y z u v:Str}{px py pz pu pv:Pos}(hc:X.calm=true)(hN:X.N.Nodup)(hx:Loc X.env.scope x:=by first|exact Or.inl rfl|exact Or.inr rfl)(hf:X.fn x=true\/X.env.scope.names.lookup x=some .local:=by first|exact .inl rfl|exact .inr rfl)(hy:Loc X.env.scope y:=by first|exact Or.inl rfl|exact Or.inr rfl)(hg:X.fn y=true\/X.env.scope.names.lookup y=some .local:=by first|exact .inl rfl|exact .inr rfl)(hz:Loc X.env.scope z:=by first|exact Or.inl rfl|exact Or.inr rfl)(hh:X.fn z=true\/X.env.scope.names.lookup z=some .local:=by first|exact .inl rfl|exact .inr rfl)(hu:Loc X.env.scope u)(hp:X.fn u=true\/X.env.scope.names.lookup u=some .local)(hv:Loc X.env.scope v)(hq:X.fn v=true\/X.env.scope.names.lookup v=some .local)
 (hi:X.N[i]?=some x:=by rfl) (hj:X.N[j]?=some y:=by rfl) (hk:X.N[k]?=some z:=by rfl) (hl:X.N[l]?=some u:=by rfl) (hm:X.N[m]?=some v:=by rfl):JG X (.Tuple [.Name x px,.Name y py,.Name z pz,.Name u pu,.Name v pv] n pos) (wx i j k l m):=by
 unfold JG;exact Lj (vJ hc (dS (fA hN hi hx hf) (dS (fA hN hj hy hg) (dS (fA hN hk hz hh) (dS (fA hN hl hu hp) (dS (fA hN hm hv hq) sX))))))
end
section
variable {X:Cx}
end
namespace RF
theorem rl:Manifest.owners.lookup (String.ofList ['d','e','s','r','e','v','e','r'].reverse)=some Manifest.sig_reversed:=by kernel_rfl
theorem g4:Slot "reversed" "__next__" "reversed.__next__":=
 .of (owner:="reversed") (n:="__next__") (by rw[Wc,Vx];kernel_rfl) (by decide+kernel) (by decide+kernel) (by decide+kernel)
  (by first|exact .inl (by decide+kernel)|exact .inr (by decide+kernel)) (by rw[Wj];kernel_rfl)
theorem o6:entryFor table "reversed.__next__"=some Builtin.«reversed.__next__» :=entryFor_of_tree (by kernel_rfl)
theorem nZ(a:Value):argsOk "reversed.__next__" ⟨[a],[]⟩:=by
 unfold argsOk;rw[Yw (id:="reversed.__next__") (n:=['_','_','t','x','e','n','_','_']) (o:=['d','e','s','r','e','v','e','r']) (by kernel_rfl) rl];kernel_rfl
theorem qD:Slot "reversed" "__iter__" "reversed.__iter__":=
 .of (owner:="reversed") (n:="__iter__") (by rw[Wc,Vx];kernel_rfl) (by decide+kernel) (by decide+kernel) (by decide+kernel)
  (by first|exact .inl (by decide+kernel)|exact .inr (by decide+kernel)) (by rw[Wj];kernel_rfl)
theorem vI(a:Value):argsOk "reversed.__iter__" ⟨[a],[]⟩:=by
 unfold argsOk;rw[Yw (id:="reversed.__iter__") (n:=['_','_','r','e','t','i','_','_']) (o:=['d','e','s','r','e','v','e','r']) (by kernel_rfl) rl];kernel_rfl
theorem wM:entryFor table "reversed.__iter__"=some Builtin.«dict_keyiterator.__iter__» :=
 entryFor_alias (id':="dict_keyiterator.__iter__") (by kernel_rfl) (by first|rfl|decide+kernel|(unfold String.splitOn;simp+decide [String.splitOnAux])) (by decide+kernel) (by kernel_rfl)
theorem yG:Slot "reversed" "__init__" "object.__init__":=
 .of (owner:="object") (n:="__init__") (by rw[Wc,Vx];kernel_rfl) (by decide+kernel) (by decide+kernel) (by decide+kernel)
  (by first|exact .inl (by decide+kernel)|exact .inr (by decide+kernel)) (by rw[Wj];kernel_rfl)
theorem vi:TypeCalled "reversed" "reversed.__new__" "object.__init__":=
 ⟨by decide+kernel,by decide+kernel,⟨_,_,F.mro_reversed⟩,F.made_reversed,by decide+kernel,F.sub_reversed_self,yG⟩
theorem md:Slot "reversed" "__length_hint__" "reversed.__length_hint__":=
 .of (owner:="reversed") (n:="__length_hint__") (by rw[Wc,Vx];kernel_rfl) (by decide+kernel) (by decide+kernel) (by decide+kernel)
  (by first|exact .inl (by decide+kernel)|exact .inr (by decide+kernel)) (by rw[Wj];kernel_rfl)
theorem xB:entryFor table "reversed.__length_hint__"=some Builtin.«reversed.__length_hint__» :=entryFor_of_tree (by kernel_rfl)
theorem v9(a:Value):argsOk "reversed.__length_hint__" ⟨[a],[]⟩:=by
 unfold argsOk;rw[Yw (id:="reversed.__length_hint__") (n:="__length_hint__".toList.reverse) (o:=['d','e','s','r','e','v','e','r']) (by kernel_rfl) rl];kernel_rfl
theorem GH:typeLookup (.type "reversed") "__len__"=pure none:=by rw[Wc,Vx];kernel_rfl
theorem BY:typeLookup (.type "tuple") "__reversed__"=pure none:=by rw[Wc,Vx];kernel_rfl
theorem sub_tuple_dict:isSubtype (.type "tuple") (.type "dict")=pure false:=by rw[Wj];kernel_rfl
end RF
def AI(t:Addr)(i:Int):Obj:={cls:= .type "reversed",data:= .fields #[.ref t,rawInt i]}
theorem BL(t:Addr)(items:Array Value):Meets (Builtin.«reversed.__new__» ⟨[.type "reversed",.ref t],[]⟩) (λ _ R s=>IsTup s.heap t items/\(items.size:Int)<2^63/\
 R (.ok (.ret (.ref s.heap.objs.size))) {s with heap:=s.heap.push (AI t ((items.size:Int)-1)),toks:=s.toks+1+1}):=
 .of_wp λ prog w A R s h=>by
  obtain⟨ht,hf,h⟩:=h;unfold Builtin.«reversed.__new__»;refine Tr (Vq (newClass_reversed _) ?_);try dsimp only
  refine Tr (Vq (a:=()) (by first|rfl|kernel_rfl) ?_);refine Tr (Vq (a:=()) (by first|rfl|kernel_rfl) ?_);try dsimp only
  refine Tr (Wy ht.typeIs RF.BY ?_);try dsimp only
  refine Tr ?_;show wpAny _ _ (isInstance (.ref t) (.type "dict") >>= _) _ _ s;refine Tr (Wo (T:="tuple") (b:=false) ht.typeIs RF.sub_tuple_dict ?_);show wpAny _ _ (specialOf (.ref t) "__getitem__" >>= _) _ _ s;refine Tr (Wy ht.typeIs F.slot_tuple_getitem.lookup ?_);try dsimp only
  refine TH ?_;try dsimp only
  refine Tr (len_tuple ht hf ?_);refine Tr (Vq (a:=some (items.size:Int)) (by first|rfl|kernel_rfl) ?_);try dsimp only
  refine Tr ?_;show wpAny _ _ (newObj (.type "reversed") (.fields #[.ref t,rawInt ((items.size:Int)-1)])) _ _ _;exact UP (TH ⟨_,rfl,h⟩)
section
variable {prog:Program}{w:World}{A:Around}{E:Value->Shared->Prop}{s:Shared}
theorem tU{t:Addr}{items:Array Value}{Q:Value->Shared->Prop}(ht:IsTup s.heap t items)(hf:(items.size:Int)<2^63)
 (h:Q (.ref s.heap.objs.size) {s with heap:=s.heap.push (AI t ((items.size:Int)-1)),toks:=s.toks+1+1}):wpAny (model prog w) A (call (.type "reversed") [.ref t]) Q E s:=
 YB RF.vi (by decide) (F.typeCall_reversed_1 _) (F.newCall_reversed_1 _) (λ obj=>W_ obj _) F.entry_reversed_new (BL t items) ⟨ht,hf,⟨_,TX _ rfl,rfl⟩,h⟩
def eW(h:Heap)(a t:Addr)(i:Int):Prop:=∃o,h.get? a=some o/\o.cls= .type "reversed"/\o.data= .fields #[.ref t,rawInt i]
theorem eW.typeIs{a t:Addr}{i:Int}(x:eW s.heap a t i):s.TypeIs (.ref a) "reversed":=let⟨o,ho,hc,_⟩:=x;⟨o,ho,hc⟩
theorem eW.at{h h':Heap}{a t:Addr}{i:Int}(x:eW h a t i)(e:∀o,h.get? a=some o->h'.get? a=some o):eW h' a t i:=let⟨o,ho,r⟩:=x;⟨o,e _ ho,r⟩
theorem xo{it t:Addr}{i:Nat}{items:Array Value}{x:Value}{Q:Option Value->Shared->Prop}(hit:eW s.heap it t (i:Int))(ht:IsTup s.heap t items)(hx:items[i]?=some x)(hi:(i:Int)<2^63)
 (hQ:∀h',eW h' it t ((i:Int)-1)->Heap.SameBut it s.heap h'->Q (some x) {s with heap:=h',toks:=s.toks+1}):wpAny (model prog w) A (pyNext (.ref it)) Q E s:=by
 obtain⟨o,ho,hc,hd⟩:=id hit;have hsz:i<items.size:=(Array.getElem?_eq_some_iff.mp hx).1;unfold pyNext
 refine Tr (VZ (UN (name:=Str.ofString "__next__") hit.typeIs RF.g4
  (UZ RF.g4 hit.typeIs RF.o6 ?_ (RF.nZ _))))
 unfold Builtin.«reversed.__next__»;refine Tr (Vq (a:=(Value.ref it,[])) rfl ?_);try dsimp only
 refine Tr (UB ho hd (x:= .ref t) rfl ?_);refine Tr (UB ho hd (x:=rawInt (i:Int)) rfl ?_);show wpAny _ _ (if(i:Int)<0 then _ else _) _ _ s;rw[Tv (by omega)];show wpAny _ _ (specialOf (.ref t) "__getitem__" >>= _) _ _ s;refine Tr (Wy ht.typeIs F.slot_tuple_getitem.lookup ?_);rw[Tv (by simp)];refine Tr (wpAny_mkInt ?_);refine Tr (VZ (getItem_tuple (j:=i) ht (by omega) hi ?_ hx ?_))
 . have:=PySem.StrLaws.seqIndex_nonneg (i:=(i:Int)) (n:=items.size) (by omega) (by omega);rw[TZ]at this;exact this
 . try dsimp only
   refine Tr (UB ho hd (x:=rawInt (i:Int)) rfl ?_);refine Tr (WK ho hd (by simp) ?_);first
   |refine TH ⟨x,rfl,TH (hQ _ ?_ (UM ..))⟩
   |refine Tr (TH (TH ⟨x,rfl,TH (hQ _ ?_ (UM ..))⟩))
   exact⟨_,Vw _ ho (WW (VT hd _)),(Obj.cls_mapFields ..).trans hc,by
    rw[VT hd];simp⟩
theorem yC{it t:Addr}{Q:Option Value->Shared->Prop}(hh:A.handled=none)(hit:eW s.heap it t (-1))
 (hQ:∀h',Heap.ExtBut it s.heap h'->Q none {s with heap:=h'}):wpAny (model prog w) A (pyNext (.ref it)) Q E s:=by
 obtain⟨o,ho,hc,hd⟩:=id hit;unfold pyNext
 refine Tr (VZ (UN (name:=Str.ofString "__next__") hit.typeIs RF.g4
  (UZ RF.g4 hit.typeIs RF.o6 ?_ (RF.nZ _))))
 unfold Builtin.«reversed.__next__»;refine Tr (Vq (a:=(Value.ref it,[])) rfl ?_);try dsimp only
 refine Tr (UB ho hd (x:= .ref t) rfl ?_);refine Tr (UB ho hd (x:=rawInt (-1)) rfl ?_);show wpAny _ _ (if(-1:Int)<0 then _ else _) _ _ s;rw[TC (by decide)];refine Tr (V7 ?_);refine Tr ?_;show wpAny _ _ (setField (.ref it) 1 (rawInt (-1)) >>= _) _ _ s;refine Tr (WK ho hd (by simp) ?_);have ho2:=Vw (Obj.mapFields (·.setIfInBounds 1 (rawInt (-1)))) ho (WW (VT hd _));have sb:=UM s.heap it (Obj.mapFields (·.setIfInBounds 1 (rawInt (-1))));have hd2:=VT hd (·.setIfInBounds 1 (rawInt (-1)));generalize s.heap.update it (Obj.mapFields (·.setIfInBounds 1 (rawInt (-1))))=h2 at ho2 sb⊢;refine WK (s:={s with heap:=h2}) ho2 hd2 (by simp) ?_;have sb2:=UM h2 it (Obj.mapFields (·.setIfInBounds 0 .none));have eb:Heap.ExtBut it s.heap (h2.update it (Obj.mapFields (·.setIfInBounds 0 .none))):=λ b o hb e=>(sb2.2 b hb).trans ((sb.2 b hb).trans e);show wpAny _ _ _ _ _ {s with heap:=h2.update it (Obj.mapFields (·.setIfInBounds 0 .none))};generalize h2.update it (Obj.mapFields (·.setIfInBounds 0 .none))=h3 at eb⊢;first
 |show wpAny _ _ (newExc (.type "StopIteration") [] >>= _) _ _ _
 |(refine Tr ?_;show wpAny _ _ (newExc (.type "StopIteration") [] >>= _) _ _ _)
 refine Tr ?_;simp only[newExc,newTuple];refine Tr (UP ?_ (by size_fits));refine Tr (m:=firstArgMember _ _) (Vq (a:=Value.none) (by first|rfl|(simp only[firstArgMember];rfl)) ?_);refine UP ?_ (by size_fits);simp only[raiseNew];refine Tr (wpAny_handled ?_);first|rw[show A.in1.handled=none from hh]|rw[hh]
 refine Tr (TH (wpAny_throw ?_));refine Tr (Wo (T:="StopIteration") (b:=true) ⟨_,TX _ rfl,rfl⟩ Ym ?_);exact TH (hQ _ ((eb.push _).push _))
theorem FY{it t:Addr}{i:Int}{Q:Value->Shared->Prop}(hit:eW s.heap it t i)(h:Q (.ref it) s):wpAny (model prog w) A (pyIter (.ref it)) Q E s:=by
 refine wpAny_pyIter_slot hit.typeIs RF.qD (UZ RF.qD hit.typeIs RF.wM ?_ (RF.vI _));show wpAny _ _ (ret (.ref it)) _ _ s;exact TH ⟨_,rfl,"reversed",_,hit.typeIs,RF.g4.lookup,h⟩
end
theorem GS{h h':Heap}{a:Addr}{items:Array Value}(x:IsTup h a items)(e:∀o,h.get? a=some o->h'.get? a=some o):IsTup h' a items:=let⟨o,ho,r⟩:=x;⟨o,e _ ho,r⟩
theorem Walks.Od{prog:Program}{w:World}{A:Around}(hh:A.handled=none)(I l:Addr)(hne:l≠I)(items:Array Value)(hz:items.size<=sizeLine):
 Walks prog w A I [I,l] [I] items.size (λ i v=>items[items.size-1-i]?=some v) (λ i h=>i<=items.size/\eW h I l ((items.size:Int)-1-(i:Int))/\IsTup h l items) where
 sub:=λ b hb=>by simp at hb;simp[hb]
 frame:=λ _ _ _ x hk=>⟨x.1,x.2.1.at λ o e=>hk I (by simp) o e,GS x.2.2 λ o e=>hk l (by simp) o e⟩
 item:=λ i s Q E hi x hQ=>by
  have e:(items.size:Int)-1-(i:Int)=((items.size-1-i:Nat):Int):=by omega
  have hit:=x.2.1;rw[e]at hit;rw[V1]at hz;have hx:items[items.size-1-i]?=some (items[items.size-1-i]'(by omega)):=Array.getElem?_eq_getElem (by omega);refine xo hit x.2.2 hx (by omega) λ h' hit' hs'=>?_;have e2:((items.size-1-i:Nat):Int)-1=(items.size:Int)-1-((i+1:Nat):Int):=by omega
  rw[e2]at hit';exact hQ _ h' (s.toks+1) hx ⟨hi,hit',GS x.2.2 λ o eo=>(hs'.2 l hne).trans eo⟩ (λ b o hb eo=>hs'.extBut b o (λ h=>hb (by simp[h])) eo)
 done:=λ s Q E x hQ=>by
  have e:(items.size:Int)-1-(items.size:Int)= -1:=by omega
  have hit:=x.2.1;rw[e]at hit;exact yC hh hit λ h' he'=>hQ h' s.toks λ b o hb eo=>he' b o (λ h=>hb (by simp[h])) eo
 self:=λ _ _ _ _ x hQ=>FY x.2.1 hQ
section
variable {prog:Program}{w:World}{A:Around}{E:Value->Shared->Prop}{s:Shared}
theorem yU{it t:Addr}{items:Array Value}{Q:Value->Shared->Prop}(hit:eW s.heap it t ((items.size:Int)-1))(ht:IsTup s.heap t items)(hf:(items.size:Int)<2^63)
 (h:∀u tk,s.toks<=tk->Q (.int (items.size:Int) u) {s with toks:=tk}):wpAny (model prog w) A (call (.builtin "reversed.__length_hint__") [.ref it]) Q E s:=by
 obtain⟨o,ho,hc,hd⟩:=id hit;refine UZ RF.md hit.typeIs RF.xB ?_ (RF.v9 _);unfold Builtin.«reversed.__length_hint__»;refine Tr (Vq (a:=Value.ref it) rfl ?_);refine Tr (UB ho hd (x:= .ref t) rfl ?_);rw[Tv (show¬((Value.ref t==Value.none)=true)from Uo)];refine Tr (len_tuple ht hf ?_);refine Tr (Vq (a:=some (items.size:Int)) (by first|rfl|kernel_rfl) ?_);try dsimp only
 refine Tr (UB (s:={s with toks:=s.toks+1+1}) ho hd (x:=rawInt ((items.size:Int)-1)) rfl ?_);show wpAny _ _ (if(items.size:Int)<(items.size:Int)-1+1 then _ else _) _ _ _;rw[Tv (by omega)];refine Tr (wpAny_mkInt (TH ⟨_,rfl,?_⟩));have e:(items.size:Int)-1+1=(items.size:Int):=by omega
 rw[e];exact h _ _ (by show s.toks<=s.toks+1+1+1;omega)
theorem Hf{l:Addr}{Q:Unit->Shared->Prop}(hS:s.heap.get? l=some {cls:= .type "list",data:= .seq ([]:List Value).toArray})
 (hQ:∀h' c,h'.get? l=some {cls:= .type "list",dict:=none,data:= .seq #[] c,slots:= #[]}->(∀b o,b≠l->s.heap.get? b=some o->h'.get? b=some o)->Q () {s with heap:=h'}):
 wpAny (model prog w) A (updateSeq l (·.push .none) >>= λ _=>updateSeq l (·.pop)) Q E s:=by
 refine Tr (wpAny_updateSeq hS rfl ?_);have hS₂:=Vw (Obj.mapSeq (·.push Value.none)) hS rfl;refine wpAny_updateSeq hS₂ rfl ?_;have hS₃:=Vw (Obj.mapSeq (·.pop)) hS₂ rfl;exact hQ _ _ hS₃ λ b o hb e=>(We _ _ (TK hb)).trans ((We _ _ (TK hb)).trans e)
theorem L9{k:Int}(u:Tok):asInt? (Value.int k u)=pure (some k):=rfl
theorem B9{it t:Addr}{items:Array Value}{Q:List Value->Shared->Prop}(hh:A.handled=none)(hne:t≠it)(hit:eW s.heap it t ((items.size:Int)-1))(ht:IsTup s.heap t items)(hz:items.size<=sizeLine)
 (hQ:∀s' acc,Moved [it] (λ a b=>b=a) s s'->s.heap.objs.size<=s'.heap.objs.size->ItemsOf (λ i v=>items[items.size-1-i]?=some v) acc items.size->Q acc.toList s'):wpAny (model prog w) A (collect (.ref it)) Q E s:=by
 have W:=(Walks.Od (prog:=prog) (w:=w) (A:=A.in1) hh it t hne items hz).toS;have hI:it<s.heap.objs.size:=let⟨o,ho,_⟩:=hit;TN ho
 have hfp:∀b∈[it,t],b<s.heap.objs.size:=λ b hb=>by
  simp at hb;rcases hb with rfl|rfl
  . exact hI
  . exact ht.lt
 have hSf:s.heap.objs.size∉[it,t]:=λ hm=>Vl _ (hfp _ hm);have hSI:s.heap.objs.size≠it:=λ e=>hSf (e▸by simp);have hst:(0<=items.size/\eW s.heap it t ((items.size:Int)-1-((0:Nat):Int))/\IsTup s.heap t items):=⟨T4 _,by rw[show(items.size:Int)-1-((0:Nat):Int)=(items.size:Int)-1 by omega];exact hit,ht⟩
 have hf:(items.size:Int)<2^63:=by rw[V1]at hz;omega
 unfold collect;refine Tr (wpAny_runValue (X8 F.entry_proto_collect ?_));rw[Xb F.plain_proto_collect _];show wpAny _ A.in1 (newList [] >>= λ l=>again (.builtin "list.__iadd__" ⟨[l,.ref it],[]⟩)) _ _ s;refine Tr (UP ?_);refine TH ⟨Xx F.plain_list_iadd _,X8 F.entry_list_iadd ?_⟩;rw[Xb F.plain_list_iadd _];have hst₁:=W.frame 0 s (s.heap.push {cls:= .type "list",data:= .seq ([]:List Value).toArray}) s.toks hst (Tu _) λ b _ o e=>Tz _ e;have hit₁:eW (s.heap.push {cls:= .type "list",data:= .seq ([]:List Value).toArray}) it t ((items.size:Int)-1):=hit.at λ o e=>Tz _ e;have ht₁:IsTup (s.heap.push {cls:= .type "list",data:= .seq ([]:List Value).toArray}) t items:=ht.push _;have hT₁:({s with heap:=s.heap.push {cls:= .type "list",data:= .seq ([]:List Value).toArray}}:Shared).TypeIs (.ref it) "reversed":=hit₁.typeIs (s:={s with heap:=s.heap.push {cls:= .type "list",data:= .seq ([]:List Value).toArray}});show wpAny _ A.in1 (Builtin.List.listExtendWith (.ref s.heap.objs.size) (.ref it) (.ref s.heap.objs.size)) _ _ _;unfold Builtin.List.listExtendWith;refine Tr (W3 hT₁ ?_);have h1':Builtin.List.listSameRef (.ref s.heap.objs.size) (.ref it)=false:=by simp[Builtin.List.listSameRef,hSI]
 rw[Tv (by rw[h1'];decide)];refine Tr (W.self 0 _ _ _ hst₁ ?_);refine Tr (VI ?_);unfold Builtin.List.listLengthHint;refine Tr (Wy hT₁ RF.GH ?_);show wpAny _ A.in1 (specialOf (Value.ref it) (Str.ofString "__length_hint__") >>= _) _ _ _;refine Tr (Wy hT₁ RF.md.lookup ?_)
 (generalize E2:("reversed.__length_hint__":String)=id0;(fail_if_success (clear E2 id0));wp_delta;rw[show splitId id0=some ("reversed","__length_hint__")from by subst E2;decide+kernel];subst E2)
 refine Tr (Wo (b:=true) hT₁ (by rw[Wj];kernel_rfl) ?_);show wpAny _ A.in1 (rule "list.length-hint.hint" >>= _) _ _ _;refine Tr (V7 ?_);refine Tr (Vq (RF.md.bind _) ?_);try dsimp only
 refine Tr (VZ (yU (s:={s with heap:=s.heap.push {cls:= .type "list",data:= .seq ([]:List Value).toArray}}) hit₁ ht₁ hf λ u tk htk=>?_));show wpAny _ A.in1 (asInt? (.int (items.size:Int) u) >>= _) _ _ _;rw[L9,pure_bind];dsimp only
 have hfi:Builtin.List.listFitsIndex (items.size:Int)=true:=by
  unfold Builtin.List.listFitsIndex;rw[Ul (show-(2^63:Int)<=(items.size:Int) by omega),Ul hf];rfl
 rw[hfi];rw[Tv (by decide)];rw[Tv (by omega)];have htl:Builtin.List.listTooLong (items.size:Int).toNat=false:=by rw[TZ];exact T6 (Nat.not_lt.mpr hz)
 rw[htl];rw[Tv Uo];have hS₁:(s.heap.push {cls:= .type "list",data:= .seq ([]:List Value).toArray}).get? s.heap.objs.size=some {cls:= .type "list",data:= .seq ([]:List Value).toArray}:=TX _ rfl;by_cases h0:items.size=0
 . have hne0:((items.size:Int) != 0)=false:=by rw[h0];rfl
   rw[hne0];refine TH ?_;show wpAny _ A.in1 (again (.builtin "list.extend.loop" ⟨[.ref s.heap.objs.size,.ref it,.ref s.heap.objs.size],[]⟩)) _ _ _
   refine TH ⟨Xx F.plain_extend_loop _,codeAny_extend_loopS W hz _ hSf _ items.size 0 _ _ _ rfl (T4 _)
    (W.frame 0 ({s with heap:=s.heap.push {cls:= .type "list",data:= .seq ([]:List Value).toArray}}:Shared) _ tk hst₁ htk λ b hb o e=>e) hS₁ (ItemsOf.nil _) λ s' acc' c' hm hS' hacc=>?_⟩
   show wpAny _ A (load s.heap.objs.size >>= _) _ _ s';refine Tr (wpAny_load hS' ?_);exact TH (hQ s' acc' (Moved.drop_new (o:={cls:= .type "list",data:= .seq ([]:List Value).toArray}) (tk:=s.toks) (Moved.trans W.gtrans ((Moved.refl (G:=λ a b=>b=a) (λ _=>rfl)).then_heap (by first|exact htk|exact Tu _|exact Xj _|omega) λ b o hb e=>e) hm) (Tu _)) (UO (TN hS')) hacc)
 have hne0:((items.size:Int) != 0)=true:=W6.mpr (by omega);rw[hne0];refine TH ?_
 show wpAny _ A.in1 (rule "list.extend.makes-room" >>= λ _=>Builtin.List.listTouch (.ref s.heap.objs.size) >>= λ _=>
  again (.builtin "list.extend.loop" ⟨[.ref s.heap.objs.size,.ref it,.ref s.heap.objs.size],[]⟩)) _ _ _
 refine Tr (V7 ?_);refine Tr ?_;show wpAny _ A.in1 (updateSeq s.heap.objs.size (·.push .none) >>= λ _=>updateSeq s.heap.objs.size (·.pop)) _ _ _;refine Hf (s:={s with heap:=s.heap.push {cls:= .type "list",data:= .seq ([]:List Value).toArray},toks:=tk}) hS₁ λ h' c hS₃ oth=>?_
 refine TH ⟨Xx F.plain_extend_loop _,codeAny_extend_loopS W hz _ hSf _ items.size 0 _ _ _ rfl (T4 _)
  (W.frame 0 ({s with heap:=s.heap.push {cls:= .type "list",data:= .seq ([]:List Value).toArray}}:Shared) _ tk hst₁ htk λ b hb o e=>oth b o (λ h=>hSf (h▸hb)) e) hS₃ (ItemsOf.nil _) λ s' acc' c' hm hS' hacc=>?_⟩
 show wpAny _ A (load s.heap.objs.size >>= _) _ _ s';refine Tr (wpAny_load hS' ?_);refine TH (hQ s' acc' (Moved.drop_new (o:={cls:= .type "list",data:= .seq ([]:List Value).toArray}) (tk:=s.toks) (Moved.trans W.gtrans ((Moved.refl (G:=λ a b=>b=a) (λ _=>rfl)).then_heap (by first|exact htk|exact Tu _|exact Xj _|omega) λ b o hb e=>?_) hm) (Tu _)) (UO (TN hS')) hacc);exact oth b o (λ h=>hb (h▸Ua)) e
theorem rM{it t:Addr}{items:Array Value}{Q₁:Value->Shared->Prop}(hh:A.handled=none)(hne:t≠it)(hit:eW s.heap it t ((items.size:Int)-1))(ht:IsTup s.heap t items)(hz:items.size<=sizeLine)
 (h:∀s' acc,Moved [it] (λ a b=>b=a) s s'->s.heap.objs.size<=s'.heap.objs.size->ItemsOf (λ i v=>items[items.size-1-i]?=some v) acc items.size->Q₁ (.ref s'.heap.objs.size) {s' with heap:=s'.heap.push {cls:= .type "tuple",data:= .seq acc}}):
 codeAny (model prog w) A (.call (.builtin "tuple.__new__") ⟨[.type "tuple",.ref it],[]⟩) (wants Q₁ E) s:=by
 refine codeAny_of_tree ?_;show wpAny _ A.in1 (do checkBuiltinCall "tuple.__new__" ⟨[.type "tuple",.ref it],[]⟩;again (.builtin "tuple.__new__" ⟨[.type "tuple",.ref it],[]⟩)) _ _ s;refine Tr (Vq (F.newCall_tuple_1 _) (TH ⟨Xx F.plain_tuple_new _,X8 F.entry_tuple_new ?_⟩));rw[Xb F.plain_tuple_new _];have hsub:=sub_tuple_self;have hinit:=init_tuple_lookup;have hmh:=madeHere_tuple;have hTI:=hit.typeIs
 wp_walk using W3 hTI,B9 (A:=A.in1) hh hne hit ht hz
 intro s' acc hm hsz hacc;show wpAny _ _ (Builtin.Tuple.tupleExact acc.toList.toArray >>= λ v=>ret v) _ _ _;unfold Builtin.Tuple.tupleExact;refine Tr (UP ?_ (by show acc.toList.toArray.size<=sizeLine;simp only[Array.toArray_toList];rw[hacc.1];exact hz));refine TH ?_;have e:acc.toList.toArray=acc:=by simp
 rw[e];exact h s' acc hm hsz hacc
theorem xw{it t:Addr}{items:Array Value}{Q:Value->Shared->Prop}(hh:A.handled=none)(hne:t≠it)(hit:eW s.heap it t ((items.size:Int)-1))(ht:IsTup s.heap t items)(hz:items.size<=sizeLine)
 (hQ:∀s' acc,Moved [it] (λ a b=>b=a) s s'->s.heap.objs.size<=s'.heap.objs.size->ItemsOf (λ i v=>items[items.size-1-i]?=some v) acc items.size->Q (.ref s'.heap.objs.size) {s' with heap:=s'.heap.push {cls:= .type "tuple",data:= .seq acc}}):
 wpAny (model prog w) A (call (.type "tuple") [.ref it]) Q E s:=by
 refine callType_codes (Q₁:=λ obj s₁=>s₁.TypeIs obj "tuple"/\Q obj s₁) Yn (F.typeCall_tuple_1 _) F.entry_object_init
  (rM (A:=A.in1) hh hne hit ht hz λ s' acc hm hsz hacc=>⟨⟨_,TX _ rfl,rfl⟩,hQ s' acc hm hsz hacc⟩) λ obj s₁ h₁=>?_
 exact⟨h₁.1,W_ obj _,object_init_meets Yn.init.lookup Yn.made (by decide) prog w A.in1 _ s₁ ⟨h₁.1,rfl,h₁.2⟩⟩
end
section
variable {X:Cx}{tg:Expr}
end
def Q9(K:PySem.W.Frag)(ta:TA):TE:=λ σ H Q=>ta σ H λ vs H1=>∃a xs,vs=[.ref a]/\ie K H1 a xs/\∀l,H1 l=none->Q (.ref l) (upd H1 l (.tup xs.reverse))
theorem Iy:bootBuiltins "tuple"=some (.type "tuple"):=by decide+kernel
theorem ql{A B:Type}{F:A->B->Prop}:∀ {xs:List A} {ys:List B},Paired F xs ys->Paired F xs.reverse ys.reverse
 |_,_,.nil=> .nil
 |_,_,.cons r t=>by rw[List.reverse_cons,List.reverse_cons];exact vg (ql t) (.cons r .nil)
theorem FQ{ai:List Value}{acc:Array Value}(h:ItemsOf (λ i v=>ai.toArray[ai.toArray.size-1-i]?=some v) acc ai.toArray.size):acc=ai.reverse.toArray:=by
 have h1:acc.size=ai.length:=by have:=h.1;simpa using this
 apply Array.ext
 . simp[h1]
 . intro i hi hi2;have:ai.toArray[ai.toArray.size-1-i]?=some acc[i]:=h.2 i acc[i] (by simp[hi]);have e:ai.toArray[ai.toArray.size-1-i]?=ai[ai.length-1-i]?:=by simp
   rw[e]at this;have h3:ai[ai.length-1-i]?=ai.reverse[i]?:=(List.getElem?_reverse (by omega)).symm;rw[h3]at this;have h4:=(Tt.mp this).2;simpa using h4.symm
section
variable {X:Cx}
theorem PV{a:Expr}{ta:TA}{p pos p2 pos2:Pos}(hg:Gl X "tuple")(hm:X.mg "tuple"=none)(hg2:Gl X "reversed")(hm2:X.mg "reversed"=none)(ha:PA X [a] ta)(hc:X.calm=true)(hs:starEach [a] X.env=[(false,eval a X.env)]:=by rfl)
 (hs2:starEach [.Call (.Name "reversed" p2) [a] [] pos2] X.env=[(false,eval (.Call (.Name "reversed" p2) [a] [] pos2) X.env)]:=by rfl):PE X (.Call (.Name "tuple" p) [.Call (.Name "reversed" p2) [a] [] pos2] [] pos) (Q9 X.K ta):=by
 intro pins s σ H Q I h;refine Call_ (jv I hg hm Iy (US ?_ hs2 rfl));rw[hs2];show wpAny _ _ (spliced [(false,eval (.Call (.Name "reversed" p2) [a] [] pos2) X.env)]) _ _ s;refine Calls.spliced_cons ?_;refine Call_ (jv I hg2 hm2 IG (US (bP (ha pos2 pins s σ H _ I h) λ us s1 ⟨vs,H1,I1,r1,q1⟩=>?_) hs rfl));obtain⟨a,xs,e,hq,q⟩:=q1;subst e;cases r1 with
 |cons r rr=>
  cases rr;cases r;obtain⟨ai,rv,p,hz⟩:=I1.tuple hq;have hl:=rv.length;have hz1:ai.toArray.size<=sizeLine:=by simp only[TL];rw[<-hl];exact hz
  have hz2:ai.length<2^63:=by rw[V1]at hz;omega
  have p1:=p.lt;refine tU (items:=ai.toArray) p (by simp;omega) (Calls.spliced_nil ?_);have hit:eW (s1.heap.push (AI a ((ai.toArray.size:Int)-1))) s1.heap.objs.size a ((ai.toArray.size:Int)-1):=⟨_,TX _ rfl,rfl,rfl⟩
  refine xw (s:={s1 with heap:=s1.heap.push (AI a ((ai.toArray.size:Int)-1)),toks:=s1.toks+1+1}) (I1.ok.hd hc) (Ue p1) hit (p.push _) hz1 λ s' acc hm' hsz hacc=>?_;obtain⟨hp',g',d',t',os'⟩:=s';have e1:g'=s1.gens:=hm'.gens;have e2:d'=s1.drawn:=hm'.drawn;have e3:os'=s1.os:=hm'.os;subst e1 e2 e3;have ea:=FQ hacc;subst ea
  have hsz1:s1.heap.objs.size<=hp'.objs.size:=by
   have:(s1.heap.push (AI a ((ai.toArray.size:Int)-1))).objs.size<=hp'.objs.size:=hsz;obtain⟨o,ho,_⟩:=hit;exact TB (UO (TN ho)) this
  refine⟨.ref _,_,I1.laid (t':=t') (h':=hp'.push {cls:= .type "tuple",data:= .seq ai.reverse.toArray}) (a:=hp'.objs.size) (λ b o e=>?_) hsz1 (show c_ X.prog X.w _ _ _ (.tup xs.reverse)from⟨by rw[List.length_reverse];exact hz,ai.reverse,ql rv,XX _ _⟩),rfl,q _ (I1.aF.fresh hsz1)⟩;have hb:=TN e
  exact Tz _ (hm'.heap b o (λ hb'=>by
   have e5:b=s1.heap.objs.size:=by simpa using hb'
   rw[e5]at hb;exact Vl _ hb) (Tz _ e))
end
def SG(ds:List D)(st:ae)(K:DK):Prop:=match ds with
 | [.tup xs]=>K (.tup xs.reverse) st
 |_=>False
@[irreducible] def CC:eO:=SG
theorem Hw{α:List (Option Addr)}{G:Hp}{ds:List D}{vs:List V}(h:aD α G ds vs):aD α G ds.reverse vs.reverse:=a8.mpr (ql (a8.mp h))
theorem Su{X:Cx}{a:Expr}{t:DA}{p pos p2 pos2:Pos}(h:PE X (.Call (.Name "tuple" p) [.Call (.Name "reversed" p2) [a] [] pos2] [] pos) (Q9 X.K (LA t))):PE X (.Call (.Name "tuple" p) [.Call (.Name "reversed" p2) [a] [] pos2] [] pos) (LE (a9 CC t)):=PE.imp h λ σ H Q ⟨α,σd,st,K,G,F,P,RS,S,t,k⟩=>by
 refine⟨α,σd,st,_,G,F,P,RS,S,t,λ ds st1 q α1 G1 H1 vs s1 P1 S1 r1=>?_⟩;unfold CC at q;match ds,q,r1 with
 | [.tup xs],q,r1=>
   obtain⟨v,rfl,r2⟩:=gh r1 rfl;unfold Rep at r2;obtain⟨a,vs,rfl,na,ha,ra⟩:=r2;have hl:=ra.length;exact⟨a,vs,rfl,.of (P1.get ha),λ l hl=>(k.at s1).tup P1 q S1 (Hw ra) hl⟩
theorem Qe{st:ae}{xs:List D}{K:DK}(h:0<=xs.length)(k:K (.tup xs.reverse) st):CC [.tup xs] st K:=by unfold CC;exact k
theorem Ow{X:Cx}{a:Expr}{p pos p2 pos2:Pos}{ar:DA}(hg:Gl X "tuple")(hm:X.mg "tuple"=none)(hg2:Gl X "reversed")(hm2:X.mg "reversed"=none)(ha:JA X [a] ar)(hc:X.calm=true:=by rfl)(hs:notStar a=true:=by rfl):JE X (.Call (.Name "tuple" p) [.Call (.Name "reversed" p2) [a] [] pos2] [] pos) (a9 CC ar):=by
 unfold JE;unfold JA at ha;exact Su (PV hg hm hg2 hm2 ha hc (cD hs) (cD rfl))
end L3
namespace L3
open PySem L2
open PySem.Spec hiding items?
open PyProof.Rows hiding St
section
variable {X:Cx}
end
section
variable {X:Cx}{pos:Pos}
def pw(i j k l m:Nat):ef:=λ d σ=>match d with
 | .tup [x,y,z,u,v]=>some (((((σ.set i (some x)).set j (some y)).set k (some z)).set l (some u)).set m (some v))
 | .lst [x,y,z,u,v]=>some (((((σ.set i (some x)).set j (some y)).set k (some z)).set l (some u)).set m (some v))
 |_=>none
theorem HK{tg:Expr}{i j k l m:Nat}(h:PG X tg (Rh (Of 5 (ff (dA i) (ff (dA j) (ff (dA k) (ff (dA l) (ff (dA m) xf)))))) (EC X.K 5 (ff (dA i) (ff (dA j) (ff (dA k) (ff (dA l) (ff (dA m) xf)))))))):PG X tg (LG (pw i j k l m)):=PG.imp h λ v σ H Q ⟨α,σd,st,d,K,G,F,P,R,S,r,⟨σ',e,q⟩,kk⟩=>by
 unfold pw at e;split at e
 . cases e;unfold Rep at r;obtain⟨a,vs,rfl,na,h1,h2⟩:=r;obtain⟨v1,v2,v3,v4,v5,rfl,r1,r2,r3,r4,r5⟩:=DX h2 rfl;exact .inr ⟨a,_,rfl,.of (P.get h1),rfl,v1,_,rfl,v2,_,rfl,v3,_,rfl,v4,_,rfl,v5,_,rfl,rfl,kk.here P q (((((R.set i r1).set j r2).set k r3).set l r4).set m r5) S⟩
 . cases e;unfold Rep at r;obtain⟨a,vs,rfl,na,h1,h2⟩:=r;obtain⟨v1,v2,v3,v4,v5,rfl,r1,r2,r3,r4,r5⟩:=DX h2 rfl;exact .inl ⟨a,_,rfl,fH P h1,rfl,v1,_,rfl,v2,_,rfl,v3,_,rfl,v4,_,rfl,v5,_,rfl,rfl,kk.here P q (((((R.set i r1).set j r2).set k r3).set l r4).set m r5) S⟩
 . cases e
theorem O4{i j k l m n:Nat}{x y z u v:Str}{px py pz pu pv:Pos}(hc:X.calm=true)(hN:X.N.Nodup)(hx:Loc X.env.scope x:=by first|exact Or.inl rfl|exact Or.inr rfl)(hf:X.fn x=true\/X.env.scope.names.lookup x=some .local:=by first|exact .inl rfl|exact .inr rfl)(hy:Loc X.env.scope y:=by first|exact Or.inl rfl|exact Or.inr rfl)(hg:X.fn y=true\/X.env.scope.names.lookup y=some .local:=by first|exact .inl rfl|exact .inr rfl)(hz:Loc X.env.scope z:=by first|exact Or.inl rfl|exact Or.inr rfl)(hh:X.fn z=true\/X.env.scope.names.lookup z=some .local:=by first|exact .inl rfl|exact .inr rfl)(hu:Loc X.env.scope u)(hp:X.fn u=true\/X.env.scope.names.lookup u=some .local)(hv:Loc X.env.scope v)(hq:X.fn v=true\/X.env.scope.names.lookup v=some .local)
 (hi:X.N[i]?=some x:=by rfl) (hj:X.N[j]?=some y:=by rfl) (hk:X.N[k]?=some z:=by rfl) (hl:X.N[l]?=some u:=by rfl) (hm:X.N[m]?=some v:=by rfl):JG X (.Tuple [.Name x px,.Name y py,.Name z pz,.Name u pu,.Name v pv] n pos) (pw i j k l m):=by
 have g:Bm X [.Name x px,.Name y py,.Name z pz,.Name u pu,.Name v pv] _:=dS (fA hN hi hx hf) (dS (fA hN hj hy hg) (dS (fA hN hk hz hh) (dS (fA hN hl hu hp) (dS (fA hN hm hv hq) sX))));unfold JG;exact HK (Qv (Nm hc g) (vJ hc g))
end
section
variable {X:Cx}
end
section
variable {X:Cx}{sc:Scope}{N gl:List Str}{x:Str}{pos:Pos}
theorem VS.lM(V:VS sc N gl)(h:N.contains x=true:=by decide+kernel):Loc sc x:=by
 obtain⟨i,hi,e⟩:=UG.mp (Yo.mp h);exact V.l i (by rw[TM hi,e])
theorem VS.gM(V:VS sc N gl)(h:gl.contains x=true:=by decide+kernel):sc.names.lookup x=some .globalImplicit:=by
 obtain⟨i,hi,e⟩:=UG.mp (Yo.mp h);exact V.g i (by rw[TM hi,e])
def NV(N P:List Str)(sc:Scope):Bool:=(sc.kind== .function)&& !sc.isCoroutine&& !sc.isGenerator&&decide N.Nodup&&(N.take P.length==P)&&P.all (λ x=>sc.names.lookup x==some .local||sc.names.lookup x==some .cell)&&sc.names.all λ y=>y.2 != .free
structure VF(s:Stmt)(N P gl:List Str):Prop where
 v:VS (bE s) N gl
 sc:kM N P (bE s)
theorem VF.of{s:Stmt}{N P gl:List Str}(h:(EE (bE s) N gl&&NV N P (bE s))=true):VF s N P gl:=by
 obtain⟨h1,h2⟩:=Xa.mp h;unfold NV at h2;simp only[Ub,VN,Bool.not_eq_true',XD,Um,W7,W6,ne_eq]at h2;obtain⟨⟨⟨⟨⟨⟨a,b⟩,c⟩,d⟩,e⟩,f⟩,g⟩:=h2;exact⟨⟨h1⟩,a,b,c,d,e,f,g⟩
def Sg:Expr->List Str
 | .Name x _=>[x]
 | .Tuple [.Name x _,.Name y _] _ _=>[x,y]
 | .Tuple [.Name x _,.Name y _,.Name z _] _ _=>[x,y,z]
 | .Tuple [.Tuple [.Name x _,.Name y _] _ _,.Name z _] _ _=>[x,y,z]
 |_=>[]
def mr(tg:Expr)(fr:List (Option Nat))(N:List Str):List Str:=Sg tg++(fr.filterMap id).map λ k=>N.getD k ""
variable {scope:Scope}{elt tg iter:Expr}{ifs:List Expr}{src:DI}{fr:List (Option Nat)}{dtg:ef}{t:DT}{te:DE}{pos' p:Pos}
theorem KQ(V:VS sc N gl)(h:ny sc N scope (mr tg fr N) fr=true)(hi:JI X tg iter src)(hg:∀C s H ex,JG (cn X scope (mr tg fr N) C s H ex) tg dtg)(ht:∀C s H ex,JC (cn X scope (mr tg fr N) C s H ex) ifs t)(he:∀C s H ex,JE (cn X scope (mr tg fr N) C s H ex) elt te)(fit:nM fr dtg)(hsc:X.env.scope=sc:=by rfl)(hN:X.N=N:=by rfl)
 (hx:X.xe=λ _ _=>False:=by rfl) (hc:X.calm=true:=by rfl) (hs:∀x,foldedSetIterable iter X.env x=pure x:=by intro _;rfl):JE X (.ListComp elt [⟨tg,iter,ifs,0⟩] scope pos) (cj src fr dtg t te):=Fh (cT.look sc N h hsc hN) hi hg ht he fit hx hc hs
theorem Fo{k:Nat}(V:VS sc N gl)(hn:X.N.Nodup)(hl:Loc X.env.scope x)(h:ny sc N scope (mr tg fr N) fr=true)(hi:JI X tg iter src)(hg:∀C s H ex,JG (cn X scope (mr tg fr N) C s H ex) tg dtg)(ht:∀C s H ex,JC (cn X scope (mr tg fr N) C s H ex) ifs t)(he:∀C s H ex,JE (cn X scope (mr tg fr N) C s H ex) elt te)(fit:nM fr dtg)(hsc:X.env.scope=sc:=by rfl)(hN:X.N=N:=by rfl)
 (hf:X.fn x=true\/X.env.scope.names.lookup x=some .local:=by first|exact .inl rfl|exact .inr rfl) (hsw:swapsWith (.ListComp elt [⟨tg,iter,ifs,0⟩] scope p) (some (.Name x pos')) pos.line X.env=pure true:=by rfl) (hni:X.N[k]?=some x:=by rfl) (hx:X.xe=λ _ _=>False:=by rfl) (hc:X.calm=true:=by rfl) (hs:∀x,foldedSetIterable iter X.env x=pure x:=by intro _;rfl):
 JS X (.Assign [.Name x pos'] (.ListComp elt [⟨tg,iter,ifs,0⟩] scope p) pos) (bJ k (jq src fr dtg t te)):=Ig hn hl (cT.look sc N h hsc hN) hi hg ht he fit hf hsw hni hx hc hs
variable {X0:Cx}{scope0:Scope}{Nc:List Str}{C:Addr}{s:Shared}{H:Hp}{ex:List Addr}
theorem Mc(h:ny scope0 Nc scope (mr tg fr Nc) fr=true)(hi:JI (cn X0 scope0 Nc C s H ex) tg iter src)(hg:∀C' s' H' ex',JG (cn (cn X0 scope0 Nc C s H ex) scope (mr tg fr Nc) C' s' H' ex') tg dtg)(ht:∀C' s' H' ex',JC (cn (cn X0 scope0 Nc C s H ex) scope (mr tg fr Nc) C' s' H' ex') ifs t)(he:∀C' s' H' ex',JE (cn (cn X0 scope0 Nc C s H ex) scope (mr tg fr Nc) C' s' H' ex') elt te)(fit:nM fr dtg)
 (hx:(cn X0 scope0 Nc C s H ex).xe=λ _ _=>False:=by rfl) (hc:(cn X0 scope0 Nc C s H ex).calm=true:=by rfl) (hs:∀x,foldedSetIterable iter (cn X0 scope0 Nc C s H ex).env x=pure x:=by intro _;rfl):JE (cn X0 scope0 Nc C s H ex) (.ListComp elt [⟨tg,iter,ifs,0⟩] scope pos) (cj src fr dtg t te):=Fh (cT.Qi h) hi hg ht he fit hx hc hs
theorem PL{k:Nat}(hn:Nc.Nodup:=by decide+kernel)(hx:Loc (cn X0 scope0 Nc C s H ex).env.scope x:=by first|exact Or.inl rfl|exact Or.inr rfl)(hf:(cn X0 scope0 Nc C s H ex).fn x=true\/(cn X0 scope0 Nc C s H ex).env.scope.names.lookup x=some .local:=by first|exact .inl rfl|exact .inr rfl)(hi:Nc[k]?=some x:=by rfl):JG (cn X0 scope0 Nc C s H ex) (.Name x pos) (aK k):=oH hn hx hf hi
theorem NS{k j n:Nat}{y:Str}{px py:Pos}(hn:Nc.Nodup:=by decide+kernel)(hx:Loc (cn X0 scope0 Nc C s H ex).env.scope x:=by first|exact Or.inl rfl|exact Or.inr rfl)(hf:(cn X0 scope0 Nc C s H ex).fn x=true\/(cn X0 scope0 Nc C s H ex).env.scope.names.lookup x=some .local:=by first|exact .inl rfl|exact .inr rfl)(hy:Loc (cn X0 scope0 Nc C s H ex).env.scope y:=by first|exact Or.inl rfl|exact Or.inr rfl)(hg:(cn X0 scope0 Nc C s H ex).fn y=true\/(cn X0 scope0 Nc C s H ex).env.scope.names.lookup y=some .local:=by first|exact .inl rfl|exact .inr rfl)(hi:Nc[k]?=some x:=by rfl)(hj:Nc[j]?=some y:=by rfl)(hc:(cn X0 scope0 Nc C s H ex).calm=true:=by rfl):JG (cn X0 scope0 Nc C s H ex) (.Tuple [.Name x px,.Name y py] n pos) (gO k j):=Jx hc hn hx hf hy hg hi hj
theorem VS.loc(V:VS sc N gl)(h:sc.names.lookup x=some .local:=by decide+kernel):sc.names.lookup x=some .local:=h
end
end L3
namespace Mx
def S:Nat->(Nat->Int)->Int
 |0,_=>0
 |n+1,f=>S n f+f n
theorem aC{n:Nat}{f g:Nat->Int}(h:∀i,i<n->f i=g i):S n f=S n g:=by
 induction n with
 |zero=>rfl
 |succ n ih=>unfold S;rw[ih λ i hi=>h i (by omega),h n (by omega)]
theorem gG{n:Nat}{f:Nat->Int}(h:∀i,i<n->f i=0):S n f=0:=by
 induction n with
 |zero=>rfl
 |succ n ih=>unfold S;rw[ih λ i hi=>h i (by omega),h n (by omega)];rfl
theorem fZ(n:Nat)(f g:Nat->Int):S n (λ i=>f i+g i)=S n f+S n g:=by
 induction n with
 |zero=>rfl
 |succ n ih=>unfold S;rw[ih];dsimp only;omega
theorem dU(n:Nat)(c:Int)(f:Nat->Int):S n (λ i=>c*f i)=c*S n f:=by
 induction n with
 |zero=>unfold S;rw[TR]
 |succ n ih=>unfold S;rw[ih,Int.mul_add]
theorem sf(n:Nat)(c:Int)(f:Nat->Int):S n (λ i=>f i*c)=S n f*c:=by
 induction n with
 |zero=>unfold S;rw[UW]
 |succ n ih=>unfold S;rw[ih,Int.add_mul]
theorem vq(n:Nat)(f:Nat->Int):S n (λ i=> -f i)= -S n f:=by
 induction n with
 |zero=>rfl
 |succ n ih=>unfold S;rw[ih];dsimp only;omega
theorem oW(m n:Nat)(f:Nat->Nat->Int):S m (λ i=>S n λ j=>f i j)=S n λ j=>S m λ i=>f i j:=by
 induction m with
 |zero=>exact(gG (n:=n) (λ i _=>rfl)).symm
 |succ m ih=>
  have:S n (λ j=>S (m+1) λ i=>f i j)=S n λ j=>(S m λ i=>f i j)+f m j:=aC λ j _=>rfl;rw[this,fZ,<-ih];rfl
theorem i3{n:Nat}{k:Nat}(hk:k<n){f:Nat->Int}(h:∀i,i<n->i≠k->f i=0):S n f=f k:=by
 induction n with
 |zero=>omega
 |succ n ih=>
  unfold S;by_cases e:k=n
  . subst e;rw[gG λ i hi=>h i (by omega) (by omega),VV]
  . rw[ih (by omega) λ i hi hn=>h i (by omega) hn,h n (by omega) (by omega),Vr]
theorem Ba(n:Nat)(f:Nat->Int):S (n+1) f=f 0+S n λ i=>f (i+1):=by
 induction n with
 |zero=>unfold S S;omega
 |succ n ih=>
  have:S (n+1+1) f=S (n+1) f+f (n+1):=rfl;rw[this,ih];have:S (n+1) (λ i=>f (i+1))=S n (λ i=>f (i+1))+f (n+1):=rfl;rw[this];omega
def dl(i j:Nat):Int:=if i=j then 1 else 0
theorem bx(i:Nat):dl i i=1:=TC rfl
theorem bq{i j:Nat}(h:i≠j):dl i j=0:=Tv h
theorem lS{n k:Nat}(hk:k<n)(f:Nat->Int):S n (λ i=>dl k i*f i)=f k:=by
 rw[i3 hk (λ i _ h=>by rw[bq (TK h),UW]),bx,Xk]
theorem jt{n k:Nat}(hk:k<n)(f:Nat->Int):S n (λ i=>f i*dl i k)=f k:=by
 rw[i3 hk (λ i _ h=>by rw[bq h,TR]),bx,U_]
abbrev Row:=List Int
abbrev Rows:=List (List Int)
def g(A:Rows)(i j:Nat):Int:=(A.getD i []).getD j 0
structure aP(m n:Nat)(A:Rows):Prop where
 len:A.length=m
 fw:∀r∈A,r.length=n
theorem aJ{α:Type}{l:List α}{i:Nat}{d:α}(h:i<l.length):l.getD i d=l[i]:=by
 rw[Ug,TM h];rfl
theorem kW{α:Type}{l:List α}{i:Nat}{d:α}(h:l.length<=i):l.getD i d=d:=by
 rw[Ug,Yl h];rfl
theorem CD{a b:Row}{n:Nat}(ha:a.length=n)(hb:b.length=n)(h:∀j,j<n->a.getD j 0=b.getD j 0):a=b:=by
 refine List.ext_getElem (by omega) λ i h1 h2=>?_;have:=h i (by omega);rwa [aJ h1,aJ h2]at this
theorem aP.row{m n:Nat}{A:Rows}(h:aP m n A){i:Nat}(hi:i<m):(A.getD i []).length=n:=by
 have hl:=h.len;rw[aJ (by omega)];exact h.fw _ (Vf _)
theorem aP.ext{m n:Nat}{A B:Rows}(ha:aP m n A)(hb:aP m n B)(h:∀i j,i<m->j<n->g A i j=g B i j):A=B:=by
 have h1:=ha.len;have h2:=hb.len;refine List.ext_getElem (by omega) λ i hi hj=>?_;have e1:=ha.row (i:=i) (by omega);have e2:=hb.row (i:=i) (by omega);have:=CD e1 e2 λ j hj=>h i j (by omega) hj;rwa [aJ hi,aJ hj]at this
def gN(r:Row)(t:Int)(s:Row):Row:=List.zipWith (λ a b=>a+t*b) r s
theorem qc{r s:Row}{t:Int}(h:r.length=s.length):(gN r t s).length=r.length:=by unfold gN;simp[h]
theorem Dc{r s:Row}{t:Int}(h:r.length=s.length)(j:Nat):(gN r t s).getD j 0=r.getD j 0+t*s.getD j 0:=by
 unfold gN;by_cases hj:j<r.length
 . rw[aJ (by simp;omega),aJ hj,aJ (by omega)];simp
 . rw[kW (by simp;omega),kW (by omega),kW (by omega)];simp
def fO:Row->Rows->Row->Row
 |w::ws,r::rs,acc=>fO ws rs (gN acc w r)
 |_,_,acc=>acc
theorem xV{n:Nat}:∀ {ws:Row} {rs:Rows} {acc:Row},acc.length=n->(∀r∈rs,r.length=n)->(fO ws rs acc).length=n
 | [],_,acc,h,_=>by unfold fO;exact h
 |_::_,[],acc,h,_=>by unfold fO;exact h
 |w::ws,r::rs,acc,h,hr=>by
  unfold fO;refine xV ?_ λ r hr'=>hr r (TY _ hr');rw[qc (by rw[h,hr r Ua]),h]
theorem Bj{n:Nat}:∀ {ws:Row} {rs:Rows} {acc:Row} (j:Nat),acc.length=n->(∀r∈rs,r.length=n)->ws.length=rs.length->(fO ws rs acc).getD j 0=acc.getD j 0+S rs.length λ k=>ws.getD k 0*g rs k j
 | [],[],acc,j,h,_,_=>by unfold fO;show _=_+(0:Int);rw[Vr]
 | [],_::_,acc,j,h,_,hl=>by cases hl
 |_::_,[],acc,j,h,_,hl=>by cases hl
 |w::ws,r::rs,acc,j,h,hr,hl=>by
  have e1:acc.length=r.length:=by rw[h,hr r Ua]
  unfold fO;rw[Bj j (by rw[qc e1,h]) (λ r hr'=>hr r (TY _ hr')) (by simpa using hl),Dc e1,Uv,Ba]
  have:(λ k=>(w::ws).getD (k+1) 0*g (r::rs) (k+1) j)=λ k=>ws.getD k 0*g rs k j:=by
   funext k;unfold g;simp
  rw[this];unfold g;simp;omega
def mulM(A B:Rows)(n:Nat):Rows:=A.map λ w=>fO w B (List.replicate n 0)
theorem dX(n j:Nat):(List.replicate n (0:Int)).getD j 0=0:=by
 by_cases h:j<n
 . rw[aJ (by simpa using h)];simp
 . rw[kW (by simp;omega)]
theorem bK{m p n:Nat}{A B:Rows}(ha:aP m p A)(hb:aP p n B):aP m n (mulM A B n):=by
 refine⟨by unfold mulM;rw[Tw];exact ha.len,λ r hr=>?_⟩;unfold mulM at hr;obtain⟨w,_,rfl⟩:=T5.mp hr;exact xV (by simp) hb.fw
theorem map_getD{α:Type}{f:Row->List α}{A:Rows}{i:Nat}(h:i<A.length):(A.map f).getD i []=f (A.getD i []):=by
 rw[aJ (by simpa using h),aJ h];simp
theorem d5{m p n:Nat}{A B:Rows}(ha:aP m p A)(hb:aP p n B){i:Nat}(hi:i<m)(j:Nat):g (mulM A B n) i j=S p λ k=>g A i k*g B k j:=by
 have hl:=ha.len;show((mulM A B n).getD i []).getD j 0=_;unfold mulM;rw[map_getD (by omega),Bj (n:=n) j (by simp) hb.fw (by rw[ha.row hi,hb.len]),dX,VV,hb.len];rfl
theorem dY{m p q n:Nat}{A B C:Rows}(ha:aP m p A)(hb:aP p q B)(hc:aP q n C):mulM (mulM A B q) C n=mulM A (mulM B C n) n:=by
 refine(bK (bK ha hb) hc).ext (bK ha (bK hb hc)) λ i j hi hj=>?_;rw[d5 (bK ha hb) hc hi,d5 ha (bK hb hc) hi];have e1:S q (λ k=>g (mulM A B q) i k*g C k j)=S q λ k=>S p λ l=>g A i l*g B l k*g C k j:=aC λ k _=>by rw[d5 ha hb hi,sf]
 have e2:S p (λ l=>g A i l*g (mulM B C n) l j)=S p λ l=>S q λ k=>g A i l*g B l k*g C k j:=aC λ l hl=>by
  rw[d5 hb hc hl,<-dU];exact aC λ k _=>by rw[Vt]
 rw[e1,e2,oW]
def iZ(n i:Nat):Row:=(List.range n).map λ k=>dl k i
def units(n:Nat):Rows:=(List.range n).map λ i=>iZ n i
theorem range_getD{α:Type}{f:Nat->α}{n i:Nat}{d:α}(h:i<n):((List.range n).map f).getD i d=f i:=by
 rw[aJ (by simpa using h)];simp
theorem bI(n:Nat):aP n n (units n):=⟨by simp[units],λ r hr=>by unfold units at hr;obtain⟨i,_,rfl⟩:=T5.mp hr;simp[iZ]⟩
theorem cK{n i j:Nat}(hi:i<n)(hj:j<n):g (units n) i j=dl i j:=by
 unfold g units iZ;rw[range_getD hi,range_getD hj];unfold dl;by_cases h:i=j
 . subst h;rfl
 . rw[Tv (TK h),Tv h]
theorem eF{m n:Nat}{A:Rows}(ha:aP m n A):mulM (units m) A n=A:=
 (bK (bI m) ha).ext ha λ i j hi hj=>by
   rw[d5 (bI m) ha hi];have:S m (λ k=>g (units m) i k*g A k j)=S m λ k=>dl i k*g A k j:=aC λ k hk=>by rw[cK hi hk]
   rw[this,lS hi]
theorem BW{m n:Nat}{A:Rows}(ha:aP m n A):mulM A (units n) n=A:=
 (bK ha (bI n)).ext ha λ i j hi hj=>by
   rw[d5 ha (bI n) hi];have:S n (λ k=>g A i k*g (units n) k j)=S n λ k=>g A i k*dl k j:=aC λ k hk=>by rw[cK hk hj]
   rw[this,jt hj]
def qg(A:Rows)(j:Nat):Row:=A.map λ r=>r.getD j 0
def bG(A:Rows)(n:Nat):Rows:=(List.range n).map λ j=>qg A j
theorem cW{m n:Nat}{A:Rows}(ha:aP m n A):aP n m (bG A n):=⟨by simp[bG],λ r hr=>by
 unfold bG at hr;obtain⟨j,_,rfl⟩:=T5.mp hr;unfold qg;rw[Tw,ha.len]⟩
theorem LP{A:Rows}{i:Nat}(j:Nat)(h:i<A.length):(qg A j).getD i 0=g A i j:=by
 unfold qg g;rw[aJ (by simpa using h),aJ h];simp
theorem cG{m n:Nat}{A:Rows}(ha:aP m n A){i j:Nat}(hi:i<m)(hj:j<n):g (bG A n) j i=g A i j:=by
 show((bG A n).getD j []).getD i 0=_;unfold bG;rw[range_getD hj,LP j (by rw[ha.len];exact hi)]
theorem Mj{m p n:Nat}{A B:Rows}(ha:aP m p A)(hb:aP p n B):bG (mulM A B n) n=mulM (bG B n) (bG A p) m:=
 (cW (bK ha hb)).ext (bK (cW hb) (cW ha)) λ i j hi hj=>by
   rw[cG (bK ha hb) hj hi,d5 ha hb hj,d5 (cW hb) (cW ha) hi];exact aC λ k hk=>by rw[cG hb hk hi,cG ha hj hk,UX]
def N1:Row->Row->Int
 |a::as,b::bs=>a*b+N1 as bs
 |_,_=>0
theorem o_(i j:Nat):dl i j=dl j i:=by
 unfold dl;by_cases h:i=j
 . rw[TC h,TC h.symm]
 . rw[Tv h,Tv (TK h)]
def sw(i j k:Nat):Nat:=if k=i then j else if k=j then i else k
theorem Rx{n i j:Nat}(hi:i<n)(hj:j<n)(hij:i≠j)(f:Nat->Int):S n (λ k=>f (sw i j k))=S n f:=by
 have:S n (λ k=>f (sw i j k))=S n λ k=>f k+(f j-f i)*dl k i+(f i-f j)*dl k j:=aC λ k _=>by
  unfold sw;by_cases h1:k=i
  . subst h1;rw[TC rfl,bx,bq hij];omega
  . rw[Tv h1,bq h1];by_cases h2:k=j
    . subst h2;rw[TC rfl,bx];omega
    . rw[Tv h2,bq h2];omega
 rw[this,fZ,fZ,jt (f:=λ _=>f j-f i) hi,jt (f:=λ _=>f i-f j) hj];omega
abbrev Fn:=Nat->Nat->Int
def sk(j c:Nat):Nat:=if c<j then c else c+1
def sg(j:Nat):Int:=if j%2=0 then 1 else-1
theorem wK(j:Nat):sg (j+1)= -sg j:=by unfold sg;split<;>split<;>omega
theorem De:sg 0=1:=rfl
theorem jZ{j c n:Nat}(h:c<n):sk j c<n+1:=by unfold sk;split<;>omega
theorem Qo{j k c:Nat}(h:k<j):sk j (sk k c)=sk k (sk (j-1) c):=by unfold sk;grind
def D:Nat->Fn->Int
 |0,_=>1
 |n+1,M=>S (n+1) λ j=>sg j*M 0 j*D n λ r c=>M (r+1) (sk j c)
theorem MW(M:Fn):D 0 M=1:=rfl
theorem dJ(n:Nat)(M:Fn):D (n+1) M=S (n+1) λ j=>sg j*M 0 j*D n λ r c=>M (r+1) (sk j c):=rfl
theorem c7:∀ {n:Nat} {M M':Fn},(∀r c,r<n->c<n->M r c=M' r c)->D n M=D n M'
 |0,_,_,_=>rfl
 |n+1,M,M',h=>by
  rw[dJ,dJ];refine aC λ j hj=>?_;have e:D n (λ r c=>M (r+1) (sk j c))=D n (λ r c=>M' (r+1) (sk j c)):=c7 λ r c hr hc=>h (r+1) (sk j c) (by omega) (jZ hc);rw[h 0 j (by omega) hj,e]
theorem Js:∀ {n:Nat} {M P Q:Fn} {a b:Int} {i:Nat},i<n->(∀c,c<n->M i c=a*P i c+b*Q i c)->(∀r c,r<n->c<n->r≠i->M r c=P r c/\M r c=Q r c)->D n M=a*D n P+b*D n Q
 |0,_,_,_,_,_,_,h,_,_=>by omega
 |n+1,M,P,Q,a,b,0,_,h0,h=>by
  rw[dJ,dJ,dJ,<-dU,<-dU,<-fZ];refine aC λ j hj=>?_;have e1:D n (λ r c=>M (r+1) (sk j c))=D n (λ r c=>P (r+1) (sk j c)):=c7 λ r c hr hc=>(h (r+1) (sk j c) (by omega) (jZ hc) (by omega)).1;have e2:D n (λ r c=>M (r+1) (sk j c))=D n (λ r c=>Q (r+1) (sk j c)):=c7 λ r c hr hc=>(h (r+1) (sk j c) (by omega) (jZ hc) (by omega)).2;rw[h0 j hj,<-e1,<-e2];grind
 |n+1,M,P,Q,a,b,i+1,hi,h0,h=>by
  rw[dJ,dJ,dJ,<-dU,<-dU,<-fZ];refine aC λ j hj=>?_;have e:=Js (n:=n) (M:=λ r c=>M (r+1) (sk j c)) (P:=λ r c=>P (r+1) (sk j c)) (Q:=λ r c=>Q (r+1) (sk j c)) (a:=a) (b:=b) (i:=i) (by omega) (λ c hc=>h0 (sk j c) (jZ hc)) λ r c hr hc hne=>h (r+1) (sk j c) (by omega) (jZ hc) (by omega);have p:=h 0 j (by omega) hj (by omega);rw[e,<-p.1,<-p.2];grind
theorem RY{n:Nat}{M:Fn}(h:∀c,c<n+2->M 0 c=M 1 c):D (n+2) M=0:=by
 let T:Nat->Nat->Int:=λ j k=>sg j*M 0 j*(sg k*M 1 (sk j k)*D n λ r c=>M (r+2) (sk j (sk k c)))
 have e1:∀j,j<n+2->sg j*M 0 j*D (n+1) (λ r c=>M (r+1) (sk j c))=S (n+1) λ k=>T j k:=λ j hj=>by
  rw[dJ,<-dU]
 rw[dJ,aC e1]
 have e2:∀j,j<n+2->S (n+1) (λ k=>T j k)=S (n+1) (λ k=>if k<j then T j k else 0)+S (n+1) (λ k=>if k<j then 0 else T j k):=λ j _=>by
  rw[<-fZ];refine aC λ k _=>?_;split<;>omega
 rw[aC e2,fZ]
 have e3:∀j k,j<n+2->k<n+1->¬k<j->T j k= -T (k+1) j:=λ j k hj hk hjk=>by
  have s1:sk (k+1) j=j:=by unfold sk;rw[TC (by omega)]
  have s2:sk j k=k+1:=by unfold sk;rw[Tv hjk]
  have s3:(λ r c=>M (r+2) (sk (k+1) (sk j c)))=λ r c=>M (r+2) (sk j (sk k c)):=by
   funext r c;rw[Qo (show j<k+1 by omega)];rfl
  show sg j*M 0 j*(sg k*M 1 (sk j k)*D n λ r c=>M (r+2) (sk j (sk k c)))= -(sg (k+1)*M 0 (k+1)*(sg j*M 1 (sk (k+1) j)*D n λ r c=>M (r+2) (sk (k+1) (sk j c))));rw[s1,s2,s3,wK,<-h j hj,<-h (k+1) (by omega)];grind
 have e4:S (n+2) (λ j=>S (n+1) λ k=>if k<j then 0 else T j k)= -S (n+2) (λ j=>S (n+1) λ k=>if k<j then T j k else 0):=by
  rw[oW,Ba (n+1) (λ j=>S (n+1) λ k=>if k<j then T j k else 0)];have z:S (n+1) (λ k=>if k<0 then T 0 k else 0)=0:=gG λ k _=>Tv (by omega);rw[z,VV,<-vq];refine aC λ k hk=>?_;have:S (n+2) (λ j=>if k<j then 0 else T j k)=S (n+1) (λ j=>if k<j then 0 else T j k)+(if k<n+1 then 0 else T (n+1) k):=rfl;rw[this,TC hk,Vr,<-vq];refine aC λ j hj=>?_;by_cases hkj:k<j
  . rw[TC hkj,Tv (by omega)];rfl
  . rw[Tv hkj,TC (by omega)];exact e3 j k (by omega) hk hkj
 rw[e4];omega
theorem JL:∀ {n:Nat} {M:Fn} {i:Nat},i+1<n->(∀c,c<n->M i c=M (i+1) c)->D n M=0
 |0,_,_,h,_=>by omega
 |1,_,_,h,_=>by omega
 |n+2,M,0,_,h=>RY h
 |n+2,M,i+1,hi,h=>by
  rw[dJ];refine gG λ j hj=>?_;rw[JL (n:=n+1) (M:=λ r c=>M (r+1) (sk j c)) (i:=i) (by omega) λ c hc=>h (sk j c) (jZ hc),TR]
structure Alt(n:Nat)(φ:Fn->Int):Prop where
 cg:∀M M':Fn,(∀r c,r<n->c<n->M r c=M' r c)->φ M=φ M'
 j6:∀(i:Nat) (M P Q:Fn) (a b:Int),i<n->(∀c,c<n->M i c=a*P i c+b*Q i c)->(∀r c,r<n->c<n->r≠i->M r c=P r c/\M r c=Q r c)->φ M=a*φ P+b*φ Q
 alt:∀(i j:Nat) (M:Fn),i<n->j<n->i≠j->(∀c,c<n->M i c=M j c)->φ M=0
def upd(M:Fn)(i:Nat)(x:Nat->Int):Fn:=λ r c=>if r=i then x c else M r c
theorem cz(M:Fn)(i:Nat)(x:Nat->Int)(c:Nat):upd M i x i c=x c:=TC rfl
theorem aw{M:Fn}{i r:Nat}{x:Nat->Int}(h:r≠i)(c:Nat):upd M i x r c=M r c:=Tv h
theorem QX{n i j:Nat}{φ:Fn->Int}(cg:∀M M':Fn,(∀r c,r<n->c<n->M r c=M' r c)->φ M=φ M')
 (j6:∀(i:Nat) (M P Q:Fn) (a b:Int),i<n->(∀c,c<n->M i c=a*P i c+b*Q i c)->(∀r c,r<n->c<n->r≠i->M r c=P r c/\M r c=Q r c)->φ M=a*φ P+b*φ Q)
 (hi:i<n) (hj:j<n) (hij:i≠j) (alt:∀N:Fn,(∀c,c<n->N i c=N j c)->φ N=0) (M:Fn):φ (λ r=>M (sw i j r))= -φ M:=by
 have l1:φ (upd (upd M i λ c=>M i c+M j c) j λ c=>M i c+M j c)=1*φ (upd (upd M i (M i)) j λ c=>M i c+M j c)+1*φ (upd (upd M i (M j)) j λ c=>M i c+M j c):=
  j6 i _ _ _ 1 1 hi (λ c _=>by rw[aw hij,aw hij,aw hij,cz,cz,cz];omega) λ r c _ _ hr=>by
   unfold upd;grind
 have l2:∀x:Nat->Int,φ (upd (upd M i x) j λ c=>M i c+M j c)=1*φ (upd (upd M i x) j (M i))+1*φ (upd (upd M i x) j (M j)):=λ x=>
  j6 j _ _ _ 1 1 hj (λ c _=>by rw[cz,cz,cz];omega) λ r c _ _ hr=>by
   rw[aw hr,aw hr,aw hr];exact⟨rfl,rfl⟩
 have z0:φ (upd (upd M i λ c=>M i c+M j c) j λ c=>M i c+M j c)=0:=alt _ λ c _=>by rw[aw hij,cz,cz]
 have z1:φ (upd (upd M i (M i)) j (M i))=0:=alt _ λ c _=>by rw[aw hij,cz,cz]
 have z2:φ (upd (upd M i (M j)) j (M j))=0:=alt _ λ c _=>by rw[aw hij,cz,cz]
 have s1:φ (upd (upd M i (M i)) j (M j))=φ M:=cg _ _ λ r c _ _=>by
  unfold upd;split
  . rename_i e;rw[e]
  . split
    . rename_i e;rw[e]
    . rfl
 have s2:φ (upd (upd M i (M j)) j (M i))=φ (λ r=>M (sw i j r)):=cg _ _ λ r c _ _=>by
  unfold upd sw;by_cases h1:r=j
  . rw[TC h1];by_cases h2:r=i
    . omega
    . rw[Tv h2,TC h1]
  . rw[Tv h1];by_cases h2:r=i
    . rw[TC h2,TC h2]
    . rw[Tv h2,Tv h2,Tv h1]
 have a1:=l2 (M i);have a2:=l2 (M j);rw[z1,s1]at a1;rw[z2,s2]at a2;rw[z0,a1,a2]at l1;omega
theorem Alt.swap{n i j:Nat}{φ:Fn->Int}(A:Alt n φ)(hi:i<n)(hj:j<n)(hij:i≠j)(M:Fn):φ (λ r=>M (sw i j r))= -φ M:=
 QX A.cg A.j6 hi hj hij (λ N h=>A.alt i j N hi hj hij h) M
theorem wz{n:Nat}{φ:Fn->Int}(cg:∀M M':Fn,(∀r c,r<n->c<n->M r c=M' r c)->φ M=φ M')
 (j6:∀(i:Nat) (M P Q:Fn) (a b:Int),i<n->(∀c,c<n->M i c=a*P i c+b*Q i c)->(∀r c,r<n->c<n->r≠i->M r c=P r c/\M r c=Q r c)->φ M=a*φ P+b*φ Q)
 (adj:∀(i:Nat) (M:Fn),i+1<n->(∀c,c<n->M i c=M (i+1) c)->φ M=0):Alt n φ:=by
 have far:∀(d i:Nat) (M:Fn),i+d+1<n->(∀c,c<n->M i c=M (i+d+1) c)->φ M=0:=by
  intro d;induction d with
  |zero=>exact λ i M h1 h2=>adj i M h1 h2
  |succ d ih=>
   intro i M h1 h2;have hs:=QX cg j6 (i:=i+d+1) (j:=i+d+1+1) (by omega) (by omega) (by omega) (λ N h=>adj (i+d+1) N (by omega) h) M
   have:φ (λ r=>M (sw (i+d+1) (i+d+1+1) r))=0:=ih i _ (by omega) λ c hc=>by
    have e1:sw (i+d+1) (i+d+1+1) i=i:=by unfold sw;rw[Tv (by omega),Tv (by omega)]
    have e2:sw (i+d+1) (i+d+1+1) (i+d+1)=i+d+1+1:=by unfold sw;rw[TC rfl]
    rw[e1,e2];exact h2 c hc
   omega
 refine⟨cg,j6,λ i j M hi hj hij h=>?_⟩;by_cases hlt:i<j
 . obtain⟨d,rfl⟩:∃d,j=i+d+1:=⟨j-i-1,by omega⟩
   exact far d i M hj h
 . obtain⟨d,rfl⟩:∃d,i=j+d+1:=⟨i-j-1,by omega⟩
   exact far d j M hi λ c hc=>(h c hc).symm
theorem vz(n:Nat):Alt n (D n):=wz (λ _ _ h=>c7 h) (λ _ _ _ _ _ _ hi h0 h=>Js hi h0 h) λ _ _ h1 h2=>JL h1 h2
theorem Alt.Rv{n i:Nat}{φ:Fn->Int}(A:Alt n φ)(hi:i<n){M:Fn}(h:∀c,c<n->M i c=0):φ M=0:=by
 have:=A.j6 i M M M 0 0 hi (λ c hc=>by rw[h c hc];rfl) λ _ _ _ _ _=>⟨rfl,rfl⟩
 omega
theorem Alt.GU{n i:Nat}{φ:Fn->Int}(A:Alt n φ)(hi:i<n)(M:Fn)(t:Int)(x:Nat->Int):φ (upd M i λ c=>t*x c)=t*φ (upd M i x):=by
 have:=A.j6 i (upd M i λ c=>t*x c) (upd M i x) (upd M i x) t 0 hi (λ c hc=>by rw[cz,cz];omega) λ r c _ _ hr=>by rw[aw hr,aw hr];exact⟨rfl,rfl⟩
 omega
theorem Alt.Fb{n i:Nat}{φ:Fn->Int}(A:Alt n φ)(hi:i<n)(M:Fn)(x y:Nat->Int):φ (upd M i λ c=>x c+y c)=φ (upd M i x)+φ (upd M i y):=by
 have:=A.j6 i (upd M i λ c=>x c+y c) (upd M i x) (upd M i y) 1 1 hi (λ c hc=>by rw[cz,cz,cz];omega) λ r c _ _ hr=>by rw[aw hr,aw hr,aw hr];exact⟨rfl,rfl⟩
 omega
theorem Alt.wD{n i:Nat}{φ:Fn->Int}(A:Alt n φ)(hi:i<n)(M:Fn)(a:Nat->Int)(x:Nat->Nat->Int):∀m,φ (upd M i λ c=>S m λ j=>a j*x j c)=S m λ j=>a j*φ (upd M i (x j))
 |0=>A.Rv hi λ c _=>by rw[cz];rfl
 |m+1=>by
  have:(λ c=>S (m+1) λ j=>a j*x j c)=λ c=>(S m λ j=>a j*x j c)+a m*x m c:=rfl;rw[this,A.Fb hi,A.wD hi M a x m,A.GU hi];rfl
def un(j c:Nat):Nat:=if c<j then c else c-1
def grow(j:Nat)(B:Fn):Fn:=λ r c=>if r=0 then dl j c else if c=j then 0 else B (r-1) (un j c)
theorem wu{n j c:Nat}(hj:j<n+1)(hc:c<n+1)(h:c≠j):un j c<n:=by unfold un;split<;>omega
theorem DQ{j c:Nat}(h:c≠j):sk j (un j c)=c:=by unfold sk un;grind
theorem Alt.grow{n j:Nat}{φ:Fn->Int}(A:Alt (n+1) φ)(hj:j<n+1):Alt n λ B=>φ (Mx.grow j B) where
 cg:=λ M M' h=>A.cg _ _ λ r c hr hc=>by
  have:=h (r-1) (un j c);have:=wu (c:=c) hj hc;unfold Mx.grow;grind
 j6:=λ i M P Q a b hi h0 h=>A.j6 (i+1) _ _ _ a b (by omega) (λ c hc=>by
  have:=h0 (un j c);have:=wu (c:=c) hj hc;have e:i+1-1=i:=by omega
  unfold Mx.grow;rw[e];grind) λ r c hr hc hne=>by
  have:=h (r-1) (un j c);have:=wu (c:=c) hj hc;unfold Mx.grow;grind
 alt:=λ i k M hi hk hik h=>A.alt (i+1) (k+1) _ (by omega) (by omega) (by omega) λ c hc=>by
  have:=h (un j c);have:=wu (c:=c) hj hc;have e:i+1-1=i:=by omega
  have e2:k+1-1=k:=by omega
  unfold Mx.grow;rw[e,e2];grind
theorem Alt.units{n:Nat}{φ:Fn->Int}(A:Alt (n+1) φ):∀j,j<n+1->φ (Mx.grow j dl)=sg j*φ dl
 |0,_=>by
  rw[De,Xk];refine A.cg _ _ λ r c hr hc=>?_;unfold Mx.grow un dl;grind
 |j+1,hj=>by
  have ih:=A.units j (by omega);have s:=A.swap (i:=0) (j:=j+1) (by omega) hj (by omega) (Mx.grow j dl);rw[wK,Yb,<-ih,<-s];refine A.cg _ _ λ r c hr hc=>?_;unfold Mx.grow un dl sw;grind
theorem Alt.R_{n i k:Nat}{φ:Fn->Int}(A:Alt n φ)(hi:i<n)(hk:k<n)(hik:i≠k)(M:Fn)(x:Nat->Int)(t:Int):φ (upd M i λ c=>x c+t*M k c)=φ (upd M i x):=by
 rw[A.Fb hi,A.GU hi M t (M k),A.alt i k (upd M i (M k)) hi hk hik λ c _=>by rw[cz,aw (TK hik)],TR,Vr]
def zr(j m:Nat)(M:Fn):Fn:=λ r c=>if r=0 then dl j c else if r<=m/\c=j then 0 else M r c
theorem Alt.zr{n j:Nat}{φ:Fn->Int}(A:Alt (n+1) φ)(M:Fn):∀m,m<=n->φ (Mx.zr j m M)=φ (upd M 0 (dl j))
 |0,_=>A.cg _ _ λ r c hr hc=>by unfold Mx.zr upd;grind
 |m+1,hm=>by
  rw[<-A.zr M m (by omega)];have e:=A.R_ (i:=m+1) (k:=0) (by omega) (by omega) (by omega) (Mx.zr j m M) (M (m+1)) (-M (m+1) j)
  have e1:φ (Mx.zr j (m+1) M)=φ (upd (Mx.zr j m M) (m+1) λ c=>M (m+1) c+ -M (m+1) j*Mx.zr j m M 0 c):=A.cg _ _ λ r c hr hc=>by
   unfold upd Mx.zr dl;by_cases h0:r=m+1
   . subst h0;by_cases h1:c=j
     . subst h1;simp;omega
     . have:¬j=c:=λ z=>h1 z.symm;simp[h1,this]
   . rw[Tv h0];grind
  have e2:φ (upd (Mx.zr j m M) (m+1) (M (m+1)))=φ (Mx.zr j m M):=A.cg _ _ λ r c hr hc=>by
   unfold upd Mx.zr;grind
  rw[e1,e,e2]
theorem D5:∀ {n:Nat} {φ:Fn->Int},Alt n φ->∀M,φ M=φ dl*D n M
 |0,φ,A,M=>by rw[MW,U_];exact A.cg _ _ λ r c hr=>by omega
 |n+1,φ,A,M=>by
  have h1:φ M=S (n+1) λ j=>M 0 j*φ (upd M 0 (dl j)):=by
   rw[<-A.wD (by omega) M (M 0) dl (n+1)];refine A.cg _ _ λ r c hr hc=>?_;by_cases h0:r=0
   . subst h0;rw[cz,jt hc]
   . rw[aw h0]
  have h2:∀j,j<n+1->φ (upd M 0 (dl j))=φ (Mx.grow j λ r c=>M (r+1) (sk j c)):=λ j hj=>by
   rw[<-A.zr M n (Tu _)];refine A.cg _ _ λ r c hr hc=>?_;unfold Mx.grow Mx.zr;by_cases h0:r=0
   . rw[TC h0,TC h0]
   . rw[Tv h0,Tv h0];by_cases h3:c=j
     . rw[TC ⟨by omega,h3⟩,TC h3]
     . rw[Tv (by omega),Tv h3];dsimp only;rw[DQ h3,show r-1+1=r by omega]
  rw[h1,dJ,<-dU];refine aC λ j hj=>?_;have h3:=D5 (A.grow hj) λ r c=>M (r+1) (sk j c);have h4:=A.units j hj;have h5:φ (Mx.grow j λ r c=>M (r+1) (sk j c))=φ (Mx.grow j dl)*D n λ r c=>M (r+1) (sk j c):=h3;rw[h2 j hj,h5,h4];grind
theorem xh:∀n,D n dl=1
 |0=>rfl
 |n+1=>by
  rw[dJ,i3 (k:=0) (by omega) λ j hj h0=>by rw[bq (TK h0),TR,UW]]
  have:D n (λ r c=>dl (r+1) (sk 0 c))=D n dl:=c7 λ r c _ _=>by
   unfold dl sk;grind
  rw[this,xh n,bx];rfl
theorem DM(n:Nat)(A B:Fn):D n (λ r c=>S n λ k=>A r k*B k c)=D n A*D n B:=by
 have al:Alt n λ A=>D n (λ r c=>S n λ k=>A r k*B k c):=by
  refine⟨λ M M' h=>c7 λ r c hr hc=>aC λ k hk=>by rw[h r k hr hk],λ i M P Q a b hi h0 h=>(vz n).j6 i _ _ _ a b hi (λ c hc=>?_) λ r c hr hc hne=>⟨aC λ k hk=>by rw[(h r k hr hk hne).1],aC λ k hk=>by rw[(h r k hr hk hne).2]⟩,λ i j M hi hj hij h=>(vz n).alt i j _ hi hj hij λ c hc=>aC λ k hk=>by rw[h k hk]⟩;show(S n λ k=>M i k*B k c)=a*(S n λ k=>P i k*B k c)+b*S n λ k=>Q i k*B k c;rw[<-dU,<-dU,<-fZ];refine aC λ k hk=>?_;rw[h0 k hk];grind
 have h:=D5 al A;have e:D n (λ r c=>S n λ k=>dl r k*B k c)=D n B:=c7 λ r c hr hc=>lS hr λ k=>B k c;rw[h,e,UX]
theorem Gm:∀ {n:Nat} {M P Q:Fn} {a b:Int} {i:Nat},i<n->(∀r,r<n->M r i=a*P r i+b*Q r i)->(∀r c,r<n->c<n->c≠i->M r c=P r c/\M r c=Q r c)->D n M=a*D n P+b*D n Q
 |0,_,_,_,_,_,_,h,_,_=>by omega
 |n+1,M,P,Q,a,b,i,hi,h0,h=>by
  rw[dJ,dJ,dJ,<-dU,<-dU,<-fZ];refine aC λ j hj=>?_;by_cases hij:j=i
  . subst hij;have hs:∀c,sk j c≠j:=λ c=>by unfold sk;split<;>omega
    have e1:D n (λ r c=>M (r+1) (sk j c))=D n (λ r c=>P (r+1) (sk j c)):=c7 λ r c hr hc=>(h (r+1) (sk j c) (by omega) (jZ hc) (hs c)).1;have e2:D n (λ r c=>M (r+1) (sk j c))=D n (λ r c=>Q (r+1) (sk j c)):=c7 λ r c hr hc=>(h (r+1) (sk j c) (by omega) (jZ hc) (hs c)).2;rw[h0 0 (by omega),<-e1,<-e2];grind
  . have p:=h 0 j (by omega) hj hij;have hu:sk j (un j i)=i:=DQ (TK hij);have hs:∀c,c≠un j i->sk j c≠i:=λ c hc=>by unfold sk;unfold un at hc;grind
    have hlt:un j i<n:=wu hj hi (TK hij)
    have e:=Gm (n:=n) (M:=λ r c=>M (r+1) (sk j c)) (P:=λ r c=>P (r+1) (sk j c)) (Q:=λ r c=>Q (r+1) (sk j c)) (a:=a) (b:=b) (i:=un j i) hlt (λ r hr=>by
     rw[hu];exact h0 (r+1) (by omega)) λ r c hr hc hne=>h (r+1) (sk j c) (by omega) (jZ hc) (hs c hne)
    rw[e,<-p.1,<-p.2];grind
theorem Gi:∀ {n:Nat} {M:Fn} {i:Nat},i+1<n->(∀r,r<n->M r i=M r (i+1))->D n M=0
 |0,_,_,h,_=>by omega
 |n+1,M,i,hi,h=>by
  rw[dJ]
  have key:∀j,j<n+1->j≠i->j≠i+1->D n (λ r c=>M (r+1) (sk j c))=0:=λ j hj h1 h2=>by
   refine Gi (i:=un j i) (by unfold un;split<;>omega) λ r hr=>?_;have e1:sk j (un j i)=i:=DQ (TK h1);have e2:sk j (un j i+1)=i+1:=by unfold sk un;grind
   rw[e1,e2];exact h (r+1) (by omega)
  have e:D n (λ r c=>M (r+1) (sk i c))=D n (λ r c=>M (r+1) (sk (i+1) c)):=c7 λ r c hr hc=>by
   by_cases hc2:c=i
   . subst hc2;have a1:sk c c=c+1:=by unfold sk;rw[Tv (by omega)]
     have a2:sk (c+1) c=c:=by unfold sk;rw[TC (by omega)]
     rw[a1,a2];exact(h (r+1) (by omega)).symm
   . have a1:sk i c=sk (i+1) c:=by unfold sk;grind
     rw[a1]
  have two:∀(m:Nat) (f:Nat->Int),i+1<m->(∀j,j<m->j≠i->j≠i+1->f j=0)->S m f=f i+f (i+1):=λ m=>by
   induction m with
   |zero=>intro f h;omega
   |succ m ih=>
    intro f hm hf;show S m f+f m=_;by_cases hmi:m=i+1
    . subst hmi;rw[i3 (k:=i) (by omega) λ j hj hne=>hf j (by omega) hne (by omega)]
    . rw[ih f (by omega) λ j hj h1 h2=>hf j (by omega) h1 h2,hf m (by omega) (by omega) hmi,Vr]
  rw[two (n+1) _ hi λ j hj h1 h2=>by rw[key j hj h1 h2,TR],e,wK,h 0 (by omega)];grind
def tr(M:Fn):Fn:=λ r c=>M c r
theorem NQ(n:Nat)(M:Fn):D n (tr M)=D n M:=by
 have al:Alt n λ A=>D n (tr A):=wz (λ M M' h=>c7 λ r c hr hc=>h c r hc hr)
  (λ i M P Q a b hi h0 h=>Gm hi (λ r hr=>h0 r hr) λ r c hr hc hne=>h c r hc hr hne)
  λ i M hi h=>Gi hi λ r hr=>h r hr
 have h:=D5 al M;have e:D n (tr dl)=D n dl:=c7 λ r c _ _=>o_ c r;have h2:D n (tr M)=D n (tr dl)*D n M:=h;rw[h2,e,xh,Xk]
def Pr:Nat->(Nat->Int)->Int
 |0,_=>1
 |n+1,f=>Pr n f*f n
theorem CB:∀(n:Nat) (f:Nat->Int),Pr (n+1) f=f 0*Pr n λ i=>f (i+1)
 |0,f=>by show 1*f 0=f 0*1;omega
 |n+1,f=>by
  have:Pr (n+1+1) f=Pr (n+1) f*f (n+1):=rfl;rw[this,CB n f];have:Pr (n+1) (λ i=>f (i+1))=Pr n (λ i=>f (i+1))*f (n+1):=rfl;rw[this,Vt]
theorem D_:∀ {n:Nat} {M:Fn},(∀r c,r<n->c<n->r<c->M r c=0)->D n M=Pr n λ i=>M i i
 |0,_,_=>rfl
 |n+1,M,h=>by
  rw[dJ,i3 (k:=0) (by omega) λ j hj h0=>by rw[h 0 j (by omega) hj (by omega),TR,UW],CB,De,Xk];have s:∀c,sk 0 c=c+1:=λ c=>by unfold sk;rw[Tv (by omega)]
  have e:D n (λ r c=>M (r+1) (sk 0 c))=Pr n λ i=>M (i+1) (i+1):=by
   rw[D_ λ r c hr hc hrc=>by rw[s];exact h (r+1) (c+1) (by omega) (by omega) (by omega)];simp only[s]
  rw[e]
theorem IS{n:Nat}{M:Fn}(h:∀r c,r<n->c<n->c<r->M r c=0):D n M=Pr n λ i=>M i i:=by
 rw[<-NQ n M,D_ (M:=tr M) λ r c hr hc hrc=>h c r hc hr hrc];rfl
def gx(R:Fn)(p:Nat)(x:Nat->Int)(j:Nat):Int:=D (p+1) λ r c=>if r<p then R r (if c<p then c else j)else x (if c<p then c else j)
def bt(R:Fn)(p:Nat)(x:Nat->Int)(k:Nat):Int:=D (p+1) (upd (λ c r=>if r<p then R r c else x c) p (dl k))
def cl(p j1 j2 c:Nat):Nat:=if c<p then c else if c=p then j1 else j2
theorem zj{n:Nat}{f:Nat->Int}{m:Nat}(h:∀i,i<n->(f i).natAbs<=m):(S n f).natAbs<=n*m:=by
 induction n with
 |zero=>simp[S]
 |succ n ih=>
  have h1:=ih λ i hi=>h i (by omega);have h2:=h n (by omega);show(S n f+f n).natAbs<=_;rw[Yz];omega
theorem Kh{m:Nat}:∀ {n:Nat} {M:Fn},n<=8->(∀r c,r<n->c<n->(M r c).natAbs<=m)->(D n M).natAbs<=(8*m)^n
 |0,_,_,_=>by simp[D]
 |n+1,M,hn,h=>by
  rw[dJ]
  have key:∀j,j<n+1->(sg j*M 0 j*D n λ r c=>M (r+1) (sk j c)).natAbs<=m*(8*m)^n:=λ j hj=>by
   have a:=Kh (n:=n) (M:=λ r c=>M (r+1) (sk j c)) (by omega) λ r c hr hc=>h (r+1) (sk j c) (by omega) (jZ hc);have b:=h 0 j (by omega) hj;have s:(sg j).natAbs=1:=by unfold sg;split<;>rfl
   rw[Ur,Ur,s,WR];exact Ut b a
  have e:=zj key;refine TB e ?_;rw[Vh,Vp ((8*m)^n),Uu];have:(n+1)*(m*(8*m)^n)<=8*(m*(8*m)^n):=T_ _ hn;exact this
def lam(G:Fn)(i j:Nat):Int:=gx G j (G i) j
def R6(A:Rows):Fn:=λ i j=>N1 (A.getD i []) (A.getD j [])
def O_(G:Fn)(i:Nat):Row:=(List.range (i+1)).map λ j=>lam G i j
def MF(G:Fn)(n:Nat):Rows:=(List.range n).map (O_ G)
def RA(A:Rows)(N:Nat):Fn:=λ i j=>if j<N then R6 A i j else(A.getD i []).getD (j-N) 0
def ev(A:Rows)(N i k c:Nat):Int:=gx (RA A N) k (RA A N i) (N+c)
theorem EL(n:Nat)(a b:Int)(f g:Nat->Int):S n (λ c=>a*f c-b*g c)=a*S n f-b*S n g:=by
 induction n with
 |zero=>show(0:Int)=a*0-b*0;omega
 |succ n ih=>
  show S n (λ c=>a*f c-b*g c)+(a*f n-b*g n)=a*(S n f+f n)-b*(S n g+g n);rw[ih,Int.mul_add,Int.mul_add];omega
section
variable {A:Rows}{N w:Nat}
end
def SY(M:Fn)(k j:Nat)(q:Int):Fn:=λ a b=>if a=k then M a b-q*M j b else M a b
def SO(M:Fn)(k j:Nat)(q:Int):Fn:=λ a b=>if b=k then M a b-q*M a j else M a b
def tk(G:Fn)(k j:Nat)(q:Int):Fn:=SO (SY G k j q) k j q
section
variable {G:Fn}{t:Nat}(sym:∀i j,G i j=G j i)
include sym
end
section
variable {A:Rows}{N w:Nat}
theorem cO(hA:aP N w A){i:Nat}(hi:i<N):(A.getD i []).length=w:=hA.fw _ (by have:=hA.len;rw[aJ (by omega)];exact Vf _)
end
def aS(A:Rows)(k:Nat)(q:Int)(j:Nat):Rows:=A.set k (gN (A.getD k []) (-q) (A.getD j []))
def bw(A:Rows)(k o:Nat):Rows:=(A.set k (A.getD o [])).set o (A.getD k [])
theorem kD{A:Rows}{k i:Nat}{r:Row}(hk:k<A.length):(A.set k r).getD i []=if i=k then r else A.getD i []:=by
 rw[Ug,List.getElem?_set];by_cases h:k=i
 . rw[TC h,TC (by omega),TC h.symm];rfl
 . rw[Tv h,Tv (TK h),Ug]
theorem GI{A:Rows}{k j:Nat}{q:Int}:(aS A k q j).length=A.length:=by unfold aS;rw[TQ]
theorem kJ{A:Rows}{N w k j:Nat}{q:Int}(hA:aP N w A)(hk:k<N)(hj:j<N):aP N w (aS A k q j):=by
 refine⟨GI.trans hA.len,λ r hr=>?_⟩;unfold aS at hr;rcases UQ hr with h|rfl
 . exact hA.fw r h
 . rw[qc (by rw[cO hA hk,cO hA hj]),cO hA hk]
structure Tn(A0 A U C:Rows)(N w:Nat):Prop where
 isA:aP N w A
 fm:aP N N U
 fI:aP N N C
 ua:∀i c,i<N->c<w->g A i c=S N λ k=>g U i k*g A0 k c
 ub:∀i j,i<N->j<N->S N (λ k=>g U i k*g C j k)=dl i j
 bu:∀i j,i<N->j<N->S N (λ k=>g C k i*g U k j)=dl i j
theorem dc{A:Rows}{N w k j:Nat}{q:Int}(hA:aP N w A)(hk:k<N)(hj:j<N)(i c:Nat):g (aS A k q j) i c=if i=k then g A k c-q*g A j c else g A i c:=by
 unfold g aS;have hl:=hA.len;rw[kD (by omega)];by_cases h:i=k
 . rw[TC h,TC h,Dc (by rw[cO hA hk,cO hA hj]),Yb];omega
 . rw[Tv h,Tv h]
theorem vo(n:Nat)(a b:Int)(f h:Nat->Int):S n (λ c=>a*f c+b*h c)=a*S n f+b*S n h:=by
 rw[fZ,dU,dU]
theorem Tn.take{A0 A U C:Rows}{N w k j:Nat}{q:Int}(T:Tn A0 A U C N w)(hk:k<N)(hj:j<N)(hkj:j≠k):Tn A0 (aS A k q j) (aS U k q j) (aS C j (-q) k) N w where
 isA:=kJ T.isA hk hj
 fm:=kJ T.fm hk hj
 fI:=kJ T.fI hj hk
 ua:=λ i c hi hc=>by
  rw[dc T.isA hk hj];have e:S N (λ m=>g (aS U k q j) i m*g A0 m c)=S N λ m=>(if i=k then g U k m-q*g U j m else g U i m)*g A0 m c:=aC λ m _=>by rw[dc T.fm hk hj]
  rw[e];by_cases h:i=k
  . simp only[TC h];rw[T.ua k c hk hc,T.ua j c hj hc];have e2:S N (λ m=>(g U k m-q*g U j m)*g A0 m c)=S N λ m=>1*(g U k m*g A0 m c)-q*(g U j m*g A0 m c):=aC λ m _=>by grind
    rw[e2,EL];omega
  . simp only[Tv h];exact T.ua i c hi hc
 ub:=λ i l hi hl=>by
  have e:S N (λ m=>g (aS U k q j) i m*g (aS C j (-q) k) l m)=S N λ m=>(if i=k then g U k m-q*g U j m else g U i m)*(if l=j then g C j m- -q*g C k m else g C l m):=aC λ m _=>by rw[dc T.fm hk hj,dc T.fI hj hk]
  rw[e];have djk:dl j k=0:=bq hkj;by_cases h:i=k
  . by_cases h2:l=j
    . simp only[TC h,TC h2];have e2:S N (λ m=>(g U k m-q*g U j m)*(g C j m- -q*g C k m))=S N λ m=>1*(1*(g U k m*g C j m)+q*(g U k m*g C k m))-q*(1*(g U j m*g C j m)+q*(g U j m*g C k m)):=aC λ m _=>by grind
      rw[e2,EL,vo,vo,T.ub k j hk hj,T.ub k k hk hk,T.ub j j hj hj,T.ub j k hj hk,h,h2,bx,bx,djk,o_ k j,djk];omega
    . simp only[TC h,Tv h2];have e2:S N (λ m=>(g U k m-q*g U j m)*g C l m)=S N λ m=>1*(g U k m*g C l m)-q*(g U j m*g C l m):=aC λ m _=>by grind
      rw[e2,EL,T.ub k l hk hl,T.ub j l hj hl,h,bq (TK h2)];omega
  . by_cases h2:l=j
    . simp only[Tv h,TC h2];have e2:S N (λ m=>g U i m*(g C j m- -q*g C k m))=S N λ m=>1*(g U i m*g C j m)+q*(g U i m*g C k m):=aC λ m _=>by grind
      rw[e2,vo,T.ub i j hi hj,T.ub i k hi hk,h2,bq h];omega
    . simp only[Tv h,Tv h2];exact T.ub i l hi hl
 bu:=λ i l hi hl=>by
  have e:S N (λ m=>g (aS C j (-q) k) m i*g (aS U k q j) m l)=S N λ m=>g C m i*g U m l+((q*(g C k i*g U j l))*dl m j+(-(q*(g C k i*g U j l)))*dl m k):=aC λ m _=>by
   rw[dc T.fm hk hj,dc T.fI hj hk];by_cases h1:m=j
   . have h2:m≠k:=by omega
     rw[TC h1,Tv h2,h1,bx,bq hkj];grind
   . rw[Tv h1,bq h1];by_cases h2:m=k
     . rw[TC h2,h2,bx];grind
     . rw[Tv h2,bq h2];grind
  rw[e,fZ,vo,T.bu i l hi hl]
  have e1:S N (λ c=>dl c j)=1:=by
   rw[i3 hj λ i _ h=>bq h,bx]
  have e2:S N (λ c=>dl c k)=1:=by
   rw[i3 hk λ i _ h=>bq h,bx]
  rw[e1,e2];omega
theorem zy{A:Rows}{k o i:Nat}(hk:k<A.length)(ho:o<A.length):(bw A k o).getD i []=A.getD (sw k o i) []:=by
 unfold bw;rw[kD (by rw[TQ];exact ho),kD hk];unfold sw;by_cases h1:i=k
 . rw[TC h1,TC h1];by_cases h2:i=o
   . rw[TC h2,<-h1,<-h2]
   . rw[Tv h2]
 . rw[Tv h1,Tv h1];by_cases h2:i=o
   . rw[TC h2,TC h2]
   . rw[Tv h2,Tv h2]
theorem ky{A:Rows}{N w k o:Nat}(hA:aP N w A)(hk:k<N)(ho:o<N):aP N w (bw A k o):=by
 refine⟨by unfold bw;rw[TQ,TQ];exact hA.len,λ r hr=>?_⟩;unfold bw at hr;rcases UQ hr with h|rfl
 . rcases UQ h with h|rfl
   . exact hA.fw r h
   . exact cO hA ho
 . exact cO hA hk
theorem g6{A:Rows}{N w k o:Nat}(hA:aP N w A)(hk:k<N)(ho:o<N)(i c:Nat):g (bw A k o) i c=g A (sw k o i) c:=by
 unfold g;rw[zy (by have:=hA.len;omega) (by have:=hA.len;omega)]
theorem nF{k o N i:Nat}(hk:k<N)(ho:o<N)(hi:i<N):sw k o i<N:=by unfold sw;split<;>(try split)<;>assumption
theorem Ge(k o x:Nat):sw k o (sw k o x)=x:=by
 unfold sw;by_cases h1:x=k
 . subst h1;rw[TC rfl];by_cases h2:o=x
   . rw[TC h2];exact h2
   . rw[Tv h2,TC rfl]
 . rw[Tv h1];by_cases h2:x=o
   . subst h2;rw[TC rfl,TC rfl]
   . rw[Tv h2,Tv h1,Tv h2]
theorem Pl{k o a b:Nat}:dl (sw k o a) (sw k o b)=dl a b:=by
 by_cases h:a=b
 . rw[h,bx,bx]
 . rw[bq h,bq λ z=>h (by rw[<-Ge k o a,<-Ge k o b,z])]
theorem KI(k x:Nat):sw k k x=x:=by
 unfold sw;by_cases h:x=k
 . rw[TC h,h]
 . rw[Tv h,Tv h]
theorem QI{n i j:Nat}(hi:i<n)(hj:j<n)(f:Nat->Int):S n (λ k=>f (sw i j k))=S n f:=by
 by_cases h:i=j
 . subst h;exact aC λ k _=>by rw[KI]
 . exact Rx hi hj h f
theorem Tn.Kq{A0 A U C:Rows}{N w k o:Nat}(T:Tn A0 A U C N w)(hk:k<N)(ho:o<N):Tn A0 (bw A k o) (bw U k o) (bw C k o) N w where
 isA:=ky T.isA hk ho
 fm:=ky T.fm hk ho
 fI:=ky T.fI hk ho
 ua:=λ i c hi hc=>by
  rw[g6 T.isA hk ho,T.ua _ c (nF hk ho hi) hc];exact aC λ m _=>by rw[g6 T.fm hk ho]
 ub:=λ i j hi hj=>by
  rw[<-Pl (k:=k) (o:=o),<-T.ub _ _ (nF hk ho hi) (nF hk ho hj)];exact aC λ m _=>by rw[g6 T.fm hk ho,g6 T.fI hk ho]
 bu:=λ i j hi hj=>by
  rw[<-T.bu i j hi hj,<-QI hk ho λ m=>g C m i*g U m j];exact aC λ m _=>by rw[g6 T.fm hk ho,g6 T.fI hk ho]
def fQ(A:Rows)(k:Nat):Rows:=A.set k ((A.getD k []).map λ x=> -x)
theorem oX{A:Rows}{N w k:Nat}(hA:aP N w A)(hk:k<N):aP N w (fQ A k):=by
 refine⟨by unfold fQ;rw[TQ];exact hA.len,λ r hr=>?_⟩;unfold fQ at hr;rcases UQ hr with h|rfl
 . exact hA.fw r h
 . rw[Tw];exact cO hA hk
theorem HG(r:Row)(c:Nat):(r.map λ x=> -x).getD c 0= -r.getD c 0:=by
 rw[Ug,Ug,T7];cases r[c]?<;>rfl
theorem i6{A:Rows}{N w k:Nat}(hA:aP N w A)(hk:k<N)(i c:Nat):g (fQ A k) i c=if i=k then-g A k c else g A i c:=by
 unfold g fQ;rw[kD (by have:=hA.len;omega)];by_cases h:i=k
 . rw[TC h,TC h,HG]
 . rw[Tv h,Tv h]
theorem Tn.neg{A0 A U C:Rows}{N w k:Nat}(T:Tn A0 A U C N w)(hk:k<N):Tn A0 (fQ A k) (fQ U k) (fQ C k) N w where
 isA:=oX T.isA hk
 fm:=oX T.fm hk
 fI:=oX T.fI hk
 ua:=λ i c hi hc=>by
  rw[i6 T.isA hk];by_cases h:i=k
  . rw[TC h,T.ua k c hk hc,<-vq];exact aC λ m _=>by rw[i6 T.fm hk,TC h,Yb]
  . rw[Tv h,T.ua i c hi hc];exact aC λ m _=>by rw[i6 T.fm hk,Tv h]
 ub:=λ i j hi hj=>by
  have e:S N (λ m=>g (fQ U k) i m*g (fQ C k) j m)=S N λ m=>(if i=k then-1 else 1)*(if j=k then-1 else 1)*(g U i m*g C j m):=aC λ m _=>by
   rw[i6 T.fm hk,i6 T.fI hk];by_cases h1:i=k<;>by_cases h2:j=k<;>simp only[h1,h2,Wt,WD]<;>grind
  rw[e,dU,T.ub i j hi hj];by_cases h1:i=k
  . by_cases h2:j=k
    . simp[h1,h2]
    . rw[bq (by omega)];simp
  . by_cases h2:j=k
    . rw[bq (by omega)];simp
    . simp[h1,h2]
 bu:=λ i j hi hj=>by
  rw[<-T.bu i j hi hj]
  exact aC λ m _=>by
   rw[i6 T.fm hk,i6 T.fI hk];by_cases h:m=k
   . subst h;rw[TC rfl,TC rfl];grind
   . rw[Tv h,Tv h]
structure jg(A:Rows)(N top p:Nat)(L:List Nat):Prop where
 mem:∀k,k∈L↔top<=k/\k<N/\g A k p≠0
 ord:L.Pairwise λ i j=>(g A i p).natAbs<=(g A j p).natAbs
 nd:L.Nodup
structure B3 where
 A:Rows
 U:Rows
 C:Rows
def qn(x y:Int):Int:=(2*x+y).fdiv (2*y)
def pP(b:B3)(p k j:Nat):B3:=⟨aS b.A k (qn (g b.A k p) (g b.A j p)) j,aS b.U k (qn (g b.A k p) (g b.A j p)) j,aS b.C j (-(qn (g b.A k p) (g b.A j p))) k⟩
def J9(N top p:Nat)(b c:B3):Prop:=∃(L:List Nat) (k j:Nat),jg b.A N top p (L++[j,k])/\c=pP b p k j
inductive eL(N top p:Nat):B3->B3->Prop
 |refl (b:B3):eL N top p b b
 |head {b c d:B3} (h:J9 N top p b c) (t:eL N top p c d):eL N top p b d
theorem eL.tail{N top p:Nat}{b c d:B3}(h:eL N top p b c)(t:J9 N top p c d):eL N top p b d:=by
 induction h with
 |refl b=>exact .head t (.refl _)
 |head x _ ih=>exact .head x (ih t)
def fS(X:Rows)(N top m:Nat):Prop:=∀i c,top<=i->i<N->(g X i c).natAbs<=m
theorem oQ{x y:Int}(hy:y≠0):2*(x-qn x y*y).natAbs<=y.natAbs:=by
 unfold qn;have h1:=Yp (2*x+y) (2*y);have h2:(2*x+y).fmod (2*y)=2*x+y-2*y*(2*x+y).fdiv (2*y):=by omega
 generalize(2*x+y).fdiv (2*y)=q at*;have e:2*(x-q*y)=(2*x+y).fmod (2*y)-y:=by rw[h2];grind
 rcases Int.lt_or_gt_of_ne hy with h|h
 . have a0:=Int.neg_fmod_neg (2*x+y) (2*y);have a1:=Vj (-(2*x+y)) (show 0< -(2*y) by omega);have a2:=Vy (-(2*x+y)) (show 0< -(2*y) by omega);omega
 . have a1:=Vj (2*x+y) (show 0<2*y by omega);have a2:=Vy (2*x+y) (show 0<2*y by omega);omega
theorem jR{X:Rows}{k j i:Nat}{q:Int}(hk:k<X.length)(h:i≠k):(aS X k q j).getD i []=X.getD i []:=by
 unfold aS;rw[kD hk,Tv h]
structure qJ(A0:Rows)(N w:Nat)(b:B3)(top p:Nat)(ld:Nat->Nat)(e u:Nat):Prop where
 tn:Tn A0 b.A b.U b.C N w
 le:top<=N
 lo:fS b.A N top (2^e)/\fS b.U N top (2^e)/\fS b.C N top (2^e)
 hi:∀i c,i<top->(g b.A i c).natAbs<=2^u/\(g b.U i c).natAbs<=2^u/\(g b.C i c).natAbs<=2^u
 zs:∀i c,top<=i->i<N->c<p->g b.A i c=0
 lead:∀i,i<top->ld i<p/\0<g b.A i (ld i)/\∀c,c<ld i->g b.A i c=0
 mono:∀i j,i<j->j<top->ld i<ld j
 red:∀i j,i<j->j<top->0<=g b.A i (ld j)/\g b.A i (ld j)<g b.A j (ld j)
def setB(b:B3)(p top r:Nat):B3:=
 if g (bw b.A top r) top p<0 then⟨fQ (bw b.A top r) top,fQ (bw b.U top r) top,fQ (bw b.C top r) top⟩else⟨bw b.A top r,bw b.U top r,bw b.C top r⟩
theorem uN{X:Rows}{N w top r m:Nat}(hX:aP N w X)(ht:top<N)(hr:r<N)(hrt:top<=r)(h:fS X N top m):fS (bw X top r) N top m:=λ i c hi hN=>by
 rw[g6 hX ht hr];refine h _ c ?_ (nF ht hr hN);unfold sw;split
 . exact hrt
 . split
   . exact Tu _
   . exact hi
theorem AQ{X:Rows}{N w top m:Nat}(hX:aP N w X)(ht:top<N)(h:fS X N top m):fS (fQ X top) N top m:=λ i c hi hN=>by
 rw[i6 hX ht];split
 . rw[VM];exact h top c (Tu _) ht
 . exact h i c hi hN
theorem uL{X:Rows}{N w top r i:Nat}(hX:aP N w X)(ht:top<N)(hr:r<N)(hrt:top<=r)(hi:i<top):(bw X top r).getD i []=X.getD i []:=by
 rw[zy (by have:=hX.len;omega) (by have:=hX.len;omega)];unfold sw;rw[Tv (by omega),Tv (by omega)]
theorem Ar{X:Rows}{N w top i:Nat}(hX:aP N w X)(ht:top<N)(hi:i<top):(fQ X top).getD i []=X.getD i []:=by
 unfold fQ;rw[kD (by have:=hX.len;omega),Tv (by omega)]
structure uT(A0:Rows)(N w top p m:Nat)(b0 b:B3):Prop where
 tn:Tn A0 b.A b.U b.C N w
 up:∀i,i<top->b.A.getD i []=b0.A.getD i []/\b.U.getD i []=b0.U.getD i []/\b.C.getD i []=b0.C.getD i []
 lo:fS b.A N top m/\fS b.U N top m/\fS b.C N top m
 zs:∀i c,top<=i->i<N->c<p->g b.A i c=0
 tp:0<g b.A top p
 z1:∀i,top<i->i<N->g b.A i p=0
def g_(p top:Nat):Nat->B3->B3
 |0,b=>b
 |k+1,b=>
  let c:=g_ p top k b
  ⟨aS c.A k ((g c.A k p).fdiv (g c.A top p)) top,aS c.U k ((g c.A k p).fdiv (g c.A top p)) top,aS c.C top (-((g c.A k p).fdiv (g c.A top p))) k⟩
theorem An(a:Int){b:Int}(hb:0<b):(a.fdiv b).natAbs<=a.natAbs:=by
 rw[Xy _ (VC hb)];exact Int.natAbs_ediv_le_natAbs a b
theorem Cm{a b c:Nat}(h1:a<=2^c)(h2:b<=2^c):a+b<=2^(c+1):=by rw[Vh];omega
theorem Tn.start{A:Rows}{N w:Nat}(hA:aP N w A):Tn A A (units N) (units N) N w where
 isA:=hA
 fm:=bI N
 fI:=bI N
 ua:=λ i c hi hc=>by
  rw[<-lS hi λ k=>g A k c];exact aC λ m hm=>by rw[cK hi hm]
 ub:=λ i j hi hj=>by
  rw[o_ i j,<-lS hi λ k=>dl j k]
  . exact aC λ m hm=>by rw[cK hi hm,cK hj hm]
 bu:=λ i j hi hj=>by
  rw[<-jt hi λ k=>dl k j];exact aC λ m hm=>by rw[cK hm hi,cK hm hj,UX]
theorem qJ.start{A:Rows}{N w e:Nat}(hA:aP N w A)(h:fS A N 0 (2^e)):qJ A N w ⟨A,units N,units N⟩ 0 0 (λ _=>0) e 0:=by
 have hu:fS (units N) N 0 (2^e):=λ i c _ hi=>by
  by_cases hc:c<N
  . rw[cK hi hc];unfold dl;split
    . exact Vz
    . exact T4 _
  . unfold g;rw[kW (l:=(units N).getD i []) (by rw[cO (bI N) hi];omega)];exact T4 _
 exact⟨Tn.start hA,T4 _,⟨h,hu,hu⟩,λ _ _ h=>absurd h (UH _),λ _ _ _ _ h=>absurd h (UH _),λ _ h=>absurd h (UH _),λ _ _ _ h=>absurd h (UH _),λ _ _ _ h=>absurd h (UH _)⟩
def SU(f:Nat->Nat):Nat->Nat
 |0=>0
 |n+1=>SU f n+f n
theorem ze{f f':Nat->Nat}:∀ {n:Nat},(∀i,i<n->f' i<=f i)->SU f' n<=SU f n
 |0,_=>Tu _
 |n+1,h=>V2 (ze λ i hi=>h i (UA hi)) (h n (Uz n))
theorem IW{f f':Nat->Nat}{k:Nat}(hlt:f' k<f k):∀ {n:Nat},k<n->(∀i,i<n->f' i<=f i)->SU f' n<SU f n
 |0,hk,_=>absurd hk (UH _)
 |n+1,hk,h=>by
  by_cases e:k=n
  . subst e;exact Nat.add_lt_add_of_le_of_lt (ze λ i hi=>h i (UA hi)) hlt
  . exact Nat.add_lt_add_of_lt_of_le (IW hlt (by omega) λ i hi=>h i (UA hi)) (h n (Uz n))
def mu(A:Rows)(N p:Nat):Nat:=SU (λ i=>(g A i p).natAbs) N
inductive N7(N p:Nat):Nat->B3->Nat->B3->Prop
 |none {top:Nat} {b:B3} (h:jg b.A N top p []):N7 N p top b top b
 |one {top r:Nat} {b c:B3} (h:eL N top p b c) (l:jg c.A N top p [r]):N7 N p top b (top+1) (g_ p top top (setB c p top r))
inductive dP(A:Rows)(N:Nat):Nat->Nat->B3->Prop
 |start:dP A N 0 0 ⟨A,units N,units N⟩
 |next {p t t':Nat} {b b':B3} (h:dP A N p t b) (c:N7 N p t b t' b'):dP A N (p+1) t' b'
def bC(X:Rows)(n w:Nat)(v:Nat->Int):Prop:=∃z:Nat->Int,∀c,c<w->v c=S n λ k=>z k*g X k c
theorem bC.row{X:Rows}{n w k:Nat}(hk:k<n):bC X n w (g X k):=⟨λ i=>dl k i,λ c _=>(lS hk λ i=>g X i c).symm⟩
theorem bC.sub{X:Rows}{n w:Nat}{u v:Nat->Int}(hu:bC X n w u)(hv:bC X n w v):bC X n w λ c=>u c-v c:=by
 obtain⟨y,hy⟩:=hu;obtain⟨z,hz⟩:=hv;refine⟨λ k=>y k-z k,λ c hc=>?_⟩;show u c-v c=S n λ k=>(y k-z k)*g X k c;rw[hy c hc,hz c hc,WG,<-vq,<-fZ];exact aC λ k _=>by rw[Int.sub_mul,WG]
theorem bC.trans{X Y:Rows}{m n w:Nat}{v:Nat->Int}(h:∀k,k<m->bC Y n w (g X k))(hv:bC X m w v):bC Y n w v:=by
 obtain⟨z,hz⟩:=hv
 have h':∀k,∃y:Nat->Int,k<m->∀c,c<w->g X k c=S n λ i=>y i*g Y i c:=λ k=>by
  by_cases hk:k<m
  . obtain⟨y,hy⟩:=h k hk;exact⟨y,λ _=>hy⟩
  . exact⟨λ _=>0,λ h=>absurd h hk⟩
 refine⟨λ i=>S m λ k=>z k*Classical.choose (h' k) i,λ c hc=>?_⟩;rw[hz c hc]
 have e1:S m (λ k=>z k*g X k c)=S m λ k=>S n λ i=>z k*Classical.choose (h' k) i*g Y i c:=aC λ k hk=>by
  rw[Wk (h' k) hk c hc,<-dU];exact aC λ i _=>(Vt _ _ _).symm
 rw[e1,oW];exact aC λ i _=>sf _ _ _
structure eE(X:Rows)(n w:Nat)(ld:Nat->Nat):Prop where
 lead:∀i,i<n->ld i<w/\0<g X i (ld i)/\∀c,c<ld i->g X i c=0
 mono:∀i j,i<j->j<n->ld i<ld j
theorem eE.inj{X:Rows}{n w:Nat}{ld:Nat->Nat}(s:eE X n w ld){i j:Nat}(hi:i<n)(hj:j<n)(h:ld i=ld j):i=j:=by
 rcases Nat.lt_trichotomy i j with q|q|q
 . exact absurd h (Ue (s.mono i j q hj))
 . exact q
 . exact absurd h.symm (Ue (s.mono j i q hi))
theorem eE.gone{X:Rows}{n w q:Nat}{ld:Nat->Nat}{v z:Nat->Int}(s:eE X n w ld)(hz:∀c,c<w->v c=S n λ k=>z k*g X k c)(h0:∀c,c<q->v c=0)(k:Nat):k<n->ld k<q->z k=0:=by
 induction k using Nat.strongRecOn with
 |ind k ih=>
  intro hk hq;obtain⟨h1,h2,h3⟩:=s.lead k hk;have e:=hz (ld k) h1;rw[h0 _ hq,i3 hk λ i hi ne=>?_]at e
  . exact(Int.mul_eq_zero.mp e.symm).resolve_right (XR h2)
  . rcases WH ne with l|l
    . rw[ih i l hi (YE (s.mono i k l hk) hq),UW]
    . rw[(s.lead i hi).2.2 _ (s.mono k i l hi),TR]
theorem eE.at{X:Rows}{n w q:Nat}{ld:Nat->Nat}{v:Nat->Int}(s:eE X n w ld)(hv:bC X n w v)(hq:q<w)(h0:∀c,c<q->v c=0):(∃i,i<n/\ld i=q/\g X i q∣v q)\/v q=0:=by
 obtain⟨z,hz⟩:=hv
 have go:∀k,k<n->ld k≠q->z k*g X k q=0:=λ k hk ne=>by
  rcases WH ne with l|l
  . rw[s.gone hz h0 k hk l,UW]
  . rw[(s.lead k hk).2.2 _ l,TR]
 by_cases h:∃i,i<n/\ld i=q
 . obtain⟨i,hi,e⟩:=h;refine .inl ⟨i,hi,e,z i,?_⟩;rw[hz q hq,i3 hi λ k hk ne=>go k hk λ z=>ne (s.inj hk hi (z.trans e.symm)),UX]
 . refine .inr ?_;rw[hz q hq];exact gG λ k hk=>go k hk λ e=>h ⟨k,hk,e⟩
def Iv(X:Rows)(n:Nat)(ld:Nat->Nat):Prop:=∀i j,i<j->j<n->0<=g X i (ld j)/\g X i (ld j)<g X j (ld j)
theorem uT.Ko{A0:Rows}{N w top p m:Nat}{b0 b:B3}(s:uT A0 N w top p m b0 b){i:Nat}(hi:i<top)(q:Nat):g b.A i q=g b0.A i q/\g b.U i q=g b0.U i q/\g b.C i q=g b0.C i q:=by
 obtain⟨a1,a2,a3⟩:=s.up i hi;unfold g;rw[a1,a2,a3];exact⟨rfl,rfl,rfl⟩
def Sm(b:B3)(N m:Nat):Prop:=∀i c,i<N->(g b.A i c).natAbs<=m/\(g b.U i c).natAbs<=m/\(g b.C i c).natAbs<=m
structure EB(N p t z:Nat)(b:B3):Prop where
 ga:∀c,eL N t p b c->Sm c N (2^z)
 lo:∀c r k,eL N t p b c->jg c.A N t p [r]->k<=t->Sm (g_ p t k (setB c p t r)) N (2^z)
theorem Pc{x y:Int}(hy:y≠0):(qn x y).natAbs<=x.natAbs+y.natAbs:=by
 have h:=oQ (x:=x) hy;have h2:(qn x y*y).natAbs=(qn x y).natAbs*y.natAbs:=Ur _ _;have h3:(qn x y).natAbs<=(qn x y).natAbs*y.natAbs:=Vc _ (Yq.mpr hy);generalize qn x y*y=t at h h2;omega
theorem Ex{n:Nat}{f:Nat->Int}:∀ {N:Nat},n<=N->(∀i,n<=i->i<N->f i=0)->S N f=S n f
 |0,h,_=>by rw[Nat.le_zero.mp h]
 |N+1,h,z=>by
  by_cases e:n=N+1
  . rw[e]
  . have hn:n<=N:=by omega
    show S N f+f N=_;rw[z N hn (Uz N),Vr];exact Ex hn λ i h1 h2=>z i h1 (UA h2)
theorem qJ.in{A:Rows}{N w top e u:Nat}{c:B3}{ld:Nat->Nat}(s:qJ A N w c top w ld e u)(k:Nat)(hk:k<top):bC A N w (g c.A k):=
 ⟨g c.U k,λ q hq=>s.tn.ua k q (T8 hk s.le) hq⟩
theorem qJ.out{A:Rows}{N w top e u:Nat}{c:B3}{ld:Nat->Nat}(s:qJ A N w c top w ld e u)(k:Nat)(hk:k<N):bC c.A top w (g A k):=by
 refine⟨λ i=>g c.C i k,λ q hq=>?_⟩
 have e1:S N (λ i=>g c.C i k*g c.A i q)=g A k q:=by
  have:S N (λ i=>g c.C i k*g c.A i q)=S N λ i=>S N λ j=>g c.C i k*g c.U i j*g A j q:=aC λ i hi=>by
   rw[s.tn.ua i q hi hq,<-dU];exact aC λ j _=>(Vt _ _ _).symm
  rw[this,oW]
  have e2:S N (λ j=>S N λ i=>g c.C i k*g c.U i j*g A j q)=S N λ j=>dl k j*g A j q:=aC λ j hj=>by
   rw[sf,s.tn.bu k j hk hj]
  rw[e2,lS hk λ j=>g A j q]
 rw[<-e1];exact Ex s.le λ i h1 h2=>by rw[s.zs i q h1 h2 hq,TR]
theorem bC.So{X:Rows}{n w:Nat}{u v:Nat->Int}(x:Int)(hu:bC X n w u)(hv:bC X n w v):bC X n w λ c=>u c+x*v c:=by
 obtain⟨y,hy⟩:=hu;obtain⟨z,hz⟩:=hv;refine⟨λ k=>y k+x*z k,λ c hc=>?_⟩;show u c+x*v c=S n λ k=>(y k+x*z k)*g X k c;rw[hy c hc,hz c hc,<-dU,<-fZ];exact aC λ k _=>by rw[Int.add_mul,Vt]
theorem bC.eq{X:Rows}{n w:Nat}{u v:Nat->Int}(hu:bC X n w u)(h:∀c,c<w->v c=u c):bC X n w v:=by
 obtain⟨y,hy⟩:=hu;exact⟨y,λ c hc=>(h c hc).trans (hy c hc)⟩
structure vF(X:Rows)(n:Nat)(Y:Rows)(m w:Nat):Prop where
 to:∀k,k<n->bC Y m w (g X k)
 of:∀k,k<m->bC X n w (g Y k)
theorem bC.zero{X:Rows}{n w:Nat}{v:Nat->Int}(h:∀c,c<w->v c=0):bC X n w v:=
 ⟨λ _=>0,λ c hc=>by rw[h c hc,gG λ k _=>UW _]⟩
theorem qJ.EM{A:Rows}{N w top e u:Nat}{c:B3}{ld:Nat->Nat}(s:qJ A N w c top w ld e u):vF A N c.A top w:=⟨s.out,s.in⟩
theorem GV{K m:Nat}:∀ {n:Nat} {M:Fn},n<=K->(∀r c,r<n->c<n->(M r c).natAbs<=m)->(D n M).natAbs<=(K*m)^n
 |0,_,_,_=>by simp[D]
 |n+1,M,hn,h=>by
  rw[dJ]
  have key:∀j,j<n+1->(sg j*M 0 j*D n λ r c=>M (r+1) (sk j c)).natAbs<=m*(K*m)^n:=λ j hj=>by
   have a:=GV (K:=K) (m:=m) (n:=n) (M:=λ r c=>M (r+1) (sk j c)) (by omega) λ r c hr hc=>h (r+1) (sk j c) (by omega) (jZ hc);have b:=h 0 j (by omega) hj;have s:(sg j).natAbs=1:=by unfold sg;split<;>rfl
   rw[Ur,Ur,s,WR];exact Ut b a
  refine TB (zj key) ?_;rw[Vh,Vp ((K*m)^n),Uu];exact T_ _ hn
theorem pick{t N:Nat}{U B:Fn}(h:∀k l,k<t->l<t->S N (λ i=>U k i*B i l)=dl k l):∃I:Nat->Nat,(∀k,k<t->I k<N)/\D t (λ k l=>B (I k) l)≠0:=by
 apply V0;intro no
 have go:∀s,s<=t->∀I:Nat->Nat,(∀k,k<t->s<=k->I k<N)->D t (λ k l=>if k<s then dl k l else B (I k) l)=0:=by
  intro s;induction s with
  |zero=>
   intro _ I hI;exact V0 λ z=>no ⟨I,λ k hk=>hI k hk (T4 _),z⟩
  |succ s ih=>
   intro hs I hI
   have e:D t (λ k l=>if k<s+1 then dl k l else B (I k) l)=D t (upd (λ k l=>if k<s then dl k l else B (I k) l) s λ l=>S N λ j=>U s j*B j l):=c7 λ k l hk hl=>by
    unfold upd;by_cases h1:k=s
    . subst h1;rw[TC rfl,TC (Uz _)];exact(h k l hk hl).symm
    . rw[Tv h1];show _=if k<s then dl k l else B (I k) l
      by_cases h2:k<s
      . rw[TC (by omega),TC h2]
      . rw[Tv (by omega),Tv h2]
   rw[e,(vz t).wD (by omega)];refine gG λ j hj=>?_
   have e2:=ih (by omega) (λ k=>if k=s then j else I k) λ k hk hsk=>by
    by_cases h1:k=s
    . rw[TC h1];exact hj
    . rw[Tv h1];exact hI k hk (by omega)
   have e3:D t (upd (λ k l=>if k<s then dl k l else B (I k) l) s (B j))=D t (λ k l=>if k<s then dl k l else B (if k=s then j else I k) l):=c7 λ k l hk hl=>by
    unfold upd;by_cases h1:k=s
    . subst h1;rw[TC rfl,Tv (Vl _),TC rfl]
    . rw[Tv h1,Tv h1]
   rw[e3,e2,TR]
 have z:=go t (Tu _) (λ _=>0) λ k h1 h2=>absurd h1 (Nat.not_lt.mpr h2);rw[c7 (M':=dl) λ r c hr hc=>TC hr,xh]at z;exact absurd z (by decide)
theorem lG:∀ {n:Nat} {f:Nat->Int},(∀i,i<n->0<f i)->0<Pr n f
 |0,_,_=>show(0:Int)<1 by decide
 |n+1,f,h=>Int.mul_pos (lG λ i hi=>h i (UA hi)) (h n (Uz n))
theorem vV:∀ {n:Nat} {f:Nat->Int},(∀i,i<n->0<f i)->∀k,k<n->f k<=Pr n f
 |n+1,f,h,k,hk=>by
  have p:=lG λ i hi=>h i (UA hi);have q:=h n (Uz n);show f k<=Pr n f*f n;by_cases e:k=n
  . subst e;have:=Int.mul_le_mul_of_nonneg_right (show(1:Int)<=Pr k f from p) (VC q);omega
  . have a:=vV (λ i hi=>h i (UA hi)) k (by omega);have:=Int.mul_le_mul_of_nonneg_left (show(1:Int)<=f n from q) (VC p);omega
theorem Ew{w x:Int}{m:Nat}(hw:w≠0)(h:(w*x).natAbs<=m):x.natAbs<=m:=by
 rw[Ur]at h;exact TB (Wg _ (by omega)) h
theorem qJ.back{A0:Rows}{N w top e u:Nat}{c:B3}{ld:Nat->Nat}(H:qJ A0 N w c top w ld e u){i q:Nat}(hi:i<N)(hq:q<w):g A0 i q=S top λ k=>g c.C k i*g c.A k q:=by
 have T:=H.tn
 have e1:S N (λ k=>g c.C k i*g c.A k q)=g A0 i q:=by
  have:S N (λ k=>g c.C k i*g c.A k q)=S N λ k=>S N λ m=>g c.C k i*g c.U k m*g A0 m q:=aC λ k hk=>by
   rw[T.ua k q hk hq,<-dU];exact aC λ m _=>(Vt _ _ _).symm
  rw[this,oW];have:(S N λ m=>S N λ k=>g c.C k i*g c.U k m*g A0 m q)=S N λ m=>dl i m*g A0 m q:=aC λ m hm=>by rw[sf,T.bu i m hi hm]
  rw[this,lS hi]
 have cut:∀n,top<=n->n<=N->S n (λ k=>g c.C k i*g c.A k q)=S top λ k=>g c.C k i*g c.A k q:=λ n=>by
  induction n with
  |zero=>intro h _;rw[Nat.le_zero.mp h]
  |succ n ih=>
   intro h h2;by_cases e:top=n+1
   . rw[e]
   . show S n _+g c.C n i*g c.A n q=_;rw[ih (by omega) (by omega),H.zs n q (by omega) (by omega) hq,TR,Vr]
 rw[<-e1,cut N H.le (Tu _)]
structure d7(A0:Rows)(N w:Nat)(b:B3)(top p:Nat)(ld:Nat->Nat)(e u v:Nat):Prop where
 tn:Tn A0 b.A b.U b.C N w
 le:top<=N
 lo:fS b.A N top (2^e)/\fS b.U N top (2^e)/\fS b.C N top (2^e)
 hi:∀i c,i<top->(g b.A i c).natAbs<=2^u/\(g b.U i c).natAbs<=2^u/\(g b.C i c).natAbs<=2^v
 zs:∀i c,top<=i->i<N->c<p->g b.A i c=0
 lead:∀i,i<top->ld i<p/\0<g b.A i (ld i)/\∀c,c<ld i->g b.A i c=0
 mono:∀i j,i<j->j<top->ld i<ld j
 red:∀i j,i<j->j<top->0<=g b.A i (ld j)/\g b.A i (ld j)<g b.A j (ld j)
theorem d7.skip{A0:Rows}{N w top p e u v:Nat}{b:B3}{ld:Nat->Nat}(S:d7 A0 N w b top p ld e u v)(h:jg b.A N top p []):d7 A0 N w b top (p+1) ld e u v:=
 ⟨S.tn,S.le,S.lo,S.hi,λ i c h1 h2 h3=>by
  by_cases hc:c=p
  . subst hc;exact V0 λ z=>absurd ((h.mem i).mpr ⟨h1,h2,z⟩) (by simp)
  . exact S.zs i c h1 h2 (by omega),λ i hi=>⟨UA (S.lead i hi).1,(S.lead i hi).2⟩,S.mono,S.red⟩
structure lg(A0:Rows)(N w top p e u v:Nat)(b:B3)(k:Nat)(c:B3):Prop where
 tn:Tn A0 c.A c.U c.C N w
 rA:∀i,k<=i->c.A.getD i []=b.A.getD i []/\c.U.getD i []=b.U.getD i []
 rC:∀i,i≠top->c.C.getD i []=b.C.getD i []
 ah:∀i q,i<k->q<p->g c.A i q=g b.A i q
 rd:∀i,i<k->0<=g c.A i p/\g c.A i p<g c.A top p
 sz:∀i q,i<k->(g c.A i q).natAbs<=2^(u+e+1)/\(g c.U i q).natAbs<=2^(u+e+1)
 sC:∀q,(g c.C top q).natAbs<=2^e+k*2^(u+v)
theorem lg.step{A0:Rows}{N w top p e u v k:Nat}{b c:B3}(I:lg A0 N w top p e u v b k c)(hk:k<top)(ht:top<N)(hp:p<w)(htp:0<g b.A top p)(hz:∀q,q<p->g b.A top q=0)
 (hlo:∀q,(g b.A top q).natAbs<=2^e/\(g b.U top q).natAbs<=2^e) (hhi:∀i q,i<top->(g b.A i q).natAbs<=2^u/\(g b.U i q).natAbs<=2^u/\(g b.C i q).natAbs<=2^v):
 lg A0 N w top p e u v b (k+1) ⟨aS c.A k ((g c.A k p).fdiv (g c.A top p)) top,aS c.U k ((g c.A k p).fdiv (g c.A top p)) top,aS c.C top (-((g c.A k p).fdiv (g c.A top p))) k⟩:=by
 have hkN:k<N:=by omega
 have gA:∀i q,k<=i->g c.A i q=g b.A i q:=λ i q hi=>by unfold g;rw[(I.rA i hi).1]
 have gU:∀i q,k<=i->g c.U i q=g b.U i q:=λ i q hi=>by unfold g;rw[(I.rA i hi).2]
 have gC:∀i q,i≠top->g c.C i q=g b.C i q:=λ i q hi=>by unfold g;rw[I.rC i hi]
 have qe:((g c.A k p).fdiv (g c.A top p)).natAbs<=2^u:=by
  rw[gA k p (Tu _),gA top p (by omega)];exact TB (An _ htp) (hhi k p hk).1
 have hq:∀x:Int,x.natAbs<=2^e->((g c.A k p).fdiv (g c.A top p)*x).natAbs<=2^(u+e):=λ x hx=>by
  rw[Ur,VA];exact Ut qe hx
 have le1:2^u<=2^(u+e):=TV (by decide) (by omega);refine⟨I.tn.take hkN ht (by omega),λ i hi=>?_,λ i hi=>?_,λ i q hi hqp=>?_,λ i hi=>?_,λ i q hi=>?_,λ q=>?_⟩
 . exact⟨(jR (by rw[I.tn.isA.len];exact hkN) (by omega)).trans (I.rA i (by omega)).1,(jR (by rw[I.tn.fm.len];exact hkN) (by omega)).trans (I.rA i (by omega)).2⟩
 . exact(jR (by rw[I.tn.fI.len];exact ht) hi).trans (I.rC i hi)
 . show g (aS c.A k _ top) i q=_;rw[dc I.tn.isA hkN ht];split
   . rename_i h;rw[gA top q (by omega),hz q hqp,TR,gA k q (Tu _),h];omega
   . exact I.ah i q (by omega) hqp
 . show 0<=g (aS c.A k _ top) i p/\g (aS c.A k _ top) i p<g (aS c.A k _ top) top p;rw[dc I.tn.isA hkN ht,dc I.tn.isA hkN ht,Tv (show¬top=k by omega)];split
   . have h1:=Yp (g c.A k p) (g c.A top p);have htp':0<g c.A top p:=by rw[gA top p (by omega)];exact htp
     have h2:=Vj (g c.A k p) htp';have h3:=Vy (g c.A k p) htp';rw[UX]at h1;omega
   . exact I.rd i (by omega)
 . show(g (aS c.A k _ top) i q).natAbs<=_/\(g (aS c.U k _ top) i q).natAbs<=_;rw[dc I.tn.isA hkN ht,dc I.tn.fm hkN ht];split
   . have a1:=hq (g c.A top q) (by rw[gA top q (by omega)];exact(hlo q).1);have a2:=hq (g c.U top q) (by rw[gU top q (by omega)];exact(hlo q).2);rw[gA k q (Tu _),gU k q (Tu _)];have b1:=(hhi k q hk).1;have b2:=(hhi k q hk).2.1;rw[Vh];omega
   . exact I.sz i q (by omega)
 . show(g (aS c.C top _ k) top q).natAbs<=_;rw[dc I.tn.fI ht hkN,TC rfl,gC k q (by omega),Yb];have a1:=I.sC q
   have a2:((g c.A k p).fdiv (g c.A top p)*g b.C k q).natAbs<=2^(u+v):=by
    rw[Ur,VA];exact Ut qe (hhi k q hk).2.2
   rw[VQ,WR];omega
theorem lg.start{A0:Rows}{N w top p e u v:Nat}{b:B3}(T:Tn A0 b.A b.U b.C N w)(h:∀q,(g b.C top q).natAbs<=2^e):lg A0 N w top p e u v b 0 b:=
 ⟨T,λ _ _=>⟨rfl,rfl⟩,λ _ _=>rfl,λ _ _ h=>absurd h (UH _),λ _ h=>absurd h (UH _),λ _ _ h=>absurd h (UH _),λ q=>by rw[Nat.zero_mul];exact h q⟩
theorem d7.start{A:Rows}{N w e:Nat}(hA:aP N w A)(h:fS A N 0 (2^e)):d7 A N w ⟨A,units N,units N⟩ 0 0 (λ _=>0) e 0 0:=by
 have S:=qJ.start hA h;exact⟨S.tn,S.le,S.lo,S.hi,S.zs,S.lead,S.mono,S.red⟩
theorem d7.Gq{A0:Rows}{N w top p e u v:Nat}{b:B3}{ld:Nat->Nat}(S:d7 A0 N w b top p ld e u v):qJ A0 N w b top p ld e (u+v):=
 ⟨S.tn,S.le,S.lo,λ i c hi=>⟨TB (S.hi i c hi).1 (TV (by decide) (by omega)),TB (S.hi i c hi).2.1 (TV (by decide) (by omega)),TB (S.hi i c hi).2.2 (TV (by decide) (by omega))⟩,S.zs,S.lead,S.mono,S.red⟩
theorem ph{X:Rows}{r:Row}{k:Nat}(hk:k<=X.length)(i:Nat):(X.take k++r::X.drop k).getD i []=if i<k then X.getD i []else if i=k then r else X.getD (i-1) []:=by
 have lt:(X.take k).length=k:=by rw[UY];omega
 rw[Ug,Ug,Ug];by_cases h:i<k
 . rw[TC h,TF (by rw[lt];exact h),WB h]
 . rw[Tv h,Uc (by rw[lt];omega),lt];by_cases h2:i=k
   . rw[TC h2,h2,Vg];rfl
   . rw[Tv h2];have:i-k=(i-1-k)+1:=by omega
     rw[this,WM,List.getElem?_drop];congr 2;omega
theorem bC.smul{X:Rows}{n w:Nat}{v:Nat->Int}(x:Int)(h:bC X n w v):bC X n w λ c=>x*v c:=
 ((bC.zero (v:=λ _=>0) λ _ _=>rfl).So x h).eq λ c _=>(VV _).symm
structure nM(F:Rows)(w:Nat)(ld:Nat->Nat)(row:Nat->Int)(i:Nat)(o:Int)(L:Nat->Int):Prop where
 pos:0<o
 sum:bC F i w λ c=>o*row c-L c
 off:∀k,k<i->L (ld k)=0
 least:∀(m:Int) (v:Nat->Int),bC F i w v->(∀k,k<i->m*row (ld k)=v (ld k))->o∣m
theorem eE.Qy{F:Rows}{n w:Nat}{ld:Nat->Nat}{v:Nat->Int}(s:eE F n w ld)(hv:bC F n w v)(h:∀k,k<n->0<=v (ld k)/\v (ld k)<g F k (ld k))(c:Nat):c<w->v c=0:=by
 induction c using Nat.strongRecOn with
 |ind c ih=>
  intro hc;rcases s.at hv hc λ d hd=>ih d hd (YE hd hc)with⟨k,hk,rfl,d⟩|q
  . have:=h k hk;exact Wv d (by omega)
  . exact q
def Kn(F:Rows)(i:Nat):Nat:=(F.getD i []).findIdx (λ x=>x != 0)
section
variable {F:Rows}{r:Row}{m w:Nat}(isF:aP m w F)(lr:r.length=w)
include isF lr
end
theorem wW(a:Nat)(f:Nat->Int):∀b,S (a+b) f=S a f+S b λ i=>f (a+i)
 |0=>(Vr _).symm
 |b+1=>by
  show S (a+b) f+f (a+b)=S a f+(S b (λ i=>f (a+i))+f (a+b));rw[wW a f b,Int.add_assoc]
theorem eE.G7{X:Rows}{n w:Nat}{ld:Nat->Nat}{v z:Nat->Int}(s:eE X n w ld)(hz:∀c,c<w->v c=S n λ k=>z k*g X k c){j:Nat}(hj:j<=n)(h0:∀l,l<j->v (ld l)=0)(l:Nat):l<j->z l=0:=by
 induction l using Nat.strongRecOn with
 |_ l ih=>
  intro hl;obtain⟨h1,h2,_⟩:=s.lead l (by omega);have e:=hz _ h1
  rw[h0 l hl,i3 (k:=l) (by omega) λ k hk hne=>by
   rcases WH hne with q|q
   . rw[ih k q (by omega),UW]
   . rw[(s.lead k hk).2.2 _ (s.mono l k q hk),TR]]at e
  rcases Int.mul_eq_zero.mp e.symm with q|q
  . exact q
  . omega
theorem eE.SX{X:Rows}{n w:Nat}{ld:Nat->Nat}{v z:Nat->Int}(s:eE X n w ld)(hz:∀c,c<w->v c=S n λ k=>z k*g X k c){j:Nat}(hj:j<n)(h0:∀l,l<j->v (ld l)=0):v (ld j)=z j*g X j (ld j):=by
 obtain⟨h1,h2,_⟩:=s.lead j hj;rw[hz _ h1]
 exact i3 hj λ k hk hne=>by
  rcases WH hne with q|q
  . rw[s.G7 hz (UO hj) h0 k q,UW]
  . rw[(s.lead k hk).2.2 _ (s.mono j k q hk),TR]
theorem eE.nil{X:Rows}{n w:Nat}{ld:Nat->Nat}{v:Nat->Int}(s:eE X n w ld)(hv:bC X n w v)(h0:∀l,l<n->v (ld l)=0)(c:Nat)(hc:c<w):v c=0:=by
 obtain⟨z,hz⟩:=hv;rw[hz c hc];exact gG λ k hk=>by rw[s.G7 hz (Tu n) h0 k hk,UW]
theorem bC.j6{X:Rows}{n w:Nat}{u v:Nat->Int}(a:Int)(hu:bC X n w u)(hv:bC X n w v):bC X n w λ c=>u c+a*v c:=by
 obtain⟨y,hy⟩:=hu;obtain⟨z,hz⟩:=hv;refine⟨λ k=>y k+a*z k,λ c hc=>?_⟩;show u c+a*v c=S n λ k=>(y k+a*z k)*g X k c;rw[hy c hc,hz c hc,<-dU,<-fZ];exact aC λ k _=>by rw[Int.add_mul,Vt]
theorem bC.comb{X:Rows}{n w:Nat}{a:Nat->Int}{v:Nat->Nat->Int}:∀ {m:Nat},(∀l,l<m->bC X n w (v l))->bC X n w λ c=>S m λ l=>a l*v l c
 |0,_=>⟨λ _=>0,λ c _=>(gG λ k _=>UW _).symm⟩
 |m+1,h=>bC.j6 (a m) (bC.comb (m:=m) λ l hl=>h l (by omega)) (h m (Uz m))
theorem S0{X:Rows}{n w M:Nat}{ld:Nat->Nat}{d:Int}{v:Nat->Nat->Int}(s:eE X n w ld)(r:Iv X n ld)(hd:d≠0)(hv:∀l,l<n->bC X n w (v l))(hl:∀l j,l<n->j<n->v l (ld j)=d*dl l j)(hb:∀l c,l<n->c<w->(v l c).natAbs<=M):∀i c,i<n->c<w->(g X i c).natAbs<=n*M:=λ i c hi hc=>by
 have le:∀j,j<n->(g X j (ld j)).natAbs<=d.natAbs:=λ j hj=>by
  obtain⟨z,hz⟩:=hv j hj;have e:=s.SX hz hj λ l h=>by rw[hl j l hj (by omega),bq (by omega),TR]
  rw[hl j j hj hj,bx,U_]at e;rw[e,Ur];refine Wg _ (Yq.mpr λ q=>hd ?_);rw[e,q,UW]
 have bd:∀l,l<n->(g X i (ld l)).natAbs<=d.natAbs:=λ l h=>by
  have h1:=le l h;rcases Nat.lt_trichotomy i l with q|q|q
  . have:=r i l q h;omega
  . rw[q];exact h1
  . rw[(s.lead i hi).2.2 _ (s.mono l i q hi)];exact T4 _
 have e:d*g X i c=S n λ l=>g X i (ld l)*v l c:=by
  have y:bC X n w λ c=>(0*g X i c+d*g X i c)-S n λ l=>g X i (ld l)*v l c:=bC.sub (bC.j6 d (bC.eq (u:=λ c=>S 0 λ _=>0) (bC.comb (m:=0) (a:=λ _=>0) (v:=λ _ _=>0) λ l h=>absurd h (UH _)) λ c _=>UW _) (bC.row hi)) (bC.comb hv)
  have:=s.nil y (λ l h=>by
   obtain⟨h1,_⟩:=s.lead l h
   have e:(S n λ k=>g X i (ld k)*v k (ld l))=d*g X i (ld l):=by
    rw[i3 h λ k hk hne=>by rw[hl k l hk h,bq hne,TR,TR],hl l l h h,bx,U_,UX]
   show(0*g X i (ld l)+d*g X i (ld l))-(S n λ k=>g X i (ld k)*v k (ld l))=0;rw[e];omega) c hc
  simp only[UW,VV]at this;omega
 have b2:(d*g X i c).natAbs<=n*(d.natAbs*M):=by
  rw[e];exact zj λ l h=>by rw[Ur];exact Ut (bd l h) (hb l c h hc)
 rw[Ur,Vo]at b2;exact Nat.le_of_mul_le_mul_left b2 (Yq.mpr hd)
theorem PQ{t l j:Nat}{M:Fn}(hl:l<t)(hj:j<t):D t (upd M l (M j))=D t M*dl l j:=by
 by_cases h:l=j
 . subst h;rw[bx,U_]
   exact c7 λ r c _ _=>by
    by_cases q:r=l
    . subst q;exact cz ..
    . exact aw q c
 . rw[bq h,TR];exact(vz t).alt l j _ hl hj h λ c _=>by rw[cz,aw (TK h)]
theorem Sj{t l:Nat}{M:Fn}{x y:Nat->Int}(h:∀c,c<t->x c=y c):D t (upd M l x)=D t (upd M l y):=c7 λ r c _ hc=>by
 unfold upd;split
 . exact h c hc
 . rfl
theorem RH{A B:Fn}{G:Rows}{t w b:Nat}{ld:Nat->Nat}(s:eE G t w ld)(r:Iv G t ld)(t8:t<=9)(hA:∀i c,i<t->c<w->(A i c).natAbs<=b)(hAB:∀i c,i<t->c<w->A i c=S t λ k=>B i k*g G k c)(hB:D t B≠0):∀k c,k<t->c<w->(g G k c).natAbs<=t*(9*b)^t:=by
 have hd:D t (λ r i=>A i (ld r))≠0:=by
  have e1:D t (λ r i=>A i (ld r))=D t (λ i r=>A i (ld r)):=NQ t λ i r=>A i (ld r)
  have e2:D t (λ i r=>A i (ld r))=D t B*D t λ k r=>g G k (ld r):=by
   rw[<-DM];exact c7 λ i r hi hr=>hAB i _ hi (s.lead r hr).1
  rw[e1,e2,IS λ r c hr hc h=>(s.lead r hr).2.2 _ (s.mono c r h hr)];exact Int.mul_ne_zero hB (XR (lG λ i hi=>(s.lead i hi).2.1))
 refine S0 (v:=λ l c=>D t (upd (λ r i=>A i (ld r)) l λ i=>A i c)) s r hd (λ l hl=>?_) (λ l j hl hj=>PQ (M:=λ r i=>A i (ld r)) hl hj) λ l c hl hc=>GV (K:=9) t8 λ r i hr hi=>?_
 . refine⟨λ k=>D t (upd (λ r i=>A i (ld r)) l λ i=>B i k),λ c hc=>?_⟩;have e:=(vz t).wD hl (λ r i=>A i (ld r)) (λ k=>g G k c) (λ k i=>B i k) t;show D t (upd (λ r i=>A i (ld r)) l λ i=>A i c)=_;rw[Sj λ i hi=>(hAB i c hi hc).trans (aC λ k _=>UX _ _),e];exact aC λ k _=>UX _ _
 . unfold upd;split
   . exact hA i c hi hc
   . exact hA i _ hi (s.lead r hr).1
theorem vF.picked{A F:Rows}{N m w:Nat}{ld:Nat->Nat}(st:eE F m w ld)(same:vF A N F m w):∃(I:Nat->Nat) (B:Fn),(∀k,k<m->I k<N)/\(∀i c,i<m->c<w->g A (I i) c=S m λ k=>B i k*g F k c)/\D m B≠0:=by
 have hB:∀i,∃z:Nat->Int,i<N->∀c,c<w->g A i c=S m λ k=>z k*g F k c:=λ i=>by
  by_cases h:i<N
  . obtain⟨z,hz⟩:=same.to i h;exact⟨z,λ _=>hz⟩
  . exact⟨λ _=>0,λ z=>absurd z h⟩
 have hU:∀k,∃z:Nat->Int,k<m->∀c,c<w->g F k c=S N λ i=>z i*g A i c:=λ k=>by
  by_cases h:k<m
  . obtain⟨z,hz⟩:=same.of k h;exact⟨z,λ _=>hz⟩
  . exact⟨λ _=>0,λ z=>absurd z h⟩
 let B:Fn:=λ i=>Classical.choose (hB i)
 let U:Fn:=λ k=>Classical.choose (hU k)
 have eB:∀i,i<N->∀c,c<w->g A i c=S m λ k=>B i k*g F k c:=λ i=>Wk (hB i);have eU:∀k,k<m->∀c,c<w->g F k c=S N λ i=>U k i*g A i c:=λ k=>Wk (hU k)
 obtain⟨I,h1,h2⟩:=pick (t:=m) (N:=N) (U:=U) (B:=B) λ k l hk hl=>by
  have e1:∀c,c<w->S m (λ l=>(S N λ i=>U k i*B i l)*g F l c)=g F k c:=λ c hc=>by
   rw[eU k hk c hc]
   have:(S N λ i=>U k i*g A i c)=S N λ i=>S m λ l=>U k i*B i l*g F l c:=aC λ i hi=>by
    rw[eB i hi c hc,<-dU];exact aC λ l _=>(Vt _ _ _).symm
   rw[this,oW];exact aC λ l _=>(sf _ _ _).symm
  have e2:∀c,c<w->(0:Int)=S m λ l=>((S N λ i=>U k i*B i l)-dl k l)*g F l c:=λ c hc=>by
   have h1:(S m λ l=>((S N λ i=>U k i*B i l)-dl k l)*g F l c)=S m (λ l=>(S N λ i=>U k i*B i l)*g F l c)-S m λ l=>dl k l*g F l c:=by
    rw[WG,<-vq,<-fZ];exact aC λ l _=>by rw[Int.sub_mul,WG]
   rw[h1,e1 c hc,lS hk,Int.sub_self]
  have e3:(S N λ i=>U k i*B i l)-dl k l=0:=st.gone (v:=λ _=>0) (z:=λ l=>(S N λ i=>U k i*B i l)-dl k l) (q:=w) e2 (λ _ _=>rfl) l hl (st.lead l hl).1;omega
 exact⟨I,λ i=>B (I i),h1,λ i c hi hc=>eB _ (h1 i hi) c hc,h2⟩
def Ln(A:Rows)(N:Nat):Rows:=(List.range N).map λ n=>A.getD n []++iZ N n
structure Tc(A F:Rows)(N w m h:Nat):Prop where
 hA:aP N w A
 is:aP m (w+N) F
 st:eE F m (w+N) (Kn F)
 red:Iv F m (Kn F)
 same:vF (Ln A N) N F m (w+N)
 le:h<=m
 lo:∀i,i<h->Kn F i<w
 hi:∀i,h<=i->i<m->w<=Kn F i
section
variable {A F:Rows}{N w m h:Nat}(L:Tc A F N w m h)
include L
end
theorem ID{a b a' q s t s' C:Nat}(hb:0<b)(hba:b<=a)(hq:2*(q*b)<=2*a+b)(ha':2*a'<=b)(hs:s*(a*(a*a))<=C)(ht:t*(a*(b*b))<=C)(h:s'<=s+q*t):s'*(b*(a'*a'))<=C/\2*s'<=5*C:=by
 have ha:0<a:=T8 hb hba;have e1:2*(q*b)*t<=3*a*t:=T_ t (by omega)
 have e2:2*(q*b)*t*(b*b)<=3*C:=by
  refine TB (T_ (b*b) e1) ?_
  have:3*a*t*(b*b)=3*(t*(a*(b*b))):=by
   rw[Uu 3 a t,Vp a t,Uu 3,Uu t a]
  rw[this];exact Uk 3 ht
 have e3:s*(b*(b*b))<=C:=TB (Uk s (Ut hba (Ut hba hba))) hs;constructor
 . have f1:4*(a'*a')<=b*b:=by
    have:=Ut ha' ha'
    have e:2*a'*(2*a')=4*(a'*a'):=by
     rw[Uu,<-Uu a' 2 a',Vp a' 2,Uu 2 a' a',<-Uu]
    rwa [e]at this
   have f2:s'*(b*(b*b))<=s*(b*(b*b))+q*t*(b*(b*b)):=by
    rw[<-VQ];exact T_ _ h
   have f3:2*(q*t*(b*(b*b)))=2*(q*b)*t*(b*b):=by
    rw[<-Uu (q*t) b (b*b),<-Uu 2,Xp q t b,<-Uu 2]
   have f4:4*(s'*(b*(a'*a')))<=s'*(b*(b*b)):=by
    have e:4*(s'*(b*(a'*a')))=s'*(b*(4*(a'*a'))):=by
     rw[Vo 4 s',Vo 4 b]
    rw[e];exact Uk _ (Uk _ f1)
   omega
 . have g1:s<=C:=TB (Vc s (Yc ha (Yc ha ha))) hs
   have g2:q*t<=q*b*t*(b*b):=by
    have h1:q*t<=q*b*t:=by
     rw[Xp];exact Vc _ hb
    exact TB h1 (Vc _ (Yc hb hb))
   have g3:2*(q*b*t*(b*b))=2*(q*b)*t*(b*b):=by
    rw[<-Uu 2,<-Uu 2]
   omega
theorem HI{a b a' q cg cs:Nat}(hb:0<b)(hba:b<=a)(ha':2*a'<=b)(hq:a=q*b+a'\/q*b=a+a'):b*b*(cg*a'+(cs+q*cg)*b)<=a*a*(cg*a+cs*b):=by
 have bb:b*b<=a*a:=Ut hba hba
 have e0:cg*a'+(cs+q*cg)*b=cg*(a'+q*b)+cs*b:=by
  rw[VQ,WS,Xp q cg b,Vp (q*b) cg];omega
 rw[e0];by_cases z:a'=0
 . subst z;have:a=q*b:=by omega
   rw[YC,<-this];exact T_ _ bb
 rcases hq with h|h
 . rw[show a'+q*b=a by omega];exact T_ _ bb
 have q2:2<=q:=by
  rcases VD q 2 with y|y
  . have:q=0\/q=1:=by omega
    rcases this with rfl|rfl
    . omega
    . omega
  . exact y
 have qb:2*b<=q*b:=T_ b q2;have a3:3*b<=2*a:=by omega
 have sq:9*(b*b)<=4*(a*a):=by
  have:=Ut a3 a3;have e1:3*b*(3*b)=9*(b*b):=by rw[Uu,Vo b 3 b,<-Uu]
  have e2:2*a*(2*a)=4*(a*a):=by rw[Uu,Vo a 2 a,<-Uu]
  rwa [e1,e2]at this
 have key:b*b*(a'+q*b)<=a*a*a:=by
  have h1:a'+q*b<=a+b:=by omega
  have h2:b*b*(a'+q*b)<=b*b*(a+b):=Uk _ h1;have h3:9*(b*b)*a<=4*(a*a)*a:=T_ a sq;have h4:b*b*b<=b*b*a:=Uk _ hba;rw[WS (b*b) a b]at h2;rw[Uu 9,Uu 4]at h3;omega
 rw[WS (b*b),WS (a*a)];refine V2 ?_ (T_ _ bb);rw[Vo (b*b) cg,Vo (a*a) cg];exact Uk cg key
theorem w9{x y:Int}(hy:y≠0)(hxy:y.natAbs<=x.natAbs):x.natAbs=(qn x y).natAbs*y.natAbs+(x-qn x y*y).natAbs\/(qn x y).natAbs*y.natAbs=x.natAbs+(x-qn x y*y).natAbs:=by
 have h:=oQ (x:=x) hy;rw[<-Ur];generalize qn x y*y=z at h;omega
def Gz(X A:Rows)(N top p gm K:Nat):Prop:=∀i c,top<=i->i<N->(g X i c).natAbs*(gm*((g A i p).natAbs*(g A i p).natAbs))<=K/\2*(g X i c).natAbs<=5*K
theorem Gz.step{X A:Rows}{N w wA top p gm K k j:Nat}(hX:aP N w X)(hA:aP N wA A)(hk:k<N)(hj:j<N)(hkt:top<=k)(hjt:top<=j)(hj0:g A j p≠0)(hle:(g A j p).natAbs<=(g A k p).natAbs)(hgm:(g A k p).natAbs<=gm)(h:Gz X A N top p gm K):Gz (aS X k (qn (g A k p) (g A j p)) j) (aS A k (qn (g A k p) (g A j p)) j) N top p (g A j p).natAbs K:=λ i c hi hN=>by
 by_cases hik:i=k
 . rw[hik,dc hX hk hj,TC rfl,dc hA hk hj,TC rfl];have r:=oQ (x:=g A k p) hj0
   have q2:2*((qn (g A k p) (g A j p)).natAbs*(g A j p).natAbs)<=2*(g A k p).natAbs+(g A j p).natAbs:=by
    rcases w9 hj0 hle with z|z<;>omega
   refine ID (by omega) hle q2 r (TB (Uk _ (T_ _ hgm)) (h k c hkt hk).1) (TB (Uk _ (T_ _ hgm)) (h j c hjt hj).1) ?_;have h1:=Int.natAbs_sub_le (g X k c) (qn (g A k p) (g A j p)*g X j c);rw[Ur]at h1;exact h1
 . rw[dc hX hk hj,Tv hik,dc hA hk hj,Tv hik];exact⟨TB (Uk _ (T_ _ (TB hle hgm))) (h i c hi hN).1,(h i c hi hN).2⟩
theorem AV{f f':Nat->Nat}{k:Nat}(h:∀i,i≠k->f' i=f i):∀ {n:Nat},k<n->SU f' n+f k=SU f n+f' k
 |0,hk=>absurd hk (UH _)
 |n+1,hk=>by
  show SU f' n+f' n+f k=SU f n+f n+f' k;by_cases e:k=n
  . subst e;have:SU f' k=SU f k:=Nat.le_antisymm (ze λ i hi=>by rw[h i (by omega)];exact Tu _) (ze λ i hi=>by rw[h i (by omega)];exact Tu _);omega
  . have:=AV h (n:=n) (by omega);have:=h n (by omega);omega
theorem E4{f f':Nat->Nat}{j k n:Nat}(hj:j<n)(hk:k<n)(hjk:j≠k)(h:∀i,i≠j->i≠k->f' i=f i):SU f' n+(f j+f k)=SU f n+(f' j+f' k):=by
 have h1:=AV (f:=f) (f':=λ i=>if i=j then f' j else f i) (k:=j) (λ i hi=>Tv hi) hj
 have h2:=AV (f:=λ i=>if i=j then f' j else f i) (f':=f') (k:=k) (λ i hi=>by
  by_cases z:i=j
  . rw[TC z,z]
  . rw[Tv z];exact h i z hi) hk
 rw[TC rfl]at h1;rw[Tv (TK hjk)]at h2;omega
theorem JK{f:Nat->Nat}{k:Nat}:∀ {n:Nat},k<n->f k<=SU f n
 |0,hk=>absurd hk (UH _)
 |n+1,hk=>by
  show f k<=SU f n+f n;by_cases e:k=n
  . subst e;omega
  . have:=JK (f:=f) (k:=k) (n:=n) (by omega);omega
def Fc(C A:Rows)(top p c i:Nat):Nat:=if top<=i then(g C i c).natAbs*(g A i p).natAbs else 0
structure Sc(C A:Rows)(N top p gm K:Nat):Prop where
 sum:∀c,gm*gm*SU (Fc C A top p c) N<=K
 all:∀i c,top<=i->i<N->(g C i c).natAbs<=K
theorem Sc.step{C A:Rows}{N w wA top p gm K k j:Nat}(hC:aP N w C)(hA:aP N wA A)(hk:k<N)(hj:j<N)(hkt:top<=k)(hjt:top<=j)(hjk:j≠k)(hj0:g A j p≠0)(hle:(g A j p).natAbs<=(g A k p).natAbs)(hgm:(g A k p).natAbs<=gm)(h:Sc C A N top p gm K):Sc (aS C j (-(qn (g A k p) (g A j p))) k) (aS A k (qn (g A k p) (g A j p)) j) N top p (g A j p).natAbs K:=by
 have r:=oQ (x:=g A k p) hj0;have side:=w9 hj0 hle;have b0:0<(g A j p).natAbs:=by omega
 have gC:∀i c,g (aS C j (-(qn (g A k p) (g A j p))) k) i c=if i=j then g C j c- -(qn (g A k p) (g A j p))*g C k c else g C i c:=λ i c=>dc hC hj hk i c
 have gA:∀i c,g (aS A k (qn (g A k p) (g A j p)) j) i c=if i=k then g A k c-qn (g A k p) (g A j p)*g A j c else g A i c:=λ i c=>dc hA hk hj i c
 have sum:∀c,(g A j p).natAbs*(g A j p).natAbs*SU (Fc (aS C j (-(qn (g A k p) (g A j p))) k) (aS A k (qn (g A k p) (g A j p)) j) top p c) N<=K:=λ c=>by
  have k1:Fc (aS C j (-(qn (g A k p) (g A j p))) k) (aS A k (qn (g A k p) (g A j p)) j) top p c k=(g C k c).natAbs*(g A k p-qn (g A k p) (g A j p)*g A j p).natAbs:=by
   unfold Fc;rw[TC hkt,gC,Tv (TK hjk),gA,TC rfl]
  have j1:Fc (aS C j (-(qn (g A k p) (g A j p))) k) (aS A k (qn (g A k p) (g A j p)) j) top p c j<=((g C j c).natAbs+(qn (g A k p) (g A j p)).natAbs*(g C k c).natAbs)*(g A j p).natAbs:=by
   unfold Fc;rw[TC hjt,gC,TC rfl,gA,Tv hjk];refine T_ _ ?_;have h1:=Int.natAbs_sub_le (g C j c) (-(qn (g A k p) (g A j p))*g C k c);rw[Ur,VM]at h1;exact h1
  have k0:Fc C A top p c k=(g C k c).natAbs*(g A k p).natAbs:=by unfold Fc;rw[TC hkt]
  have j0:Fc C A top p c j=(g C j c).natAbs*(g A j p).natAbs:=by unfold Fc;rw[TC hjt]
  have same:∀i,i≠j->i≠k->Fc (aS C j (-(qn (g A k p) (g A j p))) k) (aS A k (qn (g A k p) (g A j p)) j) top p c i=Fc C A top p c i:=λ i h1 h2=>by
   unfold Fc;rw[gC,Tv h1,gA,Tv h2]
  have main:=HI (cg:=(g C k c).natAbs) (cs:=(g C j c).natAbs) b0 hle r side;have H:=h.sum c;generalize Fc (aS C j (-(qn (g A k p) (g A j p))) k) (aS A k (qn (g A k p) (g A j p)) j) top p c=f' at k1 j1 same;generalize Fc C A top p c=f at k0 j0 same H;have t1:=E4 (f:=λ i=>if i=j\/i=k then 0 else f i) (f':=f) hj hk hjk λ i h1 h2=>(Tv (by omega)).symm;have t2:=E4 (f:=λ i=>if i=j\/i=k then 0 else f i) (f':=f') hj hk hjk λ i h1 h2=>(same i h1 h2).trans (Tv (by omega)).symm;rw[TC (.inl rfl),TC (.inr rfl)]at t1 t2;generalize SU (λ i=>if i=j\/i=k then 0 else f i) N=R at t1 t2;have e1:SU f' N=R+(f' k+f' j):=by omega
  have e2:SU f N=R+(f k+f j):=by omega
  rw[e2,k0,j0]at H;rw[e1];refine TB ?_ H;have bg:(g A j p).natAbs*(g A j p).natAbs<=gm*gm:=Ut (TB hle hgm) (TB hle hgm);have ag:(g A k p).natAbs*(g A k p).natAbs<=gm*gm:=Ut hgm hgm;rw[WS _ R,WS (gm*gm) R];refine V2 (T_ _ bg) ?_;refine TB (Uk _ (V2 (W0 k1) j1)) (TB main (T_ _ ag))
 refine⟨sum,λ i c hi hN=>?_⟩;by_cases hij:i=j
 . rw[hij];refine TB ?_ (sum c)
   have h1:Fc (aS C j (-(qn (g A k p) (g A j p))) k) (aS A k (qn (g A k p) (g A j p)) j) top p c j=(g (aS C j (-(qn (g A k p) (g A j p))) k) j c).natAbs*(g A j p).natAbs:=by
    unfold Fc;rw[TC hjt,gA,Tv hjk]
   have h2:=JK (f:=Fc (aS C j (-(qn (g A k p) (g A j p))) k) (aS A k (qn (g A k p) (g A j p)) j) top p c) hj;rw[h1]at h2;refine TB (TB (Vc _ b0) h2) (Wg _ (Yc b0 b0))
 . rw[gC,Tv hij];exact h.all i c hi hN
structure Gb(A0:Rows)(N w top p K KC gm:Nat)(b0 b:B3):Prop where
 tn:Tn A0 b.A b.U b.C N w
 up:∀i,i<top->b.A.getD i []=b0.A.getD i []/\b.U.getD i []=b0.U.getD i []/\b.C.getD i []=b0.C.getD i []
 mx:∀i,top<=i->i<N->(g b.A i p).natAbs<=gm
 sA:Gz b.A b.A N top p gm K
 sU:Gz b.U b.A N top p gm K
 sC:Sc b.C b.A N top p gm KC
 zs:∀i c,top<=i->i<N->c<p->g b.A i c=0
 Pw:b=b0\/∃j,top<=j/\j<N/\g b.A j p≠0
theorem Gb.step{A0:Rows}{N w top p K KC gm:Nat}{b0 b:B3}{L:List Nat}{k j:Nat}(G:Gb A0 N w top p K KC gm b0 b)(hL:jg b.A N top p (L++[j,k])):
 Gb A0 N w top p K KC (g b.A j p).natAbs b0 (pP b p k j)/\(g (pP b p k j).A k p).natAbs<(g b.A k p).natAbs/\(∀i,i≠k->g (pP b p k j).A i p=g b.A i p)/\top<=k/\k<N/\top<=j/\j<N/\j≠k/\g b.A j p≠0/\(qn (g b.A k p) (g b.A j p)).natAbs<=2*(g b.A k p).natAbs:=by
 obtain⟨hk1,hk2,hk3⟩:=(hL.mem k).mp (by simp);obtain⟨hj1,hj2,hj3⟩:=(hL.mem j).mp (by simp);have hord:=hL.ord;rw[List.pairwise_append]at hord;have o2:=(Xq.mp hord.2.1).1 k (by simp);have hjk:j≠k:=by intro z;subst z;have:=hL.nd;simp[List.nodup_append]at this
 have hle:(g b.A j p).natAbs<=(g b.A k p).natAbs:=by omega
 have hgm:=G.mx k hk1 hk2
 have gk:g (pP b p k j).A k p=g b.A k p-qn (g b.A k p) (g b.A j p)*g b.A j p:=by
  show g (aS b.A k _ j) k p=_;rw[dc G.tn.isA hk2 hj2,TC rfl]
 have gi:∀i,i≠k->g (pP b p k j).A i p=g b.A i p:=λ i hi=>by
  show g (aS b.A k _ j) i p=_;rw[dc G.tn.isA hk2 hj2,Tv hi]
 have hrest:=oQ (x:=g b.A k p) hj3;refine⟨⟨G.tn.take hk2 hj2 hjk,λ i hi=>?_,λ i h1 h2=>?_,G.sA.step G.tn.isA G.tn.isA hk2 hj2 hk1 hj1 hj3 hle hgm,G.sU.step G.tn.fm G.tn.isA hk2 hj2 hk1 hj1 hj3 hle hgm,G.sC.step G.tn.fI G.tn.isA hk2 hj2 hk1 hj1 hjk hj3 hle hgm,λ i c hi hN hc=>?_,.inr ⟨j,hj1,hj2,by rw[gi j hjk];exact hj3⟩⟩,?_,gi,hk1,hk2,hj1,hj2,hjk,hj3,?_⟩
 . obtain⟨a1,a2,a3⟩:=G.up i hi;refine⟨(jR (by rw[G.tn.isA.len];exact hk2) (by omega)).trans a1,(jR (by rw[G.tn.fm.len];exact hk2) (by omega)).trans a2,(jR (by rw[G.tn.fI.len];exact hj2) (by omega)).trans a3⟩
 . by_cases h:i=k
   . rw[h,gk];omega
   . rw[gi i h];by_cases z:g b.A i p=0
     . rw[z];exact T4 _
     . have m:=(hL.mem i).mpr ⟨h1,h2,z⟩;rcases Uh.mp m with y|y
       . have:=hord.2.2 i y j (by simp);omega
       . rcases TU.mp y with y|y
         . rw[y];exact Tu _
         . exact absurd (UI.mp y) h
 . show g (aS b.A k _ j) i c=0;rw[dc G.tn.isA hk2 hj2];by_cases h:i=k
   . rw[TC h,G.zs k c hk1 hk2 hc,G.zs j c hj1 hj2 hc,TR];rfl
   . rw[Tv h];exact G.zs i c hi hN hc
 . rw[gk];omega
 . have b1:1<=(g b.A j p).natAbs:=by omega
   have:=Uk (qn (g b.A k p) (g b.A j p)).natAbs b1;rcases w9 hj3 hle with z|z<;>omega
theorem Jf{f:Nat->Nat}{M:Nat}:∀ {n:Nat},(∀i,i<n->f i<=M)->SU f n<=n*M
 |0,_=>T4 _
 |n+1,h=>by
  have h1:=Jf (n:=n) λ i hi=>h i (UA hi);have h2:=h n (Uz n);rw[Yz];exact V2 h1 h2
theorem Gb.start{A0:Rows}{N w top p e u v:Nat}{b:B3}{ld:Nat->Nat}(S:d7 A0 N w b top p ld e u v):Gb A0 N w top p (2^(4*e)) (N*2^(4*e)) (2^e) b b:=by
 obtain⟨lA,lU,lC⟩:=S.lo
 have e4:2^e*(2^e*(2^e*2^e))=2^(4*e):=by
  rw[<-VA,<-VA,<-VA];congr 1;omega
 have e1:2^e<=2^(4*e):=TV (by decide) (by omega)
 have gz:∀X:Rows,fS X N top (2^e)->Gz X b.A N top p (2^e) (2^(4*e)):=λ X h i c hi hN=>by
  have h1:=h i c hi hN;have h2:=lA i p hi hN;refine⟨?_,by omega⟩;rw[<-e4];exact Ut h1 (Uk _ (Ut h2 h2))
 refine⟨S.tn,λ _ _=>⟨rfl,rfl,rfl⟩,λ i hi hN=>lA i p hi hN,gz _ lA,gz _ lU,⟨λ c=>?_,λ i c hi hN=>?_⟩,S.zs,.inl rfl⟩
 . have h1:SU (Fc b.C b.A top p c) N<=N*(2^e*2^e):=Jf λ i hi=>by
    unfold Fc;by_cases h:top<=i
    . rw[TC h];exact Ut (lC i c h hi) (lA i p h hi)
    . rw[Tv h];exact T4 _
   refine TB (Uk _ h1) ?_;rw[Vo,Uu,e4];exact Tu _
 . refine TB (lC i c hi hN) (TB e1 ?_);exact Wg _ (by omega)
theorem Gb.low{A0:Rows}{N w top p e gm:Nat}{b0 b:B3}(G:Gb A0 N w top p (2^(4*e)) (N*2^(4*e)) gm b0 b)(hN:N<=16):fS b.A N top (2^(4*e+4))/\fS b.U N top (2^(4*e+4))/\fS b.C N top (2^(4*e+4)):=by
 have e4:2^(4*e+4)=16*2^(4*e):=by rw[VA,Vp]
 rw[e4];refine⟨λ i c hi h=>?_,λ i c hi h=>?_,λ i c hi h=>?_⟩
 . have:=(G.sA i c hi h).2;omega
 . have:=(G.sU i c hi h).2;omega
 . exact TB (G.sC.all i c hi h) (T_ _ hN)
theorem Gb.set{A0:Rows}{N w top p K KC gm m r:Nat}{b0 b:B3}(G:Gb A0 N w top p K KC gm b0 b)(lw:fS b.A N top m/\fS b.U N top m/\fS b.C N top m)(hL:jg b.A N top p [r]):uT A0 N w top p m b0 (setB b p top r)/\top<=r/\r<N:=by
 obtain⟨hr1,hr2,hr3⟩:=(hL.mem r).mp (by simp);have ht:top<N:=by omega
 have z:∀i,top<=i->i<N->i≠r->g b.A i p=0:=λ i h1 h2 h3=>V0 λ y=>h3 (by simpa using(hL.mem i).mpr ⟨h1,h2,y⟩);have swg:∀i c,g (bw b.A top r) i c=g b.A (sw top r i) c:=λ i c=>g6 G.tn.isA ht hr2 i c;have gt:g (bw b.A top r) top p=g b.A r p:=by rw[swg];unfold sw;rw[TC rfl]
 have T1:=G.tn.Kq ht hr2
 have z1:∀i,top<i->i<N->g (bw b.A top r) i p=0:=λ i h1 h2=>by
  rw[swg];unfold sw;rw[Tv (by omega)];by_cases h:i=r
  . rw[TC h];exact z top (Tu _) ht (by omega)
  . rw[Tv h];exact z i (by omega) h2 h
 have zs:∀i c,top<=i->i<N->c<p->g (bw b.A top r) i c=0:=λ i c h1 h2 h3=>by
  rw[swg];refine G.zs _ c ?_ (nF ht hr2 h2) h3;unfold sw;split
  . exact hr1
  . split
    . exact Tu _
    . exact h1
 have up:∀i,i<top->(bw b.A top r).getD i []=b0.A.getD i []/\(bw b.U top r).getD i []=b0.U.getD i []/\(bw b.C top r).getD i []=b0.C.getD i []:=λ i hi=>by
  obtain⟨a1,a2,a3⟩:=G.up i hi;exact⟨(uL G.tn.isA ht hr2 hr1 hi).trans a1,(uL G.tn.fm ht hr2 hr1 hi).trans a2,(uL G.tn.fI ht hr2 hr1 hi).trans a3⟩
 have lo:=And.intro (uN G.tn.isA ht hr2 hr1 lw.1) (And.intro (uN G.tn.fm ht hr2 hr1 lw.2.1) (uN G.tn.fI ht hr2 hr1 lw.2.2));refine⟨?_,hr1,hr2⟩;unfold setB;by_cases hs:g (bw b.A top r) top p<0
 . rw[TC hs];refine⟨T1.neg ht,λ i hi=>?_,⟨AQ T1.isA ht lo.1,AQ T1.fm ht lo.2.1,AQ T1.fI ht lo.2.2⟩,λ i c h1 h2 h3=>?_,?_,λ i h1 h2=>?_⟩
   . obtain⟨a1,a2,a3⟩:=up i hi;exact⟨(Ar T1.isA ht hi).trans a1,(Ar T1.fm ht hi).trans a2,(Ar T1.fI ht hi).trans a3⟩
   . show g (fQ (bw b.A top r) top) i c=0;rw[i6 T1.isA ht];split
     . rw[zs top c (Tu _) ht h3];rfl
     . exact zs i c h1 h2 h3
   . show 0<g (fQ (bw b.A top r) top) top p;rw[i6 T1.isA ht,TC rfl];omega
   . show g (fQ (bw b.A top r) top) i p=0;rw[i6 T1.isA ht,Tv (by omega)];exact z1 i h1 h2
 . rw[Tv hs];exact⟨T1,up,lo,zs,by show 0<g (bw b.A top r) top p;rw[gt]at hs⊢;omega,z1⟩
def Ey(e0:Nat):Nat->Nat
 |0=>e0
 |t+1=>4*Ey e0 t+4
def Uy(e0:Nat):Nat->Nat
 |0=>0
 |t+1=>Uy e0 t+Ey e0 (t+1)+1
def Cy(e0:Nat):Nat->Nat
 |0=>0
 |t+1=>Uy e0 t+Cy e0 t+Ey e0 (t+1)+4
def Ry(N w e0:Nat):Prop:=∀t,t<N->t<w->Ey e0 (t+1)<60000000/\Uy e0 t+Ey e0 (t+1)<=120000000/\Uy e0 t+Cy e0 t<=120000000
instance (N w e0:Nat):Decidable (Ry N w e0):=by
 unfold Ry;exact decidable_of_iff (∀t,t<N->t<w->(Ey e0 (t+1)<60000000/\Uy e0 t+Ey e0 (t+1)<=120000000/\Uy e0 t+Cy e0 t<=120000000)) Iff.rfl
theorem uT.Qc{A0:Rows}{N w top p e u v e' u' v':Nat}{b0 b c:B3}{ld:Nat->Nat}(S:d7 A0 N w b0 top p ld e u v)(s:uT A0 N w top p (2^e') b0 b)(ht:top<N)(I:lg A0 N w top p e' u v b top c)(hN:top<=16)
 (h1:u+e'+1<=u') (h2:u+v+5<=v') (h9:e'+1<=v'):d7 A0 N w c (top+1) (p+1) (λ i=>if i=top then p else ld i) e' u' v':=by
 have hup:∀i q,i<top->g b.A i q=g b0.A i q:=λ i q hi=>by unfold g;rw[(s.up i hi).1]
 have hA:∀i q,top<=i->g c.A i q=g b.A i q:=λ i q hi=>by unfold g;rw[(I.rA i hi).1]
 have hU:∀i q,top<=i->g c.U i q=g b.U i q:=λ i q hi=>by unfold g;rw[(I.rA i hi).2]
 have hC:∀i q,i≠top->g c.C i q=g b.C i q:=λ i q hi=>by unfold g;rw[I.rC i hi]
 have le:∀ {a x:Nat},a<=2^x->x<=u'->a<=2^u':=λ h hx=>TB h (TV (by decide) hx);refine⟨I.tn,ht,⟨λ i q hi hN=>?_,λ i q hi hN=>?_,λ i q hi hN=>?_⟩,λ i q hi=>?_,λ i q hi hN hq=>?_,λ i hi=>?_,λ i j hij hj=>?_,λ i j hij hj=>?_⟩
 . rw[hA i q (by omega)];exact s.lo.1 i q (by omega) hN
 . rw[hU i q (by omega)];exact s.lo.2.1 i q (by omega) hN
 . rw[hC i q (by omega)];exact s.lo.2.2 i q (by omega) hN
 . by_cases h:i=top
   . subst h;refine⟨?_,?_,?_⟩
     . rw[hA i q (Tu _)];exact le (s.lo.1 i q (Tu _) ht) (by omega)
     . rw[hU i q (Tu _)];exact le (s.lo.2.1 i q (Tu _) ht) (by omega)
     . have h3:=I.sC q;have h4:i*2^(u+v)<=2^(u+v+4):=by rw[VA _ _ 4,Vp];exact Uk _ (by omega)
       have h5:2^(u+v+4)*2<=2^v':=by rw[<-Vh];exact TV (by decide) h2
       have h6:2^e'*2<=2^v':=by rw[<-Vh];exact TV (by decide) h9
       omega
   . have hi':i<top:=by omega
     refine⟨le (I.sz i q hi').1 h1,le (I.sz i q hi').2 h1,?_⟩;rw[hC i q h];have:g b.C i q=g b0.C i q:=by unfold g;rw[(s.up i hi').2.2]
     rw[this];exact TB (S.hi i q hi').2.2 (TV (by decide) (by omega))
 . rw[hA i q (by omega)];by_cases h:q=p
   . rw[h];exact s.z1 i (by omega) hN
   . exact s.zs i q (by omega) hN (by omega)
 . by_cases h:i=top
   . subst h;rw[TC rfl];refine⟨Uz p,?_,λ q hq=>?_⟩
     . rw[hA i p (Tu _)];exact s.tp
     . rw[hA i q (Tu _)];exact s.zs i q (Tu _) ht hq
   . have hi':i<top:=by omega
     rw[Tv h];obtain⟨a1,a2,a3⟩:=S.lead i hi';refine⟨UA a1,?_,λ q hq=>?_⟩
     . rw[I.ah i _ hi' a1,hup i _ hi'];exact a2
     . rw[I.ah i _ hi' (YE hq a1),hup i _ hi'];exact a3 q hq
 . by_cases h:j=top
   . rw[TC h,Tv (by omega)];exact(S.lead i (by omega)).1
   . rw[Tv h,Tv (by omega)];exact S.mono i j hij (by omega)
 . by_cases h:j=top
   . subst h;rw[TC rfl];exact I.rd i hij
   . have hj':j<top:=by omega
     rw[Tv h];have:=S.red i j hij hj';have hl:=(S.lead j hj').1;rw[I.ah i _ (by omega) hl,I.ah j _ hj' hl,hup i _ (by omega),hup j _ hj'];exact this
def Cx(e0:Nat):Nat->Nat
 |0=>0
 |t+1=>Uy e0 t+Cx e0 t+Ey e0 (t+1)+5
theorem eL.gb{A0:Rows}{N w top p K KC:Nat}{b0 b c:B3}(h:eL N top p b c):∀ {gm:Nat},Gb A0 N w top p K KC gm b0 b->∃gm',Gb A0 N w top p K KC gm' b0 c:=by
 induction h with
 |refl b=>exact λ G=>⟨_,G⟩
 |head s _ ih=>
  intro gm G;obtain⟨L,k,j,hL,rfl⟩:=s;exact ih (G.step hL).1
theorem d7.IE{A0:Rows}{N w t p e u v r:Nat}{b c:B3}{ld:Nat->Nat}(S:d7 A0 N w b t p ld e u v)(hN:N<=16)(hp:p<w)(h:eL N t p b c)(l:jg c.A N t p [r]):
 uT A0 N w t p (2^(4*e+4)) b (setB c p t r)/\t<N/\∀k,k<=t->lg A0 N w t p (4*e+4) u v (setB c p t r) k (g_ p t k (setB c p t r)):=by
 obtain⟨gm,G⟩:=h.gb (Gb.start S);obtain⟨s1,h1,h2⟩:=G.set (G.low hN) l;have ht:t<N:=Xr h1 h2;refine⟨s1,ht,λ k=>?_⟩;induction k with
 |zero=>exact λ _=>lg.start s1.tn λ q=>s1.lo.2.2 t q (Tu _) ht
 |succ k ih=>
  intro hk;refine(ih (UO hk)).step hk ht hp s1.tp (λ q hq=>s1.zs t q (Tu _) ht hq) (λ q=>⟨s1.lo.1 t q (Tu _) ht,s1.lo.2.1 t q (Tu _) ht⟩) λ i q hi=>?_;obtain⟨a1,a2,a3⟩:=s1.Ko hi q;rw[a1,a2,a3];exact S.hi i q hi
theorem dP.str{A:Rows}{N w e0:Nat}(hA:aP N w A)(hlo:fS A N 0 (2^e0))(hN:N<=16){p t:Nat}{b:B3}(h:dP A N p t b):p<=w->∃ld,d7 A N w b t p ld (Ey e0 t) (Uy e0 t) (Cx e0 t):=by
 induction h with
 |start=>exact λ _=>⟨_,d7.start hA hlo⟩
 |next _ c ih=>
  intro hp;obtain⟨ld,S⟩:=ih (UO hp);cases c with
  |none l=>exact⟨ld,S.skip l⟩
  |one g l=>
   obtain⟨s1,ht,I⟩:=S.IE hN hp g l;exact⟨_,uT.Qc (e':=Ey e0 (_+1)) (u':=Uy e0 (_+1)) (v':=Cx e0 (_+1)) S s1 ht (I _ (Tu _)) (by omega) (Tu _) (by show _<=Uy e0 _+Cx e0 _+Ey e0 (_+1)+5;omega) (by show _<=Uy e0 _+Cx e0 _+Ey e0 (_+1)+5;omega)⟩
theorem d7.Qk{A0:Rows}{N w t p e u v z:Nat}{b:B3}{ld:Nat->Nat}(S:d7 A0 N w b t p ld e u v)(hp:p<w)(hN:N<=16)(hu:u<=z)(hv:v<=z)(hz:t<N->u+v+(4*e+4)+6<=z):EB N p t z b:=by
 have up:∀ {a x:Nat},a<=2^x->x<=z->a<=2^z:=λ h hx=>TB h (TV (by decide) hx);refine⟨λ c h i q hi=>?_,λ c r k h l hk i q hi=>?_⟩
 . obtain⟨gm,G⟩:=h.gb (Gb.start S);by_cases ht:i<t
   . obtain⟨a1,a2,a3⟩:=G.up i ht;have:=S.hi i q ht;unfold g at this⊢;rw[a1,a2,a3];exact⟨up this.1 hu,up this.2.1 hu,up this.2.2 hv⟩
   . have ht':=UR ht;have hz:=hz (by omega);have w1:=G.low hN;exact⟨up (w1.1 i q ht' hi) (by omega),up (w1.2.1 i q ht' hi) (by omega),up (w1.2.2 i q ht' hi) (by omega)⟩
 . obtain⟨s,ht,I'⟩:=S.IE hN hp h l;have hz9:=hz ht;have I:=I' k hk
   have aA:(g (g_ p t k (setB c p t r)).A i q).natAbs<=2^z/\(g (g_ p t k (setB c p t r)).U i q).natAbs<=2^z:=by
    by_cases hik:i<k
    . exact⟨up (I.sz i q hik).1 (by omega),up (I.sz i q hik).2 (by omega)⟩
    . obtain⟨b1,b2⟩:=I.rA i (UR hik);unfold g;rw[b1,b2];by_cases hit:i<t
      . obtain⟨a1,a2,a3⟩:=s.Ko hit q;have:=S.hi i q hit;rw[<-a1,<-a2]at this;exact⟨up this.1 hu,up this.2.1 hu⟩
      . have hit':=UR hit;exact⟨up (s.lo.1 i q hit' hi) (by omega),up (s.lo.2.1 i q hit' hi) (by omega)⟩
   refine⟨aA.1,aA.2,?_⟩;by_cases hit:i=t
   . subst hit;refine TB (I.sC q) ?_;have f1:2^(4*e+4)<=2^(u+v+(4*e+4)):=TV (by decide) (by omega);have f2:k*2^(u+v)<=16*2^(u+v+(4*e+4)):=Ut (by omega) (TV (by decide) (by omega));have f3:2^(u+v+(4*e+4)+6)<=2^z:=TV (by decide) hz9;rw[VA _ _ 6]at f3;omega
   . have:=I.rC i hit;unfold g;rw[this];by_cases hlt:i<t
     . have a:=(s.Ko hlt q).2.2;have:=(S.hi i q hlt).2.2;rw[<-a]at this;exact up this hv
     . exact up (s.lo.2.2 i q (UR hlt) hi) (by omega)
theorem PB:∀t,t<9->Uy 200 t<=60000000/\Cx 200 t<=60000000/\(t<8->Uy 200 t+Cx 200 t+(4*Ey 200 t+4)+6<=60000000):=by decide+kernel
theorem dP.FO{A:Rows}{N w:Nat}(hA:aP N w A)(hlo:fS A N 0 (2^200))(hN:N<=8){p t:Nat}{b:B3}(hp:p<w)(h:dP A N p t b):EB N p t 60000000 b:=by
 obtain⟨ld,S⟩:=h.str hA hlo (by omega) (UO hp);have le:=S.le;obtain⟨h1,h2,h3⟩:=PB t (by omega);exact S.Qk hp (by omega) h1 h2 λ h=>h3 (by omega)
def tW(n w:Nat)(f:Nat->Nat->Int):Rows:=(List.range n).map λ i=>(List.range w).map (f i)
theorem iG{n w:Nat}{f:Nat->Nat->Int}:aP n w (tW n w f):=⟨by simp[tW],λ r hr=>by
 obtain⟨i,_,rfl⟩:=T5.mp hr;simp⟩
theorem mH{n w i c:Nat}{f:Nat->Nat->Int}(hi:i<n)(hc:c<w):g (tW n w f) i c=f i c:=by
 have h1:(tW n w f).getD i []=(List.range w).map (f i):=by
  unfold tW;rw[aJ (by simpa using hi),Wq,Xs]
 unfold g;rw[h1,aJ (by simpa using hc),Wq,Xs]
section
variable {X Y:Rows}{N w r top:Nat}{ld f:Nat->Nat}
theorem CP(rw_:r<=w)(hf:∀q,q<r->f q<N)(out:∀i c,i<N->c<w->r<=c->g X i c=0)(jy:∀q c,q<r->c<r->q<c->g X (f q) c=0)(nz:∀q,q<r->g X (f q) q≠0):∀q,q<=r->∃P:Int,P≠0/\∀j,j<q->bC X N w λ c=>P*dl j c
 |0,_=>⟨1,by decide,λ j hj=>absurd hj (UH _)⟩
 |q+1,hq=>by
  obtain⟨P,hP,h⟩:=CP rw_ hf out jy nz q (by omega);refine⟨P*g X (f q) q,Int.mul_ne_zero hP (nz q hq),λ j hj=>?_⟩;by_cases hjq:j<q
  . refine(bC.smul (g X (f q) q) (h j hjq)).eq λ c _=>?_;show P*g X (f q) q*dl j c=g X (f q) q*(P*dl j c);rw[UX P,Vt]
  . have e:j=q:=by omega
    subst e;have h1:=bC.j6 (-1) (bC.smul P (bC.row (X:=X) (w:=w) (hf j hq))) (bC.comb (X:=X) (n:=N) (w:=w) (a:=λ l=>g X (f j) l) (v:=λ l c=>P*dl l c) λ l hl=>h l hl);refine h1.eq λ c hc=>?_;show P*g X (f j) j*dl j c=P*g X (f j) c+ -1*S j λ l=>g X (f j) l*(P*dl l c)
    have e1:(S j λ l=>g X (f j) l*(P*dl l c))=if c<j then g X (f j) c*P else 0:=by
     by_cases h2:c<j
     . rw[TC h2,<-jt h2 λ l=>g X (f j) l*P];exact aC λ l _=>by rw[Vt]
     . rw[Tv h2];exact gG λ l hl=>by rw[bq (show l≠c by omega),TR,TR]
    rw[e1];by_cases h2:c<j
    . rw[TC h2,bq (show j≠c by omega),UX (g X (f j) c)];omega
    . rw[Tv h2];by_cases h3:c=j
      . subst h3;rw[bx];omega
      . rw[bq (show j≠c by omega)]
        have:g X (f j) c=0:=by
         by_cases h4:c<r
         . exact jy j c hq h4 (by omega)
         . exact out _ c (hf j hq) hc (by omega)
        rw[this];omega
theorem PN(st:eE Y top w ld)(same:vF X N Y top w)(rw_:r<=w)(hf:∀q,q<r->f q<N)(out:∀i c,i<N->c<w->r<=c->g X i c=0)(jy:∀q c,q<r->c<r->q<c->g X (f q) c=0)(nz:∀q,q<r->g X (f q) q≠0):top=r/\(∀q,q<r->ld q=q)/\∀i c,i<top->c<w->r<=c->g Y i c=0:=by
 obtain⟨P,hP,hu⟩:=CP rw_ hf out jy nz r (Tu _)
 have ge:∀i,i<top->i<=ld i:=λ i=>by
  induction i with
  |zero=>exact λ _=>T4 _
  |succ i ih=>exact λ hi=>Xr (ih (by omega)) (st.mono i (i+1) (Uz i) hi)
 have yo:∀i c,i<top->c<w->r<=c->g Y i c=0:=λ i c hi hc hr=>by
  obtain⟨z,hz⟩:=same.of i hi;rw[hz c hc];exact gG λ k hk=>by rw[out k c hk hc hr,TR]
 have lt:∀i,i<top->ld i<r:=λ i hi=>XS λ z=>by
  obtain⟨h1,h2,_⟩:=st.lead i hi;rw[yo i _ hi h1 z]at h2;exact absurd h2 (by decide)
 have key:∀q,q<r->q<top/\ld q=q:=λ q=>by
  induction q using Nat.strongRecOn with
  |ind q ih=>
   intro hq;have hv:=bC.trans same.to (hu q hq);rcases st.at (q:=q) hv (by omega) (λ c hc=>by show P*dl q c=0;rw[bq (by omega),TR])with⟨i,h1,h2,_⟩|h0
   . have h3:=ge i h1;by_cases e:i=q
     . subst e;exact⟨h1,h2⟩
     . have:=(ih i (by omega) (by omega)).2;omega
   . exact absurd h0 (by show P*dl q q≠0;rw[bx,U_];exact hP)
 refine⟨Nat.le_antisymm (UR λ z=>?_) (UR λ z=>?_),λ q hq=>(key q hq).2,yo⟩
 . have h1:=lt r z;have h2:=ge r z;omega
 . have h1:=(key top z).1;omega
end
structure Fr(X Y:Rows)(N w r:Nat):Prop where
 is:aP N w Y
 rN:r<=N
 rW:r<=w
 zs:∀i c,r<=i->i<N->c<w->g Y i c=0
 out:∀i c,i<N->c<w->r<=c->g Y i c=0
 up:∀i c,i<r->c<i->g Y i c=0
 pos:∀i,i<r->0<g Y i i
 red:∀i j,i<j->j<r->0<=g Y i j/\g Y i j<g Y j j
 yc:∀v:Nat->Int,bC X N w v↔bC Y r w v
theorem Fr.Es{X Y:Rows}{N w r:Nat}(h:Fr X Y N w r):eE Y r w λ i=>i:=⟨λ i hi=>⟨T8 hi h.rW,h.pos i hi,λ c hc=>h.up i c hi hc⟩,λ i j hij _=>hij⟩
theorem JF{X:Rows}{N w r top e u v:Nat}{c:B3}{ld f:Nat->Nat}(H:d7 X N w c top w ld e u v)(rw_:r<=w)(hf:∀q,q<r->f q<N)(out:∀i c,i<N->c<w->r<=c->g X i c=0)(jy:∀q c,q<r->c<r->q<c->g X (f q) c=0)(nz:∀q,q<r->g X (f q) q≠0):top=r/\Fr X c.A N w r:=by
 have S1:=H.Gq;have same:=S1.EM;obtain⟨e,el,yo⟩:=PN ⟨S1.lead,S1.mono⟩ same rw_ hf out jy nz;subst e;have zs:∀i c',top<=i->i<N->c'<w->g c.A i c'=0:=λ i c' h1 h2 h3=>S1.zs i c' h1 h2 h3;refine⟨rfl,S1.tn.isA,S1.le,rw_,zs,λ i c' h1 h2 h3=>?_,λ i c' h1 h2=>?_,λ i hi=>?_,λ i j hij hj=>?_,λ v=>⟨bC.trans same.to,bC.trans same.of⟩⟩
 . by_cases h:i<top
   . exact yo i c' h h2 h3
   . exact zs i c' (by omega) h1 h2
 . exact(S1.lead i h1).2.2 c' (by rw[el i h1];exact h2)
 . have:=(S1.lead i hi).2.1;rwa [el i hi]at this
 . have:=S1.red i j hij hj;rwa [el j hj]at this
theorem Fr.prod{X Y:Rows}{N w r:Nat}{f:Nat->Nat}(h:Fr X Y N w r)(hf:∀q,q<r->f q<N)(jy:∀q c,q<r->c<r->q<c->g X (f q) c=0):(Pr r λ q=>g Y q q)∣Pr r λ q=>g X (f q) q:=by
 have hz:∀q,∃z:Nat->Int,q<r->∀c,c<w->g X (f q) c=S r λ k=>z k*g Y k c:=λ q=>by
  by_cases hq:q<r
  . obtain⟨z,hz⟩:=(h.yc _).mp (bC.row (X:=X) (w:=w) (hf q hq));exact⟨z,λ _=>hz⟩
  . exact⟨λ _=>0,λ z=>absurd z hq⟩
 let B:Fn:=λ q=>Classical.choose (hz q)
 have eB:∀q,q<r->∀c,c<w->g X (f q) c=S r λ k=>B q k*g Y k c:=λ q=>Wk (hz q)
 have e1:D r (λ q c=>g X (f q) c)=D r B*D r (g Y):=by
  rw[<-DM];exact c7 λ q c hq hc=>eB q hq c (by have:=h.rW;omega)
 rw[D_ (λ q c hq hc hqc=>jy q c hq hc hqc),IS (λ q c hq hc hqc=>h.up q c hq hqc)]at e1;exact⟨D r B,by rw[e1,UX]⟩
theorem Fr.fix{X Y:Rows}{N w r q:Nat}{a:Int}(h:Fr X Y N w r)(hq:q<r)(ha:0<a)(h1:∀i,i<N->a∣g X i q)(h2:bC X N w λ c=>a*dl q c):g Y q q=a/\(∀i,i<r->i≠q->g Y i q=0)/\∀c,c<w->c≠q->g Y q c=0:=by
 have rW:=h.rW
 have dv:∀v:Nat->Int,bC X N w v->a∣v q:=λ v ⟨z,hz⟩=>by
  rw[hz q (by omega)]
  have:∀n,n<=N->a∣S n λ k=>z k*g X k q:=λ n=>by
   induction n with
   |zero=>exact λ _=>⟨0,by rw[TR];rfl⟩
   |succ n ih=>exact λ hn=>Int.dvd_add (ih (by omega)) (V6 (h1 n (by omega)) (Int.dvd_mul_left _ _))
  exact this N (Tu _)
 have row:∀i,i<r->bC X N w (g Y i):=λ i hi=>(h.yc _).mpr (bC.row hi)
 have e1:g Y q q=a:=by
  have d1:=dv _ (row q hq)
  have d2:g Y q q∣a:=by
   rcases h.Es.at (q:=q) ((h.yc _).mp h2) (by omega) (λ c hc=>by show a*dl q c=0;rw[bq (by omega),TR])with⟨i,_,e,hd⟩|h0
   . have e:i=q:=e;subst e;have:g Y i i∣a*dl i i:=hd;rwa [bx,U_]at this
   . have h0:a*dl q q=0:=h0;rw[bx]at h0;omega
  exact WV (VC (h.pos q hq)) (VC ha) d2 d1
 have e2:∀i,i<r->i≠q->g Y i q=0:=λ i hi hne=>by
  by_cases hlt:q<i
  . exact h.up i q hi hlt
  . obtain⟨r1,r2⟩:=h.red i q (by omega) hq;have d:=dv _ (row i hi);rw[e1]at r2;exact Wv d (by omega)
 refine⟨e1,e2,λ c hc hne=>?_⟩;have hv:bC Y r w λ c=>g Y q c-a*dl q c:=(h.yc _).mp (bC.sub (row q hq) h2)
 have:=h.Es.Qy hv (λ k hk=>by
  show 0<=g Y q k-a*dl q k/\g Y q k-a*dl q k<g Y k k;have hp:=h.pos k hk;by_cases e:q=k
  . subst e;rw[bx,e1];omega
  . rw[bq e,TR,Int.sub_zero];by_cases hlt:q<k
    . exact h.red q k hlt hk
    . rw[h.up q k hq (by omega)];omega) c hc
 have:g Y q c-a*dl q c=0:=this;rw[bq (TK hne)]at this;omega
theorem Fr.dvd{X Y:Rows}{N w r q:Nat}{v:Nat->Int}(h:Fr X Y N w r)(hq:q<r)(hv:bC X N w v)(h0:∀c,c<q->v c=0):g Y q q∣v q:=by
 rcases h.Es.at (q:=q) ((h.yc _).mp hv) (by have:=h.rW;omega) h0 with⟨i,_,e,hd⟩|h0
 . have e:i=q:=e;subst e;exact hd
 . rw[h0];exact⟨0,by rw[TR]⟩
structure Lo(X:Rows)(N w r:Nat):Prop where
 is:aP N w X
 rN:r<=N
 rW:r<=w
 out:∀i c,i<N->c<w->r<=i\/r<=c->g X i c=0
 jy:∀i c,i<r->c<r->i<c->g X i c=0
 pos:∀i,i<r->0<g X i i
 le:∀i c,c<i->i<r->0<=g X i c/\g X i c<=g X i i
theorem Fr.lo{X Y:Rows}{N w r:Nat}(h:Fr X Y N w r):Lo (bG Y w) w N r:=by
 have rN:=h.rN;have rW:=h.rW;have at_:∀i c,i<N->c<w->g (bG Y w) c i=g Y i c:=λ i c hi hc=>cG h.is hi hc;refine⟨cW h.is,rW,rN,λ i c hi hc ho=>?_,λ i c hi hc hic=>?_,λ i hi=>?_,λ i c hci hi=>?_⟩
 . rw[at_ c i hc hi];rcases ho with z|z
   . exact h.out c i hc hi z
   . exact h.zs c i z hc hi
 . rw[at_ c i (by omega) (by omega)];exact h.up c i hc hic
 . rw[at_ i i (by omega) (by omega)];exact h.pos i hi
 . rw[at_ c i (by omega) (by omega),at_ i i (by omega) (by omega)];obtain⟨a,b⟩:=h.red c i hci hi;exact⟨a,VC b⟩
theorem Lo.fr{X:Rows}{N w r top e u v:Nat}{c:B3}{ld:Nat->Nat}(L:Lo X N w r)(H:d7 X N w c top w ld e u v):top=r/\Fr X c.A N w r/\(Pr r λ q=>g c.A q q)∣Pr r λ q=>g X q q:=by
 have rN:=L.rN;have h:=JF (f:=λ q=>q) H L.rW (λ q hq=>by omega) (λ i c hi hc hr=>L.out i c hi hc (.inr hr)) (λ q c hq hc=>L.jy q c hq hc) λ q hq=>XR (L.pos q hq);exact⟨h.1,h.2,h.2.prod (f:=λ q=>q) (λ q hq=>by omega) λ q c hq hc=>L.jy q c hq hc⟩
theorem Lo.abs{X:Rows}{N w r M:Nat}(L:Lo X N w r)(hM:(Pr r λ q=>g X q q)<=(M:Int))(i c:Nat)(hi:i<N)(hc:c<w):(g X i c).natAbs<=M:=by
 by_cases hir:i<r
 . by_cases hcr:c<r
   . have h1:=vV (λ q hq=>L.pos q hq) i hir;by_cases h2:i<c
     . rw[L.jy i c hir hcr h2];exact T4 _
     . by_cases h3:c=i
       . subst h3;have:=L.pos c hir;omega
       . have:=L.le i c (by omega) hir;omega
   . rw[L.out i c hi hc (.inr (by omega))];exact T4 _
 . rw[L.out i c hi hc (.inl (by omega))];exact T4 _
theorem MB{r M:Nat}{X:Fn}{t y:Nat->Int}(jy:∀i c,i<r->c<r->i<c->X i c=0)(pos:∀i,i<r->0<X i i)(le:∀i c,c<i->i<r->0<=X i c/\X i c<=X i i)(hy:∀c,c<r->(y c).natAbs<=M)(e:∀c,c<r->y c=S r λ j=>t j*X j c):∀d c,c<r->r-1-c=d->(t c*X c c).natAbs<=2^d*M:=λ d=>by
 induction d using Nat.strongRecOn with
 |ind d ih=>
  intro c hc hd;have h1:=e c hc
  have sp:(S r λ j=>t j*X j c)=t c*X c c+S (r-1-c) λ k=>t (c+1+k)*X (c+1+k) c:=by
   have er:r=(c+1)+(r-1-c):=by omega
   conv=>lhs;rw[er]
   rw[wW];congr 1;show S c (λ j=>t j*X j c)+t c*X c c=_;rw[gG λ j hj=>by rw[jy j c (by omega) hc hj,TR],VV]
  have bd:∀n,n<=r-1-c->(S n λ k=>t (c+1+k)*X (c+1+k) c).natAbs<=(2^d-2^(d-n))*M:=λ n=>by
   induction n with
   |zero=>intro _;exact T4 _
   |succ n ih2=>
    intro hn;have h3:=ih2 (by omega);have h4:=ih (d-1-n) (by omega) (c+1+n) (by omega) (by omega)
    have h5:(t (c+1+n)*X (c+1+n) c).natAbs<=2^(d-1-n)*M:=by
     refine TB ?_ h4;rw[Ur,Ur];refine Uk _ ?_;have:=le (c+1+n) c (by omega) (by omega);omega
    have h6:(S (n+1) λ k=>t (c+1+k)*X (c+1+k) c).natAbs<=(S n λ k=>t (c+1+k)*X (c+1+k) c).natAbs+(t (c+1+n)*X (c+1+n) c).natAbs:=Int.natAbs_add_le _ _;refine TB h6 (TB (V2 h3 h5) ?_);rw[<-VQ];refine T_ _ ?_;have p1:2^(d-n)=2*2^(d-1-n):=by rw[show d-n=(d-1-n)+1 by omega,Vh,Vp]
    have p2:2^(d-n)<=2^d:=TV (by decide) (by omega);rw[show d-(n+1)=d-1-n by omega];omega
  have h2:=bd (r-1-c) (Tu _);rw[hd,Vg]at h2;have h3:=hy c hc;rw[h1,sp]at h3;have h4:(t c*X c c).natAbs<=M+(2^d-2^0)*M:=by rw[hd]at h3;omega
  refine TB h4 ?_
  have:(2^d-2^0)*M+M=2^d*M:=by
   have p:1<=2^d:=Vz;rw[show(2^d-2^0)*M+M=((2^d-1)+1)*M by rw[VQ,WR],Nat.sub_add_cancel p]
  omega
theorem OU{r M:Nat}{Y:Fn}{t x:Nat->Int}(up:∀i c,i<r->c<i->Y i c=0)(pos:∀i,i<r->0<Y i i)(red:∀i j,i<j->j<r->0<=Y i j/\Y i j<Y j j)(hx:∀c,c<r->(x c).natAbs<=M)(e:∀c,c<r->x c=S r λ k=>t k*Y k c):∀c,c<r->(t c).natAbs<=2^c*M:=λ c=>by
 induction c using Nat.strongRecOn with
 |ind c ih=>
  intro hc;have h1:=e c hc
  have sp:(S r λ k=>t k*Y k c)=S c (λ k=>t k*Y k c)+t c*Y c c:=by
   have er:r=(c+1)+(r-1-c):=by omega
   conv=>lhs;rw[er]
   rw[wW,gG (n:=r-1-c) λ k hk=>by rw[up (c+1+k) c (by omega) (by omega),TR],Vr];rfl
  have bd:∀n,n<=c->(S n λ k=>t k*Y k c).natAbs<=(2^n-1)*M*(Y c c).natAbs:=λ n=>by
   induction n with
   |zero=>intro _;exact T4 _
   |succ n ih2=>
    intro hn;have h3:=ih2 (by omega);have h4:=ih n (by omega) (by omega)
    have h5:(t n*Y n c).natAbs<=2^n*M*(Y c c).natAbs:=by
     rw[Ur];refine Ut h4 ?_;have:=red n c (by omega) hc;omega
    have h6:(S (n+1) λ k=>t k*Y k c).natAbs<=(S n λ k=>t k*Y k c).natAbs+(t n*Y n c).natAbs:=Int.natAbs_add_le _ _;refine TB h6 (TB (V2 h3 h5) ?_);rw[<-VQ,<-VQ];refine T_ _ (T_ _ ?_);have p:1<=2^n:=Vz;rw[Vh];omega
  have h2:=bd c (Tu _);have h3:=hx c hc;have hp:=pos c hc;rw[h1,sp]at h3;have h4:(t c*Y c c).natAbs<=M+(2^c-1)*M*(Y c c).natAbs:=by omega
  have h5:(t c).natAbs*(Y c c).natAbs<=2^c*M*(Y c c).natAbs:=by
   rw[<-Ur];refine TB h4 ?_;have p:1<=2^c:=Vz
   have e1:2^c*M*(Y c c).natAbs=(2^c-1)*M*(Y c c).natAbs+M*(Y c c).natAbs:=by
    rw[<-VQ];congr 1;rw[show(2^c-1)*M+M=((2^c-1)+1)*M by rw[VQ,WR],Nat.sub_add_cancel p]
   rw[e1];have:M<=M*(Y c c).natAbs:=Vc _ (by omega);omega
  exact Nat.le_of_mul_le_mul_right h5 (by omega)
theorem nN{X B:Rows}{n w w' a b:Nat}(hX:aP n w X)(hB:aP w w' B)(w8:w<=8)(bX:∀i c,i<n->c<w->(g X i c).natAbs<=2^a)(bB:∀i c,i<w->c<w'->(g B i c).natAbs<=2^b):∀i c,i<n->c<w'->(g (mulM X B w') i c).natAbs<=2^(a+b+3):=λ i c hi hc=>by
 rw[d5 hX hB hi]
 have:=zj (n:=w) (f:=λ k=>g X i k*g B k c) (m:=2^a*2^b) λ k hk=>by
  rw[Ur];exact Ut (bX i k hi hk) (bB k c hk hc)
 refine TB this ?_;rw[show a+b+3=3+(a+b) by omega,VA _ 3,VA];exact T_ _ w8
structure Zr(N w r:Nat)(b:B3):Prop where
 iA:aP N w b.A
 iU:aP N N b.U
 iC:aP N N b.C
 a:∀i c,r<=i->i<N->g b.A i c=0
 u:∀i c,i<N->c<N->r<=i\/r<=c->g b.U i c=dl i c
 c:∀i c,i<N->c<N->r<=i\/r<=c->g b.C i c=dl i c
section
variable {N w r p top:Nat}{b:B3}
theorem C3{Y:Rows}{k j:Nat}{q:Int}(iY:aP N N Y)(hk:k<N)(hj:j<N)(kr:k<r)(jr:j<r)(h:∀i c,i<N->c<N->r<=i\/r<=c->g Y i c=dl i c)(i c:Nat)(hi:i<N)(hc:c<N)(ho:r<=i\/r<=c):g (aS Y k q j) i c=dl i c:=by
 rw[dc iY hk hj];by_cases e:i=k
 . subst e;rw[TC rfl,h i c hi hc ho,h j c hj hc (.inr (by omega)),bq (show j≠c by omega),TR,Int.sub_zero]
 . rw[Tv e];exact h i c hi hc ho
theorem Zr.take(z:Zr N w r b){k j:Nat}{q q':Int}(hk:k<N)(hj:j<N)(kr:k<r)(jr:j<r):Zr N w r ⟨aS b.A k q j,aS b.U k q j,aS b.C j q' k⟩:=by
 refine⟨kJ z.iA hk hj,kJ z.iU hk hj,kJ z.iC hj hk,λ i c h1 h2=>?_,C3 z.iU hk hj kr jr z.u,C3 z.iC hj hk jr kr z.c⟩;show g (aS b.A k q j) i c=0;rw[dc z.iA hk hj,Tv (by omega)];exact z.a i c h1 h2
theorem Zr.lt(z:Zr N w r b){L:List Nat}(hL:jg b.A N top p L){k:Nat}(hk:k∈L):top<=k/\k<N/\k<r:=by
 obtain⟨h1,h2,h3⟩:=(hL.mem k).mp hk;exact⟨h1,h2,XS λ y=>h3 (z.a k p y h2)⟩
theorem Zr.reach{c:B3}(h:eL N top p b c):Zr N w r b->Zr N w r c:=by
 induction h with
 |refl b=>exact λ z=>z
 |head s _ ih=>
  intro z;obtain⟨L,k,j,hL,rfl⟩:=s;obtain⟨_,k2,k3⟩:=z.lt hL (k:=k) (by simp);obtain⟨_,j2,j3⟩:=z.lt hL (k:=j) (by simp);exact ih (z.take k2 j2 k3 j3)
theorem Jw{Y:Rows}{k o:Nat}(iY:aP N N Y)(hk:k<N)(ho:o<N)(kr:k<r)(or_:o<r)(h:∀i c,i<N->c<N->r<=i\/r<=c->g Y i c=dl i c)(i c:Nat)(hi:i<N)(hc:c<N)(hh:r<=i\/r<=c):g (bw Y k o) i c=dl i c:=by
 rw[g6 iY hk ho];by_cases hr:r<=i
 . have e:sw k o i=i:=by unfold sw;rw[Tv (by omega),Tv (by omega)]
   rw[e];exact h i c hi hc hh
 . have hs:sw k o i<r:=nF kr or_ (by omega);rw[h _ c (nF hk ho hi) hc (.inr (by omega)),bq (by omega),bq (by omega)]
theorem Jk{Y:Rows}{k:Nat}(iY:aP N N Y)(hk:k<N)(kr:k<r)(h:∀i c,i<N->c<N->r<=i\/r<=c->g Y i c=dl i c)(i c:Nat)(hi:i<N)(hc:c<N)(hh:r<=i\/r<=c):g (fQ Y k) i c=dl i c:=by
 rw[i6 iY hk];by_cases e:i=k
 . subst e;rw[TC rfl,h i c hi hc hh,bq (show i≠c by omega)];rfl
 . rw[Tv e];exact h i c hi hc hh
theorem Zr.set{c:B3}{s:Nat}(z:Zr N w r c)(hL:jg c.A N top p [s]):Zr N w r (setB c p top s)/\top<r/\top<N:=by
 obtain⟨s1,s2,s3⟩:=z.lt hL (k:=s) (by simp);have tr:top<r:=by omega
 have tN:top<N:=by omega
 have z1:Zr N w r ⟨bw c.A top s,bw c.U top s,bw c.C top s⟩:=by
  refine⟨ky z.iA tN s2,ky z.iU tN s2,ky z.iC tN s2,λ i q h1 h2=>?_,Jw z.iU tN s2 tr s3 z.u,Jw z.iC tN s2 tr s3 z.c⟩;show g (bw c.A top s) i q=0;rw[g6 z.iA tN s2,show sw top s i=i by unfold sw;rw[Tv (by omega),Tv (by omega)]];exact z.a i q h1 h2
 refine⟨?_,tr,tN⟩;unfold setB;split
 . refine⟨oX z1.iA tN,oX z1.iU tN,oX z1.iC tN,λ i q h1 h2=>?_,Jk z1.iU tN tr z1.u,Jk z1.iC tN tr z1.c⟩;show g (fQ (bw c.A top s) top) i q=0;rw[i6 z1.iA tN,Tv (by omega)];exact z1.a i q h1 h2
 . exact z1
theorem Zr.low(z:Zr N w r b)(tr:top<r)(tN:top<N):∀k,k<=top->Zr N w r (g_ p top k b)
 |0,_=>z
 |k+1,hk=>by
  have ih:=Zr.low z tr tN k (by omega);unfold g_;exact ih.take (by omega) tN (by omega) tr
theorem dP.zr{X:Rows}(iX:aP N w X)(h0:∀i c,r<=i->i<N->c<w->g X i c=0){p t:Nat}{c:B3}(h:dP X N p t c):Zr N w r c:=by
 induction h with
 |start=>
  refine⟨iX,bI N,bI N,λ i c h1 h2=>?_,λ i c hi hc _=>cK hi hc,λ i c hi hc _=>cK hi hc⟩;by_cases hc:c<w
  . exact h0 i c h1 h2 hc
  . unfold g;rw[kW (by rw[iX.row h2];omega)]
 |next _ cl ih=>
  cases cl with
  |none l=>exact ih
  |one gr l=>
   obtain⟨z,tr,tN⟩:=(Zr.reach gr ih).set l;exact z.low tr tN _ (Tu _)
end
theorem pQ{f h:Nat->Int}:∀ {n:Nat},(∀i,i<n->f i=h i)->Pr n f=Pr n h
 |0,_=>rfl
 |n+1,e=>by
  show Pr n f*f n=Pr n h*h n;rw[pQ λ i hi=>e i (UA hi),e n (Uz n)]
theorem Lo.turn{X:Rows}{N w r top e u v b:Nat}{c:B3}{ld:Nat->Nat}(L:Lo X N w r)(r8:r<=8)(hC:dP X N w top c)(H:d7 X N w c top w ld e u v)(hM:(Pr r λ q=>g X q q)<=((2^b:Nat):Int)):∀i j,i<N->j<N->(g c.U i j).natAbs<=2^(b+8)/\(g c.C i j).natAbs<=2^(b+8):=by
 have rN:=L.rN;have rW:=L.rW;have z:=hC.zr L.is (r:=r) λ i c h1 h2 h3=>L.out i c h2 h3 (.inl h1);obtain⟨et,F,dv⟩:=L.fr H;subst et;have pX:0<Pr top λ q=>g X q q:=lG λ q hq=>L.pos q hq;have hY:(Pr top λ q=>g c.A q q)<=((2^b:Nat):Int):=V4 (Xz pX dv) hM;have bX:=L.abs hM
 have bY:∀i j,i<N->j<w->(g c.A i j).natAbs<=2^b:=λ i j hi hj=>by
  have hT:(Pr top λ q=>g (bG c.A w) q q)<=((2^b:Nat):Int):=by
   have e1:(Pr top λ q=>g (bG c.A w) q q)=Pr top λ q=>g c.A q q:=pQ λ q hq=>cG F.is (by omega) (by omega);rw[e1];exact hY
  have:=F.lo.abs hT j i hj hi;rwa [cG F.is hi hj]at this
 have one:1<=2^(b+8):=Vz;have d1:∀a b',(dl a b').natAbs<=2^(b+8):=λ a b'=>by unfold dl;split<;>(try exact one);exact T4 _
 have up:∀ {d:Nat},d<=8->2^d*2^b<=2^(b+8):=λ{d} h=>by rw[<-VA];exact TV (by decide) (by omega)
 refine λ i j hi hj=>⟨?_,?_⟩
 . by_cases ho:top<=i\/top<=j
   . rw[z.u i j hi hj ho];exact d1 _ _
   . have hi':i<top:=by omega
     have hj':j<top:=by omega
     have s:=MB (r:=top) (M:=2^b) (X:=g X) (t:=g c.U i) (y:=g c.A i) L.jy L.pos L.le (λ c' hc'=>bY i c' hi (by omega)) (λ c' hc'=>by
      rw[H.tn.ua i c' hi (by omega)];exact Ex rN λ k h1 h2=>by rw[L.out k c' h2 (by omega) (.inl h1),TR]) (top-1-j) j hj' rfl
     have hp:=L.pos j hj'
     have:(g c.U i j).natAbs<=(g c.U i j*g X j j).natAbs:=by
      rw[Ur];exact Vc _ (by omega)
     exact TB this (TB s (up (by omega)))
 . by_cases ho:top<=i\/top<=j
   . rw[z.c i j hi hj ho];exact d1 _ _
   . have hi':i<top:=by omega
     have hj':j<top:=by omega
     have s:=OU (r:=top) (M:=2^b) (Y:=g c.A) (t:=λ k=>g c.C k j) (x:=g X j) F.up F.pos F.red (λ c' hc'=>bX j c' (by omega) (by omega)) (λ c' hc'=>H.Gq.back hj (by omega)) i hi';exact TB s (up (by omega))
structure Sd(A B L Lb R Rb:Rows)(N w x:Nat):Prop where
 iA:aP N w A
 iB:aP N w B
 iL:aP N N L
 lZ:aP N N Lb
 iR:aP w w R
 kq:aP w w Rb
 eq:mulM (mulM L A w) R w=B
 l1:mulM L Lb N=units N
 l2:mulM Lb L N=units N
 r1:mulM R Rb w=units w
 r2:mulM Rb R w=units w
 sL:∀i j,i<N->j<N->(g L i j).natAbs<=2^x
 F7:∀i j,i<N->j<N->(g Lb i j).natAbs<=2^x
 sR:∀i j,i<w->j<w->(g R i j).natAbs<=2^x
 Fz:∀i j,i<w->j<w->(g Rb i j).natAbs<=2^x
theorem Sd.start{A:Rows}{N w:Nat}(hA:aP N w A):Sd A A (units N) (units N) (units w) (units w) N w 0:=by
 have d1:∀n i j,i<n->j<n->(g (units n) i j).natAbs<=2^0:=λ n i j hi hj=>by
  rw[cK hi hj];unfold dl;split<;>decide
 exact⟨hA,hA,bI _,bI _,bI _,bI _,by rw[eF hA,BW hA],eF (bI _),eF (bI _),eF (bI _),eF (bI _),d1 N,d1 N,d1 w,d1 w⟩
theorem Sd.mono{A B L Lb R Rb:Rows}{N w x x':Nat}(h:Sd A B L Lb R Rb N w x)(l:x<=x'):Sd A B L Lb R Rb N w x':=by
 have up:∀ {a:Nat},a<=2^x->a<=2^x':=λ h=>TB h (TV (by decide) l);exact⟨h.iA,h.iB,h.iL,h.lZ,h.iR,h.kq,h.eq,h.l1,h.l2,h.r1,h.r2,λ i j hi hj=>up (h.sL i j hi hj),λ i j hi hj=>up (h.F7 i j hi hj),λ i j hi hj=>up (h.sR i j hi hj),λ i j hi hj=>up (h.Fz i j hi hj)⟩
theorem Sd.left{A B L Lb R Rb T Tb:Rows}{N w x y:Nat}(h:Sd A B L Lb R Rb N w x)(n8:N<=8)(iT:aP N N T)(iTb:aP N N Tb)(t1:mulM T Tb N=units N)(t2:mulM Tb T N=units N)(sT:∀i j,i<N->j<N->(g T i j).natAbs<=2^y)(sTb:∀i j,i<N->j<N->(g Tb i j).natAbs<=2^y):Sd A (mulM T B w) (mulM T L N) (mulM Lb Tb N) R Rb N w (x+y+3):=by
 have h':=h.mono (show x<=x+y+3 by omega);refine⟨h.iA,bK iT h.iB,bK iT h.iL,bK h.lZ iTb,h.iR,h.kq,?_,?_,?_,h.r1,h.r2,?_,?_,h'.sR,h'.Fz⟩
 . rw[dY iT h.iL h.iA,dY iT (bK h.iL h.iA) h.iR,h.eq]
 . rw[dY iT h.iL (bK h.lZ iTb),<-dY h.iL h.lZ iTb,h.l1,eF iTb,t1]
 . rw[dY h.lZ iTb (bK iT h.iL),<-dY iTb iT h.iL,t2,eF h.iL,h.l2]
 . intro i j hi hj;have:=nN iT h.iL n8 sT h.sL i j hi hj;rwa [show y+x+3=x+y+3 by omega]at this
 . exact λ i j hi hj=>nN h.lZ iTb n8 h.F7 sTb i j hi hj
theorem Sd.right{A B L Lb R Rb T Tb:Rows}{N w x y:Nat}(h:Sd A B L Lb R Rb N w x)(w8:w<=8)(iT:aP w w T)(iTb:aP w w Tb)(t1:mulM T Tb w=units w)(t2:mulM Tb T w=units w)(sT:∀i j,i<w->j<w->(g T i j).natAbs<=2^y)(sTb:∀i j,i<w->j<w->(g Tb i j).natAbs<=2^y):Sd A (mulM B T w) L Lb (mulM R T w) (mulM Tb Rb w) N w (x+y+3):=by
 have h':=h.mono (show x<=x+y+3 by omega);refine⟨h.iA,bK h.iB iT,h.iL,h.lZ,bK h.iR iT,bK iTb h.kq,?_,h.l1,h.l2,?_,?_,h'.sL,h'.F7,?_,?_⟩
 . rw[<-dY (bK h.iL h.iA) h.iR iT,h.eq]
 . rw[dY h.iR iT (bK iTb h.kq),<-dY iT iTb h.kq,t1,eF h.kq,h.r1]
 . rw[dY iTb h.kq (bK h.iR iT),<-dY h.kq h.iR iT,h.r2,eF iT,t2]
 . exact λ i j hi hj=>nN h.iR iT w8 h.sR sT i j hi hj
 . intro i j hi hj;have:=nN iTb h.kq w8 sTb h.Fz i j hi hj;rwa [show y+x+3=x+y+3 by omega]at this
theorem Tn.MD{X A U C:Rows}{N w:Nat}(T:Tn X A U C N w)(hX:aP N w X):mulM U X w=A/\mulM U (bG C N) N=units N/\mulM (bG C N) U N=units N/\mulM (bG U N) C N=units N/\mulM C (bG U N) N=units N:=by
 have iU:=T.fm;have iC:=T.fI;refine⟨(bK iU hX).ext T.isA λ i c hi hc=>?_,(bK iU (cW iC)).ext (bI _) λ i j hi hj=>?_,(bK (cW iC) iU).ext (bI _) λ i j hi hj=>?_,(bK (cW iU) iC).ext (bI _) λ i j hi hj=>?_,(bK iC (cW iU)).ext (bI _) λ i j hi hj=>?_⟩
 . rw[d5 iU hX hi,T.ua i c hi hc]
 . rw[d5 iU (cW iC) hi,cK hi hj,<-T.ub i j hi hj];exact aC λ k hk=>by rw[cG iC hj hk]
 . rw[d5 (cW iC) iU hi,cK hi hj,<-T.bu i j hi hj];exact aC λ k hk=>by rw[cG iC hk hi];try rw[UX]
 . rw[d5 (cW iU) iC hi,cK hi hj,o_,<-T.bu j i hj hi];exact aC λ k hk=>by rw[cG iU hk hi];try rw[UX]
 . rw[d5 iC (cW iU) hi,cK hi hj,o_,<-T.ub j i hj hi];exact aC λ k hk=>by rw[cG iU hj hk,UX]
theorem CT{A:Rows}{N w:Nat}(hA:aP N w A):bG (bG A w) N=A:=
 (cW (cW hA)).ext hA λ i j hi hj=>by rw[cG (cW hA) hj hi,cG hA hi hj]
theorem Ky{A:Rows}{N w top e u v b:Nat}{c:B3}{ld:Nat->Nat}(H:d7 A N w c top w ld e u v)(t8:top<=8)(hA:∀i c,i<N->c<w->(g A i c).natAbs<=b):(Pr top λ q=>g c.A q (ld q))<=(((8*b)^top:Nat):Int):=by
 have S1:=H.Gq;obtain⟨I,B,h1,h2,h3⟩:=S1.EM.picked ⟨S1.lead,S1.mono⟩
 have e1:D top (λ i k=>g A (I i) (ld k))=D top B*D top λ i k=>g c.A i (ld k):=by
  rw[<-DM];exact c7 λ i k hi hk=>h2 i (ld k) hi (S1.lead k hk).1
 rw[IS (M:=λ i k=>g c.A i (ld k)) λ i k hi hk hki=>(S1.lead i hi).2.2 _ (S1.mono k i hki hi)]at e1;have h4:=Kh t8 (M:=λ i k=>g A (I i) (ld k)) (m:=b) λ i k hi hk=>hA _ _ (h1 i hi) (S1.lead k hk).1;rw[e1]at h4;have h5:=Ew h3 h4;have h6:0<Pr top λ q=>g c.A q (ld q):=lG λ q hq=>(S1.lead q hq).2.1;omega
theorem xS{A:Rows}{N w t1 t2 e1 u1 v1 e2 u2 v2 b:Nat}{c1 c2:B3}{l1 l2:Nat->Nat}(H1:d7 A N w c1 t1 w l1 e1 u1 v1)(H2:d7 (bG c1.A w) w N c2 t2 N l2 e2 u2 v2)(t8:t1<=8)(hA:∀i c,i<N->c<w->(g A i c).natAbs<=b):t2=t1/\Lo (bG c2.A N) N w t1/\(Pr t1 λ q=>g (bG c2.A N) q q)<=(((8*b)^t1:Nat):Int):=by
 have S1:=H1.Gq;have iA:=S1.tn.isA;have le:=S1.le;have at_:∀i c,i<N->c<w->g (bG c1.A w) c i=g c1.A i c:=λ i c hi hc=>cG iA hi hc;have lw:∀q,q<t1->l1 q<w:=λ q hq=>(S1.lead q hq).1
 have jy:∀q c,q<t1->c<t1->q<c->g (bG c1.A w) (l1 q) c=0:=λ q c hq hc hqc=>by
  rw[at_ c _ (by omega) (lw q hq)];exact(S1.lead c hc).2.2 _ (S1.mono q c hqc hc)
 obtain⟨e,F⟩:=JF (f:=l1) H2 le lw (λ i c hi hc hr=>by rw[at_ c i hc hi];exact S1.zs c i hr hc hi) jy (λ q hq=>by rw[at_ q _ (by omega) (lw q hq)];exact XR (S1.lead q hq).2.1);refine⟨e,F.lo,?_⟩;have d:=F.prod (f:=l1) lw jy;have e3:(Pr t1 λ q=>g (bG c1.A w) (l1 q) q)=Pr t1 λ q=>g c1.A q (l1 q):=pQ λ q hq=>at_ q _ (by omega) (lw q hq);have e4:(Pr t1 λ q=>g (bG c2.A N) q q)=Pr t1 λ q=>g c2.A q q:=pQ λ q hq=>cG F.is (by have:=F.rN;omega) (by omega);rw[e4];rw[e3]at d;exact V4 (Xz (lG λ q hq=>(S1.lead q hq).2.1) d) (Ky H1 t8 hA)
def Cl(X:Rows)(r t:Nat):Prop:=∀i j,j<t->j<i->i<r->g X i j=0
def Dg(X:Rows)(N w:Nat):Prop:=∀i c,i<N->c<w->i≠c->g X i c=0
theorem Lo.dg{X:Rows}{N w r:Nat}(L:Lo X N w r)(h:Cl X r r):Dg X N w:=λ i c hi hc hne=>by
 by_cases ho:r<=i\/r<=c
 . exact L.out i c hi hc ho
 . by_cases hic:i<c
   . exact L.jy i c (by omega) (by omega) hic
   . exact h i c (by omega) (by omega) (by omega)
section
variable {X Y Z:Rows}{N w r t:Nat}
theorem Cl.unit(L:Lo X N w r)(h:Cl X r t){q:Nat}(hqt:q<t)(hq:q<r):(∀i,i<N->g X q q∣g X i q)/\bC X N w λ c=>g X q q*dl q c:=by
 have rN:=L.rN;have rW:=L.rW
 have row:∀c,c<w->g X q c=g X q q*dl q c:=λ c hc=>by
  by_cases e:q=c
  . subst e;rw[bx,U_]
  . rw[bq e,TR];by_cases hcr:c<r
    . by_cases hqc:q<c
      . exact L.jy q c hq hcr hqc
      . exact h q c (by omega) (by omega) hq
    . exact L.out q c (by omega) hc (.inr (by omega))
 refine⟨λ i hi=>?_,(bC.row (X:=X) (w:=w) (k:=q) (by omega)).eq λ c hc=>(row c hc).symm⟩;by_cases e:i=q
 . rw[e];exact WI _
 . have:g X i q=0:=by
    by_cases hir:i<r
    . by_cases hiq:i<q
      . exact L.jy i q hir hq hiq
      . exact h i q hqt (by omega) hir
    . exact L.out i q hi (by omega) (.inl (by omega))
   rw[this];exact⟨0,by rw[TR]⟩
theorem Cl.step(L:Lo X N w r)(F:Fr X Y N w r)(h:Cl X r t):Cl (bG Y w) r t/\(∀q,q<t->q<r->g Y q q=g X q q)/\(t<r->∀i,i<r->t<=i->g Y t t∣g X i t):=by
 have rN:=L.rN;have rW:=L.rW;refine⟨λ i j hj hji hi=>?_,λ q hqt hq=>?_,λ htr i hi hti=>?_⟩
 . obtain⟨u1,u2⟩:=h.unit L hj (by omega);rw[cG F.is (show j<N by omega) (by omega)];exact(F.fix (by omega) (L.pos j (by omega)) u1 u2).2.2 i (by omega) (by omega)
 . obtain⟨u1,u2⟩:=h.unit L hqt hq;exact(F.fix hq (L.pos q hq) u1 u2).1
 . exact F.dvd htr (bC.row (X:=X) (w:=w) (k:=i) (by omega)) λ c hc=>h i c hc (by omega) hi
theorem Lo.round(L:Lo X N w r)(F:Fr X Y N w r)(G:Fr (bG Y w) Z w N r)(h:Cl X r t)(htr:t<r):Cl (bG Z N) r t/\(g Z t t∣g X t t)/\(g Z t t=g X t t->Cl (bG Z N) r (t+1)):=by
 have rN:=L.rN;have rW:=L.rW;have L2:=F.lo;obtain⟨c1,_,d1⟩:=h.step L F;obtain⟨c2,_,d2⟩:=c1.step L2 G;have a1:=d1 htr t htr (Tu _);have at_:∀i c,i<N->c<w->g (bG Y w) c i=g Y i c:=λ i c hi hc=>cG F.is hi hc
 have a2:∀i,i<r->t<=i->g Z t t∣g Y t i:=λ i hi hti=>by
  have:=d2 htr i hi hti;rwa [at_ t i (by omega) (by omega)]at this
 have a3:=a2 t htr (Tu _);refine⟨c2,V6 a3 a1,λ e=>?_⟩
 have eY:g Z t t=g Y t t:=by
  rw[<-e]at a1;exact WV (VC (G.pos t htr)) (VC (F.pos t htr)) a3 a1
 have u1:∀i,i<w->g Y t t∣g (bG Y w) i t:=λ i hi=>by
  rw[at_ t i (by omega) hi];by_cases hir:i<r
  . by_cases hti:t<=i
    . rw[<-eY];exact a2 i hir hti
    . rw[F.up t i htr (by omega)];exact⟨0,by rw[TR]⟩
  . rw[F.out t i (by omega) hi (by omega)];exact⟨0,by rw[TR]⟩
 have u2:bC (bG Y w) w N λ c=>g Y t t*dl t c:=(bC.row (X:=bG Y w) (w:=N) (k:=t) (by omega)).eq λ c hc=>by
  rw[at_ c t hc (by omega)];by_cases e:t=c
  . subst e;rw[bx,U_]
  . rw[bq e,TR];by_cases hcr:c<r
    . by_cases htc:t<c
      . exact(F.up c t hcr htc).symm
      . have:=c1 t c (by omega) (by omega) htr;rw[at_ c t hc (by omega)]at this;exact this.symm
    . exact(F.zs c t (by omega) hc (by omega)).symm
 have f:=G.fix htr (F.pos t htr) u1 u2;intro i j hj hji hi;by_cases e2:j=t
 . subst e2;rw[cG G.is (show j<w by omega) (by omega)];exact f.2.2 i (by omega) (by omega)
 . exact c2 i j (by omega) hji hi
end
def lf(X:Rows)(r t b:Nat):Nat:=(r-t)*(b+1)+if t<r then(g X t t).natAbs.log2 else 0
theorem Hj{a b:Nat}(hb:0<b)(h:b∣a)(ha:0<a)(hne:b≠a):b.log2<a.log2:=by
 obtain⟨k,rfl⟩:=h
 have k2:2<=k:=by
  rcases k with _|_|k
  . simp at ha
  . simp at hne
  . omega
 have h1:2^(b.log2)<=b:=Nat.log2_self_le (by omega);have h2:b*2<=b*k:=Uk b k2;have h3:b.log2+1<=(b*k).log2:=(Nat.le_log2 (by omega)).mpr (by rw[Vh];omega);omega
theorem QV{X:Rows}{N w r t b:Nat}(L:Lo X N w r)(r8:r<=8)(hM:(Pr r λ q=>g X q q)<=((2^b:Nat):Int)):lf X r t b<=9*(b+1):=by
 unfold lf;have h1:(r-t)*(b+1)<=8*(b+1):=T_ _ (by omega);split
 . rename_i h;have h2:=vV (λ q hq=>L.pos q hq) t h;have h3:=L.pos t h;have h4:(g X t t).natAbs.log2<b+1:=(Yd (by omega)).mpr (by rw[Vh];omega);omega
 . omega
theorem Lo.less{X Y Z:Rows}{N w r t b:Nat}(L:Lo X N w r)(F:Fr X Y N w r)(G:Fr (bG Y w) Z w N r)(h:Cl X r t)(htr:t<r)(hM:(Pr r λ q=>g (bG Z N) q q)<=((2^b:Nat):Int)):∃t',t'<=r/\Cl (bG Z N) r t'/\lf (bG Z N) r t' b<lf X r t b:=by
 obtain⟨h1,h2,h3⟩:=L.round F G h htr;have rN:=L.rN;have rW:=L.rW;have LZ:=G.lo;have eZ:g (bG Z N) t t=g Z t t:=cG G.is (by omega) (by omega);by_cases e:g Z t t=g X t t
 . refine⟨t+1,htr,h3 e,?_⟩;unfold lf;rw[TC htr]
   have h4:(if t+1<r then(g (bG Z N) (t+1) (t+1)).natAbs.log2 else 0)<=b:=by
    split
    . rename_i h;have h5:=vV (λ q hq=>LZ.pos q hq) (t+1) h;have h6:=LZ.pos (t+1) h;have h7:(g (bG Z N) (t+1) (t+1)).natAbs.log2<b+1:=(Yd (by omega)).mpr (by rw[Vh];omega);omega
    . exact T4 _
   have h5:(r-t)*(b+1)=(r-(t+1))*(b+1)+(b+1):=by rw[show r-t=(r-(t+1))+1 by omega,VQ,WR]
   omega
 . refine⟨t,UO htr,h1,?_⟩;unfold lf;rw[TC htr,TC htr,eZ];have:=Hj (b:=(g Z t t).natAbs) (a:=(g X t t).natAbs) (by have:=G.pos t htr;omega) (Int.natAbs_dvd_natAbs.mpr h2) (by have:=L.pos t htr;omega) (by have:=G.pos t htr;have:=L.pos t htr;omega);omega
def ub(n k p:Nat)(x:Int):Rows:=tW n n λ i j=>if i=k/\j=p then x else dl i j
theorem kj{n k p:Nat}{x:Int}:aP n n (ub n k p x):=iG
theorem Ea{n k p i j:Nat}{x:Int}(hi:i<n)(hj:j<n)(hkp:k≠p):g (ub n k p x) i j=dl i j+x*(dl i k*dl p j):=by
 unfold ub;rw[mH hi hj];by_cases h1:i=k
 . by_cases h2:j=p
   . rw[TC ⟨h1,h2⟩,h1,h2,bx,bx,bq hkp];omega
   . rw[Tv λ h=>h2 h.2,bq (TK h2)];simp
 . rw[Tv λ h=>h1 h.1,bq h1];simp
theorem Fl{n k p m:Nat}{x:Int}{B:Rows}(hB:aP m n B)(hk:k<n)(hkp:k≠p){i c:Nat}(hi:i<m)(hc:c<n):g (mulM B (ub n k p x) n) i c=g B i c+x*(g B i k*dl p c):=by
 rw[d5 hB kj hi]
 have e:(S n λ j=>g B i j*g (ub n k p x) j c)=S n (λ j=>g B i j*dl j c)+S n λ j=>x*dl p c*(g B i j*dl j k):=by
  rw[<-fZ]
  exact aC λ j hj=>by
   rw[Ea hj hc hkp];grind
 rw[e,dU,jt hc λ j=>g B i j,jt hk λ j=>g B i j];grind
theorem Cn{n k p:Nat}{x:Int}(hk:k<n)(hp:p<n)(hkp:k≠p):mulM (ub n k p x) (ub n k p (-x)) n=units n:=(bK kj kj).ext (bI n) λ i c hi hc=>by
 rw[Fl kj hk hkp hi hc,Ea hi hc hkp,Ea hi hk hkp,cK hi hc,bq (TK hkp)];grind
theorem GP{n k p i j:Nat}{x:Int}(hx:x.natAbs<=1)(hi:i<n)(hj:j<n):(g (ub n k p x) i j).natAbs<=2^0:=by
 unfold ub;rw[mH hi hj];split
 . exact hx
 . unfold dl;split<;>decide
theorem CL{X:Rows}{N w q:Nat}{a:Int}{v:Nat->Int}(hq:q<w)(h:∀i,i<N->a∣g X i q)(hv:bC X N w v):a∣v q:=by
 obtain⟨z,hz⟩:=hv;rw[hz q hq]
 have:∀n,n<=N->a∣S n λ k=>z k*g X k q:=λ n=>by
  induction n with
  |zero=>exact λ _=>⟨0,by rw[TR];rfl⟩
  |succ n ih=>exact λ hn=>Int.dvd_add (ih (by omega)) (V6 (h n (by omega)) (Int.dvd_mul_left _ _))
 exact this N (Tu _)
section
variable {B Y Z:Rows}{N w r k o:Nat}
theorem Kp(L:Lo B N w r)(dg:Dg B N w)(hko:k<o)(ho:o<r){i c:Nat}(hi:i<N)(hc:c<w):g (mulM B (ub w o k 1) w) i c=if i=c then g B i i else if i=o/\c=k then g B o o else 0:=by
 have rN:=L.rN;have rW:=L.rW;rw[Fl L.is (by omega) (by omega) hi hc,Xk];by_cases h1:i=c
 . subst h1;rw[TC rfl];by_cases h2:k=i
   . subst h2;rw[dg k o hi (by omega) (by omega),UW,Vr]
   . rw[bq h2,TR,Vr]
 . rw[Tv h1,dg i c hi hc h1];by_cases h2:k=c
   . subst h2;rw[bx,U_,VV];by_cases h3:i=o
     . subst h3;rw[TC ⟨rfl,rfl⟩]
     . rw[Tv λ h=>h3 h.1];exact dg i o hi (by omega) h3
   . rw[bq h2,Tv λ h=>h2 h.2.symm];simp
theorem Kd(L:Lo B N w r)(dg:Dg B N w)(hko:k<o)(ho:o<r):Lo (mulM B (ub w o k 1) w) N w r/\(Pr r λ q=>g (mulM B (ub w o k 1) w) q q)=Pr r λ q=>g B q q:=by
 have rN:=L.rN;have rW:=L.rW;have at_:=λ{i c:Nat} (hi:i<N) (hc:c<w)=>Kp L dg hko ho hi hc;refine⟨⟨bK L.is kj,rN,rW,λ i c hi hc ho'=>?_,λ i c hi hc hic=>?_,λ i hi=>?_,λ i c hci hi=>?_⟩,pQ λ q hq=>by rw[at_ (by omega) (by omega),TC rfl]⟩
 . rw[at_ hi hc];split
   . rename_i e;subst e;exact L.out i i hi hc ho'
   . rw[Tv (by omega)]
 . rw[at_ (by omega) (by omega),Tv (by omega),Tv (by omega)]
 . rw[at_ (by omega) (by omega),TC rfl];exact L.pos i hi
 . have hp:=L.pos i hi;rw[at_ (by omega) (by omega),at_ (by omega) (by omega),Tv (by omega),TC rfl];split
   . rename_i h;rw[<-h.1];omega
   . omega
theorem Fu(L:Lo B N w r)(dg:Dg B N w)(hko:k<o)(ho:o<r)(F:Fr (mulM B (ub w o k 1) w) Y N w r)(G:Fr (bG Y w) Z w N r):Dg (bG Z N) N w/\∀q,q<r->g (bG Z N) q q=if q=k then((Int.gcd (g B k k) (g B o o):Nat):Int)else if q=o then((Int.lcm (g B k k) (g B o o):Nat):Int)else g B q q:=by
 have rN:=L.rN;have rW:=L.rW;have at_:=λ{i c:Nat} (hi:i<N) (hc:c<w)=>Kp L dg hko ho hi hc;have pk:=L.pos k (by omega);have po:=L.pos o ho;have LX:=(Kd L dg hko ho).1;have row:∀i,i<N->bC (mulM B (ub w o k 1) w) N w (g (mulM B (ub w o k 1) w) i):=λ i hi=>bC.row hi
 have oth:∀q,q<r->q≠k->q≠o->g Y q q=g B q q/\(∀i,i<r->i≠q->g Y i q=0)/\∀c,c<w->c≠q->g Y q c=0:=λ q hq hqk hqo=>F.fix hq (L.pos q hq) (λ i hi=>by
  rw[at_ hi (by omega)];by_cases e:i=q
  . rw[TC e,e];exact WI _
  . rw[Tv e,Tv (by omega)];exact⟨0,by rw[TR]⟩) ((row q (by omega)).eq λ c hc=>by
  rw[at_ (by omega) hc];by_cases e:q=c
  . rw[TC e,e,bx,U_]
  . rw[Tv e,Tv (by omega),bq e,TR])
 have Xkk:g (mulM B (ub w o k 1) w) k k=g B k k:=by rw[at_ (by omega) (by omega),TC rfl]
 have Xok:g (mulM B (ub w o k 1) w) o k=g B o o:=by rw[at_ (by omega) (by omega),Tv (by omega),TC ⟨rfl,rfl⟩]
 have Xoo:g (mulM B (ub w o k 1) w) o o=g B o o:=by rw[at_ (by omega) (by omega),TC rfl]
 have Xko:g (mulM B (ub w o k 1) w) k o=0:=by rw[at_ (by omega) (by omega),Tv (by omega),Tv (by omega)]
 have hg:g Y k k=((Int.gcd (g B k k) (g B o o):Nat):Int):=by
  have d1:g Y k k∣g B k k:=by
   have:=F.dvd (q:=k) (by omega) (row k (by omega)) λ c hc=>by rw[at_ (by omega) (by omega),Tv (by omega),Tv (by omega)]
   rwa [Xkk]at this
  have d2:g Y k k∣g B o o:=by
   have:=F.dvd (q:=k) (by omega) (row o (by omega)) λ c hc=>by rw[at_ (by omega) (by omega),Tv (by omega),Tv (by omega)]
   rwa [Xok]at this
  have d3:((Int.gcd (g B k k) (g B o o):Nat):Int)∣g Y k k:=CL (by omega) (λ i hi=>by
   rw[at_ hi (by omega)];by_cases e:i=k
   . rw[TC e,e];exact Int.gcd_dvd_left ..
   . rw[Tv e];split
     . exact XE ..
     . exact⟨0,by rw[TR]⟩) ((F.yc _).mpr (bC.row (by omega)))
  exact WV (VC (F.pos k (by omega))) (Int.natCast_nonneg _) (Int.dvd_coe_gcd d1 d2) d3
 have hl:g Y o o=((Int.lcm (g B k k) (g B o o):Nat):Int):=by
  obtain⟨α,hα⟩:=Int.dvd_lcm_left (g B k k) (g B o o);obtain⟨β,hβ⟩:=Int.dvd_lcm_right (g B k k) (g B o o)
  have d1:g Y o o∣((Int.lcm (g B k k) (g B o o):Nat):Int):=by
   have hv:bC (mulM B (ub w o k 1) w) N w λ c=>((Int.lcm (g B k k) (g B o o):Nat):Int)*dl o c:=(bC.j6 (-α) (bC.smul β (row o (by omega))) (row k (by omega))).eq λ c hc=>by
    rw[at_ (by omega) hc,at_ (by omega) hc];by_cases e1:c=o
    . subst e1;rw[bx,TC rfl,Tv (by omega),Tv (by omega),hβ];grind
    . rw[bq (TK e1),Tv (by omega)];by_cases e2:c=k
      . subst e2;rw[TC ⟨rfl,rfl⟩,TC rfl];grind
      . rw[Tv (by omega),Tv (by omega),Tv (by omega)];grind
   have:=F.dvd ho hv λ c hc=>by rw[bq (by omega),TR]
   rwa [bx,U_]at this
  have d2:((Int.lcm (g B k k) (g B o o):Nat):Int)∣g Y o o:=by
   obtain⟨z,hz⟩:=(F.yc _).mpr (bC.row (X:=Y) (n:=r) (w:=w) ho);have z1:=hz k (by omega);have z2:=hz o (by omega);rw[F.up o k ho hko]at z1
   have s1:(S N λ i=>z i*g (mulM B (ub w o k 1) w) i k)=z k*g B k k+z o*g B o o:=by
    have:(S N λ i=>z i*g (mulM B (ub w o k 1) w) i k)=S N (λ i=>g B k k*(z i*dl i k))+S N λ i=>g B o o*(z i*dl i o):=by
     rw[<-fZ]
     exact aC λ i hi=>by
      rw[at_ hi (by omega)];by_cases e1:i=k
      . subst e1;rw[TC rfl,bx,bq (show i≠o by omega)];grind
      . rw[Tv e1,bq e1];by_cases e2:i=o
        . subst e2;rw[TC ⟨rfl,rfl⟩,bx];grind
        . rw[Tv (by omega),bq e2];grind
    rw[this,dU,dU,jt (show k<N by omega) z,jt (show o<N by omega) z];grind
   have s2:(S N λ i=>z i*g (mulM B (ub w o k 1) w) i o)=z o*g B o o:=by
    rw[i3 (k:=o) (by omega) λ i hi hne=>by rw[at_ hi (by omega),Tv hne,Tv (by omega),TR],Xoo]
   rw[s1]at z1;rw[s2]at z2;rw[z2];refine Int.coe_lcm_dvd ⟨-(z k),?_⟩ ⟨z o,UX _ _⟩;have:g B k k* -(z k)= -(z k*g B k k):=by grind
   omega
  exact WV (VC (F.pos o ho)) (Int.natCast_nonneg _) d1 d2
 have gp:0<((Int.gcd (g B k k) (g B o o):Nat):Int):=by rw[<-hg];exact F.pos k (by omega)
 have lp:0<((Int.lcm (g B k k) (g B o o):Nat):Int):=by rw[<-hl];exact F.pos o ho
 have hx:((Int.gcd (g B k k) (g B o o):Nat):Int)∣g Y k o:=V6 (XE ..) (CL (X:=mulM B (ub w o k 1) w) (N:=N) (w:=w) (by omega) (λ i hi=>by
  rw[at_ hi (by omega)];by_cases e:i=o
  . rw[TC e,e];exact WI _
  . rw[Tv e,Tv (by omega)];exact⟨0,by rw[TR]⟩) ((F.yc _).mpr (bC.row (by omega))))
 have tr_:∀i c,i<N->c<w->g (bG Y w) c i=g Y i c:=λ i c hi hc=>cG F.is hi hc;have zero:∀ {a:Int},a∣0:=λ{a}=>⟨0,by rw[TR]⟩
 have yk:∀c,c<w->c≠k->c≠o->g Y k c=0:=λ c hc h1 h2=>by
  by_cases hcr:c<r
  . exact(oth c hcr h1 h2).2.1 k (by omega) (TK h1)
  . exact F.out k c (by omega) hc (by omega)
 have yo:∀c,c<w->c≠o->g Y o c=0:=λ c hc h1=>by
  by_cases hcr:c<r
  . by_cases h2:c=k
    . subst h2;exact F.up o c ho hko
    . exact(oth c hcr h2 h1).2.1 o ho (TK h1)
  . exact F.out o c (by omega) hc (by omega)
 have ck:∀i,i<N->i≠k->g Y i k=0:=λ i hi h1=>by
  by_cases hir:i<r
  . by_cases h2:i=o
    . subst h2;exact F.up i k ho hko
    . exact(oth i hir h1 h2).2.2 k (by omega) (TK h1)
  . exact F.zs i k (by omega) hi (by omega)
 have co:∀i,i<N->i≠o->i≠k->g Y i o=0:=λ i hi h1 h2=>by
  by_cases hir:i<r
  . exact(oth i hir h2 h1).2.2 o (by omega) (TK h1)
  . exact F.zs i o (by omega) hi (by omega)
 have lk:bC (bG Y w) w N λ c=>((Int.gcd (g B k k) (g B o o):Nat):Int)*dl k c:=(bC.row (X:=bG Y w) (w:=N) (k:=k) (by omega)).eq λ c hc=>by
  rw[tr_ c k hc (by omega)];by_cases e:k=c
  . subst e;rw[hg,bx,U_]
  . rw[bq e,ck c hc (TK e),TR]
 have all:∀q,q<r->g Z q q=(if q=k then((Int.gcd (g B k k) (g B o o):Nat):Int)else if q=o then((Int.lcm (g B k k) (g B o o):Nat):Int)else g B q q)/\∀c,c<N->c≠q->g Z q c=0:=λ q hq=>by
  by_cases h1:q=k
  . subst h1;rw[TC rfl]
    have f:=G.fix hq gp (λ i hi=>by
     rw[tr_ q i (by omega) hi];by_cases e1:i=q
     . subst e1;rw[hg];exact WI _
     . by_cases e2:i=o
       . subst e2;exact hx
       . rw[yk i hi e1 e2];exact zero) lk
    exact⟨f.1,f.2.2⟩
  . rw[Tv h1];by_cases h2:q=o
    . subst h2;rw[TC rfl];obtain⟨y,hy⟩:=hx
      have f:=G.fix hq lp (λ i hi=>by
       rw[tr_ q i (by omega) hi];by_cases e1:i=q
       . subst e1;rw[hl];exact WI _
       . rw[yo i hi e1];exact zero) ((bC.j6 (-y) (bC.row (X:=bG Y w) (n:=w) (w:=N) (k:=q) (by omega)) lk).eq λ c hc=>by
       rw[tr_ c q hc (by omega)];by_cases e1:q=c
       . subst e1;rw[hl,bx,bq (show k≠q by omega)];grind
       . rw[bq e1];by_cases e2:k=c
         . subst e2;rw[hy,bx];grind
         . rw[bq e2,co c hc (TK e1) (TK e2)];grind)
      exact⟨f.1,f.2.2⟩
    . rw[Tv h2];obtain⟨o1,o2,o3⟩:=oth q hq h1 h2
      have f:=G.fix hq (L.pos q hq) (λ i hi=>by
       rw[tr_ q i (by omega) hi];by_cases e1:i=q
       . subst e1;rw[o1];exact WI _
       . rw[o3 i hi e1];exact zero) ((bC.row (X:=bG Y w) (w:=N) (k:=q) (by omega)).eq λ c hc=>by
       rw[tr_ c q hc (by omega)];by_cases e1:q=c
       . subst e1;rw[o1,bx,U_]
       . rw[bq e1,TR];by_cases hcr:c<r
         . exact(o2 c hcr (TK e1)).symm
         . exact(F.zs c q (by omega) hc (by omega)).symm)
      exact⟨f.1,f.2.2⟩
 refine⟨λ i c hi hc hne=>?_,λ q hq=>?_⟩
 . rw[cG G.is hc hi];by_cases hcr:c<r
   . exact(all c hcr).2 i hi hne
   . exact G.zs c i (by omega) hc hi
 . rw[cG G.is (by omega) (by omega)];exact(all q hq).1
end
structure Bh(X:Rows)(N w y:Nat)(c:B3):Prop where
 sz:∀i j,i<N->j<N->(g c.U i j).natAbs<=2^y/\(g c.C i j).natAbs<=2^y
structure F9(B:Rows)(N w y:Nat)(Q:Nat->Rows->Prop):Prop where
 low:∀i j,i<N->j<w->(g B i j).natAbs<=2^200
 s1:∀t c,dP B N w t c->Bh B N w y c
 a1:∀t c,dP B N w t c->∀i j,i<N->j<w->(g c.A i j).natAbs<=2^200
 s2:∀t c,dP B N w t c->∀t2 c2,dP (bG c.A w) w N t2 c2->Bh (bG c.A w) w N y c2
 lo:∀t c,dP B N w t c->∀t2 c2,dP (bG c.A w) w N t2 c2->∃r,r<=8/\Lo (bG c2.A N) N w r/\(Pr r λ q=>g (bG c2.A N) q q)<=((2^172:Nat):Int)/\Q r (bG c2.A N)
theorem pH{A:Rows}{N w M:Nat}(hA:aP N w A)(h:∀i c,i<N->c<w->(g A i c).natAbs<=M):fS A N 0 M:=λ i c _ hi=>by
 by_cases hc:c<w
 . exact h i c hi hc
 . unfold g;rw[kW (by rw[hA.row hi];omega)];exact T4 _
theorem kZ{a b c:Nat}(h:a<=2^b)(l:b<=c):a<=2^c:=TB h (TV (by decide) l)
theorem Lo.two{X:Rows}{N w r:Nat}{P:Rows->Prop}(L:Lo X N w r)(n8:N<=8)(w8:w<=8)(hM:(Pr r λ q=>g X q q)<=((2^172:Nat):Int))(h:∀Y Z,Fr X Y N w r->Fr (bG Y w) Z w N r->(Pr r λ q=>g (bG Z N) q q)<=((2^172:Nat):Int)->P (bG Z N)):F9 X N w 180 (λ r' M=>r'=r/\P M):=by
 have rN:=L.rN;have rW:=L.rW;have bX:=L.abs hM;have lX:=pH L.is bX;have one:∀t c,dP X N w t c->∃ld,d7 X N w c t w ld (Ey 172 t) (Uy 172 t) (Cx 172 t):=λ t c hC=>hC.str L.is lX (by omega) (Tu _)
 have lo1:∀t c,dP X N w t c->Fr X c.A N w r/\Lo (bG c.A w) w N r/\(Pr r λ q=>g (bG c.A w) q q)<=((2^172:Nat):Int):=λ t c hC=>by
  obtain⟨ld,H⟩:=one t c hC;obtain⟨_,F,dv⟩:=L.fr H;refine⟨F,F.lo,?_⟩;rw[pQ (h:=λ q=>g c.A q q) λ q hq=>cG F.is (by omega) (by omega)];exact V4 (Xz (lG λ q hq=>L.pos q hq) dv) hM
 refine⟨λ i j hi hj=>kZ (bX i j hi hj) (by decide),λ t c hC=>?_,λ t c hC i j hi hj=>?_,λ t c hC t2 c2 hC2=>?_,λ t c hC t2 c2 hC2=>?_⟩
 . obtain⟨ld,H⟩:=one t c hC;exact⟨L.turn (by omega) hC H hM⟩
 . obtain⟨F,L2,hM2⟩:=lo1 t c hC;have:=L2.abs hM2 j i hj hi;rw[cG F.is hi hj]at this;exact kZ this (by decide)
 . obtain⟨F,L2,hM2⟩:=lo1 t c hC;obtain⟨ld,H⟩:=hC2.str L2.is (pH L2.is (L2.abs hM2)) (by omega) (Tu _);exact⟨L2.turn (by omega) hC2 H hM2⟩
 . obtain⟨F,L2,hM2⟩:=lo1 t c hC;obtain⟨ld,H⟩:=hC2.str L2.is (pH L2.is (L2.abs hM2)) (by omega) (Tu _);obtain⟨_,G,dv⟩:=L2.fr H
   have hM3:(Pr r λ q=>g (bG c2.A N) q q)<=((2^172:Nat):Int):=by
    rw[pQ (h:=λ q=>g c2.A q q) λ q hq=>cG G.is (by omega) (by omega)];exact V4 (Xz (lG λ q hq=>L2.pos q hq) dv) hM2
   exact⟨r,by omega,G.lo,hM3,rfl,h _ _ F G hM3⟩
theorem SA:∀t,t<5->Ey 175 t<=10000000/\Uy 175 t<=10000000/\Cx 175 t<=10000000:=by decide+kernel
theorem Ti:∀t,t<9->Ey 77 t<=10000000/\Uy 77 t<=10000000/\Cx 77 t<=10000000:=by decide+kernel
theorem d7.J3{X:Rows}{N w top p e u v y:Nat}{c:B3}{ld:Nat->Nat}(H:d7 X N w c top p ld e u v)(h1:e<=y)(h2:u<=y)(h3:v<=y):Bh X N w y c:=⟨λ i j hi hj=>by
 by_cases ht:i<top
 . have:=H.hi i j ht;exact⟨kZ this.2.1 h2,kZ this.2.2 h3⟩
 . have ht:=UR ht;exact⟨kZ (H.lo.2.1 i j ht hi) h1,kZ (H.lo.2.2 i j ht hi) h1⟩⟩
theorem IQ{A:Rows}{N w:Nat}(hA:aP N w A)(n8:N<=8)(w8:w<=8)(h:(N<=4/\∀i j,i<N->j<w->(g A i j).natAbs<=2^40)\/∀i j,i<N->j<w->(g A i j).natAbs<=2^6):F9 A N w 10000000 (λ _ _=>True):=by
 obtain⟨b,e,hb,hbe,hc⟩:∃b e,(∀i j,i<N->j<w->(g A i j).natAbs<=2^b)/\b<=e/\((N<=4/\b=40/\e=175)\/(b=6/\e=77)):=by
  rcases h with⟨h1,h2⟩|h
  . exact⟨40,175,h2,by decide,.inl ⟨h1,rfl,rfl⟩⟩
  . exact⟨6,77,h,by decide,.inr ⟨rfl,rfl⟩⟩
 have he:e<=200:=by rcases hc with⟨_,_,rfl⟩|⟨_,rfl⟩<;>decide
 have sz:∀t,t<=N->Ey e t<=10000000/\Uy e t<=10000000/\Cx e t<=10000000:=λ t ht=>by
  rcases hc with⟨h4,_,rfl⟩|⟨_,rfl⟩
  . exact SA t (by omega)
  . exact Ti t (by omega)
 have lA:fS A N 0 (2^e):=pH hA λ i j hi hj=>kZ (hb i j hi hj) hbe;have one:∀t c,dP A N w t c->∃ld,d7 A N w c t w ld (Ey e t) (Uy e t) (Cx e t):=λ t c hC=>hC.str hA lA (by omega) (Tu _)
 have bA:∀t c,dP A N w t c->∀i j,i<N->j<w->(g c.A i j).natAbs<=2^e:=λ t c hC i j hi hj=>by
  obtain⟨ld,H⟩:=one t c hC;have S1:=H.Gq;have le:=S1.le;by_cases ht:i<t
  . have s:eE c.A t w ld:=⟨S1.lead,S1.mono⟩
    obtain⟨I,B,h1,h2,h3⟩:=S1.EM.picked s;refine TB (RH (A:=λ i=>g A (I i)) s S1.red (by omega) (λ i c hi hc=>hb _ c (h1 i hi) hc) h2 h3 i j ht hj) ?_;rcases hc with⟨h4,rfl,rfl⟩|⟨rfl,rfl⟩
    . exact TB (Ut (show t<=4 by omega) (TV (by decide) (show t<=4 by omega))) (show 4*(9*2^40)^4<=2^175 by decide+kernel)
    . exact TB (Ut (show t<=8 by omega) (TV (by decide) (show t<=8 by omega))) (show 8*(9*2^6)^8<=2^77 by decide+kernel)
  . rw[S1.zs i j (by omega) hi hj];exact T4 _
 have two:∀t c,dP A N w t c->∀t2 c2,dP (bG c.A w) w N t2 c2->∃ld,d7 (bG c.A w) w N c2 t2 N ld (Ey e t2) (Uy e t2) (Cx e t2):=λ t c hC t2 c2 hC2=>by
  obtain⟨ld,H⟩:=one t c hC;have iA:=H.tn.isA;exact hC2.str (cW iA) (pH (cW iA) λ i j hi hj=>by rw[cG iA hj hi];exact bA t c hC j i hj hi) (by omega) (Tu _)
 refine⟨λ i j hi hj=>kZ (hb i j hi hj) (by omega),λ t c hC=>?_,λ t c hC i j hi hj=>kZ (bA t c hC i j hi hj) he,λ t c hC t2 c2 hC2=>?_,λ t c hC t2 c2 hC2=>?_⟩
 . obtain⟨ld,H⟩:=one t c hC;obtain⟨z1,z2,z3⟩:=sz t H.le;exact H.J3 z1 z2 z3
 . obtain⟨ld,H⟩:=two t c hC t2 c2 hC2;obtain⟨ld1,H1⟩:=one t c hC;have le:=H1.le;have e2:=(xS H1 H (by omega) hb).1;obtain⟨z1,z2,z3⟩:=sz t2 (by omega);exact H.J3 z1 z2 z3
 . obtain⟨ld,H⟩:=two t c hC t2 c2 hC2;obtain⟨ld1,H1⟩:=one t c hC;have le:=H1.le;obtain⟨_,L,hM⟩:=xS H1 H (by omega) hb;refine⟨t,by omega,L,V4 hM (Int.ofNat_le.mpr ?_),trivial⟩;rcases hc with⟨h4,rfl,rfl⟩|⟨rfl,rfl⟩
   . exact TB (TV (by decide) (show t<=4 by omega)) (show(8*2^40)^4<=2^172 by decide+kernel)
   . exact TB (TV (by decide) (show t<=8 by omega)) (show(8*2^6)^8<=2^172 by decide+kernel)
theorem Lo.again{X:Rows}{N w r:Nat}(L:Lo X N w r)(n8:N<=8)(w8:w<=8)(hM:(Pr r λ q=>g X q q)<=((2^172:Nat):Int)):F9 X N w 180 (λ r' M=>r'=r/\∀t,t<r->Cl X r t->∃t',t'<=r/\Cl M r t'/\lf M r t' 172<lf X r t 172):=
 L.two n8 w8 hM λ Y Z F G hZ t ht h=>L.less F G h ht hZ
theorem HB{B:Rows}{N w r k o:Nat}(L:Lo B N w r)(n8:N<=8)(w8:w<=8)(hM:(Pr r λ q=>g B q q)<=((2^172:Nat):Int))(dg:Dg B N w)(hko:k<o)(ho:o<r):F9 (mulM B (ub w o k 1) w) N w 180 (λ r' M=>r'=r/\Dg M N w/\∀q,q<r->g M q q=if q=k then((Int.gcd (g B k k) (g B o o):Nat):Int)else if q=o then((Int.lcm (g B k k) (g B o o):Nat):Int)else g B q q):=by
 obtain⟨LX,eP⟩:=Kd L dg hko ho;exact LX.two n8 w8 (by rw[eP];exact hM) λ Y Z F G _=>Fu L dg hko ho F G
end Mx
namespace Prog
open PySem L2 L3
open PySem.Spec hiding items?
open PyProof.Rows hiding St
theorem jS{i j:Int}(h1: -(2^64)<i)(h2:i<2^64):IntMulOk i j:= .of_left (intBits_le_64 h1 h2)
theorem oV{i j:Int}(h1: -(2^64)<j)(h2:j<2^64):IntMulOk i j:= .of_right (intBits_le_64 h1 h2)
def Any(st:ae)(d:D):Prop:=∃t,fu st d=some t
structure Thing(st:ae)(d:D):Prop where
 any:Any st d
 ai:∀xs,items? st d=some xs->(∀x∈xs,Any st x)/\xs.length<=sizeLine
def isInt:D->Bool
 | .int _=>true
 |_=>false
theorem zB{st:ae}{d:D}{t:String}(h:fu st d=some t):(t=="int")=isInt d:=by
 cases d<;>unfold fu at h<;>first|(cases h;done)|(cases h;rfl)|(simp only at h;split at h<;>first|(cases h;rfl)|cases h)
theorem yA{st:ae}{d:D}{t:String}(h:fu st d=some t):(t=="list"||t=="tuple")=(items? st d).isSome:=by
 cases d<;>unfold fu at h<;>first|(cases h;done)|(cases h;rfl)|(simp only at h;split at h<;>first|(cases h;rename_i q;rw[aX q];rfl)|cases h)
def dq(st:ae)(d:D)(m:Int):Bool:=match items? st d with
 |some xs=>decide ((xs.length:Int)=m)&&xs.all isInt
 |none=>false
theorem uu{tg:ef}{te:DE}{ok:ae->Prop}{σc:bF}{st:ae}{K:List D->ae->Prop}{g:D->D}(aF:ok st):∀(xs acc:List D),(∀x∈xs,∀K',K' (g x) st->∃σ2,tg x σc=some σ2/\te σ2 st K')->K (acc++xs.map g) st->bO tg bf te ok σc xs acc st K
 | [],acc,_,h=>by unfold bO;exact⟨aF,by simpa using h⟩
 |x::xs,acc,hx,h=>by
  unfold bO;obtain⟨σ2,e,q⟩:=hx x Ua (λ y st2=>bO tg bf te ok σc xs (acc++[y]) st2 K) (uu aF xs (acc++[g x]) (λ y hy=>hx y (TY _ hy)) (by simpa using h));exact⟨aF,σ2,e,q⟩
theorem lR{f:D->Bool}:∀xs:List D,fY (xs.map λ x=>D.bl (f x))=some (xs.map f)
 | []=>rfl
 |x::xs=>by simp[fY,lR xs]
abbrev ao(r:List Int):List D:=r.map D.int
abbrev bj(r:List Int):D:= .tup (ao r)
abbrev bD(r:List Int):D:= .lst (ao r)
abbrev au(A:List (List Int)):D:= .tup (A.map bj)
def bU(st:ae):List D->List (List Int)->Prop
 | [],[]=>True
 |d::ds,r::rs=>items? st d=some (ao r)/\bU st ds rs
 |_,_=>False
structure fg(st:ae)(d:D)(A:List (List Int)):Prop where
 ex:∃ds,items? st d=some ds/\bU st ds A
theorem bU.len{st:ae}:∀ {ds:List D} {A:List (List Int)},bU st ds A->ds.length=A.length
 | [],[],_=>rfl
 |_::_,_::_,h=>by simp[bU.len h.2]
theorem bU.tup{st:ae}:∀ {A:List (List Int)},bU st (A.map bj) A
 | []=>trivial
 |_::_=>⟨rfl,bU.tup⟩
theorem bU.lst{st:ae}:∀ {A:List (List Int)},bU st (A.map bD) A
 | []=>trivial
 |_::_=>⟨rfl,bU.lst⟩
theorem bU.get{st:ae}:∀ {ds:List D} {A:List (List Int)} {i:Nat} {d:D},bU st ds A->ds[i]?=some d->∃r,A[i]?=some r/\items? st d=some (ao r)
 |_::_,r::_,0,_,h,e=>by simp at e;subst e;exact⟨r,rfl,h.1⟩
 |_::_,_::_,i+1,d,h,e=>by
  obtain⟨r,e1,e2⟩:=bU.get (i:=i) (d:=d) h.2 (by simpa using e);exact⟨r,by simpa using e1,e2⟩
theorem cM{st:ae}{A:List (List Int)}:fg st (au A) A:=⟨_,rfl,bU.tup⟩
structure Ext(st st':ae):Prop where
 len:st.length<=st'.length
 same:∀m,m<st.length->st'[m]?=st[m]?
theorem Ext.refl{st:ae}:Ext st st:=⟨Tu _,λ _ _=>rfl⟩
theorem Ext.trans{st st1 st2:ae}(a:Ext st st1)(b:Ext st1 st2):Ext st st2:=⟨TB a.len b.len,λ m h=>(b.same m (T8 h a.len)).trans (a.same m h)⟩
theorem Ext.push{st:ae}{c:List Cell}:Ext st (st++c):=⟨by simp,λ m h=>TF h⟩
theorem Ext.set{st:ae}{n:Nat}{c:Cell}{st0:ae}(a:Ext st0 st)(h:st0.length<=n):Ext st0 (st.set n c):=⟨by rw[TQ];exact a.len,λ m hm=>by rw[Tx (by omega)];exact a.same m hm⟩
theorem gw{r:List Int}{k:Nat}(h:k<r.length):d6 (ao r) (k:Int)=some (.int (r.getD k 0)):=by
 refine gB ?_;rw[T7,TM h,Mx.aJ h];rfl
theorem getD_mem{r:List Int}{k:Nat}(h:k<r.length):r.getD k 0∈r:=by rw[Mx.aJ h];exact Vf _
theorem bU.at{st:ae}{ds:List D}{A:List (List Int)}{k:Nat}(h:bU st ds A)(hk:k<A.length):∃d,d6 ds (k:Int)=some d/\items? st d=some (ao (A.getD k [])):=by
 have hl:=h.len;have e:ds[k]?=some ds[k]:=TM (by omega);obtain⟨r,er,hr⟩:=h.get e;refine⟨ds[k],gB e,?_⟩;rw[Mx.aJ hk];rw[TM hk]at er;cases er;exact hr
theorem ints_app{r:List Int}{x:Int}:ao r++[D.int x]=ao (r++[x]):=by simp[ao]
theorem H_{A:List (List Int)}{r:List Int}:A.map bj++[bj r]=(A++[r]).map bj:=by simp
theorem HJ{r s:List Int}{d:D}(h:d∈iu (ao r) (ao s)):∃a b,a∈r/\b∈s/\d= .tup [.int a,.int b]:=by
 obtain⟨n,hn,e⟩:=UG.mp h;have e':(iu (ao r) (ao s))[n]?=some d:=by rw[TM hn,e]
 obtain⟨x,y,ex,ey,rfl⟩:=uF e';rw[T7]at ex ey;cases q1:r[n]? with
 |none=>rw[q1]at ex;cases ex
 |some a=>
  cases q2:s[n]? with
  |none=>rw[q2]at ey;cases ey
  |some b=>
   rw[q1]at ex;rw[q2]at ey;cases ex;cases ey;exact⟨a,b,Ui q1,Ui q2,rfl⟩
theorem Am(n:Nat):(List.replicate n [D.int 0]).flatten=ao (List.replicate n 0):=by
 induction n with
 |zero=>rfl
 |succ n ih=>rw[Vk,VG,ih];rfl
theorem yf:∀r:List Int,(ao r).map (λ x=>match x with| .int i=>i|_=>0)=r
 | []=>rfl
 |a::r=>by rw[ao,Uj,Uj,yf r]
theorem Hq{d:D}{ds:List D}:d6 (d::ds) 0=some d:=gB (j:=0) rfl
def intsOf(st:ae)(d:D):List Int:=match items? st d with
 |some xs=>xs.map λ x=>match x with| .int i=>i|_=>0
 |none=>[]
theorem lO{st:ae}{d:D}{r:List Int}(h:items? st d=some (ao r)):intsOf st d=r:=by
 unfold intsOf;rw[h];exact yf r
theorem GZ{x y:D}{xs ys:List D}:iu (x::xs) (y::ys)= .tup [x,y]::iu xs ys:=rfl
theorem Kw{n:Nat}{r:List Int}:(ao r).all (pl n)=true:=by
 refine Um.mpr λ d hd=>?_;obtain⟨i,_,rfl⟩:=T5.mp hd;cases n<;>rfl
def ay:Addr:=175
def aB:Addr:=245
abbrev cS(b:Bool):Cell:=Cell.tab 155 ⟨80,32,80,66⟩ "Bench.live_rows.<locals>.<lambda>" b
abbrev MF:List (Addr×Pos×Str):=[(155,⟨80,32,80,66⟩,"Bench.live_rows.<locals>.<lambda>")]
def ll:bQ:=λ ds st K=>∃d,ds=[d]/\Any st d/\K (.bl (isInt d)) st
def ux:List Str:=["thing"]
def Ck:DS:=(a7 (km (a9 iz (aa (ab 0) (aa (dC (.ty "int")) af))) (zu (aU (a9 iz (aa (ab 0) (aa (dC (.ty "bool")) af)))))))
abbrev Tq(S:bQ)(n:Nat)(P:DS)(N:List Str):Prop:=∀ds st K,S ds st K->ds.length=n/\P {nx:=λ _ st'=>K .ax st',rt:=K} (aH N ds) st
theorem AZ:Tq ll 1 Ck ux:=by
 rintro ds st K ⟨d,rfl,⟨t,ht⟩,k⟩;refine⟨rfl,?_⟩;rw[<-zB ht]at k;have hm:=kH ht;refine mY ht (by decide) ?_;simp only[jW,TU,T3,Ve]at hm;rcases hm with rfl|rfl|rfl|rfl|rfl|rfl
 . exact k
 . refine dj (mY ht (by decide) ?_);exact k
 . refine dj (mY ht (by decide) ?_);exact k
 . exact k
 . exact k
 . exact k
def g7:bQ:=λ ds st K=>∃d,ds=[d]/\Any st d/\K (.bl (items? st d).isSome) st
def ud:List Str:=["thing"]
def BZ:DS:=(a7 (a9 iz (aa (ab 0) (aa (cL (aa (dC (.ty "list")) (aa (dC (.ty "tuple")) af))) af))))
theorem zY:Tq g7 1 BZ ud:=by
 rintro ds st K ⟨d,rfl,⟨t,ht⟩,k⟩;refine⟨rfl,?_⟩;rw[<-yA ht]at k;have hm:=kH ht;refine⟨Ts rfl,CK ht rfl (by decide) ?_⟩;simp only[jW,TU,T3,Ve]at hm;rcases hm with rfl|rfl|rfl|rfl|rfl|rfl<;>exact k
def i7:bQ:=λ ds st K=>∃d m,ds=[d,.int m]/\Any st d/\K (.bl (match items? st d with|some xs=>decide ((xs.length:Int)=m)|none=>false)) st
def o7:List Str:=["thing","many"]
def xr:DS:=(a7 (km (aq g7 (aa (ab 0) af)) (aj gc (a9 cY (aa (ab 0) af)) (ab 1))))
theorem wd:Tq i7 2 xr o7:=by
 rintro ds st K ⟨d,m,rfl,ha,k⟩;refine⟨rfl,?_⟩;cases e:items? st d with
 |none=>
  rw[e]at k;exact⟨d,rfl,ha,by rw[e];exact k⟩
 |some xs=>
  rw[e]at k;refine⟨d,rfl,ha,?_⟩;rw[e];refine dj (cq e (AA ?_));exact k
def jD:bQ:=λ ds st K=>∃d m,ds=[d,.int m]/\Thing st d/\K (.bl (dq st d m)) st
def qG:List Str:=["thing","many"]
def yO:DS:=(a7 (km (aq i7 (aa (ab 0) (aa (ab 1) af))) (a9 oF (aa (cj (c9 (ab 0)) [none] (aK 0) bf (aq ll (aa (ab 0) af))) af))))
theorem wQ:Tq jD 2 yO qG:=by
 rintro ds st K ⟨d,m,rfl,ha,k⟩;refine⟨rfl,?_⟩;refine⟨d,m,rfl,ha.any,?_⟩;unfold dq at k;cases e:items? st d with
 |none=>rw[e]at k;exact k
 |some xs=>
  rw[e]at k;obtain⟨h1,h2⟩:=ha.ai xs e;by_cases hl:(xs.length:Int)=m
  . simp only[hl,decide_true,Vu]at k⊢;rw[TC trivial];refine iE e λ ok aF=>?_;refine⟨h2,uu (g:=λ x=> .bl (isInt x)) aF xs [] (λ x hx K' q=>⟨_,rfl,⟨x,rfl,h1 x hx,q⟩⟩) ?_⟩;refine rR (lR xs) ?_;simpa using k
  . simp only[hl,decide_false,Wi]at k⊢;exact k
def jP:bQ:=λ ds st K=>∃(d:D) (A:List (List Int)),ds=[d]/\fg st d A/\A.length<=1000/\K (au A) st
def xM:List Str:=["rows"]
def FL:DS:=(a7 (a9 cy (aa (cj (c9 (ab 0)) [none] (aK 0) bf (a9 cy (aa (ab 0) af))) af)))
theorem mG{tg:ef}{te:DE}{ok:ae->Prop}{σc:bF}{st:ae}{K:List D->ae->Prop}{ds:List D}{A:List (List Int)}(f:List Int->D)(aF:ok st)(hr:bU st ds A)(hx:∀d r,r∈A->items? st d=some (ao r)->∀K',K' (f r) st->∃σ2,tg d σc=some σ2/\te σ2 st K')(k:K (A.map f) st):bO tg bf te ok σc ds [] st K:=by
 refine eA (λ rest acc st'=>∃(A1 A2:List (List Int)),st=st'/\A1++A2=A/\bU st rest A2/\acc=A1.map f) ?_ ?_ _ _ _ ⟨[],A,rfl,rfl,hr,rfl⟩
 . rintro acc st' ⟨A1,A2,rfl,he,h,rfl⟩;match A2,h with
   | [],_=>
     rw[Vb]at he;subst he;exact⟨aF,k⟩
 . rintro d rest acc st' ⟨A1,A2,rfl,he,h,rfl⟩ next
   match A2,h with
   |r::A2,h=>
    obtain⟨σ2,e2,q⟩:=hx d r (by rw[<-he];simp) h.1 (λ y st2=>bO tg bf te ok σc rest (A1.map f++[y]) st2 K) (next _ _ ⟨A1++[r],A2,rfl,by rw[<-he];simp,h.2,by simp⟩);exact⟨aF,σ2,e2,q⟩
theorem DG:Tq jP 1 FL xM:=by
 rintro ds st K ⟨d,A,rfl,⟨da,hd,ra⟩,hl,k⟩;refine⟨rfl,?_⟩;refine iE hd λ ok aF=>⟨aY (by rw[ra.len];exact hl),?_⟩
 refine mG bj aF ra (λ e r hr he K' q=>⟨_,rfl,cf he q⟩) ?_;exact cf rfl k
def mS:bQ:=λ ds st K=>∃x y t r s,ds=[x,.int t,y]/\items? st x=some (ao r)/\items? st y=some (ao s)/\r.length<=1000/\(∀b∈s,IntMulOk t b)/\K (bD (Mx.gN r t s)) st
def CY:List Str:=["row","times","other"]
def L5:DS:=(a7 (cj (zJ (aa (ab 0) (aa (ab 2) af))) [none,none,some 1] (gO 0 1) bf (aj bT (ab 0) (aj eN (ab 2) (ab 1)))))
theorem yB{t:Int}:∀(r s:List Int),(iu (ao r) (ao s)).map (λ d=>match d with| .tup [.int a,.int b]=> .int (a+t*b)|_=> .ax)=ao (Mx.gN r t s)
 | [],_=>rfl
 |_::_,[]=>rfl
 |a::r,b::s=>by
  have:=yB (t:=t) r s;unfold iu Mx.gN at this⊢;simp only[ao,Uj,List.zip_cons_cons,Ye]at this⊢;rw[this]
theorem HW:Tq mS 3 L5 CY:=by
 rintro ds st K ⟨x,y,t,r,s,rfl,hx,hy,hl,hm,k⟩;refine⟨rfl,?_⟩;refine Bp hx hy λ ok aF=>⟨aY (by rw[uX];simp;omega),?_⟩
 refine comp_map (g:=λ d=>match d with| .tup [.int a,.int b]=> .int (a+t*b)|_=> .ax) (aF st hx hy) _ (λ d hd K' q=>?_) ?_
 . obtain⟨a,b,ha,hb,rfl⟩:=HJ hd;exact⟨_,rfl,fC (hm b hb) (dW q)⟩
 . rw[yB];exact k
def uC:bQ:=λ ds st K=>∃(x y:D) (n:Nat) (ws:List Int) (A:List (List Int)),ds=[x,y,.int n]/\items? st x=some (ao ws)/\fg st y A/\(∀r∈A,r.length=n)/\n<=1000/\(∀w∈ws,∀r∈A,∀b∈r,IntMulOk w b)/\K (bj (Mx.fO ws A (List.replicate n 0))) st
def AW:List Str:=["weights","rows","wide","total","weight","row"]
def HU:DS:=(az (bJ 3 (aj eN (gJ (aa (dC (.int 0)) af)) (ab 2)))
 (az (ia (zJ (aa (ab 0) (aa (ab 1) af))) (gO 4 5) (bJ 3 (aq mS (aa (ab 3) (aa (ab 4) (aa (ab 5) af))))))
 (a7 (a9 cy (aa (ab 3) af)))))
theorem He:Tq uC 3 HU AW:=by
 rintro ds st K ⟨x,y,n,ws,A,rfl,hx,⟨dr,hy,hr⟩,hw,hn,hm,k⟩;refine⟨rfl,?_⟩;refine Sy (Ts rfl) (Lr ⟨by omega,by omega,aY (by simp;omega)⟩ ?_);rw[TZ,Am];refine Bp hx hy λ ok aF=>?_
 refine iV (λ rest σ st'=>∃(v4 v5:Option D) (ws':List Int) (ds':List D) (A':List (List Int)) (acc:List Int),st=st'/\rest=iu (ao ws') ds'/\bU st ds' A'/\σ=[some x,some y,some (.int n),some (bD acc),v4,v5]/\acc.length=n/\(∀r∈A',r∈A)/\(∀w∈ws',w∈ws)/\Mx.fO ws' A' acc=Mx.fO ws A (List.replicate n 0)) ?_ ?_ _ _ _
  ⟨none,none,ws,dr,A,List.replicate n 0,rfl,rfl,hr,rfl,by simp,λ _ h=>h,λ _ h=>h,rfl⟩
 . rintro σ st1 ⟨v4,v5,ws',ds',A',acc,rfl,he,hr',rfl,hl,_,_,hs⟩;refine⟨aF _ hx hy,cf rfl ?_⟩
   have:Mx.fO ws' A' acc=acc:=by
    match ws',ds',A',hr',he with
    | [],_,_,_,_=>unfold Mx.fO;rfl
    |_::_,[],[],_,_=>unfold Mx.fO;rfl
    |_::_,_::_,_::_,_,he=>cases he
   rw[this]at hs;rw[hs];exact k
 . rintro d rest σ st1 ⟨v4,v5,ws',ds',A',acc,rfl,he,hr',rfl,hl,ha,hw',hs⟩ next
   match ws',ds',A',hr',he with
   |w::ws',e::ds',r::A',hr',he=>
    simp only[ao,Uj,GZ,VB]at he;obtain⟨rfl,rfl⟩:=he;refine⟨aF _ hx hy,_,rfl,?_⟩;have hrl:=hw r (ha r Ua);refine⟨_,_,_,acc,r,rfl,rfl,hr'.1,by omega,λ b hb=>hm w (hw' w Ua) r (ha r Ua) b hb,?_⟩;refine next _ _ ⟨_,_,ws',ds',A',Mx.gN acc w r,rfl,rfl,hr'.2,rfl,by rw[Mx.qc (by omega)];exact hl,λ q hq=>ha q (TY _ hq),λ q hq=>hw' q (TY _ hq),?_⟩
    rw[<-hs];rfl
   | [],_,_,_,he=>cases he
   |_::_,[],[],_,he=>cases he
def e9:bQ:=λ ds st K=>∃(x y:D) (n:Nat) (A B:List (List Int)),ds=[x,y]/\fg st x A/\fg st y B/\B≠ []/\(∀r∈B,r.length=n)/\n<=1000/\A.length<=1000/\(∀w∈A,∀c∈w,∀r∈B,∀b∈r,IntMulOk c b)/\K (au (Mx.mulM A B n)) st
def xY:List Str:=["one","other","wide"]
def FR:DS:=(az (bJ 2 (a9 cY (aa (aj a_ (ab 1) (dC (.int 0))) af)))
 (a7 (a9 cy (aa (cj (c9 (ab 0)) [none,some 1,some 2] (aK 0) bf (aq uC (aa (ab 0) (aa (ab 1) (aa (ab 2) af))))) af))))
theorem zA{st:ae}{n:Nat}{B:List (List Int)}{f:D->D}:∀ {ds:List D} {A:List (List Int)},bU st ds A->(∀d r,items? st d=some (ao r)->f d=bj (Mx.fO r B (List.replicate n 0)))->ds.map f=(Mx.mulM A B n).map bj
 | [],[],_,_=>rfl
 |d::ds,r::A,h,hf=>by
  rw[Uj,hf d r h.1,zA h.2 hf];rfl
theorem Du:Tq e9 2 FR xY:=by
 rintro ds st K ⟨x,y,n,A,B,rfl,⟨da,hx,ra⟩,hy,hB,hw,hn,hl,hm,k⟩;refine⟨rfl,?_⟩;obtain⟨db,ey,rb⟩:=hy.ex;match B,db,rb,hB,hw,hm,hy,k,ey with
 |r0::B,d0::db,rb,_,hw,hm,hy,k,ey=>
  have h0:r0.length=n:=hw r0 Ua;refine aE ey Hq (cq rb.1 ?_);rw[Tw,h0];refine iE hx λ ok aF=>⟨aY (by rw[ra.len];exact hl),?_⟩
  refine comp_map (g:=λ d=>bj (Mx.fO (intsOf st d) (r0::B) (List.replicate n 0))) aF da (λ d hd K' q=>?_) ?_
  . obtain⟨i,hi,ed⟩:=UG.mp hd;obtain⟨r,er,hr⟩:=ra.get (i:=i) (d:=d) (by rw[TM hi,ed]);refine⟨_,rfl,d,y,n,r,r0::B,rfl,hr,hy,hw,hn,λ c hc=>hm r (Ui er) c hc,?_⟩;rw[lO hr]at q;exact q
  . refine cf rfl ?_;rw[zA ra (n:=n) (B:=r0::B) λ d r h=>by rw[lO h]];exact k
 |_::_,[],rb,_,_,_,_,_,_=>exact rb.elim
def uP:bQ:=λ ds st K=>∃(d:D) (A:List (List Int)) (j:Nat),ds=[d,.int j]/\fg st d A/\(∀r∈A,j<r.length)/\A.length<=1000/\K (bj (Mx.qg A j)) st
def BI:List Str:=["rows","place"]
def HX:DS:=(a7 (a9 cy (aa (cj (c9 (ab 0)) [none,some 1] (aK 0) bf (aj a_ (ab 0) (ab 1))) af)))
theorem E_{tg:ef}{te:DE}{ok:ae->Prop}{σc:bF}{st:ae}{K:List D->ae->Prop}{ds:List D}{A:List (List Int)}(f:List Int->D)(aF:ok st)(hr:bU st ds A)(hx:∀d r,r∈A->items? st d=some (ao r)->∀K',K' (f r) st->∃σ2,tg d σc=some σ2/\te σ2 st K')(k:K (A.map f) st):bO tg bf te ok σc ds [] st K:=by
 refine eA (λ rest acc st'=>∃(A1 A2:List (List Int)),st=st'/\A1++A2=A/\bU st rest A2/\acc=A1.map f) ?_ ?_ _ _ _ ⟨[],A,rfl,rfl,hr,rfl⟩
 . rintro acc st' ⟨A1,A2,rfl,he,h,rfl⟩;match A2,h with
   | [],_=>
     rw[Vb]at he;subst he;exact⟨aF,k⟩
 . rintro d rest acc st' ⟨A1,A2,rfl,he,h,rfl⟩ next
   match A2,h with
   |r::A2,h=>
    obtain⟨σ2,e2,q⟩:=hx d r (by rw[<-he];simp) h.1 (λ y st2=>bO tg bf te ok σc rest (A1.map f++[y]) st2 K) (next _ _ ⟨A1++[r],A2,rfl,by rw[<-he];simp,h.2,by simp⟩);exact⟨aF,σ2,e2,q⟩
theorem GL(A:List (List Int))(j:Nat):A.map (λ r=>D.int (r.getD j 0))=ao (Mx.qg A j):=by unfold Mx.qg ao;rw[UD];rfl
theorem FI:Tq uP 2 HX BI:=by
 rintro ds st K ⟨d,A,j,rfl,⟨da,hd,ra⟩,hj,hl,k⟩;refine⟨rfl,?_⟩;refine iE hd λ ok aF=>⟨aY (by rw[ra.len];exact hl),?_⟩
 refine E_ (λ r=> .int (r.getD j 0)) aF ra (λ e r hr he K' q=>⟨_,rfl,aE he (gw (hj r hr)) q⟩) ?_;rw[GL];exact cf rfl k
def fK:bQ:=λ ds st K=>∃(d:D) (A:List (List Int)) (n:Nat),ds=[d,.int n]/\fg st d A/\(∀r∈A,r.length=n)/\A.length<=1000/\n<=1000/\K (au (Mx.bG A n)) st
def qC:List Str:=["rows","wide"]
def yT:DS:=(a7 (a9 cy (aa (cj (cB (aa (ab 1) af)) [none,some 0] (aK 0) bf (aq uP (aa (ab 1) (aa (ab 0) af)))) af)))
theorem IJ(A:List (List Int))(n:Nat):(List.range n).map (λ j=>bj (Mx.qg A j))=(Mx.bG A n).map bj:=by unfold Mx.bG;rw[UD];rfl
theorem wJ:Tq fK 2 yT qC:=by
 rintro ds st K ⟨d,A,n,rfl,hd,hw,hl,hn,k⟩;refine⟨rfl,?_⟩;refine cN ⟨by omega,by omega⟩ ⟨aY (by rw[cw];omega),?_⟩;rw[TZ];refine fN (λ j=>bj (Mx.qg A j)) n (λ i hi K' q=>⟨_,rfl,d,A,i,rfl,hd,λ r hr=>by rw[hw r hr];exact hi,hl,q⟩) ?_;rw[IJ];exact cf rfl k
def qk:bQ:=λ ds st K=>∃(n i:Nat),ds=[.int n,.int i]/\n<=1000/\K (bj (Mx.iZ n i)) st
def vG:List Str:=["n","place"]
def Ef:DS:=(a7 (a9 cy (aa (cj (cB (aa (ab 0) af)) [none,some 1] (aK 0) bf (yn (aU (aj gc (ab 0) (ab 1))) (dC (.int 1)) (dC (.int 0)))) af)))
theorem Ci:Tq qk 2 Ef vG:=by
 rintro ds st K ⟨n,i,rfl,hn,k⟩;refine⟨rfl,?_⟩;refine cN ⟨by omega,by omega⟩ ⟨aY (by rw[cw];omega),?_⟩;rw[TZ];refine fN (λ j=> .int (Mx.dl j i)) n (λ j hj K' q=>⟨_,rfl,?_⟩) ?_
 . refine eq2 (λ h=>dj ?_) λ h=>?_
   . have:j=i:=by omega
     subst this;rw[Mx.bx]at q;exact q
   . rw[Mx.bq (by omega)]at q;exact q
 . have:(List.range n).map (λ j=>D.int (Mx.dl j i))=ao (Mx.iZ n i):=by unfold Mx.iZ ao;rw[UD];rfl
   rw[this];exact cf rfl k
def dQ:bQ:=λ ds st K=>∃(n:Nat),ds=[.int n]/\n<=1000/\K (au (Mx.units n)) st
def ug:List Str:=["n"]
def BK:DS:=(a7 (a9 cy (aa (cj (cB (aa (ab 0) af)) [none,some 0] (aK 0) bf (aq qk (aa (ab 1) (aa (ab 0) af)))) af)))
theorem BC:Tq dQ 1 BK ug:=by
 rintro ds st K ⟨n,rfl,hn,k⟩;refine⟨rfl,?_⟩;refine cN ⟨by omega,by omega⟩ ⟨aY (by rw[cw];omega),?_⟩;rw[TZ];refine fN (λ i=>bj (Mx.iZ n i)) n (λ i hi K' q=>⟨_,rfl,n,i,rfl,hn,q⟩) ?_;have:(List.range n).map (λ i=>bj (Mx.iZ n i))=(Mx.units n).map bj:=by unfold Mx.units;rw[UD];rfl
 rw[this];exact cf rfl k
structure F5(st:ae)(d:D):Prop where
 any:Any st d
 ai:∀xs,items? st d=some xs->(∀x∈xs,Thing st x)/\xs.length<=sizeLine
def pq(n:Nat)(m:D):Bool:=match m with
 | .int i=>decide ((n:Int)=i)
 |_=>true
def dH(st:ae)(d m:D)(w:Int):Bool:=match items? st d with
 |some xs=>pq xs.length m&&xs.all λ r=>dq st r w
 |none=>false
def lT:bQ:=λ ds st K=>∃d m w,ds=[d,m,.int w]/\F5 st d/\(m= .ax\/∃i,m= .int i)/\K (.bl (dH st d m w)) st
def sH:List Str:=["thing","many","wide"]
def FD:DS:=(az (cZ (dz (aU (aq g7 (aa (ab 0) af)))) (a7 (dC (.bl false))) cv)
 (az (cZ (tI (aU (aj vX (ab 1) (dC .ax))) (aU (aj mw (a9 cY (aa (ab 0) af)) (ab 1)))) (a7 (dC (.bl false))) cv)
 (a7 (a9 oF (aa (cj (c9 (ab 0)) [none,some 2] (aK 0) bf (aq jD (aa (ab 0) (aa (ab 1) af)))) af)))))
theorem jo{st:ae}{d m:D}{w:Int}(e:items? st d=none):dH st d m w=false:=by unfold dH;rw[e]
theorem ju{st:ae}{d m:D}{w:Int}{xs:List D}(e:items? st d=some xs):dH st d m w=(pq xs.length m&&xs.all λ r=>dq st r w):=by unfold dH;rw[e]
theorem ED:Tq lT 3 FD sH:=by
 rintro ds st K ⟨d,m,w,rfl,hd,hm,k⟩;refine⟨rfl,?_⟩;refine⟨d,rfl,hd.any,?_⟩;cases e:items? st d with
 |none=>rw[jo e]at k;exact k
 |some xs=>
  rw[ju e]at k;obtain⟨h1,h2⟩:=hd.ai xs e
  have fin:pq xs.length m=true->a7 (a9 oF (aa (cj (c9 (ab 0)) [none,some 2] (aK 0) bf (aq jD (aa (ab 0) (aa (ab 1) af)))) af)) {nx:=λ _ st'=>K .ax st',rt:=K} (aH sH [d,m,.int w]) st:=by
   intro hk;rw[hk,Vu]at k;refine iE e λ ok aF=>⟨h2,comp_map (g:=λ r=> .bl (dq st r w)) aF xs (λ x hx K' q=>⟨_,rfl,x,w,rfl,h1 x hx,q⟩) ?_⟩
   refine rR (lR xs) ?_;simpa using k
  rcases hm with rfl|⟨i,rfl⟩
  . exact GR rfl (fin rfl)
  . refine GR rfl (cq e (ne2 (λ h=>?_) λ h=>?_))
    . have:pq xs.length (.int i)=false:=T6 h;rw[this]at k;exact k
    . exact fin (Ul h)
theorem HL{a:Int}{m:Nat}(h:a.natAbs<2^m):Builtin.Int.intBits a<=m:=by
 unfold Builtin.Int.intBits;by_cases h0:a.natAbs=0
 . have:a=0:=by omega
   subst this;simp
 . have:=(Yd h0).mpr h;split<;>omega
theorem g8{a b:Int}{m n:Nat}(ha:a.natAbs<=2^m)(hb:b.natAbs<=2^n)(h:m+n<=130000000):IntMulOk a b:=by
 have q:∀ {x:Int} {k:Nat},x.natAbs<=2^k->Builtin.Int.intBits x<=k+1:=λ{x k} h=>HL (Xr h (Nat.pow_lt_pow_right (by decide) (Uz k)));have h1:=q ha;have h2:=q hb;have e:(2:Nat)^27=134217728:=by decide
 have z:Builtin.Int.intTooBig (Builtin.Int.intBits a+Builtin.Int.intBits b)=false:=by
  unfold Builtin.Int.intTooBig bitsLine;exact T6 (by omega)
 unfold IntMulOk;rw[z];simp
theorem Cs{n:Nat}{r:List Int}:pl (n+1) (bj r)=true:=by
 unfold pl;exact Kw
theorem iO{n:Nat}{A:List (List Int)}:pl (n+2) (au A)=true:=by
 unfold pl;refine Um.mpr λ d hd=>?_;obtain⟨r,_,rfl⟩:=T5.mp hd;exact Cs
theorem yz:∀(r s:List Int),ft (ao r) (ao s)=decide (r=s)
 | [],[]=>by unfold ft;rfl
 | [],_::_=>by unfold ft;rfl
 |_::_,[]=>by unfold ft;rfl
 |a::r,b::s=>by
  have ih:=yz r s;unfold ao at ih⊢;rw[Uj,Uj];unfold ft;rw[ih];unfold cF;by_cases h1:a=b
  . subst h1;simp
  . have:(a==b)=false:=by simpa using h1
    rw[this,Wi];exact(T6 λ h=>h1 (Ws h).1).symm
theorem yj:∀(A B:List (List Int)),ft (A.map bj) (B.map bj)=decide (A=B)
 | [],[]=>by unfold ft;rfl
 | [],_::_=>by unfold ft;rfl
 |_::_,[]=>by unfold ft;rfl
 |a::r,b::s=>by
  have ih:=yj r s;rw[Uj,Uj];unfold ft;rw[ih];unfold bj cF;rw[yz];by_cases h1:a=b
  . subst h1;simp
  . rw[T6 h1,Wi];exact(T6 λ h=>h1 (Ws h).1).symm
theorem qo(A B:List (List Int)):cF (au A) (au B)=decide (A=B):=by
 unfold au cF;exact yj A B
theorem all_ints:∀ {xs:List D},xs.all isInt=true->xs=ao (xs.map λ x=>match x with| .int i=>i|_=>0)
 | [],_=>rfl
 |x::xs,h=>by
  rw[U8,Ub]at h;have ih:=all_ints h.2;cases x<;>first|(cases h.1;done)|skip
  rename_i i;show D.int i::xs=D.int i::_;rw[<-ao,<-ih]
theorem Bb{st:ae}{r:D}{w:Int}(h:dq st r w=true):items? st r=some (ao (intsOf st r))/\((intsOf st r).length:Int)=w:=by
 unfold dq at h;cases e:items? st r with
 |none=>rw[e]at h;cases h
 |some xs=>
  rw[e]at h;simp only[Ub,XD]at h;have e2:=all_ints h.2;have e3:=lO (e.trans (Vn some e2));rw[e3];exact⟨Vn some e2,by rw[Tw];exact h.1⟩
def Ls(d:D)(xs:List D):Prop:=d= .tup xs\/d= .lst xs
theorem Ls.items{d:D}{xs:List D}(h:Ls d xs)(st:ae):items? st d=some xs:=by rcases h with rfl|rfl<;>rfl
theorem Ls.any{d:D}{xs:List D}(h:Ls d xs)(st:ae):Any st d:=by rcases h with rfl|rfl<;>exact⟨_,rfl⟩
def Flat(d:D):Prop:=∀st,Any st d/\items? st d=none
structure o9(d:D):Prop where
 any:∀st,Any st d
 sm:∀i,d= .int i->i.natAbs<=2^64000000
def jY(d:D):Prop:=Flat d\/∃xs,Ls d xs/\xs.length<=1000/\∀x∈xs,o9 x
def fV(d:D):Prop:=Flat d\/∃xs,Ls d xs/\xs.length<=1000/\∀x∈xs,jY x
def wj(d:D):Prop:=Flat d\/∃xs,Ls d xs/\xs.length<=1000/\∀x∈xs,fV x
theorem jY.any{d:D}(h:jY d)(st:ae):Any st d:=by
 rcases h with h|⟨xs,l,_⟩
 . exact(h st).1
 . exact l.any st
theorem fV.any{d:D}(h:fV d)(st:ae):Any st d:=by
 rcases h with h|⟨xs,l,_⟩
 . exact(h st).1
 . exact l.any st
theorem wj.any{d:D}(h:wj d)(st:ae):Any st d:=by
 rcases h with h|⟨xs,l,_⟩
 . exact(h st).1
 . exact l.any st
theorem jY.vW{d:D}(h:jY d)(st:ae):Thing st d:=by
 refine⟨h.any st,λ ys e=>?_⟩;rcases h with h|⟨xs,l,r,q⟩
 . rw[(h st).2]at e;cases e
 . rw[l.items st]at e;cases e;exact⟨λ x hx=>(q x hx).any st,aY r⟩
theorem fV.vW{d:D}(h:fV d)(st:ae):F5 st d:=by
 refine⟨h.any st,λ ys e=>?_⟩;rcases h with h|⟨xs,l,r,q⟩
 . rw[(h st).2]at e;cases e
 . rw[l.items st]at e;cases e;exact⟨λ x hx=>(q x hx).vW st,aY r⟩
theorem jY.KH{st:ae}{d:D}{w:Int}(h:jY d):dq st d w=dq [] d w:=by
 unfold dq;rcases h with h|⟨xs,l,_⟩
 . rw[(h st).2,(h []).2]
 . rw[l.items st,l.items []]
theorem Ae{f g:D->Bool}:∀ {xs:List D},(∀x∈xs,f x=g x)->xs.all f=xs.all g
 | [],_=>rfl
 |x::xs,h=>by rw[U8,U8,h x Ua,Ae λ y hy=>h y (TY _ hy)]
theorem fV.xt{st:ae}{d m:D}{w:Int}(h:fV d):dH st d m w=dH [] d m w:=by
 rcases h with h|⟨xs,l,_,q⟩
 . rw[jo (h st).2,jo (h []).2]
 . rw[ju (l.items st),ju (l.items []),Ae λ x hx=>(q x hx).KH]
def rowsOf(d:D):List (List Int):=match items? [] d with
 |some xs=>xs.map (intsOf [])
 |none=>[]
structure Cl(d:D)(A:List (List Int)):Prop where
 ex:∃xs,(∀s,items? s d=some xs)/\∀s,bU s xs A
theorem Cl.rows{d:D}{A:List (List Int)}(h:Cl d A)(st:ae):fg st d A:=by
 obtain⟨xs,e,r⟩:=h.ex;exact⟨xs,e st,r st⟩
theorem NR{A:List (List Int)}:Cl (au A) A:=⟨_,λ _=>rfl,λ _=>bU.tup⟩
theorem xQ{s:ae}:∀ {xs:List D},(∀r∈xs,items? s r=some (ao (intsOf [] r)))->bU s xs (xs.map (intsOf []))
 | [],_=>trivial
 |x::xs,h=>⟨h x Ua,xQ λ r hr=>h r (TY _ hr)⟩
def Bg(A:List (List Int))(b:Nat):Prop:=∀r∈A,∀c∈r,c.natAbs<=2^b
theorem fV.rows{x:D}{n:Nat}(h:fV x)(e:dH [] x (.int n) n=true):Cl x (rowsOf x)/\Mx.aP n n (rowsOf x)/\Bg (rowsOf x) 64000000:=by
 rcases h with h|⟨xs,l,_,q⟩
 . rw[jo (h []).2]at e;cases e
 rw[ju (l.items [])]at e;simp only[Ub]at e;have e1:rowsOf x=xs.map (intsOf []):=by unfold rowsOf;rw[l.items []]
 have key:∀r∈xs,(∀s,items? s r=some (ao (intsOf [] r)))/\(intsOf [] r).length=n/\∀c∈intsOf [] r,c.natAbs<=2^64000000:=λ r hr=>by
  obtain⟨e2,e3⟩:=Bb (Um.mp e.2 r hr);rcases q r hr with f|⟨ys,ly,_,qy⟩
  . rw[(f []).2]at e2;cases e2
  . rw[ly.items []]at e2;have e4:=UE e2;exact⟨λ s=>(ly.items s).trans (Vn some e4),by omega,λ c hc=>(qy (.int c) (by rw[e4];exact T5.mpr ⟨c,hc,rfl⟩)).sm c rfl⟩
 rw[e1];refine⟨⟨xs,l.items,λ s=>xQ λ r hr=>(key r hr).1 s⟩,⟨?_,λ r hr=>?_⟩,λ r hr=>?_⟩
 . have:((xs.length:Int)=(n:Int)):=XF e.1;rw[Tw];omega
 . obtain⟨x,hx,rfl⟩:=T5.mp hr;exact(key x hx).2.1
 . obtain⟨x,hx,rfl⟩:=T5.mp hr;exact(key x hx).2.2
def I_(x y:D)(n:Nat):Bool:=dH [] y (.int n) n&&decide (Mx.mulM (rowsOf x) (rowsOf y) n=Mx.units n)
def qj:bQ:=λ ds st K=>∃(x y:D) (n:Nat),ds=[x,y]/\fV x/\fV y/\dH [] x (.int n) n=true/\1<=n/\n<=8/\K (.bl (I_ x y n)) st
def vt:List Str:=["turn","back","many"]
def EX:DS:=(az (cZ (dz (aU (aq g7 (aa (ab 0) af)))) (a7 (dC (.bl false))) cv)
 (az (bJ 2 (a9 cY (aa (ab 0) af)))
 (az (cZ (jm (dz (aU (aq lT (aa (ab 0) (aa (ab 2) (aa (ab 2) af)))))) (dz (aU (aq lT (aa (ab 1) (aa (ab 2) (aa (ab 2) af))))))) (a7 (dC (.bl false))) cv)
 (a7 (ET (aj gc (ab 2) (dC (.int 0))) (aj gc (aq e9 (aa (ab 0) (aa (ab 1) af))) (aq dQ (aa (ab 2) af))))))))
theorem Cg:Tq qj 2 EX vt:=by
 rintro ds st K ⟨x,y,n,rfl,hx,hy,e1,hn1,hn,k⟩;refine⟨rfl,?_⟩;obtain⟨⟨xs,e,rx⟩,M1,b1⟩:=hx.rows e1;have l1:=M1.len;have lx:xs.length=n:=by rw[(rx st).len];exact l1
 refine⟨x,rfl,hx.any st,?_⟩;rw[e st];refine cq (e st) ?_;rw[lx];refine⟨x,_,_,rfl,hx.vW st,Or.inr ⟨_,rfl⟩,?_⟩;rw[hx.xt,e1];refine⟨y,_,_,rfl,hy.vW st,Or.inr ⟨_,rfl⟩,?_⟩;rw[hy.xt];unfold I_ at k;cases e2:dH [] y (.int n) n with
 |false=>rw[e2]at k;exact k
 |true=>
  rw[e2]at k;obtain⟨C2,M2,b2⟩:=hy.rows e2;have l2:=M2.len;refine QW (by omega) ?_;have hB:rowsOf y≠ []:=λ z=>by rw[z]at l2;simp at l2;omega
  refine⟨x,y,n,_,_,rfl,⟨xs,e st,rx st⟩,C2.rows st,hB,M2.fw,by omega,by omega,λ w hw c hc r hr b hb=>g8 (b1 w hw c hc) (b2 r hr b hb) (by decide),?_⟩;refine⟨n,rfl,by omega,?_⟩;refine tf iO iO ?_;rw[qo];exact k
def oa(x y:D)(n:Nat):Bool:=dH [] x (.int n) n&&I_ x y n
def ki:bQ:=λ ds st K=>∃(x y:D) (n:Nat),ds=[x,y,.int n]/\fV x/\fV y/\1<=n/\n<=8/\K (.bl (oa x y n)) st
def sM:List Str:=["turn","back","many"]
def Ak:DS:=(a7 (km (aq lT (aa (ab 0) (aa (ab 2) (aa (ab 2) af)))) (aq qj (aa (ab 0) (aa (ab 1) af)))))
theorem yM:Tq ki 3 Ak sM:=by
 rintro ds st K ⟨x,y,n,rfl,hx,hy,hn1,hn,k⟩;refine⟨rfl,?_⟩;refine⟨x,_,_,rfl,hx.vW st,Or.inr ⟨_,rfl⟩,?_⟩;rw[hx.xt];unfold oa at k;cases e1:dH [] x (.int n) n with
 |false=>rw[e1]at k;exact k
 |true=>
  rw[e1]at k;exact⟨x,y,n,rfl,hx,hy,e1,hn1,hn,k⟩
def ix:bQ:=λ ds st K=>∃(t d:Int),ds=[.int t,.int d]/\d≠0/\K (.int (Mx.qn t d)) st
def lQ:List Str:=["top","bottom"]
def sP:DS:=(a7 (aj oN (aj bT (aj eN (dC (.int 2)) (ab 0)) (ab 1)) (aj eN (dC (.int 2)) (ab 1))))
theorem qU:Tq ix 2 sP lQ:=by
 rintro ds st K ⟨t,d,rfl,hd,k⟩;exact⟨rfl,fC (jS (by decide) (by decide)) (dW (fC (jS (by decide) (by decide)) (BB (by omega) k)))⟩
def jn:bQ:=λ ds st K=>∃(n k o:Nat) (A:List (List Int)),ds=[.ref n,.int k,.int o]/\st[n]?=some (.lst (A.map bD))/\k<A.length/\o<A.length/\K (.ref st.length) (st++[.lst ((Mx.bw A k o).map bD)])
def ui:List Str:=["rows","k","other","order"]
def Ce:DS:=(az (bJ 3 (a9 m7 (aa (ab 0) af)))
 (az (eK (ab 3) (ab 1) (aj a_ (ab 0) (ab 2)))
 (az (eK (ab 3) (ab 2) (aj a_ (ab 0) (ab 1)))
 (a7 (ab 3)))))
theorem dn{A:List (List Int)}{j:Nat}(h:j<A.length):d6 (A.map bD) (j:Int)=some (bD (A.getD j [])):=by
 refine gB ?_;rw[T7,TM h,Mx.aJ h];rfl
theorem lF{m k:Nat}(h:k<m):ni m (k:Int)=some k:=by
 have:=rf (i:=(k:Int)) (m:=m) (by omega) (by omega);rw[TZ]at this;exact this
theorem g9{A:List (List Int)}{k:Nat}{r:List Int}:(A.map bD).set k (bD r)=(A.set k r).map bD:=by rw[YF]
theorem AM:Tq jn 3 Ce ui:=by
 rintro ds st K ⟨n,k,o,A,rfl,e,hk,ho,kk⟩;refine⟨rfl,?_⟩;have hn:n<st.length:=(Tt.mp e).1;refine uZ (aX e) ?_;have e1:(st++[Cell.lst (A.map bD)])[n]?=some (.lst (A.map bD)):=by rw[TF hn];exact e
 have e2:(st++[Cell.lst (A.map bD)])[st.length]?=some (.lst (A.map bD)):=by simp
 refine aE (aX e1) (dn ho) (eh e2 (by rw[Tw];exact lF hk) ?_);rw[g9]
 have es:(st++[Cell.lst (A.map bD)]).set st.length (.lst ((A.set k (A.getD o [])).map bD))=st++[Cell.lst ((A.set k (A.getD o [])).map bD)]:=by
  rw[Yr _ _ (Tu _),Vg];rfl
 rw[es];have e3:(st++[Cell.lst ((A.set k (A.getD o [])).map bD)])[n]?=some (.lst (A.map bD)):=by rw[TF hn];exact e
 have e4:(st++[Cell.lst ((A.set k (A.getD o [])).map bD)])[st.length]?=some (.lst ((A.set k (A.getD o [])).map bD)):=by simp
 refine aE (aX e3) (dn hk) (eh e4 (by rw[Tw,TQ];exact lF ho) ?_);rw[g9]
 have es2:(st++[Cell.lst ((A.set k (A.getD o [])).map bD)]).set st.length (.lst (((A.set k (A.getD o [])).set o (A.getD k [])).map bD))=st++[Cell.lst ((Mx.bw A k o).map bD)]:=by
  rw[Yr _ _ (Tu _),Vg];rfl
 rw[es2];exact kk
def l6:bQ:=λ ds st K=>∃(d:D) (r:List Int),ds=[d]/\items? st d=some (ao r)/\r.length<=1000/\K (bD (r.map λ x=> -x)) st
def yq:List Str:=["row"]
def E9:DS:=(a7 (cj (c9 (ab 0)) [none] (aK 0) bf (jc fF (ab 0))))
theorem Ds:Tq l6 1 E9 yq:=by
 rintro ds st K ⟨d,r,rfl,hd,hl,k⟩;refine⟨rfl,?_⟩;refine iE hd λ ok aF=>⟨aY (by unfold ao;rw[Tw];exact hl),?_⟩
 refine comp_map (g:=λ x=>match x with| .int a=> .int (-a)|_=> .ax) aF _ (λ x hx K' q=>?_) ?_
 . unfold ao at hx;obtain⟨a,_,rfl⟩:=T5.mp hx;exact⟨_,rfl,jw q⟩
 . have e:(ao r).map (λ x=>match x with| .int a=> .int (-a)|_=> .ax)=ao (r.map λ x=> -x):=by unfold ao;rw[UD,UD];rfl
   rw[e];exact k
structure Bn(st:ae)(b xb xu xc:Nat)(A U C:List (List Int)):Prop where
 eb:st[b]?=some (Cell.ins ay [("body",.ref xb),("turn",.ref xu),("back_columns",.ref xc)])
 e1:st[xb]?=some (Cell.lst (A.map bD))
 e2:st[xu]?=some (Cell.lst (U.map bD))
 e3:st[xc]?=some (Cell.lst (C.map bD))
 n1:xb≠xu
 n2:xb≠xc
 n3:xu≠xc
theorem ka{st:ae}{b x:Nat}{C:Addr}{fs:List (Str×D)}{xs:List D}(h1:st[b]?=some (Cell.ins C fs))(h2:st[x]?=some (Cell.lst xs)):b≠x:=λ z=>by rw[z,h2]at h1;cases h1
def jL:bQ:=λ ds st K=>∃(b N:Nat) (d:D) (A:List (List Int)),ds=[.ref b,d]/\st[b]?=some (.ins ay [])/\fg st d A/\A.length=N/\N<=16/\∀st',Bn st' b st.length (st.length+1) (st.length+2) A (Mx.units N) (Mx.units N)->st'.length=st.length+3->(∀m,m<st.length->m≠b->st'[m]?=st[m]?)->K .ax st'
def jG:List Str:=["self","rows"]
def uY:DS:=(az (eG ay "body" (ab 0) (jq (c9 (ab 1)) [none] (aK 0) bf (a9 mI (aa (ab 0) af))))
 (az (eG ay "turn" (ab 0) (jq (c9 (aq dQ (aa (a9 cY (aa (ab 1) af)) af))) [none] (aK 0) bf (a9 mI (aa (ab 0) af))))
 (eG ay "back_columns" (ab 0) (jq (c9 (aq dQ (aa (a9 cY (aa (ab 1) af)) af))) [none] (aK 0) bf (a9 mI (aa (ab 0) af))))))
theorem p7(f:Str)(v:D):∀fs:List (Str×D),(putD f v fs).length<=fs.length+1
 | []=>by simp[putD]
 |(g,x)::r=>by
  unfold putD;split
  . simp
  . have:=p7 f v r;simp only[Uv];omega
theorem AS{st:ae}{A:List (List Int)}:bU st (A.map bj) A:=bU.tup
theorem ye(n:Nat):(Mx.units n).length=n:=by unfold Mx.units;simp
theorem tT:Tq jL 2 uY jG:=by
 rintro ds st K ⟨b,N,d,A,rfl,eb,hA,hl,hN,k⟩;refine⟨rfl,?_⟩;have hb:b<st.length:=(Tt.mp eb).1;obtain⟨da,hd,ra⟩:=hA.ex;have hdl:=ra.len;have lst:∀(e:D) (r:List Int),True:=λ _ _=>trivial;refine iE hd λ ok aF=>⟨aY (by omega),?_⟩
 refine mG bD aF ra (λ e r hr he K' q=>⟨_,rfl,oO he q⟩) ?_;have eb1:(st++[Cell.lst (A.map bD)])[b]?=some (.ins ay []):=by rw[TF hb];exact eb
 refine kL eb1 (by decide) ?_;generalize hs1:(st++[Cell.lst (A.map bD)]).set b (.ins ay (putD "body" (.ref st.length) []))=st1;have l1:st1.length=st.length+1:=by rw[<-hs1];simp
 have f1:∀m,m<st.length->m≠b->st1[m]?=st[m]?:=λ m hm hmb=>by rw[<-hs1,Tx (TK hmb),TF hm]
 have b1:st1[b]?=some (.ins ay (putD "body" (.ref st.length) [])):=by rw[<-hs1,TJ (by simp;omega)]
 have x1:st1[st.length]?=some (.lst (A.map bD)):=by rw[<-hs1,Tx (by omega)];simp
 clear hs1
 have itd:∃da',items? st1 d=some da'/\da'.length=N:=by
  cases d with
  |ref n=>
   by_cases hnb:n=b
   . subst hnb;unfold items? at hd;simp only[eb]at hd;cases hd
   . have hn:n<st.length:=by
      unfold items? at hd;simp only at hd;cases q:st[n]? with
      |none=>rw[q]at hd;cases hd
      |some c=>exact(Tt.mp q).1
     refine⟨da,?_,by omega⟩;unfold items? at hd⊢;simp only at hd⊢;rw[f1 n hn hnb];exact hd
  |_=>exact⟨da,hd,by omega⟩
 obtain⟨da1,hd1,hdl1⟩:=itd;refine cq hd1 ?_;rw[hdl1];refine⟨N,rfl,by omega,?_⟩;refine fz ⟨aY (by rw[Tw,ye];omega),?_⟩;refine mG bD trivial AS (λ e r hr he K' q=>⟨_,rfl,oO he q⟩) ?_;have b2:(st1++[Cell.lst ((Mx.units N).map bD)])[b]?=some (.ins ay (putD "body" (.ref st.length) [])):=by rw[TF (by omega)];exact b1
 refine kL b2 (by have:=p7 "body" (.ref st.length) [];simp only[Wz]at this;omega) ?_;generalize hs2:(st1++[Cell.lst ((Mx.units N).map bD)]).set b (.ins ay (putD "turn" (.ref st1.length) (putD "body" (.ref st.length) [])))=st2;have l2:st2.length=st.length+2:=by rw[<-hs2];simp;omega
 have f2:∀m,m<st1.length->m≠b->st2[m]?=st1[m]?:=λ m hm hmb=>by rw[<-hs2,Tx (TK hmb),TF hm]
 have b2':st2[b]?=some (.ins ay (putD "turn" (.ref st1.length) (putD "body" (.ref st.length) []))):=by rw[<-hs2,TJ (by simp;omega)]
 have x2:st2[st1.length]?=some (.lst ((Mx.units N).map bD)):=by rw[<-hs2,Tx (by omega)];simp
 clear hs2
 have itd2:items? st2 d=some da1:=by
  cases d with
  |ref n=>
   by_cases hnb:n=b
   . subst hnb;unfold items? at hd1;simp only[b1]at hd1;cases hd1
   . have hn:n<st1.length:=by
      unfold items? at hd1;simp only at hd1;cases q:st1[n]? with
      |none=>rw[q]at hd1;cases hd1
      |some c=>exact(Tt.mp q).1
     unfold items? at hd1⊢;simp only at hd1⊢;rw[f2 n hn hnb];exact hd1
  |_=>exact hd1
 refine cq itd2 ?_;rw[hdl1];refine⟨N,rfl,by omega,?_⟩;refine fz ⟨aY (by rw[Tw,ye];omega),?_⟩;refine mG bD trivial AS (λ e r hr he K' q=>⟨_,rfl,oO he q⟩) ?_;have b3:(st2++[Cell.lst ((Mx.units N).map bD)])[b]?=some (.ins ay (putD "turn" (.ref st1.length) (putD "body" (.ref st.length) []))):=by rw[TF (by omega)];exact b2'
 refine kL b3 (by have h1:=p7 "body" (.ref st.length) [];have h2:=p7 "turn" (.ref st1.length) (putD "body" (.ref st.length) []);simp only[Wz]at h1;omega) ?_;refine k _ ⟨?_,?_,?_,?_,by omega,by omega,by omega⟩ (by simp;omega) λ m hm hmb=>?_
 . rw[TJ (by simp;omega),l1,l2];rfl
 . rw[Tx (by omega),TF (by omega),f2 _ (by omega) (by omega)];exact x1
 . rw[Tx (by omega),TF (by omega)];rw[l1]at x2;exact x2
 . rw[Tx (by omega)];rw[show st.length+2=st2.length by omega];simp
 . rw[Tx (TK hmb),TF (by omega),f2 m (by omega) hmb,f1 m hm hmb]
def kg:bQ:=λ ds st K=>∃(b xb xu xc N w k j:Nat) (A U C:List (List Int)) (q:Int),ds=[.ref b,.int k,.int q,.int j]/\Bn st b xb xu xc A U C/\Mx.aP N w A/\Mx.aP N N U/\Mx.aP N N C/\k<N/\j<N/\N<=16/\w<=16/\(∀x∈A.getD j [],IntMulOk (-q) x)/\(∀x∈U.getD j [],IntMulOk (-q) x)/\(∀x∈C.getD k [],IntMulOk q x)/\
 ∀st',Bn st' b xb xu xc (Mx.aS A k q j) (Mx.aS U k q j) (Mx.aS C j (-q) k)->st'.length=st.length->(∀m,m≠xb->m≠xu->m≠xc->st'[m]?=st[m]?)->K .ax st'
def mX:List Str:=["self","k","times","other"]
def zG:DS:=(az (eK (bN ay "body" (ab 0)) (ab 1) (aq mS (aa (aj a_ (bN ay "body" (ab 0)) (ab 1)) (aa (jc fF (ab 2)) (aa (aj a_ (bN ay "body" (ab 0)) (ab 3)) af)))))
 (az (eK (bN ay "turn" (ab 0)) (ab 1) (aq mS (aa (aj a_ (bN ay "turn" (ab 0)) (ab 1)) (aa (jc fF (ab 2)) (aa (aj a_ (bN ay "turn" (ab 0)) (ab 3)) af)))))
 (eK (bN ay "back_columns" (ab 0)) (ab 3) (aq mS (aa (aj a_ (bN ay "back_columns" (ab 0)) (ab 3)) (aa (ab 2) (aa (aj a_ (bN ay "back_columns" (ab 0)) (ab 1)) af)))))))
theorem yN:Tq kg 4 zG mX:=by
 rintro ds st K ⟨b,xb,xu,xc,N,w,k,j,A,U,C,q,rfl,B,hA,hU,hC,hk,hj,hN,hw,mA,mU,mC,kk⟩;refine⟨rfl,?_⟩;have lA:=hA.len;have lU:=hU.len;have lC:=hC.len;have rA:=Mx.cO hA hk;have rU:=Mx.cO hU hk;have rC:=Mx.cO hC hj;have bx1:=ka B.eb B.e1;have bx2:=ka B.eb B.e2;have bx3:=ka B.eb B.e3;have n1:=B.n1;have n2:=B.n2;have n3:=B.n3;refine aZ B.eb rfl (aE (aX B.e1) (dn (by omega)) (jw (aZ B.eb rfl (aE (aX B.e1) (dn (by omega)) ?_))));refine⟨_,_,-q,A.getD k [],A.getD j [],rfl,rfl,rfl,by omega,mA,?_⟩;refine aZ B.eb rfl (eh B.e1 (by rw[Tw,lA];exact lF hk) ?_);rw[g9];have g1:∀m,m≠xb->(st.set xb (.lst ((A.set k (Mx.gN (A.getD k []) (-q) (A.getD j []))).map bD)))[m]?=st[m]?:=λ m hm=>Tx (TK hm);have h1:(st.set xb (.lst ((A.set k (Mx.gN (A.getD k []) (-q) (A.getD j []))).map bD)))[xb]?=some (.lst ((Mx.aS A k q j).map bD)):=TJ (Tt.mp B.e1).1;have z1:(st.set xb (.lst ((A.set k (Mx.gN (A.getD k []) (-q) (A.getD j []))).map bD))).length=st.length:=TQ;generalize st.set xb (.lst ((A.set k (Mx.gN (A.getD k []) (-q) (A.getD j []))).map bD))=st1 at g1 h1 z1⊢;have eb1:=(g1 b bx1).trans B.eb;have e21:=(g1 xu (TK n1)).trans B.e2;have e31:=(g1 xc (TK n2)).trans B.e3;refine aZ eb1 rfl (aE (aX e21) (dn (by omega)) (jw (aZ eb1 rfl (aE (aX e21) (dn (by omega)) ?_))));refine⟨_,_,-q,U.getD k [],U.getD j [],rfl,rfl,rfl,by omega,mU,?_⟩;refine aZ eb1 rfl (eh e21 (by rw[Tw,lU];exact lF hk) ?_);rw[g9];have g2:∀m,m≠xu->(st1.set xu (.lst ((U.set k (Mx.gN (U.getD k []) (-q) (U.getD j []))).map bD)))[m]?=st1[m]?:=λ m hm=>Tx (TK hm);have h2:(st1.set xu (.lst ((U.set k (Mx.gN (U.getD k []) (-q) (U.getD j []))).map bD)))[xu]?=some (.lst ((Mx.aS U k q j).map bD)):=TJ (Tt.mp e21).1;have z2:(st1.set xu (.lst ((U.set k (Mx.gN (U.getD k []) (-q) (U.getD j []))).map bD))).length=st1.length:=TQ;generalize st1.set xu (.lst ((U.set k (Mx.gN (U.getD k []) (-q) (U.getD j []))).map bD))=st2 at g2 h2 z2⊢;have eb2:=(g2 b bx2).trans eb1;have e32:=(g2 xc (TK n3)).trans e31;refine aZ eb2 rfl (aE (aX e32) (dn (by omega)) (aZ eb2 rfl (aE (aX e32) (dn (by omega)) ?_)));refine⟨_,_,q,C.getD j [],C.getD k [],rfl,rfl,rfl,by omega,mC,?_⟩;refine aZ eb2 rfl (eh e32 (by rw[Tw,lC];exact lF hj) ?_);rw[g9];have hc:C.set j (Mx.gN (C.getD j []) q (C.getD k []))=Mx.aS C j (-q) k:=by unfold Mx.aS;rw[Int.neg_neg]
 rw[hc];refine kk _ ⟨?_,?_,?_,?_,n1,n2,n3⟩ (by rw[TQ];omega) λ m m1 m2 m3=>?_
 . rw[Tx (TK bx3)];exact eb2
 . rw[Tx (TK n2),g2 _ n1];exact h1
 . rw[Tx (TK n3)];exact h2
 . exact TJ (Tt.mp e32).1
 . rw[Tx (TK m3),g2 m m2,g1 m m1]
def jH:bQ:=λ ds st K=>∃(b xb xu xc N w k o:Nat) (A U C:List (List Int)),ds=[.ref b,.int k,.int o]/\Bn st b xb xu xc A U C/\Mx.aP N w A/\Mx.aP N N U/\Mx.aP N N C/\k<N/\o<N/\
 ∀st',Bn st' b st.length (st.length+1) (st.length+2) (Mx.bw A k o) (Mx.bw U k o) (Mx.bw C k o)->st'.length=st.length+3->(∀m,m<st.length->m≠b->st'[m]?=st[m]?)->K .ax st'
def jJ:List Str:=["self","k","other"]
def uS:DS:=(az (eG ay "body" (ab 0) (aq jn (aa (bN ay "body" (ab 0)) (aa (ab 1) (aa (ab 2) af)))))
 (az (eG ay "turn" (ab 0) (aq jn (aa (bN ay "turn" (ab 0)) (aa (ab 1) (aa (ab 2) af)))))
 (eG ay "back_columns" (ab 0) (aq jn (aa (bN ay "back_columns" (ab 0)) (aa (ab 1) (aa (ab 2) af)))))))
theorem tS:Tq jH 3 uS jJ:=by
 rintro ds st K ⟨b,xb,xu,xc,N,w,k,o,A,U,C,rfl,B,hA,hU,hC,hk,ho,kk⟩;refine⟨rfl,?_⟩;have lA:=hA.len;have lU:=hU.len;have lC:=hC.len;have bx1:=ka B.eb B.e1;have bx2:=ka B.eb B.e2;have bx3:=ka B.eb B.e3;have hb:b<st.length:=(Tt.mp B.eb).1;have hu:xu<st.length:=(Tt.mp B.e2).1;have hc:xc<st.length:=(Tt.mp B.e3).1;refine aZ B.eb rfl ?_;refine⟨xb,k,o,A,rfl,B.e1,by omega,by omega,?_⟩;have eb1:(st++[Cell.lst ((Mx.bw A k o).map bD)])[b]?=some (.ins ay [("body",.ref xb),("turn",.ref xu),("back_columns",.ref xc)]):=by rw[TF hb];exact B.eb
 refine kL eb1 (by simp) ?_;have pb:putD "body" (.ref st.length) [("body",.ref xb),("turn",.ref xu),("back_columns",.ref xc)]=([("body",.ref st.length),("turn",.ref xu),("back_columns",.ref xc)]:List (Str×D)):=rfl;rw[pb];generalize hs1:(st++[Cell.lst ((Mx.bw A k o).map bD)]).set b (.ins ay [("body",.ref st.length),("turn",.ref xu),("back_columns",.ref xc)])=st1;have l1:st1.length=st.length+1:=by rw[<-hs1];simp
 have f1:∀m,m<st.length->m≠b->st1[m]?=st[m]?:=λ m hm hmb=>by rw[<-hs1,Tx (TK hmb),TF hm]
 have b1:st1[b]?=some (.ins ay [("body",.ref st.length),("turn",.ref xu),("back_columns",.ref xc)]):=by rw[<-hs1,TJ (by simp;omega)]
 have x1:st1[st.length]?=some (.lst ((Mx.bw A k o).map bD)):=by rw[<-hs1,Tx (by omega)];simp
 clear hs1 eb1;refine aZ b1 rfl ?_;refine⟨xu,k,o,U,rfl,(f1 xu hu (TK bx2)).trans B.e2,by omega,by omega,?_⟩;have eb1:(st1++[Cell.lst ((Mx.bw U k o).map bD)])[b]?=some (.ins ay [("body",.ref st.length),("turn",.ref xu),("back_columns",.ref xc)]):=by rw[TF (by omega)];exact b1
 refine kL eb1 (by simp) ?_;have pb:putD "turn" (.ref st1.length) [("body",.ref st.length),("turn",.ref xu),("back_columns",.ref xc)]=([("body",.ref st.length),("turn",.ref st1.length),("back_columns",.ref xc)]:List (Str×D)):=rfl;rw[pb];generalize hs2:(st1++[Cell.lst ((Mx.bw U k o).map bD)]).set b (.ins ay [("body",.ref st.length),("turn",.ref st1.length),("back_columns",.ref xc)])=st2;have l2:st2.length=st.length+2:=by rw[<-hs2];simp;omega
 have f2:∀m,m<st1.length->m≠b->st2[m]?=st1[m]?:=λ m hm hmb=>by rw[<-hs2,Tx (TK hmb),TF hm]
 have b2:st2[b]?=some (.ins ay [("body",.ref st.length),("turn",.ref st1.length),("back_columns",.ref xc)]):=by rw[<-hs2,TJ (by simp;omega)]
 have x2:st2[st1.length]?=some (.lst ((Mx.bw U k o).map bD)):=by rw[<-hs2,Tx (by omega)];simp
 clear hs2 eb1;refine aZ b2 rfl ?_;refine⟨xc,k,o,C,rfl,((f2 xc (by omega) (TK bx3)).trans (f1 xc hc (TK bx3))).trans B.e3,by omega,by omega,?_⟩;have eb1:(st2++[Cell.lst ((Mx.bw C k o).map bD)])[b]?=some (.ins ay [("body",.ref st.length),("turn",.ref st1.length),("back_columns",.ref xc)]):=by rw[TF (by omega)];exact b2
 refine kL eb1 (by simp) ?_;have pb:putD "back_columns" (.ref st2.length) [("body",.ref st.length),("turn",.ref st1.length),("back_columns",.ref xc)]=([("body",.ref st.length),("turn",.ref st1.length),("back_columns",.ref st2.length)]:List (Str×D)):=rfl;rw[pb];refine kk _ ⟨?_,?_,?_,?_,by omega,by omega,by omega⟩ (by simp;omega) λ m hm hmb=>?_
 . rw[TJ (by simp;omega),l1,l2]
 . rw[Tx (by omega),TF (by omega),f2 _ (by omega) (by omega)];exact x1
 . rw[Tx (by omega),TF (by omega)];rw[l1]at x2;exact x2
 . rw[Tx (by omega)];rw[show st.length+2=st2.length by omega];simp
 . rw[Tx (TK hmb),TF (by omega),f2 m (by omega) hmb,f1 m hm hmb]
def hW:bQ:=λ ds st K=>∃(b xb xu xc N w k:Nat) (A U C:List (List Int)),ds=[.ref b,.int k]/\Bn st b xb xu xc A U C/\Mx.aP N w A/\Mx.aP N N U/\Mx.aP N N C/\k<N/\N<=16/\w<=16/\
 ∀st',Bn st' b xb xu xc (Mx.fQ A k) (Mx.fQ U k) (Mx.fQ C k)->st'.length=st.length->(∀m,m≠xb->m≠xu->m≠xc->st'[m]?=st[m]?)->K .ax st'
def h_:List Str:=["self","k"]
def qS:DS:=(az (eK (bN ay "body" (ab 0)) (ab 1) (aq l6 (aa (aj a_ (bN ay "body" (ab 0)) (ab 1)) af)))
 (az (eK (bN ay "turn" (ab 0)) (ab 1) (aq l6 (aa (aj a_ (bN ay "turn" (ab 0)) (ab 1)) af)))
 (eK (bN ay "back_columns" (ab 0)) (ab 1) (aq l6 (aa (aj a_ (bN ay "back_columns" (ab 0)) (ab 1)) af)))))
theorem qv:Tq hW 2 qS h_:=by
 rintro ds st K ⟨b,xb,xu,xc,N,w,k,A,U,C,rfl,B,hA,hU,hC,hk,hN,hw,kk⟩;refine⟨rfl,?_⟩;have lA:=hA.len;have lU:=hU.len;have lC:=hC.len;have rA:=Mx.cO hA hk;have rU:=Mx.cO hU hk;have rC:=Mx.cO hC hk;have bx1:=ka B.eb B.e1;have bx2:=ka B.eb B.e2;have bx3:=ka B.eb B.e3;have n1:=B.n1;have n2:=B.n2;have n3:=B.n3;refine aZ B.eb rfl (aE (aX B.e1) (dn (by omega)) ?_);refine⟨_,A.getD k [],rfl,rfl,by omega,?_⟩;refine aZ B.eb rfl (eh B.e1 (by rw[Tw,lA];exact lF hk) ?_);rw[g9];have g1:∀m,m≠xb->(st.set xb (.lst ((A.set k ((A.getD k []).map λ x=> -x)).map bD)))[m]?=st[m]?:=λ m hm=>Tx (TK hm);have h1:(st.set xb (.lst ((A.set k ((A.getD k []).map λ x=> -x)).map bD)))[xb]?=some (.lst ((Mx.fQ A k).map bD)):=TJ (Tt.mp B.e1).1;have z1:(st.set xb (.lst ((A.set k ((A.getD k []).map λ x=> -x)).map bD))).length=st.length:=TQ;generalize st.set xb (.lst ((A.set k ((A.getD k []).map λ x=> -x)).map bD))=st1 at g1 h1 z1⊢;have eb1:=(g1 b bx1).trans B.eb;have e21:=(g1 xu (TK n1)).trans B.e2;have e31:=(g1 xc (TK n2)).trans B.e3;refine aZ eb1 rfl (aE (aX e21) (dn (by omega)) ?_);refine⟨_,U.getD k [],rfl,rfl,by omega,?_⟩;refine aZ eb1 rfl (eh e21 (by rw[Tw,lU];exact lF hk) ?_);rw[g9];have g2:∀m,m≠xu->(st1.set xu (.lst ((U.set k ((U.getD k []).map λ x=> -x)).map bD)))[m]?=st1[m]?:=λ m hm=>Tx (TK hm);have h2:(st1.set xu (.lst ((U.set k ((U.getD k []).map λ x=> -x)).map bD)))[xu]?=some (.lst ((Mx.fQ U k).map bD)):=TJ (Tt.mp e21).1;have z2:(st1.set xu (.lst ((U.set k ((U.getD k []).map λ x=> -x)).map bD))).length=st1.length:=TQ;generalize st1.set xu (.lst ((U.set k ((U.getD k []).map λ x=> -x)).map bD))=st2 at g2 h2 z2⊢;have eb2:=(g2 b bx2).trans eb1;have e32:=(g2 xc (TK n3)).trans e31;refine aZ eb2 rfl (aE (aX e32) (dn (by omega)) ?_);refine⟨_,C.getD k [],rfl,rfl,by omega,?_⟩;refine aZ eb2 rfl (eh e32 (by rw[Tw,lC];exact lF hk) ?_);rw[g9];refine kk _ ⟨?_,?_,?_,?_,n1,n2,n3⟩ (by rw[TQ];omega) λ m m1 m2 m3=>?_
 . rw[Tx (TK bx3)];exact eb2
 . rw[Tx (TK n2),g2 _ n1];exact h1
 . rw[Tx (TK n3)];exact h2
 . exact TJ (Tt.mp e32).1
 . rw[Tx (TK m3),g2 m m2,g1 m m1]
def gg:bQ:=λ ds st K=>∃(b xb xu xc N w top p:Nat) (A U C:List (List Int)) (f:Bool),ds=[.ref b,.int top,.int p]/\Bn st b xb xu xc A U C/\Mx.aP N w A/\top<=N/\N<=16/\p<w/\w<=16/\st[0]?=some (cS f)/\
 ∀L,Mx.jg A N top p L->K (.lst (L.map λ(k:Nat)=> .int (k:Int))) (st.set 0 (cS true))
def jl:List Str:=["self","top","place","live"]
def tQ:DS:=(az (bJ 3 (cj (pe (aa (ab 1) (aa (a9 cY (aa (bN ay "body" (ab 0)) af)) af))) [none,some 0,some 2] (aK 0) (aU (aj mw (aj a_ (aj a_ (bN ay "body" (ab 1)) (ab 0)) (ab 2)) (dC (.int 0)))) (ab 0)))
 (a7 (Bu 0 155 ⟨80,32,80,66⟩ "Bench.live_rows.<locals>.<lambda>" [none,some 0,some 2] (a9 Al (aa (aj a_ (aj a_ (bN ay "body" (ab 1)) (ab 0)) (ab 2)) af)) (ab 3))))
theorem oM{a b:Prop}(h:b):if false=true then a else b:=h
theorem L0{st:ae}{b:Nat}{C:Addr}{fs:List (Str×D)}{f:Bool}(h1:st[b]?=some (Cell.ins C fs))(h2:st[0]?=some (cS f)):b≠0:=λ z=>by rw[z,h2]at h1;cases h1
theorem tx{st:ae}{b:Nat}{xs:List D}{f:Bool}(h1:st[b]?=some (Cell.lst xs))(h2:st[0]?=some (cS f)):b≠0:=λ z=>by rw[z,h2]at h1;cases h1
theorem Bn.keep{st st':ae}{b xb xu xc:Nat}{A U C:List (List Int)}(B:Bn st b xb xu xc A U C)(h:∀m,m=b\/m=xb\/m=xu\/m=xc->st'[m]?=st[m]?):Bn st' b xb xu xc A U C:=
 ⟨(h b (.inl rfl)).trans B.eb,(h xb (.inr (.inl rfl))).trans B.e1,(h xu (.inr (.inr (.inl rfl)))).trans B.e2,(h xc (.inr (.inr (.inr rfl)))).trans B.e3,B.n1,B.n2,B.n3⟩
theorem Bn.tab{st:ae}{b xb xu xc:Nat}{A U C:List (List Int)}{f:Bool}(B:Bn st b xb xu xc A U C)(h:st[0]?=some (cS f))(c:Cell):Bn (st.set 0 c) b xb xu xc A U C:=
 B.keep λ m hm=>Tx λ z=>by
  subst z;rcases hm with rfl|rfl|rfl|rfl
  . exact L0 B.eb h rfl
  . exact tx B.e1 h rfl
  . exact tx B.e2 h rfl
  . exact tx B.e3 h rfl
theorem nO{r:List Int}{k:Nat}(h:k<r.length):d6 (ao r) (k:Int)=some (.int (r.getD k 0)):=by
 refine gB ?_;unfold ao;rw[T7,TM h,Mx.aJ h];rfl
def fv(A:List (List Int))(N top p:Nat):List Nat:=(List.range (N-top)).filterMap λ i=>if Mx.g A (top+i) p≠0 then some (top+i)else none
theorem yh{A:List (List Int)}{N top p k:Nat}:k∈fv A N top p↔top<=k/\k<N/\Mx.g A k p≠0:=by
 unfold fv;rw[WA];constructor
 . rintro⟨i,hi,e⟩;rw[Vv]at hi;split at e
   . rename_i h;cases e;exact⟨by omega,by omega,h⟩
   . cases e
 . rintro⟨h1,h2,h3⟩;refine⟨k-top,Vv.mpr (by omega),?_⟩;rw[show top+(k-top)=k by omega,TC h3]
theorem pw_filterMap{f:Nat->Option Nat}(h:∀i j a b,i<j->f i=some a->f j=some b->a<b):∀ {l:List Nat},l.Pairwise (· < ·)->(l.filterMap f).Pairwise (· < ·)
 | [],_=>by simp
 |x::l,hl=>by
  obtain⟨h1,h2⟩:=Xq.mp hl;rw[Wu];split
  . exact pw_filterMap h h2
  . rename_i a e;refine Xq.mpr ⟨λ b hb=>?_,pw_filterMap h h2⟩;obtain⟨j,hj,ej⟩:=WA.mp hb;exact h x j a b (h1 j hj) e ej
theorem pw_liveR{A:List (List Int)}{N top p:Nat}:(fv A N top p).Pairwise (· < ·):=by
 unfold fv;refine pw_filterMap (λ i j a b hij ha hb=>?_) List.pairwise_lt_range;split at ha
 . split at hb
   . cases ha;cases hb;omega
   . cases hb
 . cases ha
theorem yS{f:Nat->Option Nat}(l:List Nat):(l.filterMap f).length<=l.length:=List.length_filterMap_le ..
theorem Me{A:List (List Int)}{N top p:Nat}{os:List (Int×Int)}(hp:os.Perm (((fv A N top p).map λ(k:Nat)=>(((Mx.g A k p).natAbs:Nat):Int)).zip ((fv A N top p).map λ(k:Nat)=>(k:Int))))(hs:os.Pairwise slt):
 Mx.jg A N top p (os.map λ q=>q.2.toNat)/\os.map (λ q=>D.int q.2)=(os.map λ q=>q.2.toNat).map λ(k:Nat)=>D.int (k:Int):=by
 have hz:((fv A N top p).map λ(k:Nat)=>(((Mx.g A k p).natAbs:Nat):Int)).zip ((fv A N top p).map λ(k:Nat)=>(k:Int))=(fv A N top p).map λ k=>((((Mx.g A k p).natAbs:Nat):Int),(k:Int)):=by
  exact List.zip_map' ..
 rw[hz]at hp
 have hm:∀q∈os,∃k,k∈fv A N top p/\q=((((Mx.g A k p).natAbs:Nat):Int),(k:Int)):=λ q hq=>by
  obtain⟨k,h1,h2⟩:=T5.mp (hp.mem_iff.mp hq);exact⟨k,h1,h2.symm⟩
 refine⟨⟨λ k=>?_,?_,?_⟩,?_⟩
 . rw[<-yh];constructor
   . intro h;obtain⟨q,hq,e⟩:=T5.mp h;obtain⟨j,h1,rfl⟩:=hm q hq;simp only[TZ]at e;rw[<-e];exact h1
   . intro h;exact T5.mpr ⟨((((Mx.g A k p).natAbs:Nat):Int),(k:Int)),hp.mem_iff.mpr (T5.mpr ⟨k,h,rfl⟩),by simp⟩
 . rw[XC];refine hs.imp_of_mem λ{x y} hx hy h=>?_;obtain⟨j,_,rfl⟩:=hm x hx;obtain⟨k,_,rfl⟩:=hm y hy;unfold slt at h;simp only[TZ];omega
 . have e:((fv A N top p).map λ k=>((((Mx.g A k p).natAbs:Nat):Int),(k:Int))).map (λ q=>q.2.toNat)=fv A N top p:=by
    rw[UD];exact(UK λ k _=>TZ k).trans (List.map_id _)
   have hq:=hp.map λ q=>q.2.toNat;rw[e]at hq;exact hq.nodup_iff.mpr (pw_liveR.imp λ h=>Ue h)
 . rw[UD];refine UK λ q hq=>?_;obtain⟨j,_,rfl⟩:=hm q hq;simp
theorem rP:Tq gg 3 tQ jl:=by
 rintro ds st K ⟨b,xb,xu,xc,N,w,top,p,A,U,C,f,rfl,B,hA,ht,hN,hp,hw,h0,k⟩;refine⟨rfl,?_⟩;have lA:=hA.len;have rowA:∀i,i<N->(A.getD i []).length=w:=λ i hi=>Mx.cO hA hi;refine aZ B.eb rfl (cq (aX B.e1) ?_);rw[Tw,lA];refine Dp ⟨by omega,by omega,by omega,by omega⟩ ⟨aY (by unfold cX;simp;omega),?_⟩;have er:((N:Int)-(top:Int)).toNat=N-top:=by omega
 rw[er];refine eA (λ rest acc st'=>∃i:Nat,i<=N-top/\st'=st/\rest=(List.range (N-top-i)).map (λ j=>D.int ((top+i+j:Nat):Int))/\acc=((List.range i).filterMap λ i=>if Mx.g A (top+i) p≠0 then some (top+i)else none).map λ(k:Nat)=>D.int (k:Int)) ?_ ?_ _ _ _ ⟨0,T4 _,rfl,by unfold cX;simp,by simp⟩
 . rintro acc st' ⟨i,hi,rfl,hr,rfl⟩
   have hi':i=N-top:=by
    rcases VD i (N-top)with z|z
    . rw[show N-top-i=(N-top-i-1)+1 by omega,Uq]at hr;cases hr
    . omega
   subst hi';refine⟨trivial,?_⟩;have e1:((fv A N top p).map λ(k:Nat)=>D.int (k:Int))=((fv A N top p).map λ(k:Nat)=>(k:Int)).map D.int:=by rw[UD];rfl
   refine⟨(fv A N top p).map λ(k:Nat)=>(k:Int),(fv A N top p).map λ(k:Nat)=>(((Mx.g A k p).natAbs:Nat):Int),f,Vn D.lst e1,?_,?_,by rw[Tw,Tw],h0,λ i n q hn hq=>?_,λ os hp' hs=>?_⟩
   . rw[Tw];have:=yS (f:=λ i=>if Mx.g A (top+i) p≠0 then some (top+i)else none) (List.range (N-top));rw[List.length_range]at this;show(fv A N top p).length<64;unfold fv;omega
   . rw[XC];exact pw_liveR.imp λ h=>by omega
   . rw[T7]at hn hq;cases z:(fv A N top p)[i]? with
     |none=>rw[z]at hn;cases hn
     |some j=>
      rw[z]at hn hq;cases hn;cases hq;obtain⟨j1,j2,j3⟩:=yh.mp (Ui z);have B1:=B.tab h0 (cS true);refine aZ B1.eb rfl (aE (aX B1.e1) (dn (by omega)) (aE rfl (nO (by rw[rowA j j2];exact hp)) (MX ⟨rfl,rfl⟩)))
   . obtain⟨h1,h2⟩:=Me hp' hs;rw[h2];exact k _ h1
 . rintro d rest acc st' ⟨i,hi,rfl,hr,rfl⟩ next
   have hlt:i<N-top:=by
    rcases VD i (N-top)with z|z
    . exact z
    . rw[show N-top-i=0 by omega]at hr;cases hr
   rw[show N-top-i=(N-top-i-1)+1 by omega,Uq,Uj,UD]at hr;obtain⟨rfl,rfl⟩:=Ws hr;refine⟨trivial,_,rfl,?_⟩;refine aZ B.eb rfl (aE (aX B.e1) (dn (j:=top+i+0) (by omega)) (aE rfl (nO (by rw[rowA _ (by omega)];exact hp)) ?_));have e2:List.range (i+1)=List.range i++[i]:=Xd
   have e3:((List.range (N-top-i-1)).map ((λ j=>D.int ((top+i+j:Nat):Int))∘Nat.succ))=(List.range (N-top-(i+1))).map λ j=>D.int ((top+(i+1)+j:Nat):Int):=by
    rw[show N-top-i-1=N-top-(i+1) by omega];refine UK λ j _=>?_;show D.int ((top+i+(j+1):Nat):Int)=_;rw[show top+i+(j+1)=top+(i+1)+j by omega]
   refine ne2 (λ h=>?_) λ h=>?_
   . refine(next _ _ ⟨i+1,by omega,rfl,e3,?_⟩);rw[e2,Ys,VX];have:Mx.g A (top+i) p≠0:=h;simp[this]
   . refine(next _ _ ⟨i+1,by omega,rfl,e3,?_⟩);rw[e2,Ys,VX];have:Mx.g A (top+i) p=0:=h;simp[this]
structure Bo(n0:Nat)(st st':ae)(b xb xu xc:Nat):Prop where
 lo:1<=n0/\n0<=b/\n0<=xb/\n0<=xu/\n0<=xc
 fr:∀m,m<n0->m≠0->st'[m]?=st[m]?
 tb:∃f,st'[0]?=some (cS f)
def kQ:bQ:=λ ds st K=>∃(n0 b xb xu xc N w top p e u v z:Nat) (A0 A U C:List (List Int)) (ld:Nat->Nat),ds=[.ref b,.int top,.int p]/\Bn st b xb xu xc A U C/\Bo n0 st st b xb xu xc/\Mx.d7 A0 N w ⟨A,U,C⟩ top p ld e u v/\N<=16/\w<=16/\p<w/\z<=60000000/\(∀c,Mx.eL N top p ⟨A,U,C⟩ c->Mx.Sm c N (2^z))/\
 (∀st',Bn st' b xb xu xc A U C->Bo n0 st st' b xb xu xc->Mx.jg A N top p []->K (.bl false) st')/\
 ∀st' xb' xu' xc' (c:Mx.B3) (r:Nat),Bn st' b xb' xu' xc' (Mx.setB c p top r).A (Mx.setB c p top r).U (Mx.setB c p top r).C->Bo n0 st st' b xb' xu' xc'->Mx.eL N top p ⟨A,U,C⟩ c->Mx.jg c.A N top p [r]->K (.bl true) st'
def kO:List Str:=["self","top","place","live","great","small"]
def xg:DS:=(az (bJ 3 (dy ay "live_rows" gg (ab 0) (aa (ab 1) (aa (ab 2) af))))
 (az (vm (aU (aj oY (a9 cY (aa (ab 3) af)) (dC (.int 1)))) (az (bJ 4 (aj a_ (ab 3) (jc fF (dC (.int 1)))))
 (az (bJ 5 (aj a_ (ab 3) (jc fF (dC (.int 2)))))
 (az (fb (dy ay "take" kg (ab 0) (aa (ab 4) (aa (aq ix (aa (aj a_ (aj a_ (bN ay "body" (ab 0)) (ab 4)) (ab 2)) (aa (aj a_ (aj a_ (bN ay "body" (ab 0)) (ab 5)) (ab 2)) af))) (aa (ab 5) af)))))
 (bJ 3 (dy ay "live_rows" gg (ab 0) (aa (ab 1) (aa (ab 2) af))))))))
 (az (cZ (aU (aj gc (a9 cY (aa (ab 3) af)) (dC (.int 0)))) (a7 (dC (.bl false))) cv)
 (az (fb (dy ay "exchange" jH (ab 0) (aa (ab 1) (aa (aj a_ (ab 3) (dC (.int 0))) af))))
 (az (cZ (aU (aj my (aj a_ (aj a_ (bN ay "body" (ab 0)) (ab 1)) (ab 2)) (dC (.int 0)))) (fb (dy ay "change_sign" hW (ab 0) (aa (ab 1) af))) cv)
 (a7 (dC (.bl true))))))))
theorem Bo.Nt{n0:Nat}{st st':ae}{b xb xu xc:Nat}(h:Bo n0 st st' b xb xu xc):Bo n0 st (st'.set 0 (cS true)) b xb xu xc:=
 ⟨h.lo,λ m hm h0=>by rw[Tx (TK h0)];exact h.fr m hm h0,true,by
  obtain⟨f,e⟩:=h.tb;exact TJ (Tt.mp e).1⟩
theorem Bo.low{n0:Nat}{st st1 st2:ae}{b xb xu xc:Nat}(h:Bo n0 st st1 b xb xu xc)(f:∀m,m≠xb->m≠xu->m≠xc->st2[m]?=st1[m]?):Bo n0 st st2 b xb xu xc:=by
 obtain⟨l1,l2,l3,l4,l5⟩:=h.lo;refine⟨h.lo,λ m hm h0=>?_,?_⟩
 . rw[f m (by omega) (by omega) (by omega)];exact h.fr m hm h0
 . obtain⟨z,e⟩:=h.tb;exact⟨z,by rw[f 0 (by omega) (by omega) (by omega)];exact e⟩
theorem A6{n j:Nat}(h:1<=j)(h2:j<=n):ni n (-(j:Int))=some (n-j):=by
 unfold ni;rw[Tv (by omega),TC (by omega)];congr 1;omega
theorem O8{L:List Nat}{j k:Nat}:d6 ((L++[j,k]).map λ(k:Nat)=>D.int (k:Int)) (-1)=some (.int (k:Int)):=by
 unfold d6;have:=A6 (n:=((L++[j,k]).map λ(k:Nat)=>D.int (k:Int)).length) (j:=1) (by decide) (by simp);rw[show(-((1:Nat):Int))= -1 from rfl]at this;rw[this];simp
theorem PF{L:List Nat}{j k:Nat}:d6 ((L++[j,k]).map λ(k:Nat)=>D.int (k:Int)) (-2)=some (.int (j:Int)):=by
 unfold d6;have:=A6 (n:=((L++[j,k]).map λ(k:Nat)=>D.int (k:Int)).length) (j:=2) (by decide) (by simp);rw[show(-((2:Nat):Int))= -2 from rfl]at this;rw[this];simp
theorem Hu:∀ {L:List Nat},1<L.length->∃M j k,L=M++[j,k]:=λ{L} h=>by
 refine⟨L.take (L.length-2),L[L.length-2]'(by omega),L[L.length-1]'(by omega),?_⟩;have e1:L=L.take (L.length-2)++L.drop (L.length-2):=(List.take_append_drop _ _).symm
 have e2:L.drop (L.length-2)=[L[L.length-2]'(by omega),L[L.length-1]'(by omega)]:=by
  rw[UL (by omega),UL (by omega),Vi (by omega)];congr 2;congr 1;omega
 rw[<-e2];exact e1
theorem wC:Tq kQ 3 xg kO:=by
 rintro ds st K ⟨n0,b,xb,xu,xc,N,w,top,p,e,u,v,z,A0,A,U,C,ld,rfl,B,O,S,hN,hw,hp,hzz,hz,kf,kt⟩;refine⟨rfl,?_⟩;have hle:=S.le;obtain⟨f,h0⟩:=O.tb;refine dm B.eb rfl ?_;refine⟨b,xb,xu,xc,N,w,top,p,A,U,C,f,rfl,B,S.tn.isA,hle,hN,hp,hw,h0,λ L hL=>?_⟩;have B1:=B.tab h0 (cS true);have O1:=O.Nt;try dsimp only[af]
 refine oS (λ σ st'=>∃(L:List Nat) (v4 v5:Option D) (c:Mx.B3) (gr:Nat),σ=[some (.ref b),some (.int top),some (.int p),some (.lst (L.map λ(k:Nat)=> .int (k:Int))),v4,v5]/\L.length<=1/\Bn st' b xb xu xc c.A c.U c.C/\Bo n0 st st' b xb xu xc/\Mx.eL N top p ⟨A,U,C⟩ c/\Mx.Gb A0 N w top p (2^(4*e)) (N*2^(4*e)) gr ⟨A,U,C⟩ c/\Mx.jg c.A N top p L) (λ nx hnx=>?_) ?_
 . refine⟨λ m σ st'=>∃(L:List Nat) (v4 v5:Option D) (c:Mx.B3) (gr:Nat),σ=[some (.ref b),some (.int top),some (.int p),some (.lst (L.map λ(k:Nat)=> .int (k:Int))),v4,v5]/\Bn st' b xb xu xc c.A c.U c.C/\Bo n0 st st' b xb xu xc/\Mx.eL N top p ⟨A,U,C⟩ c/\Mx.Gb A0 N w top p (2^(4*e)) (N*2^(4*e)) gr ⟨A,U,C⟩ c/\Mx.jg c.A N top p L/\m=Mx.mu c.A N p,⟨_,L,none,none,⟨A,U,C⟩,_,rfl,B1,O1,.refl _,Mx.Gb.start S,hL,rfl⟩,?_⟩;rintro m σ st1 ⟨L,v4,v5,c,gr,rfl,B,O,hR,hG,hL,rfl⟩;refine cq rfl ?_;rw[Tw];refine Kk (λ h=>dj ?_) λ h=>oM (hnx _ _ ⟨L,v4,v5,c,gr,rfl,by omega,B,O,hR,hG,hL⟩);obtain⟨M,j,k,rfl⟩:=Hu (L:=L) (by omega);refine jw (aE rfl O8 (jw (aE rfl PF ?_)));obtain⟨G2,hlt,hoth,k1,k2,j1,j2,hjk,hj0,_⟩:=hG.step hL;have T:=hG.tn;have lA:=T.isA.len;have hsm:=hz c hR;refine dm B.eb rfl (aZ B.eb rfl (aE (aX B.e1) (dn (by omega)) (aE rfl (nO (by rw[Mx.cO T.isA k2];exact hp)) (aZ B.eb rfl (aE (aX B.e1) (dn (by omega)) (aE rfl (nO (by rw[Mx.cO T.isA j2];exact hp)) ?_))))));refine⟨_,_,rfl,hj0,?_⟩;have hq:(Mx.qn (Mx.g c.A k p) (Mx.g c.A j p)).natAbs<=2^(z+1):=TB (Mx.Pc hj0) (Mx.Cm (hsm k p k2).1 (hsm j p j2).1)
   have hm:∀ {x:Int},x.natAbs<=2^z->IntMulOk (Mx.qn (Mx.g c.A k p) (Mx.g c.A j p)) x/\IntMulOk (-(Mx.qn (Mx.g c.A k p) (Mx.g c.A j p))) x:=λ{x} h=>
    ⟨g8 hq h (by omega),g8 (by rw[VM];exact hq) h (by omega)⟩
   have mg:∀ {X:List (List Int)} {i:Nat} {x:Int},x∈X.getD i []->∃q,x=Mx.g X i q:=λ{X i x} hx=>by
    obtain⟨c,hc,rfl⟩:=UG.mp hx;exact⟨c,by unfold Mx.g;rw[Mx.aJ hc]⟩
   refine⟨b,xb,xu,xc,N,w,k,j,c.A,c.U,c.C,_,rfl,B,T.isA,T.fm,T.fI,k2,j2,hN,hw,λ x hx=>(by obtain⟨q,rfl⟩:=mg hx;exact(hm (hsm j q j2).1).2),λ x hx=>(by obtain⟨q,rfl⟩:=mg hx;exact(hm (hsm j q j2).2.1).2),λ x hx=>(by obtain⟨q,rfl⟩:=mg hx;exact(hm (hsm k q k2).2.2).1),λ st2 B2 l2 f2=>?_⟩;have O2:=O.low f2;obtain⟨f',h0'⟩:=O2.tb;refine dm B2.eb rfl ?_;refine⟨b,xb,xu,xc,N,w,top,p,_,_,_,f',rfl,B2,G2.tn.isA,hle,hN,hp,hw,h0',λ L2 hL2=>?_⟩;refine⟨_,?_,L2,_,_,Mx.pP c p k j,_,rfl,B2.tab h0' (cS true),O2.Nt,hR.tail ⟨M,k,j,hL,rfl⟩,G2,hL2,rfl⟩;unfold Mx.mu;refine Mx.IW (k:=k) hlt k2 λ i hi=>?_;by_cases h:i=k
   . rw[h];exact UO hlt
   . rw[hoth i h];exact Tu _
 . rintro σ st1 ⟨L,v4,v5,c,gr,rfl,hl,B,O,hR,hG,hL⟩;refine cq rfl ?_;rw[Tw];match L,hl,hL with
   | [],_,hL=>
     refine eq2 (λ h=>dj ?_) λ h=>absurd rfl h
     have e0:c=⟨A,U,C⟩:=by
      rcases hG.Pw with z|⟨j,h1,h2,h3⟩
      . exact z
      . exact absurd ((hL.mem j).mpr ⟨h1,h2,h3⟩) (by simp)
     subst e0;exact kf st1 B O hL
   | [r],_,hL=>
     refine eq2 (λ h=>absurd h (by simp)) λ h=>oM ?_;obtain⟨s1,hr1,hr2⟩:=hG.set (hG.low hN) hL;have ht:top<N:=by omega
     have T:=hG.tn;refine dm B.eb rfl (aE rfl (show d6 ([r].map λ(k:Nat)=>D.int (k:Int)) 0=some (.int (r:Int))from rfl) ?_);refine⟨b,xb,xu,xc,N,w,top,r,c.A,c.U,c.C,rfl,B,T.isA,T.fm,T.fI,ht,hr2,λ st2 B2 l2 f2=>?_⟩;obtain⟨l1,l2',l3,l4,l5⟩:=O.lo
     have hst:n0<=st1.length:=by
      have:=(Tt.mp B.eb).1;omega
     have O2:Bo n0 st st2 b st1.length (st1.length+1) (st1.length+2):=by
      refine⟨⟨l1,l2',by omega,by omega,by omega⟩,λ m hm h0=>?_,?_⟩
      . rw[f2 m (by omega) (by omega)];exact O.fr m hm h0
      . obtain⟨z,e⟩:=O.tb;exact⟨z,by rw[f2 0 (by omega) (by omega)];exact e⟩
     have T1:=T.Kq ht hr2;refine aZ B2.eb rfl (aE (aX B2.e1) (dn (by have:=T1.isA.len;omega)) (aE rfl (nO (by rw[Mx.cO T1.isA ht];exact hp)) ?_));refine xN (λ h=>dj ?_) λ h=>oM ?_
     . have es:Mx.setB c p top r=⟨Mx.fQ (Mx.bw c.A top r) top,Mx.fQ (Mx.bw c.U top r) top,Mx.fQ (Mx.bw c.C top r) top⟩:=TC h;refine dm B2.eb rfl ?_;refine⟨b,_,_,_,N,w,top,_,_,_,rfl,B2,T1.isA,T1.fm,T1.fI,ht,hN,hw,λ st3 B3 l3 f3=>?_⟩;exact kt st3 _ _ _ c r (by rw[es];exact B3) (O2.low f3) hR hL
     . have es:Mx.setB c p top r=⟨Mx.bw c.A top r,Mx.bw c.U top r,Mx.bw c.C top r⟩:=Tv (λ z=>by unfold Mx.g at z;omega);exact kt st2 _ _ _ c r (by rw[es];exact B2) O2 hR hL
def hJ:bQ:=λ ds st K=>∃(b xb xu xc N w top p e u v z:Nat) (A0 A U C:List (List Int)),ds=[.ref b,.int top,.int p]/\Bn st b xb xu xc A U C/\Mx.Tn A0 A U C N w/\N<=16/\w<=16/\p<w/\top<N/\0<Mx.g A top p/\(∀q,q<p->Mx.g A top q=0)/\
 (∀q,(Mx.g A top q).natAbs<=2^e/\(Mx.g U top q).natAbs<=2^e/\(Mx.g C top q).natAbs<=2^e)/\(∀i q,i<top->(Mx.g A i q).natAbs<=2^u/\(Mx.g U i q).natAbs<=2^u/\(Mx.g C i q).natAbs<=2^v)/\z<=60000000/\(∀k,k<=top->Mx.Sm (Mx.g_ p top k ⟨A,U,C⟩) N (2^z))/\
 ∀st',Bn st' b xb xu xc (Mx.g_ p top top ⟨A,U,C⟩).A (Mx.g_ p top top ⟨A,U,C⟩).U (Mx.g_ p top top ⟨A,U,C⟩).C->(∀m,m≠xb->m≠xu->m≠xc->st'[m]?=st[m]?)->K .ax st'
def hO:List Str:=["self","top","place","k"]
def qW:DS:=(ia (cB (aa (ab 1) af)) (aK 3) (fb (dy ay "take" kg (ab 0) (aa (ab 3) (aa (aj oN (aj a_ (aj a_ (bN ay "body" (ab 0)) (ab 3)) (ab 2)) (aj a_ (aj a_ (bN ay "body" (ab 0)) (ab 1)) (ab 2))) (aa (ab 1) af))))))
theorem EH{X:List (List Int)}{i:Nat}{x:Int}(hx:x∈X.getD i []):∃q,x=Mx.g X i q:=by
 obtain⟨c,hc,rfl⟩:=UG.mp hx;exact⟨c,by unfold Mx.g;rw[Mx.aJ hc]⟩
theorem qA:Tq hJ 3 qW hO:=by
 rintro ds st K ⟨b,xb,xu,xc,N,w,top,p,e,u,v,z,A0,A,U,C,rfl,B,T,hN,hw,hp,ht,htp,hz,hlo,hhi,hzz,hsm,kk⟩;refine⟨rfl,?_⟩;refine cN ⟨by omega,by omega⟩ ?_;rw[TZ];refine gI top (λ k σ st'=>∃v3:Option D,σ=[some (.ref b),some (.int top),some (.int p),v3]/\Bn st' b xb xu xc (Mx.g_ p top k ⟨A,U,C⟩).A (Mx.g_ p top k ⟨A,U,C⟩).U (Mx.g_ p top k ⟨A,U,C⟩).C/\(∀m,m≠xb->m≠xu->m≠xc->st'[m]?=st[m]?)/\Mx.lg A0 N w top p e u v ⟨A,U,C⟩ k (Mx.g_ p top k ⟨A,U,C⟩)) ?_ ?_ ⟨none,rfl,B,λ _ _ _ _=>rfl,Mx.lg.start T λ q=>(hlo q).2.2⟩
 . rintro σ st' ⟨v3,rfl,B',f,I⟩;exact kk st' B' f
 . rintro k σ st' rest hk ⟨v3,rfl,B',f,I⟩ next
   refine⟨_,rfl,?_⟩;have hs:=I.step hk ht hp htp hz (λ q=>⟨(hlo q).1,(hlo q).2.1⟩) hhi;have hs2:=hsm k (UO hk);generalize hc:Mx.g_ p top k ⟨A,U,C⟩=c at*;have lA:=I.tn.isA.len;have kN:k<N:=by omega
   have gA:∀i q,k<=i->Mx.g c.A i q=Mx.g A i q:=λ i q hi=>by unfold Mx.g;rw[(I.rA i hi).1]
   have hq:((Mx.g c.A k p).fdiv (Mx.g c.A top p)).natAbs<=2^z:=TB (Mx.An _ (by rw[gA top p (by omega)];exact htp)) (hs2 k p kN).1;have htp':Mx.g c.A top p≠0:=by rw[gA top p (by omega)];omega
   refine dm B'.eb rfl (aZ B'.eb rfl (aE (aX B'.e1) (dn (by omega)) (aE rfl (nO (by rw[Mx.cO I.tn.isA kN];exact hp)) (aZ B'.eb rfl (aE (aX B'.e1) (dn (by omega)) (aE rfl (nO (by rw[Mx.cO I.tn.isA ht];exact hp)) (BB htp' ?_)))))));refine⟨b,xb,xu,xc,N,w,k,top,c.A,c.U,c.C,_,rfl,B',I.tn.isA,I.tn.fm,I.tn.fI,kN,ht,hN,hw,λ x hx=>?_,λ x hx=>?_,λ x hx=>?_,λ st2 B2 l2 f2=>?_⟩
   . obtain⟨q,rfl⟩:=EH hx;exact g8 (by rw[VM];exact hq) (hs2 top q ht).1 (by omega)
   . obtain⟨q,rfl⟩:=EH hx;exact g8 (by rw[VM];exact hq) (hs2 top q ht).2.1 (by omega)
   . obtain⟨q,rfl⟩:=EH hx;exact g8 hq (hs2 k q kN).2.2 (by omega)
   . have el:Mx.g_ p top (k+1) ⟨A,U,C⟩=⟨Mx.aS c.A k ((Mx.g c.A k p).fdiv (Mx.g c.A top p)) top,Mx.aS c.U k ((Mx.g c.A k p).fdiv (Mx.g c.A top p)) top,Mx.aS c.C top (-((Mx.g c.A k p).fdiv (Mx.g c.A top p))) k⟩:=by rw[<-hc];rfl
     refine next _ _ ⟨_,rfl,?_,λ m h1 h2 h3=>(f2 m h1 h2 h3).trans (f m h1 h2 h3),?_⟩
     . rw[el];exact B2
     . rw[el];exact hs
structure Bk(st st':ae):Prop where
 le:st.length<=st'.length
 fr:∀m,m<st.length->m≠0->st'[m]?=st[m]?
 tb:∃f,st'[0]?=some (cS f)
def mF:bQ:=λ ds st K=>∃(d:D) (N w e0 z:Nat) (A:List (List Int)) (f:Bool),ds=[d]/\fg st d A/\Mx.aP N w A/\1<=N/\N<=16/\w<=16/\Mx.fS A N 0 (2^e0)/\z<=60000000/\(∀p t c,p<w->Mx.dP A N p t c->Mx.EB N p t z c)/\st[0]?=some (cS f)/\
 ∀st' (top:Nat) (c:Mx.B3),Mx.dP A N w top c->Bk st st'->K (.tup [au (c.A.take top),au c.U,au (Mx.bG c.C N)]) st'
def vU:List Str:=["rows","bench","top","place","back"]
def EK:DS:=(az (bJ 1 (zf ay jL (aa (ab 0) af)))
 (az (bJ 2 (dC (.int 0)))
 (az (ia (cB (aa (a9 cY (aa (aj a_ (ab 0) (dC (.int 0))) af)) af)) (aK 3) (cZ (aU (dy ay "gather" kQ (ab 1) (aa (ab 2) (aa (ab 3) af)))) (az (fb (dy ay "lower_above" hJ (ab 1) (aa (ab 2) (aa (ab 3) af))))
 (DU 2 (BH (λ i j=>i+j)) (dC (.int 1)))) cv))
 (az (bJ 4 (aq fK (aa (bN ay "back_columns" (ab 1)) (aa (a9 cY (aa (ab 0) af)) af))))
 (a7 (cL (aa (aq jP (aa (cm (bN ay "body" (ab 1)) bS (cQ (ab 2))) af)) (aa (aq jP (aa (bN ay "turn" (ab 1)) af)) (aa (ab 4) af)))))))))
theorem x6{st st':ae}{f:Bool}(h0:st[0]?=some (cS f))(fr:∀m,m<st.length->m≠0->st'[m]?=st[m]?){d:D}{xs:List D}(h:items? st d=some xs):items? st' d=some xs:=by
 cases d with
 |ref n=>
  have e:=sN h;have n0:n≠0:=tx e h0;rw[aX ((fr n (Tt.mp e).1 n0).trans e)]
 |_=>exact h
theorem yy{st st':ae}{f:Bool}(h0:st[0]?=some (cS f))(fr:∀m,m<st.length->m≠0->st'[m]?=st[m]?):∀ {ds:List D} {A:List (List Int)},bU st ds A->bU st' ds A
 | [],[],_=>trivial
 |_::_,_::_,h=>⟨x6 h0 fr h.1,yy h0 fr h.2⟩
theorem v8{st st':ae}{f:Bool}(h0:st[0]?=some (cS f))(fr:∀m,m<st.length->m≠0->st'[m]?=st[m]?){d:D}{A:List (List Int)}(h:fg st d A):fg st' d A:=by
 obtain⟨ds,h1,h2⟩:=h.ex;exact⟨ds,x6 h0 fr h1,yy h0 fr h2⟩
theorem OD{xs:List D}{j:Nat}:L3.cutD xs none (some (j:Int))=xs.take j:=by
 unfold L3.cutD;rw[HT.LQ,HT.HR,List.drop_zero,Nat.sub_zero];by_cases h:j<=xs.length
 . rw[Nat.min_eq_left h]
 . rw[Nat.min_eq_right (by omega),List.take_length,VP (by omega)]
theorem B_:Tq mF 1 EK vU:=by
 rintro ds st K ⟨d,N,w,e0,z,A,f,rfl,hd,hA,hN1,hN,hw,hlo,hzz,hsz,h0,kk⟩;refine⟨rfl,?_⟩;have lA:=hA.len;have h0l:0<st.length:=(Tt.mp h0).1;have hd1:fg (st++[Cell.ins ay []]) d A:=v8 h0 (λ m hm _=>TF hm) hd;refine⟨st.length,N,d,A,rfl,by simp,hd1,lA,hN,λ st1 B1 l1 f1=>⟨rfl,?_⟩⟩;have hl1:(st++[Cell.ins ay []]).length=st.length+1:=by simp
 have fr1:∀m,m<st.length->st1[m]?=st[m]?:=λ m hm=>by rw[f1 m (by omega) (by omega),TF hm]
 have O1:Bo st.length st st1 st.length (st.length+1) (st.length+1+1) (st.length+1+2):=⟨⟨h0l,by omega,by omega,by omega,by omega⟩,λ m hm _=>fr1 m hm,f,(fr1 0 h0l).trans h0⟩
 rw[hl1]at B1;have hdk:∀ {st':ae},(∀m,m<st.length->m≠0->st'[m]?=st[m]?)->fg st' d A:=λ h=>v8 h0 h hd;obtain⟨da,hda,hra⟩:=(hdk O1.fr).ex;have hdl:=hra.len
 have hrow0:∃d0,da[0]?=some d0/\items? st1 d0=some (ao (A.getD 0 [])):=by
  have hi:0<da.length:=by omega
  obtain⟨r,e1,e2⟩:=bU.get hra (TM hi);refine⟨da[0],TM hi,?_⟩;have:A.getD 0 []=r:=by rw[Ug,e1];rfl
  rw[this];exact e2
 obtain⟨d0,hd0,hi0⟩:=hrow0;have er:(ao (A.getD 0 [])).length=w:=by unfold ao;rw[Tw];exact Mx.cO hA (by omega)
 try dsimp only[af]
 refine oS (A:=bJ 2 _) (λ σ st'=>σ=[some d,some (.ref st.length),some (.int 0),none,none]/\st'=st1) (λ nx h=>h _ _ ⟨rfl,rfl⟩) ?_;rintro _ _ ⟨rfl,rfl⟩;refine oS (A:=ia _ _ _) (λ σ st'=>∃(top xb xu xc:Nat) (v3:Option D) (c:Mx.B3),σ=[some d,some (.ref st.length),some (.int top),v3,none]/\Bn st' st.length xb xu xc c.A c.U c.C/\Bo st.length st st' st.length xb xu xc/\Mx.dP A N w top c) (λ nx hnx=>?_) ?_
 . refine aE hda (show d6 da 0=some d0 from gB (j:=0) hd0) (cq hi0 ?_);rw[er];refine cN ⟨by omega,by omega⟩ ?_;rw[TZ];refine gI w (λ p σ st'=>∃(top xb xu xc:Nat) (v3:Option D) (c:Mx.B3),σ=[some d,some (.ref st.length),some (.int top),v3,none]/\Bn st' st.length xb xu xc c.A c.U c.C/\Bo st.length st st' st.length xb xu xc/\Mx.dP A N p top c) ?_ ?_ ⟨0,_,_,_,none,⟨A,Mx.units N,Mx.units N⟩,rfl,B1,O1,.start⟩
   . rintro σ st' ⟨top,xb,xu,xc,v3,c,rfl,B,O,hC⟩;exact hnx _ _ ⟨top,xb,xu,xc,v3,c,rfl,B,O,hC⟩
   . rintro p σ st' rest hp ⟨top,xb,xu,xc,v3,c,rfl,B,O,hC⟩ next
     refine⟨_,rfl,?_⟩;obtain⟨ld,S⟩:=hC.str hA hlo hN (UO hp);have hle:=S.le;have hroom:=hsz p top c hp hC;refine dm B.eb rfl ?_;refine⟨st.length,st.length,xb,xu,xc,N,w,top,p,_,_,_,z,A,c.A,c.U,c.C,ld,rfl,B,⟨O.lo,λ _ _ _=>rfl,O.tb⟩,S,hN,hw,hp,hzz,hroom.ga,λ st2 B2 O2 hL=>?_,λ st2 xb2 xu2 xc2 c2 r B2 O2 hR hL=>?_⟩
     . exact oM (next _ _ ⟨top,xb,xu,xc,_,c,rfl,B2,⟨O2.lo,λ m h1 h2=>(O2.fr m h1 h2).trans (O.fr m h1 h2),O2.tb⟩,.next hC (.none hL)⟩)
     . refine dj ?_;obtain⟨s1,ht,_⟩:=S.IE hN hp hR hL;have O2':Bo st.length st st2 st.length xb2 xu2 xc2:=⟨O2.lo,λ m h1 h2=>(O2.fr m h1 h2).trans (O.fr m h1 h2),O2.tb⟩
       refine dm B2.eb rfl ?_;refine⟨st.length,xb2,xu2,xc2,N,w,top,p,4*Mx.Ey e0 top+4,Mx.Uy e0 top,Mx.Cx e0 top,z,A,_,_,_,rfl,B2,s1.tn,hN,hw,hp,ht,s1.tp,λ q hq=>s1.zs top q (Tu _) ht hq,λ q=>⟨s1.lo.1 top q (Tu _) ht,s1.lo.2.1 top q (Tu _) ht,s1.lo.2.2 top q (Tu _) ht⟩,λ i q hi=>?_,hzz,λ k hk=>hroom.lo c2 r k hR hL hk,λ st3 B3 f3=>?_⟩
       . obtain⟨a1,a2,a3⟩:=s1.Ko hi q;rw[a1,a2,a3];exact S.hi i q hi
       . exact next _ _ ⟨top+1,xb2,xu2,xc2,_,_,rfl,B3,O2'.low f3,.next hC (.one hR hL)⟩
 . rintro σ st2 ⟨top,xb,xu,xc,v3,c,rfl,B,O,hC⟩;obtain⟨ld,S⟩:=hC.str hA hlo hN (Tu _);have hle:=S.le;have T:=S.tn;have lN:=T.isA.len;refine aZ B.eb rfl ?_;obtain⟨da2,hda2,hra2⟩:=(hdk O.fr).ex;refine cq hda2 ?_;rw[hra2.len,lA];refine⟨_,c.C,N,rfl,⟨_,aX B.e3,bU.lst⟩,T.fI.fw,by rw[T.fI.len];omega,by omega,?_⟩;refine aZ B.eb rfl (FK B.e1 ?_);rw[OD,<-List.map_take];refine⟨_,c.A.take top,rfl,⟨_,rfl,bU.lst⟩,by rw[UY];omega,?_⟩;refine aZ B.eb rfl ?_;refine⟨_,c.U,rfl,⟨_,aX B.e2,bU.lst⟩,by rw[T.fm.len];omega,?_⟩;refine⟨by show 3<=sizeLine;decide,?_⟩;refine kk st2 top c hC ⟨?_,O.fr,O.tb⟩;have:=(Tt.mp B.eb).1;omega
structure Us(n:Nat)(st st':ae):Prop where
 len:st'.length=st.length
 same:∀m,m≠n->st'[m]?=st[m]?
theorem Us.trans{n:Nat}{st st1 st2:ae}(a:Us n st st1)(b:Us n st1 st2):Us n st st2:=⟨b.len.trans a.len,λ m h=>(b.same m h).trans (a.same m h)⟩
theorem eC{st:ae}{n:Nat}{C:Addr}{fs gs:List (Str×D)}{f:Str}{d:D}{K:ae->Prop}(e:st[n]?=some (.ins C fs))(h:fs.length<1000)(eg:putD f d fs=gs)(k:∀st',st'[n]?=some (.ins C gs)->Us n st st'->K st'):vK C f (.ref n) d st K:=kL e h (by
 rw[eg];exact k _ (TJ (Tt.mp e).1) ⟨TQ,λ m hm=>Tx (TK hm)⟩)
structure Si(st:ae)(n N w:Nat)(d:D)(L Lb R Rb:List (List Int)):Prop where
 e:st[n]?=some (Cell.ins aB [("many",.int N),("wide",.int w),("body",d),("left",au L),("left_back",au Lb),("right",au R),("right_back",au Rb)])
def jK:bQ:=λ ds st K=>∃(n N w:Nat) (d:D) (A:List (List Int)),ds=[.ref n,d]/\st[n]?=some (.ins aB [])/\(∀s,fg s d A)/\Mx.aP N w A/\1<=N/\N<=8/\w<=8/\∀st',Si st' n N w d (Mx.units N) (Mx.units N) (Mx.units w) (Mx.units w)->Us n st st'->K .ax st'
def jM:List Str:=["self","rows"]
def uM:DS:=(az (eG aB "many" (ab 0) (a9 cY (aa (ab 1) af)))
 (az (eG aB "wide" (ab 0) (a9 cY (aa (aj a_ (ab 1) (dC (.int 0))) af)))
 (az (eG aB "body" (ab 0) (ab 1))
 (az (eG aB "left" (ab 0) (aq dQ (aa (bN aB "many" (ab 0)) af)))
 (az (eG aB "left_back" (ab 0) (aq dQ (aa (bN aB "many" (ab 0)) af)))
 (az (eG aB "right" (ab 0) (aq dQ (aa (bN aB "wide" (ab 0)) af)))
 (eG aB "right_back" (ab 0) (aq dQ (aa (bN aB "wide" (ab 0)) af)))))))))
theorem tR:Tq jK 2 uM jM:=by
 rintro ds st K ⟨n,N,w,d,A,rfl,e,hd,hA,n1,n8,w8,k⟩;refine⟨rfl,?_⟩;have lA:=hA.len;obtain⟨da,hda,ra⟩:=(hd st).ex;have lda:da.length=N:=by rw[ra.len];exact lA
 refine cq hda ?_;rw[lda];refine eC (gs:=[("many",.int N)]) e (Ts rfl) rfl λ st1 e1 U1=>?_;obtain⟨db,hdb,rb⟩:=(hd st1).ex;obtain⟨d0,h0,i0⟩:=rb.at (k:=0) (by omega);refine aE hdb h0 (cq i0 ?_);rw[Tw,hA.row (i:=0) (by omega)];refine eC (gs:=[("many",.int N),("wide",.int w)]) e1 (Ts rfl) rfl λ st2 e2 U2=>?_;refine eC (gs:=[("many",.int N),("wide",.int w),("body",d)]) e2 (Ts rfl) rfl λ st3 e3 U3=>?_;refine aZ e3 rfl ⟨N,rfl,by omega,?_⟩;refine eC (gs:=[("many",.int N),("wide",.int w),("body",d),("left",au (Mx.units N))]) e3 (Ts rfl) rfl λ st4 e4 U4=>?_;refine aZ e4 rfl ⟨N,rfl,by omega,?_⟩;refine eC (gs:=[("many",.int N),("wide",.int w),("body",d),("left",au (Mx.units N)),("left_back",au (Mx.units N))]) e4 (Ts rfl) rfl λ st5 e5 U5=>?_;refine aZ e5 rfl ⟨w,rfl,by omega,?_⟩;refine eC (gs:=[("many",.int N),("wide",.int w),("body",d),("left",au (Mx.units N)),("left_back",au (Mx.units N)),("right",au (Mx.units w))]) e5 (Ts rfl) rfl λ st6 e6 U6=>?_;refine aZ e6 rfl ⟨w,rfl,by omega,?_⟩;refine eC (gs:=[("many",.int N),("wide",.int w),("body",d),("left",au (Mx.units N)),("left_back",au (Mx.units N)),("right",au (Mx.units w)),("right_back",au (Mx.units w))]) e6 (Ts rfl) rfl λ st7 e7 U7=>?_;exact k st7 ⟨e7⟩ (U1.trans (U2.trans (U3.trans (U4.trans (U5.trans (U6.trans U7))))))
def Le(X:List (List Int))(N w b:Nat):Prop:=∀i j,i<N->j<w->(Mx.g X i j).natAbs<=2^b
theorem Le.mem{X:List (List Int)}{N w b:Nat}(h:Le X N w b)(hX:Mx.aP N w X):∀r∈X,∀x∈r,x.natAbs<=2^b:=λ r hr x hx=>by
 obtain⟨i,hi,rfl⟩:=UG.mp hr;obtain⟨j,hj,rfl⟩:=UG.mp hx;have:=h i j (by rw[<-hX.len];exact hi) (by rw[<-hX.fw _ hr];exact hj);unfold Mx.g at this;rwa [Mx.aJ hi,Mx.aJ hj]at this
theorem o4{X Y:List (List Int)}{N w p q a b:Nat}(hX:Mx.aP N w X)(hY:Mx.aP p q Y)(bX:Le X N w a)(bY:Le Y p q b)(h:a+b<=130000000):∀r∈X,∀c∈r,∀s∈Y,∀y∈s,IntMulOk c y:=λ r hr c hc s hs y hy=>g8 (bX.mem hX r hr c hc) (bY.mem hY s hs y hy) h
theorem ne_nil{X:List (List Int)}{N w:Nat}(hX:Mx.aP N w X)(h:1<=N):X≠ []:=λ z=>by
 have:=hX.len;rw[z]at this;simp at this;omega
def ji:bQ:=λ ds st K=>∃(n N w x y:Nat) (d:D) (A B L Lb R Rb T Tb:List (List Int)),ds=[.ref n,au T,au Tb]/\Si st n N w d L Lb R Rb/\(∀s,fg s d B)/\Mx.Sd A B L Lb R Rb N w x/\1<=N/\N<=8/\w<=8/\Mx.aP N N T/\Mx.aP N N Tb/\Le T N N y/\Le Tb N N y/\Le B N w 200/\x+y<=120000000/\∀st',Si st' n N w (au (Mx.mulM T B w)) (Mx.mulM T L N) (Mx.mulM Lb Tb N) R Rb->Us n st st'->K .ax st'
def jd:List Str:=["self","turn","back"]
def tO:DS:=(az (eG aB "body" (ab 0) (aq e9 (aa (ab 1) (aa (bN aB "body" (ab 0)) af))))
 (az (eG aB "left" (ab 0) (aq e9 (aa (ab 1) (aa (bN aB "left" (ab 0)) af))))
 (eG aB "left_back" (ab 0) (aq e9 (aa (bN aB "left_back" (ab 0)) (aa (ab 2) af))))))
theorem rJ:Tq ji 3 tO jd:=by
 rintro ds st K ⟨n,N,w,x,y,d,A,B,L,Lb,R,Rb,T,Tb,rfl,s,hd,S,n1,n8,w8,iT,iTb,sT,sTb,sB,hxy,k⟩;refine⟨rfl,?_⟩;refine aZ s.e rfl ⟨au T,d,w,T,B,rfl,cM,hd st,ne_nil S.iB n1,S.iB.fw,by omega,by rw[iT.len];omega,o4 iT S.iB sT sB (by omega),?_⟩;refine eC (gs:=[("many",.int N),("wide",.int w),("body",au (Mx.mulM T B w)),("left",au L),("left_back",au Lb),("right",au R),("right_back",au Rb)]) s.e (Ts rfl) rfl λ st1 e1 U1=>?_;refine aZ e1 rfl ⟨au T,_,N,T,L,rfl,cM,cM,ne_nil S.iL n1,S.iL.fw,by omega,by rw[iT.len];omega,o4 iT S.iL sT S.sL (by omega),?_⟩;refine eC (gs:=[("many",.int N),("wide",.int w),("body",au (Mx.mulM T B w)),("left",au (Mx.mulM T L N)),("left_back",au Lb),("right",au R),("right_back",au Rb)]) e1 (Ts rfl) rfl λ st2 e2 U2=>?_;refine aZ e2 rfl ⟨_,_,N,Lb,Tb,rfl,cM,cM,ne_nil iTb n1,iTb.fw,by omega,by rw[S.lZ.len];omega,o4 S.lZ iTb S.F7 sTb (by omega),?_⟩;refine eC (gs:=[("many",.int N),("wide",.int w),("body",au (Mx.mulM T B w)),("left",au (Mx.mulM T L N)),("left_back",au (Mx.mulM Lb Tb N)),("right",au R),("right_back",au Rb)]) e2 (Ts rfl) rfl λ st3 e3 U3=>?_;exact k st3 ⟨e3⟩ (U1.trans (U2.trans U3))
def f7:bQ:=λ ds st K=>∃(n N w x y:Nat) (d:D) (A B L Lb R Rb T Tb:List (List Int)),ds=[.ref n,au T,au Tb]/\Si st n N w d L Lb R Rb/\(∀s,fg s d B)/\Mx.Sd A B L Lb R Rb N w x/\1<=w/\N<=8/\w<=8/\Mx.aP w w T/\Mx.aP w w Tb/\Le T w w y/\Le Tb w w y/\Le B N w 200/\x+y<=120000000/\∀st',Si st' n N w (au (Mx.mulM B T w)) L Lb (Mx.mulM R T w) (Mx.mulM Tb Rb w)->Us n st st'->K .ax st'
def iJ:List Str:=["self","turn","back"]
def sE:DS:=(az (eG aB "body" (ab 0) (aq e9 (aa (bN aB "body" (ab 0)) (aa (ab 1) af))))
 (az (eG aB "right" (ab 0) (aq e9 (aa (bN aB "right" (ab 0)) (aa (ab 1) af))))
 (eG aB "right_back" (ab 0) (aq e9 (aa (ab 2) (aa (bN aB "right_back" (ab 0)) af))))))
theorem qV:Tq f7 3 sE iJ:=by
 rintro ds st K ⟨n,N,w,x,y,d,A,B,L,Lb,R,Rb,T,Tb,rfl,s,hd,S,w1,n8,w8,iT,iTb,sT,sTb,sB,hxy,k⟩;refine⟨rfl,?_⟩;refine aZ s.e rfl ⟨d,au T,w,B,T,rfl,hd st,cM,ne_nil iT w1,iT.fw,by omega,by rw[S.iB.len];omega,o4 S.iB iT sB sT (by omega),?_⟩;refine eC (gs:=[("many",.int N),("wide",.int w),("body",au (Mx.mulM B T w)),("left",au L),("left_back",au Lb),("right",au R),("right_back",au Rb)]) s.e (Ts rfl) rfl λ st1 e1 U1=>?_;refine aZ e1 rfl ⟨_,_,w,R,T,rfl,cM,cM,ne_nil iT w1,iT.fw,by omega,by rw[S.iR.len];omega,o4 S.iR iT S.sR sT (by omega),?_⟩;refine eC (gs:=[("many",.int N),("wide",.int w),("body",au (Mx.mulM B T w)),("left",au L),("left_back",au Lb),("right",au (Mx.mulM R T w)),("right_back",au Rb)]) e1 (Ts rfl) rfl λ st2 e2 U2=>?_;refine aZ e2 rfl ⟨_,_,w,Tb,Rb,rfl,cM,cM,ne_nil S.kq w1,S.kq.fw,by omega,by rw[iTb.len];omega,o4 iTb S.kq sTb S.Fz (by omega),?_⟩;refine eC (gs:=[("many",.int N),("wide",.int w),("body",au (Mx.mulM B T w)),("left",au L),("left_back",au Lb),("right",au (Mx.mulM R T w)),("right_back",au (Mx.mulM Tb Rb w))]) e2 (Ts rfl) rfl λ st3 e3 U3=>?_;exact k st3 ⟨e3⟩ (U1.trans (U2.trans U3))
structure Sk(n:Nat)(st st':ae):Prop where
 le:st.length<=st'.length
 fr:∀m,m<st.length->m≠0->m≠n->st'[m]?=st[m]?
 tb:∃f,st'[0]?=some (cS f)
theorem Sk.trans{n:Nat}{st st1 st2:ae}(a:Sk n st st1)(b:Sk n st1 st2):Sk n st st2:=⟨TB a.le b.le,λ m h h0 hn=>(b.fr m (T8 h a.le) h0 hn).trans (a.fr m h h0 hn),b.tb⟩
theorem Sk.of{n:Nat}{st st1 st2:ae}(nz:n≠0)(a:Bk st st1)(b:Us n st1 st2):Sk n st st2:=by
 obtain⟨f,e⟩:=a.tb;exact⟨by have:=a.le;have:=b.len;omega,λ m h h0 hn=>(b.same m hn).trans (a.fr m h h0),f,(b.same 0 (TK nz)).trans e⟩
theorem Si.keep{st st1:ae}{n N w:Nat}{d:D}{L Lb R Rb:List (List Int)}(s:Si st n N w d L Lb R Rb)(nz:n≠0)(a:Bk st st1):Si st1 n N w d L Lb R Rb:=⟨(a.fr n (Tt.mp s.e).1 nz).trans s.e⟩
theorem F6{A:List (List Int)}{N w b:Nat}(hA:Mx.aP N w A)(h:Le A N w b):Mx.fS A N 0 (2^b):=Mx.pH hA h
def fX:bQ:=λ ds st K=>∃(n N w x y:Nat) (d:D) (A B L Lb R Rb:List (List Int)) (f:Bool),ds=[.ref n]/\Si st n N w d L Lb R Rb/\(∀s,fg s d B)/\Mx.Sd A B L Lb R Rb N w x/\1<=N/\N<=8/\w<=8/\Le B N w 200/\(∀t c,Mx.dP B N w t c->Mx.Bh B N w y c)/\x+y<=120000000/\n≠0/\st[0]?=some (cS f)/\∀st' t c,Mx.dP B N w t c->Si st' n N w (au c.A) (Mx.mulM c.U L N) (Mx.mulM Lb (Mx.bG c.C N) N) R Rb->Mx.Sd A c.A (Mx.mulM c.U L N) (Mx.mulM Lb (Mx.bG c.C N) N) R Rb N w (x+y+3)->Sk n st st'->K .ax st'
def iH:List Str:=["self","told"]
def rF:DS:=(az (bJ 1 (aq mF (aa (bN aB "body" (ab 0)) af)))
 (fb (dy aB "turn_left" ji (ab 0) (aa (aj a_ (ab 1) (dC (.int 1))) (aa (aj a_ (ab 1) (dC (.int 2))) af)))))
theorem qQ:Tq fX 1 rF iH:=by
 rintro ds st K ⟨n,N,w,x,y,d,A,B,L,Lb,R,Rb,f,rfl,s,hd,S,n1,n8,w8,sB,hy,hxy,nz,h0,k⟩;refine⟨rfl,?_⟩;have hlo:=F6 S.iB sB;refine aZ s.e rfl ⟨d,N,w,200,60000000,B,f,rfl,hd st,S.iB,n1,by omega,by omega,hlo,by decide,λ p t c hp hC=>hC.FO S.iB hlo n8 hp,h0,λ st1 top c hC Bk1=>?_⟩;have s1:=s.keep nz Bk1;obtain⟨ld,H⟩:=hC.str S.iB hlo (by omega) (Tu _);obtain⟨m1,m2,m3,_,_⟩:=H.tn.MD S.iB;have iU:=H.tn.fm;have iC:=H.tn.fI;have iCt:=Mx.cW iC;have sz:=(hy top c hC).sz;have sU:Le c.U N N y:=λ i j hi hj=>(sz i j hi hj).1;have sC:Le (Mx.bG c.C N) N N y:=λ i j hi hj=>by rw[Mx.cG iC hj hi];exact(sz j i hj hi).2
 refine dm s1.e rfl (aE rfl rfl (aE rfl rfl ⟨n,N,w,x,y,d,A,B,L,Lb,R,Rb,c.U,Mx.bG c.C N,rfl,s1,hd,S,n1,n8,w8,iU,iCt,sU,sC,sB,hxy,λ st2 s2 U2=>?_⟩));have S2:=S.left n8 iU iCt m2 m3 sU sC;rw[m1]at s2 S2;exact k st2 top c hC s2 S2 (Sk.of nz Bk1 U2)
def fe:bQ:=λ ds st K=>∃(n N w x y:Nat) (A B L Lb R Rb:List (List Int)) (f:Bool),ds=[.ref n]/\Si st n N w (au B) L Lb R Rb/\Mx.Sd A B L Lb R Rb N w x/\1<=w/\N<=8/\w<=8/\Le B N w 200/\(∀t c,Mx.dP (Mx.bG B w) w N t c->Mx.Bh (Mx.bG B w) w N y c)/\x+y<=120000000/\n≠0/\st[0]?=some (cS f)/\∀st' t c,Mx.dP (Mx.bG B w) w N t c->Si st' n N w (au (Mx.bG c.A N)) L Lb (Mx.mulM R (Mx.bG c.U w) w) (Mx.mulM c.C Rb w)->Mx.Sd A (Mx.bG c.A N) L Lb (Mx.mulM R (Mx.bG c.U w) w) (Mx.mulM c.C Rb w) N w (x+y+3)->Sk n st st'->K .ax st'
def gn:List Str:=["self","told"]
def pD:DS:=(az (bJ 1 (aq mF (aa (aq fK (aa (bN aB "body" (ab 0)) (aa (bN aB "wide" (ab 0)) af))) af)))
 (fb (dy aB "turn_right" f7 (ab 0) (aa (aq fK (aa (aj a_ (ab 1) (dC (.int 1))) (aa (bN aB "wide" (ab 0)) af))) (aa (aq fK (aa (aj a_ (ab 1) (dC (.int 2))) (aa (bN aB "wide" (ab 0)) af))) af)))))
theorem oC:Tq fe 1 pD gn:=by
 rintro ds st K ⟨n,N,w,x,y,A,B,L,Lb,R,Rb,f,rfl,s,S,w1,n8,w8,sB,hy,hxy,nz,h0,k⟩;refine⟨rfl,?_⟩;have iX:=Mx.cW S.iB;have hlo:=F6 iX (b:=200) λ i j hi hj=>by rw[Mx.cG S.iB hj hi];exact sB j i hj hi
 refine aZ s.e rfl (aZ s.e rfl ⟨_,B,w,rfl,cM,S.iB.fw,by rw[S.iB.len];omega,by omega,?_⟩);refine⟨_,w,N,200,60000000,Mx.bG B w,f,rfl,cM,iX,w1,by omega,by omega,hlo,by decide,λ p t c hp hC=>hC.FO iX hlo w8 hp,h0,λ st1 top c hC Bk1=>?_⟩;have s1:=s.keep nz Bk1;obtain⟨ld,H⟩:=hC.str iX hlo (by omega) (Tu _);obtain⟨m1,_,_,m4,m5⟩:=H.tn.MD iX;have iU:=H.tn.fm;have iC:=H.tn.fI;have iUt:=Mx.cW iU;have sz:=(hy top c hC).sz;have sU:Le (Mx.bG c.U w) w w y:=λ i j hi hj=>by rw[Mx.cG iU hj hi];exact(sz j i hj hi).1
 have sC:Le c.C w w y:=λ i j hi hj=>(sz i j hi hj).2;refine dm s1.e rfl (aE rfl rfl (aZ s1.e rfl ⟨_,c.U,w,rfl,cM,iU.fw,by rw[iU.len];omega,by omega,?_⟩));refine aE rfl rfl (aZ s1.e rfl ⟨_,Mx.bG c.C w,w,rfl,cM,(Mx.cW iC).fw,by rw[(Mx.cW iC).len];omega,by omega,?_⟩);rw[Mx.CT iC];refine⟨n,N,w,x,y,au B,A,B,L,Lb,R,Rb,Mx.bG c.U w,c.C,rfl,s1,λ _=>cM,S,w1,n8,w8,iUt,iC,sU,sC,sB,hxy,λ st2 s2 U2=>?_⟩;have S2:=S.right w8 iUt iC m4 m5 sU sC
 have eB:Mx.mulM B (Mx.bG c.U w) w=Mx.bG c.A N:=by
  rw[<-m1,Mx.Mj iU iX,Mx.CT S.iB]
 rw[eB]at s2 S2;exact k st2 top c hC s2 S2 (Sk.of nz Bk1 U2)
def l7:bQ:=λ ds st K=>∃(B:List (List Int)) (N w:Nat),ds=[au B]/\Mx.aP N w B/\N<=8/\w<=8/\∀b:Bool,(b=true↔Mx.Dg B N w)->K (.bl b) st
def qO:List Str:=["rows","k","row"]
def yI:DS:=(az (ia (vw (aa (ab 0) af)) (gO 1 2) (cZ (dz (aU (a9 oF (aa (cj (vw (aa (ab 2) af)) [none,none,some 1] (gO 0 1) bf (ET (aj gc (ab 1) (dC (.int 0))) (aj gc (ab 0) (ab 2)))) af)))) (a7 (dC (.bl false))) cv))
 (a7 (dC (.bl true))))
theorem Eb{A:List (List Int)}{i:Nat}{d:D}{rest:List D}(hr:d::rest=d8 i ((A.map bj).drop i)):i<A.length/\d= .tup [.int (i:Int),bj (A.getD i [])]/\rest=d8 (i+1) ((A.map bj).drop (i+1)):=by
 rcases VD i A.length with h|h
 . rw[UL (by rw[Tw];exact h),Wq]at hr;unfold d8 at hr;obtain⟨h1,h2⟩:=Ws hr;exact⟨h,by rw[Mx.aJ h];exact h1,h2⟩
 . rw[Vi (by rw[Tw];exact h)]at hr;cases hr
theorem FT{r:List Int}{i:Nat}{d:D}{rest:List D}(hr:d::rest=d8 i ((ao r).drop i)):i<r.length/\d= .tup [.int (i:Int),.int (r.getD i 0)]/\rest=d8 (i+1) ((ao r).drop (i+1)):=by
 rcases VD i r.length with h|h
 . rw[UL (by rw[Tw];exact h),Wq]at hr;unfold d8 at hr;obtain⟨h1,h2⟩:=Ws hr;exact⟨h,by rw[Mx.aJ h];exact h1,h2⟩
 . rw[Vi (by rw[Tw];exact h)]at hr;cases hr
theorem zR{xs:List D}{i:Nat}(hr: []=d8 i (xs.drop i)):xs.length<=i:=by
 rcases VD i xs.length with h|h
 . rw[UL h]at hr;unfold d8 at hr;cases hr
 . exact h
theorem AG{f:Nat->Bool}:∀l:List Nat,fY (l.map λ j=>D.bl (f j))=some (l.map f)
 | []=>rfl
 |a::l=>by rw[Uj,Uj];unfold fY;rw[AG l];rfl
theorem wN:Tq l7 1 yI qO:=by
 rintro ds st K ⟨B,N,w,rfl,iB,n8,w8,k⟩;refine⟨rfl,?_⟩;have lB:=iB.len;refine xF (xs:=B.map bj) rfl λ ok aF=>?_;refine iV (λ rest σ st'=>st=st'/\∃(i:Nat) (v1 v2:Option D),i<=N/\rest=d8 i ((B.map bj).drop i)/\σ=[some (au B),v1,v2]/\∀a c,a<i->c<w->a≠c->Mx.g B a c=0) ?_ ?_ _ _ _ ⟨rfl,0,none,none,T4 _,rfl,rfl,λ a c ha=>absurd ha (UH _)⟩
 . rintro σ st' ⟨rfl,i,v1,v2,hi,hrest,rfl,h⟩;have:=zR hrest;rw[Tw]at this;exact⟨aF _ rfl,k true ⟨λ _ a c ha=>h a c (by omega),λ _=>rfl⟩⟩
 . rintro x rest σ st' ⟨rfl,i,v1,v2,hi,hrest,rfl,h⟩ next
   obtain⟨hiB,rfl,rfl⟩:=Eb hrest;have lr:=iB.row (i:=i) (by omega);refine⟨aF _ rfl,_,rfl,xF (xs:=ao (B.getD i [])) rfl λ ok2 hok2=>⟨aY (by rw[nV,Tw];omega),?_⟩⟩;refine eA (λ rest acc st'=>st=st'/\∃j:Nat,j<=w/\rest=d8 j ((ao (B.getD i [])).drop j)/\acc=(List.range j).map λ c=>D.bl (decide (Mx.g B i c=0\/c=i))) ?_ ?_ _ _ _ ⟨rfl,0,T4 _,rfl,rfl⟩
   . rintro acc st' ⟨rfl,j,hj,hrest,rfl⟩;have:=zR hrest;rw[Tw]at this;have ej:j=w:=by omega
     subst ej;refine⟨hok2 _ rfl,rR (AG _) ?_⟩;cases hb:((List.range j).map λ c=>decide (Mx.g B i c=0\/c=i)).all id with
     |true=>
      refine next _ _ ⟨rfl,i+1,_,_,by omega,rfl,rfl,λ a c ha hc hne=>?_⟩
      by_cases e:a=i
      . subst e;have:=Um.mp hb (decide (Mx.g B a c=0\/c=a)) (T5.mpr ⟨c,Vv.mpr hc,rfl⟩);rcases XF this with z|z
        . exact z
        . exact absurd z.symm hne
      . exact h a c (by omega) hc hne
     |false=>
      refine k false ⟨λ z=>(by cases z),λ dg=>?_⟩;exfalso
      have:((List.range j).map λ c=>decide (Mx.g B i c=0\/c=i)).all id=true:=Um.mpr λ b hb'=>by
       obtain⟨c,hc,rfl⟩:=T5.mp hb';by_cases e:c=i
       . exact Ul (.inr e)
       . exact Ul (.inl (dg i c (by omega) (Vv.mp hc) (TK e)))
      rw[hb]at this;cases this
   . rintro x rest acc st' ⟨rfl,j,hj,hrest,rfl⟩ next2;obtain⟨hjr,rfl,rfl⟩:=FT hrest;refine⟨hok2 _ rfl,_,rfl,?_⟩;have fin:∀b,b=decide (Mx.g B i j=0\/j=i)->(List.range j).map (λ c=>D.bl (decide (Mx.g B i c=0\/c=i)))++[D.bl b]=(List.range (j+1)).map λ c=>D.bl (decide (Mx.g B i c=0\/c=i)):=λ b e=>by rw[Xd,VX,e];rfl
     refine eq2 (λ z=>?_) λ z=>eq2 (λ z2=>?_) λ z2=>?_
     . show bO _ _ _ _ _ _ _ _ _;rw[fin true (Ul (.inl z)).symm];exact next2 _ _ ⟨rfl,j+1,by omega,rfl,rfl⟩
     . show bO _ _ _ _ _ _ _ _ _;rw[fin true (Ul (.inr (by omega))).symm];exact next2 _ _ ⟨rfl,j+1,by omega,rfl,rfl⟩
     . show bO _ _ _ _ _ _ _ _ _;rw[fin false (T6 (λ y=>y.elim z λ y=>z2 (by omega))).symm];exact next2 _ _ ⟨rfl,j+1,by omega,rfl,rfl⟩
def i8:bQ:=λ ds st K=>∃(n N w x y:Nat) (d:D) (A B L Lb R Rb:List (List Int)) (Q:Nat->List (List Int)->Prop) (f:Bool),ds=[.ref n]/\Si st n N w d L Lb R Rb/\(∀s,fg s d B)/\Mx.Sd A B L Lb R Rb N w x/\1<=N/\1<=w/\N<=8/\w<=8/\Mx.F9 B N w y Q/\x+2*y<=100000000/\n≠0/\st[0]?=some (cS f)/\∀st' r M B' L' Lb' R' Rb',r<=8->Q r M->Mx.Lo M N w r->Mx.Lo B' N w r->Mx.Dg B' N w->(Mx.Pr r λ q=>Mx.g B' q q)<=((2^172:Nat):Int)->(Mx.Dg M N w->B'=M)->Si st' n N w (au B') L' Lb' R' Rb'->Mx.Sd A B' L' Lb' R' Rb' N w (x+2*y+700000)->Sk n st st'->K .ax st'
def kE:List Str:=["self"]
def w_:DS:=(az (fb (dy aB "stand_rows" fX (ab 0) af))
 (az (fb (dy aB "stand_columns" fe (ab 0) af))
 (vm (dz (aU (aq l7 (aa (bN aB "body" (ab 0)) af)))) (az (fb (dy aB "stand_rows" fX (ab 0) af))
 (fb (dy aB "stand_columns" fe (ab 0) af))))))
theorem vE:Tq i8 1 w_ kE:=by
 rintro ds st K ⟨n,N,w,x,y,d,A,B,L,Lb,R,Rb,Q,f,rfl,s,hd,S,n1,w1,n8,w8,T,hxy,nz,h0,k⟩;refine⟨rfl,?_⟩;refine dm s.e rfl ⟨n,N,w,x,y,d,A,B,L,Lb,R,Rb,f,rfl,s,hd,S,n1,n8,w8,T.low,T.s1,by omega,nz,h0,λ st1 t1 c1 C1 s1 S1 K1=>?_⟩;obtain⟨f1,h1⟩:=K1.tb;refine dm s1.e rfl ⟨n,N,w,x+y+3,y,A,c1.A,_,_,R,Rb,f1,rfl,s1,S1,w1,n8,w8,T.a1 t1 c1 C1,T.s2 t1 c1 C1,by omega,nz,h1,λ st2 t2 c2 C2 s2 S2 K2=>?_⟩;obtain⟨r,r8,LM,hM,q⟩:=T.lo t1 c1 C1 t2 c2 C2;have K12:=K1.trans K2;generalize Mx.bG c2.A N=M at s2 S2 LM hM q;refine⟨λ m σ st'=>∃(B' L' Lb' R' Rb':List (List Int)) (t x':Nat),σ=[some (.ref n)]/\Mx.Lo B' N w r/\(Mx.Pr r λ q=>Mx.g B' q q)<=((2^172:Nat):Int)/\t<=r/\Mx.Cl B' r t/\m=Mx.lf B' r t 172/\x'+400*m<=x+2*y+700000/\(B'=M\/¬Mx.Dg M N w)/\Si st' n N w (au B') L' Lb' R' Rb'/\Mx.Sd A B' L' Lb' R' Rb' N w x'/\Sk n st st',⟨_,M,_,_,_,_,0,_,rfl,LM,hM,T4 _,λ i j hj=>absurd hj (UH _),rfl,?_,.inl rfl,s2,S2,K12⟩,?_⟩
 . have:=Mx.QV (t:=0) LM r8 hM;omega
 . rintro m σ st3 ⟨B',L',Lb',R',Rb',t,x',rfl,LB,hB,ht,cl,rfl,hx,hq,s3,S3,K3⟩;refine aZ s3.e rfl ⟨B',N,w,rfl,S3.iB,n8,w8,λ b hb=>?_⟩;cases b with
   |true=>exact k st3 r M B' L' Lb' R' Rb' r8 q LM LB (hb.mp rfl) hB (λ dM=>hq.elim id λ z=>absurd dM z) s3 (S3.mono (by omega)) K3
   |false=>
    have nd:¬Mx.Dg B' N w:=λ z=>by have:=hb.mpr z;cases this
    have htr:t<r:=Nat.lt_of_le_of_ne ht λ z=>nd (LB.dg (by rw[<-z];rw[z]at cl⊢;exact cl));have T2:=LB.again n8 w8 hB;obtain⟨f3,h3⟩:=K3.tb;refine dj (dm s3.e rfl ⟨n,N,w,x',180,_,A,B',L',Lb',R',Rb',f3,rfl,s3,λ _=>cM,S3,n1,n8,w8,T2.low,T2.s1,by omega,nz,h3,λ st4 t4 c4 C4 s4 S4 K4=>?_⟩);obtain⟨f4,h4⟩:=K4.tb;refine dm s4.e rfl ⟨n,N,w,x'+180+3,180,A,c4.A,_,_,R',Rb',f4,rfl,s4,S4,w1,n8,w8,T2.a1 t4 c4 C4,T2.s2 t4 c4 C4,by omega,nz,h4,λ st5 t5 c5 C5 s5 S5 K5=>?_⟩;obtain⟨r',_,LM2,hM2,er,hl⟩:=T2.lo t4 c4 C4 t5 c5 C5;subst er;obtain⟨t',ht',cl',hlt⟩:=hl t htr cl;refine⟨_,hlt,_,_,_,_,_,t',_,rfl,LM2,hM2,ht',cl',rfl,?_,.inr ?_,s5,S5,K3.trans (K4.trans K5)⟩
    . omega
    . rcases hq with rfl|z
      . exact nd
      . exact z
def ij:bQ:=λ ds st K=>∃(n k p:Nat) (x:Int),ds=[.int n,.int k,.int p,.int x]/\n<=8/\k<n/\p<n/\∀st',Ext st st'->K (au (Mx.ub n k p x)) st'
def nU:List Str:=["n","k","place","number","rows"]
def vQ:DS:=(az (bJ 4 (jq (c9 (aq dQ (aa (ab 0) af))) [none] (aK 0) bf (a9 m7 (aa (ab 0) af))))
 (az (eK (aj a_ (ab 4) (ab 1)) (ab 2) (ab 3))
 (a7 (aq jP (aa (ab 4) af)))))
theorem KO{n k p:Nat}{x:Int}(hk:k<n)(hp:p<n):(Mx.units n).set k (((Mx.units n).getD k []).set p x)=Mx.ub n k p x:=by
 have iU:=Mx.bI n;have lU:=iU.len;have lr:=iU.row hk
 have is:Mx.aP n n ((Mx.units n).set k (((Mx.units n).getD k []).set p x)):=⟨by rw[TQ];exact lU,λ r hr=>by
  rcases UQ hr with h|h
  . exact iU.fw r h
  . rw[h,TQ];exact lr⟩
 refine is.ext Mx.kj λ i j hi hj=>?_;unfold Mx.ub;rw[Mx.mH hi hj];unfold Mx.g
 have gs:((Mx.units n).set k (((Mx.units n).getD k []).set p x)).getD i []=if i=k then((Mx.units n).getD k []).set p x else(Mx.units n).getD i []:=by
  rw[Mx.aJ (by rw[TQ];omega)];by_cases h:i=k
  . subst h;rw[Wl,TC rfl]
  . rw[Ww (TK h),Tv h,Mx.aJ (show i<(Mx.units n).length by omega)]
 rw[gs];by_cases h:i=k
 . subst h;rw[TC rfl];by_cases h2:j=p
   . subst h2;rw[Mx.aJ (by rw[TQ];omega),Wl,TC ⟨rfl,rfl⟩]
   . rw[Mx.aJ (by rw[TQ];omega),Ww (TK h2),<-Mx.aJ (d:=0),Tv λ z=>h2 z.2];exact Mx.cK hi hj
 . rw[Tv h,Tv λ z=>h z.1];exact Mx.cK hi hj
abbrev k_(r:List Int):Cell:= .lst (ao r)
def fh(b n:Nat):List D:=(List.range n).map λ i=> .ref (b+i)
theorem xO{b n:Nat}:fh b n++[.ref (b+n)]=fh b (n+1):=by unfold fh;rw[Xd,VX];rfl
theorem sS{st:ae}:∀ {A:List (List Int)} {b:Nat},(∀i r,A[i]?=some r->st[b+i]?=some (k_ r))->bU st (fh b A.length) A
 | [],_,_=>trivial
 |r::A,b,h=>by
  have e:fh b (r::A).length= .ref b::fh (b+1) A.length:=by
   unfold fh;rw[Uv,Uq,Uj,UD,YG];congr 1;exact UK λ i _=>by show D.ref (b+(i+1))=D.ref (b+1+i);congr 1;omega
  rw[e]
  exact⟨aX (h 0 r rfl),sS λ i q hq=>by
   have:=h (i+1) q hq;rwa [show b+(i+1)=b+1+i by omega]at this⟩
theorem uQ:Tq ij 4 vQ nU:=by
 rintro ds st K ⟨n,k,p,x,rfl,n8,hk,hp,kk⟩;refine⟨rfl,⟨n,rfl,by omega,?_⟩⟩;have iU:=Mx.bI n;have lU:=iU.len;refine fz ⟨aY (by rw[Tw,lU];omega),?_⟩;refine eA (λ rest acc st'=>∃A1 A2:List (List Int),A1++A2=Mx.units n/\rest=A2.map bj/\acc=fh st.length A1.length/\st'=st++A1.map k_) ?_ ?_ _ _ _ ⟨[],Mx.units n,rfl,rfl,rfl,by simp⟩;rotate_left
 . rintro d rest acc st' ⟨A1,A2,he,hr,rfl,rfl⟩ next
   match A2,hr with
   |r::A2,hr=>
    rw[Uj,VB]at hr;obtain⟨rfl,rfl⟩:=hr;refine⟨trivial,_,rfl,uZ rfl ?_⟩;show bO _ _ _ _ _ _ _ _ _;rw[Ud,Tw,xO];refine next _ _ ⟨A1++[r],A2,by rw[<-he];simp,rfl,by simp,by simp⟩
 rintro acc st' ⟨A1,A2,he,hr,rfl,rfl⟩;match A2,hr with
 | [],_=>
   rw[Vb]at he;subst he;refine⟨trivial,?_⟩;generalize hs:st++(Mx.units n).map k_++[Cell.lst (fh st.length (Mx.units n).length)]=st1;have l1:(st++(Mx.units n).map k_).length=st.length+n:=by simp[lU]
   have er:st1[st.length+n]?=some (.lst (fh st.length n)):=by
    rw[<-hs,<-l1,Uc (Tu _),Vg,lU];rfl
   have ec:∀i r,(Mx.units n)[i]?=some r->st1[st.length+i]?=some (k_ r):=λ i r hi=>by
    have hil:=(Tt.mp hi).1;rw[<-hs,TF (by rw[l1];omega),Uc (by omega),XW,T7,hi];rfl
   have X1:Ext st st1:=by rw[<-hs,VH];exact Ext.push
   rw[l1];clear hs;have hk':k<(Mx.units n).length:=by omega
   have ek:=ec k _ (TM hk');rw[<-Mx.aJ (d:=[]) hk']at ek;have lr:=iU.row hk;have at1:d6 (fh st.length n) (k:Int)=some (.ref (st.length+k)):=gB (by unfold fh;rw[T7,Xf hk];rfl);refine aE (aX er) at1 ?_;show uJ (.ref (st.length+k)) (.int p) (.int x) st1 _;refine eh ek (rf (by omega) (by rw[Tw,TZ];omega)) ?_;rw[TZ,show(ao ((Mx.units n).getD k [])).set p (.int x)=ao (((Mx.units n).getD k []).set p x)from YF.symm];refine⟨_,Mx.ub n k p x,rfl,⟨fh st.length n,aX ((Tx (by omega)).trans er),?_⟩,by rw[Mx.kj.len];omega,kk _ (X1.set (by omega))⟩;rw[<-KO hk hp];have:=sS (st:=st1.set (st.length+k) (.lst (ao (((Mx.units n).getD k []).set p x)))) (A:=(Mx.units n).set k (((Mx.units n).getD k []).set p x)) (b:=st.length) λ i r hi=>?_
   . rwa [TQ,lU]at this
   . by_cases h:k=i
     . subst h;rw[TJ hk']at hi;cases hi;rw[TJ (Tt.mp ek).1]
     . rw[Tx h]at hi;rw[Tx (by omega)];exact ec i r hi
def ma:bQ:=λ ds st K=>∃(n N w x r k o:Nat) (A B L Lb R Rb:List (List Int)) (f:Bool),ds=[.ref n,.int k,.int o]/\Si st n N w (au B) L Lb R Rb/\Mx.Sd A B L Lb R Rb N w x/\1<=N/\N<=8/\w<=8/\r<=8/\Mx.Lo B N w r/\Mx.Dg B N w/\(Mx.Pr r λ q=>Mx.g B q q)<=((2^172:Nat):Int)/\k<o/\o<r/\x<=90000000/\n≠0/\st[0]?=some (cS f)/\∀st' B' L' Lb' R' Rb',Mx.Lo B' N w r->Mx.Dg B' N w->(Mx.Pr r λ q=>Mx.g B' q q)<=((2^172:Nat):Int)->(∀q,q<r->Mx.g B' q q=if q=k then((Int.gcd (Mx.g B k k) (Mx.g B o o):Nat):Int)else if q=o then((Int.lcm (Mx.g B k k) (Mx.g B o o):Nat):Int)else Mx.g B q q)->Si st' n N w (au B') L' Lb' R' Rb'->Mx.Sd A B' L' Lb' R' Rb' N w (x+701000)->Sk n st st'->K .ax st'
def mm:List Str:=["self","k","other"]
def y8:DS:=(az (fb (dy aB "turn_right" f7 (ab 0) (aa (aq ij (aa (bN aB "wide" (ab 0)) (aa (ab 2) (aa (ab 1) (aa (dC (.int 1)) af))))) (aa (aq ij (aa (bN aB "wide" (ab 0)) (aa (ab 2) (aa (ab 1) (aa (jc fF (dC (.int 1))) af))))) af))))
 (fb (dy aB "settle" i8 (ab 0) af)))
theorem Sk.ext{n:Nat}{st st1 st2:ae}(nz:n≠0)(h0:∃f,st[0]?=some (cS f))(hn:n<st.length)(a:Ext st st1)(b:Us n st1 st2):Sk n st st2:=by
 obtain⟨f,e⟩:=h0;have l0:=(Tt.mp e).1;exact⟨by have:=a.len;have:=b.len;omega,λ m h h0 hn=>(b.same m hn).trans (a.same m h),f,(b.same 0 (TK nz)).trans ((a.same 0 l0).trans e)⟩
theorem xI:Tq ma 3 y8 mm:=by
 rintro ds st K ⟨n,N,w,x,r,k,o,A,B,L,Lb,R,Rb,f,rfl,s,S,n1,n8,w8,r8,LB,dg,hM,hko,ho,hx,nz,h0,kk⟩;refine⟨rfl,?_⟩;have rW:=LB.rW;have rN:=LB.rN;have hn:=(Tt.mp s.e).1;refine dm s.e rfl (aZ s.e rfl ⟨w,o,k,1,rfl,w8,by omega,by omega,λ st1 X1=>?_⟩);have s1:Si st1 n N w (au B) L Lb R Rb:=⟨(X1.same n hn).trans s.e⟩
 refine aZ s1.e rfl (jw ⟨w,o,k,-1,rfl,w8,by omega,by omega,λ st2 X2=>?_⟩);have s2:Si st2 n N w (au B) L Lb R Rb:=⟨((X1.trans X2).same n hn).trans s.e⟩
 have sB:Le B N w 200:=λ i j hi hj=>Mx.kZ (LB.abs hM i j hi hj) (by decide);have a1:Le (Mx.ub w o k 1) w w 0:=λ i j hi hj=>Mx.GP (by decide) hi hj;have a2:Le (Mx.ub w o k (-1)) w w 0:=λ i j hi hj=>Mx.GP (by decide) hi hj;refine⟨n,N,w,x,0,_,A,B,L,Lb,R,Rb,Mx.ub w o k 1,Mx.ub w o k (-1),rfl,s2,λ _=>cM,S,by omega,n8,w8,Mx.kj,Mx.kj,a1,a2,sB,by omega,λ st3 s3 U3=>?_⟩;have b1:=Mx.Cn (n:=w) (k:=o) (p:=k) (x:=1) (by omega) (by omega) (by omega);have b2:=Mx.Cn (n:=w) (k:=o) (p:=k) (x:= -1) (by omega) (by omega) (by omega);have S3:=S.right w8 Mx.kj Mx.kj b1 b2 a1 a2;have K3:=Sk.ext nz ⟨f,h0⟩ hn (X1.trans X2) U3;obtain⟨f3,h3⟩:=K3.tb;refine dm s3.e rfl ⟨n,N,w,x+0+3,180,_,A,_,L,Lb,_,_,_,f3,rfl,s3,λ _=>cM,S3,n1,by omega,n8,w8,Mx.HB LB n8 w8 hM dg hko ho,by omega,nz,h3,λ st4 r' M B' L' Lb' R' Rb' _ q _ LB' dg' hM' hd s4 S4 K4=>?_⟩;obtain⟨er,dM,qM⟩:=q;subst er;have e:=hd dM;subst e;exact kk st4 _ L' Lb' R' Rb' LB' dg' hM' qM s4 (S4.mono (by omega)) (K3.trans K4)
def dg(B:List (List Int))(r:Nat):List Int:=(List.range r).map λ q=>Mx.g B q q
def kl:bQ:=λ ds st K=>∃(B:List (List Int)) (N w r:Nat),ds=[au B]/\Mx.Lo B N w r/\1<=N/\N<=8/\w<=8/\K (bj (dg B r)) st
def rB:List Str:=["body","least"]
def zS:DS:=(az (bJ 1 (a9 r_ (aa (a9 cY (aa (ab 0) af)) (aa (a9 cY (aa (aj a_ (ab 0) (dC (.int 0))) af)) af))))
 (a7 (a9 cy (aa (cj (cB (aa (ab 1) af)) [none,some 0] (aK 0) (aU (aj mw (aj a_ (aj a_ (ab 1) (ab 0)) (ab 0)) (dC (.int 0)))) (aj a_ (aj a_ (ab 1) (ab 0)) (ab 0))) af))))
theorem i9{A:List (List Int)}{j:Nat}(h:j<A.length):d6 (A.map bj) (j:Int)=some (bj (A.getD j [])):=by
 refine gB ?_;rw[T7,TM h,Mx.aJ h];rfl
theorem yR:Tq kl 1 zS rB:=by
 rintro ds st K ⟨B,N,w,r,rfl,L,n1,n8,w8,k⟩;refine⟨rfl,?_⟩;have lB:=L.is.len;have rN:=L.rN;have rW:=L.rW;refine cq rfl (aE rfl (i9 (j:=0) (by omega)) (cq rfl (vC ?_)));rw[Tw,Tw,lB,L.is.row (i:=0) (by omega)]
 obtain⟨m,em,hm1,hm2,hm3⟩:∃m:Nat,(if(w:Int)<(N:Int)then(w:Int)else(N:Int))=(m:Int)/\r<=m/\m<=N/\m<=w:=by
  by_cases h:(w:Int)<(N:Int)
  . exact⟨w,TC h,rW,by omega,by omega⟩
  . exact⟨N,Tv h,rN,by omega,by omega⟩
 rw[em];refine cN ⟨by omega,by omega⟩ ⟨aY (by rw[cw];omega),?_⟩;rw[TZ];have at2:∀j,j<m->d6 (ao (B.getD j [])) (j:Int)=some (.int (Mx.g B j j)):=λ j hj=>gw (by rw[L.is.row (by omega)];omega);refine eA (λ rest acc st'=>st=st'/\∃j:Nat,j<=m/\rest=(List.range (m-j)).map (λ i=>D.int (((j+i:Nat):Int)))/\acc=ao (dg B (min j r))) ?_ ?_ _ _ _ ⟨rfl,0,T4 _,by unfold cX;simp,by rw[Nat.zero_min];rfl⟩
 . rintro acc st' ⟨rfl,j,hj,hr,rfl⟩
   have:m-j=0:=by
    cases q:m-j with
    |zero=>rfl
    |succ i=>rw[q,Uq]at hr;cases hr
   refine⟨trivial,cf rfl ?_⟩;rw[show min j r=r by omega];exact k
 . rintro d rest acc st' ⟨rfl,j,hj,hr,rfl⟩ next
   have hjm:j<m:=by
    rcases VD j m with h|h
    . exact h
    . rw[show m-j=0 by omega]at hr;cases hr
   rw[show m-j=(m-(j+1))+1 by omega,Uq,Uj,UD,VB]at hr;obtain⟨rfl,rfl⟩:=hr
   have erest:(List.map ((λ i=>D.int (((j+i:Nat):Int)))∘Nat.succ) (List.range (m-(j+1))))=(List.range (m-(j+1))).map (λ i=>D.int (((j+1+i:Nat):Int))):=UK λ i _=>by
    show D.int (((j+(i+1):Nat):Int))=D.int (((j+1+i:Nat):Int));congr 2;omega
   rw[YG];refine⟨trivial,_,rfl,aE rfl (i9 (by omega)) (aE rfl (at2 j hjm) (ne2 (λ h=>?_) λ h=>?_))⟩
   . have hjr:j<r:=XS λ z=>h (L.out j j (by omega) (by omega) (.inl z));refine dj (aE rfl (i9 (by omega)) (aE rfl (at2 j hjm) ?_));show bO _ _ _ _ _ _ _ _ _;rw[ints_app];refine next _ _ ⟨rfl,j+1,hjm,erest,?_⟩
     rw[show min (j+1) r=j+1 by omega,show min j r=j by omega];unfold dg;rw[Xd,VX];rfl
   . have hjr:r<=j:=UR λ z=>by have:=L.pos j z;omega
     refine next _ _ ⟨rfl,j+1,hjm,erest,?_⟩
     rw[show min (j+1) r=r by omega,show min j r=r by omega]
structure Dv(A B L Lb R Rb:List (List Int))(N w r:Nat):Prop where
 lo:Mx.Lo B N w r
 dg:Mx.Dg B N w
 pr:(Mx.Pr r λ q=>Mx.g B q q)<=((2^172:Nat):Int)
 ch:∀i j,i<j->j<r->Mx.g B i i∣Mx.g B j j
 sd:Mx.Sd A B L Lb R Rb N w 62000000
def mE:bQ:=λ ds st K=>∃(d:D) (A:List (List Int)) (N w:Nat) (f:Bool),ds=[d]/\(∀s,fg s d A)/\Mx.aP N w A/\1<=N/\1<=w/\N<=8/\w<=8/\((N<=4/\∀i j,i<N->j<w->(Mx.g A i j).natAbs<=2^40)\/∀i j,i<N->j<w->(Mx.g A i j).natAbs<=2^6)/\st[0]?=some (cS f)/\∀st' B L Lb R Rb r,Dv A B L Lb R Rb N w r->Bk st st'->K (.tup [bj (dg B r),au L,au Lb,au R,au Rb]) st'
def vB:List Str:=["rows","sides","many","k","other"]
def Dx:DS:=(az (bJ 1 (zf aB jK (aa (ab 0) af)))
 (az (fb (dy aB "settle" i8 (ab 1) af))
 (az (bJ 2 (a9 cY (aa (aq kl (aa (bN aB "body" (ab 1)) af)) af)))
 (az (ia (cB (aa (ab 2) af)) (aK 3) (ia (pe (aa (aj bT (ab 3) (dC (.int 1))) (aa (ab 2) af))) (aK 4) (cZ (aU (aj mw (aj kb (aj a_ (aj a_ (bN aB "body" (ab 1)) (ab 4)) (ab 4)) (aj a_ (aj a_ (bN aB "body" (ab 1)) (ab 3)) (ab 3))) (dC (.int 0)))) (fb (dy aB "merge" ma (ab 1) (aa (ab 3) (aa (ab 4) af)))) cv)))
 (a7 (cL (aa (aq kl (aa (bN aB "body" (ab 1)) af)) (aa (bN aB "left" (ab 1)) (aa (bN aB "left_back" (ab 1)) (aa (bN aB "right" (ab 1)) (aa (bN aB "right_back" (ab 1)) af)))))))))))
theorem FA{m:Int}(h0:0<m)(h:m<2^62):m.natAbs.log2<9000:=by
 have:m.natAbs.log2<62:=(Yd (by omega)).mpr (by omega);omega
theorem Be{B:List (List Int)}{r:Nat}:(dg B r).length=r:=by unfold dg;simp
theorem BO:Tq mE 1 Dx vB:=by
 rintro ds st K ⟨d,A,N,w,f,rfl,hd,hA,n1,w1,n8,w8,hb,h0,k⟩;refine⟨rfl,?_⟩;have l0:=(Tt.mp h0).1;refine⟨st.length,N,w,d,A,rfl,by simp,hd,hA,n1,n8,w8,λ st1 s1 U1=>⟨rfl,?_⟩⟩;have nz:st.length≠0:=by omega
 have h1:st1[0]?=some (cS f):=by rw[U1.same 0 (by omega),TF l0];exact h0
 refine dm s1.e rfl ⟨st.length,N,w,0,10000000,d,A,A,_,_,_,_,λ _ _=>True,f,rfl,s1,hd,Mx.Sd.start hA,n1,w1,n8,w8,Mx.IQ hA n8 w8 hb,by omega,nz,h1,λ st2 r M B L Lb R Rb r8 _ _ LB dB pB _ s2 S2 K2=>?_⟩;refine aZ s2.e rfl ⟨B,N,w,r,rfl,LB,n1,n8,w8,cq rfl ?_⟩;rw[Tw,Be];have K02:Sk st.length st st2:=⟨by have:=K2.le;have:=U1.len;simp at this;omega,λ m hm hm0 hmn=>(K2.fr m (by have:=U1.len;simp at this;omega) hm0 hmn).trans ((U1.same m hmn).trans (TF hm)),K2.tb⟩
 clear K2 U1 h1 s1;try dsimp only[af]
 refine oS (A:=ia _ _ _) (λ σ st'=>∃(B L Lb R Rb:List (List Int)) (v3 v4:Option D),σ=[some d,some (.ref st.length),some (.int r),v3,v4]/\Dv A B L Lb R Rb N w r/\Si st' st.length N w (au B) L Lb R Rb/\Sk st.length st st') (λ nx hnx=>?_) ?_
 . refine cN ⟨by omega,by omega⟩ ?_;rw[TZ];refine gI r (λ q σ st'=>∃(B L Lb R Rb:List (List Int)) (v3 v4:Option D),σ=[some d,some (.ref st.length),some (.int r),v3,v4]/\Mx.Lo B N w r/\Mx.Dg B N w/\(Mx.Pr r λ q=>Mx.g B q q)<=((2^172:Nat):Int)/\(∀i j,i<q->i<j->j<r->Mx.g B i i∣Mx.g B j j)/\Mx.Sd A B L Lb R Rb N w (20700000+4910000*q)/\Si st' st.length N w (au B) L Lb R Rb/\Sk st.length st st') ?_ ?_ ⟨B,L,Lb,R,Rb,none,none,rfl,LB,dB,pB,λ i j hi=>absurd hi (UH _),S2.mono (by omega),s2,K02⟩
   . rintro σ st' ⟨B,L,Lb,R,Rb,v3,v4,rfl,LB,dB,pB,ch,S,s,K'⟩;exact hnx _ _ ⟨B,L,Lb,R,Rb,v3,v4,rfl,⟨LB,dB,pB,λ i j hij hj=>ch i j (by omega) hij hj,S.mono (by omega)⟩,s,K'⟩
   . clear LB dB pB S2 s2 K02;rintro q σ st3 rest hq ⟨B,L,Lb,R,Rb,v3,v4,rfl,LB,dB,pB,ch,S,s3,K3⟩ next
     refine⟨_,rfl,dW (Dp ⟨by omega,by omega,by omega,by omega⟩ ?_)⟩;have er:((r:Int)-((q:Int)+1)).toNat=r-(q+1):=by omega
     rw[er];refine iV (λ rest2 σ st'=>∃(o:Nat) (B L Lb R Rb:List (List Int)) (v4:Option D),q<o/\o<=r/\rest2=(List.range (r-o)).map (λ i=>D.int (((o+i:Nat):Int)))/\σ=[some d,some (.ref st.length),some (.int r),some (.int (q:Int)),v4]/\Mx.Lo B N w r/\Mx.Dg B N w/\(Mx.Pr r λ q=>Mx.g B q q)<=((2^172:Nat):Int)/\(∀i j,i<q->i<j->j<r->Mx.g B i i∣Mx.g B j j)/\(∀j,q<j->j<o->Mx.g B q q∣Mx.g B j j)/\Mx.Sd A B L Lb R Rb N w (20700000+4910000*q+701000*(o-(q+1)))/\Si st' st.length N w (au B) L Lb R Rb/\Sk st.length st st') ?_ ?_ _ _ _ ⟨q+1,B,L,Lb,R,Rb,v4,by omega,hq,?_,rfl,LB,dB,pB,ch,λ j h1 h2=>absurd h1 (by omega),by rw[Vg];exact S,s3,K3⟩
     . clear LB dB pB ch S s3 K3 B L Lb R Rb;rintro σ st4 ⟨o,B,L,Lb,R,Rb,v4,h1,h2,hr,rfl,LB,dB,pB,ch,ch2,S,s4,K4⟩
       have eo:r-o=0:=by
        cases z:r-o with
        |zero=>rfl
        |succ i=>rw[z,Uq]at hr;cases hr
       refine⟨trivial,next _ _ ⟨B,L,Lb,R,Rb,_,_,rfl,LB,dB,pB,λ i j hi hij hj=>?_,S.mono (by omega),s4,K4⟩⟩;by_cases z:i=q
       . subst z;exact ch2 j hij (by omega)
       . exact ch i j (by omega) hij hj
     . clear LB dB pB ch S s3 K3 B L Lb R Rb;rintro x rest2 σ st4 ⟨o,B,L,Lb,R,Rb,v4,h1,h2,hr,rfl,LB,dB,pB,ch,ch2,S,s4,K4⟩ next2
       have ho:o<r:=by
        rcases VD o r with h|h
        . exact h
        . rw[show r-o=0 by omega]at hr;cases hr
       rw[show r-o=(r-(o+1))+1 by omega,Uq,Uj,UD,VB]at hr;obtain⟨rfl,rfl⟩:=hr
       have erest:(List.map ((λ i=>D.int (((o+i:Nat):Int)))∘Nat.succ) (List.range (r-(o+1))))=(List.range (r-(o+1))).map (λ i=>D.int (((o+1+i:Nat):Int))):=UK λ i _=>by
        show D.int (((o+(i+1):Nat):Int))=D.int (((o+1+i:Nat):Int));congr 2;omega
       rw[YG];have rN:=LB.rN;have rW:=LB.rW;have lB:=LB.is.len;have at2:∀j,j<r->d6 (ao (B.getD j [])) (j:Int)=some (.int (Mx.g B j j)):=λ j hj=>gw (by rw[LB.is.row (by omega)];omega);have hpq:=LB.pos q hq;refine⟨trivial,_,rfl,?_⟩;refine aZ s4.e rfl (aE rfl (i9 (by omega)) (aE rfl (at2 o ho) (aZ s4.e rfl (aE rfl (i9 (by omega)) (aE rfl (at2 q hq) (jx (by omega) (ne2 (λ hne=>dj ?_) λ he=>?_)))))))
       . obtain⟨f4,h4⟩:=K4.tb;refine dm s4.e rfl ⟨st.length,N,w,_,r,q,o,A,B,L,Lb,R,Rb,f4,rfl,s4,S,n1,n8,w8,r8,LB,dB,pB,h1,ho,by omega,nz,h4,λ st5 B' L' Lb' R' Rb' LB' dB' pB' gv s5 S5 K5=>?_⟩;have gl:=Int.gcd_dvd_left (Mx.g B q q) (Mx.g B o o);have gr:=XE (Mx.g B q q) (Mx.g B o o);have lr:=Int.dvd_lcm_right (Mx.g B q q) (Mx.g B o o);refine next2 _ _ ⟨o+1,B',L',Lb',R',Rb',_,by omega,ho,erest,rfl,LB',dB',pB',λ i j hi hij hj=>?_,λ j hqj hjo=>?_,S5.mono (by omega),s5,K4.trans K5⟩
         . rw[gv i (by omega),gv j hj,Tv (by omega),Tv (by omega)];by_cases e1:j=q
           . rw[TC e1];exact Int.dvd_coe_gcd (ch i q hi (by omega) hq) (ch i o hi (by omega) ho)
           . rw[Tv e1];by_cases e2:j=o
             . rw[TC e2];exact V6 (ch i o hi (by omega) ho) lr
             . rw[Tv e2];exact ch i j hi hij hj
         . rw[gv q hq,gv j (by omega),TC rfl,Tv (by omega)];by_cases e2:j=o
           . rw[TC e2];exact V6 gr lr
           . rw[Tv e2];exact V6 gl (ch2 j hqj (by omega))
       . refine next2 _ _ ⟨o+1,B,L,Lb,R,Rb,_,by omega,ho,erest,rfl,LB,dB,pB,ch,λ j hqj hjo=>?_,S.mono (by omega),s4,K4⟩;by_cases e2:j=o
         . rw[e2];exact Int.dvd_of_fmod_eq_zero he
         . exact ch2 j hqj (by omega)
     . unfold cX;exact UK λ i _=>by congr 1
 . rintro σ st3 ⟨B,L,Lb,R,Rb,v3,v4,rfl,dv,s3,K3⟩;refine aZ s3.e rfl ⟨B,N,w,r,rfl,dv.lo,n1,n8,w8,?_⟩;refine aZ s3.e rfl (aZ s3.e rfl (aZ s3.e rfl (aZ s3.e rfl ⟨Ts rfl,?_⟩)));exact k st3 B L Lb R Rb r dv ⟨K3.le,λ m hm h0=>K3.fr m hm h0 (by omega),K3.tb⟩
def nL:Int->List D->Bool
 |_,[]=>true
 |a,.int i::xs=>decide (0<i)&&(decide (i.fmod a=0)&&nL i xs)
 |_,_::_=>false
def t9(x:D)(m:Nat):Bool:=match items? [] x with
 |some xs=>decide (xs.length<=m)&&nL 1 xs
 |none=>false
def kI:bQ:=λ ds st K=>∃(x:D) (m:Nat),ds=[x,.int m]/\fV x/\K (.bl (t9 x m)) st
def pj:List Str:=["thing","most","ahead","number"]
def w4:DS:=(az (cZ (jm (dz (aU (aq g7 (aa (ab 0) af)))) (aU (aj oY (a9 cY (aa (ab 0) af)) (ab 1)))) (a7 (dC (.bl false))) cv)
 (az (bJ 2 (dC (.int 1)))
 (az (ia (c9 (ab 0)) (aK 3) (az (cZ (jm (dz (aU (aq ll (aa (ab 3) af)))) (jm (aU (aj ym (ab 3) (dC (.int 0)))) (aU (aj mw (aj kb (ab 3) (ab 2)) (dC (.int 0)))))) (a7 (dC (.bl false))) cv)
 (bJ 2 (ab 3))))
 (a7 (dC (.bl true))))))
theorem pN{d:D}(h:isInt d=true):∃i,d= .int i:=by
 cases d<;>first|exact⟨_,rfl⟩|cases h
theorem wI{a:Int}{d:D}{xs:List D}(h:isInt d=false):nL a (d::xs)=false:=by
 cases d<;>first|rfl|cases h
theorem mP{a i:Int}{xs:List D}:nL a (.int i::xs)=(decide (0<i)&&(decide (i.fmod a=0)&&nL i xs)):=by rw[nL]
theorem wb:Tq kI 2 w4 pj:=by
 rintro ds st K ⟨x,m,rfl,hx,k⟩;refine⟨rfl,?_⟩;refine⟨x,rfl,hx.any st,?_⟩;unfold t9 at k;rcases hx with h|⟨xs,l,_,q⟩
 . rw[(h []).2]at k;rw[(h st).2];exact k
 rw[l.items []]at k;rw[l.items st];dsimp only at k;refine cq (l.items st) (Kk (λ h=>?_) λ h=>?_)
 . have:decide (xs.length<=m)=false:=T6 (by omega);rw[this]at k;exact k
 have:decide (xs.length<=m)=true:=Ul (by omega);rw[this,Vu]at k;refine iE (l.items st) λ ok aF=>?_;refine iV (λ rest σ st'=>st'=st/\∃(a:Int) (v3:Option D),0<a/\σ=[some x,some (.int m),some (.int a),v3]/\(∀y∈rest,jY y)/\nL 1 xs=nL a rest) ?_ ?_ _ _ _ ⟨rfl,1,none,by decide,rfl,q,rfl⟩
 . rintro σ st' ⟨rfl,a,v3,_,rfl,_,e⟩;rw[e]at k;exact⟨aF,k⟩
 . rintro d rest σ st' ⟨rfl,a,v3,ha,rfl,hT,e⟩ next
   refine⟨aF,_,rfl,d,rfl,(hT d Ua).any _,?_⟩;rw[e]at k;cases ei:isInt d with
   |false=>rw[wI ei]at k;exact k
   |true=>
    obtain⟨i,rfl⟩:=pN ei;rw[mP]at k;refine Sz (λ h=>?_) λ h=>?_
    . rw[T6 (by omega),Wi]at k;exact k
    rw[Ul h,Vu]at k;refine jx (by omega) (ne2 (λ h2=>?_) λ h2=>?_)
    . rw[T6 h2,Wi]at k;exact k
    refine next _ _ ⟨rfl,i,_,h,rfl,λ y hy=>hT y (TY _ hy),?_⟩
    rw[e,mP,Ul h,Ul h2,Vu,Vu]
abbrev diag(ns:List Int)(N w:Nat):List (List Int):=Mx.tW N w λ i j=>if i=j/\i<ns.length then ns.getD i 0 else 0
def p_:bQ:=λ ds st K=>∃(x:D) (ns:List Int) (N w:Nat),ds=[x,.int N,.int w]/\(∀s,items? s x=some (ao ns))/\ns.length<=N/\ns.length<=w/\N<=8/\w<=8/\∀st',Ext st st'->K (au (diag ns N w)) st'
def vf:List Str:=["numbers","many","wide","rows","k","number"]
def EF:DS:=(az (bJ 3 (jq (cB (aa (ab 1) af)) [none,some 2] (aK 0) bf (aj wq (gJ (aa (dC (.int 0)) af)) (ab 1))))
 (az (ia (vw (aa (ab 0) af)) (gO 4 5) (eK (aj a_ (ab 3) (ab 4)) (ab 4) (ab 5)))
 (a7 (aq jP (aa (ab 3) af)))))
theorem HC{N w:Nat}:diag [] N w=List.replicate N (List.replicate w 0):=by
 refine Mx.iG.ext (m:=N) (n:=w) ⟨by simp,λ r hr=>by rw[List.eq_of_mem_replicate hr];simp⟩ λ i j hi hj=>?_;rw[Mx.mH hi hj,Tv (by simp)];unfold Mx.g;have e:(List.replicate N (List.replicate w (0:Int))).getD i []=List.replicate w 0:=by rw[Mx.aJ (by simpa using hi),Yg]
 rw[e,Mx.aJ (by simpa using hj),Yg]
theorem Fd{ns:List Int}{N w i:Nat}(h:i<ns.length)(hN:ns.length<=N)(hw:ns.length<=w):(diag (ns.take i) N w).set i (((diag (ns.take i) N w).getD i []).set i (ns.getD i 0))=diag (ns.take (i+1)) N w:=by
 have iU:Mx.aP N w (diag (ns.take i) N w):=Mx.iG;have lU:=iU.len;have lr:=iU.row (i:=i) (by omega)
 have is:Mx.aP N w ((diag (ns.take i) N w).set i (((diag (ns.take i) N w).getD i []).set i (ns.getD i 0))):=⟨by rw[TQ];exact lU,λ r hr=>by
  rcases UQ hr with h|h
  . exact iU.fw r h
  . rw[h,TQ];exact lr⟩
 refine is.ext Mx.iG λ a b ha hb=>?_;rw[Mx.mH ha hb];have e0:Mx.g (diag (ns.take i) N w) a b=if a=b/\a<(ns.take i).length then(ns.take i).getD a 0 else 0:=Mx.mH ha hb
 have gt:∀m q,q<m->(ns.take m).getD q 0=ns.getD q 0:=λ m q hq=>by rw[Ug,Ug,WB hq]
 have l1:(ns.take i).length=i:=by rw[UY];omega
 have l2:(ns.take (i+1)).length=i+1:=by rw[UY];omega
 rw[l1]at e0;rw[l2];unfold Mx.g at e0⊢
 have gs:((diag (ns.take i) N w).set i (((diag (ns.take i) N w).getD i []).set i (ns.getD i 0))).getD a []=if a=i then((diag (ns.take i) N w).getD i []).set i (ns.getD i 0)else(diag (ns.take i) N w).getD a []:=by
  rw[Mx.aJ (by rw[TQ];omega)];by_cases h:a=i
  . subst h;rw[Wl,TC rfl]
  . rw[Ww (TK h),Tv h,Mx.aJ (show a<(diag (ns.take i) N w).length by omega)]
 rw[gs];by_cases h1:a=i
 . subst h1;rw[TC rfl];by_cases h2:b=a
   . subst h2;rw[Mx.aJ (by rw[TQ];omega),Wl,TC ⟨rfl,by omega⟩,gt _ _ (by omega)]
   . rw[Mx.aJ (by rw[TQ];omega),Ww (TK h2),<-Mx.aJ (d:=0),e0,Tv (by omega),Tv (by omega)]
 . rw[Tv h1,e0];by_cases h2:a=b/\a<i
   . rw[TC h2,TC ⟨h2.1,by omega⟩,gt _ _ h2.2,gt _ _ (by omega)]
   . rw[Tv h2,Tv (by omega)]
theorem BM:Tq p_ 3 EF vf:=by
 rintro ds st K ⟨x,ns,N,w,rfl,hx,lN,lw,n8,w8,k⟩;refine⟨rfl,?_⟩;refine cN ⟨by omega,by omega⟩ ⟨aY (by rw[cw];omega),?_⟩;rw[TZ]
 have eR:cX 0 N=(List.range N).map λ(i:Nat)=>D.int (i:Int):=by
  unfold cX;exact UK λ i _=>by rw[VV]
 rw[eR];refine eA (λ rest acc st'=>∃i,i<=N/\rest.length=N-i/\(∀d∈rest,∃j:Int,d= .int j)/\acc=fh st.length i/\st'=st++(List.replicate i (List.replicate w (0:Int))).map k_) ?_ ?_ _ _ _ ⟨0,T4 _,by simp,λ d hd=>by obtain⟨j,_,rfl⟩:=T5.mp hd;exact⟨_,rfl⟩,rfl,by simp⟩;rotate_left
 . rintro d rest acc st' ⟨i,hi,hr,hd,rfl,rfl⟩ next
   obtain⟨j,rfl⟩:=hd d Ua;rw[Uv]at hr;refine⟨trivial,_,rfl,⟨Ts rfl,LD ⟨by omega,by omega,aY (by simp;omega)⟩ ?_⟩⟩;rw[TZ,Am];show bO _ _ _ _ _ _ _ _ _;rw[Ud,Tw,Yi,xO];refine next _ _ ⟨i+1,by omega,by omega,λ e he=>hd e (TY _ he),rfl,?_⟩
   rw[List.replicate_succ',VX,VH];rfl
 rintro acc st' ⟨i,hi,hr,_,rfl,rfl⟩;have ei:i=N:=by rw[Wz]at hr;omega
 subst ei;refine⟨trivial,?_⟩;rw[<-HC];have lD:(diag [] i w).length=i:=(Mx.iG (n:=i) (w:=w)).len;generalize hs:st++(diag [] i w).map k_++[Cell.lst (fh st.length i)]=st1;have l1:(st++(diag [] i w).map k_).length=st.length+i:=by rw[Ud,Tw,lD]
 have er:st1[st.length+i]?=some (.lst (fh st.length i)):=by
  rw[<-hs,<-l1,Uc (Tu _),Vg];rfl
 have ec:∀q r,(diag [] i w)[q]?=some r->st1[st.length+q]?=some (k_ r):=λ q r hq=>by
  have hil:=(Tt.mp hq).1;rw[<-hs,TF (by rw[l1];omega),Uc (by omega),XW,T7,hq];rfl
 have X1:Ext st st1:=by rw[<-hs,VH];exact Ext.push
 rw[l1];clear hs;refine xF (hx _) λ ok aF=>?_;refine iV (λ rest σ st'=>∃(q:Nat) (v4 v5:Option D),q<=ns.length/\rest=d8 q (ao (ns.drop q))/\σ=[some x,some (.int i),some (.int w),some (.ref (st.length+i)),v4,v5]/\Ext st st'/\st'[st.length+i]?=some (.lst (fh st.length i))/\∀a r,(diag (ns.take q) i w)[a]?=some r->st'[st.length+a]?=some (k_ r)) ?_ ?_ _ _ _ ⟨0,none,none,T4 _,rfl,rfl,X1,er,ec⟩
 . rintro σ st' ⟨q,v4,v5,hq,hr,rfl,X,e,ec⟩
   have lq:q=ns.length:=by
    have:=Vn List.length hr;rw[nV,Tw,Wm,Wz]at this;omega
   rw[VP (by omega)]at ec;have lE:(diag ns i w).length=i:=(Mx.iG (n:=i) (w:=w)).len;refine⟨aF _ (hx _),_,diag ns i w,rfl,⟨fh st.length i,aX e,?_⟩,by omega,k _ X⟩;have:=sS (st:=st') (A:=diag ns i w) (b:=st.length) ec;rwa [lE]at this
 . rintro d rest σ st' ⟨q,v4,v5,hq,hr,rfl,X,e,ec⟩ next
   have lq:q<ns.length:=by
    rcases VD q ns.length with h|h
    . exact h
    . rw[Vi h]at hr;cases hr
   rw[UL lq]at hr;unfold ao at hr;rw[Uj]at hr;unfold d8 at hr;rw[VB]at hr;obtain⟨rfl,rfl⟩:=hr;have iD:Mx.aP i w (diag (ns.take q) i w):=Mx.iG;have lD:=iD.len;have lr:=iD.row (i:=q) (by omega);have eq:=ec q _ (TM (by omega));rw[<-Mx.aJ (d:=[]) (by omega)]at eq;have at1:d6 (fh st.length i) (q:Int)=some (.ref (st.length+q)):=gB (by unfold fh;rw[T7,Xf (by omega)];rfl);refine⟨aF _ (hx _),_,rfl,?_⟩;refine aE (aX e) at1 ?_;refine eh eq (rf (by omega) (by rw[Tw,TZ];omega)) ?_;rw[TZ,show(ao ((diag (ns.take q) i w).getD q [])).set q (.int ns[q])=ao (((diag (ns.take q) i w).getD q []).set q ns[q])from YF.symm];refine next _ _ ⟨q+1,_,_,lq,rfl,rfl,X.set (by omega),(Tx (by omega)).trans e,λ a r ha=>?_⟩
   rw[<-Fd lq lN lw,Mx.aJ lq]at ha;by_cases h:q=a
   . subst h;rw[TJ (by omega)]at ha;cases ha;rw[TJ (Tt.mp eq).1]
   . rw[Tx h]at ha;rw[Tx (by omega)];exact ec a r ha
def DZ(A:List (List Int))(N w:Nat)(n l lb r rb:D):Bool:=t9 n (min N w)&&(oa l lb N&&(oa r rb w&&decide (Mx.mulM (Mx.mulM (rowsOf l) A w) (rowsOf r) w=diag (intsOf [] n) N w)))
def sF(A:List (List Int))(N w:Nat)(d:D):Bool:=match items? [] d with
 |some [n,l,lb,r,rb]=>DZ A N w n l lb r rb
 |_=>false
theorem zZ{A:List (List Int)}{N w:Nat}{d:D}(e:items? [] d=none):sF A N w d=false:=by unfold sF;rw[e]
theorem Cw{A:List (List Int)}{N w:Nat}{d:D}{xs:List D}(e:items? [] d=some xs)(h:xs.length≠5):sF A N w d=false:=by
 unfold sF;rw[e];match xs,h with
 | [],_=>rfl
 | [_],_=>rfl
 | [_,_],_=>rfl
 | [_,_,_],_=>rfl
 | [_,_,_,_],_=>rfl
 | [_,_,_,_,_],h=>exact absurd rfl h
 |_::_::_::_::_::_::_,_=>rfl
theorem Ag{A:List (List Int)}{N w:Nat}{d n l lb r rb:D}(e:items? [] d=some [n,l,lb,r,rb]):sF A N w d=DZ A N w n l lb r rb:=by unfold sF;rw[e]
theorem sW{xs:List D}(h:xs.length=5):∃n l lb r rb,xs=[n,l,lb,r,rb]:=by
 match xs,h with
 | [n,l,lb,r,rb],_=>exact⟨n,l,lb,r,rb,rfl⟩
theorem AF:∀ {a:Int} {xs:List D},nL a xs=true->xs.all isInt=true
 |_,[],_=>rfl
 |a,x::xs,h=>by
  cases ei:isInt x with
  |false=>rw[wI ei]at h;cases h
  |true=>
   obtain⟨i,rfl⟩:=pN ei;rw[mP]at h;simp only[Ub]at h;rw[U8,ei,AF h.2.2];rfl
theorem HP{x:D}{m:Nat}(h:fV x)(e:t9 x m=true):(∀s,items? s x=some (ao (intsOf [] x)))/\(intsOf [] x).length<=m:=by
 unfold t9 at e;rcases h with h|⟨xs,l,_⟩
 . rw[(h []).2]at e;cases e
 . rw[l.items []]at e;simp only[Ub,XD]at e;have e2:=all_ints (AF e.2);have e3:=lO ((l.items []).trans (Vn some e2));rw[e3];exact⟨λ s=>(l.items s).trans (Vn some e2),by rw[Tw];exact e.1⟩
theorem Cv{X Y:List (List Int)}{N p w a b:Nat}(iX:Mx.aP N p X)(iY:Mx.aP p w Y)(p8:p<=8)(bX:Bg X a)(bY:Bg Y b):Bg (Mx.mulM X Y w) (a+b+3):=by
 have lX:Le X N p a:=λ i j hi hj=>bX _ (by rw[Mx.aJ (by rw[iX.len];exact hi)];exact Vf _) _ (getD_mem (by rw[iX.row hi];exact hj));have lY:Le Y p w b:=λ i j hi hj=>bY _ (by rw[Mx.aJ (by rw[iY.len];exact hi)];exact Vf _) _ (getD_mem (by rw[iY.row hi];exact hj));exact Le.mem (λ i j hi hj=>Mx.nN iX iY p8 lX lY i j hi hj) (Mx.bK iX iY)
structure Hn(A:List (List Int))(N w:Nat):Prop where
 is:Mx.aP N w A
 n1:1<=N
 n8:N<=8
 w1:1<=w
 w8:w<=8
 bd:Bg A 40
def jE:bQ:=λ ds st K=>∃(A:List (List Int)) (x:D) (N w:Nat),ds=[au A,x]/\Hn A N w/\wj x/\∀st',Ext st st'->K (.bl (sF A N w x)) st'
def mZ:List Str:=["rows","told","many","wide"]
def u7:DS:=(az (bJ 2 (a9 cY (aa (ab 0) af)))
 (az (bJ 3 (a9 cY (aa (aj a_ (ab 0) (dC (.int 0))) af)))
 (az (cZ (jm (dz (aU (aq i7 (aa (ab 1) (aa (dC (.int 5)) af))))) (dz (aU (aq kI (aa (aj a_ (ab 1) (dC (.int 0))) (aa (a9 r_ (aa (ab 2) (aa (ab 3) af))) af)))))) (a7 (dC (.bl false))) cv)
 (az (cZ (jm (dz (aU (aq ki (aa (aj a_ (ab 1) (dC (.int 1))) (aa (aj a_ (ab 1) (dC (.int 2))) (aa (ab 2) af)))))) (dz (aU (aq ki (aa (aj a_ (ab 1) (dC (.int 3))) (aa (aj a_ (ab 1) (dC (.int 4))) (aa (ab 3) af))))))) (a7 (dC (.bl false))) cv)
 (a7 (aj gc (aq e9 (aa (aq e9 (aa (aj a_ (ab 1) (dC (.int 1))) (aa (ab 0) af))) (aa (aj a_ (ab 1) (dC (.int 3))) af))) (aq p_ (aa (aj a_ (ab 1) (dC (.int 0))) (aa (ab 2) (aa (ab 3) af))))))))))
theorem zI{N w:Nat}:(if(w:Int)<(N:Int)then(w:Int)else(N:Int))=((min N w:Nat):Int):=by split<;>omega
theorem tV:Tq jE 2 u7 mZ:=by
 rintro ds st K ⟨A,x,N,w,rfl,H,hx,k⟩;refine⟨rfl,?_⟩;have hA:=H.is;have n1:=H.n1;have w1:=H.w1;have n8:=H.n8;have w8:=H.w8;have lA:=hA.len;refine cq rfl (aE rfl (i9 (j:=0) (by omega)) (cq rfl ?_));rw[Tw,Tw,lA,hA.row (i:=0) (by omega)];refine⟨x,5,rfl,hx.any st,?_⟩;rcases hx with h|⟨xs,l,_,q⟩
 . have k:=k st Ext.refl;rw[zZ (h []).2]at k;rw[(h st).2];exact k
 rw[l.items st];by_cases h5:xs.length=5;rotate_left
 . have k:=k st Ext.refl;rw[Cw (l.items []) h5]at k;have:decide ((xs.length:Int)=5)=false:=T6 (by omega);dsimp only;rw[this];exact k
 obtain⟨n,a,b,c,d,rfl⟩:=sW h5;rw[Ag (l.items [])]at k;unfold DZ at k;have tn:=q n (by simp);have ta:=q a (by simp);have tb:=q b (by simp);have tc:=q c (by simp);have td:=q d (by simp);refine RW ?_;refine aE (l.items st) rfl (vC ?_);rw[zI];refine⟨n,_,rfl,tn,?_⟩;cases e1:t9 n (min N w)with
 |false=>have k:=k st Ext.refl;rw[e1]at k;exact k
 |true=>
 obtain⟨en,ln⟩:=HP tn e1;rw[e1]at k;refine aE (l.items st) rfl (aE (l.items st) rfl ⟨a,b,N,rfl,ta,tb,n1,n8,?_⟩);cases e2:oa a b N with
 |false=>have k:=k st Ext.refl;rw[e2]at k;exact k
 |true=>
 rw[e2]at k;refine aE (l.items st) rfl (aE (l.items st) rfl ⟨c,d,w,rfl,tc,td,w1,w8,?_⟩);cases e3:oa c d w with
 |false=>have k:=k st Ext.refl;rw[e3]at k;exact k
 |true=>
 rw[e3]at k;have f2:dH [] a (.int N) N=true:=by unfold oa at e2;rw[Ub]at e2;exact e2.1
 have f3:dH [] c (.int w) w=true:=by unfold oa at e3;rw[Ub]at e3;exact e3.1
 obtain⟨C1,M1,b1⟩:=ta.rows f2;obtain⟨C2,M2,b2⟩:=tc.rows f3;have bm:=Cv M1 hA n8 b1 H.bd;have iM:=Mx.bK M1 hA;refine aE (l.items st) rfl ⟨a,_,w,_,A,rfl,C1.rows st,cM,ne_nil hA n1,hA.fw,by omega,by rw[M1.len];omega,λ p hp u hu r hr v hv=>g8 (b1 p hp u hu) (H.bd r hr v hv) (by decide),?_⟩;refine aE (l.items st) rfl ⟨_,c,w,_,_,rfl,cM,C2.rows st,ne_nil M2 w1,M2.fw,by omega,by rw[iM.len];omega,λ p hp u hu r hr v hv=>g8 (bm p hp u hu) (b2 r hr v hv) (by decide),?_⟩;refine aE (l.items st) rfl ⟨n,_,N,w,rfl,en,by omega,by omega,n8,w8,λ st1 X1=>?_⟩;refine tf iO iO ?_;rw[qo];exact k st1 X1
structure Bx(st:ae)(n:Nat)(b:Int):Prop where
 ex:∃x y z,st[n]?=some (.lst [.int x,.int y,.int z])/\0<=x/\0<=z/\z<=b
structure Upd(st:ae)(n:Nat)(st':ae):Prop where
 len:st'.length=st.length
 same:∀m,m≠n->st'[m]?=st[m]?
theorem Upd.refl{st:ae}{n:Nat}:Upd st n st:=⟨rfl,λ _ _=>rfl⟩
theorem Upd.trans{st st1 st2:ae}{n:Nat}(a:Upd st n st1)(b:Upd st1 n st2):Upd st n st2:=⟨b.len.trans a.len,λ m h=>(b.same m h).trans (a.same m h)⟩
theorem Upd.set{st:ae}{n:Nat}{c:Cell}:Upd st n (st.set n c):=⟨TQ,λ m h=>Tx (TK h)⟩
structure XU(st:ae)(n:Nat)(st':ae):Prop where
 len:st.length<=st'.length
 same:∀m,m<st.length->m≠n->st'[m]?=st[m]?
theorem XU.trans{st st1 st2:ae}{n:Nat}(a:XU st n st1)(b:XU st1 n st2):XU st n st2:=⟨TB a.len b.len,λ m h g=>(b.same m (T8 h a.len) g).trans (a.same m h g)⟩
theorem XU.upd{st st1:ae}{n:Nat}(a:Upd st n st1):XU st n st1:=⟨by rw[a.len];exact Tu _,λ m _ g=>a.same m g⟩
theorem XU.ext{st st1:ae}{n:Nat}(a:Ext st st1):XU st n st1:=⟨a.len,λ m h _=>a.same m h⟩
theorem XU.set{st st1:ae}{n k:Nat}{c:Cell}(a:XU st n st1)(h:st.length<=k):XU st n (st1.set k c):=⟨by rw[TQ];exact a.len,λ m hm g=>by rw[Tx (VR (T8 hm h))];exact a.same m hm g⟩
theorem Bx.lt{st:ae}{n:Nat}{b:Int}(B:Bx st n b):n<st.length:=by
 obtain⟨_,_,_,e,_⟩:=B.ex;exact(Tt.mp e).1
theorem Bx.cell{st st':ae}{n:Nat}{b:Int}(B:Bx st n b)(e:st'[n]?=st[n]?):Bx st' n b:=by
 obtain⟨x,y,z,e1,r⟩:=B.ex;exact⟨x,y,z,e.trans e1,r⟩
theorem Bx.mono{st:ae}{n:Nat}{b b':Int}(B:Bx st n b)(l:b<=b'):Bx st n b':=by
 obtain⟨x,y,z,e,h1,h2,h3⟩:=B.ex;exact⟨x,y,z,e,h1,h2,V4 h3 l⟩
def nA:bQ:=λ ds st K=>∃(ns:List Int) (k:Nat),ds=[.lst (ns.map .int),.int k]/\k<=6/\ns.length<=63/\∀st',Bx st' st.length 7000->Ext st st'->K (.ref st.length) st'
def rD:List Str:=["_law_script","_law_k","_law_cell"]
def AK:DS:=(az (bJ 2 (dC (.int 0)))
 (az (cZ (aU (aj oY (a9 cY (aa (ab 0) af)) (dC (.int 0)))) (bJ 2 (aj a_ (ab 0) (aj kb (ab 1) (a9 cY (aa (ab 0) af))))) cv)
 (a7 (xi (aa (aj eN (ab 2) (a9 u_ (aa (aj Cz (ab 2) (aj pW (dC (.int 10)) (dC (.int 18)))) af))) (aa (ab 2) (aa (aj eN (dC (.int 1009)) (ab 1)) af)))))))
theorem yF:Tq nA 2 AK rD:=by
 rintro ds st K ⟨ns,k,rfl,hk,hl,q⟩;refine⟨rfl,?_⟩
 have fin:∀c:Int,a7 (xi (aa (aj eN (ab 2) (a9 u_ (aa (aj Cz (ab 2) (aj pW (dC (.int 10)) (dC (.int 18)))) af))) (aa (ab 2) (aa (aj eN (dC (.int 1009)) (ab 1)) af))))
  {nx:=λ _ st'=>K .ax st',rt:=K} [some (.lst (ns.map .int)),some (.int k),some (.int c)] st:=by
  intro c;refine vO ⟨by decide,by decide,by decide⟩ (QM (xJ (fC (oV ?_ ?_) (fC (jS (by decide) (by decide)) ⟨Ts rfl,?_⟩))))
  . split<;>decide
  . split<;>decide
  . refine q _ ⟨_,_,_,by rw[Uc (Tu _),Vg];rfl,?_,?_,?_⟩ Ext.push
    . by_cases hc:(10:Int)^(18:Int).toNat<=c
      . have:(0:Int)<=c:=V4 (by decide) hc;rw[Ul hc,TC rfl];omega
      . rw[T6 hc,Tv Uo];omega
    . omega
    . omega
 refine cq rfl (zd ?_);rw[Tw];by_cases h0:(0:Int)<(ns.length:Int)
 . rw[Ul h0];refine dj (cq rfl (jx (by rw[Tw];omega) ?_));rw[Tw];have m1:=Vj (k:Int) h0;have m2:=Vy (k:Int) h0;obtain⟨j,ej⟩:=UJ m1;rw[ej]at m2⊢;exact aE rfl (gw (r:=ns) (by omega)) (fin _)
 . rw[T6 h0];exact fin 0
def bz:bQ:=λ ds st K=>∃(n:Nat) (m b:Int),ds=[.ref n,.int m]/\Bx st n b/\b<=1000000/\0<m/\m<2^62/\∀r st',0<=r->r<m->Bx st' n (b+1)->Upd st n st'->K (.int r) st'
def vH:List Str:=["_law_source_here","_law_many","_law_digit","_law_m"]
def DP:DS:=(az (cZ (aU (aj oY (aj a_ (ab 0) (dC (.int 0))) (dC (.int 0)))) (az (bJ 2 (aj kb (aj a_ (ab 0) (dC (.int 0))) (ab 1)))
 (az (eK (ab 0) (dC (.int 0)) (aj tj (aj a_ (ab 0) (dC (.int 0))) (ab 1)))
 (a7 (ab 2)))) cv)
 (az (eK (ab 0) (dC (.int 2)) (aj bT (aj a_ (ab 0) (dC (.int 2))) (dC (.int 1))))
 (az (bJ 3 (aj kb (aj eN (aj bT (aj bT (aj kb (aj a_ (ab 0) (dC (.int 1))) (dC (.int 2147483647))) (aj eN (dC (.int 65539)) (aj a_ (ab 0) (dC (.int 2))))) (dC (.int 11))) (dC (.int 48271))) (dC (.int 2147483629))))
 (az (bJ 3 (aj bT (aj kb (aj eN (ab 3) (ab 3)) (dC (.int 1999999973))) (aj eN (dC (.int 39373)) (aj a_ (ab 0) (dC (.int 2))))))
 (a7 (aj kb (aj tj (aj kb (aj eN (ab 3) (dC (.int 99991))) (dC (.int 2147483587))) (dC (.int 7))) (ab 1)))))))
theorem wG{d:D}{σ:bF}{st:ae}{K:DK}(k:K d st):dC d σ st K:=k
theorem BQ:Tq bz 2 DP vH:=by
 rintro ds st K ⟨n,m,b,rfl,⟨x,y,z,e,hx,hz,hb⟩,hb2,hm0,hm1,k⟩;refine⟨rfl,?_⟩;have hn:n<st.length:=(Tt.mp e).1;have it:items? st (.ref n)=some [.int x,.int y,.int z]:=aX e;refine aE it (by rfl) (Kk (λ h=>dj ?_) λ h=>?_)
 . refine aE it (by rfl) (jx (by omega) (aE it (by rfl) (Cp (by omega) (FA hm0 hm1) (eh e (by rfl) ?_))));refine k _ _ (Vj _ hm0) (Vy _ hm0) ⟨_,_,_,TJ hn,?_,hz,by omega⟩ Upd.set;rw[Xy _ (by omega)];exact Int.ediv_nonneg hx (by omega)
 . refine aE it (by rfl) (dW (eh e (by rfl) ?_));have e2:(st.set n (.lst ([D.int x,D.int y,D.int z].set 2 (.int (z+1)))))[n]?=some (.lst [.int x,.int y,.int (z+1)]):=TJ hn;have it2:=aX e2;refine aE it2 (by rfl) (jx (by decide) (aE it2 (by rfl) (fC (jS (by decide) (by decide)) ?_)));generalize y.fmod 2147483647=y1;generalize 65539*(z+1)=p;refine dW (wG (dW (wG (fC (oV (by decide) (by decide)) (wG (jx (by decide) ?_))))));have u1:=Vj ((y1+p+11)*48271) (show(0:Int)<2147483629 by decide);have u2:=Vy ((y1+p+11)*48271) (show(0:Int)<2147483629 by decide);generalize((y1+p+11)*48271).fmod 2147483629=u at u1 u2⊢;refine fC (jS (by omega) (by omega)) (wG (jx (by decide) ?_));generalize(u*u).fmod 1999999973=u3;refine aE it2 (by rfl) (fC (jS (by decide) (by decide)) ?_);generalize 39373*(z+1)=p2;refine dW ?_;generalize u3+p2=u4;refine fC (oV (by decide) (by decide)) (wG (jx (by decide) (wG (Cp (by decide) (by decide+kernel) (jx (by omega) ?_)))));exact k _ _ (Vj _ hm0) (Vy _ hm0) ⟨_,_,_,e2,hx,by omega,by omega⟩ Upd.set
def nE:bQ:=λ ds st K=>∃(n:Nat) (b:Int),ds=[.ref n]/\Bx st n b/\b<=900000/\∀r st',r.natAbs<=1000000000000->Bx st' n (b+4)->Upd st n st'->K (.int r) st'
def sh:List Str:=["_law_source_here","_law_how"]
def Av:DS:=(az (bJ 1 (aq bz (aa (ab 0) (aa (dC (.int 40)) af))))
 (az (cZ (aU (aj my (ab 1) (dC (.int 32)))) (a7 (aj nr (aq bz (aa (ab 0) (aa (dC (.int 7)) af))) (dC (.int 3)))) cv)
 (az (cZ (aU (aj my (ab 1) (dC (.int 39)))) (a7 (aj nr (aq bz (aa (ab 0) (aa (dC (.int 41)) af))) (dC (.int 20)))) cv)
 (a7 (aj eN (aj bT (aj eN (aq bz (aa (ab 0) (aa (aj pW (dC (.int 10)) (dC (.int 6))) af))) (aj pW (dC (.int 10)) (dC (.int 6)))) (aq bz (aa (ab 0) (aa (aj pW (dC (.int 10)) (dC (.int 6))) af)))) (aj nr (dC (.int 1)) (aj eN (dC (.int 2)) (aq bz (aa (ab 0) (aa (dC (.int 2)) af))))))))))
theorem yY:Tq nE 1 Av sh:=by
 rintro ds st K ⟨n,b,rfl,B,hb,k⟩;refine⟨rfl,?_⟩;refine⟨n,40,b,rfl,B,by omega,by decide,by decide,λ r0 st0 a0 a1 B0 U0=>?_⟩;refine xN (λ _=>dj ?_) λ _=>?_
 . exact⟨n,7,_,rfl,B0,by omega,by decide,by decide,λ r1 st1 c0 c1 B1 U1=>pF (k _ _ (by omega) (B1.mono (by omega)) (U0.trans U1))⟩
 refine xN (λ _=>dj ?_) λ _=>?_
 . exact⟨n,41,_,rfl,B0,by omega,by decide,by decide,λ r1 st1 c0 c1 B1 U1=>pF (k _ _ (by omega) (B1.mono (by omega)) (U0.trans U1))⟩
 have e6:(10:Int)^(6:Int).toNat=1000000:=by decide
 refine vO ⟨by decide,by decide,by decide⟩ ?_;rw[e6];refine⟨n,_,_,rfl,B0,by omega,by decide,by decide,λ r1 st1 c0 c1 B1 U1=>vO ⟨by decide,by decide,by decide⟩ ?_⟩;rw[e6];refine fC (oV (by decide) (by decide)) (vO ⟨by decide,by decide,by decide⟩ ?_);rw[e6];refine⟨n,_,_,rfl,B1,by omega,by decide,by decide,λ r2 st2 d0 d1 B2 U2=>dW ?_⟩;refine⟨n,2,_,rfl,B2,by omega,by decide,by decide,λ r3 st3 f0 f1 B3 U3=>fC (jS (by decide) (by decide)) (pF (fC (oV (by omega) (by omega)) ?_))⟩;refine k _ _ ?_ (B3.mono (by omega)) (((U0.trans U1).trans U2).trans U3);have:r3=0\/r3=1:=by omega
 rcases this with rfl|rfl<;>omega
def gS:bQ:=λ ds st K=>∃(x y:D) (A B:List (List Int)) (N p w a b:Nat),ds=[x,y]/\Cl x A/\Cl y B/\Mx.aP N p A/\Mx.aP p w B/\1<=p/\N<=8/\p<=8/\w<=8/\Bg A a/\Bg B b/\a+b<=130000000/\∀st',Ext st st'->K (au (Mx.mulM A B w)) st'
def qH:List Str:=["_law_one","_law_other","_law_made","_law_row"]
def yJ:DS:=(az (bJ 2 (xi af))
 (az (ia (c9 (ab 0)) (aK 3) (fb (mQ (ab 2) (a9 cy (aa (cj (cB (aa (a9 cY (aa (aj a_ (ab 1) (dC (.int 0))) af)) af)) [none,some 3,some 1] (aK 0) bf (a9 zw (aa (cj (zJ (aa (ab 1) (aa (ab 2) af))) [none,none,some 0] (gO 0 1) bf (aj eN (ab 0) (aj a_ (ab 1) (ab 2)))) af))) af)))))
 (a7 (a9 cy (aa (ab 2) af)))))
theorem OH{k:Nat}:∀(r:List Int) (B:List (List Int)),r.length=B.length->(List.zipWith (λ a q=>a*List.getD q k 0) r B).sum=Mx.S B.length λ j=>r.getD j 0*Mx.g B j k
 | [],[],_=>rfl
 | [],_::_,h=>by cases h
 |_::_,[],h=>by cases h
 |a::r,q::B,h=>by
  rw[Ye,List.sum_cons,OH r B (by simpa using h),Uv,Mx.Ba];rfl
theorem Au{X:List (List Int)}{N w i:Nat}(hX:Mx.aP N w X)(hi:i<N):(List.range w).map (λ k=>Mx.g X i k)=X.getD i []:=Mx.CD (by simp) (hX.row hi) λ j hj=>by
 rw[Mx.aJ (by simpa using hj),Wq,Xs];rfl
theorem qL{X:List (List Int)}{i:Nat}(h:i<X.length):(X.take i).map bj++[bj (X.getD i [])]=(X.take (i+1)).map bj:=by
 rw[List.take_succ,TM h,Mx.aJ h,VX];rfl
theorem xp:Tq gS 2 yJ qH:=by
 rintro ds st K ⟨x,y,A,B,N,p,w,a,b,rfl,⟨xs,ex,rx⟩,⟨ys,ey,ry⟩,iA,iB,p1,n8,p8,w8,sA,sB,hab,k⟩;refine⟨rfl,Ts rfl,?_⟩;have lA:=iA.len;have lB:=iB.len;have lx:=(rx st).len;have ly:=(ry st).len;have iM:=Mx.bK iA iB;have lM:=iM.len;refine La (ex _) λ ok aF=>?_;refine iV (λ rest σ st'=>∃(i:Nat) (v3:Option D),i<=N/\rest=xs.drop i/\σ=[some x,some y,some (.ref st.length),v3]/\Ext st st'/\st'[st.length]?=some (.lst (((Mx.mulM A B w).take i).map bj))) ?_ ?_ _ _ _ ⟨0,none,T4 _,rfl,rfl,Ext.push,by simp⟩
 . rintro σ st' ⟨i,v3,hi,hrest,rfl,X,e⟩;have:=Vn List.length hrest;rw[Wm,Wz]at this;rw[VP (by omega)]at e;exact⟨aF _ (ex _),cf (aX e) (k st' X)⟩
 . rintro d rest σ st' ⟨i,v3,hi,hrest,rfl,X,e⟩ next
   have hix:i<xs.length:=by
    rcases VD i xs.length with h|h
    . exact h
    . rw[Vi h]at hrest;cases hrest
   rw[UL hix]at hrest;obtain⟨rfl,rfl⟩:=Ws hrest;have him:i<N:=by omega
   have hiA:i<A.length:=by omega
   have lr:=iA.row him;obtain⟨d0,e0,i0⟩:=(ry st').at (k:=0) (by omega)
   have hrow:items? st' xs[i]=some (ao (A.getD i [])):=by
    obtain⟨r,er,hr⟩:=(rx st').get (TM hix);rw[TM hiA]at er;rw[Mx.aJ hiA,UE er];exact hr
   refine⟨aF _ (ex _),_,rfl,GC (by rfl) e (aE (ey _) e0 (cq i0 ?_))⟩;rw[Tw,iB.row (i:=0) (by omega)];refine cN ⟨by omega,by omega⟩ ⟨aY (by rw[cw];omega),?_⟩;rw[TZ];refine fN (λ j=> .int (Mx.g (Mx.mulM A B w) i j)) w (λ j hj K' q=>⟨_,rfl,?_⟩) ?_
   . refine Bp hrow (ey _) λ ok2 hok2=>⟨aY (by rw[uX,Tw];omega),?_⟩
     refine eA (λ rest acc st2=>st'=st2/\∃(r':List Int) (ys':List D) (B':List (List Int)) (R:List Int),rest=iu (ao r') ys'/\bU st' ys' B'/\(∀c∈r',c∈A.getD i [])/\(∀c∈B',c∈B)/\acc=ao R/\R++List.zipWith (λ a q=>a*List.getD q j 0) r' B'=List.zipWith (λ a q=>a*List.getD q j 0) (A.getD i []) B) ?_ ?_ _ _ _ ⟨rfl,A.getD i [],ys,B,[],rfl,ry st',λ _ h=>h,λ _ h=>h,rfl,rfl⟩
     . rintro acc st2 ⟨rfl,r',ys',B',R,he,hin,_,_,rfl,hs⟩
       have e0:List.zipWith (λ a q=>a*List.getD q j 0) r' B'=[]:=by
        match r',ys',B',he,hin with
        | [],_,_,_,_=>rfl
        |_::_,[],[],_,_=>rfl
        |_::_,_::_,_,he,_=>cases he
       rw[e0,Vb]at hs;refine⟨hok2 _ hrow (ey _),Oj (ints_map _) ?_⟩;rw[hs,OH _ _ (by omega),lB];have:=Mx.d5 iA iB him j;rw[this]at q;exact q
     . rintro d rest acc st2 ⟨rfl,r',ys',B',R,he,hin,h1,h2,rfl,hs⟩ next2;match r',ys',B',he,hin,h1,h2,hs with
       | [],_,_,he,_,_,_,_=>cases he
       |_::_,[],_,he,_,_,_,_=>cases he
       |c::r',yd::ys',v::B',he,hin,h1,h2,hs=>
        have hz:iu (ao (c::r')) (yd::ys')= .tup [.int c,yd]::iu (ao r') ys':=rfl;rw[hz,VB]at he;obtain⟨rfl,rfl⟩:=he;have hv:=h2 v Ua;have lv:=iB.fw v hv;have hmem:A.getD i []∈A:=by rw[Mx.aJ hiA];exact Vf _
        refine⟨hok2 _ hrow (ey _),_,rfl,aE hin.1 (gw (by omega)) (fC (g8 (sA _ hmem c (h1 c Ua)) (sB v hv _ (getD_mem (by omega))) hab) ?_)⟩;show bO _ _ _ _ _ _ _ _ _;rw[ints_app];exact next2 _ _ ⟨rfl,r',ys',B',_,rfl,hin.2,λ z hz=>h1 z (TY _ hz),λ z hz=>h2 z (TY _ hz),rfl,by rw[<-hs];simp⟩
   . refine cf rfl (Cu e (by rw[V1,Tw,UY];omega) ?_)
     have er:(List.range w).map (λ j=>D.int (Mx.g (Mx.mulM A B w) i j))=ao ((Mx.mulM A B w).getD i []):=by
      rw[<-Au iM him];unfold ao;rw[UD];rfl
     rw[er,qL (by omega)];exact next _ _ ⟨i+1,_,him,rfl,rfl,X.set (Tu _),TJ (Tt.mp e).1⟩
def f_:bQ:=λ ds st K=>∃n:Nat,ds=[.int n]/\n<=8/\K (au (Mx.units n)) st
def uw:List Str:=["_law_n"]
def BN:DS:=(a7 (a9 cy (aa (cj (cB (aa (ab 0) af)) [none,some 0] (aK 0) bf (a9 cy (aa (cj (cB (aa (ab 1) af)) [none,some 0] (aK 0) bf (a9 u_ (aa (aj gc (ab 1) (ab 0)) af))) af))) af)))
theorem Lu{n w:Nat}{f:Nat->Nat->Int}:(List.range n).map (λ i=>D.tup ((List.range w).map λ j=>D.int (f i j)))=(Mx.tW n w f).map bj:=by
 unfold Mx.tW;rw[UD];refine UK λ i _=>?_;show D.tup _=bj _;unfold bj ao;rw[UD];rfl
theorem Ab:Tq f_ 1 BN uw:=by
 rintro ds st K ⟨n,rfl,n8,k⟩;refine⟨rfl,?_⟩;refine cN ⟨by omega,by omega⟩ ⟨aY (by rw[cw];omega),?_⟩;rw[TZ];refine fN (λ i=> .tup ((List.range n).map λ j=>D.int (Mx.dl i j))) n (λ i hi K' q=>⟨_,rfl,?_⟩) ?_
 . refine cN ⟨by omega,by omega⟩ ⟨aY (by rw[cw];omega),?_⟩;rw[TZ];refine fN (λ j=> .int (Mx.dl i j)) n (λ j hj K' q=>⟨_,rfl,?_⟩) (cf rfl q);refine eq2 (λ h=>xJ ?_) λ h=>xJ ?_
   . rw[show Mx.dl i j=1 by rw[show i=j by omega];exact Mx.bx j]at q;exact q
   . rw[Mx.bq (by omega)]at q;exact q
 . refine cf rfl ?_;rw[Lu];have e:Mx.tW n n (λ i j=>Mx.dl i j)=Mx.units n:=Mx.iG.ext (Mx.bI n) λ i j hi hj=>by rw[Mx.mH hi hj,Mx.cK hi hj]
   rw[e];exact k
def la:bQ:=λ ds st K=>∃(x:D) (ns:List Int) (N w:Nat),ds=[x,.int N,.int w]/\(∀s,items? s x=some (ao ns))/\N<=8/\w<=8/\ns.length<=8/\∀st',Ext st st'->K (au (diag ns N w)) st'
def uf:List Str:=["_law_numbers","_law_many","_law_wide","_law_rows","_law_i"]
def BP:DS:=(az (bJ 3 (xi af))
 (az (ia (cB (aa (ab 1) af)) (aK 4) (fb (mQ (ab 3) (a9 cy (aa (cj (cB (aa (ab 2) af)) [none,some 4,some 0] (aK 0) bf (yn (tI (aU (aj gc (ab 1) (ab 0))) (aU (aj my (ab 1) (a9 cY (aa (ab 2) af))))) (aj a_ (ab 2) (ab 1)) (dC (.int 0)))) af)))))
 (a7 (a9 cy (aa (ab 3) af)))))
theorem zU:Tq la 3 BP uf:=by
 rintro ds st K ⟨x,ns,N,w,rfl,hx,n8,w8,l8,k⟩;refine⟨rfl,Ts rfl,?_⟩;generalize hM:diag ns N w=M at k;have iM:Mx.aP N w M:=by rw[<-hM];exact Mx.iG
 have lM:=iM.len;refine cN ⟨by omega,by omega⟩ ?_;rw[TZ];refine gI N (λ i σ st'=>∃v4:Option D,σ=[some x,some (.int N),some (.int w),some (.ref st.length),v4]/\Ext st st'/\st'[st.length]?=some (.lst ((M.take i).map bj))) ?_ ?_ ⟨none,rfl,Ext.push,by simp⟩
 . rintro σ st' ⟨v4,rfl,X,e⟩;rw[VP (by omega)]at e;exact cf (aX e) (k st' X)
 . rintro i σ st' rest hi ⟨v4,rfl,X,e⟩ next
   refine⟨_,rfl,GC (by rfl) e (cN ⟨by omega,by omega⟩ ⟨aY (by rw[cw];omega),?_⟩)⟩;rw[TZ];refine fN (λ j=> .int (Mx.g M i j)) w (λ j hj K' q=>⟨_,rfl,?_⟩) ?_
   . rw[<-hM,Mx.mH hi hj]at q;refine eq2 (λ h=>dj (cq (hx _) ?_)) λ h=>?_
     . rw[Tw];refine xN (λ h2=>dj ?_) λ h2=>?_
       . rw[TC ⟨by omega,by omega⟩]at q;exact aE (hx _) (gw (by omega)) q
       . rw[Tv (by omega)]at q;exact q
     . rw[Tv (by omega)]at q;exact q
   . refine cf rfl (Cu e (by rw[V1,Tw,UY];omega) ?_)
     have er:(List.range w).map (λ j=>D.int (Mx.g M i j))=ao (M.getD i []):=by
      rw[<-Au iM hi];unfold ao;rw[UD];rfl
     rw[er,qL (by omega)];exact next _ _ ⟨_,rfl,X.set (Tu _),TJ (Tt.mp e).1⟩
def ip:bQ:=λ ds st K=>∃d,ds=[d]/\Any st d/\K (.bl (isInt d)) st
def n_:List Str:=["_law_found"]
def vb:DS:=(a7 (km (a9 iz (aa (ab 0) (aa (dC (.ty "int")) af))) (zu (aU (a9 iz (aa (ab 0) (aa (dC (.ty "bool")) af)))))))
theorem uG:Tq ip 1 vb n_:=by
 rintro ds st K ⟨d,rfl,⟨t,ht⟩,k⟩;refine⟨rfl,?_⟩;rw[<-zB ht]at k;have hm:=kH ht;refine mY ht (by decide) ?_;simp only[jW,TU,T3,Ve]at hm;rcases hm with rfl|rfl|rfl|rfl|rfl|rfl
 . exact k
 . refine dj (mY ht (by decide) ?_);exact k
 . refine dj (mY ht (by decide) ?_);exact k
 . exact k
 . exact k
 . exact k
def iS:bQ:=λ ds st K=>∃(x:D) (n:Nat),ds=[x,.int n,.int n]/\fV x/\K (.bl (dH [] x (.int n) n)) st
def oZ:List Str:=["_law_found","_law_many","_law_wide","_law_row"]
def xq:DS:=(az (cZ (jm (dz (aU (a9 iz (aa (ab 0) (aa (cL (aa (dC (.ty "tuple")) (aa (dC (.ty "list")) af))) af))))) (aU (aj mw (a9 cY (aa (ab 0) af)) (ab 1)))) (a7 (dC (.bl false))) cv)
 (az (ia (c9 (ab 0)) (aK 3) (cZ (jm (dz (aU (a9 iz (aa (ab 3) (aa (cL (aa (dC (.ty "tuple")) (aa (dC (.ty "list")) af))) af))))) (jm (aU (aj mw (a9 cY (aa (ab 3) af)) (ab 2))) (dz (aU (a9 oF (aa (cj (c9 (ab 3)) [none] (aK 0) bf (aq ip (aa (ab 0) af))) af)))))) (a7 (dC (.bl false))) cv))
 (a7 (dC (.bl true)))))
theorem Jm{st:ae}{x:D}{K:DK}(h:Any st x)(k:K (.bl (items? st x).isSome) st):iz [x,.tup [.ty "tuple",.ty "list"]] st K:=by
 obtain⟨t,ht⟩:=h;rw[<-yA ht]at k;have hm:=kH ht;refine CK ht rfl (by decide) ?_;simp only[jW,TU,T3,Ve]at hm;rcases hm with rfl|rfl|rfl|rfl|rfl|rfl<;>exact k
theorem vD:Tq iS 3 xq oZ:=by
 rintro ds st K ⟨x,n,rfl,hx,k⟩;refine⟨rfl,Ts rfl,Jm (hx.any st) ?_⟩;rcases hx with h|⟨xs,l,_,q⟩
 . rw[jo (h []).2]at k;rw[(h st).2];exact k
 rw[ju (l.items [])]at k;rw[l.items st];refine cq (l.items st) (ne2 (λ h=>?_) λ h=>?_)
 . have:pq xs.length (.int n)=false:=T6 h;rw[this]at k;exact k
 have:pq xs.length (.int n)=true:=Ul h;rw[this,Vu]at k;refine iE (l.items st) λ ok aF=>?_;refine iV (λ rest σ st'=>st'=st/\(∃v3:Option D,σ=[some x,some (.int n),some (.int n),v3])/\(∀y∈rest,jY y)/\(xs.all λ r=>dq [] r n)=rest.all λ r=>dq [] r n) ?_ ?_ _ _ _ ⟨rfl,⟨none,rfl⟩,q,rfl⟩
 . rintro σ st' ⟨rfl,⟨v3,rfl⟩,_,ha⟩;rw[ha]at k;exact⟨aF,k⟩
 . rintro d rest σ st' ⟨rfl,⟨v3,rfl⟩,hT,ha⟩ next
   have hd:=hT d Ua;rw[U8]at ha;refine⟨aF,_,rfl,Ts rfl,Jm (hd.any _) ?_⟩;rcases hd with f|⟨ys,ly,lz,qy⟩
   . have:dq [] d n=false:=by unfold dq;rw[(f []).2]
     rw[ha,this]at k;rw[(f _).2];exact k
   rw[ly.items];refine cq (ly.items _) (ne2 (λ h=>?_) λ h=>?_)
   . have:dq [] d n=false:=by unfold dq;rw[ly.items];simp[h]
     rw[ha,this]at k;exact k
   have e3:dq [] d n=ys.all isInt:=by unfold dq;rw[ly.items];simp[h]
   rw[e3]at ha;refine iE (ly.items _) λ ok2 hok2=>⟨aY lz,comp_map (g:=λ r=> .bl (isInt r)) hok2 ys (λ y hy K' q=>⟨_,rfl,y,rfl,(qy y hy).any _,q⟩) ?_⟩
   refine rR (lR ys) ?_;have ea:(ys.map isInt).all id=ys.all isInt:=by rw[XO];rfl
   rw[ea];cases e4:ys.all isInt with
   |false=>rw[ha,e4]at k;exact k
   |true=>
    refine next _ _ ⟨rfl,⟨_,rfl⟩,λ z hz=>hT z (TY _ hz),?_⟩
    rw[ha,e4];rfl
def iq:bQ:=λ ds st K=>∃(x y:D) (n:Nat),ds=[x,y,.int n]/\fV x/\fV y/\1<=n/\n<=8/\∀st',Ext st st'->K (.bl (oa x y n)) st'
def og:List Str:=["_law_turn","_law_back","_law_n"]
def wc:DS:=(a7 (km (aq iS (aa (ab 0) (aa (ab 2) (aa (ab 2) af)))) (km (aq iS (aa (ab 1) (aa (ab 2) (aa (ab 2) af)))) (aj gc (aq gS (aa (ab 0) (aa (ab 1) af))) (aq f_ (aa (ab 2) af))))))
theorem u6:Tq iq 3 wc og:=by
 rintro ds st K ⟨x,y,n,rfl,hx,hy,n1,n8,k⟩;refine⟨rfl,x,n,rfl,hx,?_⟩;unfold oa I_ at k;cases e1:dH [] x (.int n) n with
 |false=>have k:=k st Ext.refl;rw[e1]at k;exact k
 |true=>
 rw[e1]at k;refine dj ⟨y,n,rfl,hy,?_⟩;cases e2:dH [] y (.int n) n with
 |false=>have k:=k st Ext.refl;rw[e2]at k;exact k
 |true=>
 rw[e2]at k;obtain⟨C1,M1,b1⟩:=hx.rows e1;obtain⟨C2,M2,b2⟩:=hy.rows e2;refine dj ⟨x,y,_,_,n,n,n,64000000,64000000,rfl,C1,C2,M1,M2,n1,n8,n8,n8,b1,b2,by decide,λ st1 X1=>⟨n,rfl,n8,?_⟩⟩;refine tf iO iO ?_;rw[qo];exact k st1 X1
def sy:bQ:=λ ds st K=>∃(A:List (List Int)) (x:D) (N w:Nat),ds=[au A,x]/\Hn A N w/\wj x/\∀st',Ext st st'->K (.bl (sF A N w x)) st'
def sj:List Str:=["_law_rows","_law_told","_law_numbers","_law_left","_law_left_back","_law_right","_law_right_back","_law_many","_law_wide"]
def G8:DS:=(az (cZ (jm (dz (aU (a9 iz (aa (ab 1) (aa (cL (aa (dC (.ty "tuple")) (aa (dC (.ty "list")) af))) af))))) (jm (aU (aj mw (a9 cY (aa (ab 1) af)) (dC (.int 5)))) (dz (aU (a9 iz (aa (aj a_ (ab 1) (dC (.int 0))) (aa (cL (aa (dC (.ty "tuple")) (aa (dC (.ty "list")) af))) af))))))) (a7 (dC (.bl false))) cv)
 (az (uV (pw 2 3 4 5 6) (ab 1))
 (az (IF 7 8 (aa (a9 cY (aa (ab 0) af)) (aa (a9 cY (aa (aj a_ (ab 0) (dC (.int 0))) af)) af)))
 (az (cZ (jm (aU (aj oY (a9 cY (aa (ab 2) af)) (a9 r_ (aa (ab 7) (aa (ab 8) af))))) (dz (aU (a9 oF (aa (cj (c9 (ab 2)) [none] (aK 0) bf (km (aq ip (aa (ab 0) af)) (aj oY (ab 0) (dC (.int 0))))) af))))) (a7 (dC (.bl false))) cv)
 (az (cZ (aU (a9 zN (aa (cj (cB (aa (aj nr (a9 cY (aa (ab 2) af)) (dC (.int 1))) af)) [none,some 2] (aK 0) bf (aj mw (aj kb (aj a_ (ab 1) (aj bT (ab 0) (dC (.int 1)))) (aj a_ (ab 1) (ab 0))) (dC (.int 0)))) af))) (a7 (dC (.bl false))) cv)
 (az (cZ (jm (dz (aU (aq iq (aa (ab 3) (aa (ab 4) (aa (ab 7) af)))))) (dz (aU (aq iq (aa (ab 5) (aa (ab 6) (aa (ab 8) af))))))) (a7 (dC (.bl false))) cv)
 (a7 (aj gc (aq gS (aa (aq gS (aa (ab 3) (aa (ab 0) af))) (aa (ab 5) af))) (aq la (aa (ab 2) (aa (ab 7) (aa (ab 8) af))))))))))))
def ir:D->Bool
 | .int i=>decide (0<i)
 |_=>false
theorem AE{d:D}(h:isInt d=false):ir d=false:=by
 cases d<;>first|rfl|cases h
theorem C7:∀ {a:Int} {xs:List D},xs.all ir=false->nL a xs=false
 |_,[],h=>by cases h
 |a,x::xs,h=>by
  cases ei:isInt x with
  |false=>exact wI ei
  |true=>
   obtain⟨i,rfl⟩:=pN ei;rw[U8]at h;rw[mP];have h:(decide (0<i)&&xs.all ir)=false:=h;cases e:decide (0<i)with
   |false=>rfl
   |true=>
    rw[e,Vu]at h;rw[C7 h,Xh];rfl
theorem AU:∀ {xs:List D},xs.all ir=true->xs.all isInt=true
 | [],_=>rfl
 |x::xs,h=>by
  rw[U8,Ub]at h;cases ei:isInt x with
  |false=>rw[AE ei]at h;cases h.1
  |true=>rw[U8,ei,AU h.2];rfl
def GO(ns:List Int)(k:Nat):Bool:= !decide ((ns.getD (k+1) 0).fmod (ns.getD k 0)=0)
theorem Cq:∀ {ns:List Int} {b:Int},(ao (b::ns)).all ir=true->nL b (ao ns)= !((List.range ns.length).any (GO (b::ns)))
 | [],_,_=>rfl
 |c::ns,b,h=>by
  have h2:(ao (c::ns)).all ir=true:=by
   have:(ir (.int b)&&(ao (c::ns)).all ir)=true:=h;rw[Ub]at this;exact this.2
  have hc:decide (0<c)=true:=by
   have:(ir (.int c)&&(ao ns).all ir)=true:=h2;rw[Ub]at this;exact this.1
  have ih:=Cq h2;show nL b (.int c::ao ns)=_;rw[mP,hc,Vu,ih,Uv,Uq,WT,YD];show(decide (c.fmod b=0)&&_)= !((!decide (c.fmod b=0))||(List.range ns.length).any (GO (c::ns)));rw[Bool.not_or,Bool.not_not]
theorem x5{f:Nat->Bool}:∀l:List Nat,fY (l.map λ k=>D.bl (f k))=some (l.map f)
 | []=>rfl
 |x::l=>by simp[fY,x5 l]
theorem Mm{ns:List Int}(h:(ao ns).all ir=true):nL 1 (ao ns)= !(((List.range (ns.length-1)).map (GO ns)).any id):=by
 cases ns with
 |nil=>rfl
 |cons b ns=>
  have hb:decide (0<b)=true:=by
   have:(ir (.int b)&&(ao ns).all ir)=true:=h;rw[Ub]at this;exact this.1
  show nL 1 (.int b::ao ns)=_;rw[mP,hb,Cq h,Ul (Int.fmod_eq_zero_of_dvd (Int.one_dvd b)),YD];rfl
theorem Eo:Tq sy 2 G8 sj:=by
 rintro ds st K ⟨A,x,N,w,rfl,H,hx,k⟩;refine⟨rfl,Ts rfl,Jm (hx.any st) ?_⟩;have hA:=H.is;have n1:=H.n1;have w1:=H.w1;have n8:=H.n8;have w8:=H.w8;have lA:=hA.len;rcases hx with h|⟨xs,l,_,q⟩
 . have k:=k st Ext.refl;rw[zZ (h []).2]at k;rw[(h st).2];exact k
 rw[l.items st];refine cq (l.items st) (ne2 (λ h5=>?_) λ h5=>?_)
 . have k:=k st Ext.refl;rw[Cw (l.items []) (by omega)]at k;exact k
 obtain⟨n,a,b,c,d,rfl⟩:=sW (show xs.length=5 by omega);rw[Ag (l.items [])]at k;unfold DZ at k;have tn:=q n (by simp);have ta:=q a (by simp);have tb:=q b (by simp);have tc:=q c (by simp);have td:=q d (by simp);refine aE (l.items st) rfl ⟨Ts rfl,Jm (tn.any st) ?_⟩;have tn2:=tn;rcases tn with h|⟨ns,ln,lz,qn⟩
 . have k:=k st Ext.refl;have:t9 n (min N w)=false:=by unfold t9;rw[(h []).2]
   rw[this]at k;rw[(h st).2];exact k
 rw[ln.items st];have e1:t9 n (min N w)=(decide (ns.length<=min N w)&&nL 1 ns):=by unfold t9;rw[ln.items []]
 have et:pw 2 3 4 5 6 x (aH sj [au A,x])=some [some (au A),some x,some n,some a,some b,some c,some d,none,none]:=by rcases l with rfl|rfl<;>rfl
 refine⟨_,et,?_⟩;refine cq rfl (aE rfl (i9 (j:=0) (by omega)) (cq rfl ?_));rw[Tw,Tw,lA,hA.row (i:=0) (by omega)];refine cq (ln.items st) (vC ?_);rw[zI];rw[e1]at k;refine Kk (λ h=>?_) λ h=>?_
 . have k:=k st Ext.refl;rw[T6 (by omega)]at k;exact k
 rw[Ul (show ns.length<=min N w by omega),Vu]at k;refine iE (ln.items st) λ ok aF=>⟨aY lz,comp_map (g:=λ r=> .bl (ir r)) aF ns (λ y hy K' z=>⟨_,rfl,y,rfl,(qn y hy).any _,?_⟩) ?_⟩
 . cases ei:isInt y with
   |false=>rw[AE ei]at z;exact z
   |true=>
    obtain⟨i,rfl⟩:=pN ei;exact dj (zd z)
 refine rR (lR ns) ?_;have ea:(ns.map ir).all id=ns.all ir:=by rw[XO];rfl
 rw[ea];cases e4:ns.all ir with
 |false=>
  have k:=k st Ext.refl;rw[C7 e4]at k;exact k
 |true=>
 have e5:=all_ints (AU e4);generalize(ns.map λ x=>match x with| .int i=>i|_=>0)=is at e5;subst e5;have eI:intsOf [] n=is:=lO (ln.items []);rw[Tw]at h;refine oM ?_;dsimp only[cv];refine cq (ln.items st) (pF ?_);rw[Tw];refine cN ⟨by omega,by omega⟩ ⟨aY (by rw[cw];omega),?_⟩;rw[show((is.length:Int)-1).toNat=is.length-1 by omega];refine fN (λ j=> .bl (GO is j)) (is.length-1) (λ j hj K' z=>⟨_,rfl,?_⟩) ?_
 . refine dW ?_;rw[show(j:Int)+1=((j+1:Nat):Int) by omega];refine aE (ln.items st) (gw (by omega)) (aE (ln.items st) (gw (by omega)) ?_);have hp:0<is.getD j 0:=XF (Um.mp e4 (.int (is.getD j 0)) (T5.mpr ⟨_,getD_mem (by omega),rfl⟩));exact jx (by omega) (DL z)
 refine OS (x5 _) ?_;rw[Mm e4]at k;cases e6:((List.range (is.length-1)).map (GO is)).any id with
 |true=>
  have k:=k st Ext.refl;rw[e6]at k;exact k
 |false=>
 rw[e6]at k;refine oM ?_;dsimp only[cv];refine⟨a,b,N,rfl,ta,tb,n1,n8,λ st1 X1=>?_⟩;cases e2:oa a b N with
 |false=>have k:=k st1 X1;rw[e2]at k;exact k
 |true=>
 rw[e2]at k;refine⟨c,d,w,rfl,tc,td,w1,w8,λ st2 X2=>?_⟩;cases e3:oa c d w with
 |false=>have k:=k st2 (X1.trans X2);rw[e3]at k;exact k
 |true=>
 rw[e3]at k;have f2:dH [] a (.int N) N=true:=by unfold oa at e2;rw[Ub]at e2;exact e2.1
 have f3:dH [] c (.int w) w=true:=by unfold oa at e3;rw[Ub]at e3;exact e3.1
 obtain⟨C1,M1,b1⟩:=ta.rows f2;obtain⟨C2,M2,b2⟩:=tc.rows f3;have bm:=Cv M1 hA n8 b1 H.bd;have iM:=Mx.bK M1 hA;refine⟨a,_,_,A,N,N,w,64000000,40,rfl,C1,NR,M1,hA,n1,n8,n8,w8,b1,H.bd,by decide,λ st3 X3=>?_⟩;refine⟨_,c,_,_,N,w,w,_,64000000,rfl,NR,C2,iM,M2,w1,n8,w8,w8,bm,b2,by decide,λ st4 X4=>?_⟩;refine⟨n,is,N,w,rfl,ln.items,n8,w8,by omega,λ st5 X5=>?_⟩;refine tf iO iO ?_;rw[qo];rw[eI]at k;exact k st5 (X1.trans (X2.trans (X3.trans (X4.trans X5))))
structure TD(ns:List Int)(L Lb R Rb:List (List Int))(N w:Nat):Prop where
 lN:ns.length<=N
 lw:ns.length<=w
 bn:∀x∈ns,x.natAbs<=2^62000000
 iL:Mx.aP N N L
 lZ:Mx.aP N N Lb
 iR:Mx.aP w w R
 kq:Mx.aP w w Rb
 bL:Bg L 62000000
 Ka:Bg Lb 62000000
 bR:Bg R 62000000
 MZ:Bg Rb 62000000
abbrev pR(ns:List Int)(L Lb R Rb:List (List Int)):D:= .tup [bj ns,au L,au Lb,au R,au Rb]
def pS:bQ:=λ ds st K=>∃(n:Nat) (b:Int) (f:Bool),ds=[.ref n]/\Bx st n b/\b<=500000/\n≠0/\st[0]?=some (cS f)/\∀st' A N w ns L Lb R Rb f',Hn A N w->TD ns L Lb R Rb N w->Bx st' n (b+1000)->st'[0]?=some (cS f')->K (.tup [au A,pR ns L Lb R Rb]) st'
def vZ:List Str:=["_law_source_here","_law_many","_law_wide","_law_rows","_law_numbers","_law_turns"]
def Dw:DS:=(az (uV (gO 1 2) (cL (aa (aj bT (dC (.int 1)) (aq bz (aa (ab 0) (aa (dC (.int 3)) af)))) (aa (aj bT (dC (.int 1)) (aq bz (aa (ab 0) (aa (dC (.int 3)) af)))) af))))
 (az (cZ (aU (aj gc (aq bz (aa (ab 0) (aa (dC (.int 16)) af))) (dC (.int 5)))) (az (uV (gO 1 2) (cL (aa (aj bT (dC (.int 6)) (aq bz (aa (ab 0) (aa (dC (.int 2)) af)))) (aa (aj bT (dC (.int 6)) (aq bz (aa (ab 0) (aa (dC (.int 2)) af)))) af))))
 (az (bJ 3 (a9 cy (aa (cj (cB (aa (ab 1) af)) [none,some 2,some 0] (aK 0) bf (a9 cy (aa (cj (cB (aa (ab 1) af)) [none,some 2] (aK 0) bf (aj nr (aq bz (aa (ab 1) (aa (dC (.int 5)) af))) (dC (.int 2)))) af))) af)))
 (a7 (cL (aa (ab 3) (aa (aq mE (aa (ab 3) af)) af)))))) cv)
 (az (cZ (aU (aj gc (aq bz (aa (ab 0) (aa (dC (.int 2)) af))) (dC (.int 0)))) (az (bJ 3 (a9 cy (aa (cj (cB (aa (ab 1) af)) [none,some 2,some 0] (aK 0) bf (a9 cy (aa (cj (cB (aa (ab 1) af)) [none,some 2] (aK 0) bf (aq nE (aa (ab 1) af))) af))) af)))
 (a7 (cL (aa (ab 3) (aa (aq mE (aa (ab 3) af)) af))))) cv)
 (az (bJ 4 (a9 cy (aa (cj (cB (aa (aq bz (aa (ab 0) (aa (aj bT (a9 r_ (aa (ab 1) (aa (ab 2) af))) (dC (.int 1))) af))) af)) [none,some 0] (aK 0) bf (aj a_ (gJ (aa (dC (.int 1)) (aa (dC (.int 2)) (aa (dC (.int 3)) (aa (dC (.int 4)) (aa (dC (.int 6)) (aa (dC (.int 12)) af))))))) (aq bz (aa (ab 1) (aa (dC (.int 6)) af))))) af)))
 (az (bJ 5 (cL (aa (aq f_ (aa (ab 1) af)) (aa (aq f_ (aa (ab 1) af)) (aa (aq f_ (aa (ab 2) af)) (aa (aq f_ (aa (ab 2) af)) af))))))
 (a7 (cL (aa (aq la (aa (ab 4) (aa (ab 1) (aa (ab 2) af)))) (aa (aj bT (cL (aa (ab 4) af)) (ab 5)) af)))))))))
theorem va{n w M:Nat}{te:DE}{σc:bF}{st:ae}{b:Int}{K:List D->ae->Prop}(w8:w<=8)
 (hte:∀(d:D) (s:ae) (b':Int),Bx s n b'->b'<=b+32->∀K':DK,(∀(r:Int) s',r.natAbs<=M->Bx s' n (b'+4)->Upd s n s'->K' (.int r) s')->∃σ2,aK 0 d σc=some σ2/\te σ2 s K')
 (B:Bx st n b) (k:∀(r:List Int) s,r.length=w->(∀x∈r,x.natAbs<=M)->Bx s n (b+32)->Upd st n s->K (ao r) s):bO (aK 0) bf te (λ _=>True) σc (cX 0 w) [] st K:=by
 refine eA (λ rest acc st'=>∃r:List Int,acc=ao r/\r.length+rest.length=w/\(∀x∈r,x.natAbs<=M)/\Bx st' n (b+4*r.length)/\Upd st n st') ?_ ?_ _ _ _ ⟨[],rfl,by rw[cw];simp,by simp,B.mono (by simp),Upd.refl⟩
 . rintro acc st6 ⟨r,rfl,hr,br,B6,U6⟩;have hr:r.length=w:=by simpa using hr
   exact⟨trivial,k r _ hr br (B6.mono (by omega)) U6⟩
 . rintro x rest2 acc st6 ⟨r,rfl,hr,br,B6,U6⟩ next2;have hr2:r.length<w:=by simp at hr;omega
   obtain⟨σ2,e,q⟩:=hte x st6 _ B6 (by omega) (λ d s=>bO (aK 0) bf te (λ _=>True) σc rest2 (ao r++[d]) s K) λ y s' hy B7 U7=>by
    show bO _ _ _ _ _ _ _ _ _;rw[ints_app];refine next2 _ _ ⟨r++[y],rfl,by simp at hr⊢;omega,λ x hx=>?_,B7.mono (by simp;omega),U6.trans U7⟩;rcases Uh.mp hx with h|h
    . exact br x h
    . rw[UI.mp h];exact hy
   exact⟨trivial,σ2,e,q⟩
theorem yi{n N w M:Nat}{te:DE}{σc:bF}{st:ae}{b:Int}{K:List D->ae->Prop}(n8:N<=8)
 (hte:∀(d:D) (s:ae) (b':Int),Bx s n b'->b'<=b+256->∀K':DK,(∀(r:List Int) s',r.length=w->(∀x∈r,x.natAbs<=M)->Bx s' n (b'+32)->Upd s n s'->K' (bj r) s')->∃σ2,aK 0 d σc=some σ2/\te σ2 s K')
 (B:Bx st n b) (k:∀(A:List (List Int)) s,Mx.aP N w A->(∀r∈A,∀x∈r,x.natAbs<=M)->Bx s n (b+256)->Upd st n s->K (A.map bj) s):bO (aK 0) bf te (λ _=>True) σc (cX 0 N) [] st K:=by
 refine eA (λ rest acc st'=>∃A:List (List Int),acc=A.map bj/\A.length+rest.length=N/\(∀r∈A,r.length=w)/\(∀r∈A,∀x∈r,x.natAbs<=M)/\Bx st' n (b+32*A.length)/\Upd st n st') ?_ ?_ _ _ _ ⟨[],rfl,by rw[cw];simp,by simp,by simp,B.mono (by simp),Upd.refl⟩
 . rintro acc st6 ⟨A,rfl,hr,wA,br,B6,U6⟩;have hr:A.length=N:=by simpa using hr
   exact⟨trivial,k A _ ⟨hr,wA⟩ br (B6.mono (by omega)) U6⟩
 . rintro x rest2 acc st6 ⟨A,rfl,hr,wA,br,B6,U6⟩ next2;have hr2:A.length<N:=by simp at hr;omega
   obtain⟨σ2,e,q⟩:=hte x st6 _ B6 (by omega) (λ d s=>bO (aK 0) bf te (λ _=>True) σc rest2 (A.map bj++[d]) s K) λ y s' hl hy B7 U7=>by
    show bO _ _ _ _ _ _ _ _ _;rw[H_];refine next2 _ _ ⟨A++[y],rfl,by simp at hr⊢;omega,λ x hx=>?_,λ x hx=>?_,B7.mono (by simp;omega),U6.trans U7⟩
    . rcases Uh.mp hx with h|h
      . exact wA x h
      . rw[UI.mp h];exact hl
    . rcases Uh.mp hx with h|h
      . exact br x h
      . rw[UI.mp h];exact hy
   exact⟨trivial,σ2,e,q⟩
theorem Gu{A:List (List Int)}{N w M:Nat}(hA:Mx.aP N w A)(h:∀r∈A,∀x∈r,x.natAbs<=M):∀i j,i<N->j<w->(Mx.g A i j).natAbs<=M:=λ i j hi hj=>by
 have lA:=hA.len;have lr:=hA.row hi;unfold Mx.g;exact h _ (by rw[Mx.aJ (by omega)];exact Vf _) _ (getD_mem (by omega))
theorem FP{A:List (List Int)}{N w M:Nat}(hA:Mx.aP N w A)(h:∀i j,i<N->j<w->(Mx.g A i j).natAbs<=M):∀r∈A,∀x∈r,x.natAbs<=M:=λ r hr x hx=>by
 obtain⟨i,hi,rfl⟩:=UG.mp hr;obtain⟨j,hj,rfl⟩:=UG.mp hx;have:=h i j (by rw[<-hA.len];exact hi) (by rw[<-hA.fw _ hr];exact hj);unfold Mx.g at this;rwa [Mx.aJ hi,Mx.aJ hj]at this
theorem SS{x:Nat}(h:x<=1):x<=2^62000000:=TB h (Vz)
theorem qz{N:Nat}:Bg (Mx.units N) 62000000:=FP (Mx.bI N) λ i j hi hj=>by
 rw[Mx.cK hi hj];refine SS ?_;by_cases h:i=j
 . rw[h,Mx.bx];decide
 . rw[Mx.bq h];decide
theorem IZ{A B L Lb R Rb:List (List Int)}{N w r:Nat}(dv:Dv A B L Lb R Rb N w r):TD (dg B r) L Lb R Rb N w:=by
 have S:=dv.sd;have rN:=dv.lo.rN;have rW:=dv.lo.rW;refine⟨by rw[Be];exact rN,by rw[Be];exact rW,λ x hx=>?_,S.iL,S.lZ,S.iR,S.kq,Le.mem S.sL S.iL,Le.mem S.F7 S.lZ,Le.mem S.sR S.iR,Le.mem S.Fz S.kq⟩;unfold dg at hx;obtain⟨q,hq,rfl⟩:=T5.mp hx;have hq:=Vv.mp hq;have h1:=dv.lo.pos q hq;have h2:=V4 (Mx.vV (f:=λ q=>Mx.g B q q) (λ i hi=>dv.lo.pos i hi) q hq) dv.pr;have h3:(Mx.g B q q).natAbs<=2^172:=by omega
 exact TB h3 (TV (by decide) (by decide))
theorem Cd:Tq pS 1 Dw vZ:=by
 rintro ds st K ⟨n,b,f,rfl,B,hb,nz,t0,k⟩;refine⟨rfl,?_⟩;refine⟨n,3,b,rfl,B,by omega,by decide,by decide,λ r1 st1 a0 a1 B1 U1=>dW ?_⟩;refine⟨n,3,_,rfl,B1,by omega,by decide,by decide,λ r2 st2 c0 c1 B2 U2=>dW ⟨Ts rfl,_,rfl,?_⟩⟩;refine⟨n,16,_,rfl,B2,by omega,by decide,by decide,λ r3 st3 d0 d1 B3 U3=>?_⟩;have t3:st3[0]?=some (cS f):=(((U1.trans U2).trans U3).same 0 (TK nz)).trans t0;obtain⟨i1,rfl⟩:=UJ a0;obtain⟨i2,rfl⟩:=UJ c0;clear U1 U2 U3 B1 B2;refine eq2 (λ h=>dj ?_) λ h=>?_
 . refine⟨n,2,_,rfl,B3,by omega,by decide,by decide,λ r4 st4 e0 e1 B4 U4=>dW ?_⟩;refine⟨n,2,_,rfl,B4,by omega,by decide,by decide,λ r5 st5 g0 g1 B5 U5=>dW ⟨Ts rfl,_,rfl,?_⟩⟩;obtain⟨i4,rfl⟩:=UJ e0;obtain⟨i5,rfl⟩:=UJ g0;refine cN ⟨by omega,by omega⟩ ⟨aY (by rw[cw];omega),?_⟩;rw[show(6+(i4:Int)).toNat=6+i4 by omega];refine yi (w:=6+i5) (M:=2) (by omega) (λ d s b' Bs hb' K' q=>⟨_,rfl,cN ⟨by omega,by omega⟩ ⟨aY (by rw[cw];omega),?_⟩⟩) B5 λ A s hA bA Bs Us=>?_
   . rw[show(6+(i5:Int)).toNat=6+i5 by omega];refine va (M:=2) (by omega) (λ d2 s2 b2 Bs2 hb2 K2 q2=>⟨_,rfl,n,5,_,rfl,Bs2,by omega,by decide,by decide,λ y s3 y0 y1 B7 U7=>pF (q2 _ _ (by omega) (B7.mono (by omega)) U7)⟩) Bs λ r s2 lr br B7 U7=>cf rfl (q r s2 lr br B7 U7)
   . have lA:=hA.len;have ts:s[0]?=some (cS f):=(((U4.trans U5).trans Us).same 0 (TK nz)).trans t3;have b2:∀i j,i<6+i4->j<6+i5->(Mx.g A i j).natAbs<=2^6:=λ i j hi hj=>TB (Gu hA bA i j hi hj) (by decide);refine cf rfl ⟨_,A,6+i4,6+i5,f,rfl,λ _=>cM,hA,by omega,by omega,by omega,by omega,.inr b2,ts,λ st' B' L Lb R Rb r dv K4=>⟨Ts rfl,?_⟩⟩;obtain⟨f4,t4⟩:=K4.tb;exact k st' A _ _ _ L Lb R Rb f4 ⟨hA,by omega,by omega,by omega,by omega,λ r hr c hc=>TB (bA r hr c hc) (by decide)⟩ (IZ dv) ((Bs.cell (K4.fr n Bs.lt nz)).mono (by omega)) t4
 refine⟨n,2,_,rfl,B3,by omega,by decide,by decide,λ r4 st4 e0 e1 B4 U4=>?_⟩;have t4:st4[0]?=some (cS f):=(U4.same 0 (TK nz)).trans t3;clear U4 B3 t3;refine eq2 (λ h=>dj ?_) λ h=>?_
 . refine cN ⟨by omega,by omega⟩ ⟨aY (by rw[cw];omega),?_⟩;rw[show(1+(i1:Int)).toNat=1+i1 by omega];refine yi (w:=1+i2) (M:=1000000000000) (by omega) (λ d s b' Bs hb' K' q=>⟨_,rfl,cN ⟨by omega,by omega⟩ ⟨aY (by rw[cw];omega),?_⟩⟩) B4 λ A s hA bA Bs Us=>?_
   . rw[show(1+(i2:Int)).toNat=1+i2 by omega];refine va (M:=1000000000000) (by omega) (λ d2 s2 b2 Bs2 hb2 K2 q2=>⟨_,rfl,n,_,rfl,Bs2,by omega,λ y s3 hy B7 U7=>q2 _ _ hy B7 U7⟩) Bs λ r s2 lr br B7 U7=>cf rfl (q r s2 lr br B7 U7)
   . have lA:=hA.len;have ts:s[0]?=some (cS f):=(Us.same 0 (TK nz)).trans t4;have b2:∀i j,i<1+i1->j<1+i2->(Mx.g A i j).natAbs<=2^40:=λ i j hi hj=>TB (Gu hA bA i j hi hj) (by decide);refine cf rfl ⟨_,A,1+i1,1+i2,f,rfl,λ _=>cM,hA,by omega,by omega,by omega,by omega,.inl ⟨by omega,b2⟩,ts,λ st' B' L Lb R Rb r dv K4=>⟨Ts rfl,?_⟩⟩;obtain⟨f4,t4⟩:=K4.tb;exact k st' A _ _ _ L Lb R Rb f4 ⟨hA,by omega,by omega,by omega,by omega,λ r hr c hc=>TB (bA r hr c hc) (by decide)⟩ (IZ dv) ((Bs.cell (K4.fr n Bs.lt nz)).mono (by omega)) t4
 refine vC (dW ?_);rw[show(if(1+(i2:Int))<(1+(i1:Int))then(1+(i2:Int))else 1+(i1:Int))=((min (1+i1) (1+i2):Nat):Int) by split<;>omega];refine⟨n,_,_,rfl,B4,by omega,by omega,by omega,λ r5 st5 g0 g1 B5 U5=>?_⟩;obtain⟨i5,rfl⟩:=UJ g0;refine cN ⟨by omega,by omega⟩ ⟨aY (by rw[cw];omega),?_⟩;rw[TZ];refine va (M:=12) (by omega) (λ d2 s2 b2 Bs2 hb2 K2 q2=>⟨_,rfl,Ts rfl,n,6,_,rfl,Bs2,by omega,by decide,by decide,λ y s3 y0 y1 B7 U7=>?_⟩) B5 λ ns s6 ln bn B6 U6=>?_
 . obtain⟨c,ec,hc⟩:∃c:Int,d6 [D.int 1,.int 2,.int 3,.int 4,.int 6,.int 12] y=some (.int c)/\c.natAbs<=12:=by
    have:y=0\/y=1\/y=2\/y=3\/y=4\/y=5:=by omega
    rcases this with rfl|rfl|rfl|rfl|rfl|rfl
    . exact⟨1,rfl,by decide⟩
    . exact⟨2,rfl,by decide⟩
    . exact⟨3,rfl,by decide⟩
    . exact⟨4,rfl,by decide⟩
    . exact⟨6,rfl,by decide⟩
    . exact⟨12,rfl,by decide⟩
   exact aE rfl ec (q2 _ _ hc (B7.mono (by omega)) U7)
 have t6:s6[0]?=some (cS f):=((U5.trans U6).same 0 (TK nz)).trans t4;refine cf rfl ⟨1+i1,?_,by omega,⟨1+i1,?_,by omega,⟨1+i2,?_,by omega,⟨1+i2,?_,by omega,⟨Ts rfl,?_⟩⟩⟩⟩⟩
 . rw[Wd];rfl
 . rw[Wd];rfl
 . rw[Wd];rfl
 . rw[Wd];rfl
 refine⟨bj ns,ns,1+i1,1+i2,?_,λ _=>rfl,by omega,by omega,by omega,λ s7 X7=>⟨Ts rfl,dF (Ts rfl) ⟨Ts rfl,?_⟩⟩⟩
 . rw[Wd,Wd];rfl
 refine k s7 _ (1+i1) (1+i2) ns _ _ _ _ f ⟨Mx.iG,by omega,by omega,by omega,by omega,FP Mx.iG λ i j hi hj=>?_⟩ ⟨by omega,by omega,λ x hx=>TB (bn x hx) (TB (show 12<=2^4 by decide) (TV (by decide) (by decide))),Mx.bI _,Mx.bI _,Mx.bI _,Mx.bI _,qz,qz,qz,qz⟩ ((B6.cell (X7.same n B6.lt)).mono (by omega)) ((X7.same 0 (Tt.mp t6).1).trans t6);rw[Mx.mH hi hj];split
 . rename_i h;exact TB (bn _ (getD_mem h.2)) (by decide)
 . decide
theorem dG{xs:List D}{lo hi:Option Int}{x:D}(h:x∈cutD xs lo hi):x∈xs:=List.mem_of_mem_drop (List.mem_of_mem_take h)
theorem jX{xs:List D}{lo hi:Option Int}:(cutD xs lo hi).length<=xs.length:=by
 unfold L3.cutD;rw[UY,Wm];omega
theorem pick{xs:List D}{r:Int}(h0:0<=r)(h1:r<xs.length):∃d,d∈xs/\d6 xs r=some d:=by
 obtain⟨k,rfl⟩:=UJ h0;have hk:k<xs.length:=by omega
 exact⟨xs[k],Vf _,gB (TM hk)⟩
theorem lJ{i:Int}:Flat (.int i):=λ _=>⟨⟨_,rfl⟩,rfl⟩
def jf:bQ:=λ ds st K=>∃(n:Nat) (b:Int) (ns:List Int),ds=[.ref n,bj ns]/\Bx st n b/\b<=900000/\ns.length<=8/\(∀x∈ns,x.natAbs<=2^62000000)/\∀d st',fV d->Bx st' n (b+1)->Upd st n st'->K d st'
def mB:List Str:=["_law_source_here","_law_numbers","_law_some"]
def tM:DS:=(az (bJ 2 (gJ (aa (aj bT (ab 1) (cL (aa (dC (.int 0)) af))) (aa (aj bT (cL (aa (dC (.int 1)) af)) (ab 1)) (aa (a9 cy (aa (cj (c9 (ab 1)) [none] (aK 0) bf (aj eN (dC (.int 2)) (ab 0))) af)) (aa (cm (ab 1) bS (cQ (jc fF (dC (.int 1))))) (aa (cm (ab 1) (cQ (dC (.int 1))) bS) af)))))))
 (az (bJ 2 (aj bT (ab 2) (gJ (aa (a9 cy (aa (cj (c9 (ab 1)) [none] (aK 0) bf (jc fF (ab 0))) af)) (aa (a9 CC (aa (ab 1) af)) (aa (a9 mI (aa (ab 1) af)) (aa (dC (.str "12")) (aa (dC .ax) (aa (dC (.bl true)) (aa (dC (.int 1)) af))))))))))
 (az (bJ 2 (aj bT (ab 2) (gJ (aa (a9 cy (aa (cj (c9 (ab 1)) [none] (aK 0) bf (yn (aU (aj gc (ab 0) (dC (.int 1)))) (dC (.bl true)) (ab 0))) af)) (aa (cL (aa (ab 1) af)) (aa (aj bT (ab 1) (cL (aa (dC .ax) af))) af))))))
 (a7 (aj a_ (ab 2) (aq bz (aa (ab 0) (aa (dC (.int 15)) af))))))))
theorem gZ{d:D}{xs:List D}(h:Ls d xs)(l:xs.length<=1000)(q:∀x∈xs,Flat x):fV d:= .inr ⟨xs,h,l,λ x hx=> .inl (q x hx)⟩
theorem s_{ns:List Int}:∀x∈ao ns,Flat x:=λ x hx=>by
 obtain⟨a,_,rfl⟩:=T5.mp hx;exact lJ
def ND:D->D
 | .int a=> .int (2*a)
 |_=> .ax
def Nn:D->D
 | .int a=> .int (-a)
 |_=> .ax
def pZ:D->D
 | .int a=>if a=1 then .bl true else .int a
 |_=> .ax
def M6:D->D
 | .int a=> .int (a+1)
 |_=> .ax
theorem Gr{ns:List Int}{st:ae}{K:List D->ae->Prop}(k:K ((ao ns).map ND) st):bO (aK 0) bf (aj eN (dC (.int 2)) (ab 0)) (λ _=>True) [none] (ao ns) [] st K:=comp_map (g:=ND) trivial _ (λ d hd K' q=>by
 obtain⟨a,_,rfl⟩:=T5.mp hd;exact⟨_,rfl,fC (jS (by decide) (by decide)) q⟩) k
theorem BE{ns:List Int}{st:ae}{K:List D->ae->Prop}(k:K ((ao ns).map Nn) st):bO (aK 0) bf (jc fF (ab 0)) (λ _=>True) [none] (ao ns) [] st K:=comp_map (g:=Nn) trivial _ (λ d hd K' q=>by
 obtain⟨a,_,rfl⟩:=T5.mp hd;exact⟨_,rfl,jw q⟩) k
theorem ME{ns:List Int}{st:ae}{K:List D->ae->Prop}(k:K ((ao ns).map M6) st):bO (aK 0) bf (aj bT (ab 0) (dC (.int 1))) (λ _=>True) [none] (ao ns) [] st K:=comp_map (g:=M6) trivial _ (λ d hd K' q=>by
 obtain⟨a,_,rfl⟩:=T5.mp hd;exact⟨_,rfl,dW q⟩) k
theorem FX{ns:List Int}{st:ae}{K:List D->ae->Prop}(k:K ((ao ns).map pZ) st):bO (aK 0) bf (yn (aU (aj gc (ab 0) (dC (.int 1)))) (dC (.bl true)) (ab 0)) (λ _=>True) [none] (ao ns) [] st K:=comp_map (g:=pZ) trivial _ (λ d hd K' q=>by
 obtain⟨a,_,rfl⟩:=T5.mp hd;refine⟨_,rfl,eq2 (λ h=>dj ?_) λ h=>?_⟩
 . have e:pZ (.int a)= .bl true:=TC h;rw[e]at q;exact q
 . have e:pZ (.int a)= .int a:=Tv h;rw[e]at q;exact q) k
theorem Ai{f:D->D}{ns:List Int}(h:∀a:Int,Flat (f (.int a))):∀x∈(ao ns).map f,Flat x:=λ x hx=>by
 obtain⟨y,hy,rfl⟩:=T5.mp hx;obtain⟨a,_,rfl⟩:=T5.mp hy;exact h a
theorem NL(a:Int):Flat (pZ (.int a)):=by
 by_cases h:a=1
 . rw[show pZ (.int a)= .bl true from TC h];exact λ _=>⟨⟨_,rfl⟩,rfl⟩
 . rw[show pZ (.int a)= .int a from Tv h];exact lJ
theorem g5{i:Nat}{σ:bF}{st:ae}{K:DK}{d:D}(h:σ[i]?=some (some d))(k:K d st):ab i σ st K:=by
 unfold ab;simp only[h];exact k
theorem Lf{k:Nat}{te:DE}{B:DS}{E:k6}{σ:bF}{st:ae}(h:te σ st λ d st1=>B E (σ.set k (some d)) st1):az (bJ k te) B E σ st:=h
theorem II{i:Nat}{xs:List D}{σ:bF}{st:ae}{K:DK}{lo hi:DO}{l h:Option Int}(hv:σ[i]?=some (some (.tup xs)))(hl:∀K',K' l st->lo σ st K')(hh:∀K',K' h st->hi σ st K')(q:K (.tup (L3.cutD xs l h)) st):cm (ab i) lo hi σ st K:=by
 unfold cm;exact g5 hv (hl _ (hh _ (fR q)))
theorem MP{i:Nat}{xs:List D}{σ:bF}{st:ae}{K:DK}(h:σ[i]?=some (some (.tup xs)))(q:K (.tup (L3.cutD xs none (some (-1)))) st):cm (ab i) bS (cQ (jc fF (dC (.int 1)))) σ st K:=by
 unfold cm;refine g5 h ?_;unfold bS cQ jc;exact jw (fR q)
theorem DB{i:Nat}{xs:List D}{σ:bF}{st:ae}{K:DK}(h:σ[i]?=some (some (.tup xs)))(q:K (.tup (L3.cutD xs (some 1) none)) st):cm (ab i) (cQ (dC (.int 1))) bS σ st K:=by
 unfold cm;refine g5 h ?_;unfold bS cQ;exact fR q
theorem G0{i:Nat}{xs:List D}{σ:bF}{st:ae}{K:List D->ae->Prop}{ta:DA}(h:σ[i]?=some (some (.tup xs)))(q:ta σ st λ ds st2=>K (.tup (L3.cutD xs none (some (-1)))::ds) st2):aa (cm (ab i) bS (cQ (jc fF (dC (.int 1))))) ta σ st K:=by
 unfold aa;exact MP h q
theorem Nw{i:Nat}{xs:List D}{σ:bF}{st:ae}{K:List D->ae->Prop}{ta:DA}(h:σ[i]?=some (some (.tup xs)))(q:ta σ st λ ds st2=>K (.tup (L3.cutD xs (some 1) none)::ds) st2):aa (cm (ab i) (cQ (dC (.int 1))) bS) ta σ st K:=by
 unfold aa;exact DB h q
theorem rg{xs ys:List D}(h:∀x∈xs,Flat x)(q:∀y∈ys,Flat y):∀z∈xs++ys,Flat z:=λ z hz=>(Uh.mp hz).elim (h z) (q z)
theorem wa{d:D}(h:Flat d):∀x∈[d],Flat x:=λ x hx=>by rw[UI.mp hx];exact h
theorem EW{i:Int}(h:i.natAbs<=2^62000001):o9 (.int i):=⟨λ _=>⟨_,rfl⟩,λ j e=>by cases e;exact TB h (TV (by decide) (by decide))⟩
theorem nY{i:Int}(h:i.natAbs<=2^62000000):o9 (.int i):=EW (TB h (TV (by decide) (by decide)))
theorem oJ{r:List Int}(l:r.length<=1000)(h:∀x∈r,x.natAbs<=2^62000000):jY (bj r):= .inr ⟨_,.inl rfl,by rw[Tw];exact l,λ x hx=>by
 obtain⟨a,ha,rfl⟩:=T5.mp hx;exact nY (h a ha)⟩
theorem rk:Tq jf 2 tM mB:=by
 rintro ds st K ⟨n,b,ns,rfl,B,hb,l8,bn,k⟩;refine⟨rfl,?_⟩;have ld:(ao ns).length<=8:=by rw[Tw];exact l8
 have sz:∀ {m:Nat},m<=9->(ao ns).length+m<=sizeLine:=λ h=>aY (by omega);have sz2:∀ {m:Nat},m<=9->m+(ao ns).length<=sizeLine:=λ h=>aY (by omega);refine⟨Ts rfl,dF (sz (Ts rfl)) ⟨Ts rfl,dF (sz2 (Ts rfl)) ?_⟩⟩;refine fz ⟨aY (by omega),?_⟩;refine Gr ?_;refine cf rfl ?_;refine G0 (xs:=ao ns) rfl ?_;refine Nw (xs:=ao ns) rfl ?_;refine⟨Ts rfl,?_⟩;refine fz ⟨aY (by omega),?_⟩;refine BE ?_;refine cf rfl ?_;dsimp only[aa,a9,af];refine g5 (d:=bj ns) rfl ?_;refine Qe (T4 _) ?_;refine g5 (d:=bj ns) rfl ?_;refine oO rfl ?_;refine⟨Ts rfl,pA (Ts rfl) ?_⟩;refine fz ⟨aY (by omega),?_⟩;refine FX ?_;refine cf rfl ?_;refine⟨Ts rfl,Ts rfl,dF (sz (Ts rfl)) ?_⟩;refine⟨Ts rfl,pA (Ts rfl) ?_⟩;refine⟨n,15,b,rfl,B,by omega,by decide,by decide,λ r st1 r0 r1 B1 U1=>?_⟩
 have fin:∀xs:List D,xs.length=15->(∀d∈xs,fV d)->a_ (.lst xs) (.int r) st1 K:=λ xs hl hT=>by
  obtain⟨v,hv,ev⟩:=pick (xs:=xs) r0 (by omega);exact aE rfl ev (k v st1 (hT v hv) B1 U1)
 refine fin _ rfl λ d hd=>?_;simp only[Uh,TU,T3,Ve]at hd;have fi:∀x∈ao ns,Flat x:=s_;have lm:∀f:D->D,((ao ns).map f).length<=1000:=λ f=>by rw[Tw];omega
 have fx:∀d:D,(∀st,Any st d)->(∀st,items? st d=none)->fV d:=λ d h q=> .inl λ st=>⟨h st,q st⟩
 rcases hd with((rfl|rfl|rfl|rfl|rfl)|(rfl|rfl|rfl|rfl|rfl|rfl|rfl))|(rfl|rfl|rfl)
 . exact gZ (.inl rfl) (by rw[Ud];simp;omega) (rg fi (wa lJ))
 . exact gZ (.inl rfl) (by rw[Ud];simp;omega) (rg (wa lJ) fi)
 . exact gZ (.inl rfl) (lm _) (Ai λ a=>lJ)
 . exact gZ (.inl rfl) (TB jX (by omega)) λ x hx=>fi x (dG hx)
 . exact gZ (.inl rfl) (TB jX (by omega)) λ x hx=>fi x (dG hx)
 . exact gZ (.inl rfl) (lm _) (Ai λ a=>lJ)
 . exact gZ (.inl rfl) (by rw[List.length_reverse];omega) λ x hx=>fi x (List.mem_reverse.mp hx)
 . exact gZ (.inr rfl) (by omega) fi
 . exact fx _ (λ _=>⟨_,rfl⟩) λ _=>rfl
 . exact fx _ (λ _=>⟨_,rfl⟩) λ _=>rfl
 . exact fx _ (λ _=>⟨_,rfl⟩) λ _=>rfl
 . exact fx _ (λ _=>⟨_,rfl⟩) λ _=>rfl
 . exact gZ (.inl rfl) (lm _) (Ai NL)
 . exact .inr ⟨_,.inl rfl,Ts rfl,λ x hx=>by rw[UI.mp hx];exact oJ (by omega) bn⟩
 . exact gZ (.inl rfl) (by rw[Ud];simp;omega) (rg fi (wa λ _=>⟨⟨_,rfl⟩,rfl⟩))
def kK:bQ:=λ ds st K=>∃(n:Nat) (b:Int) (A:List (List Int)) (N:Nat),ds=[.ref n,au A]/\Bx st n b/\b<=900000/\Mx.aP N N A/\1<=N/\N<=8/\Bg A 62000000/\∀d st',fV d->Bx st' n (b+3)->Upd st n st'->K d st'
def oU:List Str:=["_law_source_here","_law_rows","_law_i","_law_one","_law_more","_law_how"]
def xv:DS:=(az (bJ 2 (aq bz (aa (ab 0) (aa (a9 cY (aa (ab 1) af)) af))))
 (az (bJ 3 (aj a_ (ab 1) (ab 2)))
 (az (bJ 4 (gJ (aa (cj (c9 (ab 3)) [none] (aK 0) bf (jc fF (ab 0))) (aa (cj (c9 (ab 3)) [none] (aK 0) bf (aj eN (dC (.int 2)) (ab 0))) (aa (cm (ab 3) bS (cQ (jc fF (dC (.int 1))))) (aa (aj bT (ab 3) (cL (aa (dC (.int 0)) af))) (aa (cj (c9 (ab 3)) [none] (aK 0) bf (yn (aU (aj gc (ab 0) (dC (.int 1)))) (dC (.bl true)) (ab 0))) (aa (dC (.str "1")) af))))))))
 (az (bJ 4 (aj bT (ab 4) (gJ (aa (dC .ax) (aa (a9 mI (aa (ab 3) af)) (aa (aj a_ (ab 3) (dC (.int 0))) (aa (aj bT (cL (aa (dC (.str "1")) af)) (cm (ab 3) (cQ (dC (.int 1))) bS)) (aa (aj bT (cL (aa (dC .ax) af)) (cm (ab 3) (cQ (dC (.int 1))) bS)) (aa (cj (c9 (ab 3)) [none] (aK 0) bf (aj bT (ab 0) (dC (.int 1)))) af)))))))))
 (az (bJ 5 (aq bz (aa (ab 0) (aa (dC (.int 16)) af))))
 (az (cZ (aU (aj my (ab 5) (dC (.int 12)))) (a7 (aj bT (aj bT (cm (ab 1) bS (cQ (ab 2))) (cL (aa (aj a_ (ab 4) (ab 5)) af))) (cm (ab 1) (cQ (aj bT (ab 2) (dC (.int 1)))) bS))) cv)
 (a7 (aj a_ (gJ (aa (cm (ab 1) bS (cQ (jc fF (dC (.int 1))))) (aa (aj bT (ab 1) (cL (aa (ab 3) af))) (aa (aj bT (cm (ab 1) (cQ (dC (.int 1))) bS) (cm (ab 1) bS (cQ (dC (.int 1))))) (aa (aj a_ (gJ (aa (dC .ax) (aa (dC (.str "rows")) (aa (dC (.int 0)) (aa (cL af) af))))) (aq bz (aa (ab 0) (aa (dC (.int 4)) af)))) af))))) (aj nr (ab 5) (dC (.int 12)))))))))))
theorem sV{xs ys:List D}(h:∀x∈xs,o9 x)(q:∀y∈ys,o9 y):∀z∈xs++ys,o9 z:=λ z hz=>(Uh.mp hz).elim (h z) (q z)
theorem vn{d:D}(h:o9 d):∀x∈[d],o9 x:=λ x hx=>by rw[UI.mp hx];exact h
theorem pC{xs ys:List D}(h:∀x∈xs,jY x)(q:∀y∈ys,jY y):∀z∈xs++ys,jY z:=λ z hz=>(Uh.mp hz).elim (h z) (q z)
theorem zV{d:D}(h:jY d):∀x∈[d],jY x:=λ x hx=>by rw[UI.mp hx];exact h
theorem M_{n:Nat}{a:Int}(h:a.natAbs<=2^n):(2*a).natAbs<=2^(n+1):=by
 rw[Vh];generalize 2^n=P at h⊢;omega
theorem Nd{n:Nat}{a:Int}(h:a.natAbs<=2^n):(a+1).natAbs<=2^(n+1):=by
 have h1:1<=2^n:=Vz;rw[Vh];generalize 2^n=P at h h1⊢;omega
theorem PU{a:Int}(h:a.natAbs<=2^62000000):(2*a).natAbs<=2^62000001:=TB (M_ h) (TV (by decide) (show 62000000+1<=62000001 by decide))
theorem QP{a:Int}(h:a.natAbs<=2^62000000):(a+1).natAbs<=2^62000001:=TB (Nd h) (TV (by decide) (show 62000000+1<=62000001 by decide))
theorem sG{f:D->D}{r:List Int}(h:∀a∈r,o9 (f (.int a))):∀x∈(ao r).map f,o9 x:=λ x hx=>by
 obtain⟨y,hy,rfl⟩:=T5.mp hx;obtain⟨a,ha,rfl⟩:=T5.mp hy;exact h a ha
theorem D8{d:D}(h:∀st,Any st d)(q:∀i,d≠ .int i):o9 d:=⟨h,λ i e=>absurd e (q i)⟩
theorem wB:Tq kK 2 xv oU:=by
 rintro ds st K ⟨n,b,A,N,rfl,B,hb,hA,n1,n8,bA,k⟩;refine⟨rfl,?_⟩;have lA:=hA.len;have lM:(A.map bj).length=N:=by rw[Tw];exact lA
 refine cq rfl ⟨n,_,b,rfl,B,by omega,by omega,by omega,λ i st1 i0 i1 B1 U1=>?_⟩;obtain⟨i,rfl⟩:=UJ i0;have hi:i<A.length:=by omega
 refine aE rfl (i9 hi) ?_;have hm:A.getD i []∈A:=by rw[Mx.aJ hi];exact Vf _
 have lr:=hA.fw _ hm;have br:=bA _ hm;generalize A.getD i []=r at hm lr br;have ld:(ao r).length=N:=by rw[Tw];exact lr
 have rT:jY (bj r):=oJ (by omega) br
 have aT:∀x∈A.map bj,jY x:=λ x hx=>by
  obtain⟨q,hq,rfl⟩:=T5.mp hx;exact oJ (by rw[hA.fw q hq];omega) (bA q hq)
 have t0:∀x∈ao r,o9 x:=λ x hx=>by
  obtain⟨a,ha,rfl⟩:=T5.mp hx;exact nY (br a ha)
 have sz:∀ {m:Nat},m<=9->(ao r).length+m<=sizeLine:=λ h=>aY (by omega);have sz2:∀ {lo hi:Option Int},[D.ax].length+(cutD (ao r) lo hi).length<=sizeLine:=λ{lo hi}=>aY (by have:=jX (xs:=ao r) (lo:=lo) (hi:=hi);simp only[UC];omega);refine fz ⟨aY (by omega),?_⟩;refine BE ?_;refine fz ⟨aY (by omega),?_⟩;refine Gr ?_;refine G0 (xs:=ao r) rfl ?_;refine⟨Ts rfl,dF (sz (Ts rfl)) ?_⟩;refine fz ⟨aY (by omega),?_⟩;refine FX ?_;refine⟨Ts rfl,?_⟩;dsimp only;refine Lf ?_;dsimp only[aj,gJ,cL,aa,a9,af,dC];refine g5 (i:=4) rfl ?_;refine g5 (i:=3) (d:=bj r) rfl ?_;refine oO rfl ?_;refine g5 (i:=3) (d:=bj r) rfl ?_;refine aE rfl (gw (k:=0) (by omega)) ?_;refine⟨Ts rfl,?_⟩;refine DB (xs:=ao r) rfl ?_;refine dF sz2 ?_;refine⟨Ts rfl,?_⟩;refine DB (xs:=ao r) rfl ?_;refine dF sz2 ?_;refine fz ⟨aY (by omega),?_⟩;refine ME ?_;refine⟨Ts rfl,pA (Ts rfl) ?_⟩;refine⟨n,16,_,rfl,B1,by omega,by decide,by decide,λ how st2 h0 h1 B2 U2=>?_⟩;have U12:=U1.trans U2;have cA:∀ {lo hi:Option Int},(cutD (A.map bj) lo hi).length<=8:=λ{lo hi}=>by have:=jX (xs:=A.map bj) (lo:=lo) (hi:=hi);omega
 have fin:∀xs:List D,xs.length=12->(∀d∈xs,jY d)->(az (cZ (aU (aj my (ab 5) (dC (.int 12)))) (a7 (aj bT (aj bT (cm (ab 1) bS (cQ (ab 2))) (cL (aa (aj a_ (ab 4) (ab 5)) af))) (cm (ab 1) (cQ (aj bT (ab 2) (dC (.int 1)))) bS))) cv) (a7 (aj a_ (gJ (aa (cm (ab 1) bS (cQ (jc fF (dC (.int 1))))) (aa (aj bT (ab 1) (cL (aa (ab 3) af))) (aa (aj bT (cm (ab 1) (cQ (dC (.int 1))) bS) (cm (ab 1) bS (cQ (dC (.int 1))))) (aa (aj a_ (gJ (aa (dC .ax) (aa (dC (.str "rows")) (aa (dC (.int 0)) (aa (cL af) af))))) (aq bz (aa (ab 0) (aa (dC (.int 4)) af)))) af))))) (aj nr (ab 5) (dC (.int 12)))))) {nx:=λ _ st'=>K .ax st',rt:=K} [some (.ref n),some (au A),some (.int i),some (bj r),some (.lst xs),some (.int how)] st2:=λ xs hl hT=>by
  refine xN (λ h=>dj ?_) λ h=>?_
  . obtain⟨v,hv,ev⟩:=pick (xs:=xs) h0 (by omega);dsimp only[a7,aj,cL,aa,af];refine II (xs:=A.map bj) (l:=none) (h:=some (i:Int)) rfl (λ _ z=>z) (λ _ z=>z) ?_;refine g5 (i:=4) rfl (g5 (i:=5) rfl ?_);refine aE rfl ev ?_;refine⟨Ts rfl,?_⟩;refine dF (aY (by have:=cA (lo:=none) (hi:=some (i:Int));simp only[UC];omega)) ?_;refine II (xs:=A.map bj) (l:=some ((i:Int)+1)) (h:=none) rfl (λ _ z=>dW z) (λ _ z=>z) ?_;refine dF (aY (by have:=cA (lo:=none) (hi:=some (i:Int));have:=cA (lo:=some ((i:Int)+1)) (hi:=none);rw[Ud];simp only[UC];omega)) ?_;refine k _ st2 (.inr ⟨_,.inl rfl,?_,pC (pC (λ x hx=>aT x (dG hx)) (zV (hT v hv))) λ x hx=>aT x (dG hx)⟩) (B2.mono (by omega)) U12;have:=cA (lo:=none) (hi:=some (i:Int));have:=cA (lo:=some ((i:Int)+1)) (hi:=none);rw[Ud,Ud];simp only[UC];omega
  . dsimp only[cv];dsimp only[a7,aj,gJ,cL,aa,af];refine MP (xs:=A.map bj) rfl ?_;refine g5 (i:=1) (d:=au A) rfl (g5 (i:=3) (d:=bj r) rfl ⟨Ts rfl,?_⟩);refine dF (aY (by simp only[UC];omega)) ?_;refine DB (xs:=A.map bj) rfl ?_;refine II (xs:=A.map bj) (l:=none) (h:=some 1) rfl (λ _ z=>z) (λ _ z=>z) ?_;refine dF (aY (by have:=cA (lo:=some 1) (hi:=none);have:=cA (lo:=none) (hi:=some 1);omega)) ?_;refine⟨Ts rfl,Ts rfl,?_⟩;refine⟨n,4,_,rfl,B2,by omega,by decide,by decide,λ y st3 y0 y1 B3 U3=>?_⟩;obtain⟨v,hv,ev⟩:=pick (xs:=[D.ax,.str "rows",.int 0,.tup []]) y0 y1;refine aE rfl ev ⟨Ts rfl,pF ?_⟩
    have f4:∀ys:List D,ys.length=4->(∀d∈ys,fV d)->a_ (.lst ys) (.int (how-12)) st3 K:=λ ys hl hT=>by
     obtain⟨v,hv,ev⟩:=pick (xs:=ys) (r:=how-12) (by omega) (by omega);exact aE rfl ev (k v st3 (hT v hv) (B3.mono (by omega)) (U12.trans U3))
    refine f4 _ rfl λ d hd=>?_;simp only[TU,T3,Ve]at hd;rcases hd with rfl|rfl|rfl|rfl
    . exact .inr ⟨_,.inl rfl,TB cA (by decide),λ x hx=>aT x (dG hx)⟩
    . exact .inr ⟨_,.inl rfl,by rw[Ud];simp only[UC];omega,pC aT (zV rT)⟩
    . exact .inr ⟨_,.inl rfl,by have:=cA (lo:=some 1) (hi:=none);have:=cA (lo:=none) (hi:=some 1);rw[Ud];omega,pC (λ x hx=>aT x (dG hx)) λ x hx=>aT x (dG hx)⟩
    . simp only[TU,T3,Ve]at hv;rcases hv with rfl|rfl|rfl|rfl
      . exact .inl λ _=>⟨⟨_,rfl⟩,rfl⟩
      . exact .inl λ _=>⟨⟨_,rfl⟩,rfl⟩
      . exact .inl λ _=>⟨⟨_,rfl⟩,rfl⟩
      . exact .inr ⟨_,.inl rfl,T4 _,λ x hx=>by cases hx⟩
 refine fin _ rfl λ d hd=>?_;simp only[Uh,TU,T3,Ve]at hd;have lm:∀f:D->D,((ao r).map f).length<=1000:=λ f=>by rw[Tw];omega
 have lc:∀ {lo hi:Option Int},(cutD (ao r) lo hi).length<=8:=λ{lo hi}=>by have:=jX (xs:=ao r) (lo:=lo) (hi:=hi);omega
 rcases hd with(rfl|rfl|rfl|rfl|rfl|rfl)|(rfl|rfl|rfl|rfl|rfl|rfl)
 . exact .inr ⟨_,.inr rfl,lm _,sG λ a ha=>nY (by rw[VM];exact br a ha)⟩
 . exact .inr ⟨_,.inr rfl,lm _,sG λ a ha=>EW (PU (br a ha))⟩
 . exact .inr ⟨_,.inl rfl,TB lc (by decide),λ x hx=>t0 x (dG hx)⟩
 . exact .inr ⟨_,.inl rfl,by rw[Ud];simp only[UC];omega,sV t0 (vn (nY (T4 _)))⟩
 . refine .inr ⟨_,.inr rfl,lm _,sG λ a ha=>?_⟩;by_cases h:a=1
   . rw[show pZ (.int a)= .bl true from TC h];exact D8 (λ _=>⟨_,rfl⟩) λ i e=>by cases e
   . rw[show pZ (.int a)= .int a from Tv h];exact nY (br a ha)
 . exact .inl λ _=>⟨⟨_,rfl⟩,rfl⟩
 . exact .inl λ _=>⟨⟨_,rfl⟩,rfl⟩
 . exact .inr ⟨_,.inr rfl,by omega,t0⟩
 . exact .inl lJ
 . exact .inr ⟨_,.inl rfl,by have:=lc (lo:=some 1) (hi:=none);rw[Ud];simp only[UC];omega,sV (vn (D8 (λ _=>⟨_,rfl⟩) λ i e=>by cases e)) λ x hx=>t0 x (dG hx)⟩
 . exact .inr ⟨_,.inl rfl,by have:=lc (lo:=some 1) (hi:=none);rw[Ud];simp only[UC];omega,sV (vn (D8 (λ _=>⟨_,rfl⟩) λ i e=>by cases e)) λ x hx=>t0 x (dG hx)⟩
 . exact .inr ⟨_,.inr rfl,lm _,sG λ a ha=>EW (QP (br a ha))⟩
def m9:bQ:=λ ds st K=>∃(n:Nat) (b:Int) (ns:List Int) (L Lb R Rb:List (List Int)) (N w:Nat),ds=[.ref n,pR ns L Lb R Rb]/\Bx st n b/\b<=800000/\TD ns L Lb R Rb N w/\1<=N/\N<=8/\1<=w/\w<=8/\∀d st',wj d->Bx st' n (b+20)->XU st n st'->K d st'
def rp:List Str:=["_law_source_here","_law_told","_law_made","_law_k","_law_at","_law_how"]
def Bv:DS:=(az (bJ 2 (a9 m7 (aa (ab 1) af)))
 (az (ia (cB (aa (aq bz (aa (ab 0) (aa (dC (.int 3)) af))) af)) (aK 3) (az (bJ 4 (aq bz (aa (ab 0) (aa (dC (.int 7)) af))))
 (cZ (aU (aj gc (ab 4) (dC (.int 0)))) (eK (ab 2) (dC (.int 0)) (aq jf (aa (ab 0) (aa (aj a_ (ab 1) (dC (.int 0))) af)))) (cZ (aU (aj my (ab 4) (dC (.int 5)))) (eK (ab 2) (ab 4) (aq kK (aa (ab 0) (aa (aj a_ (ab 1) (ab 4)) af)))) (cZ (aU (aj gc (ab 4) (dC (.int 5)))) (zk (rY (nQ (ab 2) (dC (.int 1))) (nQ (ab 2) (dC (.int 2)))) (cL (aa (aj a_ (ab 2) (dC (.int 2))) (aa (aj a_ (ab 2) (dC (.int 1))) af)))) (zk (rY (nQ (ab 2) (dC (.int 3))) (nQ (ab 2) (dC (.int 4)))) (cL (aa (aj a_ (ab 2) (dC (.int 4))) (aa (aj a_ (ab 2) (dC (.int 3))) af)))))))))
 (az (tH 2 (bJ 5 (aq bz (aa (ab 0) (aa (dC (.int 24)) af)))))
 (az (cZ (aU (aj my (ab 5) (dC (.int 6)))) (a7 (aj a_ (gJ (aa (cm (ab 2) bS (cQ (dC (.int 4)))) (aa (aj bT (ab 2) (gJ (aa (cL af) af))) (aa (aj bT (ab 2) (gJ (aa (aj a_ (ab 2) (dC (.int 4))) af))) (aa (dC .ax) (aa (dC (.str "told")) (aa (dC (.int 5)) af))))))) (ab 5))) cv)
 (a7 (yn (aU (aj my (ab 5) (dC (.int 12)))) (ab 2) (a9 cy (aa (ab 2) af))))))))
theorem kC{A:List (List Int)}{N:Nat}(hA:Mx.aP N N A)(n8:N<=8)(bA:Bg A 62000000):fV (au A):= .inr ⟨_,.inl rfl,by rw[Tw,hA.len];omega,λ x hx=>by
 obtain⟨q,hq,rfl⟩:=T5.mp hx;exact oJ (by rw[hA.fw q hq];omega) (bA q hq)⟩
theorem TD.th{ns:List Int}{L Lb R Rb:List (List Int)}{N w:Nat}(h:TD ns L Lb R Rb N w)(n8:N<=8)(w8:w<=8):∀x∈[bj ns,au L,au Lb,au R,au Rb],fV x:=λ x hx=>by
 have:=h.lN;simp only[TU,T3,Ve]at hx;rcases hx with rfl|rfl|rfl|rfl|rfl
 . exact gZ (.inl rfl) (by rw[Tw];omega) s_
 . exact kC h.iL n8 h.bL
 . exact kC h.lZ n8 h.Ka
 . exact kC h.iR w8 h.bR
 . exact kC h.kq w8 h.MZ
theorem mW{ys:List D}{i:Nat}{d:D}{P:D->Prop}(h:∀y∈ys,P y)(hd:P d):∀y∈ys.set i d,P y:=λ y hy=>(UQ hy).elim (h y) λ e=>by rw[e];exact hd
theorem yE:Tq m9 2 Bv rp:=by
 rintro ds st K ⟨n,b,ns,L,Lb,R,Rb,N,w,rfl,B,hb,td,n1,n8,w1,w8,k⟩;refine⟨rfl,?_⟩;have nl:=B.lt;have mn:st.length≠n:=by omega
 have lN:=td.lN;refine uZ rfl ?_;refine⟨n,3,b,rfl,B.cell (TF nl),by omega,by decide,by decide,λ r st1 r0 r1 B1 U1=>?_⟩;obtain⟨T,rfl⟩:=UJ r0;have e1:st1[st.length]?=some (.lst [bj ns,au L,au Lb,au R,au Rb]):=(U1.same _ mn).trans (by rw[Uc (Tu _),Vg];rfl);have X1:XU st n st1:=(XU.ext Ext.push).trans (XU.upd U1);refine cN ⟨by omega,by omega⟩ ?_;rw[TZ];refine gI T (λ j σ st'=>∃(ys:List D) (v3 v4:Option D),σ=[some (.ref n),some (pR ns L Lb R Rb),some (.ref st.length),v3,v4,none]/\ys.length=5/\(∀y∈ys,fV y)/\st'[st.length]?=some (.lst ys)/\Bx st' n (b+1+6*j)/\XU st n st') ?_ ?_ ⟨_,none,none,rfl,rfl,td.th n8 w8,e1,B1.mono (by simp),X1⟩
 . rintro σ st2 ⟨ys,v3,v4,rfl,l5,hT,e2,B2,X2⟩;obtain⟨y0,y1,y2,y3,y4,rfl⟩:=sW l5;refine O5 rfl e2 ?_;refine⟨n,24,_,rfl,B2.cell (Tx mn),by omega,by decide,by decide,λ how st3 h0 h1 B3 U3=>?_⟩;have X3:XU st n st3:=(X2.set (Tu _)).trans (XU.upd U3);have B4:Bx st3 n (b+20):=B3.mono (by omega);have fl:∀d:D,(∀st,Any st d)->(∀st,items? st d=none)->wj d:=λ d h q=> .inl λ st=>⟨h st,q st⟩
   refine xN (λ h=>dj ?_) λ h=>?_
   . refine FN ⟨Ts rfl,Ts rfl,pA (Ts rfl) (aE (xs:=[y0,y1,y2,y3,y4]) rfl rfl ⟨Ts rfl,pA (Ts rfl) ⟨Ts rfl,?_⟩⟩)⟩
     have f6:∀xs:List D,xs.length=6->(∀d∈xs,wj d)->a_ (.lst xs) (.int how) st3 K:=λ xs hl hT=>by
      obtain⟨v,hv,ev⟩:=pick (xs:=xs) h0 (by omega);exact aE rfl ev (k v st3 (hT v hv) B4 X3)
     refine f6 _ rfl λ d hd=>?_;simp only[TU,T3,Ve]at hd;have emp:fV (.tup []):= .inr ⟨_,.inl rfl,T4 _,λ x hx=>by cases hx⟩;rcases hd with rfl|rfl|rfl|rfl|rfl|rfl
     . exact .inr ⟨_,.inr rfl,TB jX (Ts rfl),λ x hx=>hT x (dG hx)⟩
     . exact .inr ⟨_,.inr rfl,Ts rfl,λ x hx=>(Uh.mp hx).elim (hT x) λ e=>by rw[UI.mp e];exact emp⟩
     . exact .inr ⟨_,.inr rfl,Ts rfl,λ x hx=>(Uh.mp hx).elim (hT x) λ e=>by rw[UI.mp e];exact hT _ (by simp)⟩
     . exact fl _ (λ _=>⟨_,rfl⟩) λ _=>rfl
     . exact fl _ (λ _=>⟨_,rfl⟩) λ _=>rfl
     . exact fl _ (λ _=>⟨_,rfl⟩) λ _=>rfl
   . refine xN (λ h2=>dj ?_) λ h2=>?_
     . exact k _ st3 (.inr ⟨_,.inr rfl,Ts rfl,hT⟩) B4 X3
     . exact cf rfl (k _ st3 (.inr ⟨_,.inl rfl,Ts rfl,hT⟩) B4 X3)
 . rintro j σ st2 rest hj ⟨ys,v3,v4,rfl,l5,hT,e2,B2,X2⟩ next
   refine⟨_,rfl,n,7,_,rfl,B2,by omega,by decide,by decide,λ at' st3 a0 a1 B3 U3=>?_⟩;have e3:=(U3.same _ mn).trans e2;have X3:=X2.trans (XU.upd U3);refine eq2 (λ h=>dj ?_) λ h=>?_
   . refine aE rfl rfl ⟨n,_,ns,rfl,B3,by omega,by omega,td.bn,λ d st4 dT B4 U4=>?_⟩;have e4:=(U4.same _ mn).trans e3;refine eh e4 (rf (by omega) (by rw[l5];decide)) ?_;exact next _ _ ⟨_,_,_,rfl,by rw[TQ];exact l5,mW hT dT,TJ (Tt.mp e4).1,(B4.cell (Tx mn)).mono (by omega),(X3.trans (XU.upd U4)).set (Tu _)⟩
   refine xN (λ h2=>dj ?_) λ h2=>?_
   . obtain⟨X,N',eX,iX,x1,x8,bX⟩:∃(X:List (List Int)) (N':Nat),d6 [bj ns,au L,au Lb,au R,au Rb] at'=some (au X)/\Mx.aP N' N' X/\1<=N'/\N'<=8/\Bg X 62000000:=by
      have:at'=1\/at'=2\/at'=3\/at'=4:=by omega
      rcases this with rfl|rfl|rfl|rfl
      . exact⟨L,N,rfl,td.iL,n1,n8,td.bL⟩
      . exact⟨Lb,N,rfl,td.lZ,n1,n8,td.Ka⟩
      . exact⟨R,w,rfl,td.iR,w1,w8,td.bR⟩
      . exact⟨Rb,w,rfl,td.kq,w1,w8,td.MZ⟩
     refine aE rfl eX ⟨n,_,X,N',rfl,B3,by omega,iX,x1,x8,bX,λ d st4 dT B4 U4=>?_⟩;have e4:=(U4.same _ mn).trans e3;refine eh e4 (rf (by omega) (by rw[l5];omega)) ?_;exact next _ _ ⟨_,_,_,rfl,by rw[TQ];exact l5,mW hT dT,TJ (Tt.mp e4).1,(B4.cell (Tx mn)).mono (by omega),(X3.trans (XU.upd U4)).set (Tu _)⟩
   obtain⟨y0,y1,y2,y3,y4,rfl⟩:=sW l5;have lt3:=(Tt.mp e3).1
   have fin:∀zs:List D,zs.length=5->(∀z∈zs,fV z)->∀c:Cell,∀E:bF,(∃v3 v4:Option D,E=[some (.ref n),some (pR ns L Lb R Rb),some (.ref st.length),v3,v4,none])->_:=λ zs hl hz c E hE=>next E ((st3.set st.length c).set st.length (.lst zs)) (by
    obtain⟨v3,v4,rfl⟩:=hE;exact⟨zs,_,_,rfl,hl,hz,TJ (by rw[TQ];exact lt3),(B3.cell ((Tx mn).trans (Tx mn))).mono (by omega),(X3.set (Tu _)).set (Tu _)⟩)
   refine eq2 (λ h3=>dj ?_) λ h3=>?_
   . refine aE (aX e3) rfl (aE (aX e3) rfl ⟨Ts rfl,?_⟩);refine eh e3 rfl (eh (TJ lt3) rfl ?_);exact fin _ rfl (mW (mW hT (hT _ (by simp))) (hT _ (by simp))) _ _ ⟨_,_,rfl⟩
   . refine aE (aX e3) rfl (aE (aX e3) rfl ⟨Ts rfl,?_⟩);refine eh e3 rfl (eh (TJ lt3) rfl ?_);exact fin _ rfl (mW (mW hT (hT _ (by simp))) (hT _ (by simp))) _ _ ⟨_,_,rfl⟩
def oo:bQ:=λ ds st K=>∃(ns:List Int) (L Lb R Rb:List (List Int)) (N w q:Nat),ds=[pR ns L Lb R Rb,.int q]/\TD ns L Lb R Rb N w/\N<=8/\w<=8/\q<ns.length/\∀d,wj d->K d st
def ur:List Str:=["_law_told","_law_k","_law_numbers","_law_left","_law_left_back","_law_right","_law_right_back"]
def BX:DS:=(az (uV (wx 2 3 4 5 6) (ab 0))
 (az (bJ 2 (aj bT (aj bT (cm (ab 2) bS (cQ (ab 1))) (cL (aa (jc fF (aj a_ (ab 2) (ab 1))) af))) (cm (ab 2) (cQ (aj bT (ab 1) (dC (.int 1)))) bS)))
 (az (bJ 3 (aj bT (aj bT (cm (ab 3) bS (cQ (ab 1))) (cL (aa (a9 cy (aa (cj (c9 (aj a_ (ab 3) (ab 1))) [none] (aK 0) bf (jc fF (ab 0))) af)) af))) (cm (ab 3) (cQ (aj bT (ab 1) (dC (.int 1)))) bS)))
 (az (bJ 4 (a9 cy (aa (cj (c9 (ab 4)) [none,some 1] (aK 0) bf (aj bT (aj bT (cm (ab 0) bS (cQ (ab 1))) (cL (aa (jc fF (aj a_ (ab 0) (ab 1))) af))) (cm (ab 0) (cQ (aj bT (ab 1) (dC (.int 1)))) bS))) af)))
 (a7 (cL (aa (ab 2) (aa (ab 3) (aa (ab 4) (aa (ab 5) (aa (ab 6) af)))))))))))
theorem FC{α:Type}{tg:ef}{te:DE}{ok:ae->Prop}{σc:bF}{st:ae}{K:List D->ae->Prop}(f h:α->D)(xs:List α)(aF:ok st)(hx:∀x∈xs,∀K',K' (h x) st->∃σ2,tg (f x) σc=some σ2/\te σ2 st K')(k:K (xs.map h) st):bO tg bf te ok σc (xs.map f) [] st K:=by
 refine eA (λ rest acc st'=>∃P R,st'=st/\xs=P++R/\rest=R.map f/\acc=P.map h) ?_ ?_ _ _ _ ⟨[],xs,rfl,rfl,rfl,rfl⟩
 . rintro acc st' ⟨P,R,rfl,e,hr,rfl⟩;have:R=[]:=List.map_eq_nil_iff.mp hr.symm;subst this;rw[Vb]at e;subst e;exact⟨aF,k⟩
 . rintro d rest acc st' ⟨P,R,rfl,e,hr,rfl⟩ next
   cases R with
   |nil=>cases hr
   |cons x R=>
    rw[Uj]at hr;simp only[VB]at hr;obtain⟨rfl,rfl⟩:=hr;obtain⟨σ2,h1,h2⟩:=hx x (by rw[e];simp) (λ y st2=>bO tg bf te ok σc (R.map f) (P.map h++[y]) st2 K) (next (P.map h++[h x]) _ ⟨P++[x],R,rfl,by rw[e];simp,rfl,by simp⟩);exact⟨aF,σ2,h1,h2⟩
theorem qw{xs:List D}{l1 h1 l2 h2:Option Int}{d:D}(l:xs.length<=8):(cutD xs l1 h1++[d]).length+(cutD xs l2 h2).length<=1000/\(cutD xs l1 h1).length+ [d].length<=1000/\(cutD xs l1 h1++[d]++cutD xs l2 h2).length<=1000:=by
 have a:=jX (xs:=xs) (lo:=l1) (hi:=h1);have b:=jX (xs:=xs) (lo:=l2) (hi:=h2);simp only[Ud,UC];omega
theorem zE:Tq oo 2 BX ur:=by
 rintro ds st K ⟨ns,L,Lb,R,Rb,N,w,q,rfl,td,n8,w8,hq,k⟩;refine⟨rfl,_,rfl,?_⟩;have lN:=td.lN;have lL:=td.iL.len;have lLb:=td.lZ.len;have l1:(ao ns).length<=8:=by rw[Tw];omega
 have l2:(L.map bj).length<=8:=by rw[Tw];omega
 have hL:q<L.length:=by omega
 have hm:L.getD q []∈L:=by rw[Mx.aJ hL];exact Vf _
 have lr:=td.iL.fw _ hm;have br:=td.bL _ hm;refine fR (aE rfl (gw hq) (jw ⟨Ts rfl,dF (aY (qw (l2:=none) (h2:=none) l1).2.1) (dW (fR (dF (aY (qw l1).1) ?_)))⟩));refine fR (aE rfl (i9 hL) (fz ⟨aY (by rw[Tw];omega),BE (cf rfl ⟨Ts rfl,dF (aY (qw (l2:=none) (h2:=none) l2).2.1) (dW (fR (dF (aY (qw l2).1) ?_)))⟩)⟩));refine fz ⟨aY (by rw[Tw];omega),?_⟩;refine FC bj (λ r=> .tup (cutD (ao r) none (some (q:Int))++[.int (-(r.getD q 0))]++cutD (ao r) (some ((q:Int)+1)) none)) Lb trivial (λ r hr K' z=>⟨_,rfl,?_⟩) ?_
 . have lr:=td.lZ.fw r hr;have l3:(ao r).length<=8:=by rw[Tw];omega
   exact fR (aE rfl (gw (by omega)) (jw ⟨Ts rfl,dF (aY (qw (l2:=none) (h2:=none) l3).2.1) (dW (fR (dF (aY (qw l3).1) z)))⟩))
 refine cf rfl ⟨Ts rfl,k _ (.inr ⟨_,.inl rfl,Ts rfl,λ x hx=>?_⟩)⟩
 have aT:∀x∈L.map bj,jY x:=λ x hx=>by
  obtain⟨q,hq,rfl⟩:=T5.mp hx;exact oJ (by rw[td.iL.fw q hq];omega) (td.bL q hq)
 simp only[TU,T3,Ve]at hx;rcases hx with rfl|rfl|rfl|rfl|rfl
 . exact gZ (.inl rfl) (qw l1).2.2 (rg (rg (λ x hx=>s_ x (dG hx)) (wa lJ)) λ x hx=>s_ x (dG hx))
 . refine .inr ⟨_,.inl rfl,(qw l2).2.2,pC (pC (λ x hx=>aT x (dG hx)) (zV ?_)) λ x hx=>aT x (dG hx)⟩;exact .inr ⟨_,.inl rfl,by rw[Tw,Tw];omega,sG λ a ha=>nY (by rw[VM];exact br a ha)⟩
 . refine .inr ⟨_,.inl rfl,by rw[Tw];omega,λ x hx=>?_⟩;obtain⟨r,hr,rfl⟩:=T5.mp hx;have lr:=td.lZ.fw r hr;have l3:(ao r).length<=8:=by rw[Tw];omega
   have t0:∀x∈ao r,o9 x:=λ x hx=>by
    obtain⟨a,ha,rfl⟩:=T5.mp hx;exact nY (td.Ka r hr a ha)
   exact .inr ⟨_,.inl rfl,(qw l3).2.2,sV (sV (λ x hx=>t0 x (dG hx)) (vn (nY (by rw[VM];exact td.Ka r hr _ (getD_mem (by omega)))))) λ x hx=>t0 x (dG hx)⟩
 . exact kC td.iR w8 td.bR
 . exact kC td.kq w8 td.MZ
def iK:bQ:=λ ds st K=>∃(A:List (List Int)) (x:D) (N w:Nat),ds=[au A,x]/\Hn A N w/\wj x/\∀st',Ext st st'->K (.bl true) st'
def qZ:List Str:=["_law_rows","_law_told","_law_found"]
def Bz:DS:=(az (bJ 2 (aq jE (aa (ab 0) (aa (ab 1) af))))
 (a7 (km (a9 iz (aa (ab 2) (aa (dC (.ty "bool")) af))) (aj gc (ab 2) (aq sy (aa (ab 0) (aa (ab 1) af)))))))
theorem yX:Tq iK 2 Bz qZ:=by
 rintro ds st K ⟨A,x,N,w,rfl,H,hx,k⟩;refine⟨rfl,A,x,N,w,rfl,H,hx,λ st1 X1=>?_⟩;refine mY (t:="bool") rfl (by decide) (dj ⟨A,x,N,w,rfl,H,hx,λ st2 X2=>?_⟩);refine tf rfl rfl ?_;rw[u0 40 _ rfl];exact k st2 (X1.trans X2)
abbrev Jn:bQ:=Fy MF
def Jo:List Str:=["_law_script","_law_k","_law_source_here","_law_rows","_law_told","_law_turn"]
def Pf:DS:=(az (ia (cB (aa (dC (.int 6)) af)) (aK 1) (az (bJ 2 (aq nA (aa (ab 0) (aa (ab 1) af))))
 (az (uV (gO 3 4) (aq pS (aa (ab 2) af)))
 (az (cZ (dz (aU (aq iK (aa (ab 3) (aa (ab 4) af))))) (a7 (dC (.bl false))) cv)
 (az (ia (cB (aa (dC (.int 4)) af)) (aK 5) (cZ (dz (aU (aq iK (aa (ab 3) (aa (aq m9 (aa (ab 2) (aa (ab 4) af))) af))))) (a7 (dC (.bl false))) cv))
 (cZ (tI (aU (aj zH (aj a_ (ab 4) (dC (.int 0))) (cL af))) (dz (aU (aq iK (aa (ab 3) (aa (aq oo (aa (ab 4) (aa (aq bz (aa (ab 2) (aa (a9 cY (aa (aj a_ (ab 4) (dC (.int 0))) af)) af))) af))) af)))))) (a7 (dC (.bl false))) cv))))))
 (a7 (dC (.bl true))))
theorem Ng:Tq Jn 1 Pf Jo:=by
 rintro ds st K ⟨ns,rfl,hl,hst,k⟩;refine⟨rfl,?_⟩;have t0:st[0]?=some (cS false):=by rw[hst];rfl
 clear hst;refine cN ⟨by decide,by decide⟩ ?_;refine gI 6 (λ q σ st'=>∃(v1 v2 v3 v4 v5:Option D) (f:Bool),σ=[some (.lst (ns.map .int)),v1,v2,v3,v4,v5]/\st'[0]?=some (cS f)) ?_ ?_ ⟨none,none,none,none,none,false,rfl,t0⟩
 . rintro σ st' ⟨v1,v2,v3,v4,v5,f,rfl,_⟩;exact k st'
 clear t0;rintro q σ st1 rest hq ⟨v1,v2,v3,v4,v5,f,rfl,t1⟩ next
 have l1:=(Tt.mp t1).1;have nz:st1.length≠0:=by omega
 refine⟨_,rfl,ns,q,rfl,by omega,hl,λ st2 B2 X2=>?_⟩;have t2:st2[0]?=some (cS f):=(X2.same 0 l1).trans t1;refine⟨_,_,f,rfl,B2,by decide,nz,t2,λ st3 A N w ms L Lb R Rb f3 H td B3 t3=>⟨_,rfl,?_⟩⟩;have n1:=H.n1;have n8:=H.n8;have w1:=H.w1;have w8:=H.w8;have lN:=td.lN;refine⟨A,_,N,w,rfl,H,.inr ⟨_,.inl rfl,Ts rfl,td.th n8 w8⟩,λ st4 X4=>?_⟩;have t4:st4[0]?=some (cS f3):=(X4.same 0 (Tt.mp t3).1).trans t3;have B4:=B3.cell (X4.same _ B3.lt);dsimp only;rw[Tv (by decide)];dsimp only[cv];refine oS (λ σ' s=>∃v5:Option D,σ'=[some (.lst (ns.map .int)),some (.int q),some (.ref st1.length),some (au A),some (pR ms L Lb R Rb),v5]/\Bx s st1.length 9000/\s[0]?=some (cS f3)) (λ nx hnx=>?_) ?_
 . refine cN ⟨by decide,by decide⟩ ?_;refine gI 4 (λ i σ s=>∃v5:Option D,σ=[some (.lst (ns.map .int)),some (.int q),some (.ref st1.length),some (au A),some (pR ms L Lb R Rb),v5]/\Bx s st1.length (8000+20*i)/\s[0]?=some (cS f3)) ?_ ?_ ⟨_,rfl,B4.mono (by decide),t4⟩
   . rintro σ s ⟨v5,rfl,Bs,ts⟩;exact hnx _ _ ⟨v5,rfl,Bs.mono (by decide),ts⟩
   . rintro i σ s rest hi ⟨v5,rfl,Bs,ts⟩ next2;refine⟨_,rfl,_,_,ms,L,Lb,R,Rb,N,w,rfl,Bs,by omega,td,n1,n8,w1,w8,λ d s2 dT B5 X5=>?_⟩;have t5:s2[0]?=some (cS f3):=(X5.same 0 (Tt.mp ts).1 (TK nz)).trans ts;refine⟨A,d,N,w,rfl,H,dT,λ s3 X6=>?_⟩;exact next2 _ _ ⟨_,rfl,(B5.cell (X6.same _ B5.lt)).mono (by omega),(X6.same 0 (Tt.mp t5).1).trans t5⟩
 rintro _ s ⟨v5,rfl,Bs,ts⟩;refine aE rfl rfl ⟨Ts rfl,Nh Cs (by unfold pl;rfl) ?_⟩;cases ms with
 |nil=>exact next _ _ ⟨_,_,_,_,_,f3,rfl,ts⟩
 |cons m ms=>
  have e:cF (bj (m::ms)) (.tup [])=false:=by unfold bj cF;unfold ft;rfl
  rw[e];refine dj (aE rfl rfl (cq rfl ⟨_,_,_,rfl,Bs,by decide,by simp,by rw[Tw];omega,λ r s2 r0 r1 B5 U5=>?_⟩));obtain⟨r,rfl⟩:=UJ r0;have t5:s2[0]?=some (cS f3):=(U5.same 0 (TK nz)).trans ts;rw[Tw]at r1;refine⟨m::ms,L,Lb,R,Rb,N,w,r,rfl,td,n8,w8,by omega,λ d dT=>?_⟩;refine⟨A,d,N,w,rfl,H,dT,λ s3 X6=>?_⟩;exact next _ _ ⟨_,_,_,_,_,f3,rfl,(X6.same 0 (Tt.mp t5).1).trans t5⟩
end Prog
namespace Row
open PySem L2 L3 Prog
open PySem.Spec hiding items?
open PyProof.Rows hiding St
theorem vT:(("int":Str))≠"__name__":=by decide+kernel
theorem qK:(("isinstance":Str))≠"__name__":=by decide+kernel
theorem CH:(("bool":Str))≠"__name__":=by decide+kernel
theorem qu:(("tuple":Str))≠"__name__":=by decide+kernel
theorem ja:(("list":Str))≠"__name__":=by decide+kernel
theorem gR:(("len":Str))≠"__name__":=by decide+kernel
theorem E1:(("all":Str))≠"__name__":=by decide+kernel
theorem Nb:(("abs":Str))≠"__name__":=by decide+kernel
theorem GA:(("min":Str))≠"__name__":=by decide+kernel
theorem E5:(("sum":Str))≠"__name__":=by decide+kernel
theorem Hb:(("any":Str))≠"__name__":=by decide+kernel
structure Bl(mg:Str->Option Value):Prop where
 zh:mg "int"=none
 rK:mg "isinstance"=none
 E6:mg "bool"=none
 mR:mg "tuple"=none
 kc:mg "list"=none
 jz:mg "len"=none
 Jd:mg "all"=none
 Jr:mg "zip"=none
 kY:mg "range"=none
 Py:mg "abs"=none
 IL:mg "sorted"=none
 ue:mg "enumerate"=none
 JV:mg "min"=none
 Km:mg "sum"=none
 Kr:mg "any"=none
 we:mg "reversed"=none
structure Kl(K:PySem.W.Frag)(mg:Str->Option Value):Prop where
 a5:ClsAt K mg "Bench" ay
 aQ:ClsAt K mg "Sides" aB
 b_:du K ay "body"
 dR:du K ay "turn"
 cp:du K ay "back_columns"
 nJ:du K aB "many"
 e_:du K aB "wide"
 cV:du K aB "body"
 kn:du K aB "left"
 gd:du K aB "left_back"
 jB:du K aB "right"
 fW:du K aB "right_back"
theorem B8:VF oE ux ["thing"] ["int","isinstance","bool"]:= .of (by decide+kernel)
theorem BU:VF oB ud ["thing"] ["tuple","list","isinstance"]:= .of (by decide+kernel)
theorem xC:VF kv o7 ["thing","many"] ["is_listed","len"]:= .of (by decide+kernel)
theorem yD:VF mh qG ["thing","many"] ["is_listed_of","all"]:= .of (by decide+kernel)
theorem GW:VF rq xM ["rows"] ["tuple"]:= .of (by decide+kernel)
theorem LY:VF xm CY ["row","times","other"] ["zip"]:= .of (by decide+kernel)
theorem IH:VF uU AW ["weights","rows","wide"] ["zip","added","tuple"]:= .of (by decide+kernel)
theorem FW:VF sD xY ["one","other"] ["len","tuple"]:= .of (by decide+kernel)
theorem Ie:VF uK BI ["rows","place"] ["tuple"]:= .of (by decide+kernel)
theorem yP:VF mf qC ["rows","wide"] ["range","tuple"]:= .of (by decide+kernel)
theorem Eg:VF pV vG ["n","place"] ["range","tuple"]:= .of (by decide+kernel)
theorem BJ:VF ow ug ["n"] ["range","tuple"]:= .of (by decide+kernel)
theorem GY:VF sO sH ["thing","many","wide"] ["is_listed","len","all"]:= .of (by decide+kernel)
theorem D7:VF qf vt ["turn","back"] ["is_listed","len","is_rows","product","unit_rows"]:= .of (by decide+kernel)
theorem zX:VF nD sM ["turn","back","many"] ["is_rows","are_back"]:= .of (by decide+kernel)
theorem dE:VF iF lQ ["top","bottom"] []:= .of (by decide+kernel)
theorem Cb:VF ox ui ["rows","k","other"] ["list"]:= .of (by decide+kernel)
theorem GF:VF rG yq ["row"] []:= .of (by decide+kernel)
theorem bH:VF de jG ["self","rows"] ["len","unit_rows"]:= .of (by decide+kernel)
theorem aV:VF iw mX ["self","k","times","other"] ["added"]:= .of (by decide+kernel)
theorem a6:VF fE jJ ["self","k","other"] ["exchanged"]:= .of (by decide+kernel)
theorem aO:VF d_ h_ ["self","k"] ["negated"]:= .of (by decide+kernel)
theorem cx:VF dk jl ["self","top","place"] ["len","range","sorted"]:= .of (by decide+kernel)
theorem av:VF gu kO ["self","top","place"] ["len","nearest_quotient"]:= .of (by decide+kernel)
theorem bh:VF d9 hO ["self","top","place"] ["range"]:= .of (by decide+kernel)
theorem aL:VF pM vU ["rows"] ["Bench","len","range","turned_over","as_rows"]:= .of (by decide+kernel)
theorem aG:VF fG jM ["self","rows"] ["len","unit_rows"]:= .of (by decide+kernel)
theorem bo:VF fj jd ["self","turn","back"] ["product"]:= .of (by decide+kernel)
theorem bc:VF eS iJ ["self","turn","back"] ["product"]:= .of (by decide+kernel)
theorem cE:VF eM iH ["self"] ["standing"]:= .of (by decide+kernel)
theorem aI:VF dN gn ["self"] ["turned_over","standing"]:= .of (by decide+kernel)
theorem y6:VF mi qO ["rows"] ["enumerate","all"]:= .of (by decide+kernel)
theorem dO:VF gF kE ["self"] ["is_diagonal"]:= .of (by decide+kernel)
theorem wk:VF ke nU ["n","k","place","number"] ["unit_rows","as_rows"]:= .of (by decide+kernel)
theorem cC:VF gY mm ["self","k","other"] ["unit_rows_but"]:= .of (by decide+kernel)
theorem Bf:VF nG rB ["body"] ["len","min","range","tuple"]:= .of (by decide+kernel)
theorem aN:VF qt vB ["rows"] ["Sides","numbers_of","len","range"]:= .of (by decide+kernel)
theorem xy:VF ku pj ["thing","most"] ["is_listed","len","is_number"]:= .of (by decide+kernel)
theorem D1:VF qp vf ["numbers","many","wide"] ["range","enumerate","as_rows"]:= .of (by decide+kernel)
theorem uR:VF jN mZ ["rows","told"] ["len","is_listed_of","min","are_dividing","is_turn_of","product","diagonal"]:= .of (by decide+kernel)
theorem Aq:VF nc rD ["_law_script","_law_k"] ["len","int"]:= .of (by decide+kernel)
theorem D6:VF pY vH ["_law_source_here","_law_many"] []:= .of (by decide+kernel)
theorem zD:VF nK sh ["_law_source_here"] ["_law_take"]:= .of (by decide+kernel)
theorem yL:VF mq qH ["_law_one","_law_other"] ["len","range","tuple"]:= .of (by decide+kernel)
theorem BV:VF oA uw ["_law_n"] ["range","tuple"]:= .of (by decide+kernel)
theorem Cj:VF oG uf ["_law_numbers","_law_many","_law_wide"] ["range","tuple"]:= .of (by decide+kernel)
theorem vh:VF j9 n_ ["_law_found"] ["int","isinstance","bool"]:= .of (by decide+kernel)
theorem xn:VF kT oZ ["_law_found","_law_many","_law_wide"] ["list","tuple","isinstance","len","all"]:= .of (by decide+kernel)
theorem wF:VF j4 og ["_law_turn","_law_back","_law_n"] ["_law_are_rows","_law_product","_law_units"]:= .of (by decide+kernel)
theorem E8:VF rX sj ["_law_rows","_law_told"] ["list","tuple","isinstance","len","min","all","range","any","_law_are_turns","_law_product","_law_slope"]:= .of (by decide+kernel)
theorem Er:VF qh vZ ["_law_source_here"] ["_law_take","range","tuple","dividing","min","_law_units","_law_slope"]:= .of (by decide+kernel)
theorem tJ:VF jj mB ["_law_source_here","_law_numbers"] ["tuple","list","reversed","_law_take"]:= .of (by decide+kernel)
theorem wR:VF kR oU ["_law_source_here","_law_rows"] ["len","_law_take","list"]:= .of (by decide+kernel)
theorem AN:VF m8 rp ["_law_source_here","_law_told"] ["list","_law_take","range","_law_bad_numbers","_law_bad_rows","tuple"]:= .of (by decide+kernel)
theorem Ca:VF om ur ["_law_told","_law_k"] ["tuple"]:= .of (by decide+kernel)
theorem BD:VF nH qZ ["_law_rows","_law_told"] ["shows_dividing","bool","isinstance","_law_due"]:= .of (by decide+kernel)
theorem QR:VF wg Jo ["_law_script"] ["range","_law_source","_law_case","_law_looked","_law_spoilt","len","_law_take","_law_about"]:= .of (by decide+kernel)
structure Ev(w:World)(mg:Str->Option Value)(h:Heap):Prop where
 X:(KX w.params).In h
 G:h.Ns mainGlobals mg
section
variable {w:World}{mg:Str->Option Value}{h:Heap}(base:Heap)(e:Ev w mg h)
include e
set_option hygiene false
local macro_rules| `(tactic|nofun)=> `(tactic|repeat' first
 |(show JA _ _ _;first|exact aR|refine ak ?_ ?_)
 |(show JE (cn _ _ _ _ _ _ _) _ _;first|exact se|exact dZ|refine cU ?_ ?_|first|refine cu c1.1 c1.2 (hr.mono (by decide)) ?_ (by decide+kernel) rfl|refine cu c2.1 c2.2 (hr.mono (by decide)) ?_ (by decide+kernel) rfl|refine cu c3.1 c3.2 (hr.mono (by decide)) ?_ (by decide+kernel) rfl|refine cu c4.1 c4.2 (hr.mono (by decide)) ?_ (by decide+kernel) rfl|refine cu c5.1 c5.2 (hr.mono (by decide)) ?_ (by decide+kernel) rfl|refine cu c6.1 c6.2 (hr.mono (by decide)) ?_ (by decide+kernel) rfl|refine nt JX ?_ B.zh rfl vT (by decide+kernel) rfl|refine fB Kc ?_ B.rK rfl qK (by decide+kernel) rfl|refine nt Dh ?_ B.mR rfl qu (by decide+kernel) rfl|refine nt rm ?_ B.kc rfl ja (by decide+kernel) rfl|refine nt C6 ?_ B.kc rfl ja (by decide+kernel) rfl|refine fB jC ?_ B.jz rfl gR (by decide+kernel) rfl|refine fB (Jg rfl) ?_ B.Jd rfl E1 (by decide+kernel) rfl|refine fB (JN rfl) ?_ B.JV rfl GA (by decide+kernel) rfl|refine fB (JJ rfl) ?_ B.Km rfl E5 (by decide+kernel) rfl|refine fB (IY rfl) ?_ B.Kr rfl Hb (by decide+kernel) rfl|refine Ow rfl B.mR rfl B.we ?_|refine yg ?_ ?_|refine qr (by first|exact zm|exact Gn|exact D9|exact zo|exact J6|exact Kg|exact Ft) ?_ ?_|refine Ja (by first|exact DY hr|exact IK|exact ES|exact Ac|exact Ib|exact DN|exact Aw|exact En hr) (js _) ?_ ?_|refine zc ?_|refine JZ ?_|refine Ks ?_|refine wU ?_ ?_ ?_|refine pU ?_|refine Jq ?_ ?_ ?_|refine Jj ?_ ?_|refine MM ?_ ?_|refine JM ?_|refine JD ?_|exact DR|exact J5|exact Kt|refine Mc (by decide+kernel) ?_ ?_ ?_ ?_ ?_|exact rQ B.zh rfl vT (by decide+kernel) rfl|exact rQ B.E6 rfl CH (by decide+kernel) rfl|exact rQ B.mR rfl qu (by decide+kernel) rfl|exact rQ B.kc rfl ja (by decide+kernel) rfl)
 |(show JE _ _ _;first|exact v.nm _|exact dZ|refine cU ?_ ?_|first|refine cu c1.1 c1.2 (hr.mono (by decide)) ?_ (by decide+kernel) v.gM|refine cu c2.1 c2.2 (hr.mono (by decide)) ?_ (by decide+kernel) v.gM|refine cu c3.1 c3.2 (hr.mono (by decide)) ?_ (by decide+kernel) v.gM|refine cu c4.1 c4.2 (hr.mono (by decide)) ?_ (by decide+kernel) v.gM|refine cu c5.1 c5.2 (hr.mono (by decide)) ?_ (by decide+kernel) v.gM|refine cu c6.1 c6.2 (hr.mono (by decide)) ?_ (by decide+kernel) v.gM|refine nt JX ?_ B.zh rfl vT (by decide+kernel) v.gM|refine fB Kc ?_ B.rK rfl qK (by decide+kernel) v.gM|refine nt Dh ?_ B.mR rfl qu (by decide+kernel) v.gM|refine nt rm ?_ B.kc rfl ja (by decide+kernel) v.gM|refine nt C6 ?_ B.kc rfl ja (by decide+kernel) v.gM|refine fB jC ?_ B.jz rfl gR (by decide+kernel) v.gM|refine fB (Jg rfl) ?_ B.Jd rfl E1 (by decide+kernel) v.gM|refine fB (JN rfl) ?_ B.JV rfl GA (by decide+kernel) v.gM|refine fB (JJ rfl) ?_ B.Km rfl E5 (by decide+kernel) v.gM|refine fB (IY rfl) ?_ B.Kr rfl Hb (by decide+kernel) v.gM|refine Ow v.gM B.mR v.gM B.we ?_|refine yg ?_ ?_|refine qr (by first|exact zm|exact Gn|exact D9|exact zo|exact J6|exact Kg|exact Ft) ?_ ?_|refine Ja (by first|exact DY hr|exact IK|exact ES|exact Ac|exact Ib|exact DN|exact Aw|exact En hr) (js _) ?_ ?_|refine zc ?_|refine JZ ?_|refine Ks ?_|refine wU ?_ ?_ ?_|refine pU ?_|refine Jq ?_ ?_ ?_|refine Jj ?_ ?_|refine MM ?_ ?_|refine JM ?_|refine JD ?_|exact DR|exact J5|exact Kt|refine KQ v (by decide+kernel) ?_ ?_ ?_ ?_ ?_|exact rQ B.zh rfl vT (by decide+kernel) v.gM|exact rQ B.E6 rfl CH (by decide+kernel) v.gM|exact rQ B.mR rfl qu (by decide+kernel) v.gM|exact rQ B.kc rfl ja (by decide+kernel) v.gM)
 |(show JB _ _ _;first|refine ba ?_ ?_|refine cH ?_|exact rZ)
 |(show JS _ _ _;first|refine gT nd v.lM ?_|refine vj ?_ ?_ ?_|refine nh ?_|refine qY ?_ ?_ ?_|refine d4 ?_|refine jO ?_ ?_ ?_|refine Fo v nd v.lM (by decide+kernel) ?_ ?_ ?_ ?_ ?_|refine Nz nd (by decide) v.loc v.loc ?_|refine M3 ?_ ?_|refine KR ?_ ?_ ?_ ?_ ?_|refine N5 ?_)
 |(show JT _ _ _;first|refine oK (by first|exact DY hr|exact IK|exact ES|exact Ac|exact Ib|exact DN|exact Aw|exact En hr) (js _) ?_ ?_|(show JT _ (.BoolOp _ _ _) _;refine P9 ?_)|refine F0 ?_|refine A4 ?_)
 |(show JW _ _ _;first|refine Qb ?_ ?_|refine NI ?_|refine NX ?_ ?_|refine Lp ?_)
 |(show JI (cn _ _ _ _ _ _ _) _ _ _;first|refine nI rfl B.kY ?_|refine J8 rfl B.Jr ?_|refine Fj rfl B.ue ?_|refine vd ?_)
 |(show JI _ _ _ _;first|refine nI v.gM B.kY ?_|refine J8 v.gM B.Jr ?_|refine Fj v.gM B.ue ?_|refine vd ?_)
 |(show JG (cn _ _ _ _ _ _ _) _ _;first|exact PL|exact NS)
 |(show JG _ _ _;first|exact oH nd v.lM (by first|exact .inr v.loc|exact .inl rfl)|exact Jx rfl nd v.lM (by first|exact .inr v.loc|exact .inl rfl) v.lM (by first|exact .inr v.loc|exact .inl rfl)|exact PX rfl nd v.lM (by first|exact .inr v.loc|exact .inl rfl) v.lM (by first|exact .inr v.loc|exact .inl rfl) v.lM (by first|exact .inr v.loc|exact .inl rfl) v.lM (by first|exact .inr v.loc|exact .inl rfl) v.lM (by first|exact .inr v.loc|exact .inl rfl)|exact O4 rfl nd v.lM (by first|exact .inr v.loc|exact .inl rfl) v.lM (by first|exact .inr v.loc|exact .inl rfl) v.lM (by first|exact .inr v.loc|exact .inl rfl) v.lM (by first|exact .inr v.loc|exact .inl rfl) v.lM (by first|exact .inr v.loc|exact .inl rfl))
 |(show JO _ _ _;first|exact CA|refine Dk ?_)
 |(show JC _ _ _;first|exact tw|refine FV ?_)
 |exact nq
 |exact Mg
 |intro _ _ _ _)
def Fk(w:World)(mg:Str->Option Value)(base:Heap)(n:Str)(s:Stmt)(ps:List Str)(a:Addr)(m:Value)(c:Addr)(k:Nat)(S:bQ):Prop:=mL (KX w.params) mg n n s ps a (Hd.fd s n n m c)/\cR PW w (KX w.params) mg base fy k a (Hd.fd s n n m c) ps (fP S)
omit e in
theorem fk{n:Str}{s:Stmt}{N gl ps:List Str}{a:Addr}{m:Value}{c:Addr}{k:Nat}{S:bQ}{t:DS}{base:Heap}(d:mL (KX w.params) mg n n s ps a (Hd.fd s n n m c))(v:VF s N ps gl)(g:VS (bE s) N gl->N.Nodup->∀(cdv:Value) (A:Around) (outer:List Env) (z:Shared) (H:Hp) (E:XK),cJ k (A.deeper (envOfC n (bE s) z.heap.objs.size a cdv))->JB (oz fy PW w (KX w.params) mg base N n (bE s) a cdv A outer z H E).t_ (fJ s) t)(q:∀ds st K,S ds st K->ds.length=ps.length/\t {nx:=λ _ st2=>K .ax st2,rt:=K} (aH N ds) st):Fk w mg base n s ps a m c (k+1) S:=⟨d,ik d.fn v.sc (g v.v v.sc.nd) q⟩
local macro_rules| `(tactic|ac_rfl)=> `(tactic|first|exact Hd.SM e.X e.G (by kernel_rfl) λ _ _ _ _ _ _ _=>rfl|exact Hd.Td e.X e.G (by kernel_rfl) λ _ _ _ _ _ _ _ _=>rfl|exact Hd.Tf e.X e.G (by kernel_rfl) λ _ _ _ _ _ _ _ _ _=>rfl|exact Hd.S9 e.X e.G (by kernel_rfl) λ _ _ _ _ _ _ _ _ _ _=>rfl)
theorem Bt:Bl mg:=⟨Up e.X e.G (by kernel_rfl),Up e.X e.G (by kernel_rfl),Up e.X e.G (by kernel_rfl),Up e.X e.G (by kernel_rfl),Up e.X e.G (by kernel_rfl),Up e.X e.G (by kernel_rfl),Up e.X e.G (by kernel_rfl),Up e.X e.G (by kernel_rfl),Up e.X e.G (by kernel_rfl),Up e.X e.G (by kernel_rfl),Up e.X e.G (by kernel_rfl),Up e.X e.G (by kernel_rfl),Up e.X e.G (by kernel_rfl),Up e.X e.G (by kernel_rfl),Up e.X e.G (by kernel_rfl),Up e.X e.G (by kernel_rfl)⟩
theorem Qt:Kl (KX w.params) mg:=⟨⟨⟨by kernel_rfl,by kernel_rfl,by kernel_rfl,by kernel_rfl⟩,Yx e.X e.G (by kernel_rfl),by kernel_rfl,by kernel_rfl⟩,⟨⟨by kernel_rfl,by kernel_rfl,by kernel_rfl,by kernel_rfl⟩,Yx e.X e.G (by kernel_rfl),by kernel_rfl,by kernel_rfl⟩,Hd.na (by kernel_rfl),Hd.na (by kernel_rfl),Hd.na (by kernel_rfl),Hd.na (by kernel_rfl),Hd.na (by kernel_rfl),Hd.na (by kernel_rfl),Hd.na (by kernel_rfl),Hd.na (by kernel_rfl),Hd.na (by kernel_rfl),Hd.na (by kernel_rfl)⟩
theorem uq:Fk w mg base "is_number" oE ["thing"] 21 yr 20 1 ll:=by
 have B:=Bt e;exact fk (by ac_rfl) B8 (λ v nd _ _ _ _ _ _ hr=>by nofun) AZ
theorem k9:Fk w mg base "is_listed" oB ["thing"] 28 yr 27 1 g7:=by
 have B:=Bt e;exact fk (by ac_rfl) BU (λ v nd _ _ _ _ _ _ hr=>by nofun) zY
theorem oR:Fk w mg base "is_listed_of" kv ["thing","many"] 35 yr 34 2 i7:=by
 have c1:=k9 base e;have B:=Bt e;exact fk (by ac_rfl) xC (λ v nd _ _ _ _ _ _ hr=>by nofun) wd
theorem yK:Fk w mg base "are_numbers" mh ["thing","many"] 40 yr 39 3 jD:=by
 have c1:=oR base e;have c2:=uq base e;have B:=Bt e;exact fk (by ac_rfl) yD (λ v nd _ _ _ _ _ _ hr=>by nofun) wQ
theorem sI:Fk w mg base "as_rows" rq ["rows"] 45 jb 44 1 jP:=by
 have B:=Bt e;exact fk (by ac_rfl) GW (λ v nd _ _ _ _ _ _ hr=>by nofun) DG
theorem CN:Fk w mg base "added" xm ["row","times","other"] 50 jb 49 1 mS:=by
 have B:=Bt e;exact fk (by ac_rfl) LY (λ v nd _ _ _ _ _ _ hr=>by nofun) HW
theorem IM:Fk w mg base "sum_by" uU ["weights","rows","wide"] 57 jb 56 2 uC:=by
 have c1:=CN base e;have B:=Bt e;exact fk (by ac_rfl) IH (λ v nd _ _ _ _ _ _ hr=>by nofun) He
theorem nX:Fk w mg base "product" sD ["one","other"] 62 jb 61 3 e9:=by
 have c1:=IM base e;have B:=Bt e;exact fk (by ac_rfl) FW (λ v nd _ _ _ _ _ _ hr=>by nofun) Du
theorem Ii:Fk w mg base "column" uK ["rows","place"] 67 jb 66 1 uP:=by
 have B:=Bt e;exact fk (by ac_rfl) Ie (λ v nd _ _ _ _ _ _ hr=>by nofun) FI
theorem qF:Fk w mg base "turned_over" mf ["rows","wide"] 72 jb 71 2 fK:=by
 have c1:=Ii base e;have B:=Bt e;exact fk (by ac_rfl) yP (λ v nd _ _ _ _ _ _ hr=>by nofun) wJ
theorem D3:Fk w mg base "unit_row" pV ["n","place"] 77 jb 76 1 qk:=by
 have B:=Bt e;exact fk (by ac_rfl) Eg (λ v nd _ _ _ _ _ _ hr=>by nofun) Ci
theorem lh:Fk w mg base "unit_rows" ow ["n"] 82 jb 81 2 dQ:=by
 have c1:=D3 base e;have B:=Bt e;exact fk (by ac_rfl) BJ (λ v nd _ _ _ _ _ _ hr=>by nofun) BC
theorem x_:Fk w mg base "is_rows" sO ["thing","many","wide"] 87 jb 86 4 lT:=by
 have c1:=k9 base e;have c2:=yK base e;have B:=Bt e;exact fk (by ac_rfl) GY (λ v nd _ _ _ _ _ _ hr=>by nofun) ED
theorem Eu:Fk w mg base "are_back" qf ["turn","back"] 94 jb 93 5 qj:=by
 have c1:=k9 base e;have c2:=x_ base e;have c3:=nX base e;have c4:=lh base e;have B:=Bt e;exact fk (by ac_rfl) D7 (λ v nd _ _ _ _ _ _ hr=>by nofun) Cg
theorem Ah:Fk w mg base "is_turn_of" nD ["turn","back","many"] 101 jb 100 6 ki:=by
 have c1:=x_ base e;have c2:=Eu base e;have B:=Bt e;exact fk (by ac_rfl) zX (λ v nd _ _ _ _ _ _ hr=>by nofun) yM
theorem rL:Fk w mg base "nearest_quotient" iF ["top","bottom"] 108 fM 107 1 ix:=by
 exact fk (by ac_rfl) dE (λ v nd cdv A outer s H E hr=>(cH (nh (qr (Cr hr rfl dE.sc.gen dE.sc.co) (qr zm (qr zo dZ (dE.v.nm 0)) (dE.v.nm 1)) (qr zo dZ (dE.v.nm 1)))))) qU
theorem Cc:Fk w mg base "exchanged" ox ["rows","k","other"] 115 fM 114 1 jn:=by
 have B:=Bt e;exact fk (by ac_rfl) Cb (λ v nd _ _ _ _ _ _ hr=>by nofun) AM
theorem Fx:Fk w mg base "negated" rG ["row"] 120 fM 119 1 l6:=by
 have B:=Bt e;exact fk (by ac_rfl) GF (λ v nd _ _ _ _ _ _ hr=>by nofun) Ds
theorem gL:MethAt (KX w.params) ay "__init__" "Bench.__init__" de ["self","rows"] 132 (Hd.fd de "__init__" "Bench.__init__" fM 131):=Hd.Na (by kernel_rfl) λ _ _ _ _ _ _ _ _=>rfl
theorem uD:cR PW w (KX w.params) mg base fy 3 132 (Hd.fd de "__init__" "Bench.__init__" fM 131) ["self","rows"] (fP jL):=by
 have c1:=lh base e;have B:=Bt e;have Q:=Qt e
 exact ik (N:=jG) (gL e).fn bH.sc (λ cdv A outer s H E hr=>(ba (dh Q.a5.cl Q.b_ (bH.v.nm 0) (xk (Nc:=["row"]) (cT.look (bE de) ["self","rows"] (by decide+kernel)) (vd (bH.v.nm 1)) (λ _ _ _ _=>(oH (show(["row"]:List Str).Nodup by decide+kernel))) (λ _ _ _ _=>tw) (λ _ _ _ _=>(nt rm (ak se aR) B.kc rfl ja (by decide+kernel) rfl)) nq))
  (ba (dh Q.a5.cl Q.dR (bH.v.nm 0) (xk (Nc:=["row"]) (cT.look (bE de) ["self","rows"] (by decide+kernel)) (vd (cu c1.1 c1.2 (hr.mono (by decide)) (ak (fB jC (ak (bH.v.nm 1) aR) B.jz rfl gR (bH.v.d 0) (bH.v.g 0)) aR) (bH.v.d 1) (bH.v.g 1))) (λ _ _ _ _=>(oH (show(["row"]:List Str).Nodup by decide+kernel))) (λ _ _ _ _=>tw) (λ _ _ _ _=>(nt rm (ak se aR) B.kc rfl ja (by decide+kernel) rfl)) nq))
  (cH (dh Q.a5.cl Q.cp (bH.v.nm 0) (xk (Nc:=["row"]) (cT.look (bE de) ["self","rows"] (by decide+kernel)) (vd (cu c1.1 c1.2 (hr.mono (by decide)) (ak (fB jC (ak (bH.v.nm 1) aR) B.jz rfl gR (bH.v.d 0) (bH.v.g 0)) aR) (bH.v.d 1) (bH.v.g 1))) (λ _ _ _ _=>(oH (show(["row"]:List Str).Nodup by decide+kernel))) (λ _ _ _ _=>tw) (λ _ _ _ _=>(nt rm (ak se aR) B.kc rfl ja (by decide+kernel) rfl)) nq)))))) tT
theorem iP:MethAt (KX w.params) ay "take" "Bench.take" iw ["self","k","times","other"] 139 (Hd.fd iw "take" "Bench.take" fM 138):=Hd.SF (by kernel_rfl) λ _ _ _ _ _ _ _ _ _ _=>rfl
theorem sr:cR PW w (KX w.params) mg base fy 2 139 (Hd.fd iw "take" "Bench.take" fM 138) ["self","k","times","other"] (fP kg):=by
 have c1:=CN base e;have Q:=Qt e
 exact ik (N:=mX) (iP e).fn aV.sc (λ cdv A outer s H E hr=>(ba (jO (cu c1.1 c1.2 (hr.mono (by decide)) (ak (cU (bp Q.a5.cl Q.b_ (aV.v.nm 0)) (aV.v.nm 1)) (ak (pU (aV.v.nm 2)) (ak (cU (bp Q.a5.cl Q.b_ (aV.v.nm 0)) (aV.v.nm 3)) aR))) (aV.v.d 0) (aV.v.g 0)) (bp Q.a5.cl Q.b_ (aV.v.nm 0)) (aV.v.nm 1))
  (ba (jO (cu c1.1 c1.2 (hr.mono (by decide)) (ak (cU (bp Q.a5.cl Q.dR (aV.v.nm 0)) (aV.v.nm 1)) (ak (pU (aV.v.nm 2)) (ak (cU (bp Q.a5.cl Q.dR (aV.v.nm 0)) (aV.v.nm 3)) aR))) (aV.v.d 0) (aV.v.g 0)) (bp Q.a5.cl Q.dR (aV.v.nm 0)) (aV.v.nm 1))
  (cH (jO (cu c1.1 c1.2 (hr.mono (by decide)) (ak (cU (bp Q.a5.cl Q.cp (aV.v.nm 0)) (aV.v.nm 3)) (ak (aV.v.nm 2) (ak (cU (bp Q.a5.cl Q.cp (aV.v.nm 0)) (aV.v.nm 1)) aR))) (aV.v.d 0) (aV.v.g 0)) (bp Q.a5.cl Q.cp (aV.v.nm 0)) (aV.v.nm 3)))))) yN
theorem jI:MethAt (KX w.params) ay "exchange" "Bench.exchange" fE ["self","k","other"] 146 (Hd.fd fE "exchange" "Bench.exchange" fM 145):=Hd.By (by kernel_rfl) λ _ _ _ _ _ _ _ _ _=>rfl
theorem uW:cR PW w (KX w.params) mg base fy 2 146 (Hd.fd fE "exchange" "Bench.exchange" fM 145) ["self","k","other"] (fP jH):=by
 have c1:=Cc base e;have Q:=Qt e
 exact ik (N:=jJ) (jI e).fn a6.sc (λ cdv A outer s H E hr=>(ba (dh Q.a5.cl Q.b_ (a6.v.nm 0) (cu c1.1 c1.2 (hr.mono (by decide)) (ak (bp Q.a5.cl Q.b_ (a6.v.nm 0)) (ak (a6.v.nm 1) (ak (a6.v.nm 2) aR))) (a6.v.d 0) (a6.v.g 0)))
  (ba (dh Q.a5.cl Q.dR (a6.v.nm 0) (cu c1.1 c1.2 (hr.mono (by decide)) (ak (bp Q.a5.cl Q.dR (a6.v.nm 0)) (ak (a6.v.nm 1) (ak (a6.v.nm 2) aR))) (a6.v.d 0) (a6.v.g 0)))
  (cH (dh Q.a5.cl Q.cp (a6.v.nm 0) (cu c1.1 c1.2 (hr.mono (by decide)) (ak (bp Q.a5.cl Q.cp (a6.v.nm 0)) (ak (a6.v.nm 1) (ak (a6.v.nm 2) aR))) (a6.v.d 0) (a6.v.g 0))))))) tS
theorem h8:MethAt (KX w.params) ay "change_sign" "Bench.change_sign" d_ ["self","k"] 153 (Hd.fd d_ "change_sign" "Bench.change_sign" fM 152):=Hd.Na (by kernel_rfl) λ _ _ _ _ _ _ _ _=>rfl
theorem qX:cR PW w (KX w.params) mg base fy 2 153 (Hd.fd d_ "change_sign" "Bench.change_sign" fM 152) ["self","k"] (fP hW):=by
 have c1:=Fx base e;have Q:=Qt e
 exact ik (N:=h_) (h8 e).fn aO.sc (λ cdv A outer s H E hr=>(ba (jO (cu c1.1 c1.2 (hr.mono (by decide)) (ak (cU (bp Q.a5.cl Q.b_ (aO.v.nm 0)) (aO.v.nm 1)) aR) (aO.v.d 0) (aO.v.g 0)) (bp Q.a5.cl Q.b_ (aO.v.nm 0)) (aO.v.nm 1))
  (ba (jO (cu c1.1 c1.2 (hr.mono (by decide)) (ak (cU (bp Q.a5.cl Q.dR (aO.v.nm 0)) (aO.v.nm 1)) aR) (aO.v.d 0) (aO.v.g 0)) (bp Q.a5.cl Q.dR (aO.v.nm 0)) (aO.v.nm 1))
  (cH (jO (cu c1.1 c1.2 (hr.mono (by decide)) (ak (cU (bp Q.a5.cl Q.cp (aO.v.nm 0)) (aO.v.nm 1)) aR) (aO.v.d 0) (aO.v.g 0)) (bp Q.a5.cl Q.cp (aO.v.nm 0)) (aO.v.nm 1)))))) qv
theorem gf:MethAt (KX w.params) ay "live_rows" "Bench.live_rows" dk ["self","top","place"] 158 (Hd.fd dk "live_rows" "Bench.live_rows" fM 157):=Hd.By (by kernel_rfl) λ _ _ _ _ _ _ _ _ _=>rfl
theorem mz:cR PW w (KX w.params) mg base fy 3 158 (Hd.fd dk "live_rows" "Bench.live_rows" fM 157) ["self","top","place"] (fP gg):=by
 have B:=Bt e;have Q:=Qt e;have hC:PySem.W.codeHdIn (KX w.params) 157 155=true:=by kernel_rfl
 exact OW (N:=jl) (Hd.fc (by kernel_rfl)) cx.sc (λ A outer s H E hr=>(ba (Mf cx.sc.nd (cx.v.l 3) (Nc:=["k","self","place"]) (cT.look (bE dk) ["self","top","place","live"] (by decide+kernel)) (Az (cx.v.g 1) B.kY (ak (cx.v.nm 1) (ak (fB jC (ak (bp Q.a5.cl Q.b_ (cx.v.nm 0)) aR) B.jz rfl gR (cx.v.d 0) (cx.v.g 0)) aR))) (λ _ _ _ _=>(oH (show(["k","self","place"]:List Str).Nodup by decide+kernel))) (λ _ _ _ _=>(FV (oK Aw (js _) (cU (cU (bp Q.a5.cl Q.b_ se) se) se) dZ))) (λ _ _ _ _=>se) nq)
  (cH (nh (KW (c0:=157) (mD.look (Nc:=["k","self","place"]) (fr:=[none,some 0,some 2]) (p:="k") (cT.look (bE dk) ["self","top","place","live"] (by decide+kernel))) rfl hr rfl hC (λ _ _ _ _=>(fB Qu (ak (cU (cU (bp Q.a5.cl Q.b_ se) se) se) aR) B.Py rfl Nb (by decide+kernel) rfl)) (cx.v.nm 3) (cx.v.g 2) B.IL))))) rP
theorem kX:MethAt (KX w.params) ay "gather" "Bench.gather" gu ["self","top","place"] 165 (Hd.fd gu "gather" "Bench.gather" fM 164):=Hd.By (by kernel_rfl) λ _ _ _ _ _ _ _ _ _=>rfl
theorem wY:cR PW w (KX w.params) mg base fy 4 165 (Hd.fd gu "gather" "Bench.gather" fM 164) ["self","top","place"] (fP kQ):=by
 have c1:=rL base e;have B:=Bt e;have Q:=Qt e
 exact ik (N:=kO) (kX e).fn av.sc (λ cdv A outer s H E hr=>(ba (gT av.sc.nd (av.v.l 3) (gW (av.v.nm 0) Q.a5.cl (gf e).me (mz base e) (hr.mono (by decide)) (gf e).bd (ak (av.v.nm 1) (ak (av.v.nm 2) aR))))
  (ba (AL (oK ES (js _) (fB jC (ak (av.v.nm 3) aR) B.jz rfl gR (av.v.d 0) (av.v.g 0)) dZ) (ba (gT av.sc.nd (av.v.l 4) (cU (av.v.nm 3) (pU dZ)))
  (ba (gT av.sc.nd (av.v.l 5) (cU (av.v.nm 3) (pU dZ)))
  (ba (d4 (gW (av.v.nm 0) Q.a5.cl (iP e).me (sr base e) (hr.mono (by decide)) (iP e).bd (ak (av.v.nm 4) (ak (cu c1.1 c1.2 (hr.mono (by decide)) (ak (cU (cU (bp Q.a5.cl Q.b_ (av.v.nm 0)) (av.v.nm 4)) (av.v.nm 2)) (ak (cU (cU (bp Q.a5.cl Q.b_ (av.v.nm 0)) (av.v.nm 5)) (av.v.nm 2)) aR)) (av.v.d 1) (av.v.g 1)) (ak (av.v.nm 5) aR)))))
  (cH (gT av.sc.nd (av.v.l 3) (gW (av.v.nm 0) Q.a5.cl (gf e).me (mz base e) (hr.mono (by decide)) (gf e).bd (ak (av.v.nm 1) (ak (av.v.nm 2) aR)))))))))
  (ba (vj (oK (DY hr) (js _) (fB jC (ak (av.v.nm 3) aR) B.jz rfl gR (av.v.d 0) (av.v.g 0)) dZ) (cH (nh DR)) rZ)
  (ba (d4 (gW (av.v.nm 0) Q.a5.cl (jI e).me (uW base e) (hr.mono (by decide)) (jI e).bd (ak (av.v.nm 1) (ak (cU (av.v.nm 3) dZ) aR))))
  (ba (vj (oK DN (js _) (cU (cU (bp Q.a5.cl Q.b_ (av.v.nm 0)) (av.v.nm 1)) (av.v.nm 2)) dZ) (cH (d4 (gW (av.v.nm 0) Q.a5.cl (h8 e).me (qX base e) (hr.mono (by decide)) (h8 e).bd (ak (av.v.nm 1) aR)))) rZ)
  (cH (nh DR)))))))) wC
theorem hV:MethAt (KX w.params) ay "lower_above" "Bench.lower_above" d9 ["self","top","place"] 172 (Hd.fd d9 "lower_above" "Bench.lower_above" fM 171):=Hd.By (by kernel_rfl) λ _ _ _ _ _ _ _ _ _=>rfl
theorem qR:cR PW w (KX w.params) mg base fy 3 172 (Hd.fd d9 "lower_above" "Bench.lower_above" fM 171) ["self","top","place"] (fP hJ):=by
 have B:=Bt e;have Q:=Qt e;exact ik (N:=hO) (hV e).fn bh.sc (λ cdv A outer s H E hr=>(cH (qY (nI (bh.v.g 0) B.kY (ak (bh.v.nm 1) aR)) (oH bh.sc.nd) (cH (d4 (gW (bh.v.nm 0) Q.a5.cl (iP e).me (sr base e) (hr.mono (by decide)) (iP e).bd (ak (bh.v.nm 3) (ak (qr (Cr hr rfl bh.sc.gen bh.sc.co) (cU (cU (bp Q.a5.cl Q.b_ (bh.v.nm 0)) (bh.v.nm 3)) (bh.v.nm 2)) (cU (cU (bp Q.a5.cl Q.b_ (bh.v.nm 0)) (bh.v.nm 1)) (bh.v.nm 2))) (ak (bh.v.nm 1) aR))))))))) qA
theorem vL:Fk w mg base "standing" pM ["rows"] 186 fM 185 5 mF:=by
 have c1:=qF base e;have c2:=sI base e;have B:=Bt e;have Q:=Qt e
 exact fk (by ac_rfl) aL (λ v nd cdv A outer s H E hr=>(ba (gT aL.sc.nd (aL.v.l 1) (Fm ⟨Q.a5.Rn,(gL e).me.at_,(gL e).me.fn,Q.a5.kp⟩ (uD base e) (hr.mono (by decide)) (aL.v.g 0) Q.a5.mg (gL e).bd (ak (aL.v.nm 0) aR) (aL.v.d 0)))
  (ba (gT aL.sc.nd (aL.v.l 2) dZ)
  (ba (qY (nI (aL.v.g 2) B.kY (ak (fB jC (ak (cU (aL.v.nm 0) dZ) aR) B.jz rfl gR (aL.v.d 1) (aL.v.g 1)) aR)) (oH aL.sc.nd) (cH (vj (A4 (gW (aL.v.nm 1) Q.a5.cl (kX e).me (wY base e) (hr.mono (by decide)) (kX e).bd (ak (aL.v.nm 2) (ak (aL.v.nm 3) aR)))) (ba (d4 (gW (aL.v.nm 1) Q.a5.cl (hV e).me (qR base e) (hr.mono (by decide)) (hV e).bd (ak (aL.v.nm 2) (ak (aL.v.nm 3) aR))))
  (cH (Nj aL.sc.nd (aL.v.l 2) dZ O6))) rZ)))
  (ba (gT aL.sc.nd (aL.v.l 4) (cu c1.1 c1.2 (hr.mono (by decide)) (ak (bp Q.a5.cl Q.cp (aL.v.nm 1)) (ak (fB jC (ak (aL.v.nm 0) aR) B.jz rfl gR (aL.v.d 1) (aL.v.g 1)) aR)) (aL.v.d 3) (aL.v.g 3)))
  (cH (nh (zc (ak (cu c2.1 c2.2 (hr.mono (by decide)) (ak (wU (bp Q.a5.cl Q.b_ (aL.v.nm 1)) CA (Dk (aL.v.nm 2))) aR) (aL.v.d 4) (aL.v.g 4)) (ak (cu c2.1 c2.2 (hr.mono (by decide)) (ak (bp Q.a5.cl Q.dR (aL.v.nm 1)) aR) (aL.v.d 4) (aL.v.g 4)) (ak (aL.v.nm 4) aR))))))))))) B_
theorem gK:MethAt (KX w.params) aB "__init__" "Sides.__init__" fG ["self","rows"] 200 (Hd.fd fG "__init__" "Sides.__init__" eH 199):=Hd.Na (by kernel_rfl) λ _ _ _ _ _ _ _ _=>rfl
theorem uB:cR PW w (KX w.params) mg base fy 3 200 (Hd.fd fG "__init__" "Sides.__init__" eH 199) ["self","rows"] (fP jK):=by
 have c1:=lh base e;have B:=Bt e;have Q:=Qt e
 exact ik (N:=jM) (gK e).fn aG.sc (λ cdv A outer s H E hr=>(ba (dh Q.aQ.cl Q.nJ (aG.v.nm 0) (fB jC (ak (aG.v.nm 1) aR) B.jz rfl gR (aG.v.d 0) (aG.v.g 0)))
  (ba (dh Q.aQ.cl Q.e_ (aG.v.nm 0) (fB jC (ak (cU (aG.v.nm 1) dZ) aR) B.jz rfl gR (aG.v.d 0) (aG.v.g 0)))
  (ba (dh Q.aQ.cl Q.cV (aG.v.nm 0) (aG.v.nm 1))
  (ba (dh Q.aQ.cl Q.kn (aG.v.nm 0) (cu c1.1 c1.2 (hr.mono (by decide)) (ak (bp Q.aQ.cl Q.nJ (aG.v.nm 0)) aR) (aG.v.d 1) (aG.v.g 1)))
  (ba (dh Q.aQ.cl Q.gd (aG.v.nm 0) (cu c1.1 c1.2 (hr.mono (by decide)) (ak (bp Q.aQ.cl Q.nJ (aG.v.nm 0)) aR) (aG.v.d 1) (aG.v.g 1)))
  (ba (dh Q.aQ.cl Q.jB (aG.v.nm 0) (cu c1.1 c1.2 (hr.mono (by decide)) (ak (bp Q.aQ.cl Q.e_ (aG.v.nm 0)) aR) (aG.v.d 1) (aG.v.g 1)))
  (cH (dh Q.aQ.cl Q.fW (aG.v.nm 0) (cu c1.1 c1.2 (hr.mono (by decide)) (ak (bp Q.aQ.cl Q.e_ (aG.v.nm 0)) aR) (aG.v.d 1) (aG.v.g 1))))))))))) tR
theorem jh:MethAt (KX w.params) aB "turn_left" "Sides.turn_left" fj ["self","turn","back"] 207 (Hd.fd fj "turn_left" "Sides.turn_left" eH 206):=Hd.By (by kernel_rfl) λ _ _ _ _ _ _ _ _ _=>rfl
theorem tK:cR PW w (KX w.params) mg base fy 4 207 (Hd.fd fj "turn_left" "Sides.turn_left" eH 206) ["self","turn","back"] (fP ji):=by
 have c1:=nX base e;have Q:=Qt e
 exact ik (N:=jd) (jh e).fn bo.sc (λ cdv A outer s H E hr=>(ba (dh Q.aQ.cl Q.cV (bo.v.nm 0) (cu c1.1 c1.2 (hr.mono (by decide)) (ak (bo.v.nm 1) (ak (bp Q.aQ.cl Q.cV (bo.v.nm 0)) aR)) (bo.v.d 0) (bo.v.g 0)))
  (ba (dh Q.aQ.cl Q.kn (bo.v.nm 0) (cu c1.1 c1.2 (hr.mono (by decide)) (ak (bo.v.nm 1) (ak (bp Q.aQ.cl Q.kn (bo.v.nm 0)) aR)) (bo.v.d 0) (bo.v.g 0)))
  (cH (dh Q.aQ.cl Q.gd (bo.v.nm 0) (cu c1.1 c1.2 (hr.mono (by decide)) (ak (bp Q.aQ.cl Q.gd (bo.v.nm 0)) (ak (bo.v.nm 2) aR)) (bo.v.d 0) (bo.v.g 0))))))) rJ
theorem eV:MethAt (KX w.params) aB "turn_right" "Sides.turn_right" eS ["self","turn","back"] 214 (Hd.fd eS "turn_right" "Sides.turn_right" eH 213):=Hd.By (by kernel_rfl) λ _ _ _ _ _ _ _ _ _=>rfl
theorem lV:cR PW w (KX w.params) mg base fy 4 214 (Hd.fd eS "turn_right" "Sides.turn_right" eH 213) ["self","turn","back"] (fP f7):=by
 have c1:=nX base e;have Q:=Qt e
 exact ik (N:=iJ) (eV e).fn bc.sc (λ cdv A outer s H E hr=>(ba (dh Q.aQ.cl Q.cV (bc.v.nm 0) (cu c1.1 c1.2 (hr.mono (by decide)) (ak (bp Q.aQ.cl Q.cV (bc.v.nm 0)) (ak (bc.v.nm 1) aR)) (bc.v.d 0) (bc.v.g 0)))
  (ba (dh Q.aQ.cl Q.jB (bc.v.nm 0) (cu c1.1 c1.2 (hr.mono (by decide)) (ak (bp Q.aQ.cl Q.jB (bc.v.nm 0)) (ak (bc.v.nm 1) aR)) (bc.v.d 0) (bc.v.g 0)))
  (cH (dh Q.aQ.cl Q.fW (bc.v.nm 0) (cu c1.1 c1.2 (hr.mono (by decide)) (ak (bc.v.nm 2) (ak (bp Q.aQ.cl Q.fW (bc.v.nm 0)) aR)) (bc.v.d 0) (bc.v.g 0))))))) qV
theorem eQ:MethAt (KX w.params) aB "stand_rows" "Sides.stand_rows" eM ["self"] 221 (Hd.fd eM "stand_rows" "Sides.stand_rows" eH 220):=Hd.OK (by kernel_rfl) λ _ _ _ _ _ _ _=>rfl
theorem lH:cR PW w (KX w.params) mg base fy 6 221 (Hd.fd eM "stand_rows" "Sides.stand_rows" eH 220) ["self"] (fP fX):=by
 have c1:=vL base e;have Q:=Qt e
 exact ik (N:=iH) (eQ e).fn cE.sc (λ cdv A outer s H E hr=>(ba (gT cE.sc.nd (cE.v.l 1) (cu c1.1 c1.2 (hr.mono (by decide)) (ak (bp Q.aQ.cl Q.cV (cE.v.nm 0)) aR) (cE.v.d 0) (cE.v.g 0)))
  (cH (d4 (gW (cE.v.nm 0) Q.aQ.cl (jh e).me (tK base e) (hr.mono (by decide)) (jh e).bd (ak (cU (cE.v.nm 1) dZ) (ak (cU (cE.v.nm 1) dZ) aR))))))) qQ
theorem dD:MethAt (KX w.params) aB "stand_columns" "Sides.stand_columns" dN ["self"] 228 (Hd.fd dN "stand_columns" "Sides.stand_columns" eH 227):=Hd.OK (by kernel_rfl) λ _ _ _ _ _ _ _=>rfl
theorem jQ:cR PW w (KX w.params) mg base fy 6 228 (Hd.fd dN "stand_columns" "Sides.stand_columns" eH 227) ["self"] (fP fe):=by
 have c1:=qF base e;have c2:=vL base e;have Q:=Qt e
 exact ik (N:=gn) (dD e).fn aI.sc (λ cdv A outer s H E hr=>(ba (gT aI.sc.nd (aI.v.l 1) (cu c2.1 c2.2 (hr.mono (by decide)) (ak (cu c1.1 c1.2 (hr.mono (by decide)) (ak (bp Q.aQ.cl Q.cV (aI.v.nm 0)) (ak (bp Q.aQ.cl Q.e_ (aI.v.nm 0)) aR)) (aI.v.d 0) (aI.v.g 0)) aR) (aI.v.d 1) (aI.v.g 1)))
  (cH (d4 (gW (aI.v.nm 0) Q.aQ.cl (eV e).me (lV base e) (hr.mono (by decide)) (eV e).bd (ak (cu c1.1 c1.2 (hr.mono (by decide)) (ak (cU (aI.v.nm 1) dZ) (ak (bp Q.aQ.cl Q.e_ (aI.v.nm 0)) aR)) (aI.v.d 0) (aI.v.g 0)) (ak (cu c1.1 c1.2 (hr.mono (by decide)) (ak (cU (aI.v.nm 1) dZ) (ak (bp Q.aQ.cl Q.e_ (aI.v.nm 0)) aR)) (aI.v.d 0) (aI.v.g 0)) aR))))))) oC
theorem yV:Fk w mg base "is_diagonal" mi ["rows"] 259 eH 258 1 l7:=by
 have B:=Bt e;exact fk (by ac_rfl) y6 (λ v nd _ _ _ _ _ _ hr=>by nofun) wN
theorem gj:MethAt (KX w.params) aB "settle" "Sides.settle" gF ["self"] 235 (Hd.fd gF "settle" "Sides.settle" eH 234):=Hd.OK (by kernel_rfl) λ _ _ _ _ _ _ _=>rfl
theorem pG:cR PW w (KX w.params) mg base fy 7 235 (Hd.fd gF "settle" "Sides.settle" eH 234) ["self"] (fP i8):=by
 have c1:=yV base e;have Q:=Qt e
 exact ik (N:=kE) (gj e).fn dO.sc (λ cdv A outer s H E hr=>(ba (d4 (mV (dO.v.nm 0) Q.aQ.cl (eQ e).me (lH base e) (hr.mono (by decide)) (eQ e).bd))
  (ba (d4 (mV (dO.v.nm 0) Q.aQ.cl (dD e).me (jQ base e) (hr.mono (by decide)) (dD e).bd))
  (cH (AL (F0 (A4 (cu c1.1 c1.2 (hr.mono (by decide)) (ak (bp Q.aQ.cl Q.cV (dO.v.nm 0)) aR) (dO.v.d 0) (dO.v.g 0)))) (ba (d4 (mV (dO.v.nm 0) Q.aQ.cl (eQ e).me (lH base e) (hr.mono (by decide)) (eQ e).bd))
  (cH (d4 (mV (dO.v.nm 0) Q.aQ.cl (dD e).me (jQ base e) (hr.mono (by decide)) (dD e).bd))))))))) vE
theorem vc:Fk w mg base "unit_rows_but" ke ["n","k","place","number"] 254 eH 253 3 ij:=by
 have c1:=lh base e;have c2:=sI base e;have B:=Bt e;exact fk (by ac_rfl) wk (λ v nd _ _ _ _ _ _ hr=>by nofun) uQ
theorem mj:MethAt (KX w.params) aB "merge" "Sides.merge" gY ["self","k","other"] 242 (Hd.fd gY "merge" "Sides.merge" eH 241):=Hd.By (by kernel_rfl) λ _ _ _ _ _ _ _ _ _=>rfl
theorem yH:cR PW w (KX w.params) mg base fy 8 242 (Hd.fd gY "merge" "Sides.merge" eH 241) ["self","k","other"] (fP ma):=by
 have c1:=vc base e;have Q:=Qt e
 exact ik (N:=mm) (mj e).fn cC.sc (λ cdv A outer s H E hr=>(ba (d4 (gW (cC.v.nm 0) Q.aQ.cl (eV e).me (lV base e) (hr.mono (by decide)) (eV e).bd (ak (cu c1.1 c1.2 (hr.mono (by decide)) (ak (bp Q.aQ.cl Q.e_ (cC.v.nm 0)) (ak (cC.v.nm 2) (ak (cC.v.nm 1) (ak dZ aR)))) (cC.v.d 0) (cC.v.g 0)) (ak (cu c1.1 c1.2 (hr.mono (by decide)) (ak (bp Q.aQ.cl Q.e_ (cC.v.nm 0)) (ak (cC.v.nm 2) (ak (cC.v.nm 1) (ak (pU dZ) aR)))) (cC.v.d 0) (cC.v.g 0)) aR))))
  (cH (d4 (mV (cC.v.nm 0) Q.aQ.cl (gj e).me (pG base e) (hr.mono (by decide)) (gj e).bd))))) xI
theorem A3:Fk w mg base "numbers_of" nG ["body"] 264 eH 263 1 kl:=by
 have B:=Bt e;exact fk (by ac_rfl) Bf (λ v nd _ _ _ _ _ _ hr=>by nofun) yR
theorem DH:Fk w mg base "dividing" qt ["rows"] 271 eH 270 9 mE:=by
 have c1:=A3 base e;have B:=Bt e;have Q:=Qt e
 exact fk (by ac_rfl) aN (λ v nd cdv A outer s H E hr=>(ba (gT aN.sc.nd (aN.v.l 1) (Fm ⟨Q.aQ.Rn,(gK e).me.at_,(gK e).me.fn,Q.aQ.kp⟩ (uB base e) (hr.mono (by decide)) (aN.v.g 0) Q.aQ.mg (gK e).bd (ak (aN.v.nm 0) aR) (aN.v.d 0)))
  (ba (d4 (mV (aN.v.nm 1) Q.aQ.cl (gj e).me (pG base e) (hr.mono (by decide)) (gj e).bd))
  (ba (gT aN.sc.nd (aN.v.l 2) (fB jC (ak (cu c1.1 c1.2 (hr.mono (by decide)) (ak (bp Q.aQ.cl Q.cV (aN.v.nm 1)) aR) (aN.v.d 1) (aN.v.g 1)) aR) B.jz rfl gR (aN.v.d 2) (aN.v.g 2)))
  (ba (qY (nI (aN.v.g 3) B.kY (ak (aN.v.nm 2) aR)) (oH aN.sc.nd) (cH (qY (Az (aN.v.g 3) B.kY (ak (qr zm (aN.v.nm 3) dZ) (ak (aN.v.nm 2) aR))) (oH aN.sc.nd) (cH (vj (oK Aw (js _) (qr D9 (cU (cU (bp Q.aQ.cl Q.cV (aN.v.nm 1)) (aN.v.nm 4)) (aN.v.nm 4)) (cU (cU (bp Q.aQ.cl Q.cV (aN.v.nm 1)) (aN.v.nm 3)) (aN.v.nm 3))) dZ) (cH (d4 (gW (aN.v.nm 1) Q.aQ.cl (mj e).me (yH base e) (hr.mono (by decide)) (mj e).bd (ak (aN.v.nm 3) (ak (aN.v.nm 4) aR))))) rZ)))))
  (cH (nh (zc (ak (cu c1.1 c1.2 (hr.mono (by decide)) (ak (bp Q.aQ.cl Q.cV (aN.v.nm 1)) aR) (aN.v.d 1) (aN.v.g 1)) (ak (bp Q.aQ.cl Q.kn (aN.v.nm 1)) (ak (bp Q.aQ.cl Q.gd (aN.v.nm 1)) (ak (bp Q.aQ.cl Q.jB (aN.v.nm 1)) (ak (bp Q.aQ.cl Q.fW (aN.v.nm 1)) aR))))))))))))) BO
theorem wH:Fk w mg base "are_dividing" ku ["thing","most"] 278 eH 277 2 kI:=by
 have c1:=k9 base e;have c2:=uq base e;have B:=Bt e;exact fk (by ac_rfl) xy (λ v nd _ _ _ _ _ _ hr=>by nofun) wb
theorem Dr:Fk w mg base "diagonal" qp ["numbers","many","wide"] 283 eH 282 2 p_:=by
 have c1:=sI base e;have B:=Bt e;exact fk (by ac_rfl) D1 (λ v nd _ _ _ _ _ _ hr=>by nofun) BM
theorem u5:Fk w mg base "shows_dividing" jN ["rows","told"] 290 eH 289 7 jE:=by
 have c1:=oR base e;have c2:=wH base e;have c3:=Ah base e;have c4:=nX base e;have c5:=Dr base e;have B:=Bt e;exact fk (by ac_rfl) uR (λ v nd _ _ _ _ _ _ hr=>by nofun) tV
theorem Aa:Fk w mg base "_law_source" nc ["_law_script","_law_k"] 297 eJ 296 1 nA:=by
 have B:=Bt e;exact fk (by ac_rfl) Aq (λ v nd _ _ _ _ _ _ hr=>by nofun) yF
theorem i_:Fk w mg base "_law_take" pY ["_law_source_here","_law_many"] 304 eJ 303 1 bz:=by
 have B:=Bt e;exact fk (by ac_rfl) D6 (λ v nd _ _ _ _ _ _ hr=>by nofun) BQ
theorem zO:Fk w mg base "_law_number" nK ["_law_source_here"] 311 eJ 310 2 nE:=by
 have c1:=i_ base e;have B:=Bt e;exact fk (by ac_rfl) zD (λ v nd _ _ _ _ _ _ hr=>by nofun) yY
theorem qE:Fk w mg base "_law_product" mq ["_law_one","_law_other"] 316 eJ 315 1 gS:=by
 have B:=Bt e;exact fk (by ac_rfl) yL (λ v nd _ _ _ _ _ _ hr=>by nofun) xp
theorem uc:Fk w mg base "_law_units" oA ["_law_n"] 321 eJ 320 1 f_:=by
 have B:=Bt e;exact fk (by ac_rfl) BV (λ v nd _ _ _ _ _ _ hr=>by nofun) Ab
theorem t7:Fk w mg base "_law_slope" oG ["_law_numbers","_law_many","_law_wide"] 326 eJ 325 1 la:=by
 have B:=Bt e;exact fk (by ac_rfl) Cj (λ v nd _ _ _ _ _ _ hr=>by nofun) zU
theorem nS:Fk w mg base "_law_is_number" j9 ["_law_found"] 333 eJ 332 1 ip:=by
 have B:=Bt e;exact fk (by ac_rfl) vh (λ v nd _ _ _ _ _ _ hr=>by nofun) uG
theorem xG:Fk w mg base "_law_are_rows" kT ["_law_found","_law_many","_law_wide"] 338 eJ 337 2 iS:=by
 have c1:=nS base e;have B:=Bt e;exact fk (by ac_rfl) xn (λ v nd _ _ _ _ _ _ hr=>by nofun) vD
theorem vS:Fk w mg base "_law_are_turns" j4 ["_law_turn","_law_back","_law_n"] 345 eJ 344 3 iq:=by
 have c1:=xG base e;have c2:=qE base e;have c3:=uc base e;have B:=Bt e;exact fk (by ac_rfl) wF (λ v nd _ _ _ _ _ _ hr=>by nofun) u6
theorem FJ:Fk w mg base "_law_due" rX ["_law_rows","_law_told"] 350 eJ 349 4 sy:=by
 have c1:=nS base e;have c2:=vS base e;have c3:=qE base e;have c4:=t7 base e;have B:=Bt e;exact fk (by ac_rfl) E8 (λ v nd _ _ _ _ _ _ hr=>by nofun) Eo
theorem Ee:Fk w mg base "_law_case" qh ["_law_source_here"] 355 eJ 354 10 pS:=by
 have c1:=i_ base e;have c2:=DH base e;have c3:=zO base e;have c4:=uc base e;have c5:=t7 base e;have B:=Bt e;exact fk (by ac_rfl) Er (λ v nd _ _ _ _ _ _ hr=>by nofun) Cd
theorem tL:Fk w mg base "_law_bad_numbers" jj ["_law_source_here","_law_numbers"] 360 eJ 359 2 jf:=by
 have c1:=i_ base e;have B:=Bt e;exact fk (by ac_rfl) tJ (λ v nd _ _ _ _ _ _ hr=>by nofun) rk
theorem wO:Fk w mg base "_law_bad_rows" kR ["_law_source_here","_law_rows"] 365 eJ 364 2 kK:=by
 have c1:=i_ base e;have B:=Bt e;exact fk (by ac_rfl) wR (λ v nd _ _ _ _ _ _ hr=>by nofun) wB
theorem Bc:Fk w mg base "_law_spoilt" m8 ["_law_source_here","_law_told"] 372 eJ 371 3 m9:=by
 have c1:=i_ base e;have c2:=tL base e;have c3:=wO base e;have B:=Bt e;exact fk (by ac_rfl) AN (λ v nd _ _ _ _ _ _ hr=>by nofun) yE
theorem BS:Fk w mg base "_law_about" om ["_law_told","_law_k"] 377 eJ 376 1 oo:=by
 have B:=Bt e;exact fk (by ac_rfl) Ca (λ v nd _ _ _ _ _ _ hr=>by nofun) zE
theorem A9:Fk w mg base "_law_looked" nH ["_law_rows","_law_told"] 384 eJ 383 8 iK:=by
 have c1:=u5 base e;have c2:=FJ base e;have B:=Bt e;exact fk (by ac_rfl) BD (λ v nd _ _ _ _ _ _ hr=>by nofun) yX
theorem P0:Fk w mg base "law" wg ["_law_script"] 391 eJ 390 11 Jn:=by
 have c1:=Aa base e;have c2:=Ee base e;have c3:=A9 base e;have c4:=Bc base e;have c5:=i_ base e;have c6:=BS base e;have B:=Bt e;exact fk (by ac_rfl) QR (λ v nd _ _ _ _ _ _ hr=>by nofun) Ng
end
def dL:DefRec:=match wg with
 | .FunctionDef n a b _ _ _ sc _ _ pos=>⟨n,a,b,sc,pos⟩
 |_=>⟨"",L2.jU (.Pass ⟨0,0,0,0⟩),[],L2.bE (.Pass ⟨0,0,0,0⟩),⟨0,0,0,0⟩⟩
theorem Ic:PySem.Challenge.rw_latticeworks_k24_papers_of_numbers.wellSaid=true:=by decide+kernel
end Row
open PySem PySem.W PyProof.Rows
set_option maxRecDepth 100000 in
set_option maxHeartbeats 0 in
theorem PySem.Challenge.cw_latticeworks_k24_papers_of_numbers_holds : PySem.Challenge.rw_latticeworks_k24_papers_of_numbers.Holds := by
 refine PySem.W.holds_law Row.Ic λ Ic=>?_;refine PySem.W.holds_open (r:=PySem.Challenge.rw_latticeworks_k24_papers_of_numbers.row) (q:=PySem.W.view Row.PW [1,2,3,4,6,7,8,9,10,11,12,13,14,15,16,18,19,20,21,22,24,25,26,27,28,29,30,31,33,34,35,36,37,38,39,40,41,42,43,44,45,46,47,48,49]) (loose:=[]) (Xt:=λ _=>true) (XP:=λ _ _=>True) (YP:=(PySem.W.kmHook Row.KX Row.KA (λ _=>rfl) [155]).says) (d:=Row.dL) (kwd:=[]) Row.left ((PySem.W.kmHook Row.KX Row.KA (λ _=>rfl) [155]).of) ((PySem.W.kmHook Row.KX Row.KA (λ _=>rfl) [155]).keeps) (λ _ _=>trivial) (λ _ _ _ _ _=>trivial) (by kernel_rfl) (by kernel_rfl) (by kernel_rfl) (λ s _=>PySem.W.recFacts_of (R:=[]) rfl) (by kernel_rfl) Ic (by decide+kernel) ⟨rfl,rfl,rfl,rfl,rfl,by decide+kernel⟩ ?hw ?hc;case hw=>w_witness2
 refine L2.Pn (n:=63) (k:=11) (x:="_law_script") (ts:=[(157,155)]) (K:=Row.KX) (sp:=λ w=>L3.Fs (Row.KX w.params) [(157,155)]) rfl (by decide) (by kernel_rfl) ⟨rfl,by decide,by decide⟩ (by kernel_rfl) rfl (λ w h Y=>⟨PySem.W.km_in_of Y,⟨(λ q hq=>by rcases TU.mp hq with rfl|hq;kernel_rfl;cases hq),(λ q hq=>by rcases TU.mp hq with rfl|hq;kernel_rfl;cases hq),λ q hq=>PySem.W.km_tabs_of Y _ (Xg (f:=Prod.snd) hq)⟩⟩) ?F λ _ _ a ns hl hE=>⟨a,ns,rfl,hE,hl,λ _=>rfl⟩
 intro w mg fa h X G hmg;have e2:=hmg.symm.trans (Yx (v:= .ref 391) X G (by kernel_rfl));cases e2;exact⟨Hd.fd Row.wg "law" "law" Row.eJ 390,λ s v=> .of_eq rfl,λ base _ _=>(Row.P0 base ⟨X,G⟩).2.imp λ vs H Q E h=>L3.Gf (tl:=[(155,⟨80,32,80,66⟩,"Bench.live_rows.<locals>.<lambda>")]) (by kernel_rfl) rfl (by decide) h⟩
