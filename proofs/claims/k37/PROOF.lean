import PyProof.Rows.All
import Wide.All
import OpenK.AllK
import Wide.FinOn
import Lean
import PyProof.EqAt
import PyProof.EqKinds
import PyProof.TupleCall
import PyProof.NeKinds
import KE.KUnpack
import PyProof.CallStr
import PySem.Challenge.RW_latticeworks_k37_papers_of_short_steps
set_option Elab.async false
set_option linter.all false
set_option maxRecDepth 100000
def Uu:=@PySem.wpAny_bind
def Uv:=@PySem.Heap.get?_push_of_some
def Uw:=@List.getElem?_eq_some_iff
def Ux:=@List.getElem?_set_ne
def Uy:=@if_neg
def Uz:=@List.length_map
def UA:=@if_pos
def UB:=@Nat.le_refl
def UC:=@List.getElem?_append_left
def UD:=@Ne.symm
def UE:=@Nat.le_of_ble_eq_true
def UG:=@Nat.le_trans
def UH:=@List.getElem?_set_self
def UI:=@List.size_toArray
def UJ:=@List.getElem?_eq_getElem
def UK:=@PySem.wpAny_pure
def UL:=@Nat.pow_le_pow_right
def UM:=@List.getElem?_map
def UN:=@PySem.Heap.lt_size
def UO:=@PySem.Heap.get?_push_size
def UP:=@List.all_eq_true
def UQ:=@List.mem_cons_of_mem
def UR:=@Bool.and_eq_true
def US:=@List.length_set
def UT:=@List.mem_cons
def UU:=@List.getD_eq_getElem?_getD
def UW:=@List.not_mem_nil
def UX:=@decide_eq_false
def UY:=@Nat.lt_of_lt_of_le
def UZ:=@List.mem_cons_self
def U0:=@List.getElem?_append_right
def U6:=@List.mem_map
def U8:=@List.mem_of_getElem?
def U9:=@List.drop_eq_getElem_cons
def U_:=@Int.toNat_natCast
def Va:=@List.map_cons
def Vb:=@List.getElem_mem
def Vc:=@Int.le_trans
def Vd:=@List.map_congr_left
def Ve:=@List.lookup_cons
def Vf:=@Int.mul_le_mul_of_nonneg_right
def Vg:=@Nat.ne_of_lt
def Vh:=@List.length_cons
def Vi:=@Option.some.inj
def Vj:=@PySem.wpAny_field
def Vk:=@congrArg
def Vl:=@List.map_map
def Vm:=@PySem.Heap.size_push
def Vn:=@PySem.wpAny_setField_rec
def Vo:=@PySem.W.mg_none_of
def Vp:=@List.mem_range
def Vq:=@PySem.wpAny_seqItems
def Vr:=@Int.natAbs_mul
def Vs:=@List.getElem_map
def Vt:=@Nat.lt_irrefl
def Vu:=@List.mem_iff_getElem
def Vv:=@Bool.false_ne_true
def Vw:=@List.getElem_range
def Vx:=@List.mem_append_right
def Vy:=@PySem.sizeLine_eq
def Vz:=@Nat.lt_of_le_of_lt
def VA:=@decide_eq_true
def VB:=@Int.mul_zero
def VC:=@PySem.mem_of_lookup
def VD:=@List.getElem?_range
def VE:=@not_false_eq_true
def VG:=@Int.one_mul
def VH:=@PyProof.Rows.slot_tuple_getitem
def VI:=@PySem.wpAny_callSpecial?_slot
def VJ:=@List.mem_append
def VL:=@List.cons.injEq
def VM:=@Nat.mul_le_mul_right
def VN:=@Int.natCast_pow
def VO:=@List.mem_or_eq_of_mem_set
def VP:=@Nat.zero_le
def VQ:=@PySem.W.kia_one
def VR:=@List.map_append
def VT:=@PyProof.Rows.callWith_type1
def VU:=@Nat.pow_lt_pow_right
def VV:=@List.range_succ_eq_map
def VW:=@decide_eq_true_eq
def VX:=@Int.mul_left_comm
def VY:=@List.replicate_succ
def VZ:=@List.append_nil
def V0:=@Int.mul_le_mul_of_nonneg_left
def V1:=@List.length_append
def V2:=@Nat.sub_self
def V3:=@or_false
def V4:=@Int.mul_fdiv_cancel_left
def V5:=@List.all_cons
def V6:=@Int.mul_assoc
def V7:=@Bool.false_and
def V8:=@List.length_eq_zero_iff
def V9:=@List.append_assoc
def V_:=@Int.fmod_nonneg_of_pos
def Wa:=@PySem.wpAny_onRaise
def Wb:=@PySem.wpAny_call_entry
def Wc:=@List.getElem?_eq_none
def Wd:=@Int.mul_le_mul
def We:=@Nat.mul_comm
def Wf:=@PySem.F.slot_zip_next
def Wg:=@Int.mul_comm
def Wh:=@Int.le_of_lt
def Wi:=@List.range_succ
def Wj:=@PySem.wpAny_truthy_bool
def Wk:=@PySem.wpAny_newObj_type
def Wl:=@List.flatten_cons
def Wm:=@List.getElem?_cons_succ
def Wn:=@beq_eq_false_iff_ne
def Wo:=@PySem.wpAny_mono
def Wq:=@beq_iff_eq
def Wr:=@PySem.W.cellsFrom_some
def Ws:=@Int.mul_pos
def Wt:=@Nat.pow_add
def Wu:=@Int.fmod_lt_of_pos
def Wv:=@Int.natAbs_natCast
def Ww:=@PySem.wpAny_passesOwn
def Wx:=@if_true
def Wy:=@Int.mul_ne_zero
def Wz:=@PySem.F.slot_tuple_iterator_next
def WA:=@Int.mul_lt_mul_of_pos_left
def WB:=@Int.lt_of_mul_lt_mul_left
def WC:=@Int.le_of_mul_le_mul_left
def WD:=@Int.neg_mul
def WE:=@Nat.log2_lt
def WG:=@Nat.ne_of_gt
def WH:=@Nat.lt_succ_self
def WI:=@Option.isSome_iff_exists
def WJ:=@decide_eq_decide
def WK:=@and_true
def WL:=@Int.sub_zero
def WM:=@PySem.wpAny_execs_nil
def WN:=@List.nodup_cons
def WO:=@PySem.call_meets
def WQ:=@Option.map_some
def WR:=@Int.natCast_mul
def WS:=@List.drop_eq_nil_of_le
def WT:=@PySem.wpAny_letGo
def WU:=@Int.pow_add
def WV:=@PySem.wpAny_pyIter_list
def WW:=@Int.add_zero
def WX:=@Int.mul_nonneg
def WY:=@List.length_take
def WZ:=@Nat.le_of_not_lt
def W0:=@PySem.F.slot_tuple_mul
def W2:=@Int.natAbs_mul_self'
def W3:=@PySem.wpAny_holding
def W4:=@Bool.true_and
def W5:=@Int.fdiv_eq_ediv_of_nonneg
def W6:=@Nat.pow_mul
def W7:=@Int.toNat_of_nonneg
def W8:=@Bool.eq_iff_iff
def W9:=@List.forIn_cons
def W_:=@Bool.or_eq_true
def Xa:=@PySem.wpAny_Call_Name_kw
def Xb:=@PySem.F.args_tuple_add_2
def Xd:=@Nat.pow_succ
def Xe:=@List.map_set
def Xf:=@PySem.wpAny_rule
def Xg:=@List.forIn_nil
def Xh:=@Nat.mul_le_mul
def Xi:=@PySem.F.entry_tuple_add
def Xj:=@PySem.F.plainAttrs_list
def Xk:=@PySem.W.kitx_list
def Xl:=@PySem.W.kitx_dict
def Xm:=@PySem.F.args_zip_next_1
def Xn:=@List.reverse_cons
def Xo:=@Int.mul_nonneg_of_nonpos_of_nonpos
def Xp:=@PySem.F.slot_tuple_add
def Xq:=@not_or
def Xr:=@PySem.wpAny_standAt
def Xs:=@beq_self_eq_true
def Xu:=@List.zipIdx_cons
def Xv:=@PySem.F.entry_zip_next
def Xw:=@PySem.wpAny_pyIter_zip
def Xx:=@Nat.eq_zero_of_gcd_eq_zero_right
def Xy:=@PySem.Heap.get?_update_self
def Xz:=@List.lookup_cons_self
def XA:=@Rat.divInt_mul_divInt
def XB:=@PySem.F.slot_int_rmul
def XC:=@PySem.wpAny_ite_false
def XD:=@List.zipIdx_nil
def XE:=@PySem.wpAny_updateSeq_pair
def XF:=@Int.zero_add
def XG:=@Bool.and_eq_true_iff
def XH:=@Int.zero_mul
def XI:=@Int.natAbs_of_nonneg
def XJ:=@Int.mul_eq_zero
def XM:=@Int.ofNat_le
def XN:=@Nat.eq_one_of_mul_eq_one_right
def XO:=@Nat.min_eq_left
def XQ:=@List.filterMap_cons
def XR:=@Array.length_toList
def XS:=@PySem.W.plainGet_of
def XT:=@PySem.Heap.SameBut.update
def XU:=@List.length_reverse
def XW:=@Int.natAbs_mul_self
def XX:=@if_false
def XY:=@PySem.F.args_tuple_iterator_next_1
def XZ:=@Int.natAbs_neg
def X8:=@Int.le_refl
def X9:=@PyProof.Rows.assignInOrder_cons
def X_:=@PySem.W.callWith_K
def Yb:=@PySem.F.args_tuple_mul_2
def Yc:=@PySem.F.entry_tuple_iterator_next
def Yd:=@Int.natCast_nonneg
def Ye:=@PySem.Calls.Name_function_global
def Yg:=@List.any_cons
def Yh:=@PySem.wpAny_attempt
def Yi:=@Int.le_of_mul_le_mul_right
def Yj:=@List.map_take
def Yk:=@List.any_eq_false
def Yl:=@Nat.lt_succ_of_lt
def Ym:=@Nat.le_of_succ_le
def Yn:=@Option.some.injEq
def Yo:=@PySem.F.entry_tuple_mul
def Yp:=@List.getElem?_set
def Yq:=@List.length_range
def Yr:=@Nat.lt_trichotomy
def Ys:=@PySem.typeIs_int
def Yt:=@PySem.wpAny_binaryOp_repeat_ref
def Yu:=@bne_iff_ne
def Yv:=@List.getElem?_eq_none_iff
def Yw:=@PySem.wpAny_letOwnedTupleGo_zip
def Yx:=@List.getElem?_zip_eq_some
def Yy:=@Int.eq_of_mul_eq_mul_left
def Yz:=@PySem.wpAny_execs_cons
def YA:=@PySem.codeAny_mono
def YB:=@List.getElem?_take_of_lt
def YC:=@PySem.noFill_tuple_add
def YD:=@List.length_drop
def YE:=@PySem.wpAny_comprehension_free
def YF:=@PyProof.noPylong_of_log2
def YG:=@List.mem_reverse
def YH:=@Nat.lt_or_ge
def YI:=@List.getElem?_replicate
def YJ:=@List.of_mem_zip
def YK:=@beq_false_of_ne
def YL:=@PySem.wpAny_pyNext_range_end
def YM:=@PySem.wpAny_pyIter_rangeiter
def YN:=@PySem.seqIndex_of
def YO:=@PySem.Heap.get?_update_other
def YQ:=@PySem.Calls.callWith_builtin
def YR:=@Prod.mk.inj
def YS:=@Int.mul_add
def YT:=@Nat.one_mul
def YU:=@Int.pow_pos
def YV:=@List.zipWith_cons_cons
def YW:=@PySem.W.methodCall_KW
def YX:=@List.length_singleton
def YY:=@List.getElem?_toArray
def YZ:=@Bool.and_false
def Y0:=@List.contains_iff_mem
def Y1:=@Int.add_nonneg
def Y2:=@Rat.divInt_sub_divInt
def Y3:=@List.set_append_right
def Y4:=@List.mem_iff_getElem?
def Y5:=@PySem.seq_tuple_add
def Y6:=@PySem.W.mg_of
def Y7:=@Nat.le_of_lt
def Y8:=@Nat.le_of_eq
def Y9:=@PySem.concat_meets
def Y_:=@PySem.wpAny_typeOf
def Za:=@List.map_nil
def Zb:=@List.all_map
def Zc:=@Nat.sub_zero
def Zd:=@Nat.gcd_comm
namespace L2
open PySem PySem.Spec PyProof.Rows
abbrev Key:=Sum Int Str
def KQ:Key->Value->Bool
 | .inl k,v=>Value.isInt k v
 | .inr x,v=>Value.isStrOf x v
def TU(w:World):Key->Int
 | .inl k=>hashInt k
 | .inr x=>hashStr w x
theorem d8:∀ {k:Key} {v:Value},KQ k v=true->(∃i t,k=Sum.inl i/\v=Value.int i t)\/(∃x t,k=Sum.inr x/\v=Value.str x t)
 | .inl i,v,h=>by
   obtain⟨t,e⟩:=Value.isInt_shape (k:=i) (v:=v) h;exact .inl ⟨i,t,rfl,e⟩
 | .inr x,v,h=>by
   obtain⟨t,e⟩:=Value.isStrOf_shape (x:=x) (v:=v) h;exact .inr ⟨x,t,rfl,e⟩
theorem PQ(a b:Int):decide ((Sum.inl a:Key)=Sum.inl b)=(a==b):=by
 by_cases e:a=b
 . subst e;simp
 . have h:¬(Sum.inl a:Key)=Sum.inl b:=λ q=>e (Sum.inl.inj q);rw[UX h];exact(Wn.mpr e).symm
theorem PZ(a b:Str):decide ((Sum.inr a:Key)=Sum.inr b)=decide (a=b):=by
 by_cases e:a=b
 . subst e;simp
 . have h:¬(Sum.inr a:Key)=Sum.inr b:=λ q=>e (Sum.inr.inj q);rw[UX h,UX e]
theorem Of(a:Int)(b:Str):decide ((Sum.inl a:Key)=Sum.inr b)=false:=UX (λ q=>nomatch q)
theorem Oj(a:Str)(b:Int):decide ((Sum.inr a:Key)=Sum.inl b)=false:=UX (λ q=>nomatch q)
def CQ(prog:Program)(w:World):PySem.KeyKind prog w Key where
 is:=KQ
 hash:=TU w
 inj:=λ v a b ha hb=>by
  rcases d8 ha with⟨i,t,rfl,rfl⟩|⟨x,t,rfl,rfl⟩
  . rcases d8 hb with⟨j,u,rfl,e⟩|⟨y,u,rfl,e⟩
    . injection e with e1 _;rw[e1]
    . exact nomatch e
  . rcases d8 hb with⟨j,u,rfl,e⟩|⟨y,u,rfl,e⟩
    . exact nomatch e
    . injection e with e1 _;rw[e1]
 byValue:=λ k v h=>by
  rcases d8 h with⟨i,t,rfl,rfl⟩|⟨x,t,rfl,rfl⟩<;>rfl
 pyHash:=λ hv h=>by
  rcases d8 hv with⟨i,t,rfl,rfl⟩|⟨x,t,rfl,rfl⟩
  . exact wpAny_pyHash_int h
  . exact wpAny_pyHash_str h
 eqBool:=λ hu hv h=>by
  rcases d8 hu with⟨i,t,rfl,rfl⟩|⟨x,t,rfl,rfl⟩
  . rcases d8 hv with⟨j,u,rfl,rfl⟩|⟨y,u,rfl,rfl⟩
    . rw[PQ]at h;exact wpAny_eqBool_int h
    . rw[Of]at h;exact SeqAt.EqAt.int_str i t y u _ _ _ _ h
  . rcases d8 hv with⟨j,u,rfl,rfl⟩|⟨y,u,rfl,rfl⟩
    . rw[Oj]at h;exact SeqAt.EqAt.str_int x t j u _ _ _ _ h
    . rw[PZ]at h;exact wpAny_eqBool_str h
 «strs» :=λ k x t v h=>by
  rcases d8 h with⟨i,u,rfl,e⟩|⟨y,u,rfl,e⟩
  . exact nomatch e
  . injection e with e1 _;subst e1;cases v<;>rfl
inductive V where
 |ay|bl (b:Bool)|int (i:Int)|str (x:Str)|s_ (b:Array UInt8)|tw (b:UInt64)|ref (a:Addr)|ty (n:String)
 deriving DecidableEq
def RelV:V->Value->Prop
 | .ay,u=>u=Value.none
 | .bl b,u=>u=Value.bool b
 | .int i,u=>∃t,u=Value.int i t
 | .str x,u=>∃t,u=Value.str x t
 | .s_ b,u=>∃t,u=Value.bytes b t
 | .tw b,u=>∃t,u=Value.float b t
 | .ref a,u=>u=Value.ref a
 | .ty n,u=>u=Value.type n
abbrev Vals:List V->List Value->Prop:=Paired RelV
theorem Vals.length{xs:List V}{us:List Value}(r:Vals xs us):xs.length=us.length:=Paired.length r
theorem Vals.get:∀ {xs:List V} {us:List Value} {i:Nat} {x:V},Vals xs us->xs[i]?=some x->∃u,us[i]?=some u/\RelV x u
 |_,_,_,_,.nil,e=>by simp at e
 |_,_,0,_,.cons r _,e=>by simp at e;subst e;exact⟨_,rfl,r⟩
 |_,_,i+1,x,.cons _ t,e=>by
  obtain⟨u,h1,h2⟩:=Vals.get (i:=i) (x:=x) t (by simpa using e);exact⟨u,by simpa using h1,h2⟩
theorem Vals.set{x:V}{u:Value}(r:RelV x u):∀ {xs:List V} {us:List Value} (i:Nat),Vals xs us->Vals (xs.set i x) (us.set i u)
 |_,_,_,.nil=> .nil
 |_,_,0,.cons _ t=> .cons r t
 |_,_,i+1,.cons q t=> .cons q (Vals.set r i t)
theorem Vals.append:∀ {xs ys:List V} {us ws:List Value},Vals xs us->Vals ys ws->Vals (xs++ys) (us++ws)
 |_,_,_,_,.nil,s=>s
 |_,_,_,_,.cons r t,s=> .cons r (Vals.append t s)
theorem Vals.take:∀ {xs:List V} {us:List Value} (n:Nat),Vals xs us->Vals (xs.take n) (us.take n)
 |_,_,0,_=> .nil
 |_,_,_+1,.nil=> .nil
 |_,_,n+1,.cons r t=> .cons r (Vals.take n t)
theorem Vals.drop:∀ {xs:List V} {us:List Value} (n:Nat),Vals xs us->Vals (xs.drop n) (us.drop n)
 |_,_,0,r=>r
 |_,_,_+1,.nil=> .nil
 |_,_,n+1,.cons _ t=>Vals.drop n t
def oa:Option V->Option Value->Prop
 |some v,some u=>RelV v u
 |none,none=>True
 |_,_=>False
def KV{κ:Type}:List (κ×V)->List (κ×Value)->Prop:=Paired λ(p:κ×V) (q:κ×Value)=>p.1=q.1/\RelV p.2 q.2
def kV:Key->V
 | .inl i=> .int i
 | .inr x=> .str x
inductive HO where
 |lst (xs:List V)
 |tup (xs:List V)
 |dK (kvs:List (Key×V))|dT (kvs:List (List Key×V))
 |set (S:Int->Bool) (n:Nat)
 |ins (C dx:Addr) (fs:List (Str×V))
 |own (x:Addr)
 |xd (fs:List (Str×V))
 |met (f x:Addr)
 |O4 (lo hi:Int)
 |iE (o:Obj) (u:HO)
 |mj (ps:Array Value)
 |ext (φ:Heap->Prop)
abbrev Hp:=Addr->Option HO
def upd(H:Hp)(a:Addr)(o:HO):Hp:=λ b=>if b=a then some o else H b
theorem a_{H:Hp}{a:Addr}{o:HO}:upd H a o a=some o:=by unfold upd;rw[UA rfl]
theorem aF{H:Hp}{a b:Addr}{o:HO}(h:b≠a):upd H a o b=H b:=by unfold upd;rw[Uy h]
theorem L9{H:Hp}{a:Addr}{o u:HO}:upd (upd H a o) a u=upd H a u:=by
 funext b;unfold upd;split<;>rfl
theorem d7{H:Hp}{a b:Addr}{o:HO}(h:H a=some o)(h':H b=none):a≠b:=by
 intro e;subst e;rw[h]at h';cases h'
section
variable (P:Program)(w:World)
def df(H:Hp)(h:Heap)(a:Addr):HO->Prop
 | .lst xs=>xs.length<=sizeLine/\∃(ao:List Value) (n:Nat),Vals xs ao/\h.get? a=some {cls:= .type "list",data:= .seq ao.toArray n}
 | .tup xs=>xs.length<=sizeLine/\∃ao:List Value,Vals xs ao/\IsTup h a ao.toArray
 | .dK kvs=>kvs.length<=sizeLine/\(a==sysModules)=false/\∃vs,KV kvs vs/\h.DictOf (CQ P w) a vs
 | .dT kvs=>kvs.length<=sizeLine/\(a==sysModules)=false/\∃xs:List (List Key×Addr×Value),
    Paired (λ(p:List Key×V) (q:List Key×Addr×Value)=>p.1=q.1/\H q.2.1=some (.tup (p.1.map kV))/\RelV p.2 q.2.2) kvs xs/\
    ∃o es ep,h.get? a=some o/\o.ExactDict/\o.data= .dict es ep/\es.toList=xs.map (entryOfKey (tupleKind (CQ P w)))/\(xs.map (·.1)).Nodup
 | .set S n=>h.SetOf (intKind P w) a S n
 | .ins C dx fs=>H dx=some (.own a)/\fs.length<=1000/\dx≠a/\h.get? a=some (PySem.W.instObj C dx)/\
    ∃mA,h.Ns1 dx mA/\(∀f,oa (fs.lookup f) (mA f))/\PySem.Within mA (fs.map (·.1))
 | .own _=>∃o,h.get? a=some o
 | .xd fs=>∃mA,h.Ns1 a mA/\∀f,oa (fs.lookup f) (mA f)
 | .O4 lo hi=>∃t u v,h.get? a=some {cls:= .type "range",data:= .fields #[.int lo t,.int hi u,.int 1 v]}
 | .iE o u=>h.get? a=some o/\df H h a u
 | .mj ps=>h.get? a=some {cls:= .none,data:= .fields ps}
 | .met f x=>h.get? a=some (PySem.W.methodObj (.ref f) (.ref x))
 | .ext φ=>φ h/\(∃o,h.get? a=some o)/\∀h1 h2:Heap,φ h1->(∀o,h1.get? a=some o->h2.get? a=some o)->φ h2
def gv(H:Hp)(h:Heap):Prop:=∀a o,H a=some o->df P w H h a o
end
section
variable {P:Program}{w:World}{H H':Hp}{h h':Heap}{a:Addr}{o:HO}
theorem df.lt(x:df P w H h a o):a<h.objs.size:=by
 cases o with
 |lst xs=>obtain⟨_,_,_,_,e⟩:=x;exact UN e
 |tup xs=>obtain⟨_,_,_,p⟩:=x;exact p.lt
 |dK kvs=>obtain⟨_,_,_,_,o,_,_,e,_⟩:=x;exact UN e
 |dT kvs=>obtain⟨_,_,_,_,o,_,_,e,_⟩:=x;exact UN e
 |set S n=>obtain⟨o,_,_,_,e,_⟩:=x;exact UN e
 |ins C dx fs=>obtain⟨_,_,_,e,_⟩:=x;exact UN e
 |own y=>obtain⟨_,e⟩:=x;exact UN e
 |xd fs=>obtain⟨_,⟨_,_,_,e,_⟩,_⟩:=x;exact UN e
 |O4 lo hi=>obtain⟨_,_,_,e⟩:=x;exact UN e
 |iE ob u=>obtain⟨e,_⟩:=x;exact UN e
 |mj ps=>exact UN (show h.get? a=some _ from x)
 |met f y=>exact UN (show h.get? a=some _ from x)
 |ext φ=>obtain⟨_,⟨_,e⟩,_⟩:=x;exact UN e
theorem Paired.HV{α β:Type}{F G:α->β->Prop}:∀ {l₁:List α} {l₂:List β},Paired F l₁ l₂->(∀a b,F a b->G a b)->Paired G l₁ l₂
 |_,_,.nil,_=> .nil
 |_,_,.cons r t,f=> .cons (f _ _ r) (Paired.HV t f)
theorem df.rE(x:df P w H h a o)(k:∀b u,(b=a\/H b=some (.own a))->h.get? b=some u->h'.get? b=some u)
 (ho:∀b,H b=some (.own a)->H' b=some (.own a)) (ht:∀b xs,H b=some (.tup xs)->H' b=some (.tup xs)):df P w H' h' a o:=by
 induction o with
 |lst xs=>obtain⟨z,ao,n,r,e⟩:=x;exact⟨z,ao,n,r,k _ _ (.inl rfl) e⟩
 |tup xs=>obtain⟨z,ao,r,ob,e,c⟩:=x;exact⟨z,ao,r,ob,k _ _ (.inl rfl) e,c⟩
 |dK kvs=>obtain⟨z,y,vs,r,ob,es,ep,e,c⟩:=x;exact⟨z,y,vs,r,ob,es,ep,k _ _ (.inl rfl) e,c⟩
 |dT kvs=>
  obtain⟨z,y,xs,r,ob,es,ep,e,c⟩:=x;exact⟨z,y,xs,Paired.HV r λ p q z=>⟨z.1,ht _ _ z.2.1,z.2.2⟩,ob,es,ep,k _ _ (.inl rfl) e,c⟩
 |set S n=>obtain⟨ob,es,ep,t,e,c⟩:=x;exact⟨ob,es,ep,t,k _ _ (.inl rfl) e,c⟩
 |ins C dx fs=>
  obtain⟨d,z,ne,e,mA,⟨od,es,ep,e2,c⟩,r⟩:=x;exact⟨ho _ d,z,ne,k _ _ (.inl rfl) e,mA,⟨od,es,ep,k _ _ (.inr d) e2,c⟩,r⟩
 |own y=>obtain⟨ob,e⟩:=x;exact⟨ob,k _ _ (.inl rfl) e⟩
 |xd fs=>obtain⟨mA,⟨od,es,ep,e,c⟩,r⟩:=x;exact⟨mA,⟨od,es,ep,k _ _ (.inl rfl) e,c⟩,r⟩
 |O4 lo hi=>obtain⟨t,u,v,e⟩:=x;exact⟨t,u,v,k _ _ (.inl rfl) e⟩
 |iE ob u ih=>obtain⟨e,q⟩:=x;exact⟨k _ _ (.inl rfl) e,ih q⟩
 |mj ps=>
  have e:h.get? a=some {cls:= .none,data:= .fields ps}:=x;show h'.get? a=some {cls:= .none,data:= .fields ps};exact k a _ (.inl rfl) e
 |met f y=>
  have e:h.get? a=some (PySem.W.methodObj (.ref f) (.ref y)):=x;show h'.get? a=some (PySem.W.methodObj (.ref f) (.ref y));exact k a _ (.inl rfl) e
 |ext φ=>obtain⟨p,⟨o,e⟩,st⟩:=x;exact⟨st _ _ p λ o q=>k _ _ (.inl rfl) q,⟨o,k _ _ (.inl rfl) e⟩,st⟩
theorem gv.lt(x:gv P w H h)(e:H a=some o):a<h.objs.size:=(x a o e).lt
theorem gv.fresh(x:gv P w H h)(e:h.objs.size<=a):H a=none:=by
 cases q:H a with
 |none=>rfl
 |some u=>exact absurd (UY (x.lt q) e) (Vt _)
theorem gv.kept(x:gv P w H h)(k:∀b u,h.get? b=some u->h'.get? b=some u):gv P w H h':=λ a o e=>
 (x a o e).rE (λ b u _ q=>k b u q) (λ _ q=>q) λ _ _ q=>q
theorem gv.laid(x:gv P w H h)(k:∀b u,h.get? b=some u->h'.get? b=some u)(hp:h.objs.size<=a)(new:df P w (upd H a o) h' a o):gv P w (upd H a o) h':=λ b u e=>by
 have hn:=x.fresh hp;by_cases hb:b=a
 . subst hb;rw[a_]at e;cases e;exact new
 . rw[aF hb]at e;exact(x b u e).rE (λ c v _ q=>k c v q) (λ c q=>by rw[aF (d7 q hn)];exact q) λ c xs q=>by rw[aF (d7 q hn)];exact q
end
def Rd(H:Hp)(a:Addr)(u:HO):Prop:=H a=some u\/∃o,H a=some (.iE o u)
theorem Rd.of{H:Hp}{a:Addr}{u:HO}(h:H a=some u):Rd H a u:= .inl h
theorem Rd.ok{P:Program}{w:World}{H:Hp}{h:Heap}{a:Addr}{u:HO}(r:Rd H a u)(x:gv P w H h):df P w H h a u:=by
 rcases r with r|⟨o,r⟩
 . exact x a u r
 . obtain⟨_,q⟩:=x a _ r;exact q
def Ks:Option HO->Prop
 |some (.lst _)=>True
 |some (.dK _)=>True
 |some (.dT _)=>True
 |some (.set _ _)=>True
 |some (.ins _ _ _)=>True
 |some (.ext _)=>True
 |_=>False
section
variable {P:Program}{w:World}{H:Hp}{h h':Heap}{x e:Addr}{o':HO}
theorem gv.write(ok:gv P w H h)(mu:Ks (H x))(he:e=x\/H e=some (.own x))(k:∀b u,b≠e->h.get? b=some u->h'.get? b=some u)(heo:∃u,h'.get? e=some u)
 (new:df P w (upd H x o') h' x o'):gv P w (upd H x o') h':=λ b u q=>by
 have nown:∀c y,H c=some (.own y)->c≠x:=λ c y r z=>by subst z;rw[r]at mu;exact mu
 have ntup:∀c xs,H c=some (.tup xs)->c≠x:=λ c xs r z=>by subst z;rw[r]at mu;exact mu
 by_cases hb:b=x
 . subst hb;rw[a_]at q;cases q;exact new
 . rw[aF hb]at q;by_cases hbe:b=e
   . have q':H b=some (.own x):=by
      rcases he with z|z
      . exact absurd (hbe.trans z) hb
      . rw[hbe];exact z
     rw[q]at q';cases q';obtain⟨v,hv⟩:=heo;exact⟨v,by rw[hbe];exact hv⟩
   . refine(ok b u q).rE (λ c v hc r=>k c v ?_ r) (λ c r=>by rw[aF (nown c b r)];exact r) λ c xs r=>by rw[aF (ntup c xs r)];exact r
     rcases hc with rfl|hc
     . exact hbe
     . rintro rfl;rcases he with z|z
       . exact nown c b hc z
       . rw[hc]at z;cases z;exact hb rfl
end
structure Un(fs ex:List Addr)(H H':Hp)(h h':Heap):Prop where
 keep:∀b o,h.get? b=some o->H b=none->b∉fs->b∉ex->h'.get? b=some o
 slot:∀b o,h.get? b=some o->H b=none->b∈fs->b∉ex->∃sl,h'.get? b=some {o with slots:=sl}
 free:∀b o,h.get? b=some o->H b=none->b∉ex->H' b=none
 there:∀b o,h.get? b=some o->b∉ex->∃o',h'.get? b=some o'
 o7:∀b xs,H b=some (.tup xs)->H' b=some (.tup xs)
 og:∀b o u,H b=some (.iE o u)->H' b=some (.iE o u)
 nD:∀b ps,H b=some (.mj ps)->∃more,H' b=some (.mj (ps++more))
section
variable {fs fs' ex ex':List Addr}{H H1 H2:Hp}{h h1 h2 h':Heap}{a x e:Addr}{o:HO}
theorem Un.any(u:Un fs ex H H1 h h1){b:Addr}{ob:Obj}(q:h.get? b=some ob)(n:H b=none)(hx:b∉ex):∃sl,h1.get? b=some {ob with slots:=sl}:=by
 by_cases hb:b∈fs
 . exact u.slot b ob q n hb hx
 . exact⟨ob.slots,u.keep b ob q n hb hx⟩
theorem Un.kept(k:∀b u,h.get? b=some u->h'.get? b=some u):Un fs ex H H h h':=
 ⟨λ b ob q _ _ _=>k b ob q,λ b ob q _ _ _=>⟨ob.slots,k b ob q⟩,λ _ _ _ n _=>n,λ b ob q _=>⟨ob,k b ob q⟩,λ _ _ q=>q,λ _ _ _ q=>q,λ _ ps q=>⟨#[],by rw[q];simp⟩⟩
theorem Un.refl:Un fs ex H H h h:=Un.kept λ _ _ q=>q
theorem Un.laid(k:∀b u,h.get? b=some u->h'.get? b=some u)(hp:h.objs.size<=a)(hn:H a=none):Un fs ex H (upd H a o) h h' where
 keep:=λ b u q _ _ _=>k b u q
 slot:=λ b u q _ _ _=>⟨u.slots,k b u q⟩
 free:=λ b u q n _=>by rw[aF (Vg (UY (UN q) hp))];exact n
 there:=λ b u q _=>⟨u,k b u q⟩
 o7:=λ b xs q=>by rw[aF (d7 q hn)];exact q
 og:=λ b u xs q=>by rw[aF (d7 q hn)];exact q
 nD:=λ b ps q=>⟨#[],by rw[aF (d7 q hn),q];simp⟩
theorem Un.write(mu:Ks (H x))(he:e=x\/H e=some (.own x))(k:∀b u,b≠e->h.get? b=some u->h'.get? b=some u)(heo:∃u,h'.get? e=some u):Un fs ex H (upd H x o) h h':=by
 have hx:∀b,H b=none->b≠x:=λ b n z=>by subst z;rw[n]at mu;exact mu
 have hb:∀b,H b=none->b≠e:=λ b n z=>by
  subst z;rcases he with r|r
  . exact hx b n r
  . rw[n]at r;cases r
 have hm:∀b u,H b=some u->¬Ks (some u)->b≠x:=λ b u q nm z=>by subst z;rw[q]at mu;exact nm mu
 refine⟨λ b u q n _ _=>k b u (hb b n) q,λ b u q n _ _=>⟨u.slots,k b u (hb b n) q⟩,λ b u q n _=>by rw[aF (hx b n)];exact n,λ b u q _=>?_,
  λ b xs q=>by rw[aF (hm b _ q λ z=>z)];exact q,λ b u xs q=>by rw[aF (hm b _ q λ z=>z)];exact q,λ b ps q=>⟨#[],by rw[aF (hm b _ q λ z=>z),q];simp⟩⟩
 by_cases hbe:b=e
 . subst hbe;exact heo
 . exact⟨u,k b u hbe q⟩
end
def KZ(h:Heap)(H:Hp):List Addr:=(List.range h.objs.size).filter λ a=>(H a).isSome
def nL(h:Heap)(H:Hp):Heap:=PySem.W.hideAll h (KZ h H)
theorem E9(h:Heap)(H:Hp):(nL h H).objs.size=h.objs.size:=PySem.W.hideAll_size _ _
theorem pv{h:Heap}{H:Hp}{b:Addr}{o:Obj}(e:h.get? b=some o)(n:H b=none):(nL h H).get? b=some o:=
 PySem.W.hideAll_get _ e λ hm=>by
  have q:(H b).isSome=true:=(List.mem_filter.mp hm).2;rw[n]at q;simp at q
theorem NB{h:Heap}{H:Hp}{b:Addr}{o:Obj}(e:(nL h H).get? b=some o):h.get? b=some o/\H b=none:=by
 have e':h.get? b=some o:=PySem.W.of_hideAll (KZ h H) e;refine⟨e',?_⟩;cases q:H b with
 |none=>rfl
 |some x=>
  have hm:b∈KZ h H:=List.mem_filter.mpr ⟨Vp.mpr (UN e'),by simp[q]⟩;have z:(nL h H).get? b=none:=PySem.W.hideAll_none (KZ h H) hm;rw[z]at e;cases e
def MZ(g h:Heap)(L:Addr):List (Addr×Obj):=(List.range h.objs.size).filterMap λ a=>if a=L\/(g.get? a).isSome=true then none else(h.get? a).map λ o=>(a,o)
def rest(g h:Heap)(L d:Addr):List (Addr×Obj):=(MZ g h L).filter λ p=>decide (p.1≠d)
structure Mod(K:PySem.W.Frag)(mg:Str->Option Value)(base:Heap):Prop where
 GG:K.In base
 glob:base.Ns mainGlobals mg
 blt:∃mb,base.Ns builtinsNs mb/\∀x:Str,x≠"__name__"->mb x=bootBuiltins x
 nolimit:base.NoLimit
 seer:base.NoSeer
 bmain:∃bm ob,mg "__builtins__"=some (.ref bm)/\bm≠builtinsNs/\base.get? bm=some ob/\ob.cls= .type "module"/\ob.dict=some builtinsNs/\ob.data= .plain
structure Cx where
 prog:Program
 w:World
 K:PySem.W.Frag
 mg:Str->Option Value
 base:Heap
 A:Around
 N:List Str
 s₀:Shared
 H₀:Hp
 env:Env
 outer:List Env
 stack:List Env
 ex:List Addr
 fn:Str->Bool
 calm:Bool
 pn:List (Addr×Obj)
 xe:Value->Shared->Prop
def oy(l:List Env):List Addr:=l.filterMap (·.frame)
abbrev Cx.fs(X:Cx):List Addr:=oy X.outer
def zy(sc:Scope)(x:Str):Prop:=sc.names.lookup x=some .local\/sc.names.lookup x=some .cell\/sc.names.lookup x=some .free
def Loc(sc:Scope)(x:Str):Prop:=sc.names.lookup x=some .local\/sc.names.lookup x=some .cell
def Look(env:Env)(h:Heap)(m:Str->Option Value)(x:Str)(u:Value):Prop:=
 (env.kindOf x=some .local/\m x=some u)\/((env.kindOf x=some .cell\/env.kindOf x=some .free)/\∃c,env.cells.lookup x=some c/\h.IsCell c (some u))
structure Cx.Ok(X:Cx):Prop where
 mod:Mod X.K X.mg X.base
 kind:X.env.scope.kind= .function
 glob:X.env.globals=mainGlobals
 blt:X.env.builtins=builtinsNs
 above:X.s₀.heap.objs.size<=X.env.locals
 inj:∀x y c,X.env.cells.lookup x=some c->X.env.cells.lookup y=some c->x=y
 has:∀x,(X.env.kindOf x=some .cell\/X.env.kindOf x=some .free)->∃c,X.env.cells.lookup x=some c
 Cg:∀x c,X.fn x=true->X.env.cells.lookup x=some c->X.s₀.heap.objs.size<=c
 hd:X.calm=true->X.A.handled=none
 frames:X.A.frames=some X.stack
 Hv:X.stack=X.outer\/(X.stack=X.env::X.outer/\X.env.frame=some X.env.locals)
 J6:∀b∈X.ex,b≠X.env.locals/\∀x c,X.env.cells.lookup x=some c->c≠b
 bs:∀b o,X.base.get? b=some o->X.s₀.heap.get? b=some o/\X.H₀ b=none
 vn:X.base.objs.size<=X.s₀.heap.objs.size
 we:∀b o,X.base.get? b=some o->b∉X.ex
 wo:∀b∈X.ex,b∉X.fs
 kj:X.s₀.heap.FunFrames X.base X.outer
 xY:∀b∈X.fs,X.H₀ b=none
 gt:X.prog.given.tree=none
structure Inv(X:Cx)(pins:List (Addr×Obj))(σ:List (Option V))(H:Hp)(s:Shared):Prop where
 ok:X.Ok
 os:s.os=X.s₀.os
 bare:AllBare s.gens
 base:Un X.fs X.ex X.H₀ H X.s₀.heap s.heap
 loc:∃m,s.heap.Ns X.env.locals m/\∀(i:Nat) (x:Str) (v:V),X.N[i]?=some x->σ[i]?=some (some v)->zy X.env.scope x->∃u,RelV v u/\Look X.env s.heap m x u
 cell:∀x c,X.env.cells.lookup x=some c->∃v,s.heap.IsCell c v
 free:H X.env.locals=none
 jM:∀x c,X.env.cells.lookup x=some c->H c=none
 pin:∀p∈X.pn++pins,s.heap.get? p.1=some p.2/\H p.1=none/\p.1≠X.env.locals/\p.1∉X.fs/\∀v,p.2.data≠ .cell v
 aC:gv X.prog X.w H s.heap
 len:σ.length=X.N.length
section
variable {X:Cx}{pins:List (Addr×Obj)}{σ:List (Option V)}{H H':Hp}{s:Shared}{h':Heap}
theorem Cx.Ok.Tz(ok:X.Ok){b:Addr}{o:Obj}(e:X.base.get? b=some o):b∉X.fs:=λ hb=>by
 have:=(ok.kj.mem hb).1;rw[e]at this;cases this
theorem Inv.bs(I:Inv X pins σ H s):∀b o,X.base.get? b=some o->s.heap.get? b=some o/\H b=none:=λ b o e=>
 ⟨I.base.keep b o (I.ok.bs b o e).1 (I.ok.bs b o e).2 (I.ok.Tz e) (I.ok.we b o e),I.base.free b o (I.ok.bs b o e).1 (I.ok.bs b o e).2 (I.ok.we b o e)⟩
theorem Inv.bk(I:Inv X pins σ H s):∀b o,X.base.get? b=some o->s.heap.get? b=some o:=λ b o e=>(I.bs b o e).1
theorem Inv.mod(I:Inv X pins σ H s):Mod X.K X.mg X.base:=I.ok.mod
theorem Inv.gg(I:Inv X pins σ H s):X.K.In s.heap:=I.ok.mod.GG.keeps I.bk
theorem Inv.nolimit(I:Inv X pins σ H s):s.heap.NoLimit:=I.ok.mod.nolimit.keeps I.bk
theorem Inv.lt(I:Inv X pins σ H s):X.env.locals<s.heap.objs.size:=let⟨_,hn,_⟩:=I.loc;hn.lt
theorem Inv.sz(I:Inv X pins σ H s):X.s₀.heap.objs.size<=s.heap.objs.size:=UG I.ok.above (Y7 I.lt)
theorem Inv.TQ(I:Inv X pins σ H s){a:Addr}(h:s.heap.objs.size<=a):a∉X.fs:=λ hb=>by
 obtain⟨_,o,ho,_⟩:=I.ok.kj.mem hb;exact absurd (UY (UN ho) (UG I.sz h)) (Vt _)
theorem Inv.zM(I:Inv X pins σ H s):∀x c,X.env.cells.lookup x=some c->c≠X.env.locals:=λ x c e z=>by
 obtain⟨v,o,ho,hd⟩:=I.cell x c e;obtain⟨m,⟨o',es,ep,ho',hd',_⟩,_⟩:=I.loc;rw[z,ho']at ho;cases ho;rw[hd']at hd;cases hd
theorem Inv.kj(I:Inv X pins σ H s):s.heap.FunFrames X.base X.outer:=by
 have all:∀(l:List Env),(∀b∈oy l,b∈X.fs)->X.s₀.heap.FunFrames X.base l->s.heap.FunFrames X.base l:=by
  intro l;induction l with
  |nil=>intro _ _;trivial
  |cons env r ih=>
   intro hs hl;obtain⟨hk,⟨L,o,hf,hn,ho,hd⟩,hr⟩:=hl;have hL:L∈X.fs:=hs L (by unfold oy;rw[XQ,hf];exact UZ);obtain⟨sl,e⟩:=I.base.slot L o ho (I.ok.xY L hL) hL λ z=>I.ok.wo L z hL;exact⟨hk,⟨L,_,hf,hn,e,hd⟩,ih (λ b hb=>hs b (by unfold oy;rw[XQ,hf];exact UQ _ hb)) hr⟩
 exact all X.outer (λ _ hb=>hb) I.ok.kj
theorem Inv.stack(I:Inv X pins σ H s):s.heap.FunFrames X.base X.stack:=by
 rcases I.ok.Hv with e|⟨e,hf⟩
 . rw[e];exact I.kj
 . rw[e];obtain⟨m,hn,_⟩:=I.loc;refine .cons (by rw[I.ok.kind];decide) hf hn ?_ I.kj;exact Heap.get?_none_of_le (UG I.ok.vn I.ok.above)
theorem Inv.A7(I:Inv X pins σ H s):∀b∈oy X.stack,b∈X.env.locals::X.fs:=λ b hb=>by
 rcases I.ok.Hv with e|⟨e,hf⟩
 . rw[e]at hb;exact UQ _ hb
 . rw[e]at hb;unfold oy at hb;rw[XQ,hf]at hb;exact hb
theorem Inv.Cf(I:Inv X pins σ H s):∀b∈oy X.stack,H b=none:=λ b hb=>by
 rcases UT.mp (I.A7 b hb)with e|hb
 . rw[e];exact I.free
 . obtain⟨_,o,ho,_⟩:=I.ok.kj.mem hb;exact I.base.free b o ho (I.ok.xY b hb) λ z=>I.ok.wo b z hb
theorem Inv.step{g':Array GenState}{t':Nat}{d':Drawn}{ch:List Addr}(I:Inv X pins σ H s)
 (hch:∀b∈ch,(b∈X.ex\/X.s₀.heap.objs.size<=b)/\b≠X.env.locals/\(∀x c,X.env.cells.lookup x=some c->c≠b)/\∀p∈X.pn++pins,p.1≠b)
 (keep:∀b o,b≠X.env.locals->b∉X.fs->b∉ch->s.heap.get? b=some o->H b=none->h'.get? b=some o)
 (slot:∀b o,b≠X.env.locals->b∈X.fs->b∉ch->s.heap.get? b=some o->H b=none->∃sl,h'.get? b=some {o with slots:=sl}) (free:∀b o,b∉ch->s.heap.get? b=some o->H b=none->H' b=none)
 (there:∀b o,b∉ch->s.heap.get? b=some o->∃o',h'.get? b=some o')
 (o7:∀b xs,H b=some (.tup xs)->H' b=some (.tup xs)) (og:∀b o u,H b=some (.iE o u)->H' b=some (.iE o u)) (nD:∀b ps,H b=some (.mj ps)->∃more,H' b=some (.mj (ps++more)))
 (ns:∀m,s.heap.Ns X.env.locals m->h'.Ns X.env.locals m) (aC:gv X.prog X.w H' h') (hg:AllBare g'):
 Inv X pins σ H' {s with heap:=h',gens:=g',drawn:=d',toks:=t'}:=by
 have neL:∀b o,X.s₀.heap.get? b=some o->b≠X.env.locals:=λ b o e=>Vg (UY (UN e) I.ok.above)
 have neC:∀b o,X.s₀.heap.get? b=some o->b∉X.ex->b∉ch:=λ b o e hx hb=>by
  rcases(hch b hb).1 with z|z
  . exact hx z
  . exact absurd (UY (UN e) z) (Vt _)
 have cellK:∀x c,X.env.cells.lookup x=some c->∀v,s.heap.IsCell c v->h'.IsCell c v:=λ x c e v ⟨o,ho,hd⟩=>by
  have nch:c∉ch:=λ z=>(hch c z).2.2.1 x c e rfl;by_cases hc:c∈X.fs
  . obtain⟨sl,q⟩:=slot c o (I.zM x c e) hc nch ho (I.jM x c e);exact⟨_,q,hd⟩
  . exact⟨o,keep c o (I.zM x c e) hc nch ho (I.jM x c e),hd⟩
 refine⟨I.ok,I.os,hg,⟨λ b o e n hb hx=>?_,λ b o e n hb hx=>?_,λ b o e n hx=>?_,λ b o e hx=>?_,λ b xs e=>o7 b xs (I.base.o7 b xs e),λ b o xs e=>og b o xs (I.base.og b o xs e),λ b ps e=>?_⟩,?_,λ x c e=>?_,?_,λ x c e=>?_,λ p hp=>?_,aC,I.len⟩
 . exact keep b o (neL b o e) hb (neC b o e hx) (I.base.keep b o e n hb hx) (I.base.free b o e n hx)
 . obtain⟨sl,e1⟩:=I.base.slot b o e n hb hx;obtain⟨sl',e2⟩:=slot b _ (neL b o e) hb (neC b o e hx) e1 (I.base.free b o e n hx);exact⟨sl',e2⟩
 . obtain⟨o',e1⟩:=I.base.there b o e hx;exact free b o' (neC b o e hx) e1 (I.base.free b o e n hx)
 . obtain⟨o',e1⟩:=I.base.there b o e hx;exact there b o' (neC b o e hx) e1
 . obtain⟨m1,e1⟩:=I.base.nD b ps e;obtain⟨m2,e2⟩:=nD b _ e1;exact⟨m1++m2,by rw[e2,Array.append_assoc]⟩
 . obtain⟨m,hn,hl⟩:=I.loc;refine⟨m,ns m hn,λ i x v e1 e2 e3=>?_⟩;obtain⟨u,r,l⟩:=hl i x v e1 e2 e3;refine⟨u,r,?_⟩;rcases l with l|⟨k,c,e,z⟩
   . exact .inl l
   . exact .inr ⟨k,c,e,cellK x c e _ z⟩
 . obtain⟨v,z⟩:=I.cell x c e;exact⟨v,cellK x c e v z⟩
 . obtain⟨m,⟨o,_,_,ho,_⟩,_⟩:=I.loc;exact free _ o (λ z=>(hch _ z).2.1 rfl) ho I.free
 . obtain⟨v,o,ho,hd⟩:=I.cell x c e;exact free c o (λ z=>(hch c z).2.2.1 x c e rfl) ho (I.jM x c e)
 . obtain⟨e,n,ne,nf,d⟩:=I.pin p hp;have nch:p.1∉ch:=λ z=>(hch p.1 z).2.2.2 p hp rfl;exact⟨keep p.1 p.2 ne nf nch e n,free p.1 p.2 nch e n,ne,nf,d⟩
theorem Inv.un{t':Nat}(I:Inv X pins σ H s)(u:Un X.fs [] H H' s.heap h')(aC:gv X.prog X.w H' h'):Inv X pins σ H' {s with heap:=h',toks:=t'}:=by
 obtain⟨m,⟨o,es,ep,ho,r⟩,_⟩:=id I.loc;obtain⟨sl,hL⟩:=u.any ho I.free (by simp)
 exact I.step (g':=s.gens) (d':=s.drawn) (ch:=[]) (λ _ z=>nomatch z) (λ b o _ hb _ e n=>u.keep b o e n hb (by simp)) (λ b o _ hb _ e n=>u.slot b o e n hb (by simp)) (λ b o _ e n=>u.free b o e n (by simp)) (λ b o _ e=>u.there b o e (by simp)) u.o7 u.og u.nD (λ m' hm=>by
  obtain⟨o',es',ep',ho',r'⟩:=hm;rw[ho]at ho';cases ho';exact⟨_,es',ep',hL,r'⟩) aC I.bare
theorem Inv.call{g':Array GenState}{t':Nat}{d':Drawn}{ch:List Addr}(I:Inv X pins σ H s)(u:Un (oy X.stack) ch H H' s.heap h')(aC:gv X.prog X.w H' h')(hg:AllBare g')
 (hch:∀b∈ch,(b∈X.ex\/X.s₀.heap.objs.size<=b)/\b≠X.env.locals/\(∀x c,X.env.cells.lookup x=some c->c≠b)/\∀p∈X.pn++pins,p.1≠b):
 Inv X pins σ H' {s with heap:=h',gens:=g',drawn:=d',toks:=t'}:=by
 obtain⟨m,⟨o,es,ep,ho,r⟩,_⟩:=id I.loc;obtain⟨sl,hL⟩:=u.any ho I.free λ z=>(hch _ z).2.1 rfl
 exact I.step (ch:=ch) hch (λ b o hL hb hc e n=>u.keep b o e n (λ z=>(UT.mp (I.A7 b z)).elim hL hb) hc) (λ b o _ _ hc e n=>u.any e n hc) (λ b o hc e n=>u.free b o e n hc) (λ b o hc e=>u.there b o e hc) u.o7 u.og u.nD (λ m' hm=>by
  obtain⟨o',es',ep',ho',r'⟩:=hm;rw[ho]at ho';cases ho';exact⟨_,es',ep',hL,r'⟩) aC hg
theorem Inv.turned{t':Nat}{it:Addr}(I:Inv X pins σ H s)(k:∀b o,b≠it->s.heap.get? b=some o->h'.get? b=some o)(hn:H it=none)(hL:it≠X.env.locals)
 (h1:it∈X.ex\/X.s₀.heap.objs.size<=it) (h2:∀x c,X.env.cells.lookup x=some c->c≠it) (h3:∀p∈X.pn++pins,p.1≠it):Inv X pins σ H {s with heap:=h',toks:=t'}:=by
 have nit:∀b u,H b=some u->b≠it:=λ b u e z=>by rw[z,hn]at e;cases e
 refine I.step (g':=s.gens) (d':=s.drawn) (ch:=[it]) (λ b hb=>?_) (λ b o _ _ hc e _=>k b o (λ z=>hc (by simp[z])) e) (λ b o _ _ hc e _=>⟨o.slots,k b o (λ z=>hc (by simp[z])) e⟩) (λ _ _ _ _ n=>n)
  (λ b o hc e=>⟨o,k b o (λ z=>hc (by simp[z])) e⟩) (λ _ _ e=>e) (λ _ _ _ e=>e) (λ b ps e=>⟨#[],by rw[e];simp⟩) (λ m hm=>?_) (λ b u e=>?_) I.bare
 . have e:b=it:=by simpa using hb
   subst e;exact⟨h1,hL,h2,h3⟩
 . obtain⟨o,es,ep,ho,r⟩:=hm;exact⟨o,es,ep,k _ o (UD hL) ho,r⟩
 . refine(I.aC b u e).rE (λ c v hc q=>k c v ?_ q) (λ _ q=>q) λ _ _ q=>q;rcases hc with z|z
   . rw[z];exact nit b u e
   . exact nit c _ z
theorem Inv.tok(I:Inv X pins σ H s)(t:Nat):Inv X pins σ H {s with toks:=t}:=I.un (h':=s.heap) (t':=t) Un.refl I.aC
theorem Inv.kept{t':Nat}(I:Inv X pins σ H s)(k:∀b u,s.heap.get? b=some u->h'.get? b=some u):Inv X pins σ H {s with heap:=h',toks:=t'}:=I.un (Un.kept k) (I.aC.kept k)
theorem Inv.laid{a:Addr}{o:HO}{t':Nat}(I:Inv X pins σ H s)(k:∀b u,s.heap.get? b=some u->h'.get? b=some u)(hp:s.heap.objs.size<=a)(new:df X.prog X.w (upd H a o) h' a o):
 Inv X pins σ (upd H a o) {s with heap:=h',toks:=t'}:=I.un (Un.laid k hp (I.aC.fresh hp)) (I.aC.laid k hp new)
theorem Inv.write{x e:Addr}{o:HO}{t':Nat}(I:Inv X pins σ H s)(mu:Ks (H x))(he:e=x\/H e=some (.own x))(k:∀b u,b≠e->s.heap.get? b=some u->h'.get? b=some u)(heo:∃u,h'.get? e=some u)
 (new:df X.prog X.w (upd H x o) h' x o):Inv X pins σ (upd H x o) {s with heap:=h',toks:=t'}:=I.un (Un.write mu he k heo) (I.aC.write mu he k heo new)
theorem Inv.CF{pins':List (Addr×Obj)}(I:Inv X pins σ H s)(h:∀p∈pins',s.heap.get? p.1=some p.2/\H p.1=none/\p.1≠X.env.locals/\p.1∉X.fs/\∀v,p.2.data≠ .cell v):Inv X pins' σ H s:=
 ⟨I.ok,I.os,I.bare,I.base,I.loc,I.cell,I.free,I.jM,λ p hp=>(VJ.mp hp).elim (λ z=>I.pin p (List.mem_append_left _ z)) (h p),I.aC,I.len⟩
theorem zA{N:List Str}(hN:N.Nodup){i j:Nat}{x:Str}(a:N[i]?=some x)(b:N[j]?=some x):i=j:=by
 obtain⟨h1,e1⟩:=Uw.mp a;obtain⟨h2,e2⟩:=Uw.mp b;exact(List.getElem_inj hN).mp (e1.trans e2.symm)
theorem xI{M:Model}{A:Around}{E:Value->Shared->Prop}{i:Nat}{x:Str}{v:V}{u:Value}{Q:Unit->Shared->Prop}(I:Inv X pins σ H s)(hN:X.N.Nodup)(hi:X.N[i]?=some x)(hx:Loc X.env.scope x)(r:RelV v u)
 (h:∀s',Inv X pins (σ.set i (some v)) H s'->(∃a,Heap.SameBut a s.heap s'.heap/\(a=X.env.locals\/X.env.cells.lookup x=some a))->Q () s') (hf:X.fn x=true\/X.env.scope.names.lookup x=some .local:=by first|exact .inl rfl|exact .inr rfl|assumption):wpAny M A (storeName X.env x u) Q E s:=by
 obtain⟨m,hn,hl⟩:=id I.loc;have hcls:(X.env.scope.kind== .class||(X.env.scope.kind== .module&&X.env.locals != X.env.globals))=false:=by rw[I.ok.kind];rfl
 have hiσ:i<σ.length:=by rw[I.len];exact(Uw.mp hi).1
 have zM:=I.zM
 have tracked:∀ {a:Addr} {h':Heap},(∃o,s.heap.get? a=some o/\H a=none)->Heap.SameBut a s.heap h'->gv X.prog X.w H h':=λ{a h'} ha hs b ob e=>by
  obtain⟨_,_,hfree⟩:=ha;refine(I.aC b ob e).rE (λ c w' hc q=>(hs.2 c ?_).trans q) (λ _ q=>q) λ _ _ q=>q;rintro rfl;rcases hc with rfl|hc
  . rw[hfree]at e;cases e
  . rw[hfree]at hc;cases hc
 rcases hx with hk|hk
 . refine wpAny_storeName_local hk hn (λ h' hn' hs=>?_) hcls;obtain⟨oL,_,_,hoL,_⟩:=id hn;refine h _ ⟨I.ok,I.os,I.bare,⟨λ b o e n hb hx=>?_,λ b o e n hb hx=>?_,I.base.free,λ b o e hx=>?_,I.base.o7,I.base.og,I.base.nD⟩,⟨_,hn',λ j y v' e1 e2 e3=>?_⟩,λ y c e=>?_,I.free,I.jM,λ p hp=>?_,tracked ⟨oL,hoL,I.free⟩ hs,by simpa using I.len⟩ ⟨_,hs,.inl rfl⟩
   . exact(hs.2 b (Vg (UY (UN e) I.ok.above))).trans (I.base.keep b o e n hb hx)
   . obtain⟨sl,e1⟩:=I.base.slot b o e n hb hx;exact⟨sl,(hs.2 b (Vg (UY (UN e) I.ok.above))).trans e1⟩
   . obtain⟨o',e1⟩:=I.base.there b o e hx;exact⟨o',(hs.2 b (Vg (UY (UN e) I.ok.above))).trans e1⟩
   . by_cases hj:j=i
     . subst hj;rw[hi]at e1;cases e1;rw[UH hiσ]at e2;cases e2;exact⟨u,r,.inl ⟨hk,by simp⟩⟩
     . rw[Ux (UD hj)]at e2;obtain⟨u',r',q⟩:=hl j y v' e1 e2 e3;refine⟨u',r',?_⟩;rcases q with⟨k,e⟩|⟨k,c,e,z⟩
       . refine .inl ⟨k,?_⟩;have:y≠x:=λ e=>hj (zA hN e1 (e▸hi));simp[this,e]
       . exact .inr ⟨k,c,e,z.sameBut hs (zM y c e)⟩
   . obtain⟨w',z⟩:=I.cell y c e;exact⟨w',z.sameBut hs (zM y c e)⟩
   . obtain⟨e,n,ne,nf,d⟩:=I.pin p hp;exact⟨(hs.2 p.1 ne).trans e,n,ne,nf,d⟩
 . have hfn:X.fn x=true:=by
    rcases hf with z|z
    . exact z
    . rw[z]at hk;cases hk
   obtain⟨c,hc⟩:=I.ok.has x (.inl hk);obtain⟨w',z⟩:=I.cell x c hc;refine wpAny_storeName_cell I.ok.kind hk hc z (λ h' hc' hs=>?_);obtain⟨oc,hoc,hocd⟩:=id z;refine h {s with heap:=h'} ⟨I.ok,I.os,I.bare,⟨λ b o e n hb hx=>?_,λ b o e n hb hx=>?_,I.base.free,λ b o e hx=>?_,I.base.o7,I.base.og,I.base.nD⟩,⟨m,hn.sameBut hs (UD (zM x c hc)),λ j y v' e1 e2 e3=>?_⟩,λ y c' e=>?_,I.free,I.jM,λ p hp=>?_,tracked ⟨oc,hoc,I.jM x c hc⟩ hs,by simpa using I.len⟩ ⟨c,hs,.inr hc⟩
   . exact(hs.2 b (Vg (UY (UN e) (I.ok.Cg x c hfn hc)))).trans (I.base.keep b o e n hb hx)
   . obtain⟨sl,e1⟩:=I.base.slot b o e n hb hx;exact⟨sl,(hs.2 b (Vg (UY (UN e) (I.ok.Cg x c hfn hc)))).trans e1⟩
   . obtain⟨o',e1⟩:=I.base.there b o e hx;exact⟨o',(hs.2 b (Vg (UY (UN e) (I.ok.Cg x c hfn hc)))).trans e1⟩
   . by_cases hj:j=i
     . subst hj;rw[hi]at e1;cases e1;rw[UH hiσ]at e2;cases e2;exact⟨u,r,.inr ⟨.inl hk,c,hc,hc'⟩⟩
     . rw[Ux (UD hj)]at e2;obtain⟨u',r',q⟩:=hl j y v' e1 e2 e3;refine⟨u',r',?_⟩;rcases q with q|⟨k,c',e,z'⟩
       . exact .inl q
       . refine .inr ⟨k,c',e,z'.sameBut hs ?_⟩;rintro rfl;exact hj (zA hN e1 (I.ok.inj _ _ _ e hc▸hi))
   . by_cases hcc:c'=c
     . subst hcc;exact⟨_,hc'⟩
     . obtain⟨w2,z2⟩:=I.cell y c' e;exact⟨w2,z2.sameBut hs hcc⟩
   . obtain⟨e,n,ne,nf,d⟩:=I.pin p hp;refine⟨(hs.2 p.1 ?_).trans e,n,ne,nf,d⟩;intro q;rw[q,hoc]at e;have q':oc=p.2:=Vi e;exact d w' (by rw[<-q'];exact hocd)
theorem mE{M:Model}{A:Around}{E:Value->Shared->Prop}{i:Nat}{x:Str}{v:V}{u:Value}{Q:Unit->Shared->Prop}(I:Inv X pins σ H s)(hN:X.N.Nodup)(hi:X.N[i]?=some x)(hx:Loc X.env.scope x)(r:RelV v u)
 (h:∀s',Inv X pins (σ.set i (some v)) H s'->Q () s') (hf:X.fn x=true\/X.env.scope.names.lookup x=some .local:=by first|exact .inl rfl|exact .inr rfl|assumption):wpAny M A (storeName X.env x u) Q E s:=
 xI I hN hi hx r (λ s' I' _=>h s' I') hf
theorem Inv.Kp{s':Shared}{ch:List Addr}(I:Inv X pins σ H s)(ho:s'.os=s.os)(u:Un (oy X.stack) ch H H' s.heap s'.heap)(aC:gv X.prog X.w H' s'.heap)(hg:AllBare s'.gens)
 (hch:∀b∈ch,(b∈X.ex\/X.s₀.heap.objs.size<=b)/\b≠X.env.locals/\(∀x c,X.env.cells.lookup x=some c->c≠b)/\∀p∈X.pn++pins,p.1≠b):Inv X pins σ H' s':=by
 obtain⟨h',g',d',t',o'⟩:=s';have e:o'=s.os:=ho;subst e;exact I.call (g':=g') (t':=t') (d':=d') u aC hg hch
end
abbrev XK:=Value->Option Addr->Hp->Prop
abbrev St:=List (Option V)
abbrev VK:=V->Hp->Prop
abbrev TE:=St->Hp->VK->Prop
abbrev TT:=St->Hp->(Bool->Hp->Prop)->Prop
abbrev TA:=St->Hp->(List V->Hp->Prop)->Prop
structure Ends where
 nx:St->Hp->Prop
 rt:VK
 bk:St->Hp->Prop:=λ _ _=>False
 ct:St->Hp->Prop:=λ _ _=>False
abbrev TS:=Ends->St->Hp->Prop
def EP(X:Cx)(pins:List (Addr×Obj))(σ:St)(Q:VK)(u:Value)(s':Shared):Prop:=∃v H',Inv X pins σ H' s'/\RelV v u/\Q v H'
def TP(X:Cx)(pins:List (Addr×Obj))(σ:St)(Q:Bool->Hp->Prop)(b:Bool)(s':Shared):Prop:=∃H',Inv X pins σ H' s'/\Q b H'
def AP(X:Cx)(pins:List (Addr×Obj))(σ:St)(Q:List V->Hp->Prop)(us:List Value)(s':Shared):Prop:=∃vs H',Inv X pins σ H' s'/\Vals vs us/\Q vs H'
def SP(X:Cx)(pins:List (Addr×Obj))(D:Ends)(f:Flow)(s':Shared):Prop:=
 match f with
 | .next=>∃σ' H',Inv X pins σ' H' s'/\D.nx σ' H'
 | .brk=>∃σ' H',Inv X pins σ' H' s'/\D.bk σ' H'
 | .cont=>∃σ' H',Inv X pins σ' H' s'/\D.ct σ' H'
 | .ret u=>∃v σ' H',Inv X pins σ' H' s'/\RelV v u/\D.rt v H'
def PE(X:Cx)(e:Expr)(t:TE):Prop:=
 ∀(pins:List (Addr×Obj)) (s:Shared) (σ:St) (H:Hp) (Q:VK),Inv X pins σ H s->t σ H Q->wpAny (model X.prog X.w) X.A (eval e X.env) (EP X pins σ Q) X.xe s
def PT(X:Cx)(e:Expr)(t:TT):Prop:=
 ∀(pins:List (Addr×Obj)) (s:Shared) (σ:St) (H:Hp) (Q:Bool->Hp->Prop),Inv X pins σ H s->t σ H Q->wpAny (model X.prog X.w) X.A (isTrue e X.env (eval e X.env)) (TP X pins σ Q) X.xe s
def PW(X:Cx)(e:Expr)(t:TT):Prop:=
 ∀(whole:Sem Value) (pins:List (Addr×Obj)) (s:Shared) (σ:St) (H:Hp) (Q:Bool->Hp->Prop),Inv X pins σ H s->t σ H Q->wpAny (model X.prog X.w) X.A (isTrue e X.env whole) (TP X pins σ Q) X.xe s
theorem PW.pt{X:Cx}{e:Expr}{t:TT}(h:PW X e t):PT X e t:=h _
def PA(X:Cx)(es:List Expr)(t:TA):Prop:=
 ∀(pos:Pos) (pins:List (Addr×Obj)) (s:Shared) (σ:St) (H:Hp) (Q:List V->Hp->Prop),Inv X pins σ H s->t σ H Q->wpAny (model X.prog X.w) X.A (spliced (backTo pos (starEach es X.env))) (AP X pins σ Q) X.xe s
def PS(X:Cx)(st:Stmt)(t:TS):Prop:=
 ∀(pins:List (Addr×Obj)) (s:Shared) (σ:St) (H:Hp) (D:Ends),Inv X pins σ H s->t D σ H->wpAny (model X.prog X.w) X.A (exec st X.env) (SP X pins D) X.xe s
def gf(X:Cx)(st:List Stmt)(t:TS):Prop:=
 ∀(pins:List (Addr×Obj)) (s:Shared) (σ:St) (H:Hp) (D:Ends),Inv X pins σ H s->t D σ H->wpAny (model X.prog X.w) X.A (execs st X.env) (SP X pins D) X.xe s
theorem br{α:Type}{t:Sem α}{Q Q':α->Shared->Prop}{M:Model}{A:Around}{E:Value->Shared->Prop}{s:Shared}(h:wpAny M A t Q E s)(hQ:∀a s,Q a s->Q' a s):wpAny M A t Q' E s:=Wo h hQ λ _ _ x=>x
section
variable {X:Cx}
def PL(i:Nat):TE:=λ σ H Q=>∃v,σ[i]?=some (some v)/\Q v H
def tC(v:V):TE:=λ _ H Q=>Q v H
theorem OE{i:Nat}{x:Str}{pos:Pos}(hN:X.N[i]?=some x)(hv:zy X.env.scope x)(hd:(x==("__debug__":Str))=false:=by decide)(hcd:(x==("__classdict__":Str))=false:=by decide):PE X (.Name x pos) (PL i):=by
 intro pins s σ H Q I h;obtain⟨v,e,h⟩:=h;obtain⟨m,hn,hl⟩:=I.loc;obtain⟨u,r,l⟩:=hl i x v hN e hv;have fin:EP X pins σ Q u s:=⟨v,H,I,r,h⟩
 rcases l with⟨hk,hm⟩|⟨hk,c,hc,hcell⟩
 . exact wpAny_Name (wpAny_loadName_local I.ok.kind hk hn hm fin) hd
 . rcases hk with hk|hk
   . exact wpAny_Name (wpAny_loadName_cell I.ok.kind hk hc hcell fin) hd
   . exact wpAny_Name (wpAny_loadName_free I.ok.kind hk hc hcell fin hcd) hd
theorem P0{i j pos}:PE X (.Constant (.int i) j pos) (tC (.int i)):=λ _ _ _ H _ I h=>wpAny_Constant_int ⟨.int i,H,I.tok _,⟨_,rfl⟩,h⟩
theorem Rm{b j pos}:PE X (.Constant (.bool b) j pos) (tC (.bl b)):=λ _ _ _ H _ I h=>Constant_bool ⟨.bl b,H,I,rfl,h⟩
theorem O9{j pos}:PE X (.Constant .none j pos) (tC .ay):=λ _ _ _ H _ I h=>Constant_none ⟨.ay,H,I,rfl,h⟩
theorem OQ{x j pos}:PE X (.Constant (.str x) j pos) (tC (.str x)):=λ _ _ _ H _ I h=>Calls.Constant_str ⟨.str x,H,I.tok _,⟨_,rfl⟩,h⟩
def Gl(X:Cx)(x:Str):Prop:=X.env.kindOf x=some .globalImplicit
theorem Dj{E:Value->Shared->Prop}{pins:List (Addr×Obj)}{s:Shared}{σ:St}{H:Hp}{x:Str}{u:Value}{pos:Pos}{Q:Value->Shared->Prop}(I:Inv X pins σ H s)(hg:Gl X x)(hm:X.mg x=some u)(h:Q u s)
 (hd:(x==("__debug__":Str))=false:=by decide):wpAny (model X.prog X.w) X.A (eval (.Name x pos) X.env) Q E s:=
 Ye I.ok.kind hg (Calls.loadGlobal_global (by rw[I.ok.glob];exact I.mod.glob.keeps I.bk) hm h) hd
theorem kO{E:Value->Shared->Prop}{pins:List (Addr×Obj)}{s:Shared}{σ:St}{H:Hp}{x:Str}{u:Value}{pos:Pos}{Q:Value->Shared->Prop}(I:Inv X pins σ H s)(hg:Gl X x)(hm:X.mg x=none)(hv:bootBuiltins x=some u)(h:Q u s)
 (hn:x≠"__name__":=by decide) (hd:(x==("__debug__":Str))=false:=by decide):wpAny (model X.prog X.w) X.A (eval (.Name x pos) X.env) Q E s:=by
 obtain⟨mb,h1,h2⟩:=I.mod.blt;exact Ye I.ok.kind hg (Calls.loadGlobal_builtin (by rw[I.ok.glob];exact I.mod.glob.keeps I.bk) hm (by rw[I.ok.blt];exact h1.keeps I.bk) ((h2 x hn).trans hv) h) hd
theorem Mu{x:Str}{v:V}{u:Value}{pos:Pos}(hg:Gl X x)(hm:X.mg x=none)(hv:bootBuiltins x=some u)(r:RelV v u)(hn:x≠"__name__":=by decide)(hd:(x==("__debug__":Str))=false:=by decide):PE X (.Name x pos) (tC v):=
 λ _ _ _ H _ I h=>kO I hg hm hv ⟨v,H,I,r,h⟩ hn hd
variable {a b:Expr}{ta tb:TE}{pos:Pos}
def tB(t:TE):TT:=λ σ H Q=>t σ H λ x H1=>∃c,x= .bl c/\Q c H1
theorem Pn{e:Expr}{t:TE}(h:PE X e t)(he:∀whole,isTrue e X.env whole=(do let v <-whole;standAt e.pos;holding [v] (truthy v)):=by intro _;rfl):PT X e (tB t):=by
 intro pins s σ H Q I hw;refine isTrue_plain (br (h pins s σ H _ I hw) λ v s1 ⟨x,H1,I1,r1,q1⟩=>?_) (he _);obtain⟨d,rfl,q⟩:=q1;cases r1;exact Wj ⟨H1,I1,q⟩
variable {tA tB':TT}{rest:List Expr}
def NJ(t u:TT):TT:=λ σ H Q=>t σ H λ c H1=>if c=true then u σ H1 Q else Q false H1
def R9(t u:TT):TT:=λ σ H Q=>t σ H λ c H1=>if c=true then Q true H1 else u σ H1 Q
def TK(t:TT):TT:=λ σ H Q=>t σ H λ c H1=>Q (!c) H1
theorem pw_and1(ha:PT X a tA):PW X (.BoolOp .And [a] pos) tA:=by
 intro wh pins s σ H Q I h;refine isTrue_and (br (ha pins s σ H Q I h) λ c s1 e=>?_);cases c with
 |true=>exact isTrue_and_nil e
 |false=>exact e
theorem pw_or1(ha:PT X a tA):PW X (.BoolOp .Or [a] pos) tA:=by
 intro wh pins s σ H Q I h;refine isTrue_or (br (ha pins s σ H Q I h) λ c s1 e=>?_);cases c with
 |false=>exact isTrue_or_nil e
 |true=>exact e
theorem pw_and(ha:PT X a tA)(hb:PW X (.BoolOp .And (b::rest) pos) tB'):PW X (.BoolOp .And (a::b::rest) pos) (NJ tA tB'):=by
 intro wh pins s σ H Q I h;refine isTrue_and (br (ha pins s σ H _ I h) λ c s1 ⟨H1,I1,q1⟩=>?_);cases c with
 |true=>exact hb wh pins s1 σ H1 Q I1 q1
 |false=>exact⟨H1,I1,q1⟩
theorem pw_or(ha:PT X a tA)(hb:PW X (.BoolOp .Or (b::rest) pos) tB'):PW X (.BoolOp .Or (a::b::rest) pos) (R9 tA tB'):=by
 intro wh pins s σ H Q I h;refine isTrue_or (br (ha pins s σ H _ I h) λ c s1 ⟨H1,I1,q1⟩=>?_);cases c with
 |true=>exact⟨H1,I1,q1⟩
 |false=>exact hb wh pins s1 σ H1 Q I1 q1
theorem N9(ha:PT X a tA):PT X (.UnaryOp .Not a pos) (TK tA):=by
 intro pins s σ H Q I h;exact isTrue_not (ha pins s σ H (λ c H1=>Q (!c) H1) I h)
def QE(ta tb:TE):TE:=λ σ H Q=>ta σ H λ x H1=>∃c,x= .bl c/\if c=true then tb σ H1 Q else Q (.bl false) H1
def Tw(ta tb:TE):TE:=λ σ H Q=>ta σ H λ x H1=>∃c,x= .bl c/\if c=true then Q (.bl true) H1 else tb σ H1 Q
def Q8(ta:TE):TE:=λ σ H Q=>ta σ H λ x H1=>∃c,x= .bl c/\Q (.bl (!c)) H1
theorem Ou{op}{t:TE}(h:PE X a t):PE X (.BoolOp op [a] pos) t:=λ pins s σ H Q I hw=>BoolOp_one (h pins s σ H Q I hw)
theorem NL(ha:PE X a ta)(hb:PE X (.BoolOp .And (b::rest) pos) tb):PE X (.BoolOp .And (a::b::rest) pos) (QE ta tb):=by
 intro pins s σ H Q I h;refine BoolOp_and (br (ha pins s σ H _ I h) λ v s1 ⟨x,H1,I1,r1,q1⟩=>?_);obtain⟨c,rfl,q1⟩:=q1;cases r1;refine Wj ?_;cases c with
 |true=>exact hb pins s1 σ H1 Q I1 q1
 |false=>exact⟨.bl false,H1,I1,rfl,q1⟩
theorem Ro(ha:PE X a ta)(hb:PE X (.BoolOp .Or (b::rest) pos) tb):PE X (.BoolOp .Or (a::b::rest) pos) (Tw ta tb):=by
 intro pins s σ H Q I h;refine BoolOp_or (br (ha pins s σ H _ I h) λ v s1 ⟨x,H1,I1,r1,q1⟩=>?_);obtain⟨c,rfl,q1⟩:=q1;cases r1;refine Wj ?_;cases c with
 |false=>exact hb pins s1 σ H1 Q I1 q1
 |true=>exact⟨.bl true,H1,I1,rfl,q1⟩
theorem PH(ha:PE X a ta):PE X (.UnaryOp .Not a pos) (Q8 ta):=by
 intro pins s σ H Q I h;refine UnaryOp_ (br (ha pins s σ H _ I h) λ v s1 ⟨x,H1,I1,r1,q1⟩=>?_);obtain⟨c,rfl,q1⟩:=q1;cases r1;exact not_of (Wj ⟨.bl (!c),H1,I1,rfl,q1⟩)
def Ug(t:TT)(ta tb:TE):TE:=λ σ H Q=>t σ H λ c H1=>if c=true then ta σ H1 Q else tb σ H1 Q
theorem Iq{c:Expr}(hc:PT X c tA)(ha:PE X a ta)(hb:PE X b tb):PE X (.IfExp c a b pos) (Ug tA ta tb):=by
 intro pins s σ H Q I h;refine wpAny_IfExp (br (hc pins s σ H _ I h) λ d s1 ⟨H1,I1,q1⟩=>?_);cases d with
 |true=>exact ha pins s1 σ H1 Q I1 q1
 |false=>exact hb pins s1 σ H1 Q I1 q1
end
def kH(K:PySem.W.Frag)(H:Hp)(a:Addr)(xs:List V):Prop:=
 Rd H a (.lst xs)\/
  ∃(o:Obj) (ao:Array Value) (n:Nat),K.lookup a=some o/\o.cls= .type "list"/\o.dict=none/\o.data= .seq ao n/\ao.size<=sizeLine/\Vals xs ao.toList
def hJ(K:PySem.W.Frag)(H:Hp)(a:Addr)(xs:List V):Prop:=
 Rd H a (.tup xs)\/
  ∃(o:Obj) (ao:Array Value) (n:Nat),K.lookup a=some o/\o.cls= .type "tuple"/\o.data= .seq ao n/\ao.size<=sizeLine/\Vals xs ao.toList
def TV:Value->Option V
 | .none=>some .ay
 | .bool b=>some (.bl b)
 | .int i _=>some (.int i)
 | .str x _=>some (.str x)
 | .bytes b _=>some (.s_ b)
 | .float b _=>some (.tw b)
 | .ref a=>some (.ref a)
 | .type n=>some (.ty n)
 |_=>none
theorem RelV.abs{x:V}{u:Value}(r:RelV x u):TV u=some x:=by
 cases x with
 |ay=>cases r;rfl
 |bl _=>cases r;rfl
 |int _=>obtain⟨t,rfl⟩:=r;rfl
 |str _=>obtain⟨t,rfl⟩:=r;rfl
 |s_ _=>obtain⟨t,rfl⟩:=r;rfl
 |tw _=>obtain⟨t,rfl⟩:=r;rfl
 |ref _=>cases r;rfl
 |ty _=>cases r;rfl
theorem RelV.inj{x y:V}{u:Value}(r:RelV x u)(q:RelV y u):x=y:=Vi (r.abs.symm.trans q.abs)
theorem Vals.inj:∀ {xs ys:List V} {us:List Value},Vals xs us->Vals ys us->xs=ys
 |_,_,_,.nil,.nil=>rfl
 |_,_,_,.cons r t,.cons r' t'=>by rw[r.inj r',Vals.inj t t']
section
variable {X:Cx}{pins:List (Addr×Obj)}{σ:St}{H:Hp}{s:Shared}{a:Addr}{xs ys:List V}
theorem kH.of{K:PySem.W.Frag}(h:H a=some (.lst xs)):kH K H a xs:= .inl (.inl h)
theorem hJ.of{K:PySem.W.Frag}(h:H a=some (.tup xs)):hJ K H a xs:= .inl (.inl h)
theorem Inv.list(I:Inv X pins σ H s)(h:kH X.K H a xs):∃ao:List Value,Vals xs ao/\PlainL s.heap a ao.toArray/\xs.length<=sizeLine:=by
 rcases h with h|⟨o,ao,n,hk,hc,hd,hs,hz,r⟩
 . obtain⟨z,ao,n,r,e⟩:=h.ok I.aC;exact⟨ao,r,⟨_,n,e,rfl,rfl,rfl⟩,z⟩
 . refine⟨ao.toList,r,⟨o,n,I.gg a o hk,hc,hd,by simpa using hs⟩,?_⟩;have e:=r.length;simp only[XR]at e;lia
theorem Inv.tuple(I:Inv X pins σ H s)(h:hJ X.K H a xs):∃ao:List Value,Vals xs ao/\IsTup s.heap a ao.toArray/\xs.length<=sizeLine:=by
 rcases h with h|⟨o,ao,n,hk,hc,hs,hz,r⟩
 . obtain⟨z,ao,r,p⟩:=h.ok I.aC;exact⟨ao,r,p,z⟩
 . refine⟨ao.toList,r,⟨o,I.gg a o hk,hc,n,by simpa using hs⟩,?_⟩;have e:=r.length;simp only[XR]at e;lia
theorem Inv.Bi(I:Inv X pins σ H s)(h:kH X.K H a xs)(h':kH X.K H a ys):xs=ys:=by
 obtain⟨ao,r,⟨o,n,e,_,_,d⟩,_⟩:=I.list h;obtain⟨its',r',⟨o',n',e',_,_,d'⟩,_⟩:=I.list h';rw[e]at e';cases e';rw[d]at d';injection d' with d1 _;have:ao=its':=by simpa using Vk Array.toList d1
 subst this;exact r.inj r'
theorem Inv.w9(I:Inv X pins σ H s)(h:hJ X.K H a xs)(h':hJ X.K H a ys):xs=ys:=by
 obtain⟨ao,r,⟨o,e,_,n,d⟩,_⟩:=I.tuple h;obtain⟨its',r',⟨o',e',_,n',d'⟩,_⟩:=I.tuple h';rw[e]at e';cases e';rw[d]at d';injection d' with d1 _;have:ao=its':=by simpa using Vk Array.toList d1
 subst this;exact r.inj r'
end
abbrev Cx.nY(X:Cx)(E:Value->Shared->Prop):Cx:={X with xe:=E}
abbrev Cx.xf(X:Cx):Cx:=X.nY λ _ _=>False
theorem Cx.Ok.nY{X:Cx}(ok:X.Ok)(E:Value->Shared->Prop):(X.nY E).Ok:=
 ⟨ok.mod,ok.kind,ok.glob,ok.blt,ok.above,ok.inj,ok.has,ok.Cg,ok.hd,ok.frames,ok.Hv,ok.J6,ok.bs,ok.vn,ok.we,ok.wo,ok.kj,ok.xY,ok.gt⟩
theorem Cx.Ok.kz{X:Cx}{E:Value->Shared->Prop}(ok:(X.nY E).Ok):X.Ok:=
 ⟨ok.mod,ok.kind,ok.glob,ok.blt,ok.above,ok.inj,ok.has,ok.Cg,ok.hd,ok.frames,ok.Hv,ok.J6,ok.bs,ok.vn,ok.we,ok.wo,ok.kj,ok.xY,ok.gt⟩
section
variable {X:Cx}{pins:List (Addr×Obj)}{σ:St}{H:Hp}{s:Shared}{E:Value->Shared->Prop}
theorem Inv.nY(I:Inv X pins σ H s)(E:Value->Shared->Prop):Inv (X.nY E) pins σ H s:=⟨I.ok.nY E,I.os,I.bare,I.base,I.loc,I.cell,I.free,I.jM,I.pin,I.aC,I.len⟩
theorem Inv.kz(I:Inv (X.nY E) pins σ H s):Inv X pins σ H s:=⟨I.ok.kz,I.os,I.bare,I.base,I.loc,I.cell,I.free,I.jM,I.pin,I.aC,I.len⟩
theorem SP.kz{D:Ends}{f:Flow}{s':Shared}(h:SP (X.nY E) pins D f s'):SP X pins D f s':=by
 cases f with
 |next=>obtain⟨σ',H',I,q⟩:=h;exact⟨σ',H',I.kz,q⟩
 |brk=>obtain⟨σ',H',I,q⟩:=h;exact⟨σ',H',I.kz,q⟩
 |cont=>obtain⟨σ',H',I,q⟩:=h;exact⟨σ',H',I.kz,q⟩
 |ret u=>obtain⟨v,σ',H',I,r,q⟩:=h;exact⟨v,σ',H',I.kz,r,q⟩
theorem gf.xf{st:List Stmt}{t:TS}(h:gf X.xf st t):gf X st t:=λ pins s σ H D I hw=>
 Wo (h pins s σ H D (I.nY _) hw) (λ _ _ q=>q.kz) λ _ _ z=>False.elim z
end
section
variable {X:Cx}{st:Stmt}{rest:List Stmt}{t u:TS}{e:Expr}{te:TE}{pos:Pos}
def QS:TS:=λ D σ H=>D.nx σ H
def S_(t u:TS):TS:=λ D σ H=>t {D with nx:=u D} σ H
theorem LV:gf X [] QS:=λ _ _ σ H _ I h=>WM ⟨σ,H,I,h⟩
theorem HF(h1:PS X st t)(h2:gf X rest u):gf X (st::rest) (S_ t u):=by
 intro pins s σ H D I h;refine Yz (br (h1 pins s σ H {D with nx:=u D} I h) λ f s1 q=>?_);cases f with
 |next=>
  obtain⟨σ',H',I',q⟩:=q;exact h2 pins s1 σ' H' D I' q
 |ret v=>exact q
 |brk=>exact q
 |cont=>exact q
theorem LU(h1:PS X st t):gf X [st] t:=by
 intro pins s σ H D I h;refine Yz (br (h1 pins s σ H D I h) λ f s1 q=>?_);cases f with
 |next=>exact WM q
 |ret v=>exact q
 |brk=>exact q
 |cont=>exact q
def RY:TS:=λ D σ H=>D.ct σ H
theorem Cc:PS X (.Continue pos) RY:=λ _ _ σ H _ I h=>wpAny_Continue ⟨σ,H,I,h⟩
theorem Inv.quiet{pins:List (Addr×Obj)}{σ:St}{H:Hp}{s:Shared}(I:Inv X pins σ H s):interactive X.env=false:=by simp[interactive,I.ok.kind]
def Rg(te:TE):TS:=λ D σ H=>te σ H λ _ H1=>D.nx σ H1
theorem MO(he:PE X e te)(hs:swapsWith e none pos.line X.env=pure false:=by rfl):PS X (.Expr e pos) (Rg te):=by
 intro pins s σ H D I h;exact wpAny_Expr_any (br (he pins s σ H _ I h) λ v s1 ⟨x,H1,I1,r1,q1⟩=>⟨σ,H1,I1,q1⟩) I.quiet hs
def Tp(te:TE):TS:=λ D σ H=>te σ H D.rt
theorem Oc(he:PE X e te):PS X (.Return (some e) pos) (Tp te):=by
 intro pins s σ H D I h;exact wpAny_Return_some (br (he pins s σ H _ I h) λ v s1 ⟨x,H1,I1,r1,q1⟩=>⟨x,σ,H1,I1,r1,q1⟩)
def Rw:TS:=λ D _ H=>D.rt .ay H
theorem Nu:PS X (.Return none pos) Rw:=λ _ _ σ H _ I h=>wpAny_Return_none ⟨.ay,σ,H,I,rfl,h⟩
def TN(c:TT)(t u:TS):TS:=λ D σ H=>c σ H λ b H1=>if b=true then t D σ H1 else u D σ H1
theorem RU{c:Expr}{a b:List Stmt}{tc:TT}(hc:PT X c tc)(ha:gf X a t)(hb:gf X b u):PS X (.If c a b pos) (TN tc t u):=by
 intro pins s σ H D I h;refine wpAny_If (br (hc pins s σ H _ I h) λ d s1 ⟨H1,I1,q1⟩=>?_);cases d with
 |true=>exact ha pins s1 σ H1 D I1 q1
 |false=>exact hb pins s1 σ H1 D I1 q1
end
abbrev TG:=V->St->Hp->(St->Hp->Prop)->Prop
abbrev vg:=List V->St->Hp->(St->Hp->Prop)->Prop
def PG(X:Cx)(target:Expr)(t:TG):Prop:=
 ∀(pins:List (Addr×Obj)) (s:Shared) (σ:St) (H:Hp) (v:V) (u:Value) (Q:St->Hp->Prop),Inv X pins σ H s->RelV v u->t v σ H Q->
  wpAny (model X.prog X.w) X.A (assign target X.env u) (λ _ s'=>∃σ' H',Inv X pins σ' H' s'/\Q σ' H') X.xe s
def Cu(X:Cx)(ts:List Expr)(t:vg):Prop:=
 ∀(pins:List (Addr×Obj)) (s:Shared) (σ:St) (H:Hp) (vs:List V) (us:List Value) (Q:St->Hp->Prop),Inv X pins σ H s->Vals vs us->t vs σ H Q->
  wpAny (model X.prog X.w) X.A (assignInOrder ((assignEach ts X.env).map (·.2)) us) (λ _ s'=>∃σ' H',Inv X pins σ' H' s'/\Q σ' H') X.xe s
abbrev AE:=V->V->V->Hp->(Hp->Prop)->Prop
def Jb(X:Cx)(t:AE):Prop:=
 ∀(pins:List (Addr×Obj)) (s:Shared) (σ:St) (H:Hp) (o i v:V) (ov iv u:Value) (Q:Hp->Prop),Inv X pins σ H s->RelV o ov->RelV i iv->RelV v u->t o i v H Q->
  wpAny (model X.prog X.w) X.A (setItem ov iv u) (λ _ s'=>∃H',Inv X pins σ H' s'/\Q H') X.xe s
abbrev Cn:=V->V->Hp->VK->Prop
def An(X:Cx)(op:Operator)(t:Cn):Prop:=
 ∀(pins:List (Addr×Obj)) (s:Shared) (σ:St) (H:Hp) (x y:V) (v u:Value) (Q:VK),Inv X pins σ H s->RelV x v->RelV y u->t x y H Q->
  wpAny (model X.prog X.w) X.A (inplaceOp op v u) (EP X pins σ Q) X.xe s
section
variable {X:Cx}{pos:Pos}
def fe(i:Nat):TG:=λ v σ H Q=>Q (σ.set i (some v)) H
theorem iD{i:Nat}{x:Str}(hN:X.N.Nodup)(hi:X.N[i]?=some x)(hx:Loc X.env.scope x)(hf:X.fn x=true\/X.env.scope.names.lookup x=some .local:=by first|exact .inl rfl|exact .inr rfl|assumption):PG X (.Name x pos) (fe i):=by
 intro pins s σ H v u Q I r h;exact wpAny_assign_Name (mE I hN hi hx r (λ s' I'=>⟨_,H,I',h⟩) hf)
def zU:vg:=λ vs σ H Q=>vs=[]/\Q σ H
def i7(t:TG)(u:vg):vg:=λ vs σ H Q=>∃v r,vs=v::r/\t v σ H λ σ' H'=>u r σ' H' Q
theorem wH:Cu X [] zU:=by
 intro pins s σ H vs us Q I r h;obtain⟨e,h⟩:=h;subst e;cases r;exact assignInOrder_nil ⟨σ,H,I,h⟩
theorem g9{e:Expr}{es:List Expr}{t:TG}{u:vg}(h1:PG X e t)(h2:Cu X es u)
 (hs:(assignEach (e::es) X.env).map (·.2)=assign e X.env::(assignEach es X.env).map (·.2):=by rfl):Cu X (e::es) (i7 t u):=by
 intro pins s σ H vs us Q I r h;obtain⟨v,vr,e1,h⟩:=h;subst e1;cases r with
 |cons r rr=>
  rw[hs];refine X9 (br (h1 pins s σ H _ _ _ I r h) λ _ s1 ⟨σ1,H1,I1,q1⟩=>?_);exact h2 pins s1 σ1 H1 _ _ Q I1 rr q1
def Eu(K:PySem.W.Frag)(n:Nat)(t:vg):TG:=λ v σ H Q=>∃a xs,v= .ref a/\hJ K H a xs/\xs.length=n/\t xs σ H Q
theorem AI{es:List Expr}{k:Nat}{t:vg}{n:Nat}(hc:X.calm=true)(h:Cu X es t)
 (hn:(assignEach es X.env).length=n:=by rfl) (hst:(assignEach es X.env).findIdx? (·.1)=none:=by rfl):PG X (.Tuple es k pos) (Eu X.K n t):=by
 intro pins s σ H v u Q I r hw;obtain⟨a,xs,e1,hq,hl,hw⟩:=hw;subst e1;cases r;obtain⟨ao,rv,ht,hz⟩:=I.tuple hq;refine assign_Tuple_tuple (I.ok.hd hc) ht (by simp[hn,<-hl,rv.length]) hst λ h' hx=>?_;have I1:Inv X pins σ H {s with heap:=h'}:=I.kept (t':=s.toks) λ b o e=>hx b o (Vg (UN e)) e;exact h pins _ σ H xs _ Q I1 (by simpa using rv) hw
def AX(to ti:TE)(t:AE):TG:=λ v σ H Q=>to σ H λ o H1=>ti σ H1 λ i H2=>t o i v H2 λ H3=>Q σ H3
theorem E6{o i:Expr}{to ti:TE}{t:AE}(ho:PE X o to)(hi:PE X i ti)(hs:Jb X t)
 (ha:∀v,assign (.Subscript o i pos) X.env v=(do
   let ov <-holding [v] (eval o X.env)
   let iv <-holding [v,ov] (eval i X.env)
   standAt pos
   holding [v,ov,iv] (setItem ov iv v)
   release [v,ov,iv] []):=by intro _;rfl):PG X (.Subscript o i pos) (AX to ti t):=by
 intro pins s σ H v u Q I r h;rw[ha];refine Uu (W3 (br (ho pins s σ H _ I h) λ ov s1 ⟨x,H1,I1,r1,q1⟩=>?_));refine Uu (W3 (br (hi pins s1 σ H1 _ I1 q1) λ iv s2 ⟨y,H2,I2,r2,q2⟩=>?_));refine Uu (Xr (Uu (W3 (br (hs pins s2 σ H2 x y v ov iv u _ I2 r1 r2 r q2) λ _ s3 ⟨H3,I3,q3⟩=>?_))));exact wpAny_release ⟨σ,H3,I3,q3⟩
def j0(te:TE)(g:TG):TS:=λ D σ H=>te σ H λ x H1=>g x σ H1 D.nx
theorem u5{tg e:Expr}{te:TE}{g:TG}(he:PE X e te)(hg:PG X tg g)(hs:swapsWithSole [tg] e pos.line X.env=pure false:=by rfl)(hw:swappedStores [tg] e X.env=pure none:=by rfl)
 (h1:(assignEach [tg] X.env).map (·.2)=[assign tg X.env]:=by rfl):PS X (.Assign [tg] e pos) (j0 te g):=by
 intro pins s σ H D I h;refine wpAny_Assign_stores (br (he pins s σ H _ I h) λ v s1 ⟨x,H1,I1,r1,q1⟩=>?_) hs hw;rw[h1];exact br (hg pins s1 σ H1 x v _ I1 r1 q1) λ _ s2 q=>q
theorem Hu{i:Nat}{x:Str}{e:Expr}{te:TE}{pos':Pos}(hN:X.N.Nodup)(hi:X.N[i]?=some x)(hx:Loc X.env.scope x)(he:PE X e te)(hs:swapsWith e (some (.Name x pos')) pos.line X.env=pure false:=by rfl)(hf:X.fn x=true\/X.env.scope.names.lookup x=some .local:=by first|exact .inl rfl|exact .inr rfl|assumption):
 PS X (.Assign [.Name x pos'] e pos) (j0 te (fe i)):=by
 intro pins s σ H D I h;refine wpAny_Assign_Name (br (he pins s σ H _ I h) λ v s1 ⟨y,H1,I1,r1,q1⟩=>?_) hs;exact mE I1 hN hi hx r1 (λ s2 I2=>⟨_,H1,I2,q1⟩) hf
def N8(i j:Nat)(ta:TA):TS:=λ D σ H=>ta σ H λ vs H1=>∃v w,vs=[v,w]/\D.nx ((σ.set i (some v)).set j (some w)) H1
theorem OP{i j:Nat}{x y:Str}{a b:Expr}{ta:TA}{px py pt:Pos}{kt k2 pt2}(hc:X.calm=true)(hN:X.N.Nodup)(hi:X.N[i]?=some x)(hj:X.N[j]?=some y)(hij:i≠j)
 (hx:X.env.scope.names.lookup x=some .local) (hy:X.env.scope.names.lookup y=some .local) (ha:PA X [a,b] ta)
 (hw:swappedStores [.Tuple [.Name x px,.Name y py] kt pt] (.Tuple [a,b] k2 pt2) X.env=pure (some [x,y]))
 (hs:swapsWithSole [.Tuple [.Name x px,.Name y py] kt pt] (.Tuple [a,b] k2 pt2) pos.line X.env=pure false:=by rfl):
 PS X (.Assign [.Tuple [.Name x px,.Name y py] kt pt] (.Tuple [a,b] k2 pt2) pos) (N8 i j ta):=by
 intro pins s σ H D I h;rw[exec_Assign_arm];refine Uu (Xr ?_);rw[hs];refine Uu (UK ?_);rw[Uy (by decide)];refine Uu (Tuple_ (br (ha _ pins s σ H _ I h) λ us s1 ⟨vs,H1,I1,r1,q1⟩=>?_));obtain⟨v,w,e1,q1⟩:=q1;subst e1
 obtain⟨u1,u2,rfl,rv,rw'⟩:∃u1 u2,us=[u1,u2]/\RelV v u1/\RelV w u2:=by
  cases r1 with
  |cons p q=>
   cases q with
   |cons p' q'=>
    cases q';exact⟨_,_,rfl,p,p'⟩
 refine Wk ?_ (by show 2<=sizeLine;decide);have I2:Inv X pins σ H1 {s1 with heap:=s1.heap.push {cls:= .type "tuple",data:= .seq [u1,u2].toArray}}:=I1.kept (t':=s1.toks) λ b o e=>Uv _ e;rw[hw];refine Uu (UK ?_);show wpAny (model X.prog X.w) X.A (do rule "assign.swapped-stores";let items <-unpackItems (.ref s1.heap.objs.size) 2 none;assignInOrder [λ v=>bindName X.env y v,λ v=>bindName X.env x v] items.reverse;pure Flow.next) _ _ _;refine Uu (Xf (Uu (unpackItems_tuple (items:= #[u1,u2]) (I.ok.hd hc) (IsTup.new s1.heap _) λ h' hx'=>?_)));have I3:=I2.kept (h':=h') (t':=s1.toks) λ b o e=>hx' b o (Vg (UN e)) e;show wpAny _ _ (assignInOrder [λ v=>bindName X.env y v,λ v=>bindName X.env x v] [u2,u1] >>= λ _=>pure Flow.next) _ _ _;refine Uu (X9 (wpAny_bindName (mE I3 hN hj (.inl hy) rw' (λ s2 I4=>?_) (.inr hy))));refine X9 (wpAny_bindName (mE I4 hN hi (.inl hx) rv (λ s3 I5=>assignInOrder_nil (UK ?_)) (.inr hx)));rw[List.set_comm _ _ (UD hij)]at I5;exact⟨_,H1,I5,q1⟩
def Qj(i:Nat)(te:TE)(ti:Cn):TS:=λ D σ H=>∃x,σ[i]?=some (some x)/\te σ H λ y H1=>ti x y H1 λ z H2=>D.nx (σ.set i (some z)) H2
theorem Ql{i:Nat}{x:Str}{e:Expr}{te:TE}{op:Operator}{ti:Cn}{pos':Pos}(hN:X.N.Nodup)(hi:X.N[i]?=some x)(hx:Loc X.env.scope x)(he:PE X e te)(ho:An X op ti)(hf:X.fn x=true\/X.env.scope.names.lookup x=some .local:=by first|exact .inl rfl|exact .inr rfl|assumption):
 PS X (.AugAssign (.Name x pos') op e pos) (Qj i te ti):=by
 intro pins s σ H D I h;obtain⟨v,e1,h⟩:=h;obtain⟨m,hn,hl⟩:=I.loc;have vis:zy X.env.scope x:=by rcases hx with k|k;exact .inl k;exact .inr (.inl k)
 obtain⟨u,r,l⟩:=hl i x v hi e1 vis;refine wpAny_AugAssign_Name ?_
 have go:wpAny (model X.prog X.w) X.A (eval e X.env) (λ w s₂=>wpAny (model X.prog X.w) X.A (inplaceOp op u w) (λ r s₃=>wpAny (model X.prog X.w) X.A (storeName X.env x r) (λ _=>SP X pins D .next) X.xe s₃) X.xe s₂) X.xe s:=by
  refine br (he pins s σ H _ I h) λ w s1 ⟨y,H1,I1,r1,q1⟩=>?_;refine br (ho pins s1 σ H1 v y u w _ I1 r r1 q1) λ z s2 ⟨zv,H2,I2,r2,q2⟩=>?_;exact mE I2 hN hi hx r2 (λ s3 I3=>⟨_,H2,I3,q2⟩) hf
 rcases l with⟨hk,hm⟩|⟨hk,c,hc,hcell⟩
 . exact wpAny_loadName_local I.ok.kind hk hn hm go
 . rcases hk with hk|hk
   . exact wpAny_loadName_cell I.ok.kind hk hc hcell go
   . rcases hx with k|k
     . have:X.env.scope.names.lookup x=some .free:=hk;rw[k]at this;cases this
     . have:X.env.scope.names.lookup x=some .free:=hk;rw[k]at this;cases this
def RP(to ti te:TE)(tget:V->V->Hp->VK->Prop)(tip:Cn)(tset:AE):TS:=λ D σ H=>to σ H λ o H1=>ti σ H1 λ i H2=>tget o i H2 λ x H3=>te σ H3 λ y H4=>tip x y H4 λ z H5=>tset o i z H5 λ H6=>D.nx σ H6
def OW(X:Cx)(t:V->V->Hp->VK->Prop):Prop:=
 ∀(pins:List (Addr×Obj)) (s:Shared) (σ:St) (H:Hp) (o i:V) (ov iv:Value) (Q:VK),Inv X pins σ H s->RelV o ov->RelV i iv->t o i H Q->
  wpAny (model X.prog X.w) X.A (getItem ov iv) (EP X pins σ Q) X.xe s
theorem ND{o i e:Expr}{to ti te:TE}{tget:V->V->Hp->VK->Prop}{tip:Cn}{tset:AE}{op:Operator}{tpos:Pos}(ho:PE X o to)(hi:PE X i ti)(hg:OW X tget)(he:PE X e te)(hp:An X op tip)(hs:Jb X tset)
 (ha:∀ov iv new,augStore i ov iv new=(do holding [new,ov,iv] (setItem ov iv new);release [new,ov,iv] [];pure .next):=by intros;rfl):PS X (.AugAssign (.Subscript o i tpos) op e pos) (RP to ti te tget tip tset):=by
 intro pins s σ H D I h;refine wpAny_AugAssign_SubscriptAny (br (ho pins s σ H _ I h) λ ov s1 ⟨x1,H1,I1,r1,q1⟩=>?_) ha;refine br (hi pins s1 σ H1 _ I1 q1) λ iv s2 ⟨x2,H2,I2,r2,q2⟩=>?_;refine br (hg pins s2 σ H2 x1 x2 ov iv _ I2 r1 r2 q2) λ old s3 ⟨x3,H3,I3,r3,q3⟩=>?_;refine br (he pins s3 σ H3 _ I3 q3) λ v s4 ⟨x4,H4,I4,r4,q4⟩=>?_;refine br (hp pins s4 σ H4 x3 x4 old v _ I4 r3 r4 q4) λ new s5 ⟨x5,H5,I5,r5,q5⟩=>?_;exact br (hs pins s5 σ H5 x1 x2 x5 ov iv new _ I5 r1 r2 r5 q5) λ _ s6 ⟨H6,I6,q6⟩=>⟨σ,H6,I6,q6⟩
def Ck(f:Int->Int->Int):Cn:=λ x y H Q=>∃i j,x= .int i/\y= .int j/\Q (.int (f i j)) H
theorem PU:An X .Add (Ck λ i j=>i+j):=by
 intro pins s σ H x y v u Q I r1 r2 h;obtain⟨i,j,e1,e2,q⟩:=h;subst e1;subst e2;obtain⟨t,rfl⟩:=r1;obtain⟨t',rfl⟩:=r2;exact iadd_int ⟨.int _,H,I.tok _,⟨_,rfl⟩,q⟩
theorem N2:An X .Sub (Ck λ i j=>i-j):=by
 intro pins s σ H x y v u Q I r1 r2 h;obtain⟨i,j,e1,e2,q⟩:=h;subst e1;subst e2;obtain⟨t,rfl⟩:=r1;obtain⟨t',rfl⟩:=r2;exact isub_int ⟨.int _,H,I.tok _,⟨_,rfl⟩,q⟩
def FK(c:TT)(tb:TS):TS:=λ D σ H=>∃W:Nat->St->Hp->Prop,(∃m,W m σ H)/\∀m σ H,W m σ H->
 c σ H λ b H1=>if b=true then∃N:St->Hp->Prop,(∀σ' H',N σ' H'->∃m',m'<m/\W m' σ' H')/\tb {D with nx:=N,ct:=N,bk:=D.nx} σ H1 else D.nx σ H1
theorem Jw{c:Expr}{body:List Stmt}{tc:TT}{tb:TS}(hp:PassesOwn (model X.prog X.w) X.A X.env X.xe)(hc:PT X c tc)(hb:gf X body tb):PS X (.While c body [] pos) (FK tc tb):=by
 intro pins s σ H D I h;obtain⟨W,⟨m0,w0⟩,turn⟩:=h;refine wpAny_While (codeAny_whileLoop (λ n s'=>∃σ' H',Inv X pins σ' H' s'/\W n σ' H') ?_ m0 ⟨σ,H,I,w0⟩);rintro n s1 ⟨σ1,H1,I1,w1⟩;refine Ww hp (br (hc pins s1 σ1 H1 _ I1 (turn n σ1 H1 w1)) λ b s2 ⟨H2,I2,q2⟩=>?_);cases b with
 |true=>
  obtain⟨N,hN,q2⟩:=q2;rw[UA rfl];refine Ww hp (br (hb pins s2 σ1 H2 _ I2 q2) λ f s3 q3=>?_);cases f with
  |next=>
   obtain⟨σ3,H3,I3,n3⟩:=q3;obtain⟨m',hm,w3⟩:=hN σ3 H3 n3;exact⟨m',hm,σ3,H3,I3,w3⟩
  |cont=>
   obtain⟨σ3,H3,I3,n3⟩:=q3;obtain⟨m',hm,w3⟩:=hN σ3 H3 n3;exact⟨m',hm,σ3,H3,I3,w3⟩
  |brk=>exact q3
  |ret v=>exact q3
 |false=>
  rw[Uy Vv];exact WM ⟨σ1,H2,I2,q2⟩
end
structure It where
 go:Nat->Hp->Prop
 m7:Nat->Hp->V->Hp->Prop
 stop:Nat->Hp->Prop
def kh(X:Cx)(pins:List (Addr×Obj))(H:Hp)(b:Addr):Prop:=
 H b=none/\b≠X.env.locals/\b∉X.fs/\(b∈X.ex\/X.s₀.heap.objs.size<=b)/\(∀x c,X.env.cells.lookup x=some c->c≠b)/\∀p∈X.pn++pins,p.1≠b
theorem Inv.uc{X:Cx}{pins:List (Addr×Obj)}{σ:St}{H H':Hp}{s:Shared}{b:Addr}(I:Inv X pins σ H s)(hb:s.heap.objs.size<=b)(hn:H' b=none):kh X pins H' b:=by
 refine⟨hn,WG (UY I.lt hb),I.TQ hb,.inr (UG I.sz hb),λ x c e z=>?_,λ p hp z=>?_⟩
 . obtain⟨v,q⟩:=I.cell x c e;exact absurd (UY q.lt (by rw[z];exact hb)) (Vt _)
 . exact absurd (UY (UN (I.pin p hp).1) (by rw[z];exact hb)) (Vt _)
structure Turn(P:Program)(w:World)(K:PySem.W.Frag)(tg:Expr)(J:It)(fp:List Addr)(it:Addr)(tn:Nat->Heap->Prop):Prop where
 mem:it∈fp
 obj:∀i h,tn i h->∀b∈fp,∃o,h.get? b=some o/\∀v,o.data≠ .cell v
 keep:∀i h h',tn i h->(∀b∈fp,∀o,h.get? b=some o->h'.get? b=some o)->tn i h'
 item:∀(X:Cx),X.prog=P->X.w=w->X.K=K->X.calm=true->∀(i:Nat) (pins:List (Addr×Obj)) (s:Shared) (σ:St) (H:Hp) (E:Value->Shared->Prop),Inv X pins σ H s->(∀b∈fp,kh X pins H b)->tn i s.heap->J.go i H->
  wpAny (model P w) X.A (pyNext (.ref it)) (λ r s1=>∃u,r=some u/\
   wpAny (model P w) X.A (letOwnedTupleGo tg (.ref it) u) (λ _ s2=>∃x H',Inv X pins σ H' s2/\RelV x u/\J.m7 i H x H'/\tn (i+1) s2.heap/\∀b∈fp,H' b=none) E s1) E s
 done:∀(X:Cx),X.prog=P->X.w=w->X.K=K->X.calm=true->∀(i:Nat) (pins:List (Addr×Obj)) (s:Shared) (σ:St) (H:Hp) (E:Value->Shared->Prop),Inv X pins σ H s->(∀b∈fp,kh X pins H b)->tn i s.heap->J.stop i H->
  wpAny (model P w) X.A (pyNext (.ref it)) (λ r s1=>r=none/\Inv X pins σ H s1) E s
 self:∀(A:Around) (i:Nat) (s:Shared) (Q:Value->Shared->Prop) (E:Value->Shared->Prop),tn i s.heap->Q (.ref it) s->wpAny (model P w) A (pyIter (.ref it)) Q E s
abbrev TI:=St->Hp->(It->Hp->Prop)->Prop
def J9(X:Cx)(pins:List (Addr×Obj))(σ:St)(tg:Expr)(R:It->Hp->Prop)(itv:Value)(s2:Shared):Prop:=
 ∃(it:Addr) (fp:List Addr) (tn:Nat->Heap->Prop) (J:It) (H':Hp),itv= .ref it/\Inv X pins σ H' s2/\Turn X.prog X.w X.K tg J fp it tn/\tn 0 s2.heap/\(∀b∈fp,kh X pins H' b)/\R J H'
def PI(X:Cx)(tg iter:Expr)(wi:TI):Prop:=
 ∀(pins:List (Addr×Obj)) (s:Shared) (σ:St) (H:Hp) (R:It->Hp->Prop),Inv X pins σ H s->wi σ H R->
  wpAny (model X.prog X.w) X.A (eval iter X.env) (λ v s1=>wpAny (model X.prog X.w) X.A (pyIter v) (J9 X pins σ tg R) X.xe s1) X.xe s
theorem yB{M:Model}{A:Around}{E:Value->Shared->Prop}{s:Shared}{tg:Expr}{it:Addr}{u:Value}{o:Obj}{n:String}{vs:Array Value}{Q:Unit->Shared->Prop}(ho:s.heap.get? it=some o)(hc:o.cls= .type n)(hd:o.data= .fields vs)
 (hn: ["enumerate","zip","dict_itemiterator","dict_reverseitemiterator","odict_iterator","itertools.zip_longest","itertools.pairwise"].contains n=false) (hQ:Q () s):wpAny M A (letOwnedTupleGo tg (.ref it) u) Q E s:=by
 unfold letOwnedTupleGo
 cases tg<;>first
  |exact UK hQ
  |(cases u<;>first
     |exact UK hQ
     |(refine Uu (wpAny_load ho ?_)
       rw[hc,hd];show wpAny M A (if(["enumerate","zip","dict_itemiterator","dict_reverseitemiterator","odict_iterator","itertools.zip_longest","itertools.pairwise"].contains n&&vs[0]?==some (rawInt _))=true then _ else _) Q E s;rw[Uy (by intro h;rw[hn,V7]at h;cases h)];exact UK hQ))
def N1(K:PySem.W.Frag)(a:Addr):It:=
 ⟨λ i H=>∃xs x,kH K H a xs/\xs[i]?=some x,λ i H x H'=>H'=H/\∀xs,kH K H a xs->xs[i]?=some x,λ i H=>∃xs,kH K H a xs/\xs.length<=i⟩
def Pd(K:PySem.W.Frag)(a:Addr):It:=
 ⟨λ i H=>∃xs x,hJ K H a xs/\xs[i]?=some x,λ i H x H'=>H'=H/\∀xs,hJ K H a xs->xs[i]?=some x,λ i H=>∃xs,hJ K H a xs/\xs.length<=i⟩
def xw(lo:Int)(n:Nat):It:=⟨λ i _=>i<n,λ i H x H'=>H'=H/\x= .int (lo+i),λ i _=>n<=i⟩
theorem Gu{P:Program}{w:World}{K:PySem.W.Frag}{tg:Expr}(a it:Addr):Turn P w K tg (N1 K a) [it] it (λ i h=>h.IsListIter it a i) where
 mem:=by simp
 obj:=λ i h st b hb=>by
  have e:b=it:=by simpa using hb
  subst e;obtain⟨o,e,c,d⟩:=st;exact⟨o,e,λ v z=>by rw[d]at z;cases z⟩
 keep:=λ i h h' st k=>st.at λ o e=>k it (by simp) o e
 item:=by
  intro X hP hw hK hc i pins s σ H E I hf st hg;subst hP hw hK;obtain⟨xs,x,hq,hx⟩:=hg;obtain⟨ao,rv,p,hz⟩:=I.list hq;obtain⟨u,hu,ru⟩:=rv.get hx;obtain⟨f0,f1,f2,f3,f4,f5⟩:=hf it (by simp);refine wpAny_pyNext_list_item st p.isList (x:=u) (by simpa using hu) λ h' st' sb=>?_;have I1:Inv X pins σ H {s with heap:=h'}:=I.turned (t':=s.toks) (λ b o hb e=>(sb.2 b hb).trans e) f0 f1 f3 f4 f5;obtain⟨o,e,c,d⟩:=id st';exact⟨u,rfl,yB (s:={s with heap:=h'}) e c d (by decide) ⟨x,H,I1,ru,⟨rfl,λ ys hy=>by rw[I.Bi hy hq];exact hx⟩,st',λ b hb=>(hf b hb).1⟩⟩
 done:=by
  intro X hP hw hK hc i pins s σ H E I hf st hg;subst hP hw hK;obtain⟨xs,hq,hx⟩:=hg;obtain⟨ao,rv,p,hz⟩:=I.list hq;obtain⟨f0,f1,f2,f3,f4,f5⟩:=hf it (by simp);have hl:=rv.length;exact wpAny_pyNext_list_end (I.ok.hd hc) st p.isList (by simp;lia) λ h' eb=>⟨rfl,I.turned (t':=s.toks) (λ b o hb e=>eb b o hb e) f0 f1 f3 f4 f5⟩
 self:=λ _ _ _ _ _ st h=>wpAny_pyIter_listiter st h
theorem EG{P:Program}{w:World}{K:PySem.W.Frag}{tg:Expr}(a it:Addr):Turn P w K tg (Pd K a) [it] it (λ i h=>h.IsTupleIter it a i) where
 mem:=by simp
 obj:=λ i h st b hb=>by
  have e:b=it:=by simpa using hb
  subst e;obtain⟨o,e,c,d⟩:=st;exact⟨o,e,λ v z=>by rw[d]at z;cases z⟩
 keep:=λ i h h' st k=>st.at λ o e=>k it (by simp) o e
 item:=by
  intro X hP hw hK hc i pins s σ H E I hf st hg;subst hP hw hK;obtain⟨xs,x,hq,hx⟩:=hg;obtain⟨ao,rv,p,hz⟩:=I.tuple hq;obtain⟨u,hu,ru⟩:=rv.get hx;obtain⟨f0,f1,f2,f3,f4,f5⟩:=hf it (by simp);refine wpAny_pyNext_tuple_item st (show s.heap.IsTuple a ao.toArray from p) (x:=u) (by simpa using hu) λ h' st' sb=>?_;have I1:Inv X pins σ H {s with heap:=h'}:=I.turned (t':=s.toks) (λ b o hb e=>(sb.2 b hb).trans e) f0 f1 f3 f4 f5;obtain⟨o,e,c,d⟩:=id st';exact⟨u,rfl,yB (s:={s with heap:=h'}) e c d (by decide) ⟨x,H,I1,ru,⟨rfl,λ ys hy=>by rw[I.w9 hy hq];exact hx⟩,st',λ b hb=>(hf b hb).1⟩⟩
 done:=by
  intro X hP hw hK hc i pins s σ H E I hf st hg;subst hP hw hK;obtain⟨xs,hq,hx⟩:=hg;obtain⟨ao,rv,p,hz⟩:=I.tuple hq;obtain⟨f0,f1,f2,f3,f4,f5⟩:=hf it (by simp);have hl:=rv.length;exact wpAny_pyNext_tuple_end (I.ok.hd hc) st (show s.heap.IsTuple a ao.toArray from p) (by simp;lia) λ h' eb=>⟨rfl,I.turned (t':=s.toks) (λ b o hb e=>eb b o hb e) f0 f1 f3 f4 f5⟩
 self:=λ _ _ _ _ _ st h=>wpAny_pyIter_tupleiter st h
theorem D4{P:Program}{w:World}{K:PySem.W.Frag}{tg:Expr}(it:Addr)(lo:Int)(n:Nat):Turn P w K tg (xw lo n) [it] it (λ i h=>IsRangeIter h it (lo+(i:Nat)*1) ((n:Int)-(i:Nat)) 1) where
 mem:=by simp
 obj:=λ i h st b hb=>by
  have e:b=it:=by simpa using hb
  subst e
  exact⟨_,st,λ v z=>by
   have z':Data.fields _=Data.cell v:=z;cases z'⟩
 keep:=λ i h h' st k=>k it (by simp) _ st
 item:=by
  intro X hP hw hK hc i pins s σ H E I hf st hg;subst hP hw hK;obtain⟨f0,f1,f2,f3,f4,f5⟩:=hf it (by simp);have W:=Walks.range (prog:=X.prog) (w:=X.w) (I.ok.hd hc) it lo 1 n;refine W.item i s _ _ hg st λ v h' tk hv st' kk=>?_;obtain⟨t,rfl⟩:=hv;have I1:Inv X pins σ H {s with heap:=h',toks:=tk}:=I.turned (λ b o hb e=>kk b o (by simpa using hb) e) f0 f1 f3 f4 f5;refine⟨_,rfl,yB (s:={s with heap:=h',toks:=tk}) (n:="range_iterator") st' rfl rfl (by decide) ⟨.int (lo+i),H,I1,⟨t,?_⟩,⟨rfl,rfl⟩,st',λ b hb=>(hf b hb).1⟩⟩;rw[Int.mul_one]
 done:=by
  intro X hP hw hK hc i pins s σ H E I hf st hg;subst hP hw hK;obtain⟨f0,f1,f2,f3,f4,f5⟩:=hf it (by simp);exact YL (I.ok.hd hc) st (by have:n<=i:=hg;lia) λ h' eb=>⟨rfl,I.turned (t':=s.toks) (λ b o hb e=>eb b o hb e) f0 f1 f3 f4 f5⟩
 self:=λ _ _ _ _ _ st h=>YM st h
section
variable {X:Cx}{tg:Expr}
theorem zj{pins:List (Addr×Obj)}{σ:St}{H:Hp}{s:Shared}{R:It->Hp->Prop}{E:Value->Shared->Prop}{lo hi:Int}{t u v:Tok}{tk:Nat}(I:Inv X pins σ H s)(h1: -(2^62)<=lo)(h2:lo<2^62)(h3: -(2^62)<=hi)(h4:hi<2^62)
 (q:R (xw lo (hi-lo).toNat) H):wpAny (model X.prog X.w) X.A (pyIter (.ref s.heap.objs.size)) (J9 X pins σ tg R) E {s with heap:=s.heap.push {cls:= .type "range",data:= .fields #[.int lo t,.int hi u,.int 1 v]},toks:=tk}:=by
 refine wpAny_pyIter_range (IsRange.new ..) (small_one h1 h2 h3 h4) ?_;have I1:Inv X pins σ H {s with heap:=s.heap.push {cls:= .type "range",data:= .fields #[.int lo t,.int hi u,.int 1 v]},toks:=tk}:=I.kept λ b o e=>Uv _ e
 refine⟨(s.heap.push {cls:= .type "range",data:= .fields #[.int lo t,.int hi u,.int 1 v]}).objs.size,[(s.heap.push {cls:= .type "range",data:= .fields #[.int lo t,.int hi u,.int 1 v]}).objs.size],_,_,H,rfl,
  I1.kept (t':=tk) λ b o e=>Uv _ e,D4 _ lo (hi-lo).toNat,?_,λ b hb=>?_,q⟩
 . have e1:lo+((0:Nat):Int)*1=lo:=by simp
   have e2:(((hi-lo).toNat:Nat):Int)-((0:Nat):Int)=Builtin.Range.rangeSize lo hi 1:=by rw[rangeSize_one];split<;>lia
   show IsRangeIter _ _ (lo+((0:Nat):Int)*1) ((((hi-lo).toNat:Nat):Int)-((0:Nat):Int)) 1;rw[e1,e2];exact UO _ rfl
 . have e:b=(s.heap.push {cls:= .type "range",data:= .fields #[.int lo t,.int hi u,.int 1 v]}).objs.size:=by simpa using hb
   subst e;exact I1.uc (UB _) (I1.aC.fresh (UB _))
def Dw(ta:TA):TI:=λ σ H R=>ta σ H λ vs H1=>∃j:Int,vs=[.int j]/\ -(2^62)<=j/\j<2^62/\R (xw 0 j.toNat) H1
def D8(ta:TA):TI:=λ σ H R=>ta σ H λ vs H1=>∃i j:Int,vs=[.int i,.int j]/\(-(2^62)<=i/\i<2^62/\ -(2^62)<=j/\j<2^62)/\R (xw i (j-i).toNat) H1
theorem Hz{a:Expr}{ta:TA}{p pos:Pos}(hg:Gl X "range")(hm:X.mg "range"=none)(ha:PA X [a] ta)(hs:starEach [a] X.env=[(false,eval a X.env)]:=by rfl):PI X tg (.Call (.Name "range" p) [a] [] pos) (Dw ta):=by
 intro pins s σ H R I h;refine Call_ (kO I hg hm boot_range (VT (br (ha pos pins s σ H _ I h) λ us s1 ⟨vs,H1,I1,r1,q1⟩=>?_) hs rfl));obtain⟨j,e,q1,q2,q⟩:=q1;subst e;cases r1 with
 |cons r rr=>
  cases rr;obtain⟨t,rfl⟩:=r;exact call_range_1 (zj I1 (by lia) (by lia) q1 q2 (by simpa using q))
theorem FY{a b:Expr}{ta:TA}{p pos:Pos}(hg:Gl X "range")(hm:X.mg "range"=none)(ha:PA X [a,b] ta)(hs:starEach [a,b] X.env=[(false,eval a X.env),(false,eval b X.env)]:=by rfl)(hs2:starEach [b] X.env=[(false,eval b X.env)]:=by rfl):
 PI X tg (.Call (.Name "range" p) [a,b] [] pos) (D8 ta):=by
 intro pins s σ H R I h;refine Call_ (kO I hg hm boot_range (VT (br (ha pos pins s σ H _ I h) λ us s1 ⟨vs,H1,I1,r1,q1⟩=>?_) (by rw[hs,hs2]) (by rw[hs2];rfl)));obtain⟨i,j,e,⟨q1,q2,q3,q4⟩,q⟩:=q1;subst e;cases r1 with
 |cons r rr=>
  cases rr with
  |cons r' rr=>
   cases rr;obtain⟨t,rfl⟩:=r;obtain⟨t',rfl⟩:=r';exact call_range_2 (zj I1 q1 q2 q3 q4 q)
def Px(wi:TI)(g:TG)(tb:TS):TS:=λ D σ H=>wi σ H λ J H1=>∃W:Nat->Nat->St->Hp->Prop,(∃m,W 0 m σ H1)/\∀i m σ H,W i m σ H->
 (J.stop i H/\D.nx σ H)\/(J.go i H/\∃N:St->Hp->Prop,(∀σ' H',N σ' H'->∃m',m'<m/\W (i+1) m' σ' H')/\∀x H',J.m7 i H x H'->g x σ H' λ σ2 H2=>tb {D with nx:=N,ct:=N,bk:=D.nx} σ2 H2)
def rq(fp:List Addr)(h:Heap):List (Addr×Obj):=fp.filterMap λ b=>(h.get? b).map λ o=>(b,o)
theorem lG{fp:List Addr}{h:Heap}{b:Addr}{o:Obj}(hb:b∈fp)(e:h.get? b=some o):(b,o)∈rq fp h:=List.mem_filterMap.mpr ⟨b,hb,by rw[e];rfl⟩
theorem Gd{fp:List Addr}{h:Heap}{p:Addr×Obj}(hp:p∈rq fp h):p.1∈fp/\h.get? p.1=some p.2:=by
 obtain⟨b,hb,e⟩:=List.mem_filterMap.mp hp;cases q:h.get? b with
 |none=>rw[q]at e;cases e
 |some o=>
  rw[q]at e;have e':(b,o)=p:=Vi e;subst e';exact⟨hb,q⟩
theorem Inv.pinned{pins:List (Addr×Obj)}{σ:St}{H:Hp}{s:Shared}{fp:List Addr}(I:Inv X pins σ H s)(hf:∀b∈fp,kh X pins H b)(ho:∀b∈fp,∃o,s.heap.get? b=some o/\∀v,o.data≠ .cell v):Inv X (pins++rq fp s.heap) σ H s:=
 I.CF λ p hp=>(VJ.mp hp).elim (λ z=>I.pin p (Vx _ z)) λ z=>by
  obtain⟨hb,e⟩:=Gd z;obtain⟨f0,f1,f2,_⟩:=hf p.1 hb;obtain⟨o,e',d⟩:=ho p.1 hb;rw[e]at e';cases e';exact⟨e,f0,f1,f2,d⟩
theorem Inv.pJ{pins pl:List (Addr×Obj)}{σ:St}{H:Hp}{s:Shared}(I:Inv X (pins++pl) σ H s):Inv X pins σ H s:=I.CF λ p hp=>I.pin p (Vx _ (List.mem_append_left _ hp))
theorem OT{iter:Expr}{body:List Stmt}{wi:TI}{g:TG}{tb:TS}{pos:Pos}(hp:PassesOwn (model X.prog X.w) X.A X.env X.xe)(hc:X.calm=true)(hi:PI X tg iter wi)(hg:PG X tg g)(hb:gf X body tb)
 (hs:∀x,foldedSetIterable iter X.env x=pure x:=by intro _;rfl):PS X (.For tg iter body [] pos) (Px wi g tb):=by
 intro pins s σ H D I h;refine wpAny_For (br (hi pins s σ H _ I h) λ v s1 h1=>br h1 λ itv s2 h2=>?_) hs;obtain⟨it,fp,tn,J,H2,e,I2,T,st2,f2,W,⟨m0,w0⟩,turn⟩:=h2;subst e;have stat:∀ {H':Hp},(∀b∈fp,H' b=none)->∀b∈fp,kh X pins H' b:=λ hn b hb=>⟨hn b hb,(f2 b hb).2⟩
 refine codeAny_forLoop_any (λ n s'=>∃i σ' H',Inv X pins σ' H' s'/\tn i s'.heap/\(∀b∈fp,H' b=none)/\W i n σ' H') ?_ m0 ⟨0,σ,H2,I2,st2,λ b hb=>(f2 b hb).1,w0⟩;rintro n s3 ⟨i,σ3,H3,I3,st3,fr3,w3⟩;rcases turn i n σ3 H3 w3 with⟨stop,qn⟩|⟨go,N,hN,step⟩
 . refine Ww hp (br (T.done X rfl rfl rfl hc i pins s3 σ3 H3 X.xe I3 (stat fr3) st3 stop) λ r s4 ⟨hr,I4⟩=>?_);subst hr;exact WM ⟨σ3,H3,I4,qn⟩
 . refine Ww hp (br (T.item X rfl rfl rfl hc i pins s3 σ3 H3 X.xe I3 (stat fr3) st3 go) λ r s4 ⟨u,hr,h4⟩=>?_);subst hr;refine Ww hp (br h4 λ _ s5 ⟨x,H5,I5,r5,y5,st5,fr5⟩=>?_);have I5':=I5.pinned (stat fr5) (T.obj _ _ st5);refine Ww hp (br (hg _ s5 σ3 H5 x u _ I5' r5 (step x H5 y5)) λ _ s6 ⟨σ6,H6,I6,q6⟩=>?_);refine Ww hp (br (hb _ s6 σ6 H6 _ I6 q6) λ f s7 q7=>?_)
   have again:∀ {σ7:St} {H7:Hp},Inv X (pins++rq fp s5.heap) σ7 H7 s7->N σ7 H7->∃m,m<n/\∃i σ' H',Inv X pins σ' H' s7/\tn i s7.heap/\(∀b∈fp,H' b=none)/\W i m σ' H':=λ{σ7 H7} I7 n7=>by
    obtain⟨m',hm,w7⟩:=hN σ7 H7 n7;refine⟨m',hm,i+1,σ7,H7,I7.pJ,T.keep _ _ _ st5 λ b hb o e=>(I7.pin (b,o) (Vx _ (Vx _ (lG hb e)))).1,λ b hb=>?_,w7⟩;obtain⟨o,e,d⟩:=T.obj _ _ st5 b hb;exact(I7.pin (b,o) (Vx _ (Vx _ (lG hb e)))).2.1
   cases f with
   |next=>obtain⟨σ7,H7,I7,n7⟩:=q7;exact again I7 n7
   |cont=>obtain⟨σ7,H7,I7,n7⟩:=q7;exact again I7 n7
   |brk=>obtain⟨σ7,H7,I7,q7⟩:=q7;exact⟨σ7,H7,I7.pJ,q7⟩
   |ret v=>obtain⟨x7,σ7,H7,I7,r7,q7⟩:=q7;exact⟨x7,σ7,H7,I7.pJ,r7,q7⟩
end
theorem gN{lo:Int}{n:Nat}{g:TG}{tb:TS}{D:Ends}{σ:St}{H:Hp}(Pv:Nat->St->Hp->Prop)(h0:Pv 0 σ H)
 (hs:∀i σ H,i<n->Pv i σ H->g (.int (lo+i)) σ H λ σ2 H2=>tb {D with nx:=Pv (i+1),ct:=Pv (i+1),bk:=D.nx} σ2 H2) (hd:∀σ H,Pv n σ H->D.nx σ H):
 ∃W:Nat->Nat->St->Hp->Prop,(∃m,W 0 m σ H)/\∀i m σ H,W i m σ H->
  ((xw lo n).stop i H/\D.nx σ H)\/((xw lo n).go i H/\∃N:St->Hp->Prop,(∀σ' H',N σ' H'->∃m',m'<m/\W (i+1) m' σ' H')/\∀x H',(xw lo n).m7 i H x H'->g x σ H' λ σ2 H2=>tb {D with nx:=N,ct:=N,bk:=D.nx} σ2 H2):=by
 refine⟨λ i m σ H=>m=n-i/\i<=n/\Pv i σ H,⟨n,by simp,VP _,h0⟩,?_⟩;rintro i m σ H ⟨rfl,hi,p⟩;by_cases hlt:i<n
 . refine .inr ⟨hlt,Pv (i+1),λ σ' H' p'=>⟨n-(i+1),by lia,rfl,hlt,p'⟩,λ x H' y=>?_⟩;obtain⟨e,y⟩:=y;subst e y;exact hs i σ _ hlt p
 . have e:i=n:=by lia
   subst e;exact .inl ⟨UB _,hd σ H p⟩
abbrev R2:=V->V->Hp->VK->Prop
def bE(X:Cx)(f:Value->Value->Sem Value)(r:R2):Prop:=
 ∀(pins:List (Addr×Obj)) (s:Shared) (σ:St) (H:Hp) (x y:V) (v u:Value) (Q:VK),Inv X pins σ H s->RelV x v->RelV y u->r x y H Q->
  wpAny (model X.prog X.w) X.A (f v u) (EP X pins σ Q) X.xe s
def Dn(X:Cx)(f:Value->Sem Value)(r:V->Hp->VK->Prop):Prop:=
 ∀(pins:List (Addr×Obj)) (s:Shared) (σ:St) (H:Hp) (x:V) (v:Value) (Q:VK),Inv X pins σ H s->RelV x v->r x H Q->
  wpAny (model X.prog X.w) X.A (f v) (EP X pins σ Q) X.xe s
def bF(X:Cx)(f:Value)(r:List V->Hp->VK->Prop):Prop:=
 ∀(pins:List (Addr×Obj)) (s:Shared) (σ:St) (H:Hp) (xs:List V) (us:List Value) (Q:VK),Inv X pins σ H s->Vals xs us->r xs H Q->
  wpAny (model X.prog X.w) X.A (call f us) (EP X pins σ Q) X.xe s
def Fu(r:R2)(ta tb:TE):TE:=λ σ H Q=>ta σ H λ x H1=>tb σ H1 λ y H2=>r x y H2 Q
def SE(r:V->Hp->VK->Prop)(ta:TE):TE:=λ σ H Q=>ta σ H λ x H1=>r x H1 Q
def rI(C:Int->Int->Prop)(g:Int->Int->V):R2:=λ x y H Q=>∃i j,x= .int i/\y= .int j/\C i j/\Q (g i j) H
def uK(g:Int->Int->V):R2:=λ x y H Q=>∃i j,x= .int i/\y= .int j/\Q (g i j) H
def rU(g:Int->V):V->Hp->VK->Prop:=λ x H Q=>∃i,x= .int i/\Q (g i) H
section
variable {X:Cx}{a b c:Expr}{ta tb tc:TE}{pos:Pos}
theorem Jy(ha:PE X a ta)(hb:PE X b tb){pins:List (Addr×Obj)}{s:Shared}{σ:St}{H:Hp}{R:V->V->Hp->Prop}(I:Inv X pins σ H s)
 (h:ta σ H λ x H1=>tb σ H1 λ y H2=>R x y H2) {Q:Value->Shared->Prop} {f:Value->Value->Sem Value}
 (hf:∀v u s2 x y H2,Inv X pins σ H2 s2->RelV x v->RelV y u->R x y H2->wpAny (model X.prog X.w) X.A (f v u) Q X.xe s2):
 wpAny (model X.prog X.w) X.A (eval a X.env) (λ v s₁=>wpAny (model X.prog X.w) X.A (eval b X.env) (λ u s₂=>wpAny (model X.prog X.w) X.A (f v u) Q X.xe s₂) X.xe s₁) X.xe s:=by
 refine br (ha pins s σ H _ I h) λ v s1 ⟨x,H1,I1,r1,q1⟩=>?_;refine br (hb pins s1 σ H1 _ I1 q1) λ u s2 ⟨y,H2,I2,r2,q2⟩=>?_;exact hf v u s2 x y H2 I2 r1 r2 q2
theorem Qn{op:Operator}{r:R2}(ho:bE X (binaryOp op) r)(ha:PE X a ta)(hb:PE X b tb):PE X (.BinOp a op b pos) (Fu r ta tb):=by
 intro pins s σ H Q I h;exact wpAny_BinOp (Jy ha hb I h λ v u s2 x y H2 I2 rx ry q=>ho pins s2 σ H2 x y v u Q I2 rx ry q)
theorem Rz{op:UnaryOp}{r:V->Hp->VK->Prop}(ho:Dn X (unaryOp op) r)(ha:PE X a ta):PE X (.UnaryOp op a pos) (SE r ta):=by
 intro pins s σ H Q I h;exact UnaryOp_ (br (ha pins s σ H _ I h) λ v s1 ⟨x,H1,I1,r1,q1⟩=>ho pins s1 σ H1 x v Q I1 r1 q1)
theorem KU{f:Value->Value->Sem Value}{C:Int->Int->Prop}{g:Int->Int->Int}
 (rule:∀(i j:Int) (t u:Tok) (s:Shared) (Q:Value->Shared->Prop) (E:Value->Shared->Prop),C i j->Q (.int (g i j) s.toks) {s with toks:=s.toks+1}->wpAny (model X.prog X.w) X.A (f (.int i t) (.int j u)) Q E s):
 bE X f (rI C λ i j=> .int (g i j)):=by
 intro pins s σ H x y v u Q I rx ry h;obtain⟨i,j,rfl,rfl,hc,q⟩:=h;obtain⟨t,rfl⟩:=rx;obtain⟨t',rfl⟩:=ry;exact rule i j t t' s _ _ hc ⟨.int (g i j),H,I.tok _,⟨_,rfl⟩,q⟩
theorem OX{f:Value->Value->Sem Value}{g:Int->Int->Int}
 (rule:∀(i j:Int) (t u:Tok) (s:Shared) (Q:Value->Shared->Prop) (E:Value->Shared->Prop),Q (.int (g i j) s.toks) {s with toks:=s.toks+1}->wpAny (model X.prog X.w) X.A (f (.int i t) (.int j u)) Q E s):
 bE X f (uK λ i j=> .int (g i j)):=by
 intro pins s σ H x y v u Q I rx ry h;obtain⟨i,j,rfl,rfl,q⟩:=h;obtain⟨t,rfl⟩:=rx;obtain⟨t',rfl⟩:=ry;exact rule i j t t' s _ _ ⟨.int (g i j),H,I.tok _,⟨_,rfl⟩,q⟩
theorem E4{f:Value->Value->Sem Value}{g:Int->Int->Bool}
 (rule:∀(i j:Int) (t u:Tok) (s:Shared) (Q:Value->Shared->Prop) (E:Value->Shared->Prop),Q (.bool (g i j)) s->wpAny (model X.prog X.w) X.A (f (.int i t) (.int j u)) Q E s):
 bE X f (uK λ i j=> .bl (g i j)):=by
 intro pins s σ H x y v u Q I rx ry h;obtain⟨i,j,rfl,rfl,q⟩:=h;obtain⟨t,rfl⟩:=rx;obtain⟨t',rfl⟩:=ry;exact rule i j t t' s _ _ ⟨.bl (g i j),H,I,rfl,q⟩
def Ij(i j:Int):Prop:=0<=j/\j<=1000000/\i.natAbs<2^64
theorem OR:bE X (binaryOp .Add) (uK λ i j=> .int (i+j)):=OX λ _ _ _ _ _ _ _ q=>add_int q
theorem NO:bE X (binaryOp .Sub) (uK λ i j=> .int (i-j)):=OX λ _ _ _ _ _ _ _ q=>sub_int q
theorem LN:bE X (binaryOp .Mod) (rI (λ _ j=>j≠0) λ i j=> .int (i.fmod j)):=KU λ _ _ _ _ _ _ _ hc q=>mod_int' hc q
theorem Py:bE X (binaryOp .Pow) (rI Ij λ i j=> .int (i^j.toNat)):=KU λ _ _ _ _ _ _ _ hc q=>pow_int_small hc.1 hc.2.1 hc.2.2 q
theorem TX{f:Value->Sem Value}{g:Int->Int}
 (rule:∀(i:Int) (t:Tok) (s:Shared) (Q:Value->Shared->Prop) (E:Value->Shared->Prop),Q (.int (g i) s.toks) {s with toks:=s.toks+1}->wpAny (model X.prog X.w) X.A (f (.int i t)) Q E s):
 Dn X f (rU λ i=> .int (g i)):=by
 intro pins s σ H x v Q I rx h;obtain⟨i,rfl,q⟩:=h;obtain⟨t,rfl⟩:=rx;exact rule i t s _ _ ⟨.int (g i),H,I.tok _,⟨_,rfl⟩,q⟩
theorem Ow:Dn X (unaryOp .USub) (rU λ i=> .int (-i)):=TX λ _ _ _ _ _ q=>neg_int q
end
def Tv:V->V->Bool
 | .ay,.ay=>true| .ay,.int _=>true| .int _,.ay=>true| .ay,.bl _=>true| .bl _,.ay=>true| .ay,.str _=>true| .str _,.ay=>true
 | .int _,.int _=>true| .bl _,.bl _=>true| .str _,.str _=>true| .s_ _,.s_ _=>true
 | .int _,.str _=>true| .str _,.int _=>true| .bl _,.str _=>true| .str _,.bl _=>true
 |_,_=>false
def Ue:R2:=λ x y H Q=>Tv x y=true/\Q (.bl (!decide (x=y))) H
theorem MI{i j:Int}:decide (V.int i=V.int j)=(i==j):=by
 rw[W8];simp
theorem OI{i j:Bool}:decide (V.bl i=V.bl j)=(i==j):=by
 rw[W8];simp
theorem Ma{i j:Str}:decide (V.str i=V.str j)=(i==j):=by
 rw[W8];simp
theorem Nx{i j:Array UInt8}:decide (V.s_ i=V.s_ j)=(i.toList==j.toList):=by
 rw[W8];cases i;cases j;simp
section
variable {X:Cx}{a b c:Expr}{ta tb tc:TE}{pos:Pos}
theorem eH{pins:List (Addr×Obj)}{σ:St}{H:Hp}{s:Shared}{Q:VK}{k k':Bool}(I:Inv X pins σ H s)(q:Q (.bl k) H)(e:k=k'):EP X pins σ Q (.bool k') s:=by
 subst e;exact⟨.bl k,H,I,rfl,q⟩
theorem RV:bE X (compareOp .NotEq) Ue:=by
 intro pins s σ H x y v u Q I rx ry h;obtain⟨hs,q⟩:=h;cases x with
 |ay=>
  cases rx;cases y with
  |ay=>cases ry;exact PySem.EqNone.ne_none_none (eH I q (by simp))
  |bl j=>cases ry;exact PySem.EqNone.ne_none_bool (eH I q (by simp))
  |int j=>obtain⟨t',rfl⟩:=ry;exact PySem.EqNone.ne_none_int (eH I q (by simp))
  |str j=>obtain⟨t',rfl⟩:=ry;exact PySem.EqNone.ne_none_str (eH I q (by simp))
  |_=>exact absurd (show false=true from hs) Vv
 |bl i=>
  cases rx;cases y with
  |ay=>cases ry;exact PySem.EqNone.ne_bool_none (eH I q (by simp))
  |bl j=>cases ry;exact ne_bool (eH I q (Vk not OI))
  |str j=>obtain⟨t',rfl⟩:=ry;exact PySem.EqMixed.ne_bool_str (eH I q (by simp))
  |_=>exact absurd (show false=true from hs) Vv
 |int i=>
  obtain⟨t,rfl⟩:=rx;cases y with
  |ay=>cases ry;exact PySem.EqNone.ne_int_none (eH I q (by simp))
  |int j=>obtain⟨t',rfl⟩:=ry;exact ne_int (eH I q (Vk not MI))
  |str j=>obtain⟨t',rfl⟩:=ry;exact PySem.EqMixed.ne_int_str (eH I q (by simp))
  |_=>exact absurd (show false=true from hs) Vv
 |str i=>
  obtain⟨t,rfl⟩:=rx;cases y with
  |ay=>cases ry;exact PySem.EqNone.ne_str_none (eH I q (by simp))
  |bl j=>cases ry;exact PySem.EqMixed.ne_str_bool (eH I q (by simp))
  |int j=>obtain⟨t',rfl⟩:=ry;exact PySem.EqMixed.ne_str_int (eH I q (by simp))
  |str j=>obtain⟨t',rfl⟩:=ry;exact ne_str (eH I q (Vk not Ma))
  |_=>exact absurd (show false=true from hs) Vv
 |s_ i=>
  obtain⟨t,rfl⟩:=rx;cases y with
  |s_ j=>obtain⟨t',rfl⟩:=ry;exact PySem.W.ne_bytes (eH I q (Vk not Nx))
  |_=>exact absurd (show false=true from hs) Vv
 |_=>cases y<;>exact absurd (show false=true from hs) Vv
theorem RD:bE X (compareOp .Lt) (uK λ i j=> .bl (decide (i<j))):=E4 λ _ _ _ _ _ _ _ q=>lt_int q
theorem Qp:bE X (compareOp .LtE) (uK λ i j=> .bl (decide (i<=j))):=E4 λ _ _ _ _ _ _ _ q=>le_int q
theorem QV:bE X (compareOp .Gt) (uK λ i j=> .bl (decide (j<i))):=E4 λ _ _ _ _ _ _ _ q=>gt_int q
theorem Q7:bE X (compareOp .GtE) (uK λ i j=> .bl (decide (j<=i))):=E4 λ _ _ _ _ _ _ _ q=>ge_int q
theorem NG:bE X (compareOp .Is) (λ x y H Q=>y= .ay/\Q (.bl (decide (x= .ay))) H):=by
 intro pins s σ H x y v u Q I rx ry h;obtain⟨rfl,q⟩:=h;cases ry;refine is_none_gen (eH I q ?_)
 cases x<;>first
  |(cases rx;rfl)
  |(obtain⟨t,rfl⟩:=rx;rfl)
theorem Mn:bE X (compareOp .IsNot) (λ x y H Q=>y= .ay/\Q (.bl (!decide (x= .ay))) H):=by
 intro pins s σ H x y v u Q I rx ry h;obtain⟨rfl,q⟩:=h;cases ry;refine isnot_none_gen (eH I q ?_)
 cases x<;>first
  |(cases rx;rfl)
  |(obtain⟨t,rfl⟩:=rx;rfl)
theorem fE(b:Expr){op:CmpOp}(h:op≠ .In:=by decide)(h2:op≠ .NotIn:=by decide):behindInMarks op b=false:=by
 have e1:(op==CmpOp.In)=false:=by cases op<;>first|rfl|exact absurd rfl h
 have e2:(op==CmpOp.NotIn)=false:=by cases op<;>first|rfl|exact absurd rfl h2
 cases b<;>simp[behindInMarks,e1,e2]
theorem M9{op:CmpOp}{r:R2}(ho:bE X (compareOp op) r)(ha:PE X a ta)(hb:PE X b tb)(hm:behindInMarks op b=false):PE X (.Compare a [op] [b] pos) (Fu r ta tb):=by
 intro pins s σ H Q I h;exact wpAny_Compare1 (Jy ha hb I h λ v u s2 x y H2 I2 rx ry q=>ho pins s2 σ H2 x y v u Q I2 rx ry q) hm
def Q1(t:TE):TT:=λ σ H Q=>t σ H λ x H'=>∃k,x= .bl k/\Q k H'
theorem Mm{op:CmpOp}{r:R2}(ho:bE X (compareOp op) r)(ha:PE X a ta)(hb:PE X b tb)(hm:behindInMarks op b=false):PT X (.Compare a [op] [b] pos) (Q1 (Fu r ta tb)):=by
 intro pins s σ H Q I h
 refine wpAny_isTrue_Compare1 (br (ha pins s σ H _ I h) λ v s1 ⟨x,H1,I1,r1,q1⟩=>br (hb pins s1 σ H1 _ I1 q1) λ u s2 ⟨y,H2,I2,r2,q2⟩=>
  br (ho pins s2 σ H2 x y v u _ I2 r1 r2 q2) λ c s3 ⟨z,H3,I3,r3,k,e,q3⟩=>?_) hm
 subst e;cases r3;exact Wj ⟨H3,I3,q3⟩
theorem oC:(sizeLine:Nat)<2^63:=by rw[Vy];decide
theorem DR:bE X (binaryOp .Add) (λ x y H Q=>∃i j,x= .str i/\y= .str j/\i.length+j.length<=sizeLine/\Q (.str (i++j)) H):=by
 intro pins s σ H x y v u Q I rx ry h;obtain⟨i,j,rfl,rfl,hz,q⟩:=h;obtain⟨t,rfl⟩:=rx;obtain⟨t',rfl⟩:=ry;exact add_str (λ t' tk=>⟨.str (i++j),H,I.tok _,⟨_,rfl⟩,q⟩) hz
theorem vals1{x:V}{us:List Value}(r:Vals [x] us):∃u,us=[u]/\RelV x u:=by
 cases r with
 |cons r1 r2=>cases r2;exact⟨_,rfl,r1⟩
theorem vals2{x y:V}{us:List Value}(r:Vals [x,y] us):∃u w',us=[u,w']/\RelV x u/\RelV y w':=by
 cases r with
 |cons r1 r2=>
  cases r2 with
  |cons r3 r4=>cases r4;exact⟨_,_,rfl,r1,r3⟩
theorem Ig:bF X (.builtin "abs") (λ xs H Q=>∃i,xs=[.int i]/\Q (.int (if i<0 then-i else i)) H):=by
 intro pins s σ H xs us Q I r h;obtain⟨i,rfl,q⟩:=h;obtain⟨u,rfl,t,rfl⟩:=vals1 r;exact call_abs_int λ u tk=>⟨.int (if i<0 then-i else i),H,I.tok _,⟨_,rfl⟩,q⟩
theorem Gv(hc:X.calm=true):bF X (.builtin "max") (λ xs H Q=>∃i j,xs=[.int i,.int j]/\Q (.int (if j>i then j else i)) H):=by
 intro pins s σ H xs us Q I r h;obtain⟨i,j,rfl,q⟩:=h;obtain⟨u,w',rfl,⟨t,rfl⟩,⟨t',rfl⟩⟩:=vals2 r;refine max_two_ints (I.ok.hd hc) λ h' tk k=>⟨_,H,I.kept k,?_,q⟩
 by_cases hj:j>i
 . rw[UA hj,UA hj];exact⟨_,rfl⟩
 . rw[Uy hj,Uy hj];exact⟨_,rfl⟩
theorem GA:bF X (.type "int") (λ xs H Q=>(∃i,xs=[.int i]/\Q (.int i) H)\/∃k,xs=[.bl k]/\Q (.int (if k then 1 else 0)) H):=by
 intro pins s σ H xs us Q I r h;rcases h with⟨i,rfl,q⟩|⟨k,rfl,q⟩
 . obtain⟨u,rfl,t,rfl⟩:=vals1 r;exact call_int_int ⟨.int i,H,I,⟨_,rfl⟩,q⟩
 . obtain⟨u,rfl,r1⟩:=vals1 r;cases r1;exact call_int_bool ⟨.int (if k then 1 else 0),H,I.tok _,⟨_,rfl⟩,q⟩
end
structure uC(h:Heap)(x dx C:Addr)(mA:Str->Option Value):Prop where
 obj:h.get? x=some (PySem.W.instObj C dx)
 ns:h.Ns1 dx mA
 ne:dx≠x
theorem GZ{h:Heap}{dx:Addr}{mA:Str->Option Value}(n:h.Ns1 dx mA):∃od,h.get? dx=some od/\∀name,PySem.W.lookIn name od=some (mA name):=by
 obtain⟨o,es,ep,ho,hd,hk,_,hm⟩:=n;refine⟨o,ho,λ name=>?_⟩;have e:=hm name;unfold nsFind findBy at e;rw[<-Array.find?_toList]at e;unfold PySem.W.lookIn;rw[hd];dsimp only;split
 . rename_i y q;rw[q]at e;exact Vk some e
 . rename_i q;rw[q]at e
   have a:es.toList.any (·.refKey)=false:=by
    rw[Yk];intro y hy;obtain⟨z,t,hkey⟩:=hk y (Array.mem_toList_iff.mp hy);simp[DictEntry.refKey,hkey]
   have a':¬es.toList.any (·.refKey)=true:=by rw[a];exact Vv
   rw[Uy a'];exact Vk some e
theorem uC.look{h:Heap}{x dx C:Addr}{mA:Str->Option Value}(I:uC h x dx C mA):∃od,PySem.W.InstAt h x (PySem.W.instObj C dx) C (some od)/\∀name,PySem.W.lookIn name od=some (mA name):=
 let⟨od,ho,hl⟩:=GZ I.ns
 ⟨od,⟨I.obj,rfl,rfl,ho⟩,hl⟩
section
variable {prog:Program}{w:World}{A:Around}{E:Value->Shared->Prop}{s:Shared}{K:PySem.W.Frag}{x dx C f:Addr}{mA:Str->Option Value}{name:Str}{v:Value}
theorem get_map{expr:Bool}{Q:Value->Shared->Prop}(X:K.In s.heap)(I:uC s.heap x dx C mA)(hg:PySem.W.plainGet K C name=true)(hh:PySem.W.hasDictIn K C=true)
 (ha:PySem.W.findIn K (.ref C) name=some none) (hv:mA name=some v) (hv':PySem.W.handedIn v=true) (h:Q v {s with toks:=s.toks+1}):
 wpAny (model prog w) A (getAttr (.ref x) name expr) Q E s:=by
 obtain⟨od,J,hl⟩:=I.look;exact PySem.W.get_value X J (XS hg).1 (PySem.W.findObj_own hh ha rfl (by rw[hl,hv])) hv' h
theorem Ii{pl:Sem Bool}{Q:Value×List Value->Shared->Prop}(X:K.In s.heap)(I:uC s.heap x dx C mA)(hg:PySem.W.plainGet K C name=true)
 (hf:PySem.W.findIn K (.ref C) name=some (some (.ref f))) (ht:PySem.W.isFn K (.ref f)=true) (hv:mA name=none) (h:Q (.ref f,[.ref x]) s):
 wpAny (model prog w) A (getMethod (.ref x) name pl) Q E s:=by
 obtain⟨od,J,hl⟩:=I.look;exact PySem.W.method_fn X J (XS hg).1 (XS hg).2 hf (Wq.mp ht) (by show(PySem.W.lookIn name od).map (·.isSome)=some false;rw[hl,hv];rfl) h
theorem kc{ns:List Str}{Q:Unit->Shared->Prop}(X:K.In s.heap)(I:uC s.heap x dx C mA)
 (hs:PySem.W.findIn K (.ref C) "__setattr__"=some (some (.builtin "object.__setattr__"))) (hp:PySem.W.plainOver K C=true) (ht:PySem.W.takerIn K C name=some none) (hh:PySem.W.hasDictIn K C=true)
 (hw:PySem.Within mA ns) (hsz:ns.length<=sizeLine)
 (h:∀h',uC h' x dx C (λ y=>if y=name then some v else mA y)->Heap.SameBut dx s.heap h'->Q () {s with heap:=h',toks:=s.toks+2}):
 wpAny (model prog w) A (setAttr (.ref x) name v) Q E s:=by
 obtain⟨od,J,hl⟩:=I.look;refine PySem.W.set_plain X J hs (PySem.W.osa_open (s:={s with toks:=s.toks+1}) (r:=none) X J hp ht λ b=>?_);obtain⟨cd,hc,hd'⟩:=PySem.W.any_some hh;have hx:s.heap.get? x=some ⟨.ref C,some dx,.plain,#[]⟩:=I.obj;refine Uu (UK (Uu (Uu (wpAny_loadPart hx (Uu (PySem.W.Looks.here (s:={s with toks:=s.toks+1}) (PySem.W.looks_clsIn X hc) ?_))))));rw[hd'];refine UK (a:=some dx) (Uu (UK (Uu ?_)));refine wpAny_nsSet1 (s:={s with toks:=s.toks+1}) I.ns λ h' hn2 hs2=>?_;obtain⟨oD,esD,epD,hoD,hdD,hcD⟩:=hn2.count (PySem.Within.cons name v hw);refine Uu (wpAny_lookBehind hoD (by rw[hdD];exact pastItsLine_dict (UG hcD (by rw[Vh];lia))) ?_);exact UK (h _ ⟨(hs2.2 _ (UD I.ne)).trans I.obj,hn2,I.ne⟩ hs2)
theorem JD{R:Result->Shared->Prop}{vs:List Value}{kw:List (Str×Value)}(X:K.In s.heap)(hm:PySem.W.makesIn K C=true)
 (hi:PySem.W.findIn K (.ref C) "__init__"=some (some (.ref f))) (hf:PySem.W.typeIn K (.ref f)=some (.type "function"))
 (h:codeAny (model prog w) (A.under (.builtin "type.__call__" ⟨.ref C::vs,kw⟩)) (.call (.ref f) ⟨.ref (s.heap.objs.size+1)::vs,kw⟩) (PySem.W.InitBack (s.heap.objs.size+1) R)
   {s with heap:=(s.heap.push PySem.W.emptyDict).push (PySem.W.instObj C s.heap.objs.size)}):
 codeAny (model prog w) A (.call (.ref C) ⟨vs,kw⟩) R s:=by
 obtain⟨hh,g,d,t,os⟩:=s;exact PySem.W.make_core (PySem.W.makes_of X hm) (PySem.W.looks_findIn X hi) (λ self=>PySem.W.bind_fn X self hf) (.inl rfl) h
end
def fY(f:Str)(v:V):List (Str×V)->List (Str×V)
 | []=>[(f,v)]
 |(g,x)::r=>if g=f then(g,v)::r else(g,x)::fY f v r
theorem sL(f g:Str)(v:V):∀fs:List (Str×V),(fY f v fs).lookup g=if g=f then some v else fs.lookup g
 | []=>by
   show List.lookup g [(f,v)]=_;by_cases h:g=f
   . have hb:(g==f)=true:=Wq.mpr h;simp only[List.lookup,hb,UA h]
   . have hb:(g==f)=false:=Wn.mpr h;simp only[List.lookup,hb,Uy h]
 |(k,x)::r=>by
  have ih:=sL f g v r;rw[show fY f v ((k,x)::r)=(if k=f then(k,v)::r else(k,x)::fY f v r)from rfl];by_cases hk:k=f
  . rw[UA hk];by_cases h:g=k
    . have hb:(g==k)=true:=Wq.mpr h;simp only[List.lookup,hb,UA (h.trans hk)]
    . have hb:(g==k)=false:=Wn.mpr h;simp only[List.lookup,hb,Uy (λ e:g=f=>h (e.trans hk.symm))]
  . rw[Uy hk];by_cases h:g=k
    . have hb:(g==k)=true:=Wq.mpr h;simp only[List.lookup,hb,Uy (λ e:g=f=>hk (h.symm.trans e))]
    . have hb:(g==k)=false:=Wn.mpr h;simp only[List.lookup,hb];exact ih
theorem qC(f:Str)(v:V):∀fs:List (Str×V),f∈(fY f v fs).map (·.1)/\∀g,g∈fs.map (·.1)->g∈(fY f v fs).map (·.1)
 | []=>⟨by simp[fY],λ g h=>by simp at h⟩
 |(k,x)::r=>by
  obtain⟨i1,i2⟩:=qC f v r;rw[show fY f v ((k,x)::r)=(if k=f then(k,v)::r else(k,x)::fY f v r)from rfl];by_cases hk:k=f
  . rw[UA hk];subst hk;exact⟨by simp,λ g h=>by simpa using h⟩
  . rw[Uy hk];refine⟨?_,λ g h=>?_⟩
    . rw[Va];exact UQ _ i1
    . rw[Va]at h⊢;rcases UT.mp h with e|e
      . exact UT.mpr (.inl e)
      . exact UQ _ (i2 g e)
theorem tm(f:Str)(v:V):∀fs:List (Str×V),(fY f v fs).length<=fs.length+1
 | []=>by simp[fY]
 |(k,x)::r=>by
  have ih:=tm f v r;rw[show fY f v ((k,x)::r)=(if k=f then(k,v)::r else(k,x)::fY f v r)from rfl];by_cases hk:k=f
  . rw[UA hk,Vh,Vh];lia
  . rw[Uy hk,Vh,Vh];lia
theorem oa.some_of{v:V}{o:Option Value}(r:oa (some v) o):∃u,o=some u/\RelV v u:=by
 cases o with
 |none=>exact(show False from r).elim
 |some u=>exact⟨u,rfl,r⟩
theorem oa.none_of{o:Option Value}(r:oa none o):o=none:=by
 cases o with
 |none=>rfl
 |some u=>exact(show False from r).elim
theorem Hx{v:V}{u:Value}(r:RelV v u):PySem.W.handedIn u=true:=by
 cases v with
 |ay=>cases (show u=Value.none from r);rfl
 |bl b=>cases (show u=Value.bool b from r);rfl
 |int i=>obtain⟨t,e⟩:=(show∃t,u=Value.int i t from r);cases e;rfl
 |str x=>obtain⟨t,e⟩:=(show∃t,u=Value.str x t from r);cases e;rfl
 |s_ b=>obtain⟨t,e⟩:=(show∃t,u=Value.bytes b t from r);cases e;rfl
 |tw b=>obtain⟨t,e⟩:=(show∃t,u=Value.float b t from r);cases e;rfl
 |ref a=>cases (show u=Value.ref a from r);rfl
 |ty n=>cases (show u=Value.type n from r);rfl
section
variable {P:Program}{w:World}{H H':Hp}{h h':Heap}{a C dx:Addr}{fs fs':List (Str×V)}
theorem oG(aC:gv P w H h)(e:H a=some (.ins C dx fs)):∃mA,uC h a dx C mA/\(∀f,oa (fs.lookup f) (mA f))/\PySem.Within mA (fs.map (·.1))/\fs.length<=1000/\H dx=some (.own a):=by
 obtain⟨d,z,ne,ob,mA,n,r,q⟩:=(show df P w H h a (.ins C dx fs)from aC a _ e)
 exact⟨mA,⟨ob,n,ne⟩,r,q,z,d⟩
end
structure kK(K:PySem.W.Frag)(C:Addr):Prop where
 pg:PySem.W.plainGet K C Str.empty=true
 hd:PySem.W.hasDictIn K C=true
 po:PySem.W.plainOver K C=true
 sa:PySem.W.findIn K (.ref C) "__setattr__"=some (some (.builtin "object.__setattr__"))
theorem kK.get{K:PySem.W.Frag}{C:Addr}(c:kK K C)(f:Str):PySem.W.plainGet K C f=true:=c.pg
def fc(K:PySem.W.Frag)(C:Addr)(f:Str):Prop:=PySem.W.findIn K (.ref C) f=some none
theorem fc.QA{K:PySem.W.Frag}{C:Addr}{f:Str}(n:fc K C f):PySem.W.takerIn K C f=some none:=by
 unfold PySem.W.takerIn;rw[show PySem.W.findIn K (.ref C) f=some none from n];rfl
structure Meth(K:PySem.W.Frag)(C:Addr)(m:Str)(f:Addr):Prop where
 at_:PySem.W.findIn K (.ref C) m=some (some (.ref f))
 fn:PySem.W.isFn K (.ref f)=true
 kp:PySem.W.keepIn K (.ref f)=true
section
variable {X:Cx}{pins:List (Addr×Obj)}{σ:St}{H:Hp}{s:Shared}{a C dx:Addr}{fs:List (Str×V)}{f:Str}{v:V}{A:Around}{E:Value->Shared->Prop}
theorem ED{b:Bool}{Q:Value->Shared->Prop}(I:Inv X pins σ H s)(e:H a=some (.ins C dx fs))(c:kK X.K C)(n:fc X.K C f)(l:fs.lookup f=some v)
 (h:∀u s',Inv X pins σ H s'->RelV v u->Q u s'):wpAny (model X.prog X.w) A (getAttr (.ref a) f b) Q E s:=by
 obtain⟨mA,O,r,_,_,_⟩:=oG I.aC e;obtain⟨u,hu,ru⟩:=oa.some_of (v:=v) (o:=mA f) (by rw[<-l];exact r f);exact get_map I.gg O (c.get f) c.hd n hu (Hx ru) (h u _ (I.tok _) ru)
theorem uO{m:Str}{g:Addr}{pl:Sem Bool}{Q:Value×List Value->Shared->Prop}(I:Inv X pins σ H s)(e:H a=some (.ins C dx fs))(c:kK X.K C)(k:Meth X.K C m g)(l:fs.lookup m=none)
 (h:Q (.ref g,[.ref a]) s):wpAny (model X.prog X.w) A (getMethod (.ref a) m pl) Q E s:=by
 obtain⟨mA,O,r,_,_,_⟩:=oG I.aC e;have hn:mA m=none:=oa.none_of (by rw[<-l];exact r m);exact Ii I.gg O (c.get m) k.at_ k.fn hn h
theorem Er{y:V}{u:Value}{Q:Unit->Shared->Prop}(I:Inv X pins σ H s)(e:H a=some (.ins C dx fs))(c:kK X.K C)(n:fc X.K C f)(hl:fs.length<1000)(ry:RelV y u)
 (h:∀s',Inv X pins σ (upd H a (.ins C dx (fY f y fs))) s'->Q () s'):wpAny (model X.prog X.w) A (setAttr (.ref a) f u) Q E s:=by
 obtain⟨mA,O,r,wi,_,ho⟩:=oG I.aC e;have hz:(fs.map (·.1)).length<=sizeLine:=by rw[Uz,Vy];lia
 refine kc I.gg O c.sa c.po n.QA c.hd wi hz λ h' O' sb=>h _ ?_;have hd:∃o,h'.get? dx=some o:=let⟨o,_,_,e',_⟩:=O'.ns;⟨o,e'⟩
 refine I.write (x:=a) (e:=dx) (by rw[e];exact True.intro) (.inr ho) (λ b q hb z=>(sb.2 b hb).trans z) hd ?_;refine⟨by rw[aF O.ne];exact ho,?_,O.ne,O'.obj,_,O'.ns,λ g=>?_,λ g hg=>?_⟩
 . have:=tm f y fs;lia
 . show oa ((fY f y fs).lookup g) (if g=f then some u else mA g);rw[sL];by_cases q:g=f
   . rw[UA q,UA q];exact ry
   . rw[Uy q,Uy q];exact r g
 . by_cases q:g=f
   . rw[q];exact(qC f y fs).1
   . refine(qC f y fs).2 g (wi g λ z=>hg ?_);show(if g=f then some u else mA g)=none;rw[Uy q];exact z
theorem Inv.made(I:Inv X pins σ H s):Inv X pins σ (upd (upd H s.heap.objs.size (.own (s.heap.objs.size+1))) (s.heap.objs.size+1) (.ins C s.heap.objs.size []))
 {s with heap:=(s.heap.push PySem.W.emptyDict).push (PySem.W.instObj C s.heap.objs.size)}:=by
 have e1:(s.heap.push PySem.W.emptyDict).get? s.heap.objs.size=some PySem.W.emptyDict:=UO s.heap rfl
 have e2:((s.heap.push PySem.W.emptyDict).push (PySem.W.instObj C s.heap.objs.size)).get? (s.heap.objs.size+1)=some (PySem.W.instObj C s.heap.objs.size):=by
  have:=UO (s.heap.push PySem.W.emptyDict) (o:=PySem.W.instObj C s.heap.objs.size) rfl;rwa [Vm]at this
 have e3:(s.heap.push PySem.W.emptyDict).Ns s.heap.objs.size (λ _=>none):=⟨PySem.W.emptyDict,#[],_,e1,rfl,(λ e he=>absurd he (by simp)),λ _=>rfl⟩
 have I1:=I.laid (a:=s.heap.objs.size) (o:= .own (s.heap.objs.size+1)) (h':=s.heap.push PySem.W.emptyDict) (t':=s.toks) (λ b u q=>Uv _ q) (UB _) ⟨_,e1⟩;refine I1.laid (a:=s.heap.objs.size+1) (o:= .ins C s.heap.objs.size []) (t':=s.toks) (λ b u q=>Uv _ q) (Y8 (Vm _ _)) ?_;have ne:s.heap.objs.size≠s.heap.objs.size+1:=Vg (WH _);refine⟨by rw[aF ne,a_],VP _,ne,e2,λ _=>none,(Heap.Ns1.of_empty e3).at λ o q=>Uv _ q,λ _=>True.intro,λ y hy=>absurd rfl hy⟩
theorem Ng{prog:Program}{w:World}{env:Env}{e:Expr}{f:Str}{pos:Pos}{s:Shared}{Q:Value->Shared->Prop}(hb:attributeBase e f env (eval e env)=eval e env)
 (h:wpAny (model prog w) A (eval e env) (λ o s₁=>wpAny (model prog w) A (getAttr o f true) Q E s₁) E s):wpAny (model prog w) A (eval (.Attribute e f pos) env) Q E s:=
 Attribute_any_ h (by rw[arm_eval_Attribute,hb])
end
def SS(K:PySem.W.Frag)(ta:TE)(f:Str):TE:=λ σ H Q=>ta σ H λ x H1=>∃a C dx fs v,x= .ref a/\H1 a=some (.ins C dx fs)/\kK K C/\fc K C f/\fs.lookup f=some v/\Q v H1
def S7(K:PySem.W.Frag)(ta tv:TE)(f:Str):TS:=λ D σ H=>tv σ H λ y H1=>ta σ H1 λ x H2=>∃a C dx fs,x= .ref a/\H2 a=some (.ins C dx fs)/\kK K C/\fc K C f/\fs.length<1000/\
 D.nx σ (upd H2 a (.ins C dx (fY f y fs)))
section
variable {X:Cx}{o e value:Expr}{f:Str}{pos pos' tpos:Pos}{ta tv:TE}
theorem O7(he:PE X e ta)(hb:attributeBase e f X.env (eval e X.env)=eval e X.env):PE X (.Attribute e f pos) (SS X.K ta f):=by
 intro pins s σ H Q I h;refine Ng hb (br (he pins s σ H _ I h) λ u s1 ⟨x,H1,I1,rx,a,C,dx,fs,v,ex,ea,c,n,l,q⟩=>?_);subst ex;obtain rfl:u=Value.ref a:=rx;exact ED I1 ea c n l λ u' s2 I2 ru=>⟨v,H1,I2,ru,q⟩
theorem NX(ha:PE X o ta)(hv:PE X value tv)(hs:swapsWith value (some (.Attribute o f pos')) pos.line X.env=pure false):PS X (.Assign [.Attribute o f pos'] value pos) (S7 X.K ta tv f):=by
 intro pins s σ H D I h;refine plainObj_wpAny_Assign_Attribute (br (hv pins s σ H _ I h) λ u s1 ⟨y,H1,I1,ry,q⟩=>br (ha pins s1 σ H1 _ I1 q) λ ov s2 ⟨x,H2,I2,rx,a,C,dx,fs,ex,ea,c,n,l,q2⟩=>?_) hs;subst ex;obtain rfl:ov=Value.ref a:=rx;exact Er I2 ea c n l ry λ s3 I3=>⟨σ,_,I3,q2⟩
end
section
variable {X:Cx}{pins:List (Addr×Obj)}{σ:St}{H:Hp}{s:Shared}{A:Around}{E:Value->Shared->Prop}{Q:Value->Shared->Prop}{c:Value}{b:Bool}
inductive iL(K:PySem.W.Frag)(H:Hp):V->Value->Prop where
 |ay:iL K H .ay (.type "NoneType")
 |bl (x:Bool):iL K H (.bl x) (.type "bool")
 |int (i:Int):iL K H (.int i) (.type "int")
 |str (x:Str):iL K H (.str x) (.type "str")
 |tw (x:UInt64):iL K H (.tw x) (.type "float")
 |lst {a:Addr} {xs:List V} (e:H a=some (.lst xs)):iL K H (.ref a) (.type "list")
 |iE {a:Addr} {o:Obj} {xs:List V} (e:H a=some (.iE o (.lst xs))):iL K H (.ref a) (.type "list")
 |tup {a:Addr} {xs:List V} (e:H a=some (.tup xs)):iL K H (.ref a) (.type "tuple")
 |dK {a:Addr} {kvs:List (Key×V)} (e:H a=some (.dK kvs)):iL K H (.ref a) (.type "dict")
 |dT {a:Addr} {kvs:List (List Key×V)} (e:H a=some (.dT kvs)):iL K H (.ref a) (.type "dict")
 |ins {a C dx:Addr} {fs:List (Str×V)} (e:H a=some (.ins C dx fs)) (cl:kK K C) (ha:PySem.W.findIn K (.ref C) "__class__"=some (some (.builtin "object.__class__")))
   (hn:PySem.W.specialIn K (.builtin "object.__class__") "__get__"=some (some (.builtin "getset_descriptor.__get__"))) (htk:PySem.W.takesIn K (.builtin "object.__class__")=some true)
   (hm:PySem.W.mroIn K C (.type "object")=some true):iL K H (.ref a) (.ref C)
theorem F6{x:V}{u t:Value}(I:Inv X pins σ H s)(rx:RelV x u)(ty:iL X.K H x t)(e:PySem.W.kitOne X.K t c=some b)(h:∀tk,Q (.bool b) {s with toks:=tk}):
 wpAny (model X.prog X.w) A (call (.builtin "isinstance") [u,c]) Q E s:=by
 cases ty with
 |ay=>cases (show u=Value.none from rx);exact VQ PySem.W.kitx_none I.gg True.intro e (λ z=>nomatch z) h
 |bl y=>cases (show u=Value.bool y from rx);exact VQ PySem.W.kitx_bool I.gg True.intro e (λ z=>nomatch z) h
 |int i=>obtain⟨t,q⟩:=(show∃t,u=Value.int i t from rx);cases q;exact VQ PySem.W.kitx_int I.gg True.intro e (λ z=>nomatch z) h
 |str y=>obtain⟨t,q⟩:=(show∃t,u=Value.str y t from rx);cases q;exact VQ PySem.W.kitx_str I.gg True.intro e (λ z=>nomatch z) h
 |tw y=>obtain⟨t,q⟩:=(show∃t,u=Value.float y t from rx);cases q;exact VQ PySem.W.kitx_float I.gg True.intro e (λ z=>nomatch z) h
 | @lst a xs ea=>
   cases (show u=Value.ref a from rx);obtain⟨_,_,n,_,h1⟩:=(show df X.prog X.w H s.heap a (.lst xs)from I.aC a _ ea)
   exact VQ Xk I.gg ⟨_,h1,rfl⟩ e (λ z=>nomatch z) h
 | @iE a ob xs ea=>
   cases (show u=Value.ref a from rx);obtain⟨_,_,_,n,_,h1⟩:=(show df X.prog X.w H s.heap a (.iE ob (.lst xs))from I.aC a _ ea)
   exact VQ Xk I.gg ⟨_,h1,rfl⟩ e (λ z=>nomatch z) h
 | @tup a xs ea=>
   cases (show u=Value.ref a from rx);obtain⟨_,_,_,p⟩:=(show df X.prog X.w H s.heap a (.tup xs)from I.aC a _ ea)
   obtain⟨o,h1,h2,_⟩:=p;exact VQ PySem.W.kitx_tuple I.gg ⟨o,h1,h2⟩ e (λ z=>nomatch z) h
 | @dK a kvs ea=>
   cases (show u=Value.ref a from rx);obtain⟨_,_,vs,_,p⟩:=(show df X.prog X.w H s.heap a (.dK kvs)from I.aC a _ ea)
   obtain⟨o,es,ep,h1,h2,_⟩:=p;exact VQ Xl I.gg ⟨o,h1,h2.1⟩ e (λ z=>nomatch z) h
 | @dT a kvs ea=>
   cases (show u=Value.ref a from rx);obtain⟨_,_,xs,_,o,es,ep,h1,h2,_⟩:=(show df X.prog X.w H s.heap a (.dT kvs)from I.aC a _ ea)
   exact VQ Xl I.gg ⟨o,h1,h2.1⟩ e (λ z=>nomatch z) h
 | @ins a C dx fs ea cl ha hn htk hm=>
   cases (show u=Value.ref a from rx);obtain⟨mA,O,_⟩:=oG I.aC ea;obtain⟨od,J,_⟩:=O.look;exact VQ (PySem.W.kitx_own (cl.get _) cl.hd ha hn htk hm) I.gg J e (λ z=>nomatch z) h
end
structure cB(k:Nat)(A:Around):Prop where
 hd:A.handled=none
 dp:A.depth+3*k+105<recursionLimit
 un:A.units+16*k+200<cLine
theorem cB.mono{j k:Nat}{A:Around}(r:cB k A)(h:j<=k):cB j A:=⟨r.hd,by have:=r.dp;lia,by have:=r.un;lia⟩
theorem cB.deeper{k:Nat}{A:Around}(r:cB (k+1) A)(env:Env):cB k (A.deeper env):=
 ⟨r.hd,by have:=r.dp;show A.depth+1+3*k+105<_;lia,by have:=r.un;show A.units+3+16*k+200<_;lia⟩
theorem EX{A:Around}{C:Addr}{us:List Value}{kw:List (Str×Value)}:(A.under (.builtin "type.__call__" ⟨.ref C::us,kw⟩)).depth=A.depth+1:=by
 first|rfl|simp[Around.under,Code.weight,Code.isCreation,Code.isGuard,Code.isCaller,Code.frames,Code.isFrame,guardIds]
theorem EN{A:Around}{C:Addr}{us:List Value}{kw:List (Str×Value)}:(A.under (.builtin "type.__call__" ⟨.ref C::us,kw⟩)).units=A.units+1:=by
 first|rfl|simp[Around.under,Code.cUnits,Code.frames,Code.isFrame]
theorem cB.make{k:Nat}{A:Around}(r:cB (k+1) A)(C:Addr)(us:List Value)(kw:List (Str×Value)):cB k (A.under (.builtin "type.__call__" ⟨.ref C::us,kw⟩)):=
 ⟨r.hd,by have:=r.dp;rw[EX];lia,by have:=r.un;rw[EN];lia⟩
theorem cB.depth{k:Nat}{A:Around}(r:cB k A):A.depth<recursionLimit:=by have:=r.dp;lia
theorem cB.units{k:Nat}{A:Around}(r:cB k A):A.units+64<cLine:=by have:=r.un;lia
def Ov:TA:=λ _ H Q=>Q [] H
def QN(ta:TE)(tr:TA):TA:=λ σ H Q=>ta σ H λ x H1=>tr σ H1 λ xs H2=>Q (x::xs) H2
section
variable {X:Cx}{e:Expr}{es:List Expr}{te:TE}{t:TA}{pos:Pos}
theorem OS:PA X [] Ov:=λ _ _ _ _ H Q I h=>Calls.spliced_nil ⟨[],H,I,.nil,h⟩
theorem MJ(ha:PE X e te)(hr:PA X es t)(hs:starEach (e::es) X.env=(false,eval e X.env)::starEach es X.env:=by rfl):PA X (e::es) (QN te t):=by
 intro pos pins s σ H Q I h;rw[hs];show wpAny _ _ (spliced ((false,eval e X.env)::backTo pos (starEach es X.env))) _ _ s;refine Calls.spliced_cons (br (ha pins s σ H _ I h) λ u s1 ⟨x,H1,I1,r1,q1⟩=>?_);exact br (hr pos pins s1 σ H1 _ I1 q1) λ us s2 ⟨xs,H2,I2,r2,q2⟩=>⟨x::xs,H2,I2,.cons r1 r2,q2⟩
def Tq(t:TA):TE:=λ σ H Q=>t σ H λ xs H1=>xs.length<=sizeLine/\∀p,H1 p=none->Q (.ref p) (upd H1 p (.tup xs))
def SW(t:TA):TE:=λ σ H Q=>t σ H λ xs H1=>xs.length<=sizeLine/\∀p,H1 p=none->Q (.ref p) (upd H1 p (.lst xs))
theorem N6{x1}(h:PA X es t):PE X (.Tuple es x1 pos) (Tq t):=by
 intro pins s σ H Q I hq;refine wpAny_Tuple_spliced (br (h pos pins s σ H _ I hq) λ us s1 ⟨xs,H1,I1,r,z,q⟩=>⟨by rw[<-r.length];exact z,?_⟩);have hf:H1 s1.heap.objs.size=none:=I1.aC.fresh (UB _);refine⟨.ref s1.heap.objs.size,upd H1 s1.heap.objs.size (.tup xs),I1.laid (t':=s1.toks) (λ b u e=>Uv _ e) (UB _) ?_,rfl,q _ hf⟩;exact⟨z,us,r,⟨_,UO _ rfl,rfl,_,rfl⟩⟩
theorem Hq(h:PA X es t):PE X (.List es pos) (SW t):=by
 intro pins s σ H Q I hq;refine wpAny_List_spliced (br (h pos pins s σ H _ I hq) λ us s1 ⟨xs,H1,I1,r,z,q⟩=>⟨by rw[<-r.length];exact z,?_⟩);have hf:H1 s1.heap.objs.size=none:=I1.aC.fresh (UB _);refine⟨.ref s1.heap.objs.size,upd H1 s1.heap.objs.size (.lst xs),I1.laid (t':=s1.toks) (λ b u e=>Uv _ e) (UB _) ?_,rfl,q _ hf⟩;exact⟨z,us,0,r,UO _ rfl⟩
end
abbrev Sp:=List V->Hp->VK->XK->Prop
abbrev sM:=List Env->Hp->Shared->XK->Value->Shared->Prop
structure t8(P:Program)(w:World)(K:PySem.W.Frag)(mg:Str->Option Value)(base:Heap)(A:Around)(outer:List Env)(s:Shared)(H:Hp):Prop where
 frames:A.frames=some outer
 mod:Mod K mg base
 bs:∀b o,base.get? b=some o->s.heap.get? b=some o/\H b=none
 vn:base.objs.size<=s.heap.objs.size
 kj:s.heap.FunFrames base outer
 xY:∀b∈oy outer,H b=none
 aC:gv P w H s.heap
 bare:AllBare s.gens
 gt:P.given.tree=none
def CE(outer:List Env)(P:Program)(w:World)(H:Hp)(s:Shared)(Q:VK)(u:Value)(s':Shared):Prop:=
 ∃v H',s'.os=s.os/\AllBare s'.gens/\Un (oy outer) [] H H' s.heap s'.heap/\gv P w H' s'.heap/\RelV v u/\Q v H'
def CR(CX:sM)(outer:List Env)(P:Program)(w:World)(H:Hp)(s:Shared)(Q:VK)(E:XK)(r:Result)(s':Shared):Prop:=
 match r with
 | .ok (.ret u)=>CE outer P w H s Q u s'
 | .ok _=>False
 | .error e=>CX outer H s E e s'
structure c_(P:Program)(w:World)(K:PySem.W.Frag)(mg:Str->Option Value)(base:Heap)(CX:sM)(k:Nat)(f:Addr)(fd:FuncData)(ps:List Str)(sp:Sp):Prop where
 len:∀vs H Q E,sp vs H Q E->vs.length=ps.length
 run:∀(A:Around) (outer:List Env) (s:Shared) (H:Hp) (args:Args) (us:List Value) (vs:List V) (Q:VK) (E:XK),cB k A->t8 P w K mg base A outer s H->BindsTo s fd args (ps.zip us)->Vals vs us->sp vs H Q E->
  codeAny (model P w) A (.call (.ref f) args) (CR CX outer P w H s Q E) s
theorem c_.imp{P:Program}{w:World}{K:PySem.W.Frag}{mg:Str->Option Value}{base:Heap}{CX:sM}{k:Nat}{f:Addr}{fd:FuncData}{ps:List Str}{sp sp':Sp}(F:c_ P w K mg base CX k f fd ps sp)
 (h:∀vs H Q E,sp' vs H Q E->sp vs H Q E):c_ P w K mg base CX k f fd ps sp':=
 ⟨λ vs H Q E q=>F.len vs H Q E (h _ _ _ _ q),λ A outer s H args us vs Q E hr he hb hv hs=>F.run A outer s H args us vs Q E hr he hb hv (h _ _ _ _ hs)⟩
theorem t8.make{P:Program}{w:World}{K:PySem.W.Frag}{mg:Str->Option Value}{base:Heap}{A:Around}{outer:List Env}{s:Shared}{H:Hp}(e:t8 P w K mg base A outer s H)(C:Addr)(us:List Value)(kw:List (Str×Value)):
 t8 P w K mg base (A.under (.builtin "type.__call__" ⟨.ref C::us,kw⟩)) outer s H:=⟨by first|exact e.frames|(simpa[Around.under,Code.envs,Code.isFrame,pushEnvs]using e.frames),e.mod,e.bs,e.vn,e.kj,e.xY,e.aC,e.bare,e.gt⟩
section
variable {X:Cx}{pins:List (Addr×Obj)}{σ:St}{H:Hp}{s s':Shared}
theorem Inv.Pj(I:Inv X pins σ H s):t8 X.prog X.w X.K X.mg X.base X.A X.stack s H:=
 ⟨I.ok.frames,I.ok.mod,I.bs,UG I.ok.vn I.sz,I.stack,I.Cf,I.aC,I.bare,I.ok.gt⟩
theorem Inv.after{Q:VK}{u:Value}(I:Inv X pins σ H s)(h:CE X.stack X.prog X.w H s Q u s'):EP X pins σ Q u s':=by
 obtain⟨v,H',os,bare,un,aC,r,q⟩:=h;obtain⟨hh,g,d,t,os'⟩:=s';obtain rfl:os'=s.os:=os;exact⟨v,H',I.call (h':=hh) (g':=g) (d':=d) (t':=t) (ch:=[]) un aC bare (λ b z=>absurd z (by simp)),r,q⟩
end
def Kf(sp:Sp)(dvs:List V)(E:XK)(t:TA):TE:=λ σ H Q=>t σ H λ vs H1=>sp (vs++dvs) H1 Q E
def DX(C:Addr)(m:Str)(sp:Sp)(dvs:List V)(E:XK)(ta:TE)(t:TA):TE:=λ σ H Q=>ta σ H λ x H1=>∃a dx fs,x= .ref a/\H1 a=some (.ins C dx fs)/\fs.lookup m=none/\
 t σ H1 λ vs H2=>sp (x::(vs++dvs)) H2 Q E
def KW(C:Addr)(sp:Sp)(dvs:List V)(E:XK)(t:TA):TE:=λ σ H Q=>t σ H λ vs H1=>∀x dx,H1 x=none->H1 dx=none->dx≠x->
 sp (.ref x::(vs++dvs)) (upd (upd H1 dx (.own x)) x (.ins C dx [])) (λ v H2=>v= .ay/\Q (.ref x) H2) E
def Binds(K:PySem.W.Frag)(fd:FuncData)(ps:List Str)(ds:List Value):Prop:=
 ∀(s:Shared) (us:List Value),K.In s.heap->(us++ds).length=ps.length->BindsTo s fd ⟨us,[]⟩ (ps.zip (us++ds))
theorem Binds.all{K:PySem.W.Frag}{fd:FuncData}{ps:List Str}(h:∀us:List Value,us.length=ps.length->bindArgs fd ⟨us,[]⟩=pure (ps.zip us)):Binds K fd ps []:=λ s us _ hl=>by
 rw[VZ]at hl⊢;exact .of_eq (h us hl)
def Passes(CX:sM)(X:Cx)(E:XK):Prop:=∀(pins:List (Addr×Obj)) (σ:St) (H:Hp) (s:Shared) (e:Value) (s':Shared),Inv X pins σ H s->CX X.stack H s E e s'->X.xe e s'
section
variable {X:Cx}{CX:sM}{k:Nat}{f C:Addr}{fd:FuncData}{ps:List Str}{sp:Sp}{dvs:List V}{ds:List Value}{E:XK}{x m:Str}{p pos apos:Pos}{e o:Expr}{es:List Expr}{ta:TE}{t:TA}
theorem Bm{pins:List (Addr×Obj)}{σ:St}{H:Hp}{s:Shared}{Q:VK}{us:List Value}{vs:List V}(F:c_ X.prog X.w X.K X.mg X.base CX k f fd ps sp)(hr:cB k X.A)(hb:Binds X.K fd ps ds)(hd:Vals dvs ds)(hx:Passes CX X E)
 (I:Inv X pins σ H s) (r:Vals vs us) (h:sp (vs++dvs) H Q E):wpAny (model X.prog X.w) X.A (call (.ref f) us) (EP X pins σ Q) X.xe s:=by
 have r2:Vals (vs++dvs) (us++ds):=r.append hd;have hl:(us++ds).length=ps.length:=by rw[<-r2.length];exact F.len _ _ _ _ h
 refine wpAny_call (YA (F.run X.A X.stack s H ⟨us,[]⟩ (us++ds) (vs++dvs) Q E hr I.Pj (hb s us I.gg hl) r2 h) λ r s' hq=>?_);cases r with
 |error e=>exact hx pins σ H s e s' I hq
 |ok fl=>
  cases fl with
  |ret u=>exact I.after hq
  |next=>exact False.elim hq
  |brk=>exact False.elim hq
  |cont=>exact False.elim hq
theorem Me(F:c_ X.prog X.w X.K X.mg X.base CX k f fd ps sp)(hr:cB k X.A)(hg:Gl X x)(hm:X.mg x=some (.ref f))(hk:PySem.W.keepIn X.K (.ref f)=true)(hb:Binds X.K fd ps ds)(hd:Vals dvs ds)(hx:Passes CX X E)
 (ha:PA X (e::es) t) (hdb:(x==("__debug__":Str))=false:=by decide) (he:starEach (e::es) X.env=(false,eval e X.env)::starEach es X.env:=by rfl) (hpl:(backTo pos (starEach es X.env)).any (·.1)=false:=by rfl):
 PE X (.Call (.Name x p) (e::es) [] pos) (Kf sp dvs E t):=by
 intro pins s σ H Q I h;refine Xa (Dj I hg hm ?_ hdb);refine X_ (h₀:=X.base) I.ok.mod.GG hk (br (ha pos pins s σ H _ I h) λ us s1 ⟨vs,H1,I1,r,q⟩=>⟨I1.gg,?_⟩) he hpl;exact Bm F hr hb hd hx I1 r q
theorem Mc{pl:Sem Bool}(he:PE X o ta)(c:kK X.K C)(hm:Meth X.K C m f)(F:c_ X.prog X.w X.K X.mg X.base CX k f fd ps sp)(hr:cB k X.A)(hb:Binds X.K fd ps ds)(hd:Vals dvs ds)(hx:Passes CX X E)(ha:PA X (e::es) t)
 (hst:starEach (e::es) X.env=(false,eval e X.env)::starEach es X.env:=by rfl) (hpl:(backTo pos (starEach es X.env)).any (·.1)=false:=by rfl)
 (ht:eval (.Call (.Attribute o m apos) (e::es) [] pos) X.env=(do
   let ov <-eval o X.env
   standAt apos.atName
   let(f,first) <-holding [ov] (getMethod ov m pl)
   callWith pos f first (backTo pos (starEach (e::es) X.env)) (backToKw pos (keywordEach [] X.env))):=by rfl):
 PE X (.Call (.Attribute o m apos) (e::es) [] pos) (DX C m sp dvs E ta t):=by
 intro pins s σ H Q I h;refine YW (pl:=pl) (br (he pins s σ H _ I h) λ u s1 ⟨x,H1,I1,rx,a,dx,fs,ex,ea,l,q⟩=>?_) ht;subst ex;obtain rfl:u=Value.ref a:=rx;refine uO I1 ea c hm l ?_;refine X_ (first:=[.ref a]) (h₀:=X.base) I.ok.mod.GG hm.kp (br (ha pos pins s1 σ H1 _ I1 q) λ us s2 ⟨vs,H2,I2,r,q2⟩=>⟨I2.gg,?_⟩) hst hpl;exact Bm (us:= .ref a::us) (vs:= .ref a::vs) F hr hb hd hx I2 (.cons rfl r) q2
theorem HQ{pl:Sem Bool}(he:PE X o ta)(c:kK X.K C)(hm:Meth X.K C m f)(F:c_ X.prog X.w X.K X.mg X.base CX k f fd ps sp)(hr:cB k X.A)(hb:Binds X.K fd ps ds)(hd:Vals dvs ds)(hx:Passes CX X E)
 (ht:eval (.Call (.Attribute o m apos) [] [] pos) X.env=(do
   let ov <-eval o X.env
   standAt apos.atName
   let(f,first) <-holding [ov] (getMethod ov m pl)
   callWith pos f first (backTo pos (starEach [] X.env)) (backToKw pos (keywordEach [] X.env))):=by rfl):
 PE X (.Call (.Attribute o m apos) [] [] pos) (DX C m sp dvs E ta Ov):=by
 intro pins s σ H Q I h;refine YW (pl:=pl) (br (he pins s σ H _ I h) λ u s1 ⟨x,H1,I1,rx,a,dx,fs,ex,ea,l,q⟩=>?_) ht;subst ex;obtain rfl:u=Value.ref a:=rx;refine uO I1 ea c hm l ?_;exact PySem.W.callWith_K0 (first:=[.ref a]) I1.gg hm.kp (Bm (us:=[.ref a]) (vs:=[.ref a]) F hr hb hd hx I1 (.cons rfl .nil) q)
structure Mk(K:PySem.W.Frag)(C f:Addr):Prop where
 makes:PySem.W.makesIn K C=true
 init:PySem.W.findIn K (.ref C) "__init__"=some (some (.ref f))
 fn:PySem.W.isFn K (.ref f)=true
 kp:PySem.W.keepIn K (.ref C)=true
theorem HI{pins:List (Addr×Obj)}{σ:St}{H:Hp}{s:Shared}{Q:VK}{us:List Value}{vs:List V}(M:Mk X.K C f)(F:c_ X.prog X.w X.K X.mg X.base CX k f fd ps sp)(hr:cB (k+1) X.A)(hb:Binds X.K fd ps ds)(hd:Vals dvs ds)
 (hx:Passes CX X E) (I:Inv X pins σ H s) (r:Vals vs us)
 (h:∀x dx,H x=none->H dx=none->dx≠x->sp (.ref x::(vs++dvs)) (upd (upd H dx (.own x)) x (.ins C dx [])) (λ v H2=>v= .ay/\Q (.ref x) H2) E):
 wpAny (model X.prog X.w) X.A (call (.ref C) us) (EP X pins σ Q) X.xe s:=by
 have hq:=h (s.heap.objs.size+1) s.heap.objs.size (I.aC.fresh (Nat.le_succ _)) (I.aC.fresh (UB _)) (Vg (WH _));have I2:=Inv.made (C:=C) I;have r2:Vals (V.ref (s.heap.objs.size+1)::(vs++dvs)) (Value.ref (s.heap.objs.size+1)::(us++ds)):= .cons rfl (r.append hd)
 have hl:(Value.ref (s.heap.objs.size+1)::us++ds).length=ps.length:=by
  have e:=r2.length;rw[F.len _ _ _ _ hq]at e;exact e.symm
 refine wpAny_call (JD (f:=f) I.gg M.makes M.init (Wq.mp M.fn) (YA (F.run _ X.stack _ _ ⟨Value.ref (s.heap.objs.size+1)::us,[]⟩ (Value.ref (s.heap.objs.size+1)::(us++ds)) _ _ E (hr.make C us [])
  (I2.Pj.make C us []) (hb _ (Value.ref (s.heap.objs.size+1)::us) I2.gg hl) r2 hq) λ r s' hq'=>?_))
 cases r with
 |error e=>exact hx pins σ _ _ e s' I2 hq'
 |ok fl=>
  cases fl with
  |ret u=>
   obtain⟨v,H',I3,rv,ev,q3⟩:=I2.after hq';subst ev;exact⟨rv,⟨V.ref (s.heap.objs.size+1),H',I3,rfl,q3⟩⟩
  |next=>exact False.elim hq'
  |brk=>exact False.elim hq'
  |cont=>exact False.elim hq'
theorem Mz(M:Mk X.K C f)(F:c_ X.prog X.w X.K X.mg X.base CX k f fd ps sp)(hr:cB (k+1) X.A)(hg:Gl X x)(hm:X.mg x=some (.ref C))(hb:Binds X.K fd ps ds)(hd:Vals dvs ds)(hx:Passes CX X E)
 (ha:PA X (e::es) t) (hdb:(x==("__debug__":Str))=false:=by decide) (he:starEach (e::es) X.env=(false,eval e X.env)::starEach es X.env:=by rfl) (hpl:(backTo pos (starEach es X.env)).any (·.1)=false:=by rfl):
 PE X (.Call (.Name x p) (e::es) [] pos) (KW C sp dvs E t):=by
 intro pins s σ H Q I h;refine Xa (Dj I hg hm ?_ hdb);refine X_ (h₀:=X.base) I.ok.mod.GG M.kp (br (ha pos pins s σ H _ I h) λ us s1 ⟨vs,H1,I1,r,q⟩=>⟨I1.gg,?_⟩) he hpl;exact HI M F hr hb hd hx I1 r q
end
section
variable {X:Cx}{CX:sM}{k:Nat}{f C:Addr}{fd:FuncData}{ps ks:List Str}{sp:Sp}{E:XK}{x m:Str}{p pos apos kpos:Pos}{e o:Expr}{es:List Expr}{kws:List Keyword}{te ta:TE}{t tk:TA}{nm:Option Str}
variable {g:List Value->List Value->List Value}{gV:List V->List V->List V}
end
structure lO(N P:List Str)(sc:Scope):Prop where
 kind:sc.kind= .function
 co:sc.isCoroutine=false
 gen:sc.isGenerator=false
 nd:N.Nodup
 pre:N.take P.length=P
 par:∀x∈P,sc.names.lookup x=some .local\/sc.names.lookup x=some .cell
 NZ:∀y∈sc.names,y.2≠ .free
theorem xB{kindOf:Str->Option NameKind}{x:Str}:∀ {binds:List (Str×Value)} {m:Str->Option Value},(∀v,(x,v)∉binds)->bindL kindOf binds m x=m x
 | [],_,_=>rfl
 |(n,v)::r,m,h=>by
  unfold bindL;rw[xB λ w hw=>h w (UQ _ hw)];split
  . have:x≠n:=by rintro rfl;exact h v UZ
    simp[this]
  . rfl
theorem x6{kindOf:Str->Option NameKind}{x:Str}:∀ {binds:List (Str×Value)} {m:Str->Option Value},(∀v,(x,v)∉binds)->bindC kindOf binds m x=m x
 | [],_,_=>rfl
 |(n,v)::r,m,h=>by
  unfold bindC;rw[x6 λ w hw=>h w (UQ _ hw)];split
  . rfl
  . have:x≠n:=by rintro rfl;exact h v UZ
    simp[this]
theorem xj{kindOf:Str->Option NameKind}{x:Str}{v:Value}:∀ {P:List Str} {vs:List Value} {i:Nat} {m:Str->Option Value},P.Nodup->P[i]?=some x->vs[i]?=some v->kindOf x=some .local->
 bindL kindOf (P.zip vs) m x=some v
 | [],_,_,_,_,h,_,_=>by simp at h
 |_::_,[],_,_,_,_,h,_=>by simp at h
 |p::P,w::vs,0,m,nd,h1,h2,hk=>by
  simp at h1 h2;subst h1;subst h2;show bindL kindOf ((p,w)::P.zip vs) m p=_;unfold bindL;rw[xB λ v hv=>(WN.mp nd).1 (YJ hv).1,UA hk];simp
 |p::P,w::vs,i+1,m,nd,h1,h2,hk=>by
  show bindL kindOf ((p,w)::P.zip vs) m x=_;unfold bindL;exact xj (i:=i) (WN.mp nd).2 (by simpa using h1) (by simpa using h2) hk
theorem xX{kindOf:Str->Option NameKind}{x:Str}{v:Value}:∀ {P:List Str} {vs:List Value} {i:Nat} {m:Str->Option Value},P.Nodup->P[i]?=some x->vs[i]?=some v->kindOf x≠some .local->
 bindC kindOf (P.zip vs) m x=some v
 | [],_,_,_,_,h,_,_=>by simp at h
 |_::_,[],_,_,_,_,h,_=>by simp at h
 |p::P,w::vs,0,m,nd,h1,h2,hk=>by
  simp at h1 h2;subst h1;subst h2;show bindC kindOf ((p,w)::P.zip vs) m p=_;unfold bindC;rw[x6 λ v hv=>(WN.mp nd).1 (YJ hv).1,Uy hk];simp
 |p::P,w::vs,i+1,m,nd,h1,h2,hk=>by
  show bindC kindOf ((p,w)::P.zip vs) m x=_;unfold bindC;exact xX (i:=i) (WN.mp nd).2 (by simpa using h1) (by simpa using h2) hk
def start(N:List Str)(vs:List V):St:=vs.map some++List.replicate (N.length-vs.length) none
def pw(CX:sM)(P:Program)(w:World)(K:PySem.W.Frag)(mg:Str->Option Value)(base:Heap)(N:List Str)(qual:Str)(scope:Scope)(f:Addr)(cd:Value)(A:Around)(outer:List Env)(s:Shared)(H:Hp)(E:XK):Cx where
 prog:=P
 w:=w
 K:=K
 mg:=mg
 base:=base
 A:=A.deeper (envOfC qual scope s.heap.objs.size f cd)
 N:=N
 s₀:=s
 H₀:=H
 env:=envOfC qual scope s.heap.objs.size f cd
 outer:=outer
 stack:=envOfC qual scope s.heap.objs.size f cd::outer
 ex:=[]
 calm:=true
 fn:=λ _=>true
 pn:=[]
 xe:=λ e s'=>wpAny (model P w) (A.deeper (envOfC qual scope s.heap.objs.size f cd)) (leaving (envOfC qual scope s.heap.objs.size f cd) e) (λ _ s''=>CX outer H s E e s'') (λ e' s''=>CX outer H s E e' s'') s'
theorem zH{sc:Scope}{n:Nat}{x:Str}(h:sc.names.lookup x=some .cell):∃c,(cellsFrom n sc.names []).lookup x=some c:=by
 have q:=Wr sc.names n [] (.inl h);exact WI.mp q
theorem Gf{CX:sM}{P:Program}{w:World}{K:PySem.W.Frag}{mg:Str->Option Value}{base:Heap}{N ps:List Str}{qual:Str}{scope:Scope}{f:Addr}{cd:Value}{A:Around}{outer:List Env}{s s1:Shared}{H:Hp}{E:XK}{us:List Value}{vs:List V}
 (S:lO N ps scope) (hd:A.handled=none) (e0:t8 P w K mg base A outer s H) (hl:vs.length=ps.length) (r:Vals vs us)
 (x:InCallC s s.heap.objs.size (bindL (envOfC qual scope s.heap.objs.size f cd).kindOf (ps.zip us) λ _=>none) (cellsFrom (s.heap.objs.size+1) scope.names []) (bindC (envOfC qual scope s.heap.objs.size f cd).kindOf (ps.zip us) λ _=>none) s1):
 Inv (pw CX P w K mg base N qual scope f cd A outer s H E) [] (start N vs) H s1:=by
 have hpl:ps.length<=N.length:=by have:=Vk List.length S.pre;rw[WY]at this;lia
 obtain⟨h1,tk,rfl,hk⟩:=x.done;have noA:∀b:Addr,b∉(pw CX P w K mg base N qual scope f cd A outer s H E).ex:=λ b z=>absurd (show b∈([]:List Addr)from z) (by simp)
 refine⟨⟨e0.mod,S.kind,rfl,rfl,UB _,λ y z c h1 h2=>?_,λ y hy=>?_,λ y c _ h=>?_,λ _=>hd,Around.frames_deeper e0.frames,.inr ⟨rfl,rfl⟩,λ b z=>absurd z (noA b),e0.bs,e0.vn,λ b _ _=>noA b,λ b z=>absurd z (noA b),e0.kj,e0.xY,e0.gt⟩,
  rfl,e0.bare,Un.kept hk,⟨_,x.toInCall.ns,λ i y v h1 h2 h3=>?_⟩,λ y c h=>⟨_,x.cell y c h⟩,e0.aC.fresh (UB _),λ y c h=>?_,λ p hp=>absurd (show p∈([]:List (Addr×Obj))from hp) (by simp),e0.aC.kept hk,?_⟩
 . exact name_of_addr x.apart (VC h1) (VC h2)
 . have hy:scope.names.lookup y=some .cell\/scope.names.lookup y=some .free:=hy;rcases hy with hy|hy
   . exact zH hy
   . exact absurd rfl (S.NZ _ (VC hy))
 . exact Y7 (x.above y c (VC h))
 . have hi:i<vs.length:=by
    unfold start at h2;by_cases hi:i<vs.length
    . exact hi
    . rw[U0 (by simpa using hi)]at h2;rw[YI]at h2;split at h2<;>cases h2
   have ha:vs[i]?=some v:=by
    unfold start at h2;rw[UC (by simpa using hi),UM]at h2;cases e:vs[i]? with
    |none=>rw[e]at h2;cases h2
    |some a=>rw[e]at h2;cases h2;rfl
   obtain⟨u,hu,rv⟩:=r.get ha
   have hp:ps[i]?=some y:=by
    rw[<-S.pre,YB (by lia)];exact h1
   have ndP:ps.Nodup:=by rw[<-S.pre];exact S.nd.sublist (List.take_sublist _ _)
   refine⟨u,rv,?_⟩;rcases S.par y (U8 hp)with k|k
   . exact .inl ⟨k,xj ndP hp hu k⟩
   . obtain⟨c,e⟩:=zH (n:=s.heap.objs.size+1) k;refine .inr ⟨.inl k,c,e,?_⟩;have q:=x.cell y c e;rw[xX ndP hp hu (by show scope.names.lookup y≠_;rw[k];decide)]at q;exact q
 . exact e0.aC.fresh (Y7 (x.above y c (VC h)))
 . unfold start;show _=N.length;rw[V1,Uz,List.length_replicate];lia
theorem Qr{CX:sM}{P:Program}{w:World}{K:PySem.W.Frag}{mg:Str->Option Value}{base:Heap}{k:Nat}{f:Addr}{name qual:Str}{params:Arguments}{body:List Stmt}{scope:Scope}{dV kV doc pm cdv ct oc:Value}{an od:Option Addr}
 {osl:Array (Option Value)} {N ps:List Str} {sp:Sp} (lk:K.lookup f=some ⟨oc,od,.func (PySem.W.fnOf name qual params body scope dV kV doc pm an cdv ct),osl⟩) (hcd:PySem.W.codeIn K cdv qual=true) (S:lO N ps scope)
 (len:∀vs H Q E,sp vs H Q E->vs.length=ps.length)
 (hbody:∀(A:Around) (outer:List Env) (s:Shared) (H:Hp) (vs:List V) (Q:VK) (E:XK),cB k (A.deeper (envOfC qual scope s.heap.objs.size f cdv))->sp vs H Q E->
   ∃t,gf (pw CX P w K mg base N qual scope f cdv A outer s H E) body t/\t {nx:=λ _ H'=>Q .ay H',rt:=Q} (start N vs) H):
 c_ P w K mg base CX (k+1) f (PySem.W.fnOf name qual params body scope dV kV doc pm an cdv ct) ps sp:=by
 refine⟨len,λ A outer s H args us vs Q E hr e0 hb r hsp=>?_⟩;have hl:=len _ _ _ _ hsp;have KX:K.In s.heap:=e0.mod.GG.keeps λ b o e=>(e0.bs b o e).1;have lim:s.heap.NoLimit:=e0.mod.nolimit.keeps λ b o e=>(e0.bs b o e).1
 have hkind:∀y∈ps.zip us,scope.names.lookup y.1=some .local\/(scope.names.lookup y.1=some .cell/\((cellsFrom (s.heap.objs.size+1) scope.names []).lookup y.1).isSome=true):=λ⟨n,v⟩ hy=>by
  rcases S.par n (YJ hy).1 with q|q
  . exact .inl q
  . exact .inr ⟨q,Wr _ _ _ (.inl q)⟩
 refine codeAny_call_function hr.depth (KX _ _ lk) rfl S.co S.gen rfl (PySem.W.codeRec_of KX hcd) (hb _ _ _ _ ?_);refine wpAny_newFunctionEnv_cells S.kind hkind λ env he s1 x=>?_;subst he;refine⟨lim.keeps x.toInCall.keep,codeAny_func ?_⟩;obtain⟨t,ht,hq⟩:=hbody A outer s H vs Q E (hr.deeper _) hsp;have I:Inv (pw CX P w K mg base N qual scope f cdv A outer s H E) [] (start N vs) H s1:=Gf S hr.hd e0 hl r x;refine Wo (ht [] s1 (start N vs) H _ I hq) (λ fl s' hs=>?_) λ e s' hs=>hs
 have fin:∀ {σ':St} {H':Hp} {v:V} {u:Value},Inv (pw CX P w K mg base N qual scope f cdv A outer s H E) [] σ' H' s'->RelV v u->Q v H'->CE outer P w H s Q u s':=
  λ{σ' H' v u} J rv q=>⟨v,H',J.os,J.bare,J.base,J.aC,rv,q⟩
 cases fl with
 |ret u=>
  obtain⟨v,σ',H',J,rv,q⟩:=hs;exact fin J rv q
 |next=>
  obtain⟨σ',H',J,q⟩:=hs;exact fin (v:=V.ay) (u:=Value.none) J rfl q
 |brk=>
  obtain⟨_,_,_,q⟩:=hs;exact False.elim q
 |cont=>
  obtain⟨_,_,_,q⟩:=hs;exact False.elim q
section
variable {X:Cx}{x:Str}{p pos:Pos}{e:Expr}{es:List Expr}{t:TA}{id T:String}{r:List V->Hp->VK->Prop}
def Pq(r:List V->Hp->VK->Prop)(t:TA):TE:=λ σ H Q=>t σ H λ vs H1=>r vs H1 Q
theorem JF(hc:bF X (.builtin id) r)(hg:Gl X x)(hm:X.mg x=none)(hv:bootBuiltins x=some (.builtin id))(ha:PA X (e::es) t)(hn:x≠"__name__":=by decide)(hdb:(x==("__debug__":Str))=false:=by decide)
 (he:starEach (e::es) X.env=(false,eval e X.env)::starEach es X.env:=by rfl) (hpl:(backTo pos (starEach es X.env)).any (·.1)=false:=by rfl):PE X (.Call (.Name x p) (e::es) [] pos) (Pq r t):=by
 intro pins s σ H Q I h;refine Xa (kO I hg hm hv ?_ hn hdb);exact PyProof.Rows.callWith_builtin1 (br (ha pos pins s σ H _ I h) λ us s1 ⟨vs,H1,I1,r1,q1⟩=>hc pins s1 σ H1 vs us Q I1 r1 q1) he hpl
theorem Hb(hc:bF X (.type T) r)(hg:Gl X x)(hm:X.mg x=none)(hv:bootBuiltins x=some (.type T))(ha:PA X (e::es) t)(hn:x≠"__name__":=by decide)(hdb:(x==("__debug__":Str))=false:=by decide)
 (he:starEach (e::es) X.env=(false,eval e X.env)::starEach es X.env:=by rfl) (hpl:(backTo pos (starEach es X.env)).any (·.1)=false:=by rfl):PE X (.Call (.Name x p) (e::es) [] pos) (Pq r t):=by
 intro pins s σ H Q I h;refine Xa (kO I hg hm hv ?_ hn hdb);exact VT (br (ha pos pins s σ H _ I h) λ us s1 ⟨vs,H1,I1,r1,q1⟩=>hc pins s1 σ H1 vs us Q I1 r1 q1) he hpl
end
end L2
namespace HT
open PySem PyProof.Rows
section
open PySem.SeqAt
open PySem.AutoSeq1 (wpAny_loadPart')
open PySem.MeetsSeq PySem.MeetsSeq2 PySem.MeetsSeq3
end
section
variable {prog:Program}{w:World}{A:Around}{E:Value->Shared->Prop}{s:Shared}
theorem MQ{t b:Addr}{vs ws:List Value}{Q:Value->Shared->Prop}(ht:IsTup s.heap t vs.toArray)(hb:IsTup s.heap b ws.toArray)(hv:vs≠ [])
 (h1:ws=[]->Q (.ref t) s) (h2:ws≠ []->Q (.ref s.heap.objs.size) {s with heap:=s.heap.push {cls:= .type "tuple",data:= .seq (vs++ws).toArray}})
 (hsz:vs.length+ws.length<=sizeLine):wpAny (model prog w) A (binaryOp .Add (.ref t) (.ref b)) Q E s:=by
 obtain⟨⟨cls,dd,data,sl⟩,ho,hc,n,hd⟩:=id ht;obtain⟨⟨cls2,dd2,data2,sl2⟩,ho2,hc2,n2,hd2⟩:=id hb;simp only at hc hd hc2 hd2;subst hc hd hc2 hd2;have e:vs.toArray++ws.toArray=(vs++ws).toArray:=by simp
 by_cases hw:ws=[]
 . exact Y9 ⟨_,ho,rfl⟩ ⟨_,ho2,rfl⟩ YC Y5 Xp Xi (Xb _ _)
    (tuple_addW1 t b vs.toArray ws.toArray n n2 dd dd2 sl sl2 (by simpa using hv) (by simp[hw])) ⟨ho,ho2,h1 hw⟩
 . refine Y9 ⟨_,ho,rfl⟩ ⟨_,ho2,rfl⟩ YC Y5 Xp Xi (Xb _ _)
    (tuple_addW2 t b vs.toArray ws.toArray n n2 dd dd2 sl sl2 (by simpa using hv) (by simpa using hw) (by rw[UI,UI];exact hsz)) ⟨ho,ho2,?_⟩
   rw[e];exact h2 hw
def bL(n d:Nat):Option Int->Nat
 |none=>d
 |some v=>if v<0 then(v+(n:Int)).toNat else min v.toNat n
theorem t5(n d:Nat):bL n d none=d:=rfl
theorem CM(n d k:Nat):bL n d (some (k:Int))=min k n:=by
 show(if(k:Int)<0 then((k:Int)+(n:Int)).toNat else min (k:Int).toNat n)=min k n;rw[Uy (by lia),U_]
theorem OL(n d:Nat)(hd:d<=n)(o:Option Int):bL n d o<=n:=by
 cases o with
 |none=>exact hd
 |some v=>
  show(if v<0 then(v+(n:Int)).toNat else min v.toNat n)<=n;by_cases hv:v<0
  . rw[UA hv];lia
  . rw[Uy hv];exact Nat.min_le_right _ _
theorem Cq(v:Int)(n d:Nat):(if v<0 then max (v+(n:Int)) 0 else min v (n:Int))=((bL n d (some v):Nat):Int):=by
 show(if v<0 then max (v+(n:Int)) 0 else min v (n:Int))=(((if v<0 then(v+(n:Int)).toNat else min v.toNat n):Nat):Int)
 by_cases hv:v<0
 . simp only[UA hv];lia
 . simp only[Uy hv];lia
theorem DV(lo hi:Option Int)(n:Nat):Builtin.Slice.sliceAdjust lo hi 1 (n:Int)=(((bL n 0 lo:Nat):Int),((bL n n hi:Nat):Int)):=by
 have h1:¬((1:Int)<0):=by lia
 unfold Builtin.Slice.sliceAdjust;simp only[h1,XX];refine Prod.ext ?_ ?_
 . cases lo with
   |none=>rfl
   |some v=>exact Cq v n 0
 . cases hi with
   |none=>rfl
   |some v=>exact Cq v n n
theorem Eo(i j:Nat):Builtin.Slice.slicePlaces (i:Int) (j:Int) 1=j-i:=by
 unfold Builtin.Slice.slicePlaces;have h1:(1:Int)>0:=by lia
 simp only[h1,Wx,Int.ediv_one];split<;>lia
theorem vA{v:Value}{o:Option Int}{Q:Option Int->Shared->Prop}(p:IsPart v o)(h:Q o s):wpAny (model prog w) A (Builtin.Slice.slicePartIndex v) Q E s:=by
 cases p with
 |none=>exact slicePart_none h
 |int i t=>exact slicePart_int h
theorem mK{sl:Addr}{vl vu:Value}{lo hi:Option Int}{n:Nat}{Q:Int×Int×Nat->Shared->Prop}(hs:s.heap.IsSliceOf sl vl vu .none)(pl:IsPart vl lo)(pu:IsPart vu hi)
 (h:Q (((bL n 0 lo:Nat):Int),1,bL n n hi-bL n 0 lo) s):wpAny (model prog w) A (Builtin.Slice.sliceApplied (.ref sl) (pure (n:Int))) Q E s:=by
 obtain⟨os,hos,hcs,hds⟩:=id hs;unfold Builtin.Slice.sliceApplied Builtin.Slice.sliceFields;refine Uu (Uu (Vj hos hds (x:=vl) rfl (Uu (Vj hos hds (x:=vu) rfl (Uu (Vj hos hds (x:= .none) rfl (UK ?_)))))));refine Uu (slicePart_none ?_);show wpAny _ _ (if((1:Int)==0)=true then _ else _) _ _ s;rw[Uy (by decide)];refine Uu (vA pl (Uu (vA pu (Uu (UK ?_)))));show wpAny _ _ (match Builtin.Slice.sliceAdjust lo hi 1 (n:Int)with|(lo,hi)=>pure (lo,(1:Int),Builtin.Slice.slicePlaces lo hi 1)) _ _ s;rw[DV lo hi n];show wpAny _ _ (pure (((bL n 0 lo:Nat):Int),(1:Int),Builtin.Slice.slicePlaces ((bL n 0 lo:Nat):Int) ((bL n n hi:Nat):Int) 1)) _ _ s;rw[Eo];exact UK h
theorem IL(xs:Array Value)(i k:Nat):((List.range k).filterMap λ(m:Nat)=>xs[((i:Int)+(m:Int)*1).toNat]?).toArray=((xs.toList.drop i).take k).toArray:=by
 have e:(λ(m:Nat)=>xs[((i:Int)+(m:Int)*1).toNat]?)=λ m=>xs[i+m]?:=by
  funext m;have:((i:Int)+(m:Int)*1).toNat=i+m:=by lia
  rw[this]
 rw[e];have:=pick_run xs i k;rw[List.filterMap_map]at this;have e2:((λ x=>xs[x]?)∘λ x=>i+x)=λ m=>xs[i+m]?:=rfl;rw[e2]at this;rw[this]
theorem sG{t sl:Addr}{items:Array Value}{vl vu:Value}{lo hi:Option Int}{Q:Value->Shared->Prop}(ht:IsTup s.heap t items)(hs:s.heap.IsSliceOf sl vl vu .none)(pl:IsPart vl lo)(pu:IsPart vu hi)
 (hw:¬(bL items.size 0 lo=0/\bL items.size items.size hi=items.size))
 (h:Q (.ref s.heap.objs.size) {s with heap:=s.heap.push {cls:= .type "tuple",data:= .seq ((items.toList.drop (bL items.size 0 lo)).take (bL items.size items.size hi-bL items.size 0 lo)).toArray}})
 (hsz:items.size<=sizeLine):wpAny (model prog w) A (getItem (.ref t) (.ref sl)) Q E s:=by
 have htake:sizeOk (.seq ((items.toList.drop (bL items.size 0 lo)).take (bL items.size items.size hi-bL items.size 0 lo)).toArray):=by
  show((items.toList.drop (bL items.size 0 lo)).take (bL items.size items.size hi-bL items.size 0 lo)).toArray.size<=sizeLine;rw[UI,WY,YD,XR];lia
 have hj:bL items.size items.size hi<=items.size:=OL _ _ (UB _) hi;obtain⟨os,hos,hcs,hds⟩:=id hs;have hTs:s.TypeIs (.ref sl) "slice":=⟨os,hos,hcs⟩
 unfold getItem;try with_reducible refine W3 ?_
 first|refine Uu (UK ?_)|skip
 refine Uu (wpAny_sequenceKey ht.typeIs (by decide) ?_)
 refine Uu (VI (name:=Str.ofString "__getitem__") ht.typeIs VH
  (Wb VH ht.typeIs entry_tuple_getitem ?_ (args_tuple_getitem _ _)))
 show wpAny _ _ (Builtin.Tuple.tupleItemsOf (.ref t) >>= _) _ _ s;refine Uu (tupleItemsOf_ ht ?_);refine Uu (Y_ hTs ?_);rw[UA (by decide)];refine Uu (mK hs pl pu ?_)
 have hno:¬((((bL items.size 0 lo:Nat):Int)==0&&(1:Int)==1&&(bL items.size items.size hi-bL items.size 0 lo)==items.size)=true):=by
  intro q;rw[UR,UR]at q;have q1:((bL items.size 0 lo:Nat):Int)=0:=eq_of_beq q.1.1;have q2:bL items.size items.size hi-bL items.size 0 lo=items.size:=eq_of_beq q.2;exact hw ⟨by lia,by lia⟩
 show wpAny _ _ (if(((bL items.size 0 lo:Nat):Int)==0&&(1:Int)==1&&(bL items.size items.size hi-bL items.size 0 lo)==items.size)=true then _ else _) _ _ s;rw[Uy hno,IL]
 first
  |exact Uu (m:=Builtin.Tuple.tupleExact _) (Wk (UK ⟨_,rfl,UK h⟩) htake)
  |exact Uu (m:=Builtin.Tuple.tupleExact _) (Wk (Uu (UK (UK ⟨_,rfl,UK h⟩))) htake)
  |exact Uu (Uu (m:=Builtin.Tuple.tupleExact _) (Wk (UK (UK ⟨_,rfl,UK h⟩)) htake))
  |exact Uu (Uu (m:=Builtin.Tuple.tupleExact _) (Wk (UK ⟨_,rfl,UK h⟩) htake))
end
end HT
namespace L2
open PySem PySem.Spec PyProof.Rows
abbrev TO:=St->Hp->(Option Int->Hp->Prop)->Prop
def PO(X:Cx)(e:Option Expr)(t:TO):Prop:=
 ∀(pins:List (Addr×Obj)) (s:Shared) (σ:St) (H:Hp) (Q:Option Int->Hp->Prop),Inv X pins σ H s->t σ H Q->
  wpAny (model X.prog X.w) X.A (evalPart e X.env) (λ u s'=>∃o H',Inv X pins σ H' s'/\IsPart u o/\Q o H') X.xe s
def Nf:TO:=λ _ H Q=>Q none H
def QK(t:TE):TO:=λ σ H Q=>t σ H λ x H1=>∃i,x= .int i/\Q (some i) H1
section
variable {X:Cx}{e:Expr}{te:TE}{lo hi:Option Expr}{tl th:TO}{pos p2:Pos}
theorem Ms:PO X none Nf:=by
 intro pins s σ H Q I h;rw[evalPart_none];exact UK ⟨none,H,I,.none,h⟩
theorem MP(h:PE X e te):PO X (some e) (QK te):=by
 intro pins s σ H Q I hw;rw[evalPart_some];refine br (h pins s σ H _ I hw) λ u s1 ⟨x,H1,I1,r1,q1⟩=>?_;obtain⟨i,rfl,q⟩:=q1;obtain⟨t,rfl⟩:=r1;exact⟨some i,H1,I1,.int i t,q⟩
def Gb(X:Cx)(r:V->Option Int->Option Int->Hp->VK->Prop):Prop:=
 ∀(pins:List (Addr×Obj)) (s:Shared) (σ:St) (H:Hp) (x:V) (v vl vu:Value) (lo hi:Option Int) (sl:Addr) (Q:VK),Inv X pins σ H s->RelV x v->s.heap.IsSliceOf sl vl vu .none->IsPart vl lo->IsPart vu hi->r x lo hi H Q->
  ∃T id,typeLookup (.type T) "__getitem__"=pure (some (.builtin id))/\s.TypeIs v T/\wpAny (model X.prog X.w) X.A (getItem v (.ref sl)) (EP X pins σ Q) X.xe s
def Uk(r:V->Option Int->Option Int->Hp->VK->Prop)(te:TE)(tl th:TO):TE:=λ σ H Q=>te σ H λ x H1=>tl σ H1 λ l H2=>th σ H2 λ u H3=>r x l u H3 Q
theorem IC{r:V->Option Int->Option Int->Hp->VK->Prop}(hr:Gb X r)(he:PE X e te)(hl:PO X lo tl)(hu:PO X hi th):PE X (.Subscript e (.Slice lo hi none p2) pos) (Uk r te tl th):=by
 intro pins s σ H Q I h;refine Subscript_ (br (he pins s σ H _ I h) λ v s1 ⟨x,H1,I1,r1,q1⟩=>?_);refine wpAny_Slice (br (hl pins s1 σ H1 _ I1 q1) λ vl s2 ⟨l,H2,I2,pl,q2⟩=>br (hu pins s2 σ H2 _ I2 q2) λ vu s3 ⟨u,H3,I3,pu,q3⟩=>?_);rw[evalPart_none];refine UK ?_;have I4:Inv X pins σ H3 {s3 with heap:=s3.heap.push {cls:= .type "slice",data:= .fields #[vl,vu,.none]}}:=I3.kept (t':=s3.toks) λ b ob q=>Uv _ q;obtain⟨T,id,hT,ht,hg⟩:=hr pins {s3 with heap:=s3.heap.push {cls:= .type "slice",data:= .fields #[vl,vu,.none]}} σ H3 x v vl vu l u s3.heap.objs.size Q I4 r1 (Heap.IsSliceOf.new ..) pl pu q3;show wpAny (model X.prog X.w) X.A (subscriptTail e (.Slice lo hi none p2) v (.ref s3.heap.objs.size)) (EP X pins σ Q) X.xe {s3 with heap:=s3.heap.push {cls:= .type "slice",data:= .fields #[vl,vu,.none]}};exact tail_any (ops:=[.ref s3.heap.objs.size,v]) ht hT hg (by with_unfolding_all rfl)
def pe(xs:List V)(lo hi:Option Int):List V:=(xs.drop (HT.bL xs.length 0 lo)).take (HT.bL xs.length xs.length hi-HT.bL xs.length 0 lo)
theorem sO(xs:List V)(lo hi:Option Int):(pe xs lo hi).length<=xs.length:=by
 unfold pe;rw[WY,YD];lia
def Tx(K:PySem.W.Frag):V->Option Int->Option Int->Hp->VK->Prop:=λ x lo hi H Q=>∃a xs,x= .ref a/\hJ K H a xs/\
 ¬(HT.bL xs.length 0 lo=0/\HT.bL xs.length xs.length hi=xs.length)/\∀p,H p=none->Q (.ref p) (upd H p (.tup (pe xs lo hi)))
theorem Oy:Gb X (Tx X.K):=by
 intro pins s σ H x v vl vu lo hi sl Q I rx hs pl pu h;obtain⟨a,xs,rfl,hx,hw,q⟩:=h;cases rx;obtain⟨ao,r,ht,hz⟩:=I.tuple hx;have hlen:ao.toArray.size=xs.length:=by rw[UI];exact r.length.symm
 refine⟨"tuple",_,VH.lookup,ht.typeIs,?_⟩;refine HT.sG ht hs pl pu (by rw[hlen];exact hw) ?_ (by rw[hlen];exact hz);rw[hlen];refine⟨.ref s.heap.objs.size,_,I.laid (t':=s.toks) (o:= .tup (pe xs lo hi)) (λ b ob q=>Uv _ q) (UB _) ?_,rfl,q _ (I.aC.fresh (UB _))⟩;exact⟨UG (sO xs lo hi) hz,_,(r.drop (HT.bL xs.length 0 lo)).take (HT.bL xs.length xs.length hi-HT.bL xs.length 0 lo),IsTup.new _ _⟩
def QL(K:PySem.W.Frag):R2:=λ x y H Q=>∃a b xs ys,x= .ref a/\y= .ref b/\hJ K H a xs/\hJ K H b ys/\xs≠ []/\xs.length+ys.length<=sizeLine/\
 (ys=[]->Q (.ref a) H)/\(ys≠ []->∀p,H p=none->Q (.ref p) (upd H p (.tup (xs++ys))))
theorem Vals.sj{xs:List V}{us:List Value}(r:Vals xs us):us=[]↔xs=[]:=by
 cases r with
 |nil=>simp
 |cons _ _=>simp
theorem Mj:bE X (binaryOp .Add) (QL X.K):=by
 intro pins s σ H x y v u Q I rx ry h;obtain⟨a,b,xs,ys,rfl,rfl,ha,hb,hx,hz,q1,q2⟩:=h;cases rx;cases ry;obtain⟨ao,r1,p1,_⟩:=I.tuple ha;obtain⟨its2,r2,p2,_⟩:=I.tuple hb;refine HT.MQ p1 p2 (λ z=>hx (r1.sj.mp z)) (λ z=>⟨.ref a,H,I,rfl,q1 (r2.sj.mp z)⟩) (λ z=>?_) (by rw[<-r1.length,<-r2.length];exact hz);refine⟨.ref s.heap.objs.size,_,I.laid (t':=s.toks) (o:= .tup (xs++ys)) (λ b ob q=>Uv _ q) (UB _) ?_,rfl,q2 (λ w=>z (r2.sj.mpr w)) _ (I.aC.fresh (UB _))⟩;exact⟨by rw[V1];exact hz,_,r1.append r2,IsTup.new _ _⟩
end
def jE(n:Nat)(i:Int):Option Nat:=if 0<=i then(if i<n then some i.toNat else none)else if-(n:Int)<=i then some (i+n).toNat else none
def di{α:Type}(xs:List α)(i:Int):Option α:=(jE xs.length i).bind λ j=>xs[j]?
theorem vW{n:Nat}{i:Int}{j:Nat}(h:jE n i=some j):seqIndex? i n=some j/\j<n/\ -(n:Int)<=i/\i<n:=by
 unfold jE at h;by_cases h0:0<=i
 . rw[UA h0]at h;by_cases h1:i<n
   . rw[UA h1]at h;have e:i.toNat=j:=Vi h;exact⟨by rw[YN h0 h1,e],by lia,by lia,h1⟩
   . rw[Uy h1]at h;cases h
 . rw[Uy h0]at h;by_cases h1: -(n:Int)<=i
   . rw[UA h1]at h;have e:(i+n).toNat=j:=Vi h;exact⟨by rw[seqIndex_neg (by lia) h1,e],by lia,h1,by lia⟩
   . rw[Uy h1]at h;cases h
theorem vT{α:Type}{xs:List α}{i:Int}{v:α}(h:di xs i=some v):∃j,seqIndex? i xs.length=some j/\xs[j]?=some v/\j<xs.length/\ -(xs.length:Int)<=i/\i<xs.length:=by
 unfold di at h;cases e:jE xs.length i with
 |none=>rw[e]at h;cases h
 |some j=>
  rw[e]at h;obtain⟨h1,h2,h3,h4⟩:=vW e;exact⟨j,h1,h,h2,h3,h4⟩
theorem dg{α:Type}{xs:List α}{j:Nat}{v:α}(h:xs[j]?=some v):di xs (j:Int)=some v:=by
 have hj:j<xs.length:=(Uw.mp h).1
 have e:jE xs.length (j:Int)=some j:=by
  unfold jE;rw[UA (by lia),UA (by lia)];simp
 unfold di;rw[e];exact h
theorem HN{α:Type}(xs:List α)(v:α):di (xs++[v]) (-1)=some v:=by
 have hl:(xs++[v]).length=xs.length+1:=by simp
 have e:jE (xs++[v]).length (-1)=some xs.length:=by
  unfold jE;rw[hl,Uy (by decide),UA (by lia)];congr 1;lia
 unfold di;rw[e];show(xs++[v])[xs.length]?=some v;simp
def rY(b:Expr):Prop:=∀o i,subscripted b false o i=operate [o,i] (getItem o i)
def JR(X:Cx)(r:R2):Prop:=
 ∀(value slice:Expr) (pins:List (Addr×Obj)) (s:Shared) (σ:St) (H:Hp) (x y:V) (v u:Value) (Q:VK),Inv X pins σ H s->RelV x v->RelV y u->r x y H Q->
  subscripted slice false v u=operate [v,u] (getItem v u)->wpAny (model X.prog X.w) X.A (subscriptTail value slice v u) (EP X pins σ Q) X.xe s
def Qi(X:Cx)(id:String)(r:V->List V->Hp->VK->Prop):Prop:=
 ∀(pins:List (Addr×Obj)) (s:Shared) (σ:St) (H:Hp) (x:V) (xs:List V) (v:Value) (us:List Value) (Q:VK),Inv X pins σ H s->RelV x v->Vals xs us->r x xs H Q->
  wpAny (model X.prog X.w) X.A (call (.builtin id) (v::us)) (EP X pins σ Q) X.xe s
section
variable {X:Cx}{a b:Expr}{ta tb:TE}{pos:Pos}
theorem QY{r:R2}(hr:JR X r)(ha:PE X a ta)(hb:PE X b tb)(hs:rY b):PE X (.Subscript a b pos) (Fu r ta tb):=by
 intro pins s σ H Q I h;exact Subscript_ (Jy ha hb I h λ v u s2 x y H2 I2 rx ry q=>hr a b pins s2 σ H2 x y v u Q I2 rx ry q (hs _ _))
def Tu(K:PySem.W.Frag):R2:=λ x y H Q=>∃p xs i v,x= .ref p/\y= .int i/\kH K H p xs/\di xs i=some v/\Q v H
def SO(K:PySem.W.Frag):R2:=λ x y H Q=>∃p xs i v,x= .ref p/\y= .int i/\hJ K H p xs/\di xs i=some v/\Q v H
theorem CH:JR X (Tu X.K):=by
 intro value slice pins s σ H x y v u Q I rx ry h hs;obtain⟨p,xs,i,z,rfl,rfl,hq,he,q⟩:=h;cases rx;obtain⟨t,rfl⟩:=ry;obtain⟨ao,r,pl,hz⟩:=I.list hq;obtain⟨j,h1,h2,h3,h4,h5⟩:=vT he;obtain⟨w,ew,rw'⟩:=r.get h2;have hl:=r.length;have hn:=oC;have fin:EP X pins σ Q w s:=⟨z,H,I,rw',q⟩
 by_cases h0:0<=i
 . have hj:i.toNat=j:=by
    rw[YN h0 h5]at h1;exact Vi h1
   exact item_listR pl.isList h0 (by lia) (by rw[hj];simpa using ew) fin hs
 . have hj:(i+(ao.toArray.size:Int)).toNat=j:=by
    rw[seqIndex_neg (by lia) h4]at h1;rw[UI,<-hl];exact Vi h1
   exact subscriptTail_builtinR (x:=w) pl.isList.typeIs slot_list_getitem.lookup
    (wpAny_getItem_list_neg (Q:=λ r s'=>r=w/\EP X pins σ Q r s') pl.isList (by lia) (by rw[UI]<;>lia) (by lia) (by rw[hj];simpa using ew) ⟨rfl,fin⟩) hs
theorem O2:JR X (SO X.K):=by
 intro value slice pins s σ H x y v u Q I rx ry h hs;obtain⟨p,xs,i,z,rfl,rfl,hq,he,q⟩:=h;cases rx;obtain⟨t,rfl⟩:=ry;obtain⟨ao,r,pl,hz⟩:=I.tuple hq;obtain⟨j,h1,h2,h3,h4,h5⟩:=vT he;obtain⟨w,ew,rw'⟩:=r.get h2;have hl:=r.length;have hn:=oC;have fin:EP X pins σ Q w s:=⟨z,H,I,rw',q⟩
 exact subscriptTail_builtinR (x:=w) pl.typeIs slot_tuple_getitem.lookup
  (getItem_tuple (j:=j) (Q:=λ r s'=>r=w/\EP X pins σ Q r s') pl (by lia) (by lia) (by rw[UI,<-hl];exact h1) (by simpa using ew) ⟨rfl,fin⟩) hs
theorem DP(ao:List Value)(n j:Nat)(u:Value):Obj.mapSeq (·.setIfInBounds j u) {cls:= .type "list",data:= .seq ao.toArray n}= {cls:= .type "list",data:= .seq (ao.set j u).toArray n}:=by
 simp[Obj.mapSeq]
theorem Inv.lst{pins:List (Addr×Obj)}{σ:St}{H:Hp}{s:Shared}{p:Addr}{xs:List V}(I:Inv X pins σ H s)(h:H p=some (.lst xs)):
 ∃(ao:List Value) (n:Nat),Vals xs ao/\s.heap.get? p=some {cls:= .type "list",data:= .seq ao.toArray n}/\xs.length<=sizeLine:=by
 obtain⟨z,ao,n,r,e⟩:=I.aC p _ h;exact⟨ao,n,r,e,z⟩
theorem Inv.PY{pins:List (Addr×Obj)}{σ:St}{H:Hp}{s:Shared}{p:Addr}{xs ys:List V}{ao its':List Value}{n n':Nat}{f:Obj->Obj}(I:Inv X pins σ H s)(h:H p=some (.lst xs))
 (ho:s.heap.get? p=some {cls:= .type "list",data:= .seq ao.toArray n}) (hf:f {cls:= .type "list",data:= .seq ao.toArray n}= {cls:= .type "list",data:= .seq its'.toArray n'}) (r:Vals ys its') (hz:ys.length<=sizeLine) (t:Nat):
 Inv X pins σ (upd H p (.lst ys)) {s with heap:=s.heap.update p f,toks:=t}:=by
 have e:(s.heap.update p f).get? p=some {cls:= .type "list",data:= .seq its'.toArray n'}:=by
  rw[Xy f ho (by rw[hf]<;>rfl),hf]
 refine I.write (x:=p) (e:=p) (by rw[h];trivial) (.inl rfl) (λ b u hb q=>(YO _ _ (UD hb)).trans q) ⟨_,e⟩ ?_;exact⟨hz,its',n',r,e⟩
def uL:V->V->V->Hp->(Hp->Prop)->Prop:=λ o i v H Q=>∃p xs k j,o= .ref p/\i= .int k/\H p=some (.lst xs)/\jE xs.length k=some j/\Q (upd H p (.lst (xs.set j v)))
theorem set_list:Jb X uL:=by
 intro pins s σ H o i v ov iv u Q I ro ri rv h;obtain⟨p,xs,k,j,rfl,rfl,hp,hj,q⟩:=h;cases ro;obtain⟨t,rfl⟩:=ri;obtain⟨ao,n,r,ho,hz⟩:=I.lst hp;obtain⟨h1,h2,h3,h4⟩:=vW hj;have hl:=r.length;have hn:=oC
 have I':Inv X pins σ (upd H p (.lst (xs.set j v))) {s with heap:=s.heap.update p (Obj.mapSeq (·.setIfInBounds j u))}:=
  I.PY hp ho (DP ao n j u) (r.set rv j) (by rw[US];exact hz) s.toks
 by_cases h0:0<=k
 . have hk:k.toNat=j:=by
    rw[YN h0 h4]at h1;exact Vi h1
   exact PySem.W.ki_setAt ho h0 (by lia) (by rw[UI,<-hl];exact h4) (by rw[hk];exact⟨_,I',q⟩)
 . have hk:(k+(ao.toArray.size:Int)).toNat=j:=by
    rw[seqIndex_neg (by lia) h3]at h1;rw[UI,<-hl];exact Vi h1
   exact PySem.W.ki_setBack ho (by lia) (by rw[UI,<-hl];exact h3) (by lia) (by rw[hk];exact⟨_,I',q⟩)
theorem Ar(lo hi:Option Int)(n:Nat):(sliceBounds lo hi none n).1=((HT.bL n 0 lo:Nat):Int)/\(sliceBounds lo hi none n).2.1=((HT.bL n n hi:Nat):Int)/\(sliceBounds lo hi none n).2.2=1:=by
 refine⟨?_,?_,rfl⟩
 . cases lo with
   |none=>simp[sliceBounds,HT.bL]
   |some i=>
    simp only[sliceBounds,HT.bL,Option.getD_none,show(1:Int)>0 by decide,Wx];by_cases h:i<0
    . simp only[h,Wx]<;>lia
    . simp only[h,XX]<;>lia
 . cases hi with
   |none=>simp[sliceBounds,HT.bL]
   |some i=>
    simp only[sliceBounds,HT.bL,Option.getD_none,show(1:Int)>0 by decide,Wx];by_cases h:i<0
    . simp only[h,Wx]<;>lia
    . simp only[h,XX]<;>lia
theorem yd(ao:List Value)(lo hi:Option Int):slicePick ao.toArray lo hi none=((ao.drop (HT.bL ao.length 0 lo)).take (HT.bL ao.length ao.length hi-HT.bL ao.length 0 lo)).toArray:=by
 obtain⟨h1,h2,h3⟩:=Ar lo hi ao.toArray.size;unfold slicePick;rw[h1,h2,h3];simp only[sliceRange_one,pick_run,UI]<;>rfl
def Tj(K:PySem.W.Frag):V->Option Int->Option Int->Hp->VK->Prop:=λ x lo hi H Q=>∃a xs,x= .ref a/\kH K H a xs/\∀p,H p=none->Q (.ref p) (upd H p (.lst (pe xs lo hi)))
theorem Cp:Gb X (Tj X.K):=by
 intro pins s σ H x v vl vu lo hi sl Q I rx hs pl pu h;obtain⟨a,xs,rfl,hx,q⟩:=h;cases rx;obtain⟨ao,r,ht,hz⟩:=I.list hx;have hlen:=r.length;refine⟨"list",_,slot_list_getitem.lookup,ht.isList.typeIs,?_⟩;refine wpAny_getItem_list_slice ht.isList hs pl pu .none (by simp) ?_ (by rw[UI]<;>lia);rw[yd,<-hlen];refine⟨.ref s.heap.objs.size,_,I.laid (t':=s.toks) (o:= .lst (pe xs lo hi)) (λ b ob q=>Uv _ q) (UB _) ?_,rfl,q _ (I.aC.fresh (UB _))⟩;exact⟨UG (sO xs lo hi) hz,_,0,(r.drop (HT.bL xs.length 0 lo)).take (HT.bL xs.length xs.length hi-HT.bL xs.length 0 lo),UO _ rfl⟩
theorem zW:bF X (.builtin "len") (λ xs H Q=>∃p ys,xs=[.ref p]/\(kH X.K H p ys\/hJ X.K H p ys)/\Q (.int ys.length) H):=by
 intro pins s σ H xs us Q I r h;obtain⟨p,ys,rfl,hq,q⟩:=h;obtain⟨u,rfl,rx⟩:=vals1 r;cases rx;have hn:=oC;rcases hq with hq|hq
 . obtain⟨ao,r',pl,hz⟩:=I.list hq;have hlen:=r'.length;exact Calls.call_len_list pl.isList (by simp only[UI]<;>lia) ⟨.int ys.length,H,I.tok _,⟨s.toks+1,by rw[UI,hlen]⟩,q⟩
 . obtain⟨ao,r',pl,hz⟩:=I.tuple hq;have hlen:=r'.length;exact len_tuple pl (by simp only[UI]<;>lia) ⟨.int ys.length,H,I.tok _,⟨s.toks+1,by rw[UI,hlen]⟩,q⟩
theorem zY:bF X (.builtin "len") (λ xs H Q=>∃z,xs=[.str z]/\z.length<=sizeLine/\Q (.int z.length) H):=by
 intro pins s σ H xs us Q I r h;obtain⟨z,rfl,hz,q⟩:=h;obtain⟨u,rfl,t,rfl⟩:=vals1 r;have hn:=oC;exact len_str (by lia) ⟨.int z.length,H,I.tok _,⟨_,rfl⟩,q⟩
theorem rF:bF X (.type "list") (λ xs H Q=>∃p ys,xs=[.ref p]/\(kH X.K H p ys\/hJ X.K H p ys)/\∀l,H l=none->Q (.ref l) (upd H l (.lst ys))):=by
 intro pins s σ H xs us Q I r h;obtain⟨p,ys,rfl,hq,q⟩:=h;obtain⟨u,rfl,rx⟩:=vals1 r;cases rx
 have fin:∀(ao:List Value),Vals ys ao->ys.length<=sizeLine->∀(h':Heap) (c':Nat),(∀b o',s.heap.get? b=some o'->h'.get? b=some o')->
  h'.get? s.heap.objs.size=some {cls:= .type "list",dict:=none,data:= .seq ao.toArray c',slots:= #[]}->EP X pins σ Q (.ref s.heap.objs.size) {s with heap:=h'}:=λ ao r' hz h' c' kp e=>
  ⟨.ref s.heap.objs.size,_,I.laid (t':=s.toks) kp (UB _) (show df X.prog X.w _ h' _ (.lst ys)from⟨hz,ao,c',r',e⟩),rfl,q _ (I.aC.fresh (UB _))⟩
 rcases hq with hq|hq
 . obtain⟨ao,r',pl,hz⟩:=I.list hq;have hlen:=r'.length;obtain⟨o,ho,hc,n,hd⟩:=pl.isList;exact call_list_seq p (.inl rfl) ho hc hd (λ h' c' kp e=>fin ao r' hz h' c' kp e) (by simp only[UI]<;>lia)
 . obtain⟨ao,r',pl,hz⟩:=I.tuple hq;have hlen:=r'.length;obtain⟨o,ho,hc,n,hd⟩:=pl;exact call_list_seq p (.inr rfl) ho hc hd (λ h' c' kp e=>fin ao r' hz h' c' kp e) (by simp only[UI]<;>lia)
theorem yq:bF X (.type "tuple") (λ xs H Q=>∃p ys,xs=[.ref p]/\((kH X.K H p ys/\∀l,H l=none->Q (.ref l) (upd H l (.tup ys)))\/(hJ X.K H p ys/\Q (.ref p) H))):=by
 intro pins s σ H xs us Q I r h;obtain⟨p,ys,rfl,h⟩:=h;obtain⟨u,rfl,rx⟩:=vals1 r;cases rx;rcases h with⟨hq,q⟩|⟨hq,q⟩
 . obtain⟨ao,r',pl,hz⟩:=I.list hq;have hlen:=r'.length;refine call_tuple_list pl.isList (λ h' kp=>?_) (by simp only[UI]<;>lia);have I1:Inv X pins σ H {s with heap:=h'}:=I.kept (t':=s.toks) kp
   have I2:Inv X pins σ (upd H h'.objs.size (.tup ys)) {s with heap:=h'.push {cls:= .type "tuple",data:= .seq ao.toArray}}:=
    I1.laid (t':=s.toks) (λ b o e=>Uv _ e) (UB _) (show df X.prog X.w _ _ _ (.tup ys)from⟨hz,ao,r',IsTup.new _ _⟩)
   exact⟨.ref h'.objs.size,_,I2,rfl,q _ (I1.aC.fresh (UB _))⟩
 . obtain⟨ao,r',pl,hz⟩:=I.tuple hq;exact call_tuple_same pl ⟨.ref p,H,I,rfl,q⟩
def Qc(K:PySem.W.Frag)(T:String)(x:V)(H:Hp):Prop:=match x with
 | .str _=>T="str"
 | .int _=>T="int"
 | .ref p=>(T="list"/\∃xs,kH K H p xs)\/(T="tuple"/\∃o,K.lookup p=some o/\o.cls= .type "tuple"/\o.dict=none)\/
    (T="dict"/\((∃kvs,H p=some (.dK kvs))\/∃kvs,H p=some (.dT kvs)))\/(T="set"/\∃S n,H p=some (.set S n))
 |_=>False
theorem FP{pins:List (Addr×Obj)}{σ:St}{H:Hp}{s:Shared}{T:String}{x:V}{v:Value}(I:Inv X pins σ H s)(r:RelV x v)(ty:Qc X.K T x H):
 s.TypeIs v T/\∀a,v= .ref a->∃ob,s.heap.get? a=some ob/\ob.dict=none:=by
 cases x with
 |str z=>
  obtain⟨t,rfl⟩:=r;cases (show T="str" from ty);exact⟨typeIs_str s z t,λ _ e=>nomatch e⟩
 |int i=>
  obtain⟨t,rfl⟩:=r;cases (show T="int" from ty);exact⟨Ys s i t,λ _ e=>nomatch e⟩
 |ref p=>
  cases r;rcases ty with⟨rfl,xs,hq⟩|⟨rfl,o,hk,hc,hd⟩|⟨rfl,hk⟩|⟨rfl,S,n,hk⟩
  . obtain⟨ao,_,pl,_⟩:=I.list hq;refine⟨pl.isList.typeIs,λ a e=>?_⟩;cases e;obtain⟨o,n,e,c,hd,_⟩:=pl;exact⟨o,e,hd⟩
  . refine⟨⟨o,I.gg p o hk,hc⟩,λ a e=>?_⟩;cases e;exact⟨o,I.gg _ o hk,hd⟩
  . have z:∃o,s.heap.get? p=some o/\o.ExactDict:=by
     rcases hk with⟨kvs,hk⟩|⟨kvs,hk⟩
     . obtain⟨_,_,_,_,o,_,_,e,ex,_⟩:=I.aC p _ hk;exact⟨o,e,ex⟩
     . obtain⟨_,_,_,_,o,_,_,e,ex,_⟩:=I.aC p _ hk;exact⟨o,e,ex⟩
    obtain⟨o,e,ex⟩:=z;refine⟨⟨o,e,ex.1⟩,λ a e2=>?_⟩;cases e2;exact⟨o,e,ex.2.1⟩
  . obtain⟨o,_,_,_,e,ex,_⟩:=I.aC p _ hk;refine⟨⟨o,e,ex.1⟩,λ a e2=>?_⟩;cases e2;exact⟨o,e,ex.2.1⟩
 |_=>exact False.elim ty
def Jl(K:PySem.W.Frag)(T:String)(r:V->List V->Hp->VK->Prop)(to:TE):TE:=λ σ H Q=>to σ H λ x H1=>Qc K T x H1/\r x [] H1 Q
def Sb(K:PySem.W.Frag)(T:String)(r:V->List V->Hp->VK->Prop)(to:TE)(t:TA):TE:=λ σ H Q=>to σ H λ x H1=>Qc K T x H1/\t σ H1 λ xs H2=>r x xs H2 Q
variable {o e:Expr}{es:List Expr}{to:TE}{t:TA}{name:Str}{apos cpos:Pos}{T id:String}{r:V->List V->Hp->VK->Prop}
theorem FJ(pa:PlainAttrs T)(slot:Slot T name id)(hty:typeOf (.builtin id)=pure (.type "method_descriptor"))(hm:Qi X id r)(ho:PE X o to)
 (hbase:attributeBase o name X.env (eval o X.env)=eval o X.env:=by rfl) (hline:(apos.endLine==cpos.line)=true:=by rfl):PE X (.Call (.Attribute o name apos) [] [] cpos) (Jl X.K T r to):=by
 intro pins s σ H Q I h;refine wpAny_Call_method0_late hbase hline (br (ho pins s σ H _ I h) λ v s1 ⟨x,H1,I1,r1,ty,q1⟩=>?_);obtain⟨h1,h2⟩:=FP I1 r1 ty;exact⟨T,id,pa,slot,hty,h1,h2,YQ rfl (PySem.evalArgs_none (hm pins s1 σ H1 x [] v [] Q I1 r1 .nil q1))⟩
theorem RG(pa:PlainAttrs T)(slot:Slot T name id)(hty:typeOf (.builtin id)=pure (.type "method_descriptor"))(hm:Qi X id r)(ho:PE X o to)(ha:PA X (e::es) t)
 (hbase:attributeBase o name X.env (eval o X.env)=eval o X.env:=by rfl)
 (hfew:((backTo cpos (starEach (e::es) X.env)).all (λ x=> !x.1)&&(backToKw cpos (keywordEach [] X.env)).all (λ x=>x.1.isSome)
   &&decide ((e::es).length+([]:List Keyword).length+(if([]:List Keyword).isEmpty then 0 else 1)<30))=true:=by rfl)
 (hline:(apos.endLine==cpos.line)=true:=by rfl) (hs:starEach (e::es) X.env=(false,eval e X.env)::starEach es X.env:=by rfl) (hplain:(backTo cpos (starEach es X.env)).any (·.1)=false:=by rfl):
 PE X (.Call (.Attribute o name apos) (e::es) [] cpos) (Sb X.K T r to t):=by
 intro pins s σ H Q I h;refine wpAny_Call_method_late hbase hfew hline rfl (br (ho pins s σ H _ I h) λ v s1 ⟨x,H1,I1,r1,ty,q1⟩=>?_);obtain⟨h1,h2⟩:=FP I1 r1 ty;refine⟨T,id,pa,slot,hty,h1,h2,?_⟩;have hA:=ha cpos pins s1 σ H1 _ I1 q1;rw[hs]at hA⊢;refine YQ (by show(false||(backTo cpos (starEach es X.env)).any (·.1))=false;rw[hplain]<;>rfl) (Calls.evalArgs_plain ?_);exact br hA λ us s2 ⟨vs,H2,I2,r2,q2⟩=>hm pins s2 σ H2 x vs v us Q I2 r1 r2 q2
/-xs.append(e),list.index on a module's tuple .. are Qi facts of 06m-/
end
def Qh(X:Cx)(id:String)(r:V->List V->Hp->VK->Prop):Prop:=
 ∀(pins:List (Addr×Obj)) (s:Shared) (σ:St) (H:Hp) (x:V) (xs:List V) (v:Value) (us:List Value) (Q:VK),Inv X pins σ H s->RelV x v->Vals xs us->r x xs H Q->
  wpAny (model X.prog X.w) X.A (call (.builtin id) (v::us)) (EP X pins σ Q) X.xe s
theorem Vals.one:∀ {x:V} {us:List Value},Vals [x] us->∃u,us=[u]/\RelV x u
 |_,_,.cons r .nil=>⟨_,rfl,r⟩
theorem Vals.zero:∀ {us:List Value},Vals [] us->us=[]
 |_,.nil=>rfl
theorem Vals.dropLast{xs:List V}{us:List Value}(h:Vals xs us):Vals xs.dropLast us.dropLast:=by
 induction h with
 |nil=>exact .nil
 |cons r t ih=>
  cases t with
  |nil=>exact .nil
  |cons q t'=>exact .cons r ih
theorem Vals.rep{xs:List V}{us:List Value}(h:Vals xs us):∀k:Nat,Vals (List.replicate k xs).flatten (List.replicate k us).flatten
 |0=> .nil
 |k+1=>by
  rw[VY,VY,Wl,Wl];exact Vals.append h (Vals.rep h k)
theorem DN{α:Type}(l:List α):l.eraseIdx (l.length-1)=l.dropLast:=by
 induction l with
 |nil=>rfl
 |cons a r ih=>
  cases r with
  |nil=>rfl
  |cons b r=>
   have e:(a::b::r).length-1=((b::r).length-1)+1:=by
    have h1:(a::b::r).length=r.length+2:=rfl;have h2:(b::r).length=r.length+1:=rfl;lia
   rw[e,List.eraseIdx_cons_succ,ih];all_goals rfl
theorem foldl_rep(ao:List Value):∀(k:Nat) (acc:List Value),
 List.foldl (λ x1 x2=>x1++x2) acc.toArray (List.replicate k ao.toArray)=(acc++(List.replicate k ao).flatten).toArray
 |0,acc=>by simp
 |k+1,acc=>by
  have e:acc.toArray++ao.toArray=(acc++ao).toArray:=by simp
  have e2:(acc++ao)++(List.replicate k ao).flatten=acc++(List.replicate (k+1) ao).flatten:=by
   rw[VY,Wl,V9]
  rw[<-e2,<-foldl_rep ao k (acc++ao),<-e,VY,List.foldl_cons]
section
variable {X:Cx}{pins:List (Addr×Obj)}{σ:St}{H:Hp}{s:Shared}{l b:Addr}{xs ys zs:List V}
theorem Inv.Ip{ao its':List Value}{n:Nat}{f:Array Value->Array Value}{t':Nat}(I:Inv X pins σ H s)(hH:H l=some (.lst xs))
 (e:s.heap.get? l=some {cls:= .type "list",data:= .seq ao.toArray n}) (hf:f ao.toArray=its'.toArray) (hv:Vals ys its') (hz:ys.length<=sizeLine):
 Inv X pins σ (upd H l (.lst ys)) {s with heap:=s.heap.update l (Obj.mapSeq f),toks:=t'}:=by
 have q:=PySem.IsL.update e f;rw[hf]at q;refine I.write (x:=l) (e:=l) (by rw[hH];exact trivial) (.inl rfl) (λ b' u hb hu=>(YO s.heap (Obj.mapSeq f) (UD hb)).trans hu) ⟨_,q⟩ ?_;exact⟨hz,its',_,hv,q⟩
theorem Inv.Iy{ao:List Value}{t':Nat}(I:Inv X pins σ H s)(hv:Vals ys ao)(hz:ys.length<=sizeLine):
 Inv X pins σ (upd H s.heap.objs.size (.lst ys)) {s with heap:=s.heap.push {cls:= .type "list",data:= .seq ao.toArray},toks:=t'}:=
 I.laid (λ _ _ q=>Uv _ q) (UB _) ⟨hz,ao,0,hv,UO _ rfl⟩
theorem Inv.fresh(I:Inv X pins σ H s):H s.heap.objs.size=none:=I.aC.fresh (UB _)
theorem Inv.HG(I:Inv X pins σ H s)(hH:H l=some (.lst xs)):xs.length<=sizeLine/\∃(ao:List Value) (n:Nat),Vals xs ao/\xs.length=ao.length/\s.heap.get? l=some {cls:= .type "list",data:= .seq ao.toArray n}:=by
 obtain⟨z,ao,n,r,e⟩:=I.aC l _ hH;exact⟨z,ao,n,r,r.length,e⟩
theorem Jp{n:Nat}(h:n<=sizeLine):Builtin.List.listTooLong n=false:=by
 unfold Builtin.List.listTooLong;exact UX (by lia)
end
section
variable {X:Cx}
def CY:V->List V->Hp->VK->Prop:=λ x vs H Q=>∃l xs y,x= .ref l/\vs=[y]/\H l=some (.lst xs)/\xs.length<sizeLine/\Q .ay (upd H l (.lst (xs++[y])))
theorem xy:Qh X "list.append" CY:=by
 intro pins s σ H x vs v us Q I rx rv h;obtain⟨l,xs,y,rfl,rfl,hH,hz,q⟩:=h;cases rx;obtain⟨u,rfl,ru⟩:=rv.one;obtain⟨z,ao,n,r,hl,e⟩:=I.HG hH;refine WO F.slot_list_append ⟨_,e,rfl⟩ F.entry_list_append (F.args_list_append_2 _ _) (PySem.list_append l ao.toArray n u (by rw[UI];lia)) ⟨e,?_⟩;refine⟨.ay,_,I.Ip (its':=ao++[u]) hH e (by simp) (r.append (.cons ru .nil)) ?_,rfl,q⟩;rw[V1,YX];lia
def O8:V->List V->Hp->VK->Prop:=λ x vs H Q=>∃l xs y,x= .ref l/\vs=[]/\H l=some (.lst xs)/\xs[xs.length-1]?=some y/\Q y (upd H l (.lst xs.dropLast))
theorem OG:Qh X "list.pop" O8:=by
 intro pins s σ H x vs v us Q I rx rv h;obtain⟨l,xs,y,rfl,rfl,hH,hy,q⟩:=h;cases rx;have hus:=rv.zero;subst hus;obtain⟨z,ao,n,r,hl,e⟩:=I.HG hH;obtain⟨u,hu,ru⟩:=r.get hy
 have hy':ao.toArray[ao.toArray.size-1]?=some u:=by
  show ao.toArray[ao.length-1]?=some u;rw[<-Array.getElem?_toList,<-hl];exact hu
 refine WO F.slot_list_pop ⟨_,e,rfl⟩ F.entry_list_pop (F.args_list_pop_1 _) (MeetsSeq.list_pop_last l ao.toArray n u hy' (by rw[UI];lia)) ⟨e,?_⟩;refine⟨y,_,I.Ip (its':=ao.dropLast) hH e ?_ r.dropLast ?_,ru,q⟩
 . show ao.toArray.eraseIdxIfInBounds (ao.toArray.size-1)=ao.dropLast.toArray;rw[UI,List.eraseIdxIfInBounds_toArray,DN]
 . rw[List.length_dropLast];lia
theorem len_rep{α:Type}(xs:List α)(k:Nat):(List.replicate k xs).flatten.length=k*xs.length:=by
 induction k with
 |zero=>simp
 |succ k ih=>rw[VY,Wl,V1,ih,Nat.succ_mul,Nat.add_comm]
end
section
variable {prog:Program}{w:World}{A:Around}{E:Value->Shared->Prop}{s:Shared}
set_option maxRecDepth 100000 in
end
section
variable {X:Cx}
end
end L2
namespace Att
open PySem PySem.W PySem.Calls PyProof.Rows
theorem vq{P:Params}{h:Heap}:∀(ns:List Int) (vs:List Value),WellAll P h vs (ns.map WData.int)->IntsAre vs ns:=by
 intro ns;induction ns with
 |nil=>
  intro vs w;rw[Za]at w;cases w;exact .nil
 |cons n ns ih=>
  intro vs w;rw[Va]at w;cases w with
  |cons a b=>
   cases a;exact .cons _ _ (ih _ b)
theorem Hy{l:OpenLaw}{n:Nat}(hn:l.most=some n){P:Params}{h:Heap}{args:List WData}{vals:List Value}
 (hpre:l.row.toRowW.claim.pre args=true) (hwl:WellAll P h vals args):
 ∃a vs ns,vals=[Value.ref a]/\args=[WData.list (ns.map WData.int)]/\h.get? a=some {cls:= .type "list",data:= .seq vs.toArray}/\IntsAre vs ns/\ns.length<=n:=by
 have hsh:WShape.hasAll [] args [.list .int]=true:=(pre_splitW hpre).1;have hc:l.pre.holds [] {args:=args}=true:=(pre_splitW hpre).2;obtain⟨d,r,rfl,h1,h2⟩:=hasAllW_cons hsh;obtain rfl:=hasAllW_nil h2;obtain⟨xs,rfl,h3⟩:=hasW_list h1;obtain⟨ns,rfl⟩:=items_int h3
 have hlen:ns.length<=n:=by
  unfold OpenLaw.pre at hc
  have h4:(WTm.not (.lt (.lit (.int (n:Int))) (.len (.arg 0)))).holds [] {args:=[.list (ns.map .int)]}=true:=by
   have h4:=(holds_andW hc).1;rw[hn]at h4;exact h4
  have h5:=condW_of h4 (w_not (w_lt w_lit (w_len_list (w_arg rfl))));rw[Uz]at h5;refine WZ λ q=>?_;have q':(n:Int)<((ns.length:Nat):Int):=by lia
  first
   |(rw[VA q']at h5;exact absurd h5 (by decide))
   |(simp at h5;lia)
 cases hwl with
 |cons w1 w2=>
  cases w2;cases w1 with
  |list ho hall=>exact⟨_,_,ns,rfl,rfl,ho,vq ns _ hall,hlen⟩
theorem Gy(l:OpenLaw)(args:List WData):l.row.toRowW.claim.post args (.bool true) args=true:=
 postW_of (r:=l.row.toRowW) (X:=(true==true))
  (show WShape.has [] (.bool true) .bool=true by first|rfl|decide|simp[WShape.has,WShape.arms,WShape.armsAll])
  (show(WTm.eq .res (.lit (.bool true))).value [] {args:=args,res:=some (.bool true),after:=args}=some (.bool (true==true))from w_eq_bool (w_res rfl) w_lit) rfl
theorem BA{l:OpenLaw}{n:Nat}{q:Program}{loose:List Str}{XP:(Str->Option Value)->Heap->Prop}{YP:World->Heap->Prop}{d:DefRec}
 (hn:l.most=some n) (hdf:d.params.defaults=[])
 (call:∀(w:World) (s₀ s₁:Shared) (mg mb:Str->Option Value) (fa:Addr) (o:Obj) (pm cd doc:Value) (a:Addr) (vs:List Value) (ns:List Int),
   Ground q loose [] XP w s₀ mg mb s₁.heap->YP w s₁.heap->
   s₁.heap.get? fa=some o->o.data= .func (docDef d.name d.params d.body d.scope pm cd doc)->s₁.heap.CodeRec cd d.name->mg d.name=some (.ref fa)->
   s₁.heap.get? a=some {cls:= .type "list",data:= .seq vs.toArray}->IntsAre vs ns->ns.length<=n->s₁.gens= #[]->
   codeAny (model l.prog w) callerA (.call (.ref fa) ⟨[.ref a],[]⟩) (λ r s'=>r= .ok (.ret (.bool true))/\OldK s₁.heap s'.heap/\s'.os=s₁.os/\AllBare s'.gens) s₁):
 WalkO q loose XP YP l.row.toRowW d [] (λ f vs=>PySem.call f vs):=by
 intro w s₀ s₁ mg mb G Y fa o pm cd doc dV kV ho hd hcd hD hmg hg args vals as hpre hlay hrd hwl hlo;obtain rfl:dV= .none:=Dflts.none hD hdf;obtain rfl:kV= .none:=Dflts.noKw hD;obtain⟨a,vs,ns,rfl,rfl,hobj,hints,hlen⟩:=Hy hn hpre hwl;refine enter_call (YA (call w s₀ s₁ mg mb fa o pm cd doc a vs ns G Y ho (fd_plain hd) hcd hmg hobj hints hlen hg) λ r s' hq=>?_);obtain⟨rfl,h2,h3,h4⟩:=hq;exact⟨.inl ⟨.bool true,.bool true,[],rfl,λ _=>rfl,.bool true,Gy l _,λ _=>⟨List.Pairwise.nil,λ _ hm=>(nomatch hm)⟩⟩,h2,h3,h4⟩
section
variable {prog:Program}{w:World}{A:Around}{E:Value->Shared->Prop}{s:Shared}{K:Frag}
end
end Att
namespace L2
open PySem PySem.Spec PyProof.Rows
theorem mV:∀ {vs:List Value} {ns:List Int},IntsAre vs ns->Vals (ns.map V.int) vs
 |_,_,.nil=> .nil
 |_,_,.cons n t h=> .cons ⟨t,rfl⟩ (mV h)
end L2
/-THE LAST THEOREM (shape;LID,My.*are yours):
 My.Adr:a structure of the addresses that your layer names (classes,functions);My.Txt K t:a structure (Prop) of the equations over K;
 My.txt_mk:{K} {implicit addresses ..} (e1:nsIn K mainGlobals "law"=some (some (.ref f))) (e2:K.lookup f=some ⟨oc,od,.func (fnOf "law" "law" params body scope dV kV doc pm an cdv ct),sl⟩) (e3:codeIn K cdv "law"=true) .. :∃t,My.Txt K t
set_option maxRecDepth 100000 in
set_option maxHeartbeats 0 in
(the tactic k_is has no namespace:write k_is)-/
namespace L2
open PySem PySem.Spec PyProof.Rows
def inClass(s:Stmt)(j:Nat):Stmt:=match s with
 | .ClassDef _ _ _ body _ _ _ _ _ _ _=>body.getD j (.Pass ⟨0,0,0,0⟩)
 |_=> .Pass ⟨0,0,0,0⟩
def j9(s:Stmt):Arguments:=match s with
 | .FunctionDef _ a _ _ _ _ _ _ _ _=>a
 |_=>{posonlyargs:=[],args:=[],vararg:=none,kwonlyargs:=[],kw_defaults:=[],kwarg:=none,defaults:=[]}
def gE(s:Stmt):List Stmt:=match s with
 | .FunctionDef _ _ b _ _ _ _ _ _ _=>b
 |_=>[]
def a9(s:Stmt):Scope:=match s with
 | .FunctionDef _ _ _ _ _ _ sc _ _ _=>sc
 |_=>{kind:= .function,names:=[],isGenerator:=false,isCoroutine:=false}
abbrev fX:sM:=λ _ _ _ _ _ _=>False
abbrev E0:XK:=λ _ _ _=>False
theorem yO{X:Cx}:Passes fX X E0:=λ _ _ _ _ _ _ _ h=>h.elim
structure ma(K:PySem.W.Frag)(x qual:Str)(st:Stmt)(f:Addr)(fd:FuncData):Prop where
 ex:∃(oc:Value) (od:Option Addr) (kV doc pm:Value) (an:Option Addr) (cdv ct:Value) (osl:Array (Option Value)),
  fd=PySem.W.fnOf x qual (j9 st) (gE st) (a9 st) .none kV doc pm an cdv ct/\K.lookup f=some ⟨oc,od,.func fd,osl⟩/\PySem.W.codeIn K cdv qual=true
 kp:PySem.W.keepIn K (.ref f)=true
section
variable {P:Program}{w:World}{K:PySem.W.Frag}{mg:Str->Option Value}{base:Heap}
theorem ma.ok{x qual:Str}{st:Stmt}{f:Addr}{fd:FuncData}{N ps:List Str}{k:Nat}{sp:Sp}(F:ma K x qual st f fd)(S:lO N ps (a9 st))(len:∀vs H Q E,sp vs H Q E->vs.length=ps.length)
 (hbody:∀(cdv:Value) (A:Around) (outer:List Env) (s:Shared) (H:Hp) (vs:List V) (Q:VK) (E:XK),cB k (A.deeper (envOfC qual (a9 st) s.heap.objs.size f cdv))->sp vs H Q E->
   ∃t,gf (pw fX P w K mg base N qual (a9 st) f cdv A outer s H E).xf (gE st) t/\t {nx:=λ _ H'=>Q .ay H',rt:=Q} (start N vs) H):c_ P w K mg base fX (k+1) f fd ps sp:=by
 obtain⟨oc,od,kV,doc,pm,an,cdv,ct,osl,rfl,lk,hcd⟩:=F.ex;refine Qr lk hcd S len λ A outer s H vs Q E hr hsp=>?_;obtain⟨t,h,q⟩:=hbody cdv A outer s H vs Q E hr hsp;exact⟨t,h.xf,q⟩
theorem ma.binds{x qual:Str}{st:Stmt}{f:Addr}{fd:FuncData}{ps:List Str}(F:ma K x qual st f fd)
 (h:∀(kV doc pm:Value) (an:Option Addr) (cdv ct:Value) (us:List Value),us.length=ps.length->bindArgs (PySem.W.fnOf x qual (j9 st) (gE st) (a9 st) .none kV doc pm an cdv ct) ⟨us,[]⟩=pure (ps.zip us)):Binds K fd ps []:=by
 obtain⟨oc,od,kV,doc,pm,an,cdv,ct,osl,rfl,lk,hcd⟩:=F.ex;exact .all (h kV doc pm an cdv ct)
theorem G_{x qual:Str}{st:Stmt}{f:Addr}{oc:Value}{od an:Option Addr}{osl:Array (Option Value)}{kV doc pm cdv ct:Value}(l:K.lookup f=some ⟨oc,od,.func (PySem.W.fnOf x qual (j9 st) (gE st) (a9 st) .none kV doc pm an cdv ct),osl⟩)
 (c:PySem.W.codeIn K cdv qual=true) (k:PySem.W.keepIn K (.ref f)=true):ma K x qual st f (PySem.W.fnOf x qual (j9 st) (gE st) (a9 st) .none kV doc pm an cdv ct):=⟨⟨oc,od,kV,doc,pm,an,cdv,ct,osl,rfl,l,c⟩,k⟩
end
section
variable {X:Cx}
end
theorem cT{A B:Prop}(h:A):if true=true then A else B:=by
 rw[UA rfl];exact h
def IU(H H':Hp):Prop:=∀b o,H b=some o->H' b=some o
end L2
set_option maxHeartbeats 4000000
namespace Hd
open PySem PySem.W PySem.Calls PyProof.Rows
noncomputable def bt (P:Params):BT:=(.node (boot_o_0 P) (.node (boot_o_1 P) (.node (boot_o_3 P) (.node (boot_o_7 P) .nil .nil) .nil) (.node (boot_o_5 P) (.node (boot_o_9 P) .nil .nil) .nil)) (.node (boot_o_2 P) (.node (boot_o_4 P) (.node (boot_o_8 P) .nil .nil) .nil) (.node (boot_o_6 P) (.node (boot_o_10 P) .nil .nil) .nil)))
theorem Qf(P:Params):absHeap (bt P) 11 (boot_heap P).life=boot_heap P:=by kernel_rfl
noncomputable def run (p:Program) (w:World) (n:Nat) (ann:Option Value):Nat->SharedT->Thread->Option SharedT
 |0,_,_=>none
 |k+1,s,t=>match through t with
  |true=>some s
  |false=>match Fast.tw6613529449190102663 n ann t with
   |false=>none
   |true=>match Fast.tw10156331382660048174 (Fast.tw11892475500146522536 Fast.tw14364793385576792824) p w s t with
    |some (s',t')=>run p w n ann k s' t'
    |none=>none
theorem GP{p:Program}{w:World}{n:Nat}{ann:Option Value}:∀ {k:Nat} {s s':SharedT} {t:Thread},run p w n ann k s t=some s'->topRun treeTable p w n ann k s.abs t=some s'.abs
 |0,_,_,_,h=>by cases h
 |k+1,s,s',t,h=>by
  unfold run at h;unfold topRun;cases he:through t with
  |true=>rw[he]at h;cases h;rfl
  |false=>
   rw[he]at h;rw[<-Fast.te6613529449190102663,<-Fast.te10156331382660048174,<-Fast.te11892475500146522536,<-Fast.te14364793385576792824]at h;cases hk:stepOk n ann t with
   |false=>simp only[hk]at h;cases h
   |true=>
    simp only[hk]at h;cases hs:stepT (denote treeTable) p w s t with
    |none=>rw[hs]at h;cases h
    |some r=>obtain⟨s2,t2⟩:=r;rw[hs]at h;rw[stepT_spec hs];exact GP h
noncomputable def b0 (w:World) (os:OsState):SharedT:=⟨bt w.params,11,(boot_heap w.params).life,⟨[]⟩,boot_drawn,boot_toks,os⟩
theorem Om(w:World)(os:OsState):(b0 w os).abs=⟨boot_heap w.params,⟨[]⟩,boot_drawn,boot_toks,os⟩:=by
 unfold b0 SharedT.abs;dsimp only;rw[Qf]
theorem left{p q:Program}{loose:List Str}{α:Type}{Yf:Shared->α}{Ya:World->α}{N:Nat}
 (e:opening p=plainProg p.main.scope.names) (f:∀s,fenceModules? p s=some s) (hN:Nat.ble 600 N=true)
 (h:∀(w:World) (os:OsState),(run p w 11 (some (.ref 6)) N (b0 w os) (topStub p)).bind (λ s=>match staticsOk (importedModules p.main.body) (boot_heap w.params) s.abs.heap&&namesBound p s.abs.heap&&gensDone s.abs&&laidKept (boot_heap w.params) s.abs.heap with
   |true=>some (Fast.tw4187177175401517315 q loose (importedModules p.main.body) (λ _=>true) true s.abs,Yf s.abs)
   |false=>none)=some (openGood q loose,Ya w)):LeftO p q loose (λ _=>true) Yf Ya N:=λ w=>by
 obtain⟨⟨hp,gs,d,k,os⟩,e1,e2⟩:=Option.map_eq_some_iff.mp (boot_open e hN f w);obtain⟨rfl,rfl,rfl,rfl⟩:hp=boot_heap w.params/\gs=⟨[]⟩/\d=boot_drawn/\k=boot_toks:=by simpa using e2
 obtain⟨s,r1,r2⟩:=Option.bind_eq_some_iff.mp (h w os);have r3:=GP r1;rw[Om]at r3;rw[<-Fast.te4187177175401517315]at r2;unfold openEnds;rw[e1];show(topFrom treeTable p w N _).map _=_;unfold topFrom;rw[show((boot_heap w.params).isNs mainGlobals&&(⟨[]⟩:Array GenState).size==0)=true from by kernel_rfl];dsimp only;rw[show(boot_heap w.params).objs.size=11 from by kernel_rfl,show(boot_heap w.params).nsMap mainGlobals "__annotations__"=some (.ref 6)from by kernel_rfl,r3];show((match staticsOk (importedModules p.main.body) (boot_heap w.params) s.abs.heap&&namesBound p s.abs.heap&&gensDone s.abs&&laidKept (boot_heap w.params) s.abs.heap with|true=>some s.abs|false=>none):Option Shared).map _=_;cases z:(staticsOk (importedModules p.main.body) (boot_heap w.params) s.abs.heap&&namesBound p s.abs.heap&&gensDone s.abs&&laidKept (boot_heap w.params) s.abs.heap)with
 |false=>rw[z]at r2;cases r2
 |true=>rw[z]at r2;exact r2
abbrev e(x:Str)(t:Nat)(v:Value):Str×Nat×Value:=(x,t,v)
abbrev k(a:Addr)(o:Obj):Addr×Obj:=(a,o)
def no(P:Params)(n:Nat)(l:List (Str×Nat×Value)):Obj:=⟨.type "dict",none,.dict (l.map λ e=>⟨PyData.keyHash P e.1,.str e.1 e.2.1,e.2.2⟩).toArray n,#[]⟩
def fd(st:Stmt)(x q:Str)(pm:Value)(c:Addr):FuncData:=fnOf x q (L2.j9 st) (L2.gE st) (L2.a9 st) .none .none .none pm none (.ref c) .none
def fq(st:Stmt)(x q:Str)(pm:Value)(c:Addr):Obj:=⟨.type "function",none,.func (fd st x q pm c),#[]⟩
def co(x q:Str)(t:Nat)(line argc:Int)(a b:Addr)(u v:Value)(d:Addr)(i:Int)(z:Nat):Obj:=⟨.type "code",none,.fields #[.str x t,.str q (t+1),.str "/claim/cut.py" (t+2),.int line 0,.int argc 0,.int 0 0,.int 0 0,.int 3 0,.ref a,.bool true,.int 181 0,.ref b,.none,u,v,.ref d,.int i 0,.int line 0,.str "/claim/cut.py" z],#[]⟩
end Hd
namespace Row
open PySem L2
open PySem.Spec hiding items?
open PyProof.Rows hiding St
def top(i:Nat):Stmt:=PySem.Challenge.pw_latticeworks_k37_papers_of_short_steps.main.body.getD i (.Pass ⟨0,0,0,0⟩)
abbrev PW:Program:=PySem.Challenge.pw_latticeworks_k37_papers_of_short_steps
abbrev nJ:Stmt:=top 5
abbrev nB:Stmt:=top 6
abbrev j8:Stmt:=top 7
abbrev kU:Stmt:=top 8
abbrev ui:Stmt:=top 10
abbrev zI:Stmt:=top 11
abbrev wY:Stmt:=top 12
abbrev wD:Stmt:=top 13
abbrev uq:Stmt:=top 14
abbrev qH:Stmt:=top 16
abbrev vS:Stmt:=top 17
abbrev tS:Stmt:=top 18
abbrev qz:Stmt:=top 19
abbrev ud:Stmt:=top 20
abbrev lp:Stmt:=top 21
abbrev pH:Stmt:=top 22
abbrev nP:Stmt:=top 23
abbrev Ec:Stmt:=top 24
abbrev qx:Stmt:=top 25
abbrev pP:Stmt:=top 26
abbrev mw:Stmt:=top 27
abbrev l6:Stmt:=top 28
abbrev qQ:Stmt:=top 30
abbrev qA:Stmt:=top 31
abbrev pB:Stmt:=top 32
abbrev mF:Stmt:=top 33
abbrev nR:Stmt:=top 34
abbrev uw:Stmt:=top 35
abbrev gL:Stmt:=top 37
abbrev nW:Stmt:=top 38
abbrev cZ:Stmt:=inClass (top 39) 0
abbrev g_:Stmt:=inClass (top 39) 1
abbrev fB:Stmt:=inClass (top 39) 2
abbrev iN:Stmt:=top 41
abbrev jR:Stmt:=top 42
abbrev pW:Stmt:=top 43
abbrev e7:Stmt:=inClass (top 44) 0
abbrev fx:Stmt:=inClass (top 44) 1
abbrev fM:Stmt:=inClass (top 44) 2
abbrev fb:Stmt:=inClass (top 44) 3
abbrev gp:Stmt:=inClass (top 44) 4
abbrev fv:Stmt:=inClass (top 44) 5
abbrev wb:Stmt:=top 45
abbrev kX:Stmt:=top 46
abbrev tZ:Stmt:=top 48
abbrev pV:Stmt:=top 49
abbrev nO:Stmt:=top 50
abbrev mv:Stmt:=top 51
abbrev pF:Stmt:=top 52
abbrev nH:Stmt:=top 53
abbrev rm:Stmt:=top 54
abbrev qp:Stmt:=top 55
abbrev nF:Stmt:=top 56
abbrev lq:Stmt:=top 57
abbrev pj:Stmt:=top 58
abbrev dG:Stmt:=top 59
abbrev ka:Stmt:=top 60
abbrev ku:Stmt:=top 61
abbrev fS:Stmt:=top 62
abbrev nS:Stmt:=top 63
abbrev nE:Stmt:=top 64
abbrev pQ:Stmt:=top 65
abbrev uH:Stmt:=top 66
def xH:Value:=(.str "latticeworks.kinds" 230)
def sN:Value:=(.str "latticeworks.fractions" 260)
def gd:Value:=(.str "latticeworks.rows" 306)
def qd:Value:=(.str "latticeworks.shares" 403)
def oi:Value:=(.str "latticeworks.standing" 459)
def fV:Value:=(.str "latticeworks.short" 562)
def dB:Value:=(.str "law_latticeworks_k37_papers_of_short_steps" 688)
def KX(P:Params):PySem.W.Frag:=[Hd.k 3 (Hd.no P 68 [Hd.e "__name__" 165 (.str "law_latticeworks_k37_papers_of_short_steps" 688),Hd.e "__doc__" 166 .none,Hd.e "__package__" 167 .none,Hd.e "__loader__" 168 (.builtin "__main__.__loader__#opaque"),Hd.e "__spec__" 169 .none,Hd.e "__annotations__" 170 (.ref 6),Hd.e "__builtins__" 171 (.ref 4),Hd.e "__file__" 173 (.str "/claim/cut.py" 172),Hd.e "__cached__" 174 .none,Hd.e "_wall" 193 (.ref 21),Hd.e "LatticeError" 213 (.ref 31),Hd.e "NoSteps" 229 (.ref 44),Hd.e "is_number" 238 (.ref 53),Hd.e "is_listed" 245 (.ref 60),Hd.e "is_listed_of" 253 (.ref 67),Hd.e "are_numbers" 259 (.ref 72),Hd.e "common" 272 (.ref 79),Hd.e "part" 281 (.ref 86),Hd.e "minus" 289 (.ref 93),Hd.e "times" 297 (.ref 100),Hd.e "before" 305 (.ref 107),Hd.e "as_rows" 313 (.ref 112),Hd.e "added" 319 (.ref 117),Hd.e "sum_by" 331 (.ref 124),Hd.e "product" 337 (.ref 129),Hd.e "column" 343 (.ref 134),Hd.e "turned_over" 349 (.ref 139),Hd.e "unit_row" 355 (.ref 144),Hd.e "unit_rows" 361 (.ref 149),Hd.e "dot" 367 (.ref 154),Hd.e "is_rows" 373 (.ref 159),Hd.e "are_back" 382 (.ref 166),Hd.e "is_turn_of" 391 (.ref 173),Hd.e "are_turned" 402 (.ref 180),Hd.e "cleared" 418 (.ref 187),Hd.e "line_of" 430 (.ref 194),Hd.e "table_of" 440 (.ref 201),Hd.e "squares_in" 446 (.ref 206),Hd.e "shares_in" 452 (.ref 211),Hd.e "shares" 458 (.ref 216),Hd.e "nearest_quotient" 468 (.ref 223),Hd.e "exchanged" 478 (.ref 230),Hd.e "Bench" 561 (.ref 287),Hd.e "is_half_at_most" 570 (.ref 298),Hd.e "falls_too_far" 579 (.ref 305),Hd.e "is_short" 585 (.ref 310),Hd.e "Stairs" 670 (.ref 362),Hd.e "short" 679 (.ref 373),Hd.e "shows_short" 687 (.ref 380),Hd.e "_law_at" 697 (.ref 387),Hd.e "_law_left" 709 (.ref 394),Hd.e "_law_digit" 718 (.ref 401),Hd.e "_law_number" 727 (.ref 408),Hd.e "_law_rows" 733 (.ref 413),Hd.e "_law_drawn" 743 (.ref 420),Hd.e "_law_dot" 749 (.ref 425),Hd.e "_law_own" 765 (.ref 432),Hd.e "_law_short" 779 (.ref 439),Hd.e "_law_product" 785 (.ref 444),Hd.e "_law_unit" 791 (.ref 449),Hd.e "_law_turn" 797 (.ref 454),Hd.e "_law_are_rows" 803 (.ref 459),Hd.e "_law_takes" 809 (.ref 464),Hd.e "_law_lists" 815 (.ref 469),Hd.e "_law_paper" 830 (.ref 476),Hd.e "_law_spoil" 843 (.ref 483),Hd.e "_law_says" 853 (.ref 490),Hd.e "law" 859 (.ref 495)]),
 Hd.k 52 (Hd.co "is_number" "is_number" 232 10 1 47 48 (.ref 49) (.ref 50) 51 236 237),
 Hd.k 53 (Hd.fq nJ "is_number" "is_number" xH 52),
 Hd.k 59 (Hd.co "is_listed" "is_listed" 239 12 1 54 55 (.ref 56) (.ref 57) 58 243 244),
 Hd.k 60 (Hd.fq nB "is_listed" "is_listed" xH 59),
 Hd.k 66 (Hd.co "is_listed_of" "is_listed_of" 246 14 2 61 62 (.ref 63) (.ref 64) 65 251 252),
 Hd.k 67 (Hd.fq j8 "is_listed_of" "is_listed_of" xH 66),
 Hd.k 71 (Hd.co "are_numbers" "are_numbers" 254 16 2 68 69 .none .none 70 257 258),
 Hd.k 72 (Hd.fq kU "are_numbers" "are_numbers" xH 71),
 Hd.k 78 (Hd.co "common" "common" 262 19 2 73 74 (.ref 75) (.ref 76) 77 270 271),
 Hd.k 79 (Hd.fq ui "common" "common" sN 78),
 Hd.k 85 (Hd.co "part" "part" 273 27 2 80 81 (.ref 82) (.ref 83) 84 279 280),
 Hd.k 86 (Hd.fq zI "part" "part" sN 85),
 Hd.k 92 (Hd.co "minus" "minus" 282 32 2 87 88 (.ref 89) (.ref 90) 91 287 288),
 Hd.k 93 (Hd.fq wY "minus" "minus" sN 92),
 Hd.k 99 (Hd.co "times" "times" 290 34 2 94 95 (.ref 96) (.ref 97) 98 295 296),
 Hd.k 100 (Hd.fq wD "times" "times" sN 99),
 Hd.k 106 (Hd.co "before" "before" 298 36 2 101 102 (.ref 103) (.ref 104) 105 303 304),
 Hd.k 107 (Hd.fq uq "before" "before" sN 106),
 Hd.k 111 (Hd.co "as_rows" "as_rows" 308 39 1 108 109 .none .none 110 311 312),
 Hd.k 112 (Hd.fq qH "as_rows" "as_rows" gd 111),
 Hd.k 116 (Hd.co "added" "added" 314 41 3 113 114 .none .none 115 317 318),
 Hd.k 117 (Hd.fq vS "added" "added" gd 116),
 Hd.k 123 (Hd.co "sum_by" "sum_by" 320 43 3 118 119 (.ref 120) (.ref 121) 122 329 330),
 Hd.k 124 (Hd.fq tS "sum_by" "sum_by" gd 123),
 Hd.k 128 (Hd.co "product" "product" 332 48 2 125 126 .none .none 127 335 336),
 Hd.k 129 (Hd.fq qz "product" "product" gd 128),
 Hd.k 133 (Hd.co "column" "column" 338 51 2 130 131 .none .none 132 341 342),
 Hd.k 134 (Hd.fq ud "column" "column" gd 133),
 Hd.k 138 (Hd.co "turned_over" "turned_over" 344 53 2 135 136 .none .none 137 347 348),
 Hd.k 139 (Hd.fq lp "turned_over" "turned_over" gd 138),
 Hd.k 143 (Hd.co "unit_row" "unit_row" 350 55 2 140 141 .none .none 142 353 354),
 Hd.k 144 (Hd.fq pH "unit_row" "unit_row" gd 143),
 Hd.k 148 (Hd.co "unit_rows" "unit_rows" 356 57 1 145 146 .none .none 147 359 360),
 Hd.k 149 (Hd.fq nP "unit_rows" "unit_rows" gd 148),
 Hd.k 153 (Hd.co "dot" "dot" 362 59 2 150 151 .none .none 152 365 366),
 Hd.k 154 (Hd.fq Ec "dot" "dot" gd 153),
 Hd.k 158 (Hd.co "is_rows" "is_rows" 368 61 3 155 156 .none .none 157 371 372),
 Hd.k 159 (Hd.fq qx "is_rows" "is_rows" gd 158),
 Hd.k 165 (Hd.co "are_back" "are_back" 374 67 2 160 161 (.ref 162) (.ref 163) 164 380 381),
 Hd.k 166 (Hd.fq pP "are_back" "are_back" gd 165),
 Hd.k 172 (Hd.co "is_turn_of" "is_turn_of" 383 74 3 167 168 (.ref 169) (.ref 170) 171 389 390),
 Hd.k 173 (Hd.fq mw "is_turn_of" "is_turn_of" gd 172),
 Hd.k 179 (Hd.co "are_turned" "are_turned" 392 76 4 174 175 (.ref 176) (.ref 177) 178 400 401),
 Hd.k 180 (Hd.fq l6 "are_turned" "are_turned" gd 179),
 Hd.k 186 (Hd.co "cleared" "cleared" 405 82 4 181 182 (.ref 183) (.ref 184) 185 416 417),
 Hd.k 187 (Hd.fq qQ "cleared" "cleared" qd 186),
 Hd.k 193 (Hd.co "line_of" "line_of" 419 88 3 188 189 (.ref 190) (.ref 191) 192 428 429),
 Hd.k 194 (Hd.fq qA "line_of" "line_of" qd 193),
 Hd.k 200 (Hd.co "table_of" "table_of" 431 94 1 195 196 (.ref 197) (.ref 198) 199 438 439),
 Hd.k 201 (Hd.fq pB "table_of" "table_of" qd 200),
 Hd.k 205 (Hd.co "squares_in" "squares_in" 441 102 1 202 203 .none .none 204 444 445),
 Hd.k 206 (Hd.fq mF "squares_in" "squares_in" qd 205),
 Hd.k 210 (Hd.co "shares_in" "shares_in" 447 105 2 207 208 .none .none 209 450 451),
 Hd.k 211 (Hd.fq nR "shares_in" "shares_in" qd 210),
 Hd.k 215 (Hd.co "shares" "shares" 453 107 1 212 213 .none .none 214 456 457),
 Hd.k 216 (Hd.fq uw "shares" "shares" qd 215),
 Hd.k 222 (Hd.co "nearest_quotient" "nearest_quotient" 461 111 2 217 218 (.ref 219) (.ref 220) 221 466 467),
 Hd.k 223 (Hd.fq gL "nearest_quotient" "nearest_quotient" oi 222),
 Hd.k 229 (Hd.co "exchanged" "exchanged" 469 113 3 224 225 (.ref 226) (.ref 227) 228 476 477),
 Hd.k 230 (Hd.fq nW "exchanged" "exchanged" oi 229),
 Hd.k 241 (Hd.co "__init__" "Bench.__init__" 491 120 2 238 239 .none .none 240 494 495),
 Hd.k 242 (Hd.fq cZ "__init__" "Bench.__init__" oi 241),
 Hd.k 248 (Hd.co "take" "Bench.take" 497 125 4 243 244 (.ref 245) (.ref 246) 247 504 505),
 Hd.k 249 (Hd.fq g_ "take" "Bench.take" oi 248),
 Hd.k 255 (Hd.co "exchange" "Bench.exchange" 507 130 3 250 251 (.ref 252) (.ref 253) 254 513 514),
 Hd.k 256 (Hd.fq fB "exchange" "Bench.exchange" oi 255),
 Hd.k 286 (Hd.no P 4 [Hd.e "__module__" 486 (.str "latticeworks.standing" 459),Hd.e "__firstlineno__" 490 (.int (118) 489),Hd.e "__init__" 496 (.ref 242),Hd.e "take" 506 (.ref 249),Hd.e "exchange" 515 (.ref 256),Hd.e "change_sign" 523 (.ref 263),Hd.e "live_rows" 532 (.ref 270),Hd.e "gather" 541 (.ref 277),Hd.e "lower_above" 550 (.ref 284),Hd.e "__static_attributes__" 554 (.ref 285),Hd.e "__dict__" 556 (.ref 288),Hd.e "__weakref__" 558 (.ref 289),Hd.e "__doc__" 559 .none]),
 Hd.k 287 (⟨(.type "type"),none,.cls {name:="Bench",bases:=[(.type "object")],mro:=[(.ref 287),(.type "object")],ns:=286,qualname:="Bench",hasDict:=true,subclasses:=[],abstract:=false,hasDel:=false},#[none,none,(some (.str "Bench" 479)),(some (.str "Bench" 487)),(some (.builtin "object.__new__")),(some (.bool true))]⟩),
 Hd.k 297 (Hd.co "is_half_at_most" "is_half_at_most" 564 147 1 292 293 (.ref 294) (.ref 295) 296 568 569),
 Hd.k 298 (Hd.fq iN "is_half_at_most" "is_half_at_most" fV 297),
 Hd.k 304 (Hd.co "falls_too_far" "falls_too_far" 571 149 3 299 300 (.ref 301) (.ref 302) 303 577 578),
 Hd.k 305 (Hd.fq jR "falls_too_far" "falls_too_far" fV 304),
 Hd.k 309 (Hd.co "is_short" "is_short" 580 151 1 306 307 .none .none 308 583 584),
 Hd.k 310 (Hd.fq pW "is_short" "is_short" fV 309),
 Hd.k 323 (Hd.co "__init__" "Stairs.__init__" 598 160 2 318 319 (.ref 320) (.ref 321) 322 603 604),
 Hd.k 324 (Hd.fq e7 "__init__" "Stairs.__init__" fV 323),
 Hd.k 330 (Hd.co "last_of" "Stairs.last_of" 606 164 2 325 326 (.ref 327) (.ref 328) 329 611 612),
 Hd.k 331 (Hd.fq fx "last_of" "Stairs.last_of" fV 330),
 Hd.k 337 (Hd.co "lessen" "Stairs.lessen" 614 167 3 332 333 (.ref 334) (.ref 335) 336 622 623),
 Hd.k 338 (Hd.fq fM "lessen" "Stairs.lessen" fV 337),
 Hd.k 344 (Hd.co "is_steep" "Stairs.is_steep" 625 175 2 339 340 (.ref 341) (.ref 342) 343 632 633),
 Hd.k 345 (Hd.fq fb "is_steep" "Stairs.is_steep" fV 344),
 Hd.k 351 (Hd.co "swap" "Stairs.swap" 635 180 2 346 347 (.ref 348) (.ref 349) 350 649 650),
 Hd.k 352 (Hd.fq gp "swap" "Stairs.swap" fV 351),
 Hd.k 358 (Hd.co "shorten" "Stairs.shorten" 652 195 1 353 354 (.ref 355) (.ref 356) 357 658 659),
 Hd.k 359 (Hd.fq fv "shorten" "Stairs.shorten" fV 358),
 Hd.k 361 (Hd.no P 4 [Hd.e "__module__" 593 (.str "latticeworks.short" 562),Hd.e "__firstlineno__" 597 (.int (158) 596),Hd.e "__init__" 605 (.ref 324),Hd.e "last_of" 613 (.ref 331),Hd.e "lessen" 624 (.ref 338),Hd.e "is_steep" 634 (.ref 345),Hd.e "swap" 651 (.ref 352),Hd.e "shorten" 660 (.ref 359),Hd.e "__static_attributes__" 663 (.ref 360),Hd.e "__dict__" 665 (.ref 363),Hd.e "__weakref__" 667 (.ref 364),Hd.e "__doc__" 668 .none]),
 Hd.k 362 (⟨(.type "type"),none,.cls {name:="Stairs",bases:=[(.type "object")],mro:=[(.ref 362),(.type "object")],ns:=361,qualname:="Stairs",hasDict:=true,subclasses:=[],abstract:=false,hasDel:=false},#[none,none,(some (.str "Stairs" 586)),(some (.str "Stairs" 594)),(some (.builtin "object.__new__")),(some (.bool true))]⟩),
 Hd.k 372 (Hd.co "short" "short" 671 206 1 367 368 (.ref 369) (.ref 370) 371 677 678),
 Hd.k 373 (Hd.fq wb "short" "short" fV 372),
 Hd.k 379 (Hd.co "shows_short" "shows_short" 680 211 2 374 375 (.ref 376) (.ref 377) 378 685 686),
 Hd.k 380 (Hd.fq kX "shows_short" "shows_short" fV 379),
 Hd.k 386 (Hd.co "_law_at" "_law_at" 690 219 2 381 382 (.ref 383) (.ref 384) 385 695 696),
 Hd.k 387 (Hd.fq tZ "_law_at" "_law_at" dB 386),
 Hd.k 393 (Hd.co "_law_left" "_law_left" 698 223 2 388 389 (.ref 390) (.ref 391) 392 707 708),
 Hd.k 394 (Hd.fq pV "_law_left" "_law_left" dB 393),
 Hd.k 400 (Hd.co "_law_digit" "_law_digit" 710 233 2 395 396 (.ref 397) (.ref 398) 399 716 717),
 Hd.k 401 (Hd.fq nO "_law_digit" "_law_digit" dB 400),
 Hd.k 407 (Hd.co "_law_number" "_law_number" 719 237 2 402 403 (.ref 404) (.ref 405) 406 725 726),
 Hd.k 408 (Hd.fq mv "_law_number" "_law_number" dB 407),
 Hd.k 412 (Hd.co "_law_rows" "_law_rows" 728 244 4 409 410 .none .none 411 731 732),
 Hd.k 413 (Hd.fq pF "_law_rows" "_law_rows" dB 412),
 Hd.k 419 (Hd.co "_law_drawn" "_law_drawn" 734 246 1 414 415 (.ref 416) (.ref 417) 418 741 742),
 Hd.k 420 (Hd.fq nH "_law_drawn" "_law_drawn" dB 419),
 Hd.k 424 (Hd.co "_law_dot" "_law_dot" 744 256 2 421 422 .none .none 423 747 748),
 Hd.k 425 (Hd.fq rm "_law_dot" "_law_dot" dB 424),
 Hd.k 431 (Hd.co "_law_own" "_law_own" 750 258 1 426 427 (.ref 428) (.ref 429) 430 763 764),
 Hd.k 432 (Hd.fq qp "_law_own" "_law_own" dB 431),
 Hd.k 438 (Hd.co "_law_short" "_law_short" 766 275 1 433 434 (.ref 435) (.ref 436) 437 777 778),
 Hd.k 439 (Hd.fq nF "_law_short" "_law_short" dB 438),
 Hd.k 443 (Hd.co "_law_product" "_law_product" 780 290 2 440 441 .none .none 442 783 784),
 Hd.k 444 (Hd.fq lq "_law_product" "_law_product" dB 443),
 Hd.k 448 (Hd.co "_law_unit" "_law_unit" 786 298 1 445 446 .none .none 447 789 790),
 Hd.k 449 (Hd.fq pj "_law_unit" "_law_unit" dB 448),
 Hd.k 453 (Hd.co "_law_turn" "_law_turn" 792 300 4 450 451 .none .none 452 795 796),
 Hd.k 454 (Hd.fq dG "_law_turn" "_law_turn" dB 453),
 Hd.k 458 (Hd.co "_law_are_rows" "_law_are_rows" 798 317 3 455 456 .none .none 457 801 802),
 Hd.k 459 (Hd.fq ka "_law_are_rows" "_law_are_rows" dB 458),
 Hd.k 463 (Hd.co "_law_takes" "_law_takes" 804 326 2 460 461 .none .none 462 807 808),
 Hd.k 464 (Hd.fq ku "_law_takes" "_law_takes" dB 463),
 Hd.k 468 (Hd.co "_law_lists" "_law_lists" 810 336 1 465 466 .none .none 467 813 814),
 Hd.k 469 (Hd.fq fS "_law_lists" "_law_lists" dB 468),
 Hd.k 475 (Hd.co "_law_paper" "_law_paper" 816 340 2 470 471 (.ref 472) (.ref 473) 474 828 829),
 Hd.k 476 (Hd.fq nS "_law_paper" "_law_paper" dB 475),
 Hd.k 482 (Hd.co "_law_spoil" "_law_spoil" 831 350 2 477 478 (.ref 479) (.ref 480) 481 841 842),
 Hd.k 483 (Hd.fq nE "_law_spoil" "_law_spoil" dB 482),
 Hd.k 489 (Hd.co "_law_says" "_law_says" 844 377 3 484 485 (.ref 486) (.ref 487) 488 851 852),
 Hd.k 490 (Hd.fq pQ "_law_says" "_law_says" dB 489),
 Hd.k 494 (Hd.co "law" "law" 854 380 1 491 492 .none .none 493 857 858),
 Hd.k 495 (Hd.fq uH "law" "law" dB 494)]
def KA:List Addr:=[3,52,53,59,60,66,67,71,72,78,79,85,86,92,93,99,100,106,107,111,112,116,117,123,124,128,129,133,134,138,139,143,144,148,149,153,154,158,159,165,166,172,173,179,180,186,187,193,194,200,201,205,206,210,211,215,216,222,223,229,230,241,242,248,249,255,256,286,287,297,298,304,305,309,310,323,324,330,331,337,338,344,345,351,352,358,359,361,362,372,373,379,380,386,387,393,394,400,401,407,408,412,413,419,420,424,425,431,432,438,439,443,444,448,449,453,454,458,459,463,464,468,469,475,476,482,483,489,490,494,495]
set_option maxHeartbeats 0 in
theorem left:PySem.W.LeftO PW (PySem.W.view PW [0,2,3,5,6,7,8,10,11,12,13,14,16,17,18,19,20,21,22,23,24,25,26,27,28,30,31,32,33,34,35,37,38,39,41,42,43,44,45,46,48,49,50,51,52,53,54,55,56,57,58,59,60,61,62,63,64,65,66]) [] (λ _=>true) (PySem.W.kmHook Row.KX Row.KA (λ _=>rfl) []).obs (PySem.W.kmHook Row.KX Row.KA (λ _=>rfl) []).val 5938:=
 Hd.left (by kernel_rfl) (λ s=>by kernel_rfl) rfl λ w os=>by kernel_rfl
theorem H_:PySem.Challenge.rw_latticeworks_k37_papers_of_short_steps.wellSaid=true:=by decide+kernel
end Row
namespace L3
open PySem PySem.Spec PyProof.Rows L2
section
variable {prog:Program}{w:World}{A:Around}{R:Result->Shared->Prop}{s:Shared}
theorem BE{elt target iter:Expr}{ifs:List Expr}{scope:Scope}{pos:Pos}{it acc:Value}{env:Env}(I:Nat->Shared->Prop)
 (turn:∀n s,I n s->wpAny (model prog w) A (pyNext it) (λ r s₁=>match r with
   |none=>R (.ok .next) s₁
   |some v=>wpAny (model prog w) A (letOwnedTupleGo target it v) (λ _ s₀=>wpAny (model prog w) A (assign target env v) (λ _ s₂=>
     wpAny (model prog w) A (forIn ifs true λ c r=>if r=true then do let ok <-isTrue c env (eval c env);pure (ForInStep.yield ok)else pure (ForInStep.yield r)) (λ ok s₃=>
      if ok=true then wpAny (model prog w) A (eval elt env) (λ x s₄=>
       wpAny (model prog w) A (call (.builtin "list.append") [acc,x]) (λ _ s₅=>∃m,m<n/\I m s₅) (λ _ _=>False) s₄) (λ _ _=>False) s₃
      else∃m,m<n/\I m s₃) (λ _ _=>False) s₂) (λ _ _=>False) s₀) (λ _ _=>False) s₁) (λ _ _=>False) s)
 (n:Nat) (h:I n s):
 codeAny (model prog w) A (.compLoop (.ListComp elt [⟨target,iter,ifs,0⟩] scope pos) 0 it acc env) R s:=by
 refine codeAny_loop rfl I (λ n s hI=>?_) n h;show wpAny _ A ((compTurn (.ListComp elt [⟨target,iter,ifs,0⟩] scope pos) 0 it acc env).onRaise (λ x=>do noteFrame x env;theTreesLotGoes x)) _ _ s;refine wpAny_noted ?_;rw[compTurn_list];refine Uu (Xr (Uu (Wo (turn n s hI) (λ r s₁ h₁=>?_) λ _ _ h'=>h'.elim)));cases r with
 |none=>exact UK h₁
 |some v=>
  refine Uu (Wo h₁ (λ _ s₀ h₀=>?_) λ _ _ h'=>h'.elim);refine Uu (Wo h₀ (λ _ s₂ h₂=>Uu (Wo h₂ (λ ok s₃ h₃=>?_) λ _ _ h'=>h'.elim)) λ _ _ h'=>h'.elim);cases ok with
  |false=>exact UK ⟨rfl,h₃⟩
  |true=>
   exact Uu (Uu (Wo h₃ (λ x s₄ h₄=>Uu (Wo h₄ (λ _ s₅ h₅=>UK (UK ⟨rfl,h₅⟩)) λ _ _ h'=>h'.elim)) λ _ _ h'=>h'.elim))
end
def eS(cells:List (Str×Addr)):List (Str×NameKind)->List (Str×Addr)->List (Str×Addr)
 | [],acc=>acc
 |(n,k)::r,acc=>if k== .free then(match cells.lookup n with|some c=>eS cells r ((n,c)::acc)|none=>eS cells r acc)else eS cells r acc
theorem eD{cells:List (Str×Addr)}:∀(names:List (Str×NameKind)) (acc:List (Str×Addr)),(∀x c,acc.lookup x=some c->cells.lookup x=some c)->
 ∀x c,(eS cells names acc).lookup x=some c->cells.lookup x=some c
 | [],acc,h,x,c,e=>h x c e
 |(n,k)::r,acc,h,x,c,e=>by
  unfold eS at e;split at e
  . split at e
    . rename_i d q;refine eD r _ (λ y b e'=>?_) x c e;rw[Ve]at e';split at e'
      . rename_i z;cases e';have z':y=n:=by simpa using z
        rw[z'];exact q
      . exact h y b e'
    . exact eD r _ h x c e
  . exact eD r _ h x c e
theorem kJ{cells:List (Str×Addr)}{x:Str}:∀(names:List (Str×NameKind)) (acc:List (Str×Addr)),(∃c,cells.lookup x=some c)->((x,NameKind.free)∈names\/∃c,acc.lookup x=some c)->
 ∃c,(eS cells names acc).lookup x=some c
 | [],acc,_,h=>by
   rcases h with h|h
   . simp at h
   . exact h
 |(n,k)::r,acc,hc,h=>by
  unfold eS;split
  . rename_i hk;split
    . rename_i d q;refine kJ r _ hc ?_;rcases h with h|⟨c,h⟩
      . rcases UT.mp h with e|e
        . cases e;exact .inr ⟨d,by simp[Ve]⟩
        . exact .inl e
      . refine .inr ?_;rw[Ve];split
        . exact⟨_,rfl⟩
        . exact⟨c,h⟩
    . rename_i q;refine kJ r _ hc ?_;rcases h with h|h
      . rcases UT.mp h with e|e
        . cases e;obtain⟨c,hc⟩:=hc;rw[hc]at q;cases q
        . exact .inl e
      . exact .inr h
  . rename_i hk;refine kJ r _ hc ?_;rcases h with h|h
    . rcases UT.mp h with e|e
      . cases e;exact absurd rfl hk
      . exact .inl e
    . exact .inr h
theorem p9{scope:Scope}{env:Env}(h:∀x∈scope.names,x.2= .free->∃c,env.cells.lookup x.1=some c):closureFor scope env=pure (eS env.cells scope.names []):=by
 have key:∀(names:List (Str×NameKind)) (acc:List (Str×Addr)),(∀x∈names,x.2= .free->∃c,env.cells.lookup x.1=some c)->
  (forIn names acc (λ(x:Str×NameKind) (cs:List (Str×Addr))=>if(x.2==NameKind.free)=true then(do let a <-cellOf env x.1;pure (ForInStep.yield ((x.1,a)::cs)):Sem (ForInStep (List (Str×Addr))))else pure (ForInStep.yield cs)))=(pure (eS env.cells names acc):Sem (List (Str×Addr))):=by
  intro names;induction names with
  |nil=>intro acc _;rfl
  |cons p r ih=>
   intro acc hh;obtain⟨n,k⟩:=p;rw[W9];have ih':=ih;by_cases hk:(k==NameKind.free)=true
   . obtain⟨c,e⟩:=hh (n,k) UZ (by simpa using hk);simp only[hk,Wx]
     have e1:cellOf env n=pure c:=by
      unfold cellOf;rw[e]
     rw[e1];simp only[pure_bind];rw[ih _ λ x hx=>hh x (UQ _ hx)];conv=>rhs;unfold eS
     simp only[hk,Wx];rw[show env.cells.lookup n=some c from e]
   . have hk':(k==NameKind.free)=false:=by simpa using hk
     simp only[hk',Bool.false_eq_true,XX,pure_bind];rw[ih _ λ x hx=>hh x (UQ _ hx)];conv=>rhs;unfold eS
     simp only[hk',Bool.false_eq_true,XX]
 unfold closureFor;have:=key scope.names [] h;rw[bind_pure]
 first
  |exact this
  |(simp only[bind_pure]at this⊢;exact this)
end L3
namespace L3
open PySem PySem.Spec L2
open PyProof.Rows hiding St
theorem ij(env:Env):∀(names:List (Str×NameKind)) (x:Str),
 (names.map λ(n,k)=>if(k==NameKind.free&&env.scope.kind== .function&&env.kindOf n==some .cell)then(n,NameKind.cell)else(n,k)).lookup x=
   (names.lookup x).map λ k=>if(k==NameKind.free&&env.scope.kind== .function&&env.kindOf x==some .cell)then NameKind.cell else k
 | [],_=>rfl
 |(n,k)::r,x=>by
  show List.lookup x ((if(k==NameKind.free&&env.scope.kind== .function&&env.kindOf n==some .cell)=true then(n,NameKind.cell)else(n,k))::_)=_;cases hx:x==n with
  |true=>
   have e:x=n:=by simpa using hx
   subst e;by_cases hc:(k==NameKind.free&&env.scope.kind== .function&&env.kindOf x==some .cell)=true
   . rw[UA hc];simp only[Ve,Xs,WQ];rw[UA hc]
   . rw[Uy hc];simp only[Ve,Xs,WQ];rw[Uy hc]
  |false=>
   by_cases hc:(k==NameKind.free&&env.scope.kind== .function&&env.kindOf n==some .cell)=true
   . rw[UA hc];simp only[Ve,hx];exact ij env r x
   . rw[Uy hc];simp only[Ve,hx];exact ij env r x
theorem A9{env:Env}{scope:Scope}{x:Str}(h:scope.names.lookup x=some .free):(relabel scope env).names.lookup x=some .cell\/(relabel scope env).names.lookup x=some .free:=by
 have e:(relabel scope env).names.lookup x=_:=ij env scope.names x;rw[e,h];simp only[WQ];split
 . exact .inl rfl
 . exact .inr rfl
theorem z9{env:Env}{scope:Scope}{x:Str}(h:(relabel scope env).names.lookup x=some .cell\/(relabel scope env).names.lookup x=some .free):(x,NameKind.free)∈scope.names\/scope.names.lookup x=some .cell:=by
 have e:(relabel scope env).names.lookup x=_:=ij env scope.names x;rw[e]at h;cases q:scope.names.lookup x with
 |none=>rw[q]at h;rcases h with h|h<;>cases h
 |some k=>
  rw[q]at h;simp only[WQ]at h;have m:=VC q;by_cases hc:(k==NameKind.free&&env.scope.kind== .function&&env.kindOf x==some .cell)=true
  . have:k= .free:=by
     simp only[UR]at hc;simpa using hc.1.1
    subst this;exact .inl m
  . rw[Uy hc]at h;rcases h with h|h
    . cases h;exact .inr rfl
    . cases h;exact .inl m
theorem fN:∀(names:List (Str×NameKind)) (L:Nat) (acc:List (Str×Addr)),cellsFrom L names acc=cellsFrom L names []++acc
 | [],_,_=>rfl
 |(n,k)::r,L,acc=>by
  unfold cellsFrom;by_cases hk:(k==NameKind.cell)=true
  . rw[UA hk,UA hk,fN r (L+1) ((n,L)::acc),fN r (L+1) [(n,L)],V9];rfl
  . rw[Uy hk,Uy hk];exact fN r L acc
theorem qr:∀ {names:List (Str×NameKind)} {L:Nat} {x:Str} {c:Addr},(x,c)∈cellsFrom L names []->(x,NameKind.cell)∈names
 | [],_,_,_,h=>by unfold cellsFrom at h;cases h
 |(n,k)::r,L,x,c,h=>by
  unfold cellsFrom at h;by_cases hk:(k==NameKind.cell)=true
  . rw[UA hk,fN]at h;have hk':k= .cell:=by simpa using hk
    subst hk';rcases VJ.mp h with h|h
    . exact UQ _ (qr h)
    . have:(x,c)=(n,L):=by simpa using h
      cases this;exact UZ
  . rw[Uy hk]at h;exact UQ _ (qr h)
theorem pN:∀ {l1 l2:List (Str×Addr)} {x:Str} {c:Addr},(l1++l2).lookup x=some c->l1.lookup x=some c\/(l1.lookup x=none/\l2.lookup x=some c)
 | [],_,_,_,h=> .inr ⟨rfl,h⟩
 |(n,d)::l1,l2,x,c,h=>by
  rw[List.cons_append,Ve]at h;rw[Ve];cases hx:x==n with
  |true=>rw[hx]at h;exact .inl h
  |false=>rw[hx]at h;exact pN h
theorem tJ:∀ {l1 l2:List (Str×Addr)} {x:Str},l1.lookup x=none->(l1++l2).lookup x=l2.lookup x
 | [],_,_,_=>rfl
 |(n,d)::l1,l2,x,h=>by
  rw[Ve]at h;rw[List.cons_append,Ve];cases hx:x==n with
  |true=>rw[hx]at h;cases h
  |false=>rw[hx]at h;exact tJ h
def kG(scope:Scope)(C:Addr)(cl:List (Str×Addr)):List (Str×Addr):=cellsFrom (C+1) scope.names cl
theorem gZ{scope:Scope}{C:Addr}{cl:List (Str×Addr)}{x:Str}{c:Addr}(h:(kG scope C cl).lookup x=some c):(x,c)∈cellsFrom (C+1) scope.names []\/cl.lookup x=some c:=by
 unfold kG at h;rw[fN]at h;rcases pN h with h|h
 . exact .inl (VC h)
 . exact .inr h.2
theorem Ph(names:List (Str×NameKind))(h:Heap){C:Addr}(e:h.objs.size=C+1):CellsOk (pushCells h names) (C+1) (cellsFrom (C+1) names []):=by
 have:=cellsFrom_ok names h (C+1) [] ⟨λ _ _ hm=>(nomatch hm),List.Pairwise.nil⟩ (by rw[e];exact UB _);rw[e]at this;exact this
theorem mn{names:List (Str×NameKind)}{C:Addr}{x:Str}{c:Addr}:∀ {L:Nat},C<=L->(x,c)∈cellsFrom L names []->C<=c:=by
 induction names with
 |nil=>intro L _ h;unfold cellsFrom at h;cases h
 |cons p r ih=>
  obtain⟨n,k⟩:=p;intro L hL h;unfold cellsFrom at h;by_cases hk:(k==NameKind.cell)=true
  . rw[UA hk,fN]at h;rcases VJ.mp h with h|h
    . exact ih (UG hL (Nat.le_succ L)) h
    . have:(x,c)=(n,L):=by simpa using h
      cases this;exact hL
  . rw[Uy hk]at h;exact ih hL h
theorem own_apart{names:List (Str×NameKind)}{x y:Str}{c:Addr}:∀ {L:Nat},(x,c)∈cellsFrom L names []->(y,c)∈cellsFrom L names []->x=y:=by
 induction names with
 |nil=>intro L h;unfold cellsFrom at h;cases h
 |cons p r ih=>
  obtain⟨n,k⟩:=p;intro L h1 h2;unfold cellsFrom at h1 h2;by_cases hk:(k==NameKind.cell)=true
  . rw[UA hk,fN]at h1 h2;rcases VJ.mp h1 with g1|g1<;>rcases VJ.mp h2 with g2|g2
    . exact ih g1 g2
    . have e2:(y,c)=(n,L):=by simpa using g2
      have ec:c=L:=(YR e2).2;have:=mn (C:=L+1) (UB _) g1;rw[ec]at this;exact absurd this (Nat.not_succ_le_self _)
    . have e1:(x,c)=(n,L):=by simpa using g1
      have ec:c=L:=(YR e1).2;have:=mn (C:=L+1) (UB _) g2;rw[ec]at this;exact absurd this (Nat.not_succ_le_self _)
    . have e1:(x,c)=(n,L):=by simpa using g1
      have e2:(y,c)=(n,L):=by simpa using g2
      exact(YR e1).1.trans (YR e2).1.symm
  . rw[Uy hk]at h1 h2;exact ih h1 h2
theorem ug{M:Model}{A:Around}{E:Value->Shared->Prop}{s:Shared}{scope:Scope}{globals:Addr}{cl:List (Str×Addr)}{qual:Str}{env:Env}{Q:Env->Shared->Prop}
 (hQ:Q (newEnv scope s.heap.objs.size globals (kG scope s.heap.objs.size cl) qual none .none (some env) builtinsNs) {s with heap:=pushCells (s.heap.push {cls:= .type "dict",data:= .dict #[]}) scope.names}):
 wpAny M A (newFunctionEnv scope globals cl [] qual none .none (some env)) Q E s:=by
 simp only[newFunctionEnv,Option.isSome_some,Wx];refine Uu (wpAny_alloc ?_);refine Uu (wpAny_layCells _ (λ name kind cells=>by cases hkc:kind==NameKind.cell<;>simp[hkc]) _ _ _ _ ?_);rw[show({s with heap:=s.heap.push {cls:= .type "dict",data:= .dict #[]}}:Shared).heap.objs.size=s.heap.objs.size+1 from Vm ..];rw[Xg];exact Uu (UK (UK hQ))
structure cc(X:Cx)(scope:Scope)(Nc:List Str)(fr:List (Option Nat)):Prop where
 kind:scope.kind= .function
 cells:∀x∈scope.names,x.2= .cell->scope.names.lookup x.1=some .cell
 names:∀x∈scope.names,x.2= .local->scope.names.lookup x.1=some .local
 free:∀x∈scope.names,x.2= .free->X.env.kindOf x.1=some .cell\/X.env.kindOf x.1=some .free
 len:fr.length=Nc.length
 map:∀(i j:Nat) (x:Str),Nc[i]?=some x->fr[i]?=some (some j)->X.N[j]?=some x/\scope.names.lookup x=some .free/\(X.env.kindOf x=some .cell\/X.env.kindOf x=some .free)
def σC(fr:List (Option Nat))(σ:St):St:=fr.map λ o=>o.bind λ j=>(σ[j]?).join
def bY(X:Cx)(scope:Scope)(Nc:List Str)(C:Addr)(s:Shared)(H:Hp)(ex:List Addr):Cx:=
 {X with N:=Nc,s₀:=s,H₀:=H,env:=compEnvC scope (kG scope C (eS X.env.cells scope.names [])) C X.env,outer:=X.stack,stack:=X.stack,ex:=ex,fn:=λ x=>scope.names.lookup x==some .cell,pn:=[],xe:=λ _ _=>False}
def so(wi:TI)(fr:List (Option Nat))(g:TG)(c:TT)(te:TE):TE:=λ σ H Q=>wi σ H λ J H1=>∀l,H1 l=none->
 ∃W:Nat->Nat->L2.St->Hp->Prop,(∃m,W 0 m (σC fr σ) (upd H1 l (.lst [])))/\∀i m σ H,W i m σ H->
  (J.stop i H/\Q (.ref l) H)\/(J.go i H/\∃N:L2.St->Hp->Prop,(∀σ' H',N σ' H'->∃m',m'<m/\W (i+1) m' σ' H')/\∀x H',J.m7 i H x H'->
    g x σ H' λ σ2 H2=>c σ2 H2 λ b H3=>if b=true then te σ2 H3 λ y H4=>∃ys,H4 l=some (.lst ys)/\ys.length<sizeLine/\N σ2 (upd H4 l (.lst (ys++[y])))else N σ2 H3)
def vm(X:Cx)(ifs:List Expr)(t:TT):Prop:=
 ∀(pins:List (Addr×Obj)) (s:Shared) (σ:St) (H:Hp) (Q:Bool->Hp->Prop),Inv X pins σ H s->t σ H Q->
  wpAny (model X.prog X.w) X.A (forIn ifs true λ c r=>if r=true then do let ok <-isTrue c X.env (eval c X.env);pure (ForInStep.yield ok)else pure (ForInStep.yield r)) (TP X pins σ Q) X.xe s
def RW:TT:=λ _ H Q=>Q true H
theorem Mp{X:Cx}:vm X [] RW:=λ _ _ _ H _ I h=>wpAny_tests_nil ⟨H,I,h⟩
section
variable {X:Cx}{scope:Scope}{Nc:List Str}{fr:List (Option Nat)}{pins:List (Addr×Obj)}{σ:St}{H:Hp}{s:Shared}
theorem Pl{C:Addr}{fp:List Addr}(S:cc X scope Nc fr)(I:Inv X pins σ H s)(hC:C=s.heap.objs.size)(hf:∀b∈fp,kh X pins H b)(hlt:∀b∈fp,b<s.heap.objs.size)(hnc:∀b∈fp,∀x c,X.env.cells.lookup x=some c->c≠b):
 (bY X scope Nc C s H fp).Ok where
 mod:=I.ok.mod
 kind:=S.kind
 glob:=I.ok.glob
 blt:=I.ok.blt
 above:=Y8 hC.symm
 inj:=λ x y c h1 h2=>by
  have low:∀ {z},(eS X.env.cells scope.names []).lookup z=some c->c<s.heap.objs.size:=λ{z} hz=>by
   obtain⟨v,q⟩:=I.cell z c (eD _ [] (λ _ _ e=>by cases e) z c hz);exact q.lt
  rcases gZ h1 with h1|h1<;>rcases gZ h2 with h2|h2
  . exact own_apart h1 h2
  . have a:=mn (C:=C+1) (UB _) h1;have b:c<C:=by rw[hC];exact low h2
    exact absurd a (Nat.not_le_of_gt (Yl b))
  . have a:=mn (C:=C+1) (UB _) h2;have b:c<C:=by rw[hC];exact low h1
    exact absurd a (Nat.not_le_of_gt (Yl b))
  . exact I.ok.inj x y c (eD _ [] (λ _ _ e=>by cases e) x c h1) (eD _ [] (λ _ _ e=>by cases e) y c h2)
 has:=λ x hx=>by
  rcases z9 hx with m|m
  . obtain⟨c,e⟩:=kJ scope.names [] (I.ok.has x (S.free _ m rfl)) (.inl m);exact WI.mp (Wr _ _ _ (.inr (by rw[e];rfl)))
  . exact WI.mp (Wr _ _ _ (.inl m))
 Cg:=λ x c hf h=>by
  have hl:scope.names.lookup x=some .cell:=by
   have:(scope.names.lookup x==some .cell)=true:=hf;simpa using this
  obtain⟨c',e⟩:=WI.mp (Wr (x:=x) scope.names (C+1) [] (.inl hl))
  have h':(cellsFrom (C+1) scope.names []++eS X.env.cells scope.names []).lookup x=some c:=by
   rw[<-fN];exact h
  rcases pN h' with q|q
  . have:=mn (C:=C+1) (UB _) (VC q);show s.heap.objs.size<=c;rw[<-hC];exact Ym this
  . rw[q.1]at e;cases e
 hd:=I.ok.hd
 frames:=I.ok.frames
 Hv:= .inl rfl
 J6:=λ b hb=>⟨by rw[show(bY X scope Nc C s H fp).env.locals=s.heap.objs.size from hC];exact Vg (hlt b hb),λ x c h=>by
  rcases gZ h with h|h
  . have a:=mn (C:=C+1) (UB _) h;have b':b<C:=by rw[hC];exact hlt b hb
    exact WG (UY b' (Ym a))
  . exact hnc b hb x c (eD _ [] (λ _ _ e=>by cases e) x c h)⟩
 bs:=I.bs
 vn:=UG I.ok.vn I.sz
 we:=λ b o e hb=>by
  have hn:=(hf b hb).2.2.2.1;rcases hn with hn|hn
  . exact I.ok.we b o e hn
  . exact absurd (UN (I.ok.bs b o e).1) (Nat.not_lt.mpr hn)
 wo:=λ b hb z=>by
  have q:=I.A7 b z;rcases UT.mp q with q|q
  . exact(hf b hb).2.1 q
  . exact(hf b hb).2.2.1 q
 kj:=I.stack
 xY:=λ b hb=>I.Cf b hb
 gt:=I.ok.gt
theorem ML{i:Nat}{v:V}(h:(σC fr σ)[i]?=some (some v)):∃j,fr[i]?=some (some j)/\σ[j]?=some (some v):=by
 unfold σC at h;rw[UM]at h;cases q:fr[i]? with
 |none=>rw[q]at h;cases h
 |some o=>
  rw[q]at h;cases o with
  |none=>simp at h
  |some j=>
   simp only[WQ,Yn,Option.bind_some]at h;refine⟨j,rfl,?_⟩;cases r:σ[j]? with
   |none=>rw[r]at h;cases h
   |some u=>rw[r]at h;simp at h;rw[h]
theorem HJ{s':Shared}{h':Heap}{C:Addr}{fp:List Addr}{t':Nat}(S:cc X scope Nc fr)(I:Inv X pins σ H s)(hC:C=s.heap.objs.size)(ok:(bY X scope Nc C s H fp).Ok)(hfr:∀b∈fp,H b=none)
 (k:∀b o,s.heap.get? b=some o->h'.get? b=some o) (hn:h'.Ns C (λ _=>none)) (hcs:∀x c,(x,c)∈cellsFrom (C+1) scope.names []->h'.IsCell c none):Inv (bY X scope Nc C s H fp) [] (σC fr σ) H {s with heap:=h',toks:=t'} where
 ok:=ok
 os:=rfl
 bare:=I.bare
 base:=Un.kept k
 loc:=⟨_,hn,λ i x v h1 h2 h3=>by
  obtain⟨j,q1,q2⟩:=ML h2;obtain⟨n1,n2,n3⟩:=S.map i j x h1 q1;obtain⟨m,hm,hl⟩:=I.loc
  have vis:zy X.env.scope x:=by
   rcases n3 with z|z
   . exact .inr (.inl z)
   . exact .inr (.inr z)
  obtain⟨u,r,lk⟩:=hl j x v n1 q2 vis;refine⟨u,r,?_⟩;rcases lk with⟨z,_⟩|⟨z,c,e,ic⟩
  . rcases n3 with y|y
    . rw[y]at z;cases z
    . rw[y]at z;cases z
  . refine .inr ⟨A9 n2,?_⟩;obtain⟨c',e'⟩:=kJ scope.names [] ⟨c,e⟩ (.inl (VC n2));have e2:=eD _ [] (λ _ _ e=>by cases e) x c' e';rw[e]at e2;cases e2;refine⟨c,?_,ic.keeps k⟩;show(kG scope C (eS X.env.cells scope.names [])).lookup x=some c;unfold kG;rw[fN,tJ ?_]
    . exact e'
    . cases q:(cellsFrom (C+1) scope.names []).lookup x with
      |none=>rfl
      |some c2=>
       have:=S.cells _ (qr (VC q)) rfl;rw[n2]at this;cases this⟩
 cell:=λ x c h=>by
  rcases gZ h with h|h
  . exact⟨_,hcs x c h⟩
  obtain⟨v,q⟩:=I.cell x c (eD _ [] (λ _ _ e=>by cases e) x c h);exact⟨v,q.keeps k⟩
 free:=by show H C=none;rw[hC];exact I.aC.fresh (UB _)
 jM:=λ x c h=>by
  rcases gZ h with h|h
  . have a:=mn (C:=C+1) (UB _) h;exact I.aC.fresh (by rw[<-hC];exact Ym a)
  . exact I.jM x c (eD _ [] (λ _ _ e=>by cases e) x c h)
 pin:=λ p hp=>by cases hp
 aC:=I.aC.kept k
 len:=by unfold σC;rw[Uz];exact S.len
theorem Inv.forget{C:Addr}{h':Heap}(I:Inv X pins σ H s)(f:kh X pins H C)(hs:Heap.SameBut C s.heap h'):Inv X pins σ H {s with heap:=h'}:=by
 refine I.Kp (s':={s with heap:=h'}) (ch:=[C]) rfl ?_ ?_ I.bare λ b hb=>?_
 . have ne:∀b,b∉[C]->b≠C:=λ b hb z=>hb (by simp[z]);exact{keep:=λ b o q _ _ hx=>(hs.2 b (ne b hx)).trans q,slot:=λ b o q _ _ hx=>⟨o.slots,(hs.2 b (ne b hx)).trans q⟩,free:=λ b o q n _=>n,there:=λ b o q hx=>⟨o,(hs.2 b (ne b hx)).trans q⟩,o7:=λ _ _ e=>e,og:=λ _ _ _ e=>e,nD:=λ b ps e=>⟨#[],by rw[e];simp⟩}
 . intro a o q;have na:∀b u,H b=some u->b≠C:=λ b u q z=>by rw[z,f.1]at q;cases q
   refine(I.aC a o q).rE (λ b u hb e=>?_) (λ _ q=>q) λ _ _ q=>q;rw[hs.2 b ?_]
   . exact e
   . rcases hb with rfl|hb
     . exact na _ _ q
     . exact na _ _ hb
 . have:b=C:=by simpa using hb
   subst this;exact⟨f.2.2.2.1,f.2.1,f.2.2.2.2.1,f.2.2.2.2.2⟩
theorem u0{elt tg iter:Expr}{ifs:List Expr}{wi:TI}{g:TG}{c:TT}{te:TE}{pos:Pos}{Q:VK}{RR:Value->Addr->Result->Shared->Prop}(hx:X.xe=λ _ _=>False)(hc:X.calm=true)(S:cc X scope Nc fr)(hi:PI X tg iter wi)
 (hg:∀C s H ex,PG (bY X scope Nc C s H ex) tg g) (ht:∀C s H ex,vm (bY X scope Nc C s H ex) ifs c) (he:∀C s H ex,PE (bY X scope Nc C s H ex) elt te) (I:Inv X pins σ H s) (h:so wi fr g c te σ H Q)
 (fin:∀(l C:Addr) (s6:Shared) (H5:Hp) (m:Str->Option Value),s6.heap.Ns C m->kh X pins H5 C->Inv X pins σ H5 s6->Q (.ref l) H5->RR (.ref l) C (.ok .next) s6):
 wpAny (model X.prog X.w) X.A (eval iter X.env) (λ x s₁=>wpAny (model X.prog X.w) X.A (pyIter x) (λ it s₂=>wpAny (model X.prog X.w) X.A (newList []) (λ acc s₃=>
  wpAny (model X.prog X.w) X.A (newFunctionEnv scope X.env.globals (eS X.env.cells scope.names []) [] X.env.qual none .none (some X.env)) (λ cenv s₄=>
   codeAny (model X.prog X.w) X.A (.compStart (.ListComp elt [⟨tg,iter,ifs,0⟩] scope pos) 0 it acc {cenv with scope:=relabel scope X.env}) (RR acc cenv.locals) s₄) X.xe s₃) X.xe s₂) X.xe s₁) X.xe s:=by
 refine br (hi pins s σ H _ I h) λ v s1 h1=>br h1 λ itv s2 h2=>?_;obtain⟨it,fp,tn,J,H2,e,I2,T,st2,f2,hR⟩:=h2;subst e;refine wpAny_newList ?_ (VP _);have I3:=I2.Iy (t':=s2.toks) (ao:=[]) (ys:=[]) .nil (VP _);generalize e3:({s2 with heap:=s2.heap.push {cls:= .type "list",data:= .seq ([]:List Value).toArray}}:Shared)=s3;have I3:Inv X pins σ (upd H2 s2.heap.objs.size (.lst [])) s3:=by rw[<-e3];exact I3
 have ml:s2.heap.objs.size<s3.heap.objs.size:=by rw[<-e3];show _<(s2.heap.push _).objs.size;rw[Vm];lia
 have k3:∀b o,s2.heap.get? b=some o->s3.heap.get? b=some o:=λ b o q=>by rw[<-e3];exact Uv _ q
 obtain⟨W,⟨m0,w0⟩,turn⟩:=hR s2.heap.objs.size (I2.aC.fresh (UB _));refine ug ?_;have hn:(pushCells (s3.heap.push {cls:= .type "dict",data:= .dict #[]}) scope.names).Ns s3.heap.objs.size (λ _=>none):=(Heap.Ns.new s3.heap (.type "dict")).keeps (pushCells_keeps _ _);have hcs:∀x c,(x,c)∈cellsFrom (s3.heap.objs.size+1) scope.names []->(pushCells (s3.heap.push {cls:= .type "dict",data:= .dict #[]}) scope.names).IsCell c none:=λ x c h=>((Ph scope.names _ (Vm ..)).empty x c h).1;have k4:∀b o,s3.heap.get? b=some o->(pushCells (s3.heap.push {cls:= .type "dict",data:= .dict #[]}) scope.names).get? b=some o:=λ b o q=>pushCells_keeps _ _ b o (Uv _ q);generalize(pushCells (s3.heap.push {cls:= .type "dict",data:= .dict #[]}) scope.names)=h' at hn hcs k4⊢;have hobj:∀b∈fp,∃o,s2.heap.get? b=some o/\∀v,o.data≠ .cell v:=T.obj _ _ st2;have hlt2:∀b∈fp,b<s3.heap.objs.size:=λ b hb=>let⟨o,q,_⟩:=hobj b hb;UN (k3 b o q)
 have hnl:∀b∈fp,b≠s2.heap.objs.size:=λ b hb=>by
  obtain⟨o,q,_⟩:=hobj b hb;exact Vg (UN q)
 have f3:∀b∈fp,kh X pins (upd H2 s2.heap.objs.size (.lst [])) b:=λ b hb=>⟨by rw[aF (hnl b hb)];exact(f2 b hb).1,(f2 b hb).2⟩
 have ok:=Pl (C:=s3.heap.objs.size) (fp:=fp) S I3 rfl f3 hlt2 λ b hb=>(f2 b hb).2.2.2.2.1
 have I4:Inv (bY X scope Nc s3.heap.objs.size s3 (upd H2 s2.heap.objs.size (.lst [])) fp) [] (σC fr σ) (upd H2 s2.heap.objs.size (.lst [])) {s3 with heap:=h',toks:=s3.toks}:=
  HJ (s':=s3) S I3 rfl ok (λ b hb=>(f3 b hb).1) k4 hn hcs
 have st4:tn 0 h':=T.keep _ _ _ st2 λ b _ o q=>k4 b o (k3 b o q);generalize hXc:bY X scope Nc s3.heap.objs.size s3 (upd H2 s2.heap.objs.size (.lst [])) fp=Xc at I4;have hgc:PG Xc tg g:=by rw[<-hXc];exact hg _ _ _ _
 have htc:vm Xc ifs c:=by rw[<-hXc];exact ht _ _ _ _
 have hec:PE Xc elt te:=by rw[<-hXc];exact he _ _ _ _
 have xP:Xc.prog=X.prog:=by rw[<-hXc];rfl
 have xW:Xc.w=X.w:=by rw[<-hXc];rfl
 have xK:Xc.K=X.K:=by rw[<-hXc];rfl
 have xc:Xc.calm=true:=by rw[<-hXc];exact hc
 have xA:Xc.A=X.A:=by rw[<-hXc];rfl
 have xE:Xc.env=compEnvC scope (kG scope s3.heap.objs.size (eS X.env.cells scope.names [])) s3.heap.objs.size X.env:=by rw[<-hXc];rfl
 have xx:Xc.xe=λ _ _=>False:=by rw[<-hXc];rfl
 have fpc:∀ {H':Hp},(∀b∈fp,H' b=none)->∀b∈fp,kh Xc [] H' b:=λ{H'} hn b hb=>by
  rw[<-hXc];refine⟨hn b hb,Vg (hlt2 b hb),ok.wo b hb,.inl hb,(ok.J6 b hb).2,λ p hp=>by cases hp⟩
 have loop:codeAny (model X.prog X.w) X.A (.compLoop (.ListComp elt [⟨tg,iter,ifs,0⟩] scope pos) 0 (.ref it) (.ref s2.heap.objs.size) (compEnvC scope (kG scope s3.heap.objs.size (eS X.env.cells scope.names [])) s3.heap.objs.size X.env))
  (RR (.ref s2.heap.objs.size) s3.heap.objs.size) {s3 with heap:=h',toks:=s3.toks}:=by
  refine BE (λ n s'=>∃i σ' H',Inv Xc [] σ' H' s'/\tn i s'.heap/\(∀b∈fp,H' b=none)/\W i n σ' H') ?_ m0 ⟨0,_,_,I4,st4,λ b hb=>(f3 b hb).1,w0⟩;rintro n s5 ⟨i,σ5,H5,I5,st5,fr5,w5⟩;rcases turn i n σ5 H5 w5 with⟨stop,qn⟩|⟨go,N,hN,step⟩
  . have q:=T.done Xc xP xW xK xc i [] s5 σ5 H5 (λ _ _=>False) I5 (fpc fr5) st5 stop;rw[xA]at q;refine br q λ r s6 ⟨hr,I6⟩=>?_;subst hr;obtain⟨m,hm,_⟩:=I6.loc;rw[xE]at hm;have free6:H5 s3.heap.objs.size=none:=by have:=I6.free;rw[xE]at this;exact this
    have un6:Un (oy X.stack) fp (upd H2 s2.heap.objs.size (.lst [])) H5 s3.heap s6.heap:=by have:=I6.base;rw[<-hXc]at this;exact this
    have os6:s6.os=s3.os:=by have:=I6.os;rw[<-hXc]at this;exact this
    have hok6:gv X.prog X.w H5 s6.heap:=by have:=I6.aC;rw[xP,xW]at this;exact this
    have J:=I3.Kp (s':=s6) (ch:=fp) os6 un6 hok6 I6.bare λ b hb=>⟨(f3 b hb).2.2.2.1,(f3 b hb).2.1,(f3 b hb).2.2.2.2.1,(f3 b hb).2.2.2.2.2⟩
    exact fin _ _ s6 H5 m hm (I3.uc (UB _) free6) J qn
  . have q:=T.item Xc xP xW xK xc i [] s5 σ5 H5 (λ _ _=>False) I5 (fpc fr5) st5 go;rw[xA]at q;refine br q λ r s6 ⟨u,hr,h6⟩=>?_;subst hr;refine br h6 λ _ s7 ⟨x,H7,I7,r7,y7,st7,fr7⟩=>?_;have I7':=I7.pinned (fpc fr7) (T.obj _ _ st7);have q8:=hgc _ s7 σ5 H7 x u _ I7' r7 (step x H7 y7);rw[xP,xW,xA,xE,xx]at q8;refine br q8 λ _ s8 ⟨σ8,H8,I8,q8⟩=>?_;have q9:=htc _ s8 σ8 H8 _ I8 q8;rw[xP,xW,xA,xE,xx]at q9;refine br q9 λ b s9 ⟨H9,I9,q9⟩=>?_
    have again:∀ {H':Hp} {s':Shared},Inv Xc ([]++rq fp s7.heap) σ8 H' s'->N σ8 H'->∃m,m<n/\∃i σ' H',Inv Xc [] σ' H' s'/\tn i s'.heap/\(∀b∈fp,H' b=none)/\W i m σ' H':=λ{H' s'} J nn=>by
     obtain⟨m',hm,w7⟩:=hN σ8 H' nn;refine⟨m',hm,i+1,σ8,H',J.pJ,T.keep _ _ _ st7 λ b hb o e=>(J.pin (b,o) (Vx _ (Vx _ (lG hb e)))).1,λ b hb=>?_,w7⟩;obtain⟨o,e,d⟩:=T.obj _ _ st7 b hb;exact(J.pin (b,o) (Vx _ (Vx _ (lG hb e)))).2.1
    cases b with
    |false=>exact again I9 q9
    |true=>
     have qe:=hec _ s9 σ8 H9 _ I9 q9;rw[xP,xW,xA,xE,xx]at qe;refine br qe λ y s10 ⟨vy,H10,I10,ry,ys,hy,hlt,qN⟩=>?_;have qa:=xy (X:=Xc) _ s10 σ8 H10 (.ref s2.heap.objs.size) [vy] (.ref s2.heap.objs.size) [y] (λ _ H'=>N σ8 H') I10 rfl (.cons ry .nil) ⟨_,ys,vy,rfl,rfl,hy,hlt,qN⟩;rw[xP,xW,xA,xx]at qa;exact br qa λ _ s11 ⟨_,H11,I11,_,q11⟩=>again I11 q11
 refine codeAny_compStart_list ?_ ?_
 . exact loop
 . exact T.self _ 0 _ _ _ st4 loop
theorem CO{elt tg iter:Expr}{ifs:List Expr}{wi:TI}{g:TG}{c:TT}{te:TE}{pos:Pos}(hx:X.xe=λ _ _=>False)(hc:X.calm=true)(S:cc X scope Nc fr)(hi:PI X tg iter wi)
 (hg:∀C s H ex,PG (bY X scope Nc C s H ex) tg g) (ht:∀C s H ex,vm (bY X scope Nc C s H ex) ifs c) (he:∀C s H ex,PE (bY X scope Nc C s H ex) elt te)
 (hs:∀x,foldedSetIterable iter X.env x=pure x:=by intro _;rfl):PE X (.ListComp elt [⟨tg,iter,ifs,0⟩] scope pos) (so wi fr g c te):=by
 intro pins s σ H Q I h;rw[eval_ListComp];have hcl:closureFor scope X.env=pure (eS X.env.cells scope.names []):=p9 λ x hx hk=>I.ok.has x.1 (S.free x hx hk);refine YE rfl hs hcl S.kind S.names ?_;exact u0 (RR:=λ acc C=>compPost (model X.prog X.w) X.A X.xe none (EP X pins σ Q) acc C) hx hc S hi hg ht he I h λ l C s6 H5 m hm f J q=>⟨m,hm,λ h'' hs''=>⟨.ref l,H5,Inv.forget J f hs'',rfl,q⟩⟩
theorem CN{elt tg iter:Expr}{ifs:List Expr}{wi:TI}{g:TG}{c:TT}{te:TE}{pos pos' spos:Pos}{i:Nat}{x:Str}(hx:X.xe=λ _ _=>False)(hc:X.calm=true)(S:cc X scope Nc fr)(hi:PI X tg iter wi)
 (hg:∀C s H ex,PG (bY X scope Nc C s H ex) tg g) (ht:∀C s H ex,vm (bY X scope Nc C s H ex) ifs c) (he:∀C s H ex,PE (bY X scope Nc C s H ex) elt te) (hN:X.N.Nodup) (hni:X.N[i]?=some x) (hl:Loc X.env.scope x) (hf:X.fn x=true\/X.env.scope.names.lookup x=some .local)
 (hsw:swapsWith (.ListComp elt [⟨tg,iter,ifs,0⟩] scope pos) (some (.Name x pos')) spos.line X.env=pure true)
 (hs:∀x,foldedSetIterable iter X.env x=pure x:=by intro _;rfl):PS X (.Assign [.Name x pos'] (.ListComp elt [⟨tg,iter,ifs,0⟩] scope pos) spos) (j0 (so wi fr g c te) (fe i)):=by
 intro pins s σ H D I h;have hcl:closureFor scope X.env=pure (eS X.env.cells scope.names []):=p9 λ x hx hk=>I.ok.has x.1 (S.free x hx hk);rw[exec_Assign_Name_used _ _ _ _ hsw];refine Uu (Xr (Uu ?_));show wpAny _ X.A (do let _ <-comprehension (.ListComp elt [⟨tg,iter,ifs,0⟩] scope pos) scope X.env _ (newList []) false (eval iter X.env) (some (assign (.Name x pos') X.env))) _ _ s
 refine Uu (Wo (YE (use:=some (assign (.Name x pos') X.env)) (Q:=λ _ s'=>SP X pins D .next s') rfl hs hcl S.kind S.names
  (u0 (RR:=λ acc C=>compPost (model X.prog X.w) X.A X.xe (some (assign (.Name x pos') X.env)) (λ _ s'=>SP X pins D .next s') acc C) hx hc S hi hg ht he I h λ l C s6 H5 m hm f J q=>?_)) (λ _ s' hq=>UK (UK hq)) λ _ _ e=>e)
 show wpAny _ X.A (assign (.Name x pos') X.env (.ref l)) _ _ _;refine wpAny_assign_Name (xI J hN hni hl (show RelV (.ref l) (.ref l)from rfl) (λ s7 J7 hch=>?_) hf);obtain⟨a,hsame,ha⟩:=hch
 have hCa:C≠a:=by
  rcases ha with rfl|ha
  . exact f.2.1
  . exact λ z=>f.2.2.2.2.1 x a ha z.symm
 refine⟨m,hm.sameBut hsame hCa,λ h'' hs''=>⟨σ.set i (some (.ref l)),H5,Inv.forget J7 f hs'',q⟩⟩
end
inductive D where
 |ay|bl (b:Bool)|int (i:Int)|str (x:Str)|ty (n:String)|ref (n:Nat)|lst (xs:List D)|tup (xs:List D)
inductive Cell where
 |lst (xs:List D)|ins (C:Addr) (fs:List (Str×D))|dead
  |tab (P:Addr) (pos:Pos) (qual:Str) (b:Bool)
abbrev af:=List Cell
abbrev bo:=List (Option D)
mutual
def Rep(α:List (Option Addr))(H:Hp):D->V->Prop
 | .ay,v=>v= .ay
 | .bl b,v=>v= .bl b
 | .int i,v=>v= .int i
 | .str x,v=>v= .str x
 | .ty n,v=>v= .ty n
 | .ref n,v=>α[n]?=some none\/∃a,α[n]?=some (some a)/\v= .ref a
 | .lst xs,v=>∃a vs,v= .ref a/\some a∉α/\Rd H a (.lst vs)/\aE α H xs vs
 | .tup xs,v=>∃a vs,v= .ref a/\some a∉α/\H a=some (.tup vs)/\aE α H xs vs
def aE(α:List (Option Addr))(H:Hp):List D->List V->Prop
 | [],vs=>vs=[]
 |d::ds,vs=>∃v r,vs=v::r/\Rep α H d v/\aE α H ds r
end
theorem aO{α:List (Option Addr)}{H:Hp}:∀ {ds:List D} {vs:List V},aE α H ds vs↔Paired (Rep α H) ds vs
 | [],vs=>by
   unfold aE;constructor
   . rintro rfl;exact .nil
   . intro h;cases h;rfl
 |d::ds,vs=>by
  unfold aE;constructor
  . rintro⟨v,r,rfl,h1,h2⟩;exact .cons h1 (aO.mp h2)
  . intro h;cases h with|cons h1 h2=>exact⟨_,_,rfl,h1,aO.mpr h2⟩
section
variable {α:List (Option Addr)}{H:Hp}
theorem aE.length{ds:List D}{vs:List V}(h:aE α H ds vs):ds.length=vs.length:=Paired.length (aO.mp h)
theorem vc{A B:Type}{F:A->B->Prop}:∀ {xs:List A} {ys:List B} {i:Nat} {x:A},Paired F xs ys->xs[i]?=some x->∃y,ys[i]?=some y/\F x y
 |_,_,_,_,.nil,e=>by simp at e
 |_,_,0,_,.cons r _,e=>by simp at e;subst e;exact⟨_,rfl,r⟩
 |_,_,i+1,x,.cons _ t,e=>by
  obtain⟨u,h1,h2⟩:=vc (i:=i) (x:=x) t (by simpa using e);exact⟨u,by simpa using h1,h2⟩
theorem dH{A B:Type}{F:A->B->Prop}:∀ {xs xs':List A} {ys ys':List B},Paired F xs ys->Paired F xs' ys'->Paired F (xs++xs') (ys++ys')
 |_,_,_,_,.nil,s=>s
 |_,_,_,_,.cons r t,s=> .cons r (dH t s)
theorem sS{A B:Type}{F:A->B->Prop}:∀ {xs:List A} {ys:List B} (n:Nat),Paired F xs ys->Paired F (xs.take n) (ys.take n)
 |_,_,0,_=> .nil
 |_,_,_+1,.nil=> .nil
 |_,_,n+1,.cons r t=> .cons r (sS n t)
theorem tu{A B:Type}{F:A->B->Prop}:∀ {xs:List A} {ys:List B} (n:Nat),Paired F xs ys->Paired F (xs.drop n) (ys.drop n)
 |_,_,0,r=>r
 |_,_,_+1,.nil=> .nil
 |_,_,n+1,.cons _ t=>tu n t
theorem pL{A B:Type}{F:A->B->Prop}{x:A}{y:B}(r:F x y):∀ {xs:List A} {ys:List B} (i:Nat),Paired F xs ys->Paired F (xs.set i x) (ys.set i y)
 |_,_,_,.nil=> .nil
 |_,_,0,.cons _ t=> .cons r t
 |_,_,i+1,.cons q t=> .cons q (pL r i t)
theorem nU{A B:Type}{F:A->B->Prop}{xs:List A}{ys:List B}(h:Paired F xs ys):∀k:Nat,Paired F (List.replicate k xs).flatten (List.replicate k ys).flatten
 |0=> .nil
 |k+1=>by
  rw[VY,VY,Wl,Wl];exact dH h (nU h k)
theorem aE.get{ds:List D}{vs:List V}{i:Nat}{d:D}(h:aE α H ds vs)(e:ds[i]?=some d):∃v,vs[i]?=some v/\Rep α H d v:=vc (aO.mp h) e
end
structure Step(α:List (Option Addr))(H:Hp)(α':List (Option Addr))(H':Hp):Prop where
 ext:∀b o,some b∉α->H b=some o->H' b=some o
 pre:∀(n:Nat) (x:Option Addr),α[n]?=some x->α'[n]?=some x\/α'[n]?=some none
 new:∀b,some b∈α'->some b∉α->H b=none
theorem Step.refl{α:List (Option Addr)}{H:Hp}:Step α H α H:=⟨λ _ _ _ h=>h,λ _ _ h=> .inl h,λ _ h n=>absurd h n⟩
theorem Step.trans{α α1 α2:List (Option Addr)}{H H1 H2:Hp}(a:Step α H α1 H1)(b:Step α1 H1 α2 H2):Step α H α2 H2 where
 ext:=λ c o hc e=>b.ext c o (λ z=>by rw[a.new c z hc]at e;cases e) (a.ext c o hc e)
 pre:=λ n x e=>by
  rcases a.pre n x e with h|h
  . exact b.pre n x h
  . rcases b.pre n none h with h'|h'
    . exact .inr h'
    . exact .inr h'
 new:=λ c hc n=>by
  by_cases h1:some c∈α1
  . exact a.new c h1 n
  . have:=b.new c hc h1;cases q:H c with
    |none=>rfl
    |some o=>rw[a.ext c o n q]at this;cases this
theorem Step.laid{α:List (Option Addr)}{H:Hp}{p:Addr}{o:HO}(h:H p=none):Step α H α (upd H p o):=
 ⟨λ b u _ e=>by rw[aF (d7 e h)];exact e,λ _ _ h=> .inl h,λ _ h n=>absurd h n⟩
theorem Step.cell{α:List (Option Addr)}{H:Hp}{p:Addr}{o:HO}(h:H p=none):Step α H (α++[some p]) (upd H p o):=
 ⟨λ b u _ e=>by rw[aF (d7 e h)];exact e,λ n x e=> .inl (by rw[UC (Uw.mp e).1];exact e),λ b hb n=>by
  rcases VJ.mp hb with z|z
  . exact absurd z n
  . have:b=p:=by simpa using z
    subst this;exact h⟩
theorem Step.write{α:List (Option Addr)}{H:Hp}{p:Addr}{o:HO}(h:some p∈α):Step α H α (upd H p o):=
 ⟨λ b u n e=>by rw[aF (λ z=>by subst z;exact n h)];exact e,λ _ _ h=> .inl h,λ _ h n=>absurd h n⟩
mutual
theorem Rep.step{α α':List (Option Addr)}{H H':Hp}(s:Step α H α' H'):∀ {d:D} {v:V},Rep α H d v->Rep α' H' d v
 | .ay,_,h=>by unfold Rep at h⊢;exact h
 | .bl _,_,h=>by unfold Rep at h⊢;exact h
 | .int _,_,h=>by unfold Rep at h⊢;exact h
 | .str _,_,h=>by unfold Rep at h⊢;exact h
 | .ty _,_,h=>by unfold Rep at h⊢;exact h
 | .ref n,_,h=>by
   unfold Rep at h⊢;rcases h with h|⟨a,e,r⟩
   . rcases s.pre _ _ h with z|z<;>exact .inl z
   . rcases s.pre _ _ e with z|z
     . exact .inr ⟨a,z,r⟩
     . exact .inl z
 | .lst xs,_,h=>by
   unfold Rep at h⊢;obtain⟨a,vs,e,n,r,q⟩:=h;refine⟨a,vs,e,λ z=>?_,?_,aE.step s q⟩
   . have:=s.new a z n;rcases r with r|⟨o,r⟩<;>(rw[this]at r;cases r)
   . rcases r with r|⟨o,r⟩
     . exact .inl (s.ext _ _ n r)
     . exact .inr ⟨o,s.ext _ _ n r⟩
 | .tup xs,_,h=>by
   unfold Rep at h⊢;obtain⟨a,vs,e,n,r,q⟩:=h;exact⟨a,vs,e,(λ z=>by rw[s.new a z n]at r;exact nomatch r),s.ext _ _ n r,aE.step s q⟩
theorem aE.step{α α':List (Option Addr)}{H H':Hp}(s:Step α H α' H'):∀ {ds:List D} {vs:List V},aE α H ds vs->aE α' H' ds vs
 | [],_,h=>by unfold aE at h⊢;exact h
 |d::ds,_,h=>by
  unfold aE at h⊢;obtain⟨v,r,e,h1,h2⟩:=h;exact⟨v,r,e,Rep.step s h1,aE.step s h2⟩
end
structure bZ(G F H:Hp):Prop where
 eq:∀b,H b=(G b).or (F b)
 zP:∀b o,G b=some o->F b=none
section
variable {G F H:Hp}
theorem bZ.get(P:bZ G F H){b:Addr}{o:HO}(h:G b=some o):H b=some o:=by rw[P.eq b,h];rfl
theorem bZ.same(P:bZ G F H):IU G H:=λ _ _ h=>P.get h
theorem bZ.none(P:bZ G F H){b:Addr}(h:H b=none):G b=none/\F b=none:=by
 have e:=P.eq b;rw[h]at e;cases q:G b with
 |none=>rw[q]at e;exact⟨rfl,e.symm⟩
 |some o=>rw[q]at e;cases e
theorem bZ.frame(P:bZ G F H){b:Addr}{o:HO}(h:F b=some o):H b=some o/\G b=Option.none:=by
 have hn:G b=Option.none:=by
  cases q:G b with
  |none=>rfl
  |some u=>rw[P.zP b u q]at h;cases h
 exact⟨by rw[P.eq b,hn,h];rfl,hn⟩
theorem bZ.laid(P:bZ G F H){p:Addr}{o:HO}(h:H p=Option.none):bZ (upd G p o) F (upd H p o):=by
 obtain⟨h1,h2⟩:=P.none h;refine⟨λ b=>?_,λ b u e=>?_⟩
 . by_cases hb:b=p
   . subst hb;rw[a_,a_];rfl
   . rw[aF hb,aF hb];exact P.eq b
 . by_cases hb:b=p
   . subst hb;exact h2
   . rw[aF hb]at e;exact P.zP b u e
theorem bZ.write(P:bZ G F H){p:Addr}{o o':HO}(h:G p=some o):bZ (upd G p o') F (upd H p o'):=by
 refine⟨λ b=>?_,λ b u e=>?_⟩
 . by_cases hb:b=p
   . subst hb;rw[a_,a_];rfl
   . rw[aF hb,aF hb];exact P.eq b
 . by_cases hb:b=p
   . subst hb;exact P.zP b o h
   . rw[aF hb]at e;exact P.zP b u e
theorem bZ.hide(P:bZ G F H){p:Addr}{o:HO}(h:H p=Option.none):bZ G (upd F p o) (upd H p o):=by
 obtain⟨h1,h2⟩:=P.none h;refine⟨λ b=>?_,λ b u e=>?_⟩
 . by_cases hb:b=p
   . subst hb;rw[a_,a_,h1];rfl
   . rw[aF hb,aF hb];exact P.eq b
 . by_cases hb:b=p
   . subst hb;rw[h1]at e;cases e
   . rw[aF hb];exact P.zP b u e
theorem bZ.Uc(P:bZ G F H){p:Addr}{o o':HO}(h:F p=some o):bZ G (upd F p o') (upd H p o'):=by
 have h1:=(P.frame h).2;refine⟨λ b=>?_,λ b u e=>?_⟩
 . by_cases hb:b=p
   . subst hb;rw[a_,a_,h1];rfl
   . rw[aF hb,aF hb];exact P.eq b
 . by_cases hb:b=p
   . subst hb;rw[h1]at e;cases e
   . rw[aF hb];exact P.zP b u e
theorem bZ.show{p:Addr}{o:HO}(P:bZ G (upd F p o) H)(h:F p=Option.none):bZ (upd G p o) F H:=by
 have h1:=(P.frame (b:=p) a_)
 refine⟨λ b=>?_,λ b u e=>?_⟩
 . by_cases hb:b=p
   . subst hb;rw[a_,h1.1];rfl
   . rw[aF hb,P.eq b,aF hb]
 . by_cases hb:b=p
   . subst hb;exact h
   . rw[aF hb]at e;have:=P.zP b u e;rw[aF hb]at this;exact this
end
mutual
theorem Rep.mono{α:List (Option Addr)}{G H:Hp}(s:IU G H):∀ {d:D} {v:V},Rep α G d v->Rep α H d v
 | .ay,_,h=>by unfold Rep at h⊢;exact h
 | .bl _,_,h=>by unfold Rep at h⊢;exact h
 | .int _,_,h=>by unfold Rep at h⊢;exact h
 | .str _,_,h=>by unfold Rep at h⊢;exact h
 | .ty _,_,h=>by unfold Rep at h⊢;exact h
 | .ref n,_,h=>by unfold Rep at h⊢;exact h
 | .lst xs,_,h=>by
   unfold Rep at h⊢;obtain⟨a,vs,e,n,r,q⟩:=h;refine⟨a,vs,e,n,?_,aE.mono s q⟩;rcases r with r|⟨o,r⟩
   . exact .inl (s _ _ r)
   . exact .inr ⟨o,s _ _ r⟩
 | .tup xs,_,h=>by
   unfold Rep at h⊢;obtain⟨a,vs,e,n,r,q⟩:=h;exact⟨a,vs,e,n,s _ _ r,aE.mono s q⟩
theorem aE.mono{α:List (Option Addr)}{G H:Hp}(s:IU G H):∀ {ds:List D} {vs:List V},aE α G ds vs->aE α H ds vs
 | [],_,h=>by unfold aE at h⊢;exact h
 |d::ds,_,h=>by
  unfold aE at h⊢;obtain⟨v,r,e,h1,h2⟩:=h;exact⟨v,r,e,Rep.mono s h1,aE.mono s h2⟩
end
def jj(α:List (Option Addr))(H:Hp):List (Str×D)->List (Str×V)->Prop:=Paired λ p q=>p.1=q.1/\Rep α H p.2 q.2
def jz(α:List (Option Addr))(H:Hp)(a:Addr):Cell->Prop
 | .lst xs=>∃vs,H a=some (.lst vs)/\aE α H xs vs
 | .ins C fs=>∃dx vs,H a=some (.ins C dx vs)/\jj α H fs vs
 | .dead=>False
 | .tab P pos qual b=>a=P/\∃ps:Array Value,H a=some (.mj ps)/\TriplesOk ps.toList/\
    ((b=false/\codeAmong pos ps.toList=none)\/(b=true/\∃c o vs t,codeAmong pos ps.toList=some (.ref c)/\some c∉α/\H c=some (.iE o (.own c))/\o.data= .fields vs/\vs[1]?=some (.str qual t)))
structure aX(α:List (Option Addr))(st:af)(H:Hp):Prop where
 len:α.length=st.length
 nd:∀(i j:Nat) (a:Addr),α[i]?=some (some a)->α[j]?=some (some a)->i=j
 at':∀(n:Nat) (c:Cell),st[n]?=some c->(c= .dead/\α[n]?=some none)\/∃a,α[n]?=some (some a)/\jz α H a c
theorem jj.step{α α':List (Option Addr)}{H H':Hp}(s:Step α H α' H'){ds:List (Str×D)}{vs:List (Str×V)}(h:jj α H ds vs):jj α' H' ds vs:=Paired.HV h λ _ _ z=>⟨z.1,z.2.step s⟩
theorem jz.same{α α':List (Option Addr)}{H H':Hp}{a:Addr}{c:Cell}(s:Step α H α' H')(e:H' a=H a)(h:jz α H a c):jz α' H' a c:=by
 cases c with
 |lst xs=>obtain⟨vs,h1,h2⟩:=h;exact⟨vs,e.trans h1,h2.step s⟩
 |ins C fs=>obtain⟨dx,vs,h1,h2⟩:=h;exact⟨dx,vs,e.trans h1,h2.step s⟩
 |dead=>exact h.elim
 |tab P pos qual b=>
  obtain⟨z,ps,h1,h2,h3⟩:=h;refine⟨z,ps,e.trans h1,h2,?_⟩;rcases h3 with h3|⟨hb,c,o,vs,t,q1,q2,q3,q4⟩
  . exact .inl h3
  . exact .inr ⟨hb,c,o,vs,t,q1,(λ y=>by rw[s.new c y q2]at q3;cases q3),s.ext c _ q2 q3,q4⟩
theorem jz.some{α:List (Option Addr)}{H:Hp}{a:Addr}{c:Cell}(h:jz α H a c):∃o,H a=some o:=by
 cases c with
 |lst xs=>obtain⟨vs,h1,h2⟩:=h;exact⟨_,h1⟩
 |ins C fs=>obtain⟨dx,vs,h1,h2⟩:=h;exact⟨_,h1⟩
 |dead=>exact h.elim
 |tab P pos qual b=>obtain⟨_,ps,h1,_⟩:=h;exact⟨_,h1⟩
theorem cW{α:List (Option Addr)}{H:Hp}{n:Nat}{v:V}{a:Addr}(e:α[n]?=Option.some (Option.some a))(r:Rep α H (.ref n) v):v= .ref a:=by
 unfold Rep at r;rcases r with r|⟨b,eb,rfl⟩
 . rw[e]at r;cases r
 . rw[e]at eb;cases eb;rfl
section
variable {α:List (Option Addr)}{st:af}{H:Hp}
theorem aX.fG(S:aX α st H){n:Nat}{xs:List D}(e:st[n]?=Option.some (.lst xs)):∃a,α[n]?=Option.some (Option.some a)/\∃vs,H a=Option.some (.lst vs)/\aE α H xs vs:=by
 rcases S.at' n _ e with⟨z,_⟩|z
 . cases z
 . exact z
theorem aX.vz(S:aX α st H){n:Nat}{C:Addr}{fs:List (Str×D)}(e:st[n]?=Option.some (.ins C fs)):∃a,α[n]?=Option.some (Option.some a)/\∃dx vs,H a=Option.some (.ins C dx vs)/\jj α H fs vs:=by
 rcases S.at' n _ e with⟨z,_⟩|z
 . cases z
 . exact z
theorem aX.mem(S:aX α st H){a:Addr}(h:Option.some a∈α):∃(n:Nat) (c:Cell),α[n]?=Option.some (Option.some a)/\st[n]?=Option.some c/\jz α H a c:=by
 obtain⟨n,hn,e⟩:=Vu.mp h;have hl:n<st.length:=by rw[<-S.len];exact hn
 have e':α[n]?=Option.some (Option.some a):=by rw[UJ hn,e]
 rcases S.at' n st[n] (by simp[hl])with⟨_,q⟩|⟨a',q,ca⟩
 . rw[e']at q;cases q
 . rw[e']at q;cases q;exact⟨n,_,e',by simp[hl],ca⟩
theorem aX.nv(S:aX α st H){p:Addr}(h:H p=none):Option.some p∉α:=λ z=>by
 obtain⟨n,c,_,_,ca⟩:=S.mem z;obtain⟨o,e⟩:=ca.some;rw[h]at e;cases e
theorem aX.laid(S:aX α st H){p:Addr}{o:HO}(h:H p=none):aX α st (upd H p o):=
 ⟨S.len,S.nd,λ n c e=>by
  rcases S.at' n c e with z|⟨a,q,ca⟩
  . exact .inl z
  . exact .inr ⟨a,q,ca.same (Step.laid h) (aF (by obtain⟨u,z⟩:=ca.some;exact d7 z h))⟩⟩
theorem aX.cell(S:aX α st H){p:Addr}{o:HO}{c:Cell}(h:H p=none)(hc:jz (α++[Option.some p]) (upd H p o) p c):aX (α++[Option.some p]) (st++[c]) (upd H p o) where
 len:=by rw[V1,V1,S.len];rfl
 nd:=λ i j a ei ej=>by
  have key:∀(i:Nat) (a:Addr),(α++[Option.some p])[i]?=Option.some (Option.some a)->(i<α.length/\α[i]?=Option.some (Option.some a))\/(i=α.length/\a=p):=by
   intro i a e;by_cases hi:i<α.length
   . rw[UC hi]at e;exact .inl ⟨hi,e⟩
   . rw[U0 (WZ hi)]at e
     have h0:i-α.length=0:=by
      cases q:i-α.length with
      |zero=>rfl
      |succ k=>rw[q]at e;simp at e
     rw[h0]at e;have:p=a:=by simpa using e
     exact .inr ⟨by lia,this.symm⟩
  rcases key i a ei with⟨h1,e1⟩|⟨h1,e1⟩<;>rcases key j a ej with⟨h2,e2⟩|⟨h2,e2⟩
  . exact S.nd i j a e1 e2
  . subst e2;exact absurd (U8 e1) (S.nv h)
  . subst e1;exact absurd (U8 e2) (S.nv h)
  . lia
 at':=λ n d e=>by
  by_cases hn:n<st.length
  . rw[UC hn]at e;have hl:n<α.length:=by rw[S.len];exact hn
    rcases S.at' n d e with⟨z,q⟩|⟨a,q,ca⟩
    . exact .inl ⟨z,by rw[UC hl];exact q⟩
    . exact .inr ⟨a,by rw[UC hl];exact q,ca.same (Step.cell h) (aF (by obtain⟨u,z⟩:=ca.some;exact d7 z h))⟩
  . rw[U0 (WZ hn)]at e
    have h0:n-st.length=0:=by
     cases q:n-st.length with
     |zero=>rfl
     |succ k=>rw[q]at e;simp at e
    rw[h0]at e;have hd:c=d:=by simpa using e
    subst hd;refine .inr ⟨p,?_,hc⟩;rw[U0 (by rw[S.len];exact WZ hn),S.len,h0];rfl
theorem aX.write(S:aX α st H){p:Addr}{o:HO}{c:Cell}{n:Nat}(e:α[n]?=Option.some (Option.some p))(hc:jz α (upd H p o) p c):aX α (st.set n c) (upd H p o) where
 len:=by rw[US];exact S.len
 nd:=S.nd
 at':=λ m d q=>by
  have hp:Option.some p∈α:=U8 e;by_cases hm:m=n
  . subst hm
    have hl:m<st.length:=by
     have:=(Uw.mp q).1;rw[US]at this;exact this
    rw[UH hl]at q;cases q;exact .inr ⟨p,e,hc⟩
  . rw[Ux (UD hm)]at q;rcases S.at' m d q with z|⟨a,r,ca⟩
    . exact .inl z
    . refine .inr ⟨a,r,ca.same (Step.write hp) (aF λ z=>?_)⟩;subst z;exact hm (S.nd m n _ r e)
end
abbrev DK:=D->af->Prop
abbrev DE:=bo->af->DK->Prop
abbrev DT:=bo->af->(Bool->af->Prop)->Prop
abbrev DA:=bo->af->(List D->af->Prop)->Prop
structure ie where
 nx:bo->af->Prop
 rt:DK
 bk:bo->af->Prop:=λ _ _=>False
 ct:bo->af->Prop:=λ _ _=>False
abbrev DS:=ie->bo->af->Prop
structure dD(α:List (Option Addr))(H:Hp)(σd:bo)(σ:L2.St):Prop where
 len:σd.length=σ.length
 at':∀(i:Nat) (d:D),σd[i]?=some (some d)->∃v,σ[i]?=some (some v)/\Rep α H d v
theorem dD.step{α α':List (Option Addr)}{H H':Hp}{σd:bo}{σ:L2.St}(s:Step α H α' H')(h:dD α H σd σ):dD α' H' σd σ:=
 ⟨h.len,λ i d e=>let⟨v,q,r⟩:=h.at' i d e;⟨v,q,r.step s⟩⟩
theorem dD.set{α:List (Option Addr)}{H:Hp}{σd:bo}{σ:L2.St}(h:dD α H σd σ)(i:Nat){d:D}{v:V}(r:Rep α H d v):dD α H (σd.set i (some d)) (σ.set i (some v)):=by
 refine⟨by rw[US,US,h.len],λ j e q=>?_⟩;have hl:=h.len;by_cases hj:j=i
 . subst hj
   have hlt:j<σd.length:=by
    have:=(Uw.mp q).1;rw[US]at this;exact this
   rw[UH hlt]at q;cases q;exact⟨v,UH (by lia),r⟩
 . rw[Ux (UD hj)]at q;rw[Ux (UD hj)];exact h.at' j e q
def LK(α:List (Option Addr))(G F:Hp)(K:DK)(Q:VK):Prop:=∀d st',K d st'->∀α' G' H' v,Step α G α' G'->bZ G' F H'->aX α' st' G'->Rep α' G' d v->Q v H'
def JV(α:List (Option Addr))(G F:Hp)(K:Bool->af->Prop)(Q:Bool->Hp->Prop):Prop:=∀b st',K b st'->∀α' G' H',Step α G α' G'->bZ G' F H'->aX α' st' G'->Q b H'
def T6(α:List (Option Addr))(G F:Hp)(K:List D->af->Prop)(Q:List V->Hp->Prop):Prop:=∀ds st',K ds st'->∀α' G' H' vs,Step α G α' G'->bZ G' F H'->aX α' st' G'->aE α' G' ds vs->Q vs H'
inductive Sy(t:DE)(σ:L2.St)(H:Hp)(Q:VK):Prop
 |mk (α:List (Option Addr)) (σd:bo) (st:af) (K:DK) (G F:Hp) (P:bZ G F H) (R:dD α G σd σ) (S:aX α st G) (h:t σd st K) (k:LK α G F K Q):Sy t σ H Q
def LE(t:DE):TE:=Sy t
inductive Sd(t:DT)(σ:L2.St)(H:Hp)(Q:Bool->Hp->Prop):Prop
 |mk (α:List (Option Addr)) (σd:bo) (st:af) (K:Bool->af->Prop) (G F:Hp) (P:bZ G F H) (R:dD α G σd σ) (S:aX α st G) (h:t σd st K) (k:JV α G F K Q):Sd t σ H Q
def LT(t:DT):TT:=Sd t
inductive SH(t:DA)(σ:L2.St)(H:Hp)(Q:List V->Hp->Prop):Prop
 |mk (α:List (Option Addr)) (σd:bo) (st:af) (K:List D->af->Prop) (G F:Hp) (P:bZ G F H) (R:dD α G σd σ) (S:aX α st G) (h:t σd st K) (k:T6 α G F K Q):SH t σ H Q
def LA(t:DA):TA:=SH t
theorem LK.here{α:List (Option Addr)}{G F H:Hp}{K:DK}{Q:VK}(h:LK α G F K Q)(P:bZ G F H){d:D}{st:af}{v:V}(k:K d st)(S:aX α st G)(r:Rep α G d v):Q v H:=h d st k α G H v Step.refl P S r
theorem LK.at{α α1:List (Option Addr)}{G F G1:Hp}{K:DK}{Q:VK}(h:LK α G F K Q)(s:Step α G α1 G1):LK α1 G1 F K Q:=λ d st' k α' G' H' v s' P S r=>h d st' k α' G' H' v (s.trans s') P S r
theorem JV.at{α α1:List (Option Addr)}{G F G1:Hp}{K:Bool->af->Prop}{Q:Bool->Hp->Prop}(h:JV α G F K Q)(s:Step α G α1 G1):JV α1 G1 F K Q:=λ d st' k α' G' H' s' P S=>h d st' k α' G' H' (s.trans s') P S
section
variable {X:Cx}{a b c e:Expr}{es:List Expr}{ta tb tc te:DE}{pos:Pos}
theorem PE.imp{t t':TE}(h:PE X e t)(f:∀σ H Q,t' σ H Q->t σ H Q):PE X e t':=λ pins s σ H Q I q=>h pins s σ H Q I (f σ H Q q)
theorem PT.imp{t t':TT}(h:PT X e t)(f:∀σ H Q,t' σ H Q->t σ H Q):PT X e t':=λ pins s σ H Q I q=>h pins s σ H Q I (f σ H Q q)
theorem PW.imp{t t':TT}(h:PW X e t)(f:∀σ H Q,t' σ H Q->t σ H Q):PW X e t':=λ w pins s σ H Q I q=>h w pins s σ H Q I (f σ H Q q)
theorem PA.imp{t t':TA}(h:PA X es t)(f:∀σ H Q,t' σ H Q->t σ H Q):PA X es t':=λ p pins s σ H Q I q=>h p pins s σ H Q I (f σ H Q q)
def aa(i:Nat):DE:=λ σ st K=>match σ[i]? with|some (some d)=>K d st|_=>False
def dC(d:D):DE:=λ _ st K=>K d st
theorem Qu{i:Nat}{x:Str}(h:PE X (.Name x pos) (PL i)):PE X (.Name x pos) (LE (aa i)):=PE.imp h λ σ H Q ⟨α,σd,st,K,G,F,P,R,S,t,k⟩=>by
 unfold aa at t;split at t
 . rename_i d q;obtain⟨v,e,r⟩:=R.at' i d q;exact⟨v,e,k.here P t S r⟩
 . exact t.elim
theorem oK{v:V}{d:D}(h:PE X e (tC v))(r:∀α H,Rep α H d v):PE X e (LE (dC d)):=PE.imp h λ σ H Q ⟨α,σd,st,K,G,F,P,R,S,t,k⟩=>k.here P t S (r α G)
theorem Ry{i:Int}{j:Nat}:PE X (.Constant (.int i) j pos) (LE (dC (.int i))):=oK P0 λ _ _=>by unfold Rep;rfl
theorem Tr{i:Bool}{j:Nat}:PE X (.Constant (.bool i) j pos) (LE (dC (.bl i))):=oK Rm λ _ _=>by unfold Rep;rfl
theorem QC{i:Str}{j:Nat}:PE X (.Constant (.str i) j pos) (LE (dC (.str i))):=oK OQ λ _ _=>by unfold Rep;rfl
theorem Q3{j:Nat}:PE X (.Constant .none j pos) (LE (dC .ay)):=oK O9 λ _ _=>by unfold Rep;rfl
abbrev cO:=D->D->af->DK->Prop
abbrev zX:=D->af->DK->Prop
abbrev eQ:=List D->af->DK->Prop
inductive Sn(r:cO)(x y:V)(H:Hp)(Q:VK):Prop
 |mk (α:List (Option Addr)) (d e:D) (st:af) (K:DK) (G F:Hp) (P:bZ G F H) (rx:Rep α G d x) (ry:Rep α G e y) (S:aX α st G) (h:r d e st K) (k:LK α G F K Q):Sn r x y H Q
def LR(r:cO):R2:=Sn r
inductive NI(r:zX)(x:V)(H:Hp)(Q:VK):Prop
 |mk (α:List (Option Addr)) (d:D) (st:af) (K:DK) (G F:Hp) (P:bZ G F H) (rx:Rep α G d x) (S:aX α st G) (h:r d st K) (k:LK α G F K Q):NI r x H Q
def K8(r:zX):V->Hp->VK->Prop:=NI r
inductive PD(r:eQ)(xs:List V)(H:Hp)(Q:VK):Prop
 |mk (α:List (Option Addr)) (ds:List D) (st:af) (K:DK) (G F:Hp) (P:bZ G F H) (rx:aE α G ds xs) (S:aX α st G) (h:r ds st K) (k:LK α G F K Q):PD r xs H Q
def fO(r:eQ):List V->Hp->VK->Prop:=PD r
def ah(r:cO)(ta tb:DE):DE:=λ σ st K=>ta σ st λ x st1=>tb σ st1 λ y st2=>r x y st2 K
def jx(r:zX)(ta:DE):DE:=λ σ st K=>ta σ st λ x st1=>r x st1 K
theorem LE.op{r:cO}{σ:L2.St}{H:Hp}{Q:VK}(h:LE (ah r ta tb) σ H Q):Fu (LR r) (LE ta) (LE tb) σ H Q:=by
 obtain⟨α,σd,st,K,G,F,P,R,S,t,k⟩:=h;refine⟨α,σd,st,_,G,F,P,R,S,t,λ d st1 q α1 G1 H1 v s1 P1 S1 r1=>?_⟩;refine⟨α1,σd,st1,_,G1,F,P1,R.step s1,S1,q,λ d2 st2 q2 α2 G2 H2 v2 s2 P2 S2 r2=>?_⟩;exact⟨α2,d,d2,st2,K,G2,F,P2,r1.step s2,r2,S2,q2,(k.at s1).at s2⟩
theorem LE.un{r:zX}{σ:L2.St}{H:Hp}{Q:VK}(h:LE (jx r ta) σ H Q):SE (K8 r) (LE ta) σ H Q:=by
 obtain⟨α,σd,st,K,G,F,P,R,S,t,k⟩:=h;refine⟨α,σd,st,_,G,F,P,R,S,t,λ d st1 q α1 G1 H1 v s1 P1 S1 r1=>?_⟩;exact⟨α1,d,st1,K,G1,F,P1,r1,S1,q,k.at s1⟩
theorem To{op:Operator}{r:cO}(ho:bE X (binaryOp op) (LR r))(ha:PE X a (LE ta))(hb:PE X b (LE tb)):PE X (.BinOp a op b pos) (LE (ah r ta tb)):=PE.imp (Qn ho ha hb) λ _ _ _ h=>LE.op h
theorem TC{op:UnaryOp}{r:zX}(ho:Dn X (unaryOp op) (K8 r))(ha:PE X a (LE ta)):PE X (.UnaryOp op a pos) (LE (jx r ta)):=PE.imp (Rz ho ha) λ _ _ _ h=>LE.un h
theorem QI{op:CmpOp}{r:cO}(ho:bE X (compareOp op) (LR r))(ha:PE X a (LE ta))(hb:PE X b (LE tb))(hm:behindInMarks op b=false:=by first|exact fE _|rfl):PE X (.Compare a [op] [b] pos) (LE (ah r ta tb)):=PE.imp (M9 ho ha hb hm) λ _ _ _ h=>LE.op h
def aH(t:DE):DT:=λ σ st K=>t σ st λ d st1=>match d with| .bl b=>K b st1|_=>False
theorem LT.test{σ:L2.St}{H:Hp}{Q:Bool->Hp->Prop}(h:LT (aH te) σ H Q):LE te σ H λ x H'=>∃k,x= .bl k/\Q k H':=by
 obtain⟨α,σd,st,K,G,F,P,R,S,t,k⟩:=h;refine⟨α,σd,st,_,G,F,P,R,S,t,λ d st1 q α1 G1 H1 v s1 P1 S1 r1=>?_⟩;cases d with
 |bl b=>
  unfold Rep at r1;exact⟨b,r1,k b st1 q α1 G1 H1 s1 P1 S1⟩
 |_=>exact q.elim
theorem Pu{op:CmpOp}{r:cO}(ho:bE X (compareOp op) (LR r))(ha:PE X a (LE ta))(hb:PE X b (LE tb))(hm:behindInMarks op b=false:=by first|exact fE _|rfl):PT X (.Compare a [op] [b] pos) (LT (aH (ah r ta tb))):=PT.imp (Mm ho ha hb hm) λ σ H Q h=>by
 have q:=LT.test h;exact LE.op (Q:=λ x H'=>∃k,x= .bl k/\Q k H') q
theorem O5(he:PE X e (LE te))(hv:∀whole,isTrue e X.env whole=(do let v <-whole;standAt e.pos;holding [v] (truthy v)):=by intro _;rfl):PT X e (LT (aH te)):=PT.imp (Pn he hv) λ σ H Q h=>LT.test h
def cQ(t:DT):DT:=λ σ st K=>t σ st λ b st1=>K (!b) st1
def vb(t u:DT):DT:=λ σ st K=>t σ st λ b st1=>if b=true then u σ st1 K else K false st1
def fT(t u:DT):DT:=λ σ st K=>t σ st λ b st1=>if b=true then K true st1 else u σ st1 K
theorem N0{t:DT}(ha:PT X a (LT t)):PT X (.UnaryOp .Not a pos) (LT (cQ t)):=PT.imp (N9 ha) λ σ H Q ⟨α,σd,st,K,G,F,P,R,S,t,k⟩=>
 ⟨α,σd,st,_,G,F,P,R,S,t,λ b st1 q α1 G1 H1 s1 P1 S1=>k _ st1 q α1 G1 H1 s1 P1 S1⟩
theorem LT.and{t u:DT}{σ:L2.St}{H:Hp}{Q:Bool->Hp->Prop}(h:LT (vb t u) σ H Q):NJ (LT t) (LT u) σ H Q:=by
 obtain⟨α,σd,st,K,G,F,P,R,S,t,k⟩:=h;refine⟨α,σd,st,_,G,F,P,R,S,t,λ b st1 q α1 G1 H1 s1 P1 S1=>?_⟩;cases b with
 |true=>exact⟨α1,σd,st1,K,G1,F,P1,R.step s1,S1,q,k.at s1⟩
 |false=>exact k _ st1 q α1 G1 H1 s1 P1 S1
theorem LT.or{t u:DT}{σ:L2.St}{H:Hp}{Q:Bool->Hp->Prop}(h:LT (fT t u) σ H Q):R9 (LT t) (LT u) σ H Q:=by
 obtain⟨α,σd,st,K,G,F,P,R,S,t,k⟩:=h;refine⟨α,σd,st,_,G,F,P,R,S,t,λ b st1 q α1 G1 H1 s1 P1 S1=>?_⟩;cases b with
 |false=>exact⟨α1,σd,st1,K,G1,F,P1,R.step s1,S1,q,k.at s1⟩
 |true=>exact k _ st1 q α1 G1 H1 s1 P1 S1
theorem MM{t:DT}(ha:PT X a (LT t)):PW X (.BoolOp .And [a] pos) (LT t):=pw_and1 ha
theorem Pg{t:DT}(ha:PT X a (LT t)):PW X (.BoolOp .Or [a] pos) (LT t):=pw_or1 ha
theorem Qg{t u:DT}(ha:PT X a (LT t))(hb:PW X (.BoolOp .And (b::es) pos) (LT u)):PW X (.BoolOp .And (a::b::es) pos) (LT (vb t u)):=PW.imp (pw_and ha hb) λ _ _ _ h=>LT.and h
theorem RE{t u:DT}(ha:PT X a (LT t))(hb:PW X (.BoolOp .Or (b::es) pos) (LT u)):PW X (.BoolOp .Or (a::b::es) pos) (LT (fT t u)):=PW.imp (pw_or ha hb) λ _ _ _ h=>LT.or h
def mX(ta tb:DE):DE:=λ σ st K=>ta σ st λ d st1=>match d with| .bl b=>if b=true then tb σ st1 K else K (.bl false) st1|_=>False
def IT(ta tb:DE):DE:=λ σ st K=>ta σ st λ d st1=>match d with| .bl b=>if b=true then K (.bl true) st1 else tb σ st1 K|_=>False
def vx(t:DT):DE:=λ σ st K=>t σ st λ b st1=>K (.bl (!b)) st1
theorem QR{op:BoolOp}(ha:PE X a (LE ta)):PE X (.BoolOp op [a] pos) (LE ta):=Ou ha
theorem Qx(ha:PE X a (LE ta))(hb:PE X (.BoolOp .And (b::es) pos) (LE tb)):PE X (.BoolOp .And (a::b::es) pos) (LE (mX ta tb)):=PE.imp (NL ha hb) λ σ H Q ⟨α,σd,st,K,G,F,P,R,S,t,k⟩=>by
 refine⟨α,σd,st,_,G,F,P,R,S,t,λ d st1 q α1 G1 H1 v s1 P1 S1 r1=>?_⟩;cases d with
 |bl b=>
  unfold Rep at r1;refine⟨b,r1,?_⟩;cases b with
  |true=>exact⟨α1,σd,st1,K,G1,F,P1,R.step s1,S1,q,k.at s1⟩
  |false=>exact k _ st1 q α1 G1 H1 _ s1 P1 S1 (by unfold Rep;rfl)
 |_=>exact q.elim
theorem Te(ha:PE X a (LE ta))(hb:PE X (.BoolOp .Or (b::es) pos) (LE tb)):PE X (.BoolOp .Or (a::b::es) pos) (LE (IT ta tb)):=PE.imp (Ro ha hb) λ σ H Q ⟨α,σd,st,K,G,F,P,R,S,t,k⟩=>by
 refine⟨α,σd,st,_,G,F,P,R,S,t,λ d st1 q α1 G1 H1 v s1 P1 S1 r1=>?_⟩;cases d with
 |bl b=>
  unfold Rep at r1;refine⟨b,r1,?_⟩;cases b with
  |false=>exact⟨α1,σd,st1,K,G1,F,P1,R.step s1,S1,q,k.at s1⟩
  |true=>exact k _ st1 q α1 G1 H1 _ s1 P1 S1 (by unfold Rep;rfl)
 |_=>exact q.elim
theorem RL(ha:PE X a (LE ta)):PE X (.UnaryOp .Not a pos) (LE (vx (aH ta))):=PE.imp (PH ha) λ σ H Q ⟨α,σd,st,K,G,F,P,R,S,t,k⟩=>by
 refine⟨α,σd,st,_,G,F,P,R,S,t,λ d st1 q α1 G1 H1 v s1 P1 S1 r1=>?_⟩;cases d with
 |bl b=>
  unfold Rep at r1;exact⟨b,r1,k _ st1 q α1 G1 H1 _ s1 P1 S1 (by unfold Rep;rfl)⟩
 |_=>exact q.elim
def CA(t:DT)(ta tb:DE):DE:=λ σ st K=>t σ st λ b st1=>if b=true then ta σ st1 K else tb σ st1 K
theorem RB{t:DT}(hc:PT X c (LT t))(ha:PE X a (LE ta))(hb:PE X b (LE tb)):PE X (.IfExp c a b pos) (LE (CA t ta tb)):=PE.imp (Iq hc ha hb) λ σ H Q ⟨α,σd,st,K,G,F,P,R,S,t,k⟩=>by
 refine⟨α,σd,st,_,G,F,P,R,S,t,λ b st1 q α1 G1 H1 s1 P1 S1=>?_⟩;cases b with
 |true=>exact⟨α1,σd,st1,K,G1,F,P1,R.step s1,S1,q,k.at s1⟩
 |false=>exact⟨α1,σd,st1,K,G1,F,P1,R.step s1,S1,q,k.at s1⟩
def ag:DA:=λ _ st K=>K [] st
def ab(ta:DE)(tr:DA):DA:=λ σ st K=>ta σ st λ x st1=>tr σ st1 λ xs st2=>K (x::xs) st2
theorem Gq:PA X [] (LA ag):=PA.imp OS λ σ H Q ⟨α,σd,st,K,G,F,P,R,S,t,k⟩=>k [] st t α G H [] Step.refl P S (by unfold aE;rfl)
theorem CS{tr:DA}(ha:PE X e (LE te))(hr:PA X es (LA tr))(hs:starEach (e::es) X.env=(false,eval e X.env)::starEach es X.env:=by rfl):PA X (e::es) (LA (ab te tr)):=PA.imp (MJ ha hr hs) λ σ H Q ⟨α,σd,st,K,G,F,P,R,S,t,k⟩=>by
 refine⟨α,σd,st,_,G,F,P,R,S,t,λ d st1 q α1 G1 H1 v s1 P1 S1 r1=>?_⟩;refine⟨α1,σd,st1,_,G1,F,P1,R.step s1,S1,q,λ ds st2 q2 α2 G2 H2 vs s2 P2 S2 r2=>?_⟩;exact k _ st2 q2 α2 G2 H2 (v::vs) (s1.trans s2) P2 S2 (by unfold aE;exact⟨v,vs,rfl,r1.step s2,r2⟩)
def iK(t:DA):DE:=λ σ st K=>t σ st λ ds st1=>ds.length<=sizeLine/\K (.tup ds) st1
def fg(t:DA):DE:=λ σ st K=>t σ st λ ds st1=>ds.length<=sizeLine/\K (.lst ds) st1
def mz(t:DA):DE:=λ σ st K=>t σ st λ ds st1=>ds.length<=sizeLine/\K (.ref st1.length) (st1++[.lst ds])
theorem LK.tup{α:List (Option Addr)}{G F H:Hp}{K:DK}{Q:VK}{ds:List D}{vs:List V}{st:af}{p:Addr}(k:LK α G F K Q)(P:bZ G F H)(q:K (.tup ds) st)(S:aX α st G)(r:aE α G ds vs)(hp:H p=none):Q (.ref p) (upd H p (.tup vs)):=
 have hg:=(P.none hp).1
 k _ st q α _ _ _ (Step.laid hg) (P.laid hp) (S.laid hg) (by unfold Rep;exact⟨p,vs,rfl,S.nv hg,a_,r.step (Step.laid hg)⟩)
theorem LK.lst{α:List (Option Addr)}{G F H:Hp}{K:DK}{Q:VK}{ds:List D}{vs:List V}{st:af}{p:Addr}(k:LK α G F K Q)(P:bZ G F H)(q:K (.lst ds) st)(S:aX α st G)(r:aE α G ds vs)(hp:H p=none):Q (.ref p) (upd H p (.lst vs)):=
 have hg:=(P.none hp).1
 k _ st q α _ _ _ (Step.laid hg) (P.laid hp) (S.laid hg) (by unfold Rep;exact⟨p,vs,rfl,S.nv hg,.of a_,r.step (Step.laid hg)⟩)
theorem LK.new{α:List (Option Addr)}{G F H:Hp}{K:DK}{Q:VK}{ds:List D}{vs:List V}{st:af}{p:Addr}(k:LK α G F K Q)(P:bZ G F H)(q:K (.ref st.length) (st++[.lst ds]))(S:aX α st G)(r:aE α G ds vs)(hp:H p=none):Q (.ref p) (upd H p (.lst vs)):=
 have hg:=(P.none hp).1
 k _ _ q (α++[some p]) _ _ _ (Step.cell hg) (P.laid hp) (S.cell hg ⟨vs,a_,r.step (Step.cell hg)⟩) (by
  unfold Rep;refine .inr ⟨p,?_,rfl⟩;rw[U0 (by rw[S.len];exact UB _),S.len,V2];rfl)
theorem Qo{n:Nat}{t:DA}(h:PA X es (LA t)):PE X (.Tuple es n pos) (LE (iK t)):=PE.imp (N6 h) λ σ H Q ⟨α,σd,st,K,G,F,P,R,S,t,k⟩=>
 ⟨α,σd,st,_,G,F,P,R,S,t,λ ds st1 q α1 G1 H1 vs s1 P1 S1 r1=>⟨by rw[<-r1.length];exact q.1,λ p hp=>(k.at s1).tup P1 q.2 S1 r1 hp⟩⟩
theorem Rp{t:DA}(h:PA X es (LA t)):PE X (.List es pos) (LE (fg t)):=PE.imp (Hq h) λ σ H Q ⟨α,σd,st,K,G,F,P,R,S,t,k⟩=>
 ⟨α,σd,st,_,G,F,P,R,S,t,λ ds st1 q α1 G1 H1 vs s1 P1 S1 r1=>⟨by rw[<-r1.length];exact q.1,λ p hp=>(k.at s1).lst P1 q.2 S1 r1 hp⟩⟩
theorem RJ{t:DA}(h:PA X es (LA t)):PE X (.List es pos) (LE (mz t)):=PE.imp (Hq h) λ σ H Q ⟨α,σd,st,K,G,F,P,R,S,t,k⟩=>
 ⟨α,σd,st,_,G,F,P,R,S,t,λ ds st1 q α1 G1 H1 vs s1 P1 S1 r1=>⟨by rw[<-r1.length];exact q.1,λ p hp=>(k.at s1).new P1 q.2 S1 r1 hp⟩⟩
abbrev bq:=List D->af->DK->Prop
inductive Oq(T:bq)(vs:List V)(H:Hp)(Q:VK):Prop
 |mk (α:List (Option Addr)) (ds:List D) (st:af) (K:DK) (G F:Hp) (P:bZ G F H) (rx:aE α G ds vs) (S:aX α st G) (h:T ds st K) (k:LK α G F K Q):Oq T vs H Q
def gu(S:bq):Sp:=λ vs H Q _=>Oq S vs H Q
def av(S:bq)(t:DA):DE:=λ σ st K=>t σ st λ ds st1=>S ds st1 K
theorem LE.call{S:bq}{t:DA}{σ:L2.St}{H:Hp}{Q:VK}(h:LE (av S t) σ H Q):Kf (gu S) [] E0 (LA t) σ H Q:=by
 obtain⟨α,σd,st,K,G,F,P,R,S,t,k⟩:=h;refine⟨α,σd,st,_,G,F,P,R,S,t,λ ds st1 q α1 G1 H1 vs s1 P1 S1 r1=>?_⟩;try dsimp only
 rw[VZ];exact⟨α1,ds,st1,K,G1,F,P1,r1,S1,q,k.at s1⟩
theorem OU{S:bq}{k:Nat}{f:Addr}{fd:FuncData}{ps:List Str}{x:Str}{p:Pos}{t:DA}(F:c_ X.prog X.w X.K X.mg X.base fX k f fd ps (gu S))(hr:cB k X.A)(hg:Gl X x)(hm:X.mg x=some (.ref f))(hk:PySem.W.keepIn X.K (.ref f)=true)(hb:Binds X.K fd ps [])
 (ha:PA X (e::es) (LA t)) (hdb:(x==("__debug__":Str))=false:=by decide) (he:starEach (e::es) X.env=(false,eval e X.env)::starEach es X.env:=by rfl) (hpl:(backTo pos (starEach es X.env)).any (·.1)=false:=by rfl):
 PE X (.Call (.Name x p) (e::es) [] pos) (LE (av S t)):=PE.imp (Me F hr hg hm hk hb .nil yO ha hdb he hpl) λ _ _ _ h=>LE.call h
def a8(r:eQ)(t:DA):DE:=λ σ st K=>t σ st λ ds st1=>r ds st1 K
theorem LE.cb{r:eQ}{t:DA}{σ:L2.St}{H:Hp}{Q:VK}(h:LE (a8 r t) σ H Q):Pq (fO r) (LA t) σ H Q:=by
 obtain⟨α,σd,st,K,G,F,P,R,S,t,k⟩:=h;refine⟨α,σd,st,_,G,F,P,R,S,t,λ ds st1 q α1 G1 H1 vs s1 P1 S1 r1=>?_⟩;exact⟨α1,ds,st1,K,G1,F,P1,r1,S1,q,k.at s1⟩
end
section
variable {X:Cx}
theorem bE.imp{f:Value->Value->Sem Value}{r r':R2}(h:bE X f r)(k:∀x y H Q,r' x y H Q->r x y H Q):bE X f r':=λ pins s σ H x y v u Q I rx ry q=>h pins s σ H x y v u Q I rx ry (k x y H Q q)
theorem bF.imp{f:Value}{r r':List V->Hp->VK->Prop}(h:bF X f r)(k:∀xs H Q,r' xs H Q->r xs H Q):bF X f r':=λ pins s σ H xs us Q I rs q=>h pins s σ H xs us Q I rs (k xs H Q q)
def tE(C:Int->Int->Prop)(g:Int->Int->D):cO:=λ x y st K=>match x,y with| .int i,.int j=>C i j/\K (g i j) st|_,_=>False
theorem jG{f:Value->Value->Sem Value}{C:Int->Int->Prop}{g:Int->Int->D}{g':Int->Int->V}(hg:∀i j α H,Rep α H (g i j) (g' i j))(h:bE X f (rI C g')):bE X f (LR (tE C g)):=bE.imp h λ x y H Q ⟨α,d,e,st,K,G,F',P,r1,r2,S,q,k⟩=>by
 cases d<;>cases e<;>first
  |exact q.elim
  |(unfold Rep at r1 r2;exact⟨_,_,r1,r2,q.1,k.here P q.2 S (hg _ _ _ _)⟩)
abbrev T2:Int->Int->Prop:=λ _ _=>True
theorem vj{g:Int->Int->V}{f:Value->Value->Sem Value}(h:bE X f (uK g)):bE X f (rI T2 g):=bE.imp h λ x y H Q ⟨i,j,e1,e2,_,q⟩=>⟨i,j,e1,e2,q⟩
abbrev Ki:cO:=tE T2 λ i j=> .int (i-j)
abbrev E8:cO:=tE (λ _ j=>j≠0/\j.natAbs.log2<9000) λ i j=> .int (i.fdiv j)
abbrev KS:cO:=tE (λ _ j=>j≠0) λ i j=> .int (i.fmod j)
abbrev Kb:cO:=tE Ij λ i j=> .int (i^j.toNat)
abbrev NM:cO:=tE T2 λ i j=> .bl (decide (i<j))
abbrev NK:cO:=tE T2 λ i j=> .bl (decide (i<=j))
abbrev Oe:cO:=tE T2 λ i j=> .bl (decide (j<i))
abbrev O_:cO:=tE T2 λ i j=> .bl (decide (j<=i))
theorem Rj:bE X (binaryOp .Sub) (LR Ki):=jG (λ _ _ _ _=>by unfold Rep;rfl) (vj NO)
theorem Pa:bE X (binaryOp .FloorDiv) (LR E8):=jG (λ _ _ _ _=>by unfold Rep;rfl) (KU λ i j _ _ _ _ _ hc q=>floordiv_int hc.1 q (.inl (YF hc.2)))
theorem Q0:bE X (binaryOp .Mod) (LR KS):=jG (λ _ _ _ _=>by unfold Rep;rfl) LN
theorem Ri:bE X (binaryOp .Pow) (LR Kb):=jG (λ _ _ _ _=>by unfold Rep;rfl) Py
theorem TF:bE X (compareOp .Lt) (LR NM):=jG (λ _ _ _ _=>by unfold Rep;rfl) (vj RD)
theorem SQ:bE X (compareOp .LtE) (LR NK):=jG (λ _ _ _ _=>by unfold Rep;rfl) (vj Qp)
theorem TM:bE X (compareOp .Gt) (LR Oe):=jG (λ _ _ _ _=>by unfold Rep;rfl) (vj QV)
theorem TB:bE X (compareOp .GtE) (LR O_):=jG (λ _ _ _ _=>by unfold Rep;rfl) (vj Q7)
def Kt:zX:=λ x st K=>match x with| .int i=>K (.int (-i)) st|_=>False
theorem RK:Dn X (unaryOp .USub) (K8 Kt):=λ pins s σ H x v Q I rx ⟨α,d,st,K,G,F',P,r,S,q,k⟩=>by
 cases d<;>first
  |exact q.elim
  |(unfold Rep at r;exact Ow pins s σ H x v Q I rx ⟨_,r,k.here P q S (by unfold Rep;rfl)⟩)
theorem Inv.qE{pins:List (Addr×Obj)}{σ:L2.St}{H:Hp}{s:Shared}{l:Addr}{xs:List V}(I:Inv X pins σ H s)(h:Rd H l (.lst xs)):
 xs.length<=sizeLine/\∃(ao:List Value) (n:Nat),Vals xs ao/\xs.length=ao.length/\s.heap.get? l=some {cls:= .type "list",data:= .seq ao.toArray n}:=by
 obtain⟨z,ao,n,r,e⟩:=h.ok I.aC;exact⟨z,ao,n,r,r.length,e⟩
theorem eP{G F H:Hp}(P:bZ G F H){a:Addr}{u:HO}(h:Rd G a u):Rd H a u:=by
 rcases h with h|⟨o,h⟩
 . exact .inl (P.get h)
 . exact .inr ⟨o,P.get h⟩
theorem vX:bE X (binaryOp .Add) (λ x y H Q=>∃l b xs zs,x= .ref l/\y= .ref b/\Rd H l (.lst xs)/\Rd H b (.lst zs)/\xs.length+zs.length<=sizeLine/\∀p,H p=none->Q (.ref p) (upd H p (.lst (xs++zs)))):=by
 intro pins s σ H x y v u Q I rx ry h;obtain⟨l,b,xs,zs,rfl,rfl,hH,hB,hz,q⟩:=h;cases rx;cases ry;obtain⟨z,ao,n,r,hl,e⟩:=Inv.qE I hH;obtain⟨z2,its2,n2,r2,hl2,e2⟩:=Inv.qE I hB;refine PySem.P.add_list e e2 ?_ (by rw[UI,UI];lia);have ea:ao.toArray++its2.toArray=(ao++its2).toArray:=by simp
 rw[ea];exact⟨.ref _,_,I.Iy (t':=s.toks) (r.append r2) (by rw[V1];lia),rfl,q _ I.fresh⟩
theorem Mv:bE X (binaryOp .Mult) (λ x y H Q=>∃l k xs,x= .ref l/\y= .int k/\Rd H l (.lst xs)/\ -(2^63)<=k/\k<2^63/\xs.length*k.toNat<=sizeLine/\
 ∀p,H p=none->Q (.ref p) (upd H p (.lst (List.replicate k.toNat xs).flatten))):=by
 intro pins s σ H x y v u Q I rx ry h;obtain⟨l,k,xs,rfl,rfl,hH,h1,h2,hz,q⟩:=h;cases rx;obtain⟨t,rfl⟩:=ry;obtain⟨z,ao,n,r,hl,e⟩:=Inv.qE I hH;have hlen:ao.toArray.size*k.toNat<=sizeLine:=by rw[UI,<-hl];exact hz
 have hcap:¬ao.toArray.size*k.toNat>(2^63-1)/8:=by
  have:(sizeLine:Nat)<=(2^63-1)/8:=by decide
  lia
 have hfit:¬(!Builtin.List.listFitsIndex k)=true:=by
  rw[fitsIndex_both h1 h2];exact Vv
 have hlong:¬Builtin.List.listTooLong (ao.toArray.size*k.toNat)=true:=by
  rw[Jp hlen];exact Vv
 have hnew:List.foldl (λ x1 x2=>x1++x2) #[] (List.replicate (if ao.toArray.isEmpty=true then 0 else k.toNat) ao.toArray)=(List.replicate k.toNat ao).flatten.toArray:=by
  have f0:∀m:Nat,List.foldl (λ x1 x2=>x1++x2) #[] (List.replicate m ao.toArray)=(List.replicate m ao).flatten.toArray:=λ m=>by
   have:=foldl_rep ao m [];rw[List.nil_append]at this;exact this
  rw[f0];cases ao with
  |nil=>simp
  |cons a r'=>rw[Uy (by simp)]
 refine Yt (T:="list") (U:="int") (by decide) ⟨_,e,rfl⟩ (λ s'=>Ys s' k t) noFill_list_mul F.fills_int_mul XB repeat_list F.slot_int_index.lookup
  (WO XB (Ys s k t) F.entry_int_rmul (F.args_int_rmul_2 _ _) (int___rmul___int_list k t l ao.toArray n)
    ⟨e,rfl,⟨_,e,rfl⟩,WO F.slot_list_mul ⟨_,e,rfl⟩ F.entry_list_mul (F.args_list_mul_2 _ _) (AutoListH.list___mul___list_int_3 l ao.toArray n k t hfit hcap hlong) ⟨e,?_⟩⟩)
 rw[hnew];exact⟨.ref _,_,I.Iy (t':=s.toks) (r.rep k.toNat) (by rw[len_rep,We];exact hz),rfl,q _ I.fresh⟩
theorem Jh:bE X (binaryOp .Add) (λ x y H Q=>∃a b xs ys,x= .ref a/\y= .ref b/\H a=some (.tup xs)/\H b=some (.tup ys)/\xs.length+ys.length<=sizeLine/\
 (xs=[]->Q (.ref b) H)/\(xs≠ []->ys=[]->Q (.ref a) H)/\(xs≠ []->ys≠ []->∀p,H p=none->Q (.ref p) (upd H p (.tup (xs++ys))))):=by
 intro pins s σ H x y v u Q I rx ry h;obtain⟨a,b,xs,ys,rfl,rfl,ha,hb,hz,q0,q1,q2⟩:=h;by_cases hx:xs=[]
 . cases rx;cases ry;obtain⟨ao,r1,p1,_⟩:=I.tuple (.of ha);obtain⟨its2,r2,p2,_⟩:=I.tuple (.of hb);obtain⟨⟨cls,dd,data,sl⟩,ho,hc,n,hd⟩:=id p1;obtain⟨⟨cls2,dd2,data2,sl2⟩,ho2,hc2,n2,hd2⟩:=id p2;simp only at hc hd hc2 hd2;subst hc hd hc2 hd2;have hi:ao=[]:=(L2.Vals.sj r1).mpr hx
   exact Y9 ⟨_,ho,rfl⟩ ⟨_,ho2,rfl⟩ YC Y5 Xp Xi (Xb _ _)
    (tuple_addW0 a b ao.toArray its2.toArray n n2 dd dd2 sl sl2 (by simp[hi])) ⟨ho,ho2,⟨.ref b,H,I,rfl,q0 hx⟩⟩
 . exact Mj pins s σ H _ _ v u Q I rx ry ⟨a,b,xs,ys,rfl,rfl,.of ha,.of hb,hx,hz,q1 hx,q2 hx⟩
theorem wq:fillsNumberSlot (.type "tuple") "mul"=pure false:=
 PySem.fillsNumberSlot_seq (id:="tuple.__mul__") (r:=some (.builtin "tuple.__rmul__")) W0.lookup (by decide+kernel) F.slot_tuple_rmul.lookup (by decide+kernel)
theorem Ea:seqRepeat? (.type "tuple")=pure (some (.builtin "tuple.__mul__")):=by
 unfold seqRepeat?;rw[PySem.seqSlot_of (T:="tuple") (name:="__mul__") (id:="tuple.__mul__") W0.lookup (by decide+kernel),PySem.seqSlot_of (T:="tuple") (name:="__rmul__") (id:="tuple.__rmul__") F.slot_tuple_rmul.lookup (by decide+kernel)];rfl
theorem Aa(a:Int)(t:Tok)(l:Addr)(ao:Array Value)(n:Nat)(dd:Option Addr)(sl:Array (Option Value)):Meets (Builtin.«int.__rmul__» ⟨[.int a t,.ref l],[]⟩) (λ _ R s=>s.heap.get? l=some {cls:= .type "tuple",dict:=dd,data:= .seq ao n,slots:=sl}/\R (.ok (.ret Value.notImplemented)) s):=
 .of_wp λ P w A R s h=>by
  obtain⟨hp,g,d,tk,os⟩:=s;obtain⟨hl,h⟩:=h
  wp_walk
  exact⟨_,rfl,h⟩
theorem zD(l:Addr)(ao:Array Value)(n:Nat)(dd:Option Addr)(sl:Array (Option Value))(x:Int)(u:Tok)(h0:(decide (x< -(2^63))||decide (x>=2^63))=false)(h1:(ao.isEmpty||x==1)=true):
 Meets (Builtin.«tuple.__mul__» ⟨[.ref l,.int x u],[]⟩) (λ _ R s=>s.heap.get? l=some {cls:= .type "tuple",dict:=dd,data:= .seq ao n,slots:=sl}/\R (.ok (.ret (.ref l))) s):=
 .of_wp λ P w A R s h=>by
  obtain⟨hp,g,d,tk,os⟩:=s;obtain⟨hl,h⟩:=h
  wp_walk
  refine XC (by rw[h0];rfl) ?_
  wp_walk
  exact⟨_,rfl,h⟩
theorem zh(l:Addr)(ao:Array Value)(n:Nat)(dd:Option Addr)(sl:Array (Option Value))(x:Int)(u:Tok)(h0:(decide (x< -(2^63))||decide (x>=2^63))=false)(h1:(ao.isEmpty||x==1)=false)(h2:(decide (x<=0)||ao.isEmpty)=true):
 Meets (Builtin.«tuple.__mul__» ⟨[.ref l,.int x u],[]⟩) (λ _ R s=>s.heap.get? l=some {cls:= .type "tuple",dict:=dd,data:= .seq ao n,slots:=sl}/\R (.ok (.ret (.ref s.heap.objs.size))) {s with heap:=s.heap.push {cls:= .type "tuple",data:= .seq #[]}}):=
 .of_wp λ P w A R s h=>by
  obtain⟨hp,g,d,tk,os⟩:=s;obtain⟨hl,h⟩:=h
  wp_walk
  refine XC (by rw[h0];rfl) ?_
  wp_walk
  exact⟨_,rfl,h⟩
theorem Ae(l:Addr)(ao:Array Value)(n:Nat)(dd:Option Addr)(sl:Array (Option Value))(x:Int)(u:Tok)(h0:(decide (x< -(2^63))||decide (x>=2^63))=false)(h1:(ao.isEmpty||x==1)=false)(h2:(decide (x<=0)||ao.isEmpty)=false)(h3:¬((ao.size:Int)*x>(2^63-1)/8))(h4:Builtin.Tuple.tupleTooMany (ao.size*x)=false)
 (hz:(List.foldl (λ x1 x2=>x1++x2) #[] (List.replicate x.toNat ao)).size<=sizeLine):
 Meets (Builtin.«tuple.__mul__» ⟨[.ref l,.int x u],[]⟩) (λ _ R s=>s.heap.get? l=some {cls:= .type "tuple",dict:=dd,data:= .seq ao n,slots:=sl}/\R (.ok (.ret (.ref s.heap.objs.size))) {s with heap:=s.heap.push {cls:= .type "tuple",data:= .seq (List.foldl (λ x1 x2=>x1++x2) #[] (List.replicate x.toNat ao))}}):=
 .of_wp λ P w A R s h=>by
  obtain⟨hp,g,d,tk,os⟩:=s;obtain⟨hl,h⟩:=h
  wp_walk
  refine XC (by rw[h0];rfl) ?_
  wp_walk
  refine XC (UX h3) ?_
  wp_walk
  exact⟨_,rfl,h⟩
theorem Ny:bE X (binaryOp .Mult) (λ x y H Q=>∃l k xs,x= .ref l/\y= .int k/\H l=some (.tup xs)/\ -(2^63)<=k/\k<2^63/\xs.length*k.toNat<=sizeLine/\
 ((xs=[]\/k=1)->Q (.ref l) H)/\(¬(xs=[]\/k=1)->∀p,H p=none->Q (.ref p) (upd H p (.tup (List.replicate k.toNat xs).flatten)))):=by
 intro pins s σ H x y v u Q I rx ry h;obtain⟨l,k,xs,rfl,rfl,hH,h1,h2,hz,q1,q2⟩:=h;cases rx;obtain⟨t,rfl⟩:=ry;obtain⟨ao,r,p1,_⟩:=I.tuple (.of hH);obtain⟨⟨cls,dd,data,sl⟩,ho,hc,n,hd⟩:=id p1;simp only at hc hd;subst hc hd;have hl:xs.length=ao.length:=r.length
 have f0:(decide (k< -(2^63))||decide (k>=2^63))=false:=by
  rw[UX (by lia),UX (by lia)];rfl
 refine Yt (T:="tuple") (U:="int") (by decide) ⟨_,ho,rfl⟩ (λ s'=>Ys s' k t) wq F.fills_int_mul XB Ea F.slot_int_index.lookup
  (WO XB (Ys s k t) F.entry_int_rmul (F.args_int_rmul_2 _ _) (Aa k t l ao.toArray n dd sl) ⟨ho,rfl,⟨_,ho,rfl⟩,?_⟩)
 by_cases hs:xs=[]\/k=1
 . have f1:(ao.toArray.isEmpty||k==1)=true:=by
    rcases hs with z|z
    . have:ao=[]:=V8.mp (by rw[<-hl,z];rfl);rw[this];rfl
    . rw[z];simp
   exact WO W0 ⟨_,ho,rfl⟩ Yo (Yb _ _) (zD l ao.toArray n dd sl k t f0 f1) ⟨ho,⟨.ref l,H,I,rfl,q1 hs⟩⟩
 . have hne:ao≠ []:=λ z=>hs (.inl (V8.mp (by rw[hl,z];rfl)));have hk1:k≠1:=λ z=>hs (.inr z);have e1:ao.toArray.isEmpty=false:=by simpa using hne
   have f1:(ao.toArray.isEmpty||k==1)=false:=by rw[e1];simpa using hk1
   have new:∀(us:List Value) (ys:List V),Vals ys us->ys.length<=sizeLine->Inv X pins σ (upd H s.heap.objs.size (.tup ys)) {s with heap:=s.heap.push {cls:= .type "tuple",data:= .seq us.toArray}}:=λ us ys hv hy=>
    I.laid (t':=s.toks) (λ _ _ q=>Uv _ q) (UB _) ⟨hy,us,hv,⟨_,UO _ rfl,rfl,_,rfl⟩⟩
   by_cases h0:k<=0
   . have f2:(decide (k<=0)||ao.toArray.isEmpty)=true:=by rw[VA h0];rfl
     refine WO W0 ⟨_,ho,rfl⟩ Yo (Yb _ _) (zh l ao.toArray n dd sl k t f0 f1 f2) ⟨ho,?_⟩;have ez:k.toNat=0:=by lia
     rw[ez]at q2;exact⟨.ref _,_,new [] [] .nil (VP _),rfl,q2 hs _ I.fresh⟩
   . have f2:(decide (k<=0)||ao.toArray.isEmpty)=false:=by rw[UX h0,e1];rfl
     have hk:(k.toNat:Int)=k:=by lia
     have hlen:ao.toArray.size*k.toNat<=sizeLine:=by rw[UI,<-hl];exact hz
     have hsz:((ao.toArray.size:Nat):Int)*k<=(sizeLine:Int):=by
      rw[<-hk]
      exact_mod_cast hlen
     have f3:¬(((ao.toArray.size:Nat):Int)*k>(2^63-1)/8):=by
      have:((sizeLine:Nat):Int)<=(2^63-1)/8:=by decide
      lia
     have f4:Builtin.Tuple.tupleTooMany (((ao.toArray.size:Nat):Int)*k)=false:=by
      unfold Builtin.Tuple.tupleTooMany;exact UX (by lia)
     have hnew:List.foldl (λ x1 x2=>x1++x2) #[] (List.replicate k.toNat ao.toArray)=(List.replicate k.toNat ao).flatten.toArray:=by
      have:=foldl_rep ao k.toNat [];rw[List.nil_append]at this;exact this
     have hfl:(List.replicate k.toNat ao).flatten.length=ao.length*k.toNat:=by rw[len_rep,We]
     refine WO W0 ⟨_,ho,rfl⟩ Yo (Yb _ _) (Ae l ao.toArray n dd sl k t f0 f1 f2 f3 f4 (by rw[hnew,UI,hfl];exact hlen)) ⟨ho,?_⟩;rw[hnew];exact⟨.ref _,_,new _ _ (r.rep k.toNat) (by rw[len_rep,We];exact hz),rfl,q2 hs _ I.fresh⟩
def Ka:cO:=λ x y st K=>match x,y with
 | .int i,.int j=>K (.int (i+j)) st
 | .tup xs,.tup ys=>xs.length+ys.length<=sizeLine/\K (.tup (xs++ys)) st
 | .lst xs,.lst ys=>xs.length+ys.length<=sizeLine/\K (.lst (xs++ys)) st
 | .str x,.str y=>x.length+y.length<=sizeLine/\K (.str (x++y)) st
 |_,_=>False
theorem Rv:bE X (binaryOp .Add) (LR Ka):=λ pins s σ H x y v u Q I rx ry ⟨α,d,e,st,K,G,F',P,r1,r2,S,q,k⟩=>by
 cases d<;>cases e<;>try exact q.elim
 . unfold Rep at r1 r2;exact OR pins s σ H x y v u Q I rx ry ⟨_,_,r1,r2,k.here P q S (by unfold Rep;rfl)⟩
 . unfold Rep at r1 r2;exact DR pins s σ H x y v u Q I rx ry ⟨_,_,r1,r2,q.1,k.here P q.2 S (by unfold Rep;rfl)⟩
 . unfold Rep at r1 r2;obtain⟨a,vs,rfl,na,ha,ra⟩:=r1;obtain⟨b,ws,rfl,nb,hb,rb⟩:=r2;refine vX pins s σ H _ _ v u Q I rx ry ⟨a,b,vs,ws,rfl,rfl,eP P ha,eP P hb,by rw[<-ra.length,<-rb.length];exact q.1,λ p hp=>?_⟩;exact k.lst P q.2 S (aO.mpr (dH (aO.mp ra) (aO.mp rb))) hp
 . rename_i xs ys;unfold Rep at r1 r2;obtain⟨a,vs,rfl,na,ha,ra⟩:=r1;obtain⟨b,ws,rfl,nb,hb,rb⟩:=r2;have hl1:=ra.length;have hl2:=rb.length;refine Jh pins s σ H _ _ v u Q I rx ry ⟨a,b,vs,ws,rfl,rfl,P.get ha,P.get hb,by rw[<-hl1,<-hl2];exact q.1,λ z=>?_,λ _ z=>?_,λ _ _ p hp=>?_⟩
   . refine k.here P q.2 S ?_;unfold Rep;have:xs=[]:=by rw[z]at hl1;exact V8.mp hl1
     subst this;exact⟨b,ws,rfl,nb,hb,rb⟩
   . refine k.here P q.2 S ?_;unfold Rep;have:ys=[]:=by rw[z]at hl2;exact V8.mp hl2
     subst this;rw[VZ];exact⟨a,vs,rfl,na,ha,ra⟩
   . exact k.tup P q.2 S (aO.mpr (dH (aO.mp ra) (aO.mp rb))) hp
def KP:cO:=λ x y st K=>match x,y with
 | .int i,.int j=>IntMulOk i j/\K (.int (i*j)) st
 | .lst xs,.int k=>(-(2^63)<=k/\k<2^63/\xs.length*k.toNat<=sizeLine)/\K (.lst (List.replicate k.toNat xs).flatten) st
 | .tup xs,.int k=>(-(2^63)<=k/\k<2^63/\xs.length*k.toNat<=sizeLine)/\K (.tup (List.replicate k.toNat xs).flatten) st
 |_,_=>False
theorem QW:bE X (binaryOp .Mult) (LR KP):=λ pins s σ H x y v u Q I rx ry ⟨α,d,e,st,K,G,F',P,r1,r2,S,q,k⟩=>by
 cases d<;>cases e<;>try exact q.elim
 . unfold Rep at r1 r2;have h:bE X (binaryOp .Mult) (rI IntMulOk λ i j=> .int (i*j)):=KU λ _ _ _ _ _ _ _ hc q=>mul_int q hc;exact h pins s σ H x y v u Q I rx ry ⟨_,_,r1,r2,q.1,k.here P q.2 S (by unfold Rep;rfl)⟩
 . unfold Rep at r1 r2;obtain⟨a,vs,rfl,na,ha,ra⟩:=r1;refine Mv pins s σ H _ _ v u Q I rx ry ⟨a,_,vs,rfl,r2,eP P ha,q.1.1,q.1.2.1,by rw[<-ra.length];exact q.1.2.2,λ p hp=>?_⟩;exact k.lst P q.2 S (aO.mpr (nU (aO.mp ra) _)) hp
 . rename_i xs m;have r1':=r1;unfold Rep at r1 r2;obtain⟨a,vs,rfl,na,ha,ra⟩:=r1;refine Ny pins s σ H _ _ v u Q I rx ry ⟨a,_,vs,rfl,r2,P.get ha,q.1.1,q.1.2.1,by rw[<-ra.length];exact q.1.2.2,λ hs=>?_,λ _ p hp=>k.tup P q.2 S (aO.mpr (nU (aO.mp ra) _)) hp⟩
   have e:(List.replicate m.toNat xs).flatten=xs:=by
    rcases hs with z|z
    . have:xs=[]:=V8.mp (by rw[ra.length,z];rfl);rw[this];simp
    . rw[z];simp
   have q2:=q.2;rw[e]at q2;exact k.here P q2 S r1'
def live(st:af):D->Bool
 | .ref n=>(match st[n]? with|some (.lst _)=>true|some (.ins _ _)=>true|_=>false)
 |_=>true
theorem uD{α:List (Option Addr)}{H:Hp}{st:af}{n:Nat}{v:V}(S:aX α st H)(h:live st (.ref n)=true)(r:Rep α H (.ref n) v):∃a,v= .ref a:=by
 unfold live at h;simp only at h;split at h
 . rename_i e;obtain⟨a,ea,_⟩:=S.fG e;exact⟨a,cW ea r⟩
 . rename_i e;obtain⟨a,ea,_⟩:=S.vz e;exact⟨a,cW ea r⟩
 . cases h
def Mh:cO:=λ x y st K=>match y with| .ay=>live st x=true/\K (.bl (match x with| .ay=>false|_=>true)) st|_=>False
theorem Nq:bE X (compareOp .IsNot) (LR Mh):=bE.imp Mn λ x y H Q ⟨α,d,e,st,K,G,F',P,r1,r2,S,q,k⟩=>by
 cases e<;>try exact q.elim
 unfold Rep at r2;refine⟨r2,k.here P q.2 S ?_⟩;unfold Rep;cases d
 case ref n=>
  obtain⟨a,rfl⟩:=uD S q.1 r1;rfl
 all_goals(unfold Rep at r1;first|(rw[r1];rfl)|(obtain⟨a,vs,rfl,_⟩:=r1;rfl))
def o6:cO:=λ x y st K=>match y with
 | .int i=>(match x with
   | .lst xs=>(match di xs i with|some d=>K d st|none=>False)
   | .tup xs=>(match di xs i with|some d=>K d st|none=>False)
   | .ref n=>(match st[n]? with|some (.lst xs)=>(match di xs i with|some d=>K d st|none=>False)|_=>False)
   |_=>False)
 |_=>False
theorem aE.di{α:List (Option Addr)}{H:Hp}{ds:List D}{vs:List V}{i:Int}{d:D}(h:aE α H ds vs)(e:L2.di ds i=some d):∃v,L2.di vs i=some v/\Rep α H d v:=by
 unfold L2.di at e⊢;rw[<-h.length];cases q:jE ds.length i with
 |none=>rw[q]at e;cases e
 |some j=>rw[q]at e;exact h.get e
theorem S8:JR X (LR o6):=λ value slice pins s σ H x y v u Q I rx ry ⟨α,d,e,st,K,G,F',P,r1,r2,S,q,k⟩ hs=>by
 cases e<;>try exact q.elim
 unfold Rep at r2;cases d<;>try exact q.elim
 . rename_i i n;unfold o6 at q;simp only at q;split at q
   . split at q
     . rename_i xs e1 _ d' e2;obtain⟨a,ea,vs,hv,rv⟩:=S.fG e1;have r1':=cW ea r1;subst r1';obtain⟨z,ez,rz⟩:=rv.di e2;exact CH value slice pins s σ H _ _ v u Q I rx ry ⟨a,vs,_,z,rfl,r2,.of (P.get hv),ez,k.here P q S rz⟩ hs
     . exact q.elim
   . exact q.elim
 . unfold o6 at q;simp only at q;split at q
   . rename_i xs d' e2;unfold Rep at r1;obtain⟨a,vs,rfl,na,ha,ra⟩:=r1;obtain⟨z,ez,rz⟩:=ra.di e2;exact CH value slice pins s σ H _ _ v u Q I rx ry ⟨a,vs,_,z,rfl,r2,.inl (eP P ha),ez,k.here P q S rz⟩ hs
   . exact q.elim
 . unfold o6 at q;simp only at q;split at q
   . rename_i xs d' e2;unfold Rep at r1;obtain⟨a,vs,rfl,na,ha,ra⟩:=r1;obtain⟨z,ez,rz⟩:=ra.di e2;exact O2 value slice pins s σ H _ _ v u Q I rx ry ⟨a,vs,_,z,rfl,r2,.of (P.get ha),ez,k.here P q S rz⟩ hs
   . exact q.elim
theorem Tg{a b:Expr}{ta tb:DE}{pos:Pos}(ha:PE X a (LE ta))(hb:PE X b (LE tb))(hs:rY b:=by intro _ _;rfl):PE X (.Subscript a b pos) (LE (ah o6 ta tb)):=PE.imp (QY S8 ha hb hs) λ _ _ _ h=>LE.op h
def items?(st:af):D->Option (List D)
 | .lst xs=>some xs
 | .tup xs=>some xs
 | .ref n=>(match st[n]? with|some (.lst xs)=>some xs|_=>none)
 |_=>none
@[simp] theorem R0(st:af)(xs:List D):items? st (.lst xs)=some xs:=rfl
@[simp] theorem RZ(st:af)(xs:List D):items? st (.tup xs)=some xs:=rfl
@[simp] theorem items_int(st:af)(i:Int):items? st (.int i)=none:=rfl
@[simp] theorem Ta(st:af)(i:Bool):items? st (.bl i)=none:=rfl
@[simp] theorem items_str(st:af)(i:Str):items? st (.str i)=none:=rfl
@[simp] theorem SA(st:af):items? st .ay=none:=rfl
theorem aq{st:af}{n:Nat}{xs:List D}(h:st[n]?=some (.lst xs)):items? st (.ref n)=some xs:=by unfold items?;simp only[h]
theorem kM{α:List (Option Addr)}{H:Hp}{st:af}{d:D}{v:V}{xs:List D}(S:aX α st H)(r:Rep α H d v)(e:items? st d=some xs):
 ∃p vs,v= .ref p/\aE α H xs vs/\(Rd H p (.lst vs)\/H p=some (.tup vs)):=by
 cases d<;>try(cases e;done)
 . unfold items? at e;simp only at e;split at e
   . rename_i ys q;cases e;obtain⟨a,ea,vs,h1,h2⟩:=S.fG q;have r':=cW ea r;subst r';exact⟨a,vs,rfl,h2,.inl (.of h1)⟩
   . cases e
 . cases e;unfold Rep at r;obtain⟨a,vs,rfl,_,h1,h2⟩:=r;exact⟨a,vs,rfl,h2,.inl h1⟩
 . cases e;unfold Rep at r;obtain⟨a,vs,rfl,_,h1,h2⟩:=r;exact⟨a,vs,rfl,h2,.inr h1⟩
theorem En{K:PySem.W.Frag}{G F H:Hp}(P:bZ G F H){p:Addr}{vs:List V}(h:Rd G p (.lst vs)\/G p=some (.tup vs)):kH K H p vs\/hJ K H p vs:=h.elim (λ z=> .inl (.inl (eP P z))) λ z=> .inr (.of (P.get z))
theorem gH{α:List (Option Addr)}{H:Hp}{ds:List D}{xs:List V}{d:D}(r:aE α H ds xs)(e:ds=[d]):∃v,xs=[v]/\Rep α H d v:=by
 subst e;unfold aE at r;obtain⟨v,q,rfl,h1,h2⟩:=r;unfold aE at h2;subst h2;exact⟨v,rfl,h1⟩
theorem mT{α:List (Option Addr)}{H:Hp}{ds:List D}{xs:List V}{d e:D}(r:aE α H ds xs)(q:ds=[d,e]):∃v u,xs=[v,u]/\Rep α H d v/\Rep α H e u:=by
 subst q;unfold aE at r;obtain⟨v,q,rfl,h1,h2⟩:=r;obtain⟨u,rfl,h3⟩:=gH h2 rfl;exact⟨v,u,rfl,h1,h3⟩
def yC:eQ:=λ ds st K=>match ds with
 | [.str x]=>x.length<=sizeLine/\K (.int x.length) st
 | [d]=>(match items? st d with|some xs=>K (.int xs.length) st|none=>False)
 |_=>False
theorem QB:bF X (.builtin "len") (fO yC):=λ pins s σ H xs us Q I rs ⟨α,ds,st,K,G,F',P,r,S,q,k⟩=>by
 unfold yC at q;split at q
 . rename_i x;obtain⟨v,rfl,r1⟩:=gH r rfl;unfold Rep at r1;subst r1;exact zY pins s σ H _ us Q I rs ⟨x,rfl,q.1,k.here P q.2 S (by unfold Rep;rfl)⟩
 . rename_i d _;split at q
   . rename_i ys e;obtain⟨v,rfl,r1⟩:=gH r rfl;obtain⟨p,vs,rfl,r2,h⟩:=kM S r1 e;refine zW pins s σ H _ us Q I rs ⟨p,vs,rfl,En P h,k.here P q S (by unfold Rep;rw[r2.length])⟩
   . exact q.elim
 . exact q.elim
def R7(g:Int->Int):eQ:=λ ds st K=>match ds with| [.int i]=>K (.int (g i)) st|_=>False
abbrev Dv:eQ:=R7 λ i=>if i<0 then-i else i
theorem RX:bF X (.builtin "abs") (fO Dv):=bF.imp Ig λ xs H Q ⟨α,ds,st,K,G,F',P,r,S,q,k⟩=>by
 unfold Dv R7 at q;split at q
 . obtain⟨v,rfl,r1⟩:=gH r rfl;unfold Rep at r1;subst r1;exact⟨_,rfl,k.here P q S (by unfold Rep;rfl)⟩
 . exact q.elim
def O0(g:Int->Int->Int):eQ:=λ ds st K=>match ds with| [.int i,.int j]=>K (.int (g i j)) st|_=>False
abbrev E5:eQ:=O0 λ i j=>if j>i then j else i
theorem Rq(hc:X.calm=true):bF X (.builtin "max") (fO E5):=bF.imp (Gv hc) λ xs H Q ⟨α,ds,st,K,G,F',P,r,S,q,k⟩=>by
 unfold E5 O0 at q;split at q
 . obtain⟨v,u,rfl,r1,r2⟩:=mT r rfl;unfold Rep at r1 r2;subst r1 r2;exact⟨_,_,rfl,k.here P q S (by unfold Rep;rfl)⟩
 . exact q.elim
def Ep:eQ:=λ ds st K=>match ds with| [.int i]=>K (.int i) st| [.bl b]=>K (.int (if b then 1 else 0)) st|_=>False
theorem QZ:bF X (.type "int") (fO Ep):=bF.imp GA λ xs H Q ⟨α,ds,st,K,G,F',P,r,S,q,k⟩=>by
 unfold Ep at q;split at q
 . obtain⟨v,rfl,r1⟩:=gH r rfl;unfold Rep at r1;subst r1;exact .inl ⟨_,rfl,k.here P q S (by unfold Rep;rfl)⟩
 . obtain⟨v,rfl,r1⟩:=gH r rfl;unfold Rep at r1;subst r1;exact .inr ⟨_,rfl,k.here P q S (by unfold Rep;rfl)⟩
 . exact q.elim
def rV:eQ:=λ ds st K=>match ds with| [d]=>(match items? st d with|some xs=>K (.tup xs) st|none=>False)|_=>False
theorem Nw:bF X (.type "tuple") (fO rV):=bF.imp yq λ xs H Q ⟨α,ds,st,K,G,F',P,r,S,q,k⟩=>by
 unfold rV at q;split at q
 . rename_i d;split at q
   . rename_i ys e;obtain⟨v,rfl,r1⟩:=gH r rfl;cases d with
     |tup zs=>
      cases e;have r0:=r1;unfold Rep at r1;obtain⟨a,vs,rfl,na,h1,h2⟩:=r1;exact⟨a,vs,rfl,.inr ⟨.of (P.get h1),k.here P q S r0⟩⟩
     |_=>
      obtain⟨p,vs,rfl,r2,h⟩:=kM S r1 e;refine⟨p,vs,rfl,?_⟩;rcases h with h|h
      . exact .inl ⟨.inl (eP P h),λ l hl=>k.tup P q S r2 hl⟩
      . first
         |(cases e;done)
         |(exfalso
           unfold items? at e;simp only at e
           first
            |(split at e
              . rename_i z;obtain⟨a,ea,vs',h1,h2⟩:=S.fG z;have e':=cW ea r1;cases e';rw[h]at h1;cases h1
              . cases e)
            |(unfold Rep at r1
              obtain⟨a,vs',e',_,h1,_⟩:=r1;cases e';rcases h1 with h1|⟨o,h1⟩<;>(rw[h]at h1;cases h1)))
   . exact q.elim
 . exact q.elim
def uS:eQ:=λ ds st K=>match ds with| [d]=>(match items? st d with|some xs=>K (.lst xs) st|none=>False)|_=>False
theorem Ob:bF X (.type "list") (fO uS):=bF.imp rF λ xs H Q ⟨α,ds,st,K,G,F',P,r,S,q,k⟩=>by
 unfold uS at q;split at q
 . split at q
   . rename_i ys e;obtain⟨v,rfl,r1⟩:=gH r rfl;obtain⟨p,vs,rfl,r2,h⟩:=kM S r1 e;exact⟨p,vs,rfl,En P h,λ l hl=>k.lst P q S r2 hl⟩
   . exact q.elim
 . exact q.elim
def r9:eQ:=λ ds st K=>match ds with| [d]=>(match items? st d with|some xs=>K (.ref st.length) (st++[.lst xs])|none=>False)|_=>False
theorem Nl:bF X (.type "list") (fO r9):=bF.imp rF λ xs H Q ⟨α,ds,st,K,G,F',P,r,S,q,k⟩=>by
 unfold r9 at q;split at q
 . split at q
   . rename_i ys e;obtain⟨v,rfl,r1⟩:=gH r rfl;obtain⟨p,vs,rfl,r2,h⟩:=kM S r1 e;exact⟨p,vs,rfl,En P h,λ l hl=>k.new P q S r2 hl⟩
   . exact q.elim
 . exact q.elim
def gR:List D->Option (List Bool)
 | []=>some []
 | .bl b::r=>(gR r).map (b:: ·)
 |_::_=>none
def m_:List D->Option (List Int)
 | []=>some []
 | .int b::r=>(m_ r).map (b:: ·)
 |_::_=>none
theorem pD{α:List (Option Addr)}{H:Hp}:∀ {ds:List D} {vs:List V} {bs:List Bool},aE α H ds vs->gR ds=some bs->vs=bs.map V.bl
 | [],vs,bs,r,e=>by
   unfold aE at r;cases e;exact r
 |d::ds,vs,bs,r,e=>by
  unfold aE at r;obtain⟨v,q,rfl,h1,h2⟩:=r;cases d<;>try(cases e;done)
  unfold gR at e;cases z:gR ds with
  |none=>rw[z]at e;cases e
  |some cs=>
   rw[z]at e;cases e;unfold Rep at h1;rw[h1,pD h2 z];rfl
theorem w6{α:List (Option Addr)}{H:Hp}:∀ {ds:List D} {vs:List V} {bs:List Int},aE α H ds vs->m_ ds=some bs->vs=bs.map V.int
 | [],vs,bs,r,e=>by
   unfold aE at r;cases e;exact r
 |d::ds,vs,bs,r,e=>by
  unfold aE at r;obtain⟨v,q,rfl,h1,h2⟩:=r;cases d<;>try(cases e;done)
  unfold m_ at e;cases z:m_ ds with
  |none=>rw[z]at e;cases e
  |some cs=>
   rw[z]at e;cases e;unfold Rep at h1;rw[h1,w6 h2 z];rfl
theorem oZ:∀ {bs:List Bool} {us:List Value},Vals (bs.map V.bl) us->us=bs.map Value.bool
 | [],_,.nil=>rfl
 |b::bs,_,.cons h t=>by
  have h:_=Value.bool b:=h;rw[h,oZ t];rfl
def yP:eQ:=λ ds st K=>match ds with| [.lst xs]=>(match gR xs with|some bs=>K (.bl (bs.all id)) st|none=>False)|_=>False
theorem range_all{α:Type}(l:List α)(f:α->Bool)(tr:Nat->Bool)(h:∀i x,l[i]?=some x->tr i=f x):(List.range l.length).all tr=l.all f:=by
 induction l generalizing tr with
 |nil=>rfl
 |cons a l ih=>
  rw[Vh,VV,V5,V5,Zb,h 0 a rfl];congr 1;exact ih (tr∘Nat.succ) λ i x e=>h (i+1) x (by simpa using e)
theorem Q5(hc:X.calm=true):bF X (.builtin "all") (fO yP):=λ pins s σ H xs us Q I rs ⟨α,ds,st,K,G,F',P,r,S,q,k⟩=>by
 unfold yP at q;split at q
 . rename_i ys;split at q
   . rename_i bs e;obtain⟨v,rfl,r1⟩:=gH r rfl;unfold Rep at r1;obtain⟨a,vs,rfl,na,h1,h2⟩:=r1;obtain⟨u,rfl,ru⟩:=vals1 rs;cases ru;have hv:=pD h2 e;subst hv;obtain⟨z,ao,n,rv,hl,eo⟩:=Inv.qE I (eP P h1);have hits:=oZ rv;subst hits;have isL:s.heap.IsList a (bs.map Value.bool).toArray:=⟨_,eo,rfl,n,rfl⟩
     refine call_all_walk (WV isL ?_);have hne:a≠s.heap.objs.size:=Vg (UN eo);refine⟨s.heap.objs.size,_,_,_,_,_,λ i=>(bs[i]?).getD true,rfl,Walks.list (A:=X.A.in1) (I.ok.hd hc) _ a hne (bs.map Value.bool).toArray,⟨⟨_,UO _ rfl,rfl,rfl⟩,⟨_,Uv _ eo,rfl,n,rfl⟩⟩,?_,?_⟩
     . intro i w s' Q' E' hP hQ;rw[YY,UM]at hP;cases zb:bs[i]? with
       |none=>rw[zb]at hP;cases hP
       |some b=>
        rw[zb]at hP;cases hP;simp only[zb]at hQ;exact Wj hQ
     . intro h' tk hk
       have kp:∀b o,s.heap.get? b=some o->h'.get? b=some o:=λ b o q=>hk b o (by
        intro hb;have:b=s.heap.objs.size:=by simpa using hb
        exact absurd (UN q) (by rw[this];exact Vt _)) (Uv _ q)
       have ea:(List.range (bs.map Value.bool).toArray.size).all (λ i=>(bs[i]?).getD true)=bs.all id:=by
        rw[UI,Uz];exact range_all bs id _ λ i x e=>by rw[e];rfl
       rw[ea];exact⟨.bl (bs.all id),H,I.kept (t':=tk) kp,rfl,k.here P q S (by unfold Rep;rfl)⟩
   . exact q.elim
 . exact q.elim
def dn(st:af):D->Option String
 | .ay=>some "NoneType"
 | .bl _=>some "bool"
 | .int _=>some "int"
 | .str _=>some "str"
 | .lst _=>some "list"
 | .tup _=>some "tuple"
 | .ref n=>(match st[n]? with|some (.lst _)=>some "list"|_=>none)
 | .ty _=>none
@[simp] theorem Ud(st:af)(xs:List D):dn st (.lst xs)=some "list":=rfl
@[simp] theorem Ur(st:af)(xs:List D):dn st (.tup xs)=some "tuple":=rfl
@[simp] theorem ty_int(st:af)(i:Int):dn st (.int i)=some "int":=rfl
@[simp] theorem Us(st:af)(i:Bool):dn st (.bl i)=some "bool":=rfl
@[simp] theorem ty_str(st:af)(i:Str):dn st (.str i)=some "str":=rfl
@[simp] theorem Ui(st:af):dn st .ay=some "NoneType":=rfl
def pq(t c:String):Bool:=t==c||(t=="bool"&&c=="int")
theorem ze{α:List (Option Addr)}{H:Hp}{st:af}{K:PySem.W.Frag}{d:D}{v:V}{t:String}(S:aX α st H)(r:Rep α H d v)(e:dn st d=some t):iL K H v (.type t):=by
 cases d<;>unfold dn at e<;>try(cases e;done)
 . unfold Rep at r;cases e;subst r;exact .ay
 . unfold Rep at r;cases e;subst r;exact .bl _
 . unfold Rep at r;cases e;subst r;exact .int _
 . unfold Rep at r;cases e;subst r;exact .str _
 . simp only at e;split at e
   . rename_i z;cases e;obtain⟨a,ea,vs',h1,h2⟩:=S.fG z;have r':=cW ea r;subst r';exact .lst h1
   . cases e
 . cases e;unfold Rep at r;obtain⟨a,vs,rfl,na,h1,h2⟩:=r;rcases h1 with h1|⟨o,h1⟩
   . exact .lst h1
   . exact .iE h1
 . cases e;unfold Rep at r;obtain⟨a,vs,rfl,na,h1,h2⟩:=r;exact .tup h1
theorem CV{G F H:Hp}{K:PySem.W.Frag}(P:bZ G F H){x:V}{t:Value}(h:iL K G x t):iL K H x t:=by
 cases h with
 |ay=>exact .ay
 |bl x=>exact .bl x
 |int x=>exact .int x
 |str x=>exact .str x
 |tw x=>exact .tw x
 |lst e=>exact .lst (P.get e)
 |iE e=>exact .iE (P.get e)
 |tup e=>exact .tup (P.get e)
 |dK e=>exact .dK (P.get e)
 |dT e=>exact .dT (P.get e)
 |ins e a b c d f=>exact .ins (P.get e) a b c d f
def hZ:List String:=["NoneType","bool","int","str","list","tuple"]
def j_:List String:=["bool","int","str","list","tuple"]
theorem CC(K:PySem.W.Frag){t c:String}(ht:t∈hZ)(hc:c∈j_):PySem.W.kitOne K (.type t) (.type c)=some (pq t c):=by
 simp only[hZ,j_,UT,UW,V3]at ht hc;rcases ht with rfl|rfl|rfl|rfl|rfl|rfl<;>rcases hc with rfl|rfl|rfl|rfl|rfl<;>with_unfolding_all rfl
theorem jl{st:af}{d:D}{t:String}(e:dn st d=some t):t∈hZ:=by
 cases d<;>unfold dn at e<;>first
  |(cases e;done)
  |(cases e;decide)
  |(simp only at e;split at e<;>cases e;decide)
theorem kitx_of{pins:List (Addr×Obj)}{σ:L2.St}{H:Hp}{s:Shared}{x:V}{u:Value}{t:String}(I:Inv X pins σ H s)(rx:RelV x u)(ty:iL X.K H x (.type t)):
 ∃Hh:Heap->Prop,PySem.W.KitX X.K u (.type t) Hh/\Hh s.heap/\u≠ .builtin "__main__.__loader__#opaque":=by
 cases ty with
 |ay=>cases (show u=Value.none from rx);exact⟨_,PySem.W.kitx_none,True.intro,λ z=>nomatch z⟩
 |bl y=>cases (show u=Value.bool y from rx);exact⟨_,PySem.W.kitx_bool,True.intro,λ z=>nomatch z⟩
 |int i=>obtain⟨t,q⟩:=(show∃t,u=Value.int i t from rx);cases q;exact⟨_,PySem.W.kitx_int,True.intro,λ z=>nomatch z⟩
 |str y=>obtain⟨t,q⟩:=(show∃t,u=Value.str y t from rx);cases q;exact⟨_,PySem.W.kitx_str,True.intro,λ z=>nomatch z⟩
 |tw y=>obtain⟨t,q⟩:=(show∃t,u=Value.float y t from rx);cases q;exact⟨_,PySem.W.kitx_float,True.intro,λ z=>nomatch z⟩
 | @lst a xs ea=>
   cases (show u=Value.ref a from rx);obtain⟨_,_,n,_,h1⟩:=(show df X.prog X.w H s.heap a (.lst xs)from I.aC a _ ea)
   exact⟨_,Xk,⟨_,h1,rfl⟩,λ z=>nomatch z⟩
 | @iE a ob xs ea=>
   cases (show u=Value.ref a from rx);obtain⟨_,_,_,n,_,h1⟩:=(show df X.prog X.w H s.heap a (.iE ob (.lst xs))from I.aC a _ ea)
   exact⟨_,Xk,⟨_,h1,rfl⟩,λ z=>nomatch z⟩
 | @tup a xs ea=>
   cases (show u=Value.ref a from rx);obtain⟨_,_,_,p⟩:=(show df X.prog X.w H s.heap a (.tup xs)from I.aC a _ ea)
   obtain⟨o,h1,h2,_⟩:=p;exact⟨_,PySem.W.kitx_tuple,⟨o,h1,h2⟩,λ z=>nomatch z⟩
 | @dK a kvs ea=>
   cases (show u=Value.ref a from rx);obtain⟨_,_,vs,_,p⟩:=(show df X.prog X.w H s.heap a (.dK kvs)from I.aC a _ ea)
   obtain⟨o,es,ep,h1,h2,_⟩:=p;exact⟨_,Xl,⟨o,h1,h2.1⟩,λ z=>nomatch z⟩
 | @dT a kvs ea=>
   cases (show u=Value.ref a from rx);obtain⟨_,_,xs,_,o,es,ep,h1,h2,_⟩:=(show df X.prog X.w H s.heap a (.dT kvs)from I.aC a _ ea)
   exact⟨_,Xl,⟨o,h1,h2.1⟩,λ z=>nomatch z⟩
def lL:List D->Option (List String)
 | []=>some []
 | .ty b::r=>(lL r).map (b:: ·)
 |_::_=>none
theorem Bf{α:List (Option Addr)}{H:Hp}:∀ {ds:List D} {vs:List V} {bs:List String},aE α H ds vs->lL ds=some bs->vs=bs.map V.ty
 | [],vs,bs,r,e=>by
   unfold aE at r;cases e;exact r
 |d::ds,vs,bs,r,e=>by
  unfold aE at r;obtain⟨v,q,rfl,h1,h2⟩:=r;cases d<;>try(cases e;done)
  unfold lL at e;cases z:lL ds with
  |none=>rw[z]at e;cases e
  |some cs=>
   rw[z]at e;cases e;unfold Rep at h1;rw[h1,Bf h2 z];rfl
theorem AH:∀ {bs:List String} {us:List Value},Vals (bs.map V.ty) us->us=bs.map Value.type
 | [],_,.nil=>rfl
 |b::bs,_,.cons h t=>by
  have h:_=Value.type b:=h;rw[h,AH t];rfl
theorem CK(K:PySem.W.Frag){t:String}(ht:t∈hZ):∀cs:List String,(∀c∈cs,c∈j_)->PySem.W.kitAny K (.type t) (cs.map Value.type)=some (cs.any (pq t))
 | [],_=>rfl
 |c::cs,h=>by
  show(match PySem.W.kitOne K (.type t) (.type c)with|some true=>some true|some false=>PySem.W.kitAny K (.type t) (cs.map Value.type)|none=>none)=_;rw[CC K ht (h c UZ),Yg];cases pq t c with
  |true=>rfl
  |false=>exact CK K ht cs λ c hc=>h c (UQ _ hc)
def vp:eQ:=λ ds st K=>match ds with
 | [d,.ty c]=>(match dn st d with|some t=>c∈j_/\K (.bl (pq t c)) st|none=>False)
 | [d,.tup cs]=>(match dn st d,lL cs with|some t,some cl=>(∀c∈cl,c∈j_)/\K (.bl (cl.any (pq t))) st|_,_=>False)
 |_=>False
theorem QP:bF X (.builtin "isinstance") (fO vp):=λ pins s σ H xs us Q I rs ⟨α,ds,st,K,G,F',P,r,S,q,k⟩=>by
 unfold vp at q;split at q
 . rename_i d c;split at q
   . rename_i t e;obtain⟨v,v2,rfl,r1,r2⟩:=mT r rfl;obtain⟨u,u2,rfl,ru,ru2⟩:=vals2 rs;unfold Rep at r2;subst r2;cases (show u2=Value.type c from ru2);exact F6 I ru (CV P (ze S r1 e)) (CC _ (jl e) q.1) λ tk=>⟨.bl (pq t c),H,I.tok tk,rfl,k.here P q.2 S (by unfold Rep;rfl)⟩
   . exact q.elim
 . rename_i d cs;split at q
   . rename_i t cl e ec;obtain⟨v,v2,rfl,r1,r2⟩:=mT r rfl;obtain⟨u,u2,rfl,ru,ru2⟩:=vals2 rs;unfold Rep at r2;obtain⟨a,vs,rfl,na,h1,h2⟩:=r2;cases (show u2=Value.ref a from ru2);have hv:=Bf h2 ec;subst hv;obtain⟨Hh,Z,hh,hne⟩:=kitx_of I ru (CV P (ze S r1 e));obtain⟨ao,r',pl,hz⟩:=I.tuple (hJ.of (P.get h1));have hi:=AH r';subst hi;obtain⟨⟨cls,dd,data,sl⟩,ho,hc,n,hd⟩:=pl;simp only at hc hd;subst hc hd;exact PySem.W.kia_tup Z I.gg hh ho (CK _ (jl e) cl q.1) hne λ tk=>⟨.bl _,H,I.tok tk,rfl,k.here P q.2 S (by unfold Rep;rfl)⟩
   . exact q.elim
 . exact q.elim
end
end L3
namespace L3
open PySem PySem.Spec L2 PySem.SeqAt
open PyProof.Rows hiding St
mutual
def cw:D->D->Bool
 | .ay,.ay=>true
 | .bl a,.bl b=>a==b
 | .bl a,.int b=>(if a then 1 else 0)==b
 | .int a,.bl b=>a==(if b then 1 else 0)
 | .int a,.int b=>a==b
 | .str a,.str b=>a==b
 | .lst xs,.lst ys=>fu xs ys
 | .tup xs,.tup ys=>fu xs ys
 |_,_=>false
def fu:List D->List D->Bool
 | [],[]=>true
 |x::xs,y::ys=>cw x y&&fu xs ys
 |_,_=>false
end
def pl:Nat->D->Bool
 |_,.ay=>true
 |_,.bl _=>true
 |_,.int _=>true
 |_,.str _=>true
 |n+1,.lst xs=>xs.all (pl n)
 |n+1,.tup xs=>xs.all (pl n)
 |_,_=>false
mutual
theorem mD:∀(n:Nat) (d:D),pl n d=true->cw d d=true
 |_,.ay,_=>rfl
 |_,.bl _,_=>by simp[cw]
 |_,.int _,_=>by simp[cw]
 |_,.str _,_=>by simp[cw]
 |n+1,.lst xs,h=>by unfold cw;exact rj n xs (by unfold pl at h;exact h)
 |n+1,.tup xs,h=>by unfold cw;exact rj n xs (by unfold pl at h;exact h)
 |0,.lst xs,h=>by cases h
 |0,.tup xs,h=>by cases h
 |_,.ref _,h=>by unfold pl at h;cases h
 |_,.ty _,h=>by unfold pl at h;cases h
theorem rj:∀(n:Nat) (xs:List D),xs.all (pl n)=true->fu xs xs=true
 |_,[],_=>by unfold fu;rfl
 |n,x::xs,h=>by
  rw[V5,UR]at h;unfold fu;rw[mD n x h.1,rj n xs h.2];rfl
end
mutual
theorem Rep.inj{α:List (Option Addr)}{H:Hp}:∀ {d e:D} {v:V} (n:Nat),pl n d=true->pl n e=true->Rep α H d v->Rep α H e v->d=e
 | .ay,e,v,n,_,he,h1,h2=>by
   unfold Rep at h1;subst h1;cases e<;>first|(unfold pl at he;cases he;done)|(unfold Rep at h2;cases h2;rfl)|(unfold Rep at h2;cases h2;done)|(unfold Rep at h2;obtain⟨_,_,h2,_⟩:=h2;cases h2)|rfl|(cases h2;done)|(obtain⟨_,_,h2,_⟩:=h2;cases h2)|(obtain⟨_,_,h2⟩:=h2;cases h2)
 | .bl b,e,v,n,_,he,h1,h2=>by
   unfold Rep at h1;subst h1;cases e<;>first|(unfold pl at he;cases he;done)|(unfold Rep at h2;cases h2;rfl)|(unfold Rep at h2;cases h2;done)|(unfold Rep at h2;obtain⟨_,_,h2,_⟩:=h2;cases h2)|(cases h2;rfl)|(cases h2;done)|(obtain⟨_,_,h2,_⟩:=h2;cases h2)|(obtain⟨_,_,h2⟩:=h2;cases h2)
 | .int b,e,v,n,_,he,h1,h2=>by
   unfold Rep at h1;subst h1;cases e<;>first|(unfold pl at he;cases he;done)|(unfold Rep at h2;cases h2;rfl)|(unfold Rep at h2;cases h2;done)|(unfold Rep at h2;obtain⟨_,_,h2,_⟩:=h2;cases h2)|(cases h2;rfl)|(cases h2;done)|(obtain⟨_,_,h2,_⟩:=h2;cases h2)|(obtain⟨_,_,h2⟩:=h2;cases h2)
 | .str b,e,v,n,_,he,h1,h2=>by
   unfold Rep at h1;subst h1;cases e<;>first|(unfold pl at he;cases he;done)|(unfold Rep at h2;cases h2;rfl)|(unfold Rep at h2;cases h2;done)|(unfold Rep at h2;obtain⟨_,_,h2,_⟩:=h2;cases h2)|(cases h2;rfl)|(cases h2;done)|(obtain⟨_,_,h2,_⟩:=h2;cases h2)|(obtain⟨_,_,h2⟩:=h2;cases h2)
 | .ty b,e,v,n,hd,he,h1,h2=>by unfold pl at hd;cases hd
 | .ref b,e,v,n,hd,he,h1,h2=>by unfold pl at hd;cases hd
 | .lst xs,e,v,0,hd,he,h1,h2=>by cases hd
 | .tup xs,e,v,0,hd,he,h1,h2=>by cases hd
 | .lst xs,e,v,n+1,hd,he,h1,h2=>by
   unfold Rep at h1;obtain⟨a,vs,rfl,na,ha,ra⟩:=h1;cases e<;>unfold Rep at h2<;>try(cases h2;done)
   . unfold pl at he;cases he
   . obtain⟨a',vs',e',na',ha',ra'⟩:=h2;cases e'
     have:vs=vs':=by
      rcases ha with ha|⟨o,ha⟩<;>rcases ha' with ha'|⟨o',ha'⟩<;>(rw[ha]at ha';first|(cases ha';rfl)|(cases ha';done))
     subst this;rw[aE.inj n (by unfold pl at hd;exact hd) (by unfold pl at he;exact he) ra ra']
   . obtain⟨a',vs',e',na',ha',ra'⟩:=h2;cases e';rcases ha with ha|⟨o,ha⟩<;>(rw[ha]at ha';cases ha')
 | .tup xs,e,v,n+1,hd,he,h1,h2=>by
   unfold Rep at h1;obtain⟨a,vs,rfl,na,ha,ra⟩:=h1;cases e<;>unfold Rep at h2<;>try(cases h2;done)
   . unfold pl at he;cases he
   . obtain⟨a',vs',e',na',ha',ra'⟩:=h2;cases e';rcases ha' with ha'|⟨o,ha'⟩<;>(rw[ha]at ha';cases ha')
   . obtain⟨a',vs',e',na',ha',ra'⟩:=h2;cases e';rw[ha]at ha';cases ha';rw[aE.inj n (by unfold pl at hd;exact hd) (by unfold pl at he;exact he) ra ra']
theorem aE.inj{α:List (Option Addr)}{H:Hp}:∀ {ds es:List D} {vs:List V} (n:Nat),ds.all (pl n)=true->es.all (pl n)=true->aE α H ds vs->aE α H es vs->ds=es
 | [],es,vs,n,_,_,h1,h2=>by
   unfold aE at h1;subst h1;cases es with
   |nil=>rfl
   |cons e es=>unfold aE at h2;obtain⟨_,_,h,_⟩:=h2;cases h
 |d::ds,es,vs,n,hd,he,h1,h2=>by
  unfold aE at h1;obtain⟨v,r,rfl,r1,r2⟩:=h1;cases es with
  |nil=>unfold aE at h2;cases h2
  |cons e es=>
   unfold aE at h2;obtain⟨v',r',h,q1,q2⟩:=h2;cases h;rw[V5,UR]at hd he;rw[Rep.inj n hd.1 he.1 r1 q1,aE.inj n hd.2 he.2 r2 q2]
end
theorem lX:∀ {xs ys:List D},xs.length≠ys.length->fu xs ys=false
 | [],[],h=>absurd rfl h
 | [],_::_,_=>by unfold fu;rfl
 |_::_,[],_=>by unfold fu;rfl
 |x::xs,y::ys,h=>by
  unfold fu;rw[lX (by simpa using h),YZ]
theorem lV:∀ {xs ys:List D},xs.length=ys.length->fu xs ys=(List.range xs.length).all λ j=>cw (xs.getD j .ay) (ys.getD j .ay)
 | [],[],_=>by unfold fu;rfl
 | [],_::_,h=>by cases h
 |_::_,[],h=>by cases h
 |x::xs,y::ys,h=>by
  unfold fu;rw[Vh,VV,V5,Zb,lV (by simpa using h)];rfl
section
variable {X:Cx}{pins:List (Addr×Obj)}{σ:L2.St}{H:Hp}{s:Shared}{α:List (Option Addr)}
theorem jy{xs:List D}{vs:List V}{ao:List Value}(r:aE α H xs vs)(v:Vals vs ao)(j:Nat)(hj:j<ao.length):∃x,xs[j]?=some (xs.getD j .ay)/\Rep α H (xs.getD j .ay) x/\RelV x ao[j]:=by
 have h1:=r.length;have h2:=v.length;have hx:j<xs.length:=by lia
 have e:xs[j]?=some (xs.getD j .ay):=by rw[UJ hx,UU,UJ hx];rfl
 obtain⟨x,q,rr⟩:=r.get e;obtain⟨u,q2,rv⟩:=v.get q;rw[UJ hj]at q2;cases q2;exact⟨x,e,rr,rv⟩
theorem g6{xs:List D}{n:Nat}(h:xs.all (pl n)=true)(j:Nat):pl n (xs.getD j .ay)=true:=by
 rw[UU];cases e:xs[j]? with
 |none=>cases n<;>rfl
 |some d=>exact UP.mp h d (U8 e)
def xR:D->Bool
 | .ay=>true
 | .bl _=>true
 | .int _=>true
 | .str _=>true
 |_=>false
theorem Cm{A:Around}{d e:D}{x y:V}{u v:Value}(hd:xR d=true)(he:xR e=true)(rd:Rep α H d x)(re:Rep α H e y)(rx:RelV x u)(ry:RelV y v):RcAt A s u v (cw d e)/\EqAt A s u v (cw d e):=by
 cases d<;>cases e<;>try(first|(cases hd;done)|(cases he;done))
 all_goals(unfold Rep at rd re;subst rd re)
 all_goals(first|(obtain⟨t,rfl⟩:=rx;obtain⟨t',rfl⟩:=ry)|(obtain⟨t,rfl⟩:=rx;cases ry)|(cases rx;obtain⟨t,rfl⟩:=ry)|(cases rx;cases ry))
 all_goals unfold cw
 . exact⟨RcAt.none_none,EqAt.same _⟩
 . exact⟨RcAt.none_bool _,EqAt.none_bool _⟩
 . exact⟨RcAt.none_int _ _,EqAt.none_int _ _⟩
 . exact⟨RcAt.none_str _ _,EqAt.none_str _ _⟩
 . exact⟨RcAt.bool_none _,EqAt.bool_none _⟩
 . exact⟨RcAt.bool_bool _ _,EqAt.bool_bool _ _⟩
 . exact⟨RcAt.bool_int _ _ _,EqAt.bool_int _ _ _⟩
 . exact⟨RcAt.bool_str _ _ _,EqAt.bool_str _ _ _⟩
 . exact⟨RcAt.int_none _ _,EqAt.int_none _ _⟩
 . exact⟨RcAt.int_bool _ _ _,EqAt.int_bool _ _ _⟩
 . exact⟨RcAt.int_int _ _ _ _,EqAt.int_int _ _ _ _⟩
 . exact⟨RcAt.int_str _ _ _ _,EqAt.int_str _ _ _ _⟩
 . exact⟨RcAt.str_none _ _,EqAt.str_none _ _⟩
 . exact⟨RcAt.str_bool _ _ _,EqAt.str_bool _ _ _⟩
 . exact⟨RcAt.str_int _ _ _ _,EqAt.str_int _ _ _ _⟩
 . exact⟨RcAt.str_str _ _ _ _,EqAt.str_str _ _ _ _⟩
theorem lst_is(I:Inv X pins σ H s){xs:List D}{x:V}{u:Value}(r:Rep α H (.lst xs) x)(rx:RelV x u):∃a vs ao,u= .ref a/\aE α H xs vs/\Vals vs ao/\s.heap.IsList a ao.toArray:=by
 unfold Rep at r;obtain⟨a,vs,rfl,na,ha,ra⟩:=r;cases rx;obtain⟨z,ao,n,rv,hl,eo⟩:=Inv.qE I ha;exact⟨a,vs,ao,rfl,ra,rv,⟨_,eo,rfl,n,rfl⟩⟩
theorem tup_is(I:Inv X pins σ H s){xs:List D}{x:V}{u:Value}(r:Rep α H (.tup xs) x)(rx:RelV x u):∃a vs ao,u= .ref a/\aE α H xs vs/\Vals vs ao/\s.heap.IsTuple a ao.toArray:=by
 unfold Rep at r;obtain⟨a,vs,rfl,na,ha,ra⟩:=r;cases rx;obtain⟨ao,r',p,hz⟩:=I.tuple (hJ.of ha);exact⟨a,vs,ao,rfl,ra,r',p⟩
theorem x9(I:Inv X pins σ H s){A:Around}{xs:List D}{e:D}{x y:V}{u v:Value}(he:xR e=true)(rd:Rep α H (.lst xs) x)(re:Rep α H e y)(rx:RelV x u)(ry:RelV y v)(hu:A.units<cLine):
 (RcAt A s u v (cw (.lst xs) e)/\EqAt A s u v (cw (.lst xs) e))/\RcAt A s v u (cw e (.lst xs))/\EqAt A s v u (cw e (.lst xs)):=by
 obtain⟨a,vs,ao,rfl,_,_,hl⟩:=lst_is I rd rx;cases e<;>try(cases he;done)
 all_goals(unfold Rep at re;subst re)
 all_goals(first|(obtain⟨t,rfl⟩:=ry)|(cases ry))
 all_goals unfold cw
 . exact⟨⟨RcAt.list_none hl hu,EqAt.list_none hl hu⟩,RcAt.none_list hl hu,EqAt.none_list hl hu⟩
 . exact⟨⟨RcAt.list_bool _ hl hu,EqAt.list_bool _ hl hu⟩,RcAt.bool_list _ hl hu,EqAt.bool_list _ hl hu⟩
 . exact⟨⟨RcAt.list_int _ _ hl hu,EqAt.list_int _ _ hl hu⟩,RcAt.int_list _ _ hl hu,EqAt.int_list _ _ hl hu⟩
 . exact⟨⟨RcAt.list_str _ _ hl hu,EqAt.list_str _ _ hl hu⟩,RcAt.str_list _ _ hl hu,EqAt.str_list _ _ hl hu⟩
theorem xh(I:Inv X pins σ H s){A:Around}{xs:List D}{e:D}{x y:V}{u v:Value}(he:xR e=true)(rd:Rep α H (.tup xs) x)(re:Rep α H e y)(rx:RelV x u)(ry:RelV y v)(hu:A.units<cLine):
 (RcAt A s u v (cw (.tup xs) e)/\EqAt A s u v (cw (.tup xs) e))/\RcAt A s v u (cw e (.tup xs))/\EqAt A s v u (cw e (.tup xs)):=by
 obtain⟨a,vs,ao,rfl,_,_,hl⟩:=tup_is I rd rx;cases e<;>try(cases he;done)
 all_goals(unfold Rep at re;subst re)
 all_goals(first|(obtain⟨t,rfl⟩:=ry)|(cases ry))
 all_goals unfold cw
 . exact⟨⟨RcAt.tuple_none hl hu,EqAt.tuple_none hl hu⟩,RcAt.none_tuple hl hu,EqAt.none_tuple hl hu⟩
 . exact⟨⟨RcAt.tuple_bool _ hl hu,EqAt.tuple_bool _ hl hu⟩,RcAt.bool_tuple _ hl hu,EqAt.bool_tuple _ hl hu⟩
 . exact⟨⟨RcAt.tuple_int _ _ hl hu,EqAt.tuple_int _ _ hl hu⟩,RcAt.int_tuple _ _ hl hu,EqAt.int_tuple _ _ hl hu⟩
 . exact⟨⟨RcAt.tuple_str _ _ hl hu,EqAt.tuple_str _ _ hl hu⟩,RcAt.str_tuple _ _ hl hu,EqAt.str_tuple _ _ hl hu⟩
theorem C0{A:Around}{n:Nat}{d e:D}{x y:V}{a b:Addr}(hd:pl n d=true)(he:pl n e=true)(rd:Rep α H d x)(re:Rep α H e y)(rx:RelV x (.ref a))(ry:RelV y (.ref b))(h:RcAt A s (.ref a) (.ref b) (cw d e)):
 RcAt A s (.ref a) (.ref b) (cw d e)/\EqAt A s (.ref a) (.ref b) (cw d e):=by
 refine⟨h,?_⟩;by_cases hab:a=b
 . subst hab;have hx:x=y:=RelV.inj rx ry;subst hx;have:=Rep.inj n hd he rd re;subst this;rw[mD n d hd];exact EqAt.same _
 . exact EqAt.of_refs hab h
theorem EM(I:Inv X pins σ H s):∀(n:Nat) (A:Around) (d e:D) (x y:V) (u v:Value),pl n d=true->pl n e=true->Rep α H d x->Rep α H e y->RelV x u->RelV y v->A.units+n<cLine->
 RcAt A s u v (cw d e)/\EqAt A s u v (cw d e):=by
 intro n;induction n with
 |zero=>
  intro A d e x y u v hd he rd re rx ry hu;refine Cm ?_ ?_ rd re rx ry
  . cases d<;>first|rfl|(cases hd)
  . cases e<;>first|rfl|(cases he)
 |succ n ih=>
  intro A d e x y u v hd he rd re rx ry hu;have hu0:A.units<cLine:=by lia
  have hin:A.in1.units+n<cLine:=by rw[Around.in1_units];lia
  cases d<;>try(cases hd;done)
  case lst xs=>
   cases e<;>try(cases he;done)
   case lst ys=>
    have rd0:=rd;have re0:=re;have rx0:=rx;have ry0:=ry;obtain⟨a,vs,ao,rfl,r1,v1,l1⟩:=lst_is I rd rx;obtain⟨b,ws,jts,rfl,r2,v2,l2⟩:=lst_is I re ry;have e1:=r1.length;have e2:=v1.length;have e3:=r2.length;have e4:=v2.length;refine C0 hd he rd0 re0 rx0 ry0 ?_;unfold cw;by_cases hlen:xs.length=ys.length
    . rw[lV hlen];have hsz:ao.toArray.size=jts.toArray.size:=by simp only[UI];lia
      have hx:xs.length=ao.toArray.size:=by simp only[UI];lia
      rw[hx];refine RcAt.lists l1 l2 hsz hu0 λ j h1 h2=>?_;have h1':j<ao.length:=by simpa using h1
      have h2':j<jts.length:=by simpa using h2
      obtain⟨p,_,q1,q2⟩:=jy r1 v1 j h1';obtain⟨p',_,q1',q2'⟩:=jy r2 v2 j h2';exact(ih A.in1 _ _ p p' _ _ (g6 (by unfold pl at hd;exact hd) j) (g6 (by unfold pl at he;exact he) j) q1 q1' (by simpa using q2) (by simpa using q2') hin).2
    . rw[lX hlen];exact RcAt.lists_lengths l1 l2 (by simp only[UI,Yu,ne_eq];lia) hu0
   case tup ys=>
    obtain⟨a,vs,ao,rfl,r1,v1,l1⟩:=lst_is I rd rx;obtain⟨b,ws,jts,rfl,r2,v2,l2⟩:=tup_is I re ry;unfold cw;exact⟨RcAt.list_tuple l1 l2 hu0,EqAt.list_tuple l1 l2 hu0⟩
   all_goals exact(x9 I rfl rd re rx ry hu0).1
  case tup xs=>
   cases e<;>try(cases he;done)
   case tup ys=>
    have rd0:=rd;have re0:=re;have rx0:=rx;have ry0:=ry;obtain⟨a,vs,ao,rfl,r1,v1,l1⟩:=tup_is I rd rx;obtain⟨b,ws,jts,rfl,r2,v2,l2⟩:=tup_is I re ry;have e1:=r1.length;have e2:=v1.length;have e3:=r2.length;have e4:=v2.length;refine C0 hd he rd0 re0 rx0 ry0 ?_;unfold cw
    have key:=RcAt.tuples (e:=λ j=>cw (xs.getD j .ay) (ys.getD j .ay)) l1 l2 hu0 λ j h1 h2=>by
     have h1':j<ao.length:=by simpa using h1
     have h2':j<jts.length:=by simpa using h2
     obtain⟨p,_,q1,q2⟩:=jy r1 v1 j h1';obtain⟨p',_,q1',q2'⟩:=jy r2 v2 j h2';exact(ih A.in1 _ _ p p' _ _ (g6 (by unfold pl at hd;exact hd) j) (g6 (by unfold pl at he;exact he) j) q1 q1' (by simpa using q2) (by simpa using q2') hin).2
    by_cases hlen:xs.length=ys.length
    . rw[lV hlen];have hsz:ao.toArray.size=jts.toArray.size:=by simp only[UI];lia
      have hx:xs.length=ao.toArray.size:=by simp only[UI];lia
      rw[hsz,Nat.min_self,Xs,Bool.and_true,<-hsz,<-hx]at key;exact key
    . rw[lX hlen];have hne:(ao.toArray.size==jts.toArray.size)=false:=by simp only[UI,Wn,ne_eq];lia
      rw[hne,YZ]at key;exact key
   case lst ys=>
    obtain⟨a,vs,ao,rfl,r1,v1,l1⟩:=tup_is I rd rx;obtain⟨b,ws,jts,rfl,r2,v2,l2⟩:=lst_is I re ry;unfold cw;exact⟨RcAt.tuple_list l1 l2 hu0,EqAt.tuple_list l1 l2 hu0⟩
   all_goals exact(xh I rfl rd re rx ry hu0).1
  all_goals
   cases e<;>try(cases he;done)
   case lst ys=>exact(x9 I rfl re rd ry rx hu0).2
   case tup ys=>exact(xh I rfl re rd ry rx hu0).2
   all_goals exact Cm rfl rfl rd re rx ry
def OC:cO:=λ x y st K=>pl 40 x=true/\pl 40 y=true/\K (.bl (cw x y)) st
theorem Td{k:Nat}(hr:cB k X.A):bE X (compareOp .Eq) (LR OC):=λ pins s σ H x y v u Q I rx ry ⟨α,d,e,st,K,G,F',P,r1,r2,S,q,k⟩=>by
 have hu:=hr.units;exact(EM I 40 X.A d e x y v u q.1 q.2.1 (r1.mono P.same) (r2.mono P.same) rx ry (by lia)).1 _ _ _ _ ⟨.bl (cw d e),H,I,rfl,k.here P q.2.2 S (by unfold Rep;rfl)⟩
def NT:cO:=λ x y st K=>match x,y with
 | .int i,.int j=>K (.bl (!decide (i=j))) st
 | .bl i,.bl j=>K (.bl (!decide (i=j))) st
 | .str i,.str j=>K (.bl (!decide (i=j))) st
 |_,_=>False
theorem SX:bE X (compareOp .NotEq) (LR NT):=bE.imp RV λ x y H Q ⟨α,d,e,st,K,G,F',P,r1,r2,S,q,k⟩=>by
 cases d<;>cases e<;>try exact q.elim
 all_goals(unfold Rep at r1 r2;subst r1 r2)
 . exact⟨rfl,k.here P q S (by unfold Rep;congr 2;exact WJ.mpr ⟨λ h=>by cases h;rfl,λ h=>by rw[h]⟩)⟩
 . exact⟨rfl,k.here P q S (by unfold Rep;congr 2;exact WJ.mpr ⟨λ h=>by cases h;rfl,λ h=>by rw[h]⟩)⟩
 . exact⟨rfl,k.here P q S (by unfold Rep;congr 2;exact WJ.mpr ⟨λ h=>by cases h;rfl,λ h=>by rw[h]⟩)⟩
end
end L3
namespace L3
open PySem PySem.Spec L2
open PyProof.Rows hiding St
def LC(α:List (Option Addr))(G F:Hp)(K:bo->af->Prop)(Q:L2.St->Hp->Prop):Prop:=∀σd' st',K σd' st'->∀α' G' H' σ',Step α G α' G'->bZ G' F H'->dD α' G' σd' σ'->aX α' st' G'->Q σ' H'
structure yM(α:List (Option Addr))(G F:Hp)(DD:ie)(D:Ends):Prop where
 nx:LC α G F DD.nx D.nx
 rt:LK α G F DD.rt D.rt
 bk:LC α G F DD.bk D.bk
 ct:LC α G F DD.ct D.ct
inductive Sk(t:DS)(D:Ends)(σ:L2.St)(H:Hp):Prop
 |mk (α:List (Option Addr)) (σd:bo) (st:af) (DD:ie) (G F:Hp) (P:bZ G F H) (R:dD α G σd σ) (S:aX α st G) (h:t DD σd st) (k:yM α G F DD D):Sk t D σ H
def LS(t:DS):TS:=Sk t
theorem LC.at{α α1:List (Option Addr)}{G F G1:Hp}{K:bo->af->Prop}{Q:L2.St->Hp->Prop}(h:LC α G F K Q)(s:Step α G α1 G1):LC α1 G1 F K Q:=λ d st' k α' G' H' v s' P R S=>h d st' k α' G' H' v (s.trans s') P R S
theorem LC.here{α:List (Option Addr)}{G F H:Hp}{K:bo->af->Prop}{Q:L2.St->Hp->Prop}(h:LC α G F K Q)(P:bZ G F H){σd:bo}{st:af}{σ:L2.St}(k:K σd st)(R:dD α G σd σ)(S:aX α st G):Q σ H:=h σd st k α G H σ Step.refl P R S
theorem yM.at{α α1:List (Option Addr)}{G F G1:Hp}{DD:ie}{D:Ends}(h:yM α G F DD D)(s:Step α G α1 G1):yM α1 G1 F DD D:=⟨h.nx.at s,h.rt.at s,h.bk.at s,h.ct.at s⟩
section
variable {X:Cx}{a b c e o i:Expr}{es:List Expr}{ta tb tc te:DE}{pos:Pos}{st:Stmt}{sts:List Stmt}{t u:DS}
theorem PS.imp{t t':TS}(h:PS X st t)(f:∀D σ H,t' D σ H->t D σ H):PS X st t':=λ pins s σ H D I q=>h pins s σ H D I (f D σ H q)
theorem gf.imp{t t':TS}(h:gf X sts t)(f:∀D σ H,t' D σ H->t D σ H):gf X sts t':=λ pins s σ H D I q=>h pins s σ H D I (f D σ H q)
def bW:DS:=λ D σ st=>D.nx σ st
def aw(t u:DS):DS:=λ D σ st=>t {D with nx:=u D} σ st
theorem L8:gf X [] (LS bW):=gf.imp LV λ D σ H ⟨α,σd,st,DD,G,F,P,R,S,t,k⟩=>k.nx.here P t R S
theorem Mq(h:PS X st (LS t)):gf X [st] (LS t):=LU h
theorem Js(h:PS X st (LS t))(h2:gf X sts (LS u)):gf X (st::sts) (LS (aw t u)):=gf.imp (HF h h2) λ D σ H ⟨α,σd,st,DD,G,F,P,R,S,t,k⟩=>
 ⟨α,σd,st,_,G,F,P,R,S,t,λ σd' st' q α' G' H' σ' s' P' R' S'=>⟨α',σd',st',DD,G',F,P',R',S',q,k.at s'⟩,k.rt,k.bk,k.ct⟩
def Ds:DS:=λ D σ st=>D.ct σ st
theorem BL:PS X (.Continue pos) (LS Ds):=PS.imp Cc λ D σ H ⟨α,σd,st,DD,G,F,P,R,S,t,k⟩=>k.ct.here P t R S
def aP(te:DE):DS:=λ D σ st=>te σ st D.rt
theorem Pt(h:PE X e (LE te)):PS X (.Return (some e) pos) (LS (aP te)):=PS.imp (Oc h) λ D σ H ⟨α,σd,st,DD,G,F,P,R,S,t,k⟩=>⟨α,σd,st,_,G,F,P,R,S,t,k.rt⟩
def Dt:DS:=λ D _ st=>D.rt .ay st
theorem Nm:PS X (.Return none pos) (LS Dt):=PS.imp Nu λ D σ H ⟨α,σd,st,DD,G,F,P,R,S,t,k⟩=>k.rt.here P t S (by unfold Rep;rfl)
def du(te:DE):DS:=λ D σ st=>te σ st λ _ st1=>D.nx σ st1
theorem LH(h:PE X e (LE te))(hs:swapsWith e none pos.line X.env=pure false:=by rfl):PS X (.Expr e pos) (LS (du te)):=PS.imp (MO h hs) λ D σ H ⟨α,σd,st,DD,G,F,P,R,S,t,k⟩=>
 ⟨α,σd,st,_,G,F,P,R,S,t,λ d st1 q α1 G1 H1 v s1 P1 S1 r1=>(k.nx.at s1).here P1 q (R.step s1) S1⟩
def bR(c:DT)(t u:DS):DS:=λ D σ st=>c σ st λ b st1=>if b=true then t D σ st1 else u D σ st1
theorem Rk{x y:List Stmt}{tc:DT}(hc:PT X c (LT tc))(ha:gf X x (LS t))(hb:gf X y (LS u)):PS X (.If c x y pos) (LS (bR tc t u)):=PS.imp (RU hc ha hb) λ D σ H ⟨α,σd,st,DD,G,F,P,R,S,t,k⟩=>by
 refine⟨α,σd,st,_,G,F,P,R,S,t,λ b st1 q α1 G1 H1 s1 P1 S1=>?_⟩;cases b with
 |true=>exact⟨α1,σd,st1,DD,G1,F,P1,R.step s1,S1,q,k.at s1⟩
 |false=>exact⟨α1,σd,st1,DD,G1,F,P1,R.step s1,S1,q,k.at s1⟩
abbrev dZ:=D->bo->Option bo
def aS(i:Nat):dZ:=λ d σ=>some (σ.set i (some d))
def fh(i j:Nat):dZ:=λ d σ=>match d with| .tup [x,y]=>some ((σ.set i (some x)).set j (some y))|_=>none
inductive SI(t:dZ)(v:V)(σ:L2.St)(H:Hp)(Q:L2.St->Hp->Prop):Prop
 |mk (α:List (Option Addr)) (σd:bo) (st:af) (d:D) (K:bo->af->Prop) (G F:Hp) (P:bZ G F H) (R:dD α G σd σ) (S:aX α st G) (r:Rep α G d v) (h:∃σ',t d σd=some σ'/\K σ' st) (k:LC α G F K Q):SI t v σ H Q
def LG(t:dZ):TG:=SI t
theorem PG.imp{tg:Expr}{t t':TG}(h:PG X tg t)(f:∀v σ H Q,t' v σ H Q->t v σ H Q):PG X tg t':=λ pins s σ H v u Q I r q=>h pins s σ H v u Q I r (f v σ H Q q)
theorem MW{tg:Expr}{i:Nat}(h:PG X tg (fe i)):PG X tg (LG (aS i)):=PG.imp h λ v σ H Q ⟨α,σd,st,d,K,G,F,P,R,S,r,⟨σ',e,q⟩,k⟩=>by
 cases e;exact k.here P q (R.set i r) S
theorem PC{tg:Expr}{i j:Nat}(h:PG X tg (Eu X.K 2 (i7 (fe i) (i7 (fe j) zU)))):PG X tg (LG (fh i j)):=PG.imp h λ v σ H Q ⟨α,σd,st,d,K,G,F,P,R,S,r,⟨σ',e,q⟩,k⟩=>by
 unfold fh at e;split at e
 . rename_i x y;cases e;unfold Rep at r;obtain⟨a,vs,rfl,na,h1,h2⟩:=r;obtain⟨v1,v2,rfl,r1,r2⟩:=mT h2 rfl;exact⟨a,_,rfl,.of (P.get h1),rfl,v1,_,rfl,v2,_,rfl,rfl,k.here P q ((R.set i r1).set j r2) S⟩
 . cases e
def aJ(i:Nat)(te:DE):DS:=λ D σ st=>te σ st λ d st1=>D.nx (σ.set i (some d)) st1
theorem FC{i:Nat}(h:PS X st (j0 (LE te) (fe i))):PS X st (LS (aJ i te)):=PS.imp h λ D σ H ⟨α,σd,st,DD,G,F,P,R,S,t,k⟩=>
 ⟨α,σd,st,_,G,F,P,R,S,t,λ d st1 q α1 G1 H1 v s1 P1 S1 r1=>(k.nx.at s1).here P1 q ((R.step s1).set i r1) S1⟩
def zG(tg:dZ)(te:DE):DS:=λ D σ st=>te σ st λ d st1=>∃σ',tg d σ=some σ'/\D.nx σ' st1
theorem Oo{tg:dZ}(h:PS X st (j0 (LE te) (LG tg))):PS X st (LS (zG tg te)):=PS.imp h λ D σ H ⟨α,σd,st,DD,G,F,P,R,S,t,k⟩=>
 ⟨α,σd,st,_,G,F,P,R,S,t,λ d st1 q α1 G1 H1 v s1 P1 S1 r1=>⟨α1,σd,st1,d,DD.nx,G1,F,P1,R.step s1,S1,r1,q,k.nx.at s1⟩⟩
def Je(i j:Nat)(ta:DA):DS:=λ D σ st=>ta σ st λ ds st1=>match ds with| [x,y]=>D.nx ((σ.set i (some x)).set j (some y)) st1|_=>False
theorem NR{i j:Nat}{ta:DA}(h:PS X st (N8 i j (LA ta))):PS X st (LS (Je i j ta)):=PS.imp h λ D σ H ⟨α,σd,st,DD,G,F,P,R,S,t,k⟩=>by
 refine⟨α,σd,st,_,G,F,P,R,S,t,λ ds st1 q α1 G1 H1 vs s1 P1 S1 r1=>?_⟩;match ds,q,r1 with
 | [x,y],q,r1=>
   obtain⟨v1,v2,rfl,q1,q2⟩:=mT r1 rfl;exact⟨v1,v2,rfl,(k.nx.at s1).here P1 q (((R.step s1).set i q1).set j q2) S1⟩
def DJ(i:Nat)(r:cO)(te:DE):DS:=λ D σ st=>match σ[i]? with|some (some x)=>te σ st λ y st1=>r x y st1 λ z st2=>D.nx (σ.set i (some z)) st2|_=>False
def Ad(f:Int->Int->Int):cO:=λ x y st K=>match x,y with| .int i,.int j=>K (.int (f i j)) st|_,_=>False
theorem Pm{i:Nat}{f:Int->Int->Int}(h:PS X st (Qj i (LE te) (Ck f))):PS X st (LS (DJ i (Ad f) te)):=PS.imp h λ D σ H ⟨α,σd,st,DD,G,F,P,R,S,t,k⟩=>by
 unfold DJ at t;split at t
 . rename_i x e;obtain⟨v,ev,rv⟩:=R.at' i x e;refine⟨v,ev,α,σd,st,_,G,F,P,R,S,t,λ y st1 q α1 G1 H1 w s1 P1 S1 r1=>?_⟩;cases x<;>cases y<;>try exact q.elim
   have rv':=rv;unfold Rep at rv r1;exact⟨_,_,rv,r1,(k.nx.at s1).here P1 q ((R.step s1).set i (by unfold Rep;rfl)) S1⟩
 . exact t.elim
def um(x y d:D)(st:af)(K:af->Prop):Prop:=match x,y with
 | .ref n,.int k=>(match st[n]? with
   |some (.lst xs)=>(match jE xs.length k with|some j=>K (st.set n (.lst (xs.set j d)))|none=>False)
   |_=>False)
 |_,_=>False
def Qb(to ti te:DE):DS:=λ D σ st=>te σ st λ d st1=>to σ st1 λ x st2=>ti σ st2 λ y st3=>um x y d st3 λ st4=>D.nx σ st4
theorem Jn{to ti:DE}(h:PS X st (j0 (LE te) (AX (LE to) (LE ti) uL))):PS X st (LS (Qb to ti te)):=PS.imp h λ D σ H ⟨α,σd,st,DD,G,F,P,R,S,t,k⟩=>by
 refine⟨α,σd,st,_,G,F,P,R,S,t,λ d st1 q α1 G1 H1 v s1 P1 S1 r1=>?_⟩;refine⟨α1,σd,st1,_,G1,F,P1,R.step s1,S1,q,λ x st2 q2 α2 G2 H2 v2 s2 P2 S2 r2=>?_⟩;refine⟨α2,σd,st2,_,G2,F,P2,(R.step s1).step s2,S2,q2,λ y st3 q3 α3 G3 H3 v3 s3 P3 S3 r3=>?_⟩;cases x<;>cases y<;>try exact q3.elim
 rename_i n kk;unfold um at q3;simp only at q3;split at q3
 . rename_i xs e;split at q3
   . rename_i j ej;obtain⟨p,ep,vs,hv,rv⟩:=S3.fG e;have r2':=cW ep (r2.step s3);subst r2';unfold Rep at r3;have hm:some p∈α3:=U8 ep;have rd:=(r1.step s2).step s3;refine⟨p,vs,kk,j,rfl,r3,P3.get hv,by rw[<-rv.length];exact ej,?_⟩;refine(((k.nx.at s1).at s2).at s3) σd _ q3 α3 (upd G3 p (.lst (vs.set j v))) _ σ (Step.write hm) (P3.write hv) ((((R.step s1).step s2).step s3).step (Step.write hm)) ?_;exact S3.write ep ⟨vs.set j v,a_,(aO.mpr (pL rd j (aO.mp rv))).step (Step.write hm)⟩
   . exact q3.elim
 . exact q3.elim
def uU(c:DT)(tb:DS):DS:=λ D σ st=>∃W:Nat->bo->af->Prop,(∃m,W m σ st)/\∀m σ st,W m σ st->
 c σ st λ b st1=>if b=true then tb {D with nx:=λ σ' st'=>∃m',m'<m/\W m' σ' st',ct:=λ σ' st'=>∃m',m'<m/\W m' σ' st',bk:=D.nx} σ st1 else D.nx σ st1
theorem Iw{tc:DT}(h:PS X st (FK (LT tc) (LS t))):PS X st (LS (uU tc t)):=PS.imp h λ D σ H ⟨α,σd,st,DD,G,F,P,R,S,⟨W,⟨m0,w0⟩,turn⟩,k⟩=>by
 refine⟨λ m σ' H'=>∃α' σd' st' G',Step α G α' G'/\bZ G' F H'/\dD α' G' σd' σ'/\aX α' st' G'/\W m σd' st',⟨m0,α,σd,st,G,Step.refl,P,R,S,w0⟩,?_⟩;rintro m σ1 H1 ⟨α1,σd1,st1,G1,s1,P1,R1,S1,w1⟩;refine⟨α1,σd1,st1,_,G1,F,P1,R1,S1,turn m σd1 st1 w1,λ b st2 q α2 G2 H2 s2 P2 S2=>?_⟩;cases b with
 |false=>exact((k.nx.at s1).at s2).here P2 q (R1.step s2) S2
 |true=>
  refine⟨λ σ' H'=>∃m',m'<m/\∃α' σd' st' G',Step α G α' G'/\bZ G' F H'/\dD α' G' σd' σ'/\aX α' st' G'/\W m' σd' st',λ σ' H' z=>z,?_⟩;refine⟨α2,σd1,st2,_,G2,F,P2,R1.step s2,S2,q,?_⟩;refine⟨?_,(k.rt.at s1).at s2,(k.nx.at s1).at s2,?_⟩
  . rintro σd3 st3 ⟨m',hm,w3⟩ α3 G3 H3 σ3 s3 P3 R3 S3;exact⟨m',hm,α3,σd3,st3,G3,(s1.trans s2).trans s3,P3,R3,S3,w3⟩
  . rintro σd3 st3 ⟨m',hm,w3⟩ α3 G3 H3 σ3 s3 P3 R3 S3;exact⟨m',hm,α3,σd3,st3,G3,(s1.trans s2).trans s3,P3,R3,S3,w3⟩
abbrev DI:=bo->af->(List D->(af->Prop)->af->Prop)->Prop
structure ur(J:It)(α:List (Option Addr))(G:Hp)(ok:af->Prop)(xs:List D):Prop where
 stop:∀(n:Nat) α' G' F' H' st',Step α G α' G'->bZ G' F' H'->aX α' st' G'->ok st'->xs.length<=n->J.stop n H'
 go:∀(n:Nat) d α' G' F' H' st',Step α G α' G'->bZ G' F' H'->aX α' st' G'->ok st'->xs[n]?=some d->J.go n H'
 m7:∀(n:Nat) d α' G' F' H' st' x H'',Step α G α' G'->bZ G' F' H'->aX α' st' G'->ok st'->xs[n]?=some d->J.m7 n H' x H''->∃G'',Step α' G' α' G''/\bZ G'' F' H''/\aX α' st' G''/\Rep α' G'' d x
def LI(t:DI):TI:=λ σ H R=>∃α σd st K G F,bZ G F H/\dD α G σd σ/\aX α st G/\t σd st K/\∀xs ok st1,K xs ok st1->∀J α1 G1 H1,Step α G α1 G1->bZ G1 F H1->aX α1 st1 G1->ur J α1 G1 ok xs->R J H1
def wz(d:D)(st1:af)(K:List D->(af->Prop)->af->Prop):Prop:=match d with
 | .lst xs=>K xs (λ _=>True) st1
 | .tup xs=>K xs (λ _=>True) st1
 | .ref n=>(match st1[n]? with|some (.lst xs)=>K xs (λ st'=>st'[n]?=some (.lst xs)) st1|_=>False)
 |_=>False
def Q6(t:DE):DI:=λ σ st K=>t σ st λ d st1=>wz d st1 K
theorem CL{K:PySem.W.Frag}{a:Addr}{α:List (Option Addr)}{G:Hp}{ok:af->Prop}{xs:List D}
 (h:∀α' G' st',Step α G α' G'->aX α' st' G'->ok st'->∃vs,Rd G' a (.lst vs)/\aE α' G' xs vs):ur (N1 K a) α G ok xs where
 stop:=λ n α' G' F' H' st' s P S o hn=>by
  obtain⟨vs,h1,h2⟩:=h α' G' st' s S o;exact⟨vs,.inl (eP P h1),by rw[<-h2.length];exact hn⟩
 go:=λ n d α' G' F' H' st' s P S o hn=>by
  obtain⟨vs,h1,h2⟩:=h α' G' st' s S o;obtain⟨v,e,_⟩:=h2.get hn;exact⟨vs,v,.inl (eP P h1),e⟩
 m7:=λ n d α' G' F' H' st' x H'' s P S o hn y=>by
  obtain⟨vs,h1,h2⟩:=h α' G' st' s S o;obtain⟨v,e,r⟩:=h2.get hn;obtain⟨rfl,y⟩:=y;have:=y vs (.inl (eP P h1));rw[e]at this;cases this;exact⟨G',Step.refl,P,S,r⟩
theorem PM{K:PySem.W.Frag}{a:Addr}{α:List (Option Addr)}{G:Hp}{ok:af->Prop}{xs:List D}
 (h:∀α' G' st',Step α G α' G'->aX α' st' G'->ok st'->∃vs,G' a=some (.tup vs)/\aE α' G' xs vs):ur (Pd K a) α G ok xs where
 stop:=λ n α' G' F' H' st' s P S o hn=>by
  obtain⟨vs,h1,h2⟩:=h α' G' st' s S o;exact⟨vs,.of (P.get h1),by rw[<-h2.length];exact hn⟩
 go:=λ n d α' G' F' H' st' s P S o hn=>by
  obtain⟨vs,h1,h2⟩:=h α' G' st' s S o;obtain⟨v,e,_⟩:=h2.get hn;exact⟨vs,v,.of (P.get h1),e⟩
 m7:=λ n d α' G' F' H' st' x H'' s P S o hn y=>by
  obtain⟨vs,h1,h2⟩:=h α' G' st' s S o;obtain⟨v,e,r⟩:=h2.get hn;obtain⟨rfl,y⟩:=y;have:=y vs (.of (P.get h1));rw[e]at this;cases this;exact⟨G',Step.refl,P,S,r⟩
theorem JJ{α α':List (Option Addr)}{G G':Hp}{a:Addr}{vs:List V}{xs:List D}(s:Step α G α' G')(na:some a∉α)(h1:Rd G a (.lst vs))(h2:aE α G xs vs):Rd G' a (.lst vs)/\aE α' G' xs vs:=by
 refine⟨?_,h2.step s⟩;rcases h1 with h|⟨o,h⟩
 . exact .inl (s.ext _ _ na h)
 . exact .inr ⟨o,s.ext _ _ na h⟩
theorem Qd{l tg:Expr}{tl:DE}(hl:PE X l (LE tl)):PI X tg l (LI (Q6 tl)):=by
 intro pins s σ H R I h;obtain⟨α,σd,st,K,G,F,P,RS,S,t,k⟩:=h;refine br (hl pins s σ H (λ x H1=>∃d α1 G1 st1,Step α G α1 G1/\bZ G1 F H1/\aX α1 st1 G1/\Rep α1 G1 d x/\wz d st1 K) I ⟨α,σd,st,_,G,F,P,RS,S,t,λ d st1 q α1 G1 H1 v s1 P1 S1 r1=>⟨d,α1,G1,st1,s1,P1,S1,r1,q⟩⟩) λ v s1 ⟨x,H1,I1,rx,d,α1,G1,st1,s1',P1,S1,r1,q⟩=>?_;unfold wz at q
 have viaL:∀ {a:Addr} {vs:List V},x= .ref a->Rd H1 a (.lst vs)->R (N1 X.K a) H1->wpAny (model X.prog X.w) X.A (pyIter v) (J9 X pins σ tg R) X.xe s1:=by
  intro a vs ex hr hR;subst ex;cases rx;obtain⟨ao,rv,p,hz⟩:=I1.list (.inl hr);refine WV p.isList ?_;refine⟨s1.heap.objs.size,[s1.heap.objs.size],_,_,H1,rfl,I1.kept (t':=s1.toks) λ b o e=>Uv _ e,Gu a _,⟨_,UO _ rfl,rfl,rfl⟩,λ b hb=>?_,hR⟩;have e:b=s1.heap.objs.size:=by simpa using hb
  subst e;exact I1.uc (UB _) (I1.aC.fresh (UB _))
 have viaT:∀ {a:Addr} {vs:List V},x= .ref a->H1 a=some (.tup vs)->R (Pd X.K a) H1->wpAny (model X.prog X.w) X.A (pyIter v) (J9 X pins σ tg R) X.xe s1:=by
  intro a vs ex hr hR;subst ex;cases rx;obtain⟨ao,rv,p,hz⟩:=I1.tuple (hJ.of hr);refine wpAny_pyIter_tuple (show s1.heap.IsTuple a ao.toArray from p) ?_;refine⟨s1.heap.objs.size,[s1.heap.objs.size],_,_,H1,rfl,I1.kept (t':=s1.toks) λ b o e=>Uv _ e,EG a _,⟨_,UO _ rfl,rfl,rfl⟩,λ b hb=>?_,hR⟩;have e:b=s1.heap.objs.size:=by simpa using hb
  subst e;exact I1.uc (UB _) (I1.aC.fresh (UB _))
 cases d<;>try exact q.elim
 . rename_i n;simp only at q;split at q
   . rename_i xs e;obtain⟨a,ea,vs,h1,h2⟩:=S1.fG e;have r1':=cW ea r1;subst r1';refine viaL rfl (eP P1 (.of h1)) (k _ _ st1 q _ α1 G1 H1 s1' P1 S1 (CL λ α' G' st' s S o=>?_));obtain⟨b,eb,ws,g1,g2⟩:=S.fG o
     have hb:b=a:=by
      rcases s.pre _ _ ea with z|z<;>(rw[z]at eb;cases eb)
      rfl
     subst hb;exact⟨ws,.of g1,g2⟩
   . exact q.elim
 . unfold Rep at r1;obtain⟨a,vs,rfl,na,ha,ra⟩:=r1;exact viaL rfl (eP P1 ha) (k _ _ st1 q _ α1 G1 H1 s1' P1 S1 (CL λ α' G' st' s S o=>⟨vs,JJ s na ha ra⟩))
 . unfold Rep at r1;obtain⟨a,vs,rfl,na,ha,ra⟩:=r1;exact viaT rfl (P1.get ha) (k _ _ st1 q _ α1 G1 H1 s1' P1 S1 (PM λ α' G' st' s S o=>⟨vs,s.ext _ _ na ha,ra.step s⟩))
def cC(lo:Int)(n:Nat):List D:=(List.range n).map λ(k:Nat)=>D.int (lo+(k:Int))
theorem uJ{lo:Int}{n k:Nat}:(cC lo n)[k]?=if k<n then some (.int (lo+(k:Int)))else none:=by
 unfold cC;rw[UM];by_cases h:k<n
 . rw[VD h,UA h];rfl
 . rw[Wc (by simpa using h),Uy h];rfl
theorem dc{lo:Int}{n:Nat}:(cC lo n).length=n:=by unfold cC;simp
theorem zQ{α:List (Option Addr)}{G:Hp}{lo:Int}{n:Nat}:ur (xw lo n) α G (λ _=>True) (cC lo n) where
 stop:=λ m α' G' F' H' st' s P S o hn=>by rw[dc]at hn;exact hn
 go:=λ m d α' G' F' H' st' s P S o hn=>by
  rw[uJ]at hn;split at hn
  . assumption
  . cases hn
 m7:=λ m d α' G' F' H' st' x H'' s P S o hn y=>by
  obtain⟨rfl,rfl⟩:=y;rw[uJ]at hn;split at hn
  . cases hn;exact⟨G',Step.refl,P,S,by unfold Rep;rfl⟩
  . cases hn
theorem PI.imp{tg iter:Expr}{t t':TI}(h:PI X tg iter t)(f:∀σ H R,t' σ H R->t σ H R):PI X tg iter t':=λ pins s σ H R I q=>h pins s σ H R I (f σ H R q)
def Kg(ds:List D)(st1:af)(K:List D->(af->Prop)->af->Prop):Prop:=match ds with
 | [.int j]=>(-(2^62)<=j/\j<2^62)/\K (cC 0 j.toNat) (λ _=>True) st1
 |_=>False
def JY(ds:List D)(st1:af)(K:List D->(af->Prop)->af->Prop):Prop:=match ds with
 | [.int i,.int j]=>(-(2^62)<=i/\i<2^62/\ -(2^62)<=j/\j<2^62)/\K (cC i (j-i).toNat) (λ _=>True) st1
 |_=>False
def Nj(t:DA):DI:=λ σ st K=>t σ st λ ds st1=>Kg ds st1 K
def NC(t:DA):DI:=λ σ st K=>t σ st λ ds st1=>JY ds st1 K
theorem Fp{tg iter:Expr}{t:DA}(h:PI X tg iter (Dw (LA t))):PI X tg iter (LI (Nj t)):=PI.imp h λ σ H R ⟨α,σd,st,K,G,F,P,RS,S,t,k⟩=>by
 refine⟨α,σd,st,_,G,F,P,RS,S,t,λ ds st1 q α1 G1 H1 vs s1 P1 S1 r1=>?_⟩;match ds,q,r1 with
 | [.int j],q,r1=>
   obtain⟨v,rfl,r2⟩:=gH r1 rfl;unfold Rep at r2;subst r2;exact⟨j,rfl,q.1.1,q.1.2,k _ _ st1 q.2 _ α1 G1 H1 s1 P1 S1 zQ⟩
theorem Gh{tg iter:Expr}{t:DA}(h:PI X tg iter (D8 (LA t))):PI X tg iter (LI (NC t)):=PI.imp h λ σ H R ⟨α,σd,st,K,G,F,P,RS,S,t,k⟩=>by
 refine⟨α,σd,st,_,G,F,P,RS,S,t,λ ds st1 q α1 G1 H1 vs s1 P1 S1 r1=>?_⟩;match ds,q,r1 with
 | [.int i,.int j],q,r1=>
   obtain⟨v,u,rfl,r2,r3⟩:=mT r1 rfl;unfold Rep at r2 r3;subst r2 r3;exact⟨i,j,rfl,q.1,k _ _ st1 q.2 _ α1 G1 H1 s1 P1 S1 zQ⟩
def gT(tg:dZ)(body:DS)(ok:af->Prop)(E:ie):List D->bo->af->Prop
 | [],σ,st=>ok st/\E.nx σ st
 |x::xs,σ,st=>ok st/\∃σ1,tg x σ=some σ1/\body {E with nx:=gT tg body ok E xs,ct:=gT tg body ok E xs,bk:=E.nx} σ1 st
def eX(src:DI)(tg:dZ)(body:DS):DS:=λ D σ st=>src σ st λ xs ok st1=>gT tg body ok D xs σ st1
theorem OF{src:DI}{tg:dZ}(h:PS X st (Px (LI src) (LG tg) (LS t))):PS X st (LS (eX src tg t)):=PS.imp h λ D σ H ⟨α,σd,st,DD,G,F,P,R,S,tt,k⟩=>by
 refine⟨α,σd,st,_,G,F,P,R,S,tt,λ xs ok st1 q J α1 G1 H1 s1 P1 S1 it=>?_⟩;refine⟨λ i m σ' H'=>∃α' σd' st' G',Step α1 G1 α' G'/\bZ G' F H'/\dD α' G' σd' σ'/\aX α' st' G'/\gT tg t ok DD (xs.drop i) σd' st'/\m=xs.length-i,⟨xs.length,α1,σd,st1,G1,Step.refl,P1,R.step s1,S1,q,rfl⟩,?_⟩;rintro i m σ2 H2 ⟨α2,σd2,st2,G2,s2,P2,R2,S2,q2,rfl⟩;cases e:xs[i]? with
 |none=>
  have hl:xs.length<=i:=Yv.mp e;rw[WS hl]at q2;unfold gT at q2;exact .inl ⟨it.stop i α2 G2 F H2 st2 s2 P2 S2 q2.1 hl,((k.nx.at s1).at s2).here P2 q2.2 R2 S2⟩
 |some d=>
  have hl:i<xs.length:=(Uw.mp e).1
  have ed:xs.drop i=d::xs.drop (i+1):=by
   rw[U9 hl];congr 1;rw[UJ hl]at e;exact Vi e
  rw[ed]at q2;unfold gT at q2;obtain⟨aC,σ3,e3,q3⟩:=q2;refine .inr ⟨it.go i d α2 G2 F H2 st2 s2 P2 S2 aC e,λ σ' H'=>∃α' σd' st' G',Step α1 G1 α' G'/\bZ G' F H'/\dD α' G' σd' σ'/\aX α' st' G'/\gT tg t ok DD (xs.drop (i+1)) σd' st',?_,?_⟩
  . rintro σ' H' ⟨α',σd',st',G',z1,z2,z3,z4,z5⟩;exact⟨xs.length-(i+1),by lia,α',σd',st',G',z1,z2,z3,z4,z5,rfl⟩
  . intro x H' y;obtain⟨G3,s3,P3,S3,r3⟩:=it.m7 i d α2 G2 F H2 st2 x H' s2 P2 S2 aC e y;refine⟨α2,σd2,st2,d,λ σ' st'=>σ'=σ3/\st'=st2,G3,F,P3,R2.step s3,S3,r3,⟨σ3,e3,rfl,rfl⟩,?_⟩;rintro σ' st' ⟨rfl,rfl⟩ α4 G4 H4 σ4 s4 P4 R4 S4;have s24:=(s2.trans s3).trans s4;refine⟨α4,σ',st',_,G4,F,P4,R4,S4,q3,?_,((k.rt.at s1).at s24),(k.nx.at s1).at s24,?_⟩
    . intro σd5 st5 q5 α5 G5 H5 σ5 s5 P5 R5 S5;exact⟨α5,σd5,st5,G5,s24.trans s5,P5,R5,S5,q5⟩
    . intro σd5 st5 q5 α5 G5 H5 σ5 s5 P5 R5 S5;exact⟨α5,σd5,st5,G5,s24.trans s5,P5,R5,S5,q5⟩
end
def gO(fr:List (Option Nat))(σ:bo):bo:=fr.map λ o=>o.bind λ j=>(σ[j]?).join
theorem dD.comp{α:List (Option Addr)}{G:Hp}{σd:bo}{σ:L2.St}{fr:List (Option Nat)}(h:dD α G σd σ):dD α G (gO fr σd) (σC fr σ):=by
 refine⟨by unfold gO σC;simp,λ i d e=>?_⟩;unfold gO at e;rw[UM]at e;cases q:fr[i]? with
 |none=>rw[q]at e;cases e
 |some o=>
  rw[q]at e;cases o with
  |none=>simp at e
  |some j=>
   simp only[WQ,Yn,Option.bind_some]at e
   have ej:σd[j]?=some (some d):=by
    cases r:σd[j]? with
    |none=>rw[r]at e;cases e
    |some u=>rw[r]at e;simp at e;rw[e]
   obtain⟨v,ev,rv⟩:=h.at' j d ej;refine⟨v,?_,rv⟩;unfold σC;rw[UM,q];simp[ev]
def cM(tg:dZ)(c:DT)(te:DE)(ok:af->Prop)(σc:bo):List D->List D->af->(List D->af->Prop)->Prop
 | [],acc,st,K=>ok st/\K acc st
 |x::xs,acc,st,K=>ok st/\∃σ2,tg x σc=some σ2/\c σ2 st λ b st1=>if b=true then te σ2 st1 λ y st2=>cM tg c te ok σc xs (acc++[y]) st2 K else cM tg c te ok σc xs acc st1 K
def bJ(src:DI)(fr:List (Option Nat))(tg:dZ)(c:DT)(te:DE):DE:=λ σ st K=>src σ st λ xs ok st1=>xs.length<=sizeLine/\cM tg c te ok (gO fr σ) xs [] st1 λ ys st2=>K (.lst ys) st2
def iV(src:DI)(fr:List (Option Nat))(tg:dZ)(c:DT)(te:DE):DE:=λ σ st K=>src σ st λ xs ok st1=>xs.length<=sizeLine/\cM tg c te ok (gO fr σ) xs [] st1 λ ys st2=>K (.ref st2.length) (st2++[.lst ys])
def ba:DT:=λ _ st K=>K true st
def fw(fr:List (Option Nat))(tg:dZ):Prop:=∀(σ:bo) (d:D) (σ2:bo),tg d (gO fr σ)=some σ2->σ2.length=(gO fr σ).length/\∀(i:Nat) (e:D),(gO fr σ)[i]?=some (some e)->σ2[i]?=some (some e)
theorem qW{fr:List (Option Nat)}{σ:bo}{k:Nat}(h:fr[k]?=some none){e:D}(q:(gO fr σ)[k]?=some (some e)):False:=by
 unfold gO at q;rw[UM,h]at q;simp at q
theorem dW{fr:List (Option Nat)}{k:Nat}(h:fr[k]?=some none:=by rfl):fw fr (aS k):=λ σ d σ2 e=>by
 cases e;refine⟨US,λ i x q=>?_⟩;by_cases hi:i=k
 . subst hi;exact(qW h q).elim
 . rw[Ux (UD hi)];exact q
theorem wJ{fr:List (Option Nat)}{k j:Nat}(h:fr[k]?=some none:=by rfl)(h':fr[j]?=some none:=by rfl):fw fr (fh k j):=λ σ d σ2 e=>by
 unfold fh at e;split at e
 . cases e;refine⟨by rw[US,US],λ i x q=>?_⟩;by_cases hi:i=k
   . subst hi;exact(qW h q).elim
   . by_cases hj:i=j
     . subst hj;exact(qW h' q).elim
     . rw[Ux (UD hj),Ux (UD hi)];exact q
 . cases e
section
variable {X:Cx}
theorem Iu:vm X [] (LT ba):=λ pins s σ H Q I ⟨α,σd,st,K,G,F,P,R,S,t,k⟩=>Mp pins s σ H Q I (k true st t α G H Step.refl P S)
theorem LE.comp{src:DI}{fr:List (Option Nat)}{tg:dZ}{c:DT}{te:DE}(fit:fw fr tg){σ:L2.St}{H:Hp}{Q:VK}{α:List (Option Addr)}{σd:bo}{st:af}{KE:List D->af->Prop}{G F:Hp}(P:bZ G F H)(R:dD α G σd σ)(S:aX α st G)
 (t:src σd st λ xs ok st1=>xs.length<=sizeLine/\cM tg c te ok (gO fr σd) xs [] st1 KE)
 (fin:∀ys st2 α2 G2 H2 l vs,KE ys st2->Step α G α2 G2->bZ G2 (upd F l (.lst vs)) H2->F l=none->aX α2 st2 G2->aE α2 G2 ys vs->Q (.ref l) H2):
 so (LI src) fr (LG tg) (LT c) (LE te) σ H Q:=by
 refine⟨α,σd,st,_,G,F,P,R,S,t,λ xs ok st1 q J α1 G1 H1 s1 P1 S1 it l hl=>?_⟩;obtain⟨hsz,q⟩:=q;obtain⟨hG,hF⟩:=P1.none hl
 refine⟨λ i m σ' H'=>∃α' st' G' acc vs,Step α1 G1 α' G'/\bZ G' (upd F l (.lst vs)) H'/\dD α' G' (gO fr σd) σ'/\aX α' st' G'/\aE α' G' acc vs/\acc.length<=i/\i<=xs.length/\cM tg c te ok (gO fr σd) (xs.drop i) acc st' KE/\m=xs.length-i,
  ⟨xs.length,α1,st1,G1,[],[],Step.refl,P1.hide hl,(R.step s1).comp,S1,by unfold aE;rfl,UB _,VP _,q,rfl⟩,?_⟩
 rintro i m σ2 H2 ⟨α2,st2,G2,acc,vs,s2,P2,R2,S2,ra,hacc,hi,q2,rfl⟩;cases e:xs[i]? with
 |none=>
  have hl2:xs.length<=i:=Yv.mp e;rw[WS hl2]at q2;unfold cM at q2;exact .inl ⟨it.stop i α2 G2 _ H2 st2 s2 P2 S2 q2.1 hl2,fin acc st2 α2 G2 H2 l vs q2.2 (s1.trans s2) P2 hF S2 ra⟩
 |some d=>
  have hl2:i<xs.length:=(Uw.mp e).1
  have ed:xs.drop i=d::xs.drop (i+1):=by
   rw[U9 hl2];congr 1;rw[UJ hl2]at e;exact Vi e
  rw[ed]at q2;unfold cM at q2;obtain⟨aC,σ3,e3,q3⟩:=q2;refine .inr ⟨it.go i d α2 G2 _ H2 st2 s2 P2 S2 aC e,λ σ' H'=>∃α' st' G' acc vs,Step α1 G1 α' G'/\bZ G' (upd F l (.lst vs)) H'/\dD α' G' (gO fr σd) σ'/\aX α' st' G'/\aE α' G' acc vs/\acc.length<=i+1/\cM tg c te ok (gO fr σd) (xs.drop (i+1)) acc st' KE,?_,?_⟩
  . rintro σ' H' ⟨α',st',G',acc',vs',z1,z2,z3,z4,z5,z6,z7⟩;exact⟨xs.length-(i+1),by lia,α',st',G',acc',vs',z1,z2,z3,z4,z5,z6,hl2,z7,rfl⟩
  . intro x H' y;obtain⟨G3,s3,P3,S3,r3⟩:=it.m7 i d α2 G2 _ H2 st2 x H' s2 P2 S2 aC e y;refine⟨α2,gO fr σd,st2,d,λ σ' st'=>σ'=σ3/\st'=st2,G3,_,P3,R2.step s3,S3,r3,⟨σ3,e3,rfl,rfl⟩,?_⟩;rintro σ' st' ⟨rfl,rfl⟩ α4 G4 H4 σ4 s4 P4 R4 S4;have s24:=(s2.trans s3).trans s4;have Rc:dD α4 G4 (gO fr σd) σ4:=⟨by rw[<-(fit σd d σ' e3).1];exact R4.len,λ j z hz=>R4.at' j z ((fit σd d σ' e3).2 j z hz)⟩
    refine⟨α4,σ',st',_,G4,_,P4,R4,S4,q3,λ b st5 q5 α5 G5 H5 s5 P5 S5=>?_⟩;cases b with
    |false=>exact⟨α5,st5,G5,acc,vs,s24.trans s5,P5,Rc.step s5,S5,((ra.step s3).step s4).step s5,by lia,q5⟩
    |true=>
     refine⟨α5,σ',st5,_,G5,_,P5,R4.step s5,S5,q5,λ z st6 q6 α6 G6 H6 v6 s6 P6 S6 r6=>?_⟩;have hr:=(((ra.step s3).step s4).step s5).step s6;refine⟨vs,(P6.frame a_).1,by rw[<-hr.length];lia,α6,st6,G6,acc++[z],vs++[v6],(s24.trans s5).trans s6,?_,(Rc.step s5).step s6,S6,aO.mpr (dH (aO.mp hr) (.cons r6 .nil)),by rw[V1,YX];lia,q6⟩;have:=P6.Uc (p:=l) (o':= .lst (vs++[v6])) a_;rw[L9]at this;exact this
theorem N4{scope:Scope}{Nc:List Str}{elt tg iter:Expr}{ifs:List Expr}{pos:Pos}{src:DI}{fr:List (Option Nat)}{dtg:dZ}{c:DT}{te:DE}(S:cc X scope Nc fr)(hi:PI X tg iter (LI src))
 (hg:∀C s H ex,PG (bY X scope Nc C s H ex) tg (LG dtg)) (ht:∀C s H ex,vm (bY X scope Nc C s H ex) ifs (LT c)) (he:∀C s H ex,PE (bY X scope Nc C s H ex) elt (LE te)) (fit:fw fr dtg)
 (hx:X.xe=λ _ _=>False:=by rfl) (hc:X.calm=true:=by rfl) (hs:∀x,foldedSetIterable iter X.env x=pure x:=by intro _;rfl):PE X (.ListComp elt [⟨tg,iter,ifs,0⟩] scope pos) (LE (bJ src fr dtg c te)):=
 PE.imp (CO hx hc S hi hg ht he hs) λ σ H Q ⟨α,σd,st,K,G,F,P,R,S,t,k⟩=>LE.comp fit P R S t λ ys st2 α2 G2 H2 l vs q s2 P2 hl S2 r=>by
  have hg:G2 l=none:=(P2.frame a_).2;refine k _ st2 q α2 (upd G2 l (.lst vs)) H2 (.ref l) (s2.trans (Step.laid hg)) (P2.show hl) (S2.laid hg) ?_;unfold Rep;exact⟨l,vs,rfl,S2.nv hg,.of a_,r.step (Step.laid hg)⟩
theorem Nt{scope:Scope}{Nc:List Str}{elt tg iter:Expr}{ifs:List Expr}{pos:Pos}{src:DI}{fr:List (Option Nat)}{dtg:dZ}{c:DT}{te:DE}(S:cc X scope Nc fr)(hi:PI X tg iter (LI src))
 (hg:∀C s H ex,PG (bY X scope Nc C s H ex) tg (LG dtg)) (ht:∀C s H ex,vm (bY X scope Nc C s H ex) ifs (LT c)) (he:∀C s H ex,PE (bY X scope Nc C s H ex) elt (LE te)) (fit:fw fr dtg)
 (hx:X.xe=λ _ _=>False:=by rfl) (hc:X.calm=true:=by rfl) (hs:∀x,foldedSetIterable iter X.env x=pure x:=by intro _;rfl):PE X (.ListComp elt [⟨tg,iter,ifs,0⟩] scope pos) (LE (iV src fr dtg c te)):=
 PE.imp (CO hx hc S hi hg ht he hs) λ σ H Q ⟨α,σd,st,K,G,F,P,R,S,t,k⟩=>LE.comp fit P R S t λ ys st2 α2 G2 H2 l vs q s2 P2 hl S2 r=>by
  have hg:G2 l=none:=(P2.frame a_).2;refine k _ _ q (α2++[some l]) (upd G2 l (.lst vs)) H2 (.ref l) (s2.trans (Step.cell hg)) (P2.show hl) (S2.cell hg ⟨vs,a_,r.step (Step.cell hg)⟩) ?_;unfold Rep;refine .inr ⟨l,?_,rfl⟩;rw[U0 (by rw[S2.len];exact UB _),S2.len,V2];rfl
theorem Lx{st:Stmt}{k:Nat}{src:DI}{fr:List (Option Nat)}{dtg:dZ}{c:DT}{te:DE}(fit:fw fr dtg)(h:PS X st (j0 (so (LI src) fr (LG dtg) (LT c) (LE te)) (fe k))):PS X st (LS (aJ k (bJ src fr dtg c te))):=
 PS.imp h λ D σ H ⟨α,σd,st,DD,G,F,P,R,S,t,q⟩=>LE.comp fit P R S t λ ys st2 α2 G2 H2 l vs qq s2 P2 hl S2 r=>by
  have hg:G2 l=none:=(P2.frame a_).2;have s3:=s2.trans (Step.laid (o:= .lst vs) hg);refine q.nx _ st2 qq α2 (upd G2 l (.lst vs)) H2 _ s3 (P2.show hl) ((R.step s3).set k ?_) (S2.laid hg);unfold Rep;exact⟨l,vs,rfl,S2.nv hg,.of a_,r.step (Step.laid hg)⟩
theorem JH{st:Stmt}{k:Nat}{src:DI}{fr:List (Option Nat)}{dtg:dZ}{c:DT}{te:DE}(fit:fw fr dtg)(h:PS X st (j0 (so (LI src) fr (LG dtg) (LT c) (LE te)) (fe k))):PS X st (LS (aJ k (iV src fr dtg c te))):=
 PS.imp h λ D σ H ⟨α,σd,st,DD,G,F,P,R,S,t,q⟩=>LE.comp fit P R S t λ ys st2 α2 G2 H2 l vs qq s2 P2 hl S2 r=>by
  have hg:G2 l=none:=(P2.frame a_).2;have s3:=s2.trans (Step.cell (o:= .lst vs) hg);refine q.nx _ _ qq (α2++[some l]) (upd G2 l (.lst vs)) H2 _ s3 (P2.show hl) ((R.step s3).set k ?_) (S2.cell hg ⟨vs,a_,r.step (Step.cell hg)⟩);unfold Rep;refine .inr ⟨l,?_,rfl⟩;rw[U0 (by rw[S2.len];exact UB _),S2.len,V2];rfl
def aI(N:List Str)(ds:List D):bo:=ds.map some++List.replicate (N.length-ds.length) none
theorem dD.start{α:List (Option Addr)}{G:Hp}{N:List Str}{ds:List D}{vs:List V}(r:aE α G ds vs):dD α G (aI N ds) (L2.start N vs):=by
 have hl:=r.length;refine⟨by unfold aI L2.start;simp[hl],λ i d e=>?_⟩;unfold aI at e;by_cases hi:i<ds.length
 . rw[UC (by simpa using hi),UM]at e;cases q:ds[i]? with
   |none=>rw[q]at e;cases e
   |some x=>
    rw[q]at e;cases e;obtain⟨v,ev,rv⟩:=r.get q;refine⟨v,?_,rv⟩;unfold L2.start;rw[UC (by rw[Uz];lia),UM,ev];rfl
 . rw[U0 (by simpa using hi),YI]at e;split at e<;>cases e
theorem RC{P:Program}{w:World}{K:PySem.W.Frag}{mg:Str->Option Value}{base:Heap}{x qual:Str}{st:Stmt}{f:Addr}{fd:FuncData}{N ps:List Str}{k:Nat}{sp:bq}{t:DS}(F:ma K x qual st f fd)(S:lO N ps (a9 st))
 (hbody:∀(cdv:Value) (A:Around) (outer:List Env) (s:Shared) (H:Hp) (E:XK),cB k (A.deeper (envOfC qual (a9 st) s.heap.objs.size f cdv))->gf (pw fX P w K mg base N qual (a9 st) f cdv A outer s H E).xf (gE st) (LS t))
 (hsp:∀ds st K,sp ds st K->ds.length=ps.length/\t {nx:=λ _ st'=>K .ay st',rt:=K} (aI N ds) st):c_ P w K mg base fX (k+1) f fd ps (gu sp):=by
 refine F.ok S (λ vs H Q E h=>?_) λ cdv A outer s H vs Q E hr h=>⟨_,hbody cdv A outer s H E hr,?_⟩
 . obtain⟨α,ds,st,K,G,F,P,r,S,q,k⟩:=h;rw[<-r.length];exact(hsp ds st K q).1
 . obtain⟨α,ds,st,K,G,F,P,r,S,q,k⟩:=h;refine⟨α,aI N ds,st,_,G,F,P,dD.start r,S,(hsp ds st K q).2,?_,k,?_,?_⟩
   . intro σd' st' kk α' G' H' σ' s' P' R' S';exact k .ay st' kk α' G' H' .ay s' P' S' (by unfold Rep;rfl)
   . intro σd' st' kk;exact kk.elim
   . intro σd' st' kk;exact kk.elim
def oS(to te:DE):DE:=λ σ st K=>to σ st λ x st1=>match x with
 | .ref n=>(match st1[n]? with
   |some (.lst _)=>te σ st1 λ y st2=>∃y',[y]=[y']/\(match st2[n]? with|some (.lst xs)=>xs.length<sizeLine/\K .ay (st2.set n (.lst (xs++[y'])))|_=>False)
   |_=>False)
 |_=>False
end
structure kr(K:PySem.W.Frag)(mg:Str->Option Value)(x qual:Str)(st:Stmt)(ps:List Str)(f:Addr)(fd:FuncData):Prop where
 fn:ma K x qual st f fd
 mg:mg x=some (.ref f)
 bd:Binds K fd ps []
def mG(sc:Scope)(N:List Str)(scope:Scope)(Nc:List Str)(fr:List (Option Nat)):Bool:=
 (scope.kind== .function)&&scope.names.all (λ x=>x.2 != .cell||scope.names.lookup x.1==some .cell)&&scope.names.all (λ x=>x.2 != .local||scope.names.lookup x.1==some .local)&&
 scope.names.all (λ x=>x.2 != .free||sc.names.lookup x.1==some .cell||sc.names.lookup x.1==some .free)&&(fr.length==Nc.length)&&
 (List.range fr.length).all λ i=>match fr[i]?,Nc[i]? with
   |some (some j),some x=>(N[j]?==some x)&&(scope.names.lookup x==some .free)&&(sc.names.lookup x==some .cell||sc.names.lookup x==some .free)
   |_,_=>true
theorem cc.look{X:Cx}{scope:Scope}{Nc:List Str}{fr:List (Option Nat)}(sc:Scope)(N:List Str)(h:mG sc N scope Nc fr=true)(hsc:X.env.scope=sc:=by rfl)(hN:X.N=N:=by rfl):cc X scope Nc fr:=by
 unfold mG at h;simp only[UR]at h;obtain⟨⟨⟨⟨⟨h1,h2⟩,h3⟩,h4⟩,h5⟩,h6⟩:=h;subst hsc hN;refine⟨by simpa using h1,λ x hx hk=>?_,λ x hx hk=>?_,λ x hx hk=>?_,by simpa using h5,λ i j x e1 e2=>?_⟩
 . have:=UP.mp h2 x hx;rw[hk]at this;simpa using this
 . have:=UP.mp h3 x hx;rw[hk]at this;simpa using this
 . have:=UP.mp h4 x hx;rw[hk]at this;have z:X.env.scope.names.lookup x.1=some .cell\/X.env.scope.names.lookup x.1=some .free:=by simpa using this
   exact z
 . have hi:i<fr.length:=(Uw.mp e2).1;have:=UP.mp h6 i (Vp.mpr hi);rw[e1,e2]at this;simp only[UR,W_,Wq]at this;exact⟨this.1.1,this.1.2,this.2⟩
section
variable {X:Cx}
theorem TL{e:Expr}{es:List Expr}{pos p:Pos}{x:Str}{id:String}{r:eQ}{t:DA}(hc:bF X (.builtin id) (fO r))(ha:PA X (e::es) (LA t))(hm:X.mg x=none)(hv:bootBuiltins x=some (.builtin id))(hg:Gl X x:=by rfl)(hn:x≠"__name__":=by decide)(hdb:(x==("__debug__":Str))=false:=by decide)
 (he:starEach (e::es) X.env=(false,eval e X.env)::starEach es X.env:=by rfl) (hpl:(backTo pos (starEach es X.env)).any (·.1)=false:=by rfl):PE X (.Call (.Name x p) (e::es) [] pos) (LE (a8 r t)):=PE.imp (JF hc hg hm hv ha hn hdb he hpl) λ _ _ _ h=>LE.cb h
theorem Tf{e:Expr}{es:List Expr}{pos p:Pos}{x:Str}{T:String}{r:eQ}{t:DA}(hc:bF X (.type T) (fO r))(ha:PA X (e::es) (LA t))(hm:X.mg x=none)(hv:bootBuiltins x=some (.type T))(hg:Gl X x:=by rfl)(hn:x≠"__name__":=by decide)(hdb:(x==("__debug__":Str))=false:=by decide)
 (he:starEach (e::es) X.env=(false,eval e X.env)::starEach es X.env:=by rfl) (hpl:(backTo pos (starEach es X.env)).any (·.1)=false:=by rfl):PE X (.Call (.Name x p) (e::es) [] pos) (LE (a8 r t)):=PE.imp (Hb hc hg hm hv ha hn hdb he hpl) λ _ _ _ h=>LE.cb h
theorem TJ{pos:Pos}{x:Str}{T:String}(hm:X.mg x=none)(hv:bootBuiltins x=some (.type T))(hg:Gl X x:=by rfl)(hn:x≠"__name__":=by decide)(hdb:(x==("__debug__":Str))=false:=by decide):PE X (.Name x pos) (LE (dC (.ty T))):=
 oK (v:= .ty T) (Mu hg hm hv rfl hn hdb) λ _ _=>by unfold Rep;rfl
theorem Tt{e:Expr}{es:List Expr}{pos p:Pos}{x qual:Str}{st:Stmt}{ps:List Str}{f:Addr}{fd:FuncData}{k:Nat}{S:bq}{t:DA}(A:kr X.K X.mg x qual st ps f fd)(F:c_ X.prog X.w X.K X.mg X.base fX k f fd ps (gu S))(hr:cB k X.A)
 (ha:PA X (e::es) (LA t)) (hg:Gl X x:=by rfl) (hdb:(x==("__debug__":Str))=false:=by decide) (he:starEach (e::es) X.env=(false,eval e X.env)::starEach es X.env:=by rfl) (hpl:(backTo pos (starEach es X.env)).any (·.1)=false:=by rfl):
 PE X (.Call (.Name x p) (e::es) [] pos) (LE (av S t)):=OU F hr hg A.mg A.fn.kp A.bd ha hdb he hpl
theorem BM{M:Model}{A:Around}{E:Value->Shared->Prop}{s:Shared}{Q:Value->Shared->Prop}{x:V}{v:Value}{b:Bool}(r:RelV x v)(h:Q (.bool (v== .bool b)) s):wpAny M A (compareOp .Is v (.bool b)) Q E s:=by
 cases x
 case bl c=>
  cases r;have e:(Value.bool c==Value.bool b)=(c==b):=by cases c<;>cases b<;>rfl
  rw[e]at h;exact is_bool h
 all_goals first
  |(cases r;exact UK h)
  |(obtain⟨t,rfl⟩:=r;exact UK h)
def Fc(d:D)(b:Bool):Bool:=match d with| .bl c=>c==b|_=>false
def Ld(d:D):Bool:=match d with| .ay=>true|_=>false
def K0:cO:=λ x y st K=>match y with| .ay=>live st x=true/\K (.bl (Ld x)) st| .bl b=>live st x=true/\K (.bl (Fc x b)) st|_=>False
theorem CD{α:List (Option Addr)}{H:Hp}{st:af}{d:D}{v:V}{u:Value}{b:Bool}(S:aX α st H)(hl:live st d=true)(r:Rep α H d v)(ru:RelV v u):(u==Value.bool b)=Fc d b:=by
 cases d
 case ref n=>
  obtain⟨a,rfl⟩:=uD S hl r;cases ru;rfl
 all_goals unfold Rep at r
 case bl c=>
  subst r;cases ru;cases c<;>cases b<;>rfl
 all_goals first
  |(subst r;first|(cases ru;rfl)|(obtain⟨t,rfl⟩:=ru;rfl))
  |(obtain⟨a,vs,rfl,_⟩:=r;cases ru;rfl)
theorem Rh:bE X (compareOp .Is) (LR K0):=λ pins s σ H x y v u Q I rx ry ⟨α,d,e,st,K,G,F',P,r1,r2,S,q,k⟩=>by
 cases e<;>try exact q.elim
 . unfold Rep at r2;refine NG pins s σ H x y v u Q I rx ry ⟨r2,k.here P q.2 S ?_⟩;unfold Rep;cases d
   case ref n=>
    obtain⟨a,rfl⟩:=uD S q.1 r1;rfl
   all_goals(unfold Rep at r1;first|(rw[r1];rfl)|(obtain⟨a,vs,rfl,_⟩:=r1;rfl))
 . rename_i b;unfold Rep at r2;subst r2;cases ry;refine BM rx ?_;rw[CD S q.1 r1 rx];exact⟨.bl (Fc d b),H,I,rfl,k.here P q.2 S (by unfold Rep;rfl)⟩
theorem LE.append{to te:DE}{σ:L2.St}{H:Hp}{Q:VK}(h:LE (oS to te) σ H Q):Sb X.K "list" CY (LE to) (LA (ab te ag)) σ H Q:=by
 obtain⟨α,σd,st,K,G,F,P,R,S,t,k⟩:=h;refine⟨α,σd,st,_,G,F,P,R,S,t,λ x st1 q α1 G1 H1 v s1 P1 S1 r1=>?_⟩;cases x<;>try exact q.elim
 rename_i n;simp only at q;split at q
 . rename_i ys e;obtain⟨p,ep,vs,h1,h2⟩:=S1.fG e;have r1':=cW ep r1;subst r1';refine⟨.inl ⟨rfl,vs,.inl (.of (P1.get h1))⟩,α1,σd,st1,λ ds st2=>∃y,ds=[y]/\(match st2[n]? with|some (.lst xs)=>xs.length<sizeLine/\K .ay (st2.set n (.lst (xs++[y])))|_=>False),G1,F,P1,R.step s1,S1,?_,?_⟩
   . refine Eq.mp ?_ q;rfl
   . rintro ds st2 ⟨y,rfl,q2⟩ α2 G2 H2 ws s2 P2 S2 r2;obtain⟨w,rfl,rw'⟩:=gH r2 rfl;split at q2
     . rename_i xs e2;obtain⟨p2,ep2,us,g1,g2⟩:=S2.fG e2
       have:p2=p:=by
        rcases s2.pre _ _ ep with z|z<;>(rw[z]at ep2;cases ep2)
        rfl
       subst this;have hm:some p2∈α2:=U8 ep2;refine⟨p2,us,w,rfl,rfl,P2.get g1,by rw[<-g2.length];exact q2.1,?_⟩;refine((k.at s1).at s2) _ _ q2.2 α2 (upd G2 p2 (.lst (us++[w]))) _ .ay (Step.write hm) (P2.write g1) ?_ (by unfold Rep;rfl);exact S2.write ep2 ⟨us++[w],a_,(aO.mpr (dH (aO.mp g2) (.cons rw' .nil))).step (Step.write hm)⟩
     . exact q2.elim
 . exact q.elim
theorem IK{o e:Expr}{to te:DE}{apos cpos:Pos}(ho:PE X o (LE to))(he:PE X e (LE te))(hbase:attributeBase o "append" X.env (eval o X.env)=eval o X.env:=by rfl)
 (hfew:((backTo cpos (starEach [e] X.env)).all (λ x=> !x.1)&&(backToKw cpos (keywordEach [] X.env)).all (λ x=>x.1.isSome)
   &&decide (([e]:List Expr).length+([]:List Keyword).length+(if([]:List Keyword).isEmpty then 0 else 1)<30))=true:=by rfl)
 (hline:(apos.endLine==cpos.line)=true:=by rfl) (hs:starEach [e] X.env=(false,eval e X.env)::starEach [] X.env:=by rfl) (hplain:(backTo cpos (starEach [] X.env)).any (·.1)=false:=by rfl):PE X (.Call (.Attribute o "append" apos) [e] [] cpos) (LE (oS to te)):=
 PE.imp (RG Xj PySem.F.slot_list_append PySem.F.type_list_append xy ho (CS he Gq hs) hbase hfew hline hs hplain) λ _ _ _ h=>LE.append h
end
end L3
namespace L3
open PySem L2
open PySem.Spec hiding items?
open PyProof.Rows hiding St
section
variable {X:Cx}
@[irreducible] def b_:cO:=Ka
theorem iB:bE X (binaryOp .Add) (LR b_):=by unfold b_;exact Rv
@[irreducible] def cG:cO:=Ki
theorem dM:bE X (binaryOp .Sub) (LR cG):=by unfold cG;exact Rj
@[irreducible] def bh:cO:=KP
theorem d9:bE X (binaryOp .Mult) (LR bh):=by unfold bh;exact QW
@[irreducible] def gK:cO:=E8
theorem ou:bE X (binaryOp .FloorDiv) (LR gK):=by unfold gK;exact Pa
@[irreducible] def gF:cO:=KS
theorem Ke:bE X (binaryOp .Mod) (LR gF):=by unfold gF;exact Q0
@[irreducible] def tM:cO:=Kb
theorem Lp:bE X (binaryOp .Pow) (LR tM):=by unfold tM;exact Ri
@[irreducible] def mm:cO:=NM
theorem wF:bE X (compareOp .Lt) (LR mm):=by unfold mm;exact TF
@[irreducible] def G7:cO:=NK
theorem IZ:bE X (compareOp .LtE) (LR G7):=by unfold G7;exact SQ
@[irreducible] def tj:cO:=Oe
theorem Iv:bE X (compareOp .Gt) (LR tj):=by unfold tj;exact TM
@[irreducible] def u4:cO:=O_
theorem DC:bE X (compareOp .GtE) (LR u4):=by unfold u4;exact TB
@[irreducible] def oz:cO:=NT
theorem Al:bE X (compareOp .NotEq) (LR oz):=by unfold oz;exact SX
@[irreducible] def Dh:cO:=K0
theorem Io:bE X (compareOp .Is) (LR Dh):=by unfold Dh;exact Rh
@[irreducible] def fi:cO:=OC
theorem Ap{k:Nat}(hr:cB k X.A):bE X (compareOp .Eq) (LR fi):=by unfold fi;exact Td hr
@[irreducible] def fH:zX:=Kt
theorem QT:Dn X (unaryOp .USub) (K8 fH):=by unfold fH;exact RK
@[irreducible] def aT:cO:=o6
theorem TR{a b:Expr}{ta tb:DE}{pos:Pos}(ha:PE X a (LE ta))(hb:PE X b (LE tb))(hs:rY b:=by intro _ _;rfl):PE X (.Subscript a b pos) (LE (ah aT ta tb)):=by unfold aT;exact Tg ha hb hs
@[irreducible] def dE:eQ:=yC
theorem jJ:bF X (.builtin "len") (fO dE):=by unfold dE;exact QB
@[irreducible] def nG:eQ:=Dv
theorem Ku:bF X (.builtin "abs") (fO nG):=by unfold nG;exact RX
@[irreducible] def wk:eQ:=E5
theorem D1(hc:X.calm=true):bF X (.builtin "max") (fO wk):=by unfold wk;exact Rq hc
@[irreducible] def zT:eQ:=Ep
theorem JZ:bF X (.type "int") (fO zT):=by unfold zT;exact QZ
@[irreducible] def cm:eQ:=rV
theorem jt:bF X (.type "tuple") (fO cm):=by unfold cm;exact Nw
@[irreducible] def ib:eQ:=uS
theorem l9:bF X (.type "list") (fO ib):=by unfold ib;exact Ob
@[irreducible] def qF:eQ:=r9
theorem C9:bF X (.type "list") (fO qF):=by unfold qF;exact Nl
@[irreducible] def pM:eQ:=yP
theorem Km(hc:X.calm=true):bF X (.builtin "all") (fO pM):=by unfold pM;exact Q5 hc
@[irreducible] def gi:eQ:=vp
theorem yF:bF X (.builtin "isinstance") (fO gi):=by unfold gi;exact QP
@[irreducible] def nK:D->af->(List D->(af->Prop)->af->Prop)->Prop:=wz
def cy(t:DE):DI:=λ σ st K=>t σ st λ d st1=>nK d st1 K
theorem N5{l tg:Expr}{tl:DE}(hl:PE X l (LE tl)):PI X tg l (LI (cy tl)):=by unfold cy nK;exact Qd hl
@[irreducible] def yH:List D->af->(List D->(af->Prop)->af->Prop)->Prop:=Kg
@[irreducible] def yN:List D->af->(List D->(af->Prop)->af->Prop)->Prop:=JY
def cE(t:DA):DI:=λ σ st K=>t σ st λ ds st1=>yH ds st1 K
def lI(t:DA):DI:=λ σ st K=>t σ st λ ds st1=>yN ds st1 K
theorem GJ{tg iter:Expr}{t:DA}(h:PI X tg iter (Dw (LA t))):PI X tg iter (LI (cE t)):=by unfold cE yH;exact Fp h
theorem Fz{tg iter:Expr}{t:DA}(h:PI X tg iter (D8 (LA t))):PI X tg iter (LI (lI t)):=by unfold lI yN;exact Gh h
@[irreducible] def Du:D->D->D->af->(af->Prop)->Prop:=um
def dm(to ti te:DE):DS:=λ D σ st=>te σ st λ d st1=>to σ st1 λ x st2=>ti σ st2 λ y st3=>Du x y d st3 λ st4=>D.nx σ st4
theorem Aq{st:Stmt}{to ti te:DE}(h:PS X st (j0 (LE te) (AX (LE to) (LE ti) uL))):PS X st (LS (dm to ti te)):=by unfold dm Du;exact Jn h
end
section
variable {st:af}{K:DK}{i j:Int}{b c:Bool}{xs ys:List D}{d e:D}{n:Nat}
theorem cp(k:K (.int (i+j)) st):b_ (.int i) (.int j) st K:=by unfold b_;exact k
theorem Ce(h:xs.length+ys.length<=sizeLine)(k:K (.lst (xs++ys)) st):b_ (.lst xs) (.lst ys) st K:=by unfold b_;exact⟨h,k⟩
theorem cn(k:K (.int (i-j)) st):cG (.int i) (.int j) st K:=by unfold cG;exact⟨trivial,k⟩
theorem bc(h:IntMulOk i j)(k:K (.int (i*j)) st):bh (.int i) (.int j) st K:=by unfold bh;exact⟨h,k⟩
theorem Df(h: -(2^63)<=i/\i<2^63/\xs.length*i.toNat<=sizeLine)(k:K (.lst (List.replicate i.toNat xs).flatten) st):bh (.lst xs) (.int i) st K:=by unfold bh;exact⟨h,k⟩
theorem gC(h0:j≠0)(h:j.natAbs.log2<9000)(k:K (.int (i.fdiv j)) st):gK (.int i) (.int j) st K:=by unfold gK;exact⟨⟨h0,h⟩,k⟩
theorem i0(h0:j≠0)(k:K (.int (i.fmod j)) st):gF (.int i) (.int j) st K:=by unfold gF;exact⟨h0,k⟩
theorem zV(h:Ij i j)(k:K (.int (i^j.toNat)) st):tM (.int i) (.int j) st K:=by unfold tM;exact⟨h,k⟩
theorem yX(k:K (.bl (decide (i<j))) st):mm (.int i) (.int j) st K:=by unfold mm;exact⟨trivial,k⟩
theorem Qv(k:K (.bl (decide (i<=j))) st):G7 (.int i) (.int j) st K:=by unfold G7;exact⟨trivial,k⟩
theorem Kj(k:K (.bl (decide (j<i))) st):tj (.int i) (.int j) st K:=by unfold tj;exact⟨trivial,k⟩
theorem K5(k:K (.bl (decide (j<=i))) st):u4 (.int i) (.int j) st K:=by unfold u4;exact⟨trivial,k⟩
theorem yY(k:K (.bl (!decide (i=j))) st):oz (.int i) (.int j) st K:=by unfold oz;exact k
theorem AS(h:live st d=true)(k:K (.bl (Ld d)) st):Dh d .ay st K:=by unfold Dh;exact⟨h,k⟩
theorem uZ(h1:pl 40 d=true)(h2:pl 40 e=true)(k:K (.bl (cw d e)) st):fi d e st K:=by unfold fi;exact⟨h1,h2,k⟩
theorem Mo(a b:Int):(a==b)=decide (a=b):=by
 by_cases h:a=b
 . subst h;simp
 . simp[h]
theorem y_(k:K (.bl (decide (i=j))) st):fi (.int i) (.int j) st K:=by
 refine uZ rfl rfl ?_;have:cw (.int i) (.int j)=decide (i=j):=by unfold cw;exact Mo i j
 rw[this];exact k
theorem eK(k:K (.int (-i)) st):fH (.int i) st K:=by unfold fH;exact k
theorem Im(h:items? st d=some xs)(a:di xs i=some e)(k:K e st):o6 d (.int i) st K:=by
 cases d<;>unfold items? at h<;>first
  |(cases h;done)
  |(cases h;simp only[o6,a];exact k)
  |(simp only at h
    split at h
    . rename_i q;cases h;simp only[o6,q,a];exact k
    . cases h)
theorem aA(h:items? st d=some xs)(a:di xs i=some e)(k:K e st):aT d (.int i) st K:=by unfold aT;exact Im h a k
theorem cP(h:items? st d=some xs)(k:K (.int xs.length) st):dE [d] st K:=by
 unfold dE yC;split
 . rename_i z;cases z;cases h
 . rename_i z;cases z;rw[h];exact k
 . rename_i z1 z2;exact absurd rfl (z2 d)
theorem LL(i:Int):(if i<0 then-i else i)=((i.natAbs:Nat):Int):=by split<;>lia
theorem oE(k:K (.int ((i.natAbs:Nat):Int)) st):nG [.int i] st K:=by unfold nG;show K (.int (if i<0 then-i else i)) st;rw[LL];exact k
theorem F8(k:K (.int (if j>i then j else i)) st):wk [.int i,.int j] st K:=by unfold wk;exact k
theorem Co(k:K (.int (if b then 1 else 0)) st):zT [.bl b] st K:=by unfold zT;exact k
theorem bS(h:items? st d=some xs)(k:K (.tup xs) st):cm [d] st K:=by unfold cm rV;simp only[h];exact k
theorem kb(h:items? st d=some xs)(k:K (.lst xs) st):ib [d] st K:=by unfold ib uS;simp only[h];exact k
theorem IM(h:items? st d=some xs)(k:K (.ref st.length) (st++[.lst xs])):qF [d] st K:=by unfold qF r9;simp only[h];exact k
theorem vC{bs:List Bool}(h:gR xs=some bs)(k:K (.bl (bs.all id)) st):pM [.lst xs] st K:=by unfold pM yP;simp only[h];exact k
theorem jO{t c:String}(h:dn st d=some t)(hc:c∈j_)(k:K (.bl (pq t c)) st):gi [d,.ty c] st K:=by unfold gi vp;simp only[h];exact⟨hc,k⟩
theorem Ci{t:String}{cs:List D}{cl:List String}(h:dn st d=some t)(h2:lL cs=some cl)(hc:∀c∈cl,c∈j_)(k:K (.bl (cl.any (pq t))) st):gi [d,.tup cs] st K:=by unfold gi vp;simp only[h,h2];exact⟨hc,k⟩
theorem oU{K:List D->(af->Prop)->af->Prop}(h:items? st d=some xs)(k:∀ok:af->Prop,ok st->K xs ok st):nK d st K:=by
 unfold nK wz
 cases d<;>unfold items? at h<;>first
  |(cases h;done)
  |(cases h;exact k _ trivial)
  |(simp only at h
    split at h
    . rename_i q;cases h;simp only[q];exact k _ q
    . cases h)
theorem wO{K:List D->(af->Prop)->af->Prop}(k:K xs (λ _=>True) st):nK (.lst xs) st K:=by unfold nK;exact k
theorem ju{K:List D->(af->Prop)->af->Prop}(k:K xs (λ _=>True) st):nK (.tup xs) st K:=by unfold nK;exact k
theorem dS{K:List D->(af->Prop)->af->Prop}(h: -(2^62)<=j/\j<2^62)(k:K (cC 0 j.toNat) (λ _=>True) st):yH [.int j] st K:=by unfold yH;exact⟨h,k⟩
theorem wa{K:List D->(af->Prop)->af->Prop}(h: -(2^62)<=i/\i<2^62/\ -(2^62)<=j/\j<2^62)(k:K (cC i (j-i).toNat) (λ _=>True) st):yN [.int i,.int j] st K:=by unfold yN;exact⟨h,k⟩
theorem dO{K:af->Prop}{m:Nat}(h:st[n]?=some (.lst xs))(e:jE xs.length i=some m)(k:K (st.set n (.lst (xs.set m d)))):Du (.ref n) (.int i) d st K:=by unfold Du um;simp only[h,e];exact k
end
def E_(K:PySem.W.Frag):Bool:=K.all λ p=>p.2.cls != .type "list"
theorem tI{a:Addr}{o:Obj}:∀ {l:List (Addr×Obj)},l.lookup a=some o->(a,o)∈l
 | [],h=>by cases h
 |(b,u)::r,h=>by
  rw[Ve]at h;split at h
  . rename_i z;cases h;have:a=b:=by simpa using z
    subst this;exact UZ
  . exact UQ _ (tI h)
theorem ym{K:PySem.W.Frag}(h:E_ K=true){a:Addr}{o:Obj}(e:K.lookup a=some o):o.cls≠ .type "list":=by
 have:=UP.mp h (a,o) (tI e);simpa using this
theorem xV{α:List (Option Addr)}{G:Hp}:∀ns:List Int,aE α G (ns.map D.int) (ns.map V.int)
 | []=>by unfold aE;rfl
 |n::ns=>by
  rw[Va,Va];unfold aE;exact⟨_,_,rfl,by unfold Rep;rfl,xV ns⟩
def notStar:Expr->Bool
 | .Starred .. =>false
 |_=>true
theorem cv{e:Expr}{es:List Expr}{env:Env}(h:notStar e=true):starEach (e::es) env=(false,eval e env)::starEach es env:=by
 cases e<;>first|rfl|cases h
def fK:List Expr->Bool
 | []=>true
 |e::es=>notStar e&&fK es
theorem i_{pos:Pos}{env:Env}:∀ {es:List Expr},fK es=true->(backTo pos (starEach es env)).any (·.1)=false
 | [],_=>rfl
 |e::es,h=>by
  unfold fK at h;rw[UR]at h;rw[cv h.1];have ih:=i_ (pos:=pos) (env:=env) h.2;unfold backTo at ih⊢;rw[Va,Yg,ih];rfl
def ji:Expr->Bool
 | .Slice .. =>false
 |_=>true
def qD:Expr->Bool
 | .Name .. =>true
 | .Call .. =>true
 | .Subscript .. =>true
 | .Attribute .. =>true
 |_=>false
def j6:Expr->Bool
 | .ListComp .. =>false
 | .SetComp .. =>false
 | .DictComp .. =>false
 |_=>true
section
variable {X:Cx}
theorem ID{b:Expr}(h:ji b=true):rY b:=by
 intro o i;cases b<;>first|rfl|cases h
theorem Dy{e:Expr}(h:qD e=true):∀whole,isTrue e X.env whole=(do let v <-whole;standAt e.pos;holding [v] (truthy v)):=by
 intro whole;cases e<;>first|(cases h;done)|rfl
theorem wQ{e:Expr}{tg:Option Expr}{n:Nat}{env:Env}(h:j6 e=true):swapsWith e tg n env=pure false:=by
 cases e<;>first|(cases h;done)|rfl
theorem Jq{e:Expr}{es:List Expr}{te:DE}{tr:DA}(ha:PE X e (LE te))(hr:PA X es (LA tr))(hs:notStar e=true:=by rfl):PA X (e::es) (LA (ab te tr)):=CS ha hr (cv hs)
theorem Qq{e:Expr}{es:List Expr}{pos p:Pos}{x:Str}{id:String}{r:eQ}{t:DA}(hc:bF X (.builtin id) (fO r))(ha:PA X (e::es) (LA t))(hm:X.mg x=none)(hv:bootBuiltins x=some (.builtin id))(hn:x≠"__name__")(hdb:(x==("__debug__":Str))=false)(hg:Gl X x:=by rfl)(hs:notStar e=true:=by rfl)(hs2:fK es=true:=by rfl):
 PE X (.Call (.Name x p) (e::es) [] pos) (LE (a8 r t)):=TL hc ha hm hv hg hn hdb (cv hs) (i_ hs2)
theorem RH{e:Expr}{es:List Expr}{pos p:Pos}{x:Str}{T:String}{r:eQ}{t:DA}(hc:bF X (.type T) (fO r))(ha:PA X (e::es) (LA t))(hm:X.mg x=none)(hv:bootBuiltins x=some (.type T))(hn:x≠"__name__")(hdb:(x==("__debug__":Str))=false)(hg:Gl X x:=by rfl)(hs:notStar e=true:=by rfl)(hs2:fK es=true:=by rfl):
 PE X (.Call (.Name x p) (e::es) [] pos) (LE (a8 r t)):=Tf hc ha hm hv hg hn hdb (cv hs) (i_ hs2)
theorem Q4{e:Expr}{es:List Expr}{pos p:Pos}{x qual:Str}{st:Stmt}{ps:List Str}{f:Addr}{fd:FuncData}{k:Nat}{S:bq}{t:DA}(A:kr X.K X.mg x qual st ps f fd)(F:c_ X.prog X.w X.K X.mg X.base fX k f fd ps (gu S))(hr:cB k X.A)
 (ha:PA X (e::es) (LA t)) (hdb:(x==("__debug__":Str))=false) (hg:Gl X x:=by rfl) (hs:notStar e=true:=by rfl) (hs2:fK es=true:=by rfl):
 PE X (.Call (.Name x p) (e::es) [] pos) (LE (av S t)):=Tt A F hr ha hg hdb (cv hs) (i_ hs2)
theorem Rr{a b:Expr}{ta tb:DE}{pos:Pos}(ha:PE X a (LE ta))(hb:PE X b (LE tb))(hs:ji b=true:=by rfl):PE X (.Subscript a b pos) (LE (ah aT ta tb)):=TR ha hb (ID hs)
theorem M0{e:Expr}{te:DE}(he:PE X e (LE te))(h:qD e=true:=by rfl):PT X e (LT (aH te)):=O5 he (Dy h)
theorem Jk{e:Expr}{te:DE}{pos:Pos}(he:PE X e (LE te))(h:j6 e=true:=by rfl):PS X (.Expr e pos) (LS (du te)):=LH he (wQ h)
theorem LY{i:Nat}{x:Str}{e:Expr}{te:TE}{pos pos':Pos}(hN:X.N.Nodup)(hi:X.N[i]?=some x)(hx:Loc X.env.scope x)(he:PE X e te)(hf:X.fn x=true\/X.env.scope.names.lookup x=some .local:=by first|exact .inl rfl|exact .inr rfl)(h:j6 e=true:=by rfl):
 PS X (.Assign [.Name x pos'] e pos) (j0 te (fe i)):=Hu hN hi hx he (wQ h) hf
theorem MR{i:Nat}{x:Str}{pos:Pos}(hd:(x==("__debug__":Str))=false)(hcd:(x==("__classdict__":Str))=false)(hv:zy X.env.scope x)(hN:X.N[i]?=some x:=by rfl):PE X (.Name x pos) (LE (aa i)):=Qu (OE hN hv hd hcd)
theorem Oh{o i e:Expr}{to ti te:TE}{pos pos':Pos}(he:PE X e te)(ho:PE X o to)(hi:PE X i ti)(h1:j6 e=true:=by rfl)(h2:ji i=true:=by rfl):PS X (.Assign [.Subscript o i pos'] e pos) (j0 te (AX to ti uL)):=
 u5 he (E6 ho hi set_list (by intro v;cases i<;>first|rfl|cases h2)) (by unfold swapsWithSole;exact wQ h1) (by cases e<;>rfl) rfl
end
@[irreducible] def JE(X:Cx)(e:Expr)(t:DE):Prop:=PE X e (LE t)
@[irreducible] def JT(X:Cx)(e:Expr)(t:DT):Prop:=PT X e (LT t)
@[irreducible] def JW(X:Cx)(e:Expr)(t:DT):Prop:=PW X e (LT t)
@[irreducible] def JA(X:Cx)(es:List Expr)(t:DA):Prop:=PA X es (LA t)
@[irreducible] def JS(X:Cx)(s:Stmt)(t:DS):Prop:=PS X s (LS t)
@[irreducible] def JB(X:Cx)(s:List Stmt)(t:DS):Prop:=gf X s (LS t)
@[irreducible] def JG(X:Cx)(e:Expr)(t:dZ):Prop:=PG X e (LG t)
@[irreducible] def JI(X:Cx)(tg e:Expr)(t:DI):Prop:=PI X tg e (LI t)
@[irreducible] def JC(X:Cx)(es:List Expr)(t:DT):Prop:=vm X es (LT t)
section
variable {X:Cx}{a b c e o i:Expr}{es:List Expr}{ta tb tc te to ti:DE}{t u:DT}{ar:DA}{pos p pos':Pos}{s:Stmt}{ss:List Stmt}{T U:DS}
theorem GX{n:Nat}{x:Str}(hd:(x==("__debug__":Str))=false)(hcd:(x==("__classdict__":Str))=false)(hv:zy X.env.scope x)(hN:X.N[n]?=some x:=by rfl):JE X (.Name x pos) (aa n):=by unfold JE;exact MR hd hcd hv hN
theorem kR{x:Str}{T:String}(hm:X.mg x=none)(hv:bootBuiltins x=some (.type T))(hn:x≠"__name__")(hdb:(x==("__debug__":Str))=false)(hg:Gl X x):JE X (.Name x pos) (dC (.ty T)):=by unfold JE;exact TJ hm hv hg hn hdb
theorem bG{k:Int}{j:Nat}:JE X (.Constant (.int k) j pos) (dC (.int k)):=by unfold JE;exact Ry
theorem AV{k:Bool}{j:Nat}:JE X (.Constant (.bool k) j pos) (dC (.bl k)):=by unfold JE;exact Tr
theorem Kh{k:Str}{j:Nat}:JE X (.Constant (.str k) j pos) (dC (.str k)):=by unfold JE;exact QC
theorem KN{j:Nat}:JE X (.Constant .none j pos) (dC .ay):=by unfold JE;exact Q3
theorem bx{op:Operator}{r:cO}(ho:bE X (binaryOp op) (LR r))(ha:JE X a ta)(hb:JE X b tb):JE X (.BinOp a op b pos) (ah r ta tb):=by unfold JE at*;exact To ho ha hb
theorem kv(ha:JE X a ta):JE X (.UnaryOp .USub a pos) (jx fH ta):=by unfold JE at*;exact TC QT ha
theorem K_(ha:JE X a ta):JE X (.UnaryOp .Not a pos) (vx (aH ta)):=by unfold JE at*;exact RL ha
theorem J0{op:BoolOp}(ha:JE X a ta):JE X (.BoolOp op [a] pos) ta:=by unfold JE at*;exact QR ha
theorem Kn(ha:JE X a ta)(hb:JE X (.BoolOp .And (b::es) pos) tb):JE X (.BoolOp .And (a::b::es) pos) (mX ta tb):=by unfold JE at*;exact Qx ha hb
theorem PR(ha:JE X a ta)(hb:JE X (.BoolOp .Or (b::es) pos) tb):JE X (.BoolOp .Or (a::b::es) pos) (IT ta tb):=by unfold JE at*;exact Te ha hb
theorem DB{op:CmpOp}{r:cO}(ho:bE X (compareOp op) (LR r))(hm:behindInMarks op b=false)(ha:JE X a ta)(hb:JE X b tb):JE X (.Compare a [op] [b] pos) (ah r ta tb):=by unfold JE at*;exact QI ho ha hb hm
theorem EW(hc:JT X c t)(ha:JE X a ta)(hb:JE X b tb):JE X (.IfExp c a b pos) (CA t ta tb):=by unfold JE at*;unfold JT at hc;exact RB hc ha hb
theorem rL{n:Nat}(h:JA X es ar):JE X (.Tuple es n pos) (iK ar):=by unfold JE;unfold JA at h;exact Qo h
theorem m5(h:JA X es ar):JE X (.List es pos) (fg ar):=by unfold JE;unfold JA at h;exact Rp h
theorem Lc(h:JA X es ar):JE X (.List es pos) (mz ar):=by unfold JE;unfold JA at h;exact RJ h
theorem aD:JA X [] ag:=by unfold JA;exact Gq
theorem ak(ha:JE X e te)(hr:JA X es ar)(hs:notStar e=true:=by rfl):JA X (e::es) (ab te ar):=by unfold JA at*;unfold JE at ha;exact Jq ha hr hs
theorem cS(ha:JE X a ta)(hb:JE X b tb)(hs:ji b=true:=by rfl):JE X (.Subscript a b pos) (ah aT ta tb):=by unfold JE at*;exact Rr ha hb hs
theorem eF{x:Str}{id:String}{r:eQ}(hc:bF X (.builtin id) (fO r))(ha:JA X (e::es) ar)(hm:X.mg x=none)(hv:bootBuiltins x=some (.builtin id))(hn:x≠"__name__")(hdb:(x==("__debug__":Str))=false)(hg:Gl X x)(hs:notStar e=true:=by rfl)(hs2:fK es=true:=by rfl):JE X (.Call (.Name x p) (e::es) [] pos) (a8 r ar):=by
 unfold JE;unfold JA at ha;exact Qq hc ha hm hv hn hdb hg hs hs2
theorem gn{x:Str}{T:String}{r:eQ}(hc:bF X (.type T) (fO r))(ha:JA X (e::es) ar)(hm:X.mg x=none)(hv:bootBuiltins x=some (.type T))(hn:x≠"__name__")(hdb:(x==("__debug__":Str))=false)(hg:Gl X x)(hs:notStar e=true:=by rfl)(hs2:fK es=true:=by rfl):JE X (.Call (.Name x p) (e::es) [] pos) (a8 r ar):=by
 unfold JE;unfold JA at ha;exact RH hc ha hm hv hn hdb hg hs hs2
theorem bN{x qual:Str}{st:Stmt}{ps:List Str}{f:Addr}{fd:FuncData}{k:Nat}{S:bq}(A:kr X.K X.mg x qual st ps f fd)(F:c_ X.prog X.w X.K X.mg X.base fX k f fd ps (gu S))(hr:cB k X.A)(ha:JA X (e::es) ar)(hdb:(x==("__debug__":Str))=false)(hg:Gl X x)(hs:notStar e=true:=by rfl)(hs2:fK es=true:=by rfl):
 JE X (.Call (.Name x p) (e::es) [] pos) (av S ar):=by unfold JE;unfold JA at ha;exact Q4 A F hr ha hdb hg hs hs2
theorem Ju{apos cpos:Pos}(ho:JE X o to)(he:JE X e te)(hbase:attributeBase o "append" X.env (eval o X.env)=eval o X.env:=by rfl)(hline:(apos.endLine==cpos.line)=true:=by rfl)(hs:notStar e=true:=by rfl):JE X (.Call (.Attribute o "append" apos) [e] [] cpos) (oS to te):=by
 unfold JE at*;refine IK ho he hbase ?_ hline (cv hs) rfl;rw[cv hs];rfl
theorem iW{op:CmpOp}{r:cO}(ho:bE X (compareOp op) (LR r))(hm:behindInMarks op b=false)(ha:JE X a ta)(hb:JE X b tb):JT X (.Compare a [op] [b] pos) (aH (ah r ta tb)):=by unfold JE at*;unfold JT;exact Pu ho ha hb hm
theorem rl(ha:JT X a t):JT X (.UnaryOp .Not a pos) (cQ t):=by unfold JT at*;exact N0 ha
theorem lS(he:JE X e te)(h:qD e=true:=by rfl):JT X e (aH te):=by unfold JT;unfold JE at he;exact M0 he h
theorem MV(ha:JT X a t):JW X (.BoolOp .And [a] pos) t:=by unfold JW;unfold JT at ha;exact MM ha
theorem uN(ha:JT X a t):JW X (.BoolOp .Or [a] pos) t:=by unfold JW;unfold JT at ha;exact Pg ha
theorem PV(ha:JT X a t)(hb:JW X (.BoolOp .And (b::es) pos) u):JW X (.BoolOp .And (a::b::es) pos) (vb t u):=by unfold JW at*;unfold JT at ha;exact Qg ha hb
theorem vk(ha:JT X a t)(hb:JW X (.BoolOp .Or (b::es) pos) u):JW X (.BoolOp .Or (a::b::es) pos) (fT t u):=by unfold JW at*;unfold JT at ha;exact RE ha hb
theorem yI(h:JW X e t):JT X e t:=by unfold JT;unfold JW at h;exact PW.pt h
theorem iz{l tg:Expr}(hl:JE X l ta):JI X tg l (cy ta):=by unfold JI;unfold JE at hl;exact N5 hl
theorem mO{tg:Expr}(hg:Gl X "range")(hm:X.mg "range"=none)(ha:JA X [a] ar)(hs:notStar a=true:=by rfl):JI X tg (.Call (.Name "range" p) [a] [] pos) (cE ar):=by unfold JI;unfold JA at ha;exact GJ (Hz hg hm ha (cv hs))
theorem tN{tg:Expr}(hg:Gl X "range")(hm:X.mg "range"=none)(ha:JA X [a,b] ar)(hs:notStar a=true:=by rfl)(hs2:notStar b=true:=by rfl):JI X tg (.Call (.Name "range" p) [a,b] [] pos) (lI ar):=by unfold JI;unfold JA at ha;exact Fz (FY hg hm ha (by rw[cv hs,cv hs2];rfl) (cv hs2))
theorem gG{k:Nat}{x:Str}(hN:X.N.Nodup)(hx:Loc X.env.scope x:=by first|exact Or.inl rfl|exact Or.inr rfl)(hf:X.fn x=true\/X.env.scope.names.lookup x=some .local:=by first|exact .inl rfl|exact .inr rfl)(hi:X.N[k]?=some x:=by rfl):JG X (.Name x pos) (aS k):=by unfold JG;exact MW (iD hN hi hx hf)
theorem vh{k j n:Nat}{x y:Str}{px py:Pos}(hc:X.calm=true)(hN:X.N.Nodup)(hx:Loc X.env.scope x:=by first|exact Or.inl rfl|exact Or.inr rfl)(hf:X.fn x=true\/X.env.scope.names.lookup x=some .local:=by first|exact .inl rfl|exact .inr rfl)(hy:Loc X.env.scope y:=by first|exact Or.inl rfl|exact Or.inr rfl)(hg:X.fn y=true\/X.env.scope.names.lookup y=some .local:=by first|exact .inl rfl|exact .inr rfl)(hi:X.N[k]?=some x:=by rfl)(hj:X.N[j]?=some y:=by rfl):
 JG X (.Tuple [.Name x px,.Name y py] n pos) (fh k j):=by unfold JG;exact PC (AI hc (g9 (iD hN hi hx hf) (g9 (iD hN hj hy hg) wH)))
theorem dX:JC X [] ba:=by unfold JC;exact Iu
theorem iU{scope:Scope}{Nc:List Str}{elt tg iter:Expr}{ifs:List Expr}{src:DI}{fr:List (Option Nat)}{dtg:dZ}(S:cc X scope Nc fr)(hi:JI X tg iter src)(hg:∀C s H ex,JG (bY X scope Nc C s H ex) tg dtg)(ht:∀C s H ex,JC (bY X scope Nc C s H ex) ifs t)(he:∀C s H ex,JE (bY X scope Nc C s H ex) elt te)(fit:fw fr dtg)
 (hx:X.xe=λ _ _=>False:=by rfl) (hc:X.calm=true:=by rfl) (hs:∀x,foldedSetIterable iter X.env x=pure x:=by intro _;rfl):JE X (.ListComp elt [⟨tg,iter,ifs,0⟩] scope pos) (bJ src fr dtg t te):=by
 unfold JE JI JG JC at*;exact N4 S hi hg ht he fit hx hc hs
theorem oJ{scope:Scope}{Nc:List Str}{elt tg iter:Expr}{ifs:List Expr}{src:DI}{fr:List (Option Nat)}{dtg:dZ}(S:cc X scope Nc fr)(hi:JI X tg iter src)(hg:∀C s H ex,JG (bY X scope Nc C s H ex) tg dtg)(ht:∀C s H ex,JC (bY X scope Nc C s H ex) ifs t)(he:∀C s H ex,JE (bY X scope Nc C s H ex) elt te)(fit:fw fr dtg)
 (hx:X.xe=λ _ _=>False:=by rfl) (hc:X.calm=true:=by rfl) (hs:∀x,foldedSetIterable iter X.env x=pure x:=by intro _;rfl):JE X (.ListComp elt [⟨tg,iter,ifs,0⟩] scope pos) (iV src fr dtg t te):=by
 unfold JE JI JG JC at*;exact Nt S hi hg ht he fit hx hc hs
theorem kI:JB X [] bW:=by unfold JB;exact L8
theorem bO(h:JS X s T):JB X [s] T:=by unfold JB;unfold JS at h;exact Mq h
theorem aM(h:JS X s T)(h2:JB X ss U):JB X (s::ss) (aw T U):=by unfold JB at*;unfold JS at h;exact Js h h2
theorem BC:JS X (.Continue pos) Ds:=by unfold JS;exact BL
theorem eY(h:JE X e te):JS X (.Return (some e) pos) (aP te):=by unfold JS;unfold JE at h;exact Pt h
theorem MG:JS X (.Return none pos) Dt:=by unfold JS;exact Nm
theorem iw(h:JE X e te)(hc:j6 e=true:=by rfl):JS X (.Expr e pos) (du te):=by unfold JS;unfold JE at h;exact Jk h hc
theorem km{x y:List Stmt}(hc:JT X c t)(ha:JB X x T)(hb:JB X y U):JS X (.If c x y pos) (bR t T U):=by unfold JS;unfold JB at*;unfold JT at hc;exact Rk hc ha hb
theorem AW{x:List Stmt}(hc:JT X c t)(hb:JB X x T)(hx:X.xe=λ _ _=>False:=by rfl):JS X (.While c x [] pos) (uU t T):=by unfold JS;unfold JB at hb;unfold JT at hc;exact Iw (Jw (by rw[hx];exact PassesOwn.never) hc hb)
theorem oF{tg iter:Expr}{x:List Stmt}{src:DI}{dtg:dZ}(hi:JI X tg iter src)(hg:JG X tg dtg)(hb:JB X x T)(hx:X.xe=λ _ _=>False:=by rfl)(hc:X.calm=true:=by rfl)(hs:∀x,foldedSetIterable iter X.env x=pure x:=by intro _;rfl):JS X (.For tg iter x [] pos) (eX src dtg T):=by
 unfold JS;unfold JI at hi;unfold JG at hg;unfold JB at hb;exact OF (OT (by rw[hx];exact PassesOwn.never) hc hi hg hb hs)
theorem cD{k:Nat}{x:Str}(hN:X.N.Nodup)(hx:Loc X.env.scope x)(he:JE X e te)(hf:X.fn x=true\/X.env.scope.names.lookup x=some .local:=by first|exact .inl rfl|exact .inr rfl)(h:j6 e=true:=by rfl)(hi:X.N[k]?=some x:=by rfl):JS X (.Assign [.Name x pos'] e pos) (aJ k te):=by
 unfold JS;unfold JE at he;exact FC (LY hN hi hx he hf h)
theorem NA{scope:Scope}{Nc:List Str}{elt tg iter:Expr}{ifs:List Expr}{src:DI}{fr:List (Option Nat)}{dtg:dZ}{k:Nat}{x:Str}(hN:X.N.Nodup)(hl:Loc X.env.scope x)(S:cc X scope Nc fr)(hi:JI X tg iter src)(hg:∀C s H ex,JG (bY X scope Nc C s H ex) tg dtg)(ht:∀C s H ex,JC (bY X scope Nc C s H ex) ifs t)(he:∀C s H ex,JE (bY X scope Nc C s H ex) elt te)(fit:fw fr dtg)
 (hf:X.fn x=true\/X.env.scope.names.lookup x=some .local:=by first|exact .inl rfl|exact .inr rfl) (hsw:swapsWith (.ListComp elt [⟨tg,iter,ifs,0⟩] scope p) (some (.Name x pos')) pos.line X.env=pure true:=by rfl) (hni:X.N[k]?=some x:=by rfl) (hx:X.xe=λ _ _=>False:=by rfl) (hc:X.calm=true:=by rfl) (hs:∀x,foldedSetIterable iter X.env x=pure x:=by intro _;rfl):
 JS X (.Assign [.Name x pos'] (.ListComp elt [⟨tg,iter,ifs,0⟩] scope p) pos) (aJ k (bJ src fr dtg t te)):=by
 unfold JS;unfold JE JI JG JC at*;exact Lx fit (CN hx hc S hi hg ht he hN hni hl hf hsw hs)
theorem Jz{scope:Scope}{Nc:List Str}{elt tg iter:Expr}{ifs:List Expr}{src:DI}{fr:List (Option Nat)}{dtg:dZ}{k:Nat}{x:Str}(hN:X.N.Nodup)(hl:Loc X.env.scope x)(S:cc X scope Nc fr)(hi:JI X tg iter src)(hg:∀C s H ex,JG (bY X scope Nc C s H ex) tg dtg)(ht:∀C s H ex,JC (bY X scope Nc C s H ex) ifs t)(he:∀C s H ex,JE (bY X scope Nc C s H ex) elt te)(fit:fw fr dtg)
 (hf:X.fn x=true\/X.env.scope.names.lookup x=some .local:=by first|exact .inl rfl|exact .inr rfl) (hsw:swapsWith (.ListComp elt [⟨tg,iter,ifs,0⟩] scope p) (some (.Name x pos')) pos.line X.env=pure true:=by rfl) (hni:X.N[k]?=some x:=by rfl) (hx:X.xe=λ _ _=>False:=by rfl) (hc:X.calm=true:=by rfl) (hs:∀x,foldedSetIterable iter X.env x=pure x:=by intro _;rfl):
 JS X (.Assign [.Name x pos'] (.ListComp elt [⟨tg,iter,ifs,0⟩] scope p) pos) (aJ k (iV src fr dtg t te)):=by
 unfold JS;unfold JE JI JG JC at*;exact JH fit (CN hx hc S hi hg ht he hN hni hl hf hsw hs)
theorem jg(he:JE X e te)(ho:JE X o to)(hi:JE X i ti)(h1:j6 e=true:=by rfl)(h2:ji i=true:=by rfl):JS X (.Assign [.Subscript o i pos'] e pos) (dm to ti te):=by unfold JS;unfold JE at*;exact Aq (Oh he ho hi h1 h2)
theorem OH{k:Nat}{x:Str}{op:Operator}{f:Int->Int->Int}(hN:X.N.Nodup)(hx:Loc X.env.scope x)(he:JE X e te)(ho:An X op (Ck f))(hf:X.fn x=true\/X.env.scope.names.lookup x=some .local:=by first|exact .inl rfl|exact .inr rfl)(hi:X.N[k]?=some x:=by rfl):JS X (.AugAssign (.Name x pos') op e pos) (DJ k (Ad f) te):=by
 unfold JS;unfold JE at he;exact Pm (Ql hN hi hx he ho hf)
theorem OJ{k j kt k2:Nat}{x y:Str}{px py pt pt2:Pos}(hN:X.N.Nodup)(hij:k≠j)(hx:X.env.scope.names.lookup x=some .local)(hy:X.env.scope.names.lookup y=some .local)(ha:JA X [a,b] ar)
 (hw:swappedStores [.Tuple [.Name x px,.Name y py] kt pt] (.Tuple [a,b] k2 pt2) X.env=pure (some [x,y]):=by rfl) (hc:X.calm=true:=by rfl) (hi:X.N[k]?=some x:=by rfl) (hj:X.N[j]?=some y:=by rfl) (hs:swapsWithSole [.Tuple [.Name x px,.Name y py] kt pt] (.Tuple [a,b] k2 pt2) pos.line X.env=pure false:=by rfl):
 JS X (.Assign [.Tuple [.Name x px,.Name y py] kt pt] (.Tuple [a,b] k2 pt2) pos) (Je k j ar):=by unfold JS;unfold JA at ha;exact NR (OP hc hN hi hj hij hx hy ha hw hs)
theorem Am{tg:Expr}{dtg:dZ}(he:JE X e te)(hg:JG X tg dtg)(hs:swapsWithSole [tg] e pos.line X.env=pure false:=by rfl)(hw:swappedStores [tg] e X.env=pure none:=by rfl)(h1:(assignEach [tg] X.env).map (·.2)=[assign tg X.env]:=by rfl):JS X (.Assign [tg] e pos) (zG dtg te):=by
 unfold JS;unfold JE at he;unfold JG at hg;exact Oo (u5 he hg hs hw h1)
end
theorem jK{P:Program}{w:World}{K:PySem.W.Frag}{mg:Str->Option Value}{base:Heap}{x qual:Str}{st:Stmt}{f:Addr}{fd:FuncData}{N ps:List Str}{k:Nat}{sp:bq}{t:DS}(F:ma K x qual st f fd)(S:lO N ps (a9 st))
 (hbody:∀(cdv:Value) (A:Around) (outer:List Env) (s:Shared) (H:Hp) (E:XK),cB k (A.deeper (envOfC qual (a9 st) s.heap.objs.size f cdv))->JB (pw fX P w K mg base N qual (a9 st) f cdv A outer s H E).xf (gE st) t)
 (hsp:∀ds st K,sp ds st K->ds.length=ps.length/\t {nx:=λ _ st'=>K .ay st',rt:=K} (aI N ds) st):c_ P w K mg base fX (k+1) f fd ps (gu sp):=by
 unfold JB at hbody;exact RC F S hbody hsp
end L3
namespace HT
open PySem PyProof.Rows
section
variable {prog:Program}{w:World}{A:Around}{E:Value->Shared->Prop}{s:Shared}
theorem qi{t sl:Addr}{items:Array Value}{vl vu:Value}{lo hi:Option Int}{Q:Value->Shared->Prop}(ht:IsTup s.heap t items)(hs:s.heap.IsSliceOf sl vl vu .none)(pl:IsPart vl lo)(pu:IsPart vu hi)
 (hw:bL items.size 0 lo=0/\bL items.size items.size hi=items.size) (h:Q (.ref t) s):wpAny (model prog w) A (getItem (.ref t) (.ref sl)) Q E s:=by
 obtain⟨os,hos,hcs,hds⟩:=id hs;have hTs:s.TypeIs (.ref sl) "slice":=⟨os,hos,hcs⟩
 unfold getItem;try with_reducible refine W3 ?_
 first|refine Uu (UK ?_)|skip
 refine Uu (wpAny_sequenceKey ht.typeIs (by decide) ?_)
 refine Uu (VI (name:=Str.ofString "__getitem__") ht.typeIs VH
  (Wb VH ht.typeIs entry_tuple_getitem ?_ (args_tuple_getitem _ _)))
 show wpAny _ _ (Builtin.Tuple.tupleItemsOf (.ref t) >>= _) _ _ s;refine Uu (tupleItemsOf_ ht ?_);refine Uu (Y_ hTs ?_);rw[UA (by decide)];refine Uu (mK hs pl pu ?_)
 have hyes:(((bL items.size 0 lo:Nat):Int)==0&&(1:Int)==1&&(bL items.size items.size hi-bL items.size 0 lo)==items.size)=true:=by
  rw[hw.1,hw.2];simp
 show wpAny _ _ (if(((bL items.size 0 lo:Nat):Int)==0&&(1:Int)==1&&(bL items.size items.size hi-bL items.size 0 lo)==items.size)=true then _ else _) _ _ s;rw[UA hyes];refine Uu ?_;unfold Builtin.Tuple.tupleIsExact;exact Uu (Y_ ht.typeIs (UK (Uu (Xf (UK ⟨_,rfl,UK h⟩)))))
end
end HT
namespace L3
open PySem L2
open PySem.Spec hiding items?
open PyProof.Rows hiding St
abbrev DO:=bo->af->(Option Int->af->Prop)->Prop
def jW:DO:=λ _ st K=>K none st
def lF(t:DE):DO:=λ σ st K=>t σ st λ d st1=>match d with| .int i=>K (some i) st1|_=>False
def cutD(xs:List D)(lo hi:Option Int):List D:=(xs.drop (HT.bL xs.length 0 lo)).take (HT.bL xs.length xs.length hi-HT.bL xs.length 0 lo)
def AR(d:D)(lo hi:Option Int)(st:af)(K:DK):Prop:=match d with
 | .lst xs=>K (.lst (cutD xs lo hi)) st
 | .tup xs=>K (.tup (cutD xs lo hi)) st
 | .ref n=>(match st[n]? with|some (.lst xs)=>K (.lst (cutD xs lo hi)) st|_=>False)
 |_=>False
@[irreducible] def l5:D->Option Int->Option Int->af->DK->Prop:=AR
def kQ(t:DE)(lo hi:DO):DE:=λ σ st K=>t σ st λ d st1=>lo σ st1 λ l st2=>hi σ st2 λ u st3=>l5 d l u st3 K
theorem tP{α:List (Option Addr)}{G:Hp}{xs:List D}{vs:List V}{lo hi:Option Int}(r:aE α G xs vs):aE α G (cutD xs lo hi) (pe vs lo hi):=by
 unfold cutD pe;rw[<-r.length];exact aO.mpr (sS _ (tu _ (aO.mp r)))
def Uo(α:List (Option Addr))(G F:Hp)(K:Option Int->af->Prop)(Q:Option Int->Hp->Prop):Prop:=∀o st',K o st'->∀α' G' H',Step α G α' G'->bZ G' F H'->aX α' st' G'->Q o H'
inductive SF(t:DO)(σ:L2.St)(H:Hp)(Q:Option Int->Hp->Prop):Prop
 |mk (α:List (Option Addr)) (σd:bo) (st:af) (K:Option Int->af->Prop) (G F:Hp) (P:bZ G F H) (R:dD α G σd σ) (S:aX α st G) (h:t σd st K) (k:Uo α G F K Q):SF t σ H Q
def LO(t:DO):TO:=SF t
section
variable {X:Cx}
theorem PO.imp{e:Option Expr}{t t':TO}(h:PO X e t)(f:∀σ H Q,t' σ H Q->t σ H Q):PO X e t':=λ pins s σ H Q I q=>h pins s σ H Q I (f σ H Q q)
theorem MB:PO X none (LO jW):=PO.imp Ms λ σ H Q ⟨α,σd,st,K,G,F,P,R,S,t,k⟩=>k none st t α G H Step.refl P S
theorem LD{e:Expr}{te:DE}(h:PE X e (LE te)):PO X (some e) (LO (lF te)):=PO.imp (MP h) λ σ H Q ⟨α,σd,st,K,G,F,P,R,S,t,k⟩=>by
 refine⟨α,σd,st,_,G,F,P,R,S,t,λ d st1 q α1 G1 H1 v s1 P1 S1 r1=>?_⟩;cases d<;>try exact q.elim
 unfold Rep at r1;exact⟨_,r1,k _ st1 q α1 G1 H1 s1 P1 S1⟩
def Ul(x:V)(lo hi:Option Int)(H:Hp)(Q:VK):Prop:=∃α d st K G F,bZ G F H/\Rep α G d x/\aX α st G/\l5 d lo hi st K/\LK α G F K Q
theorem MC:Gb X (λ x lo hi H Q=>∃a xs,x= .ref a/\H a=some (.tup xs)/\((HT.bL xs.length 0 lo=0/\HT.bL xs.length xs.length hi=xs.length)->Q (.ref a) H)/\(¬(HT.bL xs.length 0 lo=0/\HT.bL xs.length xs.length hi=xs.length)->∀p,H p=none->Q (.ref p) (upd H p (.tup (pe xs lo hi))))):=by
 intro pins s σ H x v vl vu lo hi sl Q I rx hs pl pu h;obtain⟨a,xs,rfl,hx,q1,q2⟩:=h;by_cases hw:HT.bL xs.length 0 lo=0/\HT.bL xs.length xs.length hi=xs.length
 . cases rx;obtain⟨ao,r,ht,hz⟩:=I.tuple (hJ.of hx);have hlen:ao.toArray.size=xs.length:=by rw[UI];exact r.length.symm
   exact⟨"tuple",_,VH.lookup,ht.typeIs,HT.qi ht hs pl pu (by rw[hlen];exact hw) ⟨.ref a,H,I,rfl,q1 hw⟩⟩
 . exact Oy pins s σ H _ v vl vu lo hi sl Q I rx hs pl pu ⟨a,xs,rfl,.of hx,hw,q2 hw⟩
theorem HA{xs:List D}{lo hi:Option Int}(hw:HT.bL xs.length 0 lo=0/\HT.bL xs.length xs.length hi=xs.length):cutD xs lo hi=xs:=by
 unfold cutD;rw[hw.1,hw.2];simp
theorem OB:Gb X Ul:=by
 intro pins s σ H x v vl vu lo hi sl Q I rx hs pl pu ⟨α,d,st,K,G,F',P,r1,S,q,k⟩;unfold l5 AR at q;cases d<;>try exact q.elim
 . rename_i n;simp only at q;split at q
   . rename_i xs e;obtain⟨a,ea,vs,h1,h2⟩:=S.fG e;have r1':=cW ea r1;subst r1';exact Cp pins s σ H _ v vl vu lo hi sl Q I rx hs pl pu ⟨a,vs,rfl,.inl (.of (P.get h1)),λ p hp=>k.lst P q S (tP h2) hp⟩
   . exact q.elim
 . unfold Rep at r1;obtain⟨a,vs,rfl,na,ha,ra⟩:=r1;exact Cp pins s σ H _ v vl vu lo hi sl Q I rx hs pl pu ⟨a,vs,rfl,.inl (eP P ha),λ p hp=>k.lst P q S (tP ra) hp⟩
 . rename_i xs;have r0:=r1;unfold Rep at r1;obtain⟨a,vs,rfl,na,ha,ra⟩:=r1;refine MC pins s σ H _ v vl vu lo hi sl Q I rx hs pl pu ⟨a,vs,rfl,P.get ha,λ hw=>?_,λ _ p hp=>k.tup P q S (tP ra) hp⟩;rw[<-ra.length]at hw;simp only at q;rw[HA hw]at q;exact k.here P q S r0
theorem LZ{e:Expr}{lo hi:Option Expr}{te:DE}{tl th:DO}{p2 pos:Pos}(he:PE X e (LE te))(hl:PO X lo (LO tl))(hh:PO X hi (LO th)):PE X (.Subscript e (.Slice lo hi none p2) pos) (LE (kQ te tl th)):=PE.imp (IC OB he hl hh) λ σ H Q ⟨α,σd,st,K,G,F,P,R,S,t,k⟩=>by
 refine⟨α,σd,st,_,G,F,P,R,S,t,λ d st1 q α1 G1 H1 v s1 P1 S1 r1=>?_⟩;refine⟨α1,σd,st1,_,G1,F,P1,R.step s1,S1,q,λ l st2 q2 α2 G2 H2 s2 P2 S2=>?_⟩;refine⟨α2,σd,st2,_,G2,F,P2,(R.step s1).step s2,S2,q2,λ u st3 q3 α3 G3 H3 s3 P3 S3=>?_⟩;exact⟨α3,d,st3,K,G3,F,P3,(r1.step s2).step s3,S3,q3,((k.at s1).at s2).at s3⟩
@[irreducible] def JO(X:Cx)(e:Option Expr)(t:DO):Prop:=PO X e (LO t)
theorem oQ:JO X none jW:=by unfold JO;exact MB
theorem oM{e:Expr}{te:DE}(h:JE X e te):JO X (some e) (lF te):=by unfold JO;unfold JE at h;exact LD h
theorem lN{e:Expr}{lo hi:Option Expr}{te:DE}{tl th:DO}{p2 pos:Pos}(he:JE X e te)(hl:JO X lo tl)(hh:JO X hi th):JE X (.Subscript e (.Slice lo hi none p2) pos) (kQ te tl th):=by unfold JE at*;unfold JO at*;exact LZ he hl hh
end
theorem Gi{st:af}{K:DK}{xs:List D}{lo hi:Option Int}(k:K (.lst (cutD xs lo hi)) st):l5 (.lst xs) lo hi st K:=by unfold l5;exact k
theorem kN{st:af}{K:DK}{xs:List D}{lo hi:Option Int}{n:Nat}(h:st[n]?=some (.lst xs))(k:K (.lst (cutD xs lo hi)) st):l5 (.ref n) lo hi st K:=by unfold l5 AR;simp only[h];exact k
section
variable {prog:Program}{w:World}{A:Around}{E:Value->Shared->Prop}{s:Shared}
theorem EC{iT tp:Addr}{n:Nat}{ao:Array Value}{v:Value}{Q:Value->Shared->Prop}(hI:s.heap.IsTupleIter iT tp n)(hT:s.heap.IsTuple tp ao)(hv:ao[n]?=some v)
 (q:∀g,g.IsTupleIter iT tp (n+1)->Heap.SameBut iT s.heap g->Q v {s with heap:=g}):wpAny (model prog w) A (Builtin.SmallTypes.nextOf (.ref iT)) Q E s:=by
 obtain⟨oI,eI,cI,dI⟩:=id hI;obtain⟨oT,eT,_,nT,dT⟩:=hT;unfold Builtin.SmallTypes.nextOf;refine Uu (VI (name:=Str.ofString "__next__") hI.typeIs Wz (Wb Wz hI.typeIs Yc ?_ (XY _)));show wpAny _ _ (field (.ref iT) 0 >>= _) _ _ s;refine Uu (Vj eI dI (x:= .ref tp) rfl ?_);show wpAny _ _ (if(Value.ref tp==Value.none)=true then _ else _) _ _ s;rw[Uy (show¬((Value.ref tp==Value.none)=true)from Vv)];show wpAny _ _ (field (.ref iT) 1 >>= _) _ _ s;refine Uu (Vj eI dI (x:= .int n 0) rfl ?_);show wpAny _ _ (seqItems? (.ref tp) >>= _) _ _ s;refine Uu (Vq eT dT ?_);simp only[U_,hv];refine Uu (wpAny_setField eI dI (by simp) (UK ⟨v,rfl,UK (q _ ?_ (XT ..))⟩));refine⟨_,Xy _ eI (Obj.isFreed_of_fields (Obj.data_mapFields dI _)),(Obj.cls_mapFields ..).trans cI,?_⟩;rw[Obj.data_mapFields dI];simp[rawInt]
theorem GL{iT tp:Addr}{n:Nat}{ao:Array Value}{Q:Value->Shared->Prop}(hh:A.handled=none)(hI:s.heap.IsTupleIter iT tp n)(hT:s.heap.IsTuple tp ao)(hv:ao[n]?=none)
 (q:∀g e,Heap.ExtBut iT s.heap g->(∃o,g.get? e=some o/\o.cls= .type "StopIteration")->E (.ref e) {s with heap:=g}):wpAny (model prog w) A (Builtin.SmallTypes.nextOf (.ref iT)) Q E s:=by
 obtain⟨oI,eI,cI,dI⟩:=id hI;obtain⟨oT,eT,_,nT,dT⟩:=hT;unfold Builtin.SmallTypes.nextOf;refine Uu (VI (name:=Str.ofString "__next__") hI.typeIs Wz (Wb Wz hI.typeIs Yc ?_ (XY _)));show wpAny _ _ (field (.ref iT) 0 >>= _) _ _ s;refine Uu (Vj eI dI (x:= .ref tp) rfl ?_);show wpAny _ _ (if(Value.ref tp==Value.none)=true then _ else _) _ _ s;rw[Uy (show¬((Value.ref tp==Value.none)=true)from Vv)];show wpAny _ _ (field (.ref iT) 1 >>= _) _ _ s;refine Uu (Vj eI dI (x:= .int n 0) rfl ?_);show wpAny _ _ (seqItems? (.ref tp) >>= _) _ _ s;refine Uu (Vq eT dT ?_);simp only[U_,hv];refine Uu (Xf (Uu (wpAny_setField eI dI (by simp) ?_)));show wpAny _ _ (newExc (.type "StopIteration") [] >>= _) _ _ _;refine Uu ?_;simp only[newExc,newTuple];refine Uu (Wk ?_ (by size_fits));refine Uu (m:=firstArgMember _ _) (wpAny_of_eq (a:=Value.none) (by first|rfl|(simp only[firstArgMember];rfl)) ?_);refine Wk ?_ (by size_fits);simp only[raiseNew];refine Uu (wpAny_handled ?_);first|rw[show A.in1.handled=none from hh]|rw[hh]
 refine Uu (UK (wpAny_throw ?_));exact q _ _ (((XT ..).extBut.push _).push _) ⟨_,UO _ rfl,rfl⟩
end
section
variable {st:af}{K:DK}{i j:Int}{b c:Bool}{xs ys:List D}{d e:D}{n:Nat}
theorem eqT(h:i=j)(k:K (.bl true) st):fi (.int i) (.int j) st K:=y_ (by rw[VA h];exact k)
theorem Li(h:i≠j)(k:K (.bl false) st):fi (.int i) (.int j) st K:=y_ (by rw[UX h];exact k)
theorem eq2(h1:i=j->K (.bl true) st)(h2:i≠j->K (.bl false) st):fi (.int i) (.int j) st K:=by
 by_cases h:i=j
 . exact eqT h (h1 h)
 . exact Li h (h2 h)
theorem neT(h:i≠j)(k:K (.bl true) st):oz (.int i) (.int j) st K:=yY (by rw[UX h];exact k)
theorem Kk(h:i=j)(k:K (.bl false) st):oz (.int i) (.int j) st K:=yY (by rw[VA h];exact k)
theorem ne2(h1:i≠j->K (.bl true) st)(h2:i=j->K (.bl false) st):oz (.int i) (.int j) st K:=by
 by_cases h:i=j
 . exact Kk h (h2 h)
 . exact neT h (h1 h)
theorem T8(h:i<j)(k:K (.bl true) st):mm (.int i) (.int j) st K:=yX (by rw[VA h];exact k)
theorem Uh(h:j<=i)(k:K (.bl false) st):mm (.int i) (.int j) st K:=yX (by rw[UX (by lia)];exact k)
theorem C6(h1:i<j->K (.bl true) st)(h2:j<=i->K (.bl false) st):mm (.int i) (.int j) st K:=by
 by_cases h:i<j
 . exact T8 h (h1 h)
 . exact Uh (by lia) (h2 (by lia))
theorem Ua(h:j<i)(k:K (.bl true) st):tj (.int i) (.int j) st K:=Kj (by rw[VA h];exact k)
theorem Ub(h:i<=j)(k:K (.bl false) st):tj (.int i) (.int j) st K:=Kj (by rw[UX (by lia)];exact k)
theorem Og(h1:j<i->K (.bl true) st)(h2:i<=j->K (.bl false) st):tj (.int i) (.int j) st K:=by
 by_cases h:j<i
 . exact Ua h (h1 h)
 . exact Ub (by lia) (h2 (by lia))
theorem R8(h:j<=i)(k:K (.bl true) st):u4 (.int i) (.int j) st K:=K5 (by rw[VA h];exact k)
theorem SN(h:i<j)(k:K (.bl false) st):u4 (.int i) (.int j) st K:=K5 (by rw[UX (by lia)];exact k)
theorem TZ(h1:j<=i->K (.bl true) st)(h2:i<j->K (.bl false) st):u4 (.int i) (.int j) st K:=by
 by_cases h:j<=i
 . exact R8 h (h1 h)
 . exact SN (by lia) (h2 (by lia))
theorem R6{P:Prop}(h:xs.length<=1000)(k:P):xs.length<=sizeLine/\P:=⟨by rw[Vy];lia,k⟩
theorem bz{m:Nat}(h:m<=1000):m<=sizeLine:=by rw[Vy];lia
theorem vT(h0:0<=i)(e:xs[i.toNat]?=some d):di xs i=some d:=by
 have:=dg e;rw[W7 h0]at this;exact this
theorem O1{m:Nat}(h0:0<=i)(h:i.toNat<m):jE m i=some i.toNat:=by
 unfold jE;have:i<(m:Int):=by lia
 simp[h0,this]
end
theorem dR{tg:dZ}{body:DS}{ok:af->Prop}{E:ie}(I:List D->bo->af->Prop)(hend:∀σ st,I [] σ st->ok st/\E.nx σ st)
 (hstep:∀x xs σ st,I (x::xs) σ st->(∀σ' st',I xs σ' st'->gT tg body ok E xs σ' st')->ok st/\∃σ1,tg x σ=some σ1/\body {E with nx:=gT tg body ok E xs,ct:=gT tg body ok E xs,bk:=E.nx} σ1 st):
 ∀xs σ st,I xs σ st->gT tg body ok E xs σ st
 | [],σ,st,h=>by unfold gT;exact hend σ st h
 |x::xs,σ,st,h=>by unfold gT;exact hstep x xs σ st h λ σ' st' h'=>dR I hend hstep xs σ' st' h'
theorem gS{tg:dZ}{c:DT}{te:DE}{ok:af->Prop}{σc:bo}{K:List D->af->Prop}(I:List D->List D->af->Prop)(hend:∀acc st,I [] acc st->ok st/\K acc st)
 (hstep:∀x xs acc st,I (x::xs) acc st->(∀acc' st',I xs acc' st'->cM tg c te ok σc xs acc' st' K)->ok st/\∃σ2,tg x σc=some σ2/\c σ2 st λ b st1=>if b=true then te σ2 st1 λ y st2=>cM tg c te ok σc xs (acc++[y]) st2 K else cM tg c te ok σc xs acc st1 K):
 ∀xs acc st,I xs acc st->cM tg c te ok σc xs acc st K
 | [],acc,st,h=>by unfold cM;exact hend acc st h
 |x::xs,acc,st,h=>by unfold cM;exact hstep x xs acc st h λ acc' st' h'=>gS I hend hstep xs acc' st' h'
theorem comp_map{tg:dZ}{te:DE}{ok:af->Prop}{σc:bo}{st:af}{K:List D->af->Prop}{g:D->D}(aC:ok st)(xs:List D)(hx:∀x∈xs,∀K',K' (g x) st->∃σ2,tg x σc=some σ2/\te σ2 st K')(k:K (xs.map g) st):cM tg ba te ok σc xs [] st K:=by
 refine gS (λ r acc st'=>st'=st/\(∀x∈r,x∈xs)/\acc++r.map g=xs.map g) (λ acc st' h=>?_) (λ x r acc st' h next=>?_) xs [] st ⟨rfl,λ _ h=>h,rfl⟩
 . obtain⟨rfl,_,e⟩:=h;rw[Za,VZ]at e;rw[e];exact⟨aC,k⟩
 . obtain⟨rfl,hm,e⟩:=h;obtain⟨σ2,e2,q⟩:=hx x (hm x UZ) (λ y st2=>cM tg ba te ok σc r (acc++[y]) st2 K) (next _ _ ⟨rfl,λ z hz=>hm z (UQ _ hz),by rw[<-e];simp⟩);exact⟨aC,σ2,e2,q⟩
theorem CI{A B:DS}{E:ie}{σ:bo}{st:af}(J:bo->af->Prop)(h:∀nx,(∀σ' st',J σ' st'->nx σ' st')->A {E with nx:=nx} σ st)(k:∀σ' st',J σ' st'->B E σ' st'):aw A B E σ st:=h (B E) k
def OK(n:Nat)(K:DK)(y:D)(st2:af):Prop:=∃y',[y]=[y']/\(match st2[n]? with|some (.lst xs)=>xs.length<sizeLine/\K .ay (st2.set n (.lst (xs++[y'])))|_=>False)
theorem gz{n:Nat}{K:DK}{y:D}{st:af}{xs:List D}(e:st[n]?=some (.lst xs))(h:xs.length<sizeLine)(k:K .ay (st.set n (.lst (xs++[y])))):OK n K y st:=by
 refine⟨y,rfl,?_⟩;simp only[e];exact⟨h,k⟩
@[irreducible] def dY(to te:DE):DE:=oS to te
theorem iY{σ:bo}{st:af}{K:DK}{i n:Nat}{xs:List D}{te:DE}(ei:σ[i]?=some (some (.ref n)))(e:st[n]?=some (.lst xs))(h:te σ st (OK n K)):dY (aa i) te σ st K:=by
 unfold dY oS aa;simp only[ei,e];exact h
theorem xg{X:Cx}{o e:Expr}{to te:DE}{apos cpos:Pos}(ho:JE X o to)(he:JE X e te)(hbase:attributeBase o "append" X.env (eval o X.env)=eval o X.env:=by rfl)(hline:(apos.endLine==cpos.line)=true:=by rfl)(hs:notStar e=true:=by rfl):JE X (.Call (.Attribute o "append" apos) [e] [] cpos) (dY to te):=by
 unfold dY;exact Ju ho he hbase hline hs
section
variable {X:Cx}
end
structure Src(P:Program)(w:World)(t a:Addr)(J:Nat->Heap->Prop)(us:Array Value):Prop where
 fr:∀n g k,J n g->(∀b,b=t\/b=a->∀o,g.get? b=some o->k.get? b=some o)->J n k
 lv:∀n g,J n g->(∃o,g.get? t=some o)/\∃o,g.get? a=some o
 nx:∀n (A:Around) (s:Shared) (Q:Value->Shared->Prop) (E:Value->Shared->Prop) v,J n s.heap->us[n]?=some v->(∀k,J (n+1) k->Heap.SameBut t s.heap k->Q v {s with heap:=k})->wpAny (model P w) A (Builtin.SmallTypes.nextOf (.ref t)) Q E s
 en:∀n (A:Around) (s:Shared) (Q:Value->Shared->Prop) (E:Value->Shared->Prop),A.handled=none->J n s.heap->us[n]?=none->(∀k e,Heap.ExtBut t s.heap k->(∃o,k.get? e=some o/\o.cls= .type "StopIteration")->E (.ref e) {s with heap:=k})->wpAny (model P w) A (Builtin.SmallTypes.nextOf (.ref t)) Q E s
section
variable {P:Program}{w:World}
theorem src_list(t a:Addr)(hne:a≠t)(us:Array Value):Src P w t a (λ n g=>g.IsListIter t a n/\g.IsList a us) us where
 fr:=λ n g k j kp=>⟨j.1.at λ o e=>kp t (.inl rfl) o e,j.2.at λ o e=>kp a (.inr rfl) o e⟩
 lv:=λ n g j=>⟨let⟨o,e,_⟩:=j.1;⟨o,e⟩,let⟨o,e,_⟩:=j.2;⟨o,e⟩⟩
 nx:=λ n A s Q E v j hv q=>wpAny_nextOf_list_item j.1 j.2 hv λ k jk sb=>q k ⟨jk,j.2.extBut sb.extBut hne⟩ sb
 en:=λ n A s Q E hh j hv q=>wpAny_nextOf_list_end hh j.1 j.2 hv q
theorem LM(t a:Addr)(hne:a≠t)(us:Array Value):Src P w t a (λ n g=>g.IsTupleIter t a n/\g.IsTuple a us) us where
 fr:=λ n g k j kp=>by
  obtain⟨⟨o,e,r⟩,⟨o2,e2,r2⟩⟩:=j;exact⟨⟨o,kp t (.inl rfl) o e,r⟩,⟨o2,kp a (.inr rfl) o2 e2,r2⟩⟩
 lv:=λ n g j=>⟨let⟨o,e,_⟩:=j.1;⟨o,e⟩,let⟨o,e,_⟩:=j.2;⟨o,e⟩⟩
 nx:=λ n A s Q E v j hv q=>EC j.1 j.2 hv λ k jk sb=>q k ⟨jk,j.2.extBut sb.extBut hne⟩ sb
 en:=λ n A s Q E hh j hv q=>GL hh j.1 j.2 hv q
theorem Src.ext{t a c:Addr}{J:Nat->Heap->Prop}{us:Array Value}(S:Src P w t a J us){n:Nat}{g k:Heap}(j:J n g)(x:Heap.ExtBut c g k)(h1:c≠t)(h2:c≠a):J n k:=
 S.fr n g k j λ b hb o e=>x b o (by rcases hb with rfl|rfl;exact UD h1;exact UD h2) e
structure C8(z ti to t1 t2 a1 a2:Addr):Prop where
 nd: [z,ti,to,t1,t2].Nodup
 a1:a1∉[z,ti,to,t1,t2]
 a2:a2∉[z,ti,to,t1,t2]
section
variable {z ti to t1 t2 a1 a2:Addr}
theorem C8.n(D:C8 z ti to t1 t2 a1 a2):(ti≠z/\to≠z/\t1≠z/\t2≠z)/\(ti≠to/\ti≠t1/\ti≠t2)/\(to≠t1/\to≠t2)/\t1≠t2:=by
 have:=D.nd;simp only[WN,UT,Xq,UW,VE,WK,List.nodup_nil]at this;obtain⟨⟨b1,b2,b3,b4⟩,⟨b5,b6,b7⟩,⟨b8,b9⟩,b10⟩:=this;exact⟨⟨UD b1,UD b2,UD b3,UD b4⟩,⟨b5,b6,b7⟩,⟨b8,b9⟩,b10⟩
theorem Fm{A:Around}{s:Shared}{E:Value->Shared->Prop}{J1 J2:Nat->Heap->Prop}{us vs:Array Value}{n:Nat}{x y a b:Value}{Q:Value->Shared->Prop}(D:C8 z ti to t1 t2 a1 a2)(S1:Src P w t1 a1 J1 us)(S2:Src P w t2 a2 J2 vs)
 (Z:IsZip s.heap z ti to .none) (pI:IsPair s.heap ti (.ref t1) (.ref t2)) (pO:IsPair s.heap to a b) (j1:J1 n s.heap) (j2:J2 n s.heap) (ex:us[n]?=some x) (ey:vs[n]?=some y)
 (q:∀k,IsZip k z ti to (rawInt s.heap.objs.size)->IsPair k to x y->J1 (n+1) k->J2 (n+1) k->IsPair k s.heap.objs.size x y->k.objs.size=s.heap.objs.size+1->
   (∀c o,c≠z->c≠to->c≠t1->c≠t2->s.heap.get? c=some o->k.get? c=some o)->Q (.ref s.heap.objs.size) {s with heap:=k}):
 wpAny (model P w) A (Builtin.«zip.__next__» ⟨[.ref z],[]⟩) (λ fin s'=>∃v,fin= .done (.ret v)/\Q v s') E s:=by
 obtain⟨⟨n1,n2,n3,n4⟩,⟨n5,n6,n7⟩,⟨n8,n9⟩,n10⟩:=D.n;have m1:=D.a1;have m2:=D.a2;simp only[UT,Xq,UW,VE,WK]at m1 m2;show wpAny _ _ (field (.ref z) 2 >>= _) _ _ _;refine Uu (Vj Z rfl (x:= .bool false) rfl ?_);show wpAny _ _ (field (.ref z) 3 >>= _) _ _ _;refine Uu (Vj Z rfl (x:= .ref ti) rfl ?_);refine Uu (Vq pI rfl ?_);show wpAny _ _ (Builtin.SmallTypes.ownedTupleIsFree (.ref z) >>= _) _ _ _;refine Uu ?_;unfold Builtin.SmallTypes.ownedTupleIsFree;refine Uu (Vj Z rfl (x:= .none) rfl (UK ?_));simp only[Wx];refine Uu (Xf ?_);refine Uu (Vj Z rfl (x:= .ref to) rfl ?_);refine Uu (Vn Z (by simp) λ k1 Z1 b1=>?_);replace Z1:IsZip k1 z ti to .ellipsis:=Z1;refine Uu ?_;simp only[Xu,XD,W9,Xg];refine Uu (Uu (Wa ?_));show wpAny _ _ (Builtin.SmallTypes.nextOf (.ref t1) >>= _) _ _ _;refine Uu (S1.nx n _ _ _ _ x (S1.ext j1 b1.extBut (UD n3) (UD m1.1)) ex λ k2 j1b b2=>UK ?_);have pO2:IsPair k2 to a b:=b2.extBut _ _ n8 (b1.extBut _ _ n2 pO);refine Uu (Vq pO2 rfl ?_);refine Uu (XE pO2 λ k3 pO3 b3=>?_);replace pO3:IsPair k3 to x b:=pO3;refine Uu (WT (UK ?_));refine Uu (Uu (Wa ?_));show wpAny _ _ (Builtin.SmallTypes.nextOf (.ref t2) >>= _) _ _ _;have j2c:J2 n k3:=S2.ext (S2.ext (S2.ext j2 b1.extBut (UD n4) (UD m2.1)) b2.extBut n10 (UD m2.2.2.2.1)) b3.extBut n9 (UD m2.2.2.1);refine Uu (S2.nx n _ _ _ _ y j2c ey λ k4 j2d b4=>UK ?_);have pO4:IsPair k4 to x b:=b4.extBut _ _ n9 pO3;refine Uu (Vq pO4 rfl ?_);refine Uu (XE pO4 λ k5 pO5 b5=>?_);replace pO5:IsPair k5 to x y:=pO5;refine Uu (WT (UK (UK ?_)));refine Uu (Vq pO5 rfl ?_);refine Uu (wpAny_newTuple ?_);have sz:k5.objs.size=s.heap.objs.size:=by rw[b5.1,b4.1,b3.1,b2.1,b1.1]
 have Z5:IsZip k5 z ti to .ellipsis:=b5.extBut _ _ (UD n2) (b4.extBut _ _ (UD n4) (b3.extBut _ _ (UD n2) (b2.extBut _ _ (UD n3) Z1)));have kp5:∀c o,c≠z->c≠to->c≠t1->c≠t2->s.heap.get? c=some o->k5.get? c=some o:=λ c o c1 c2 c3 c4 e=>b5.extBut _ _ c2 (b4.extBut _ _ c4 (b3.extBut _ _ c2 (b2.extBut _ _ c3 (b1.extBut _ _ c1 e))));have j1e:J1 (n+1) k5:=S1.ext (S1.ext (S1.ext j1b b3.extBut n8 (UD m1.2.2.1)) b4.extBut (UD n10) (UD m1.2.2.2.2)) b5.extBut n8 (UD m1.2.2.1);have j2e:J2 (n+1) k5:=S2.ext j2d b5.extBut n9 (UD m2.2.2.1);have ltz:z<k5.objs.size:=UN Z5;show wpAny _ _ (Builtin.SmallTypes.ownedTupleHandOut (.ref z) (.ref k5.objs.size) >>= _) _ _ _;refine Uu ?_;unfold Builtin.SmallTypes.ownedTupleHandOut;have Z6:IsZip (k5.push {cls:= .type "tuple",data:= .seq #[x,y]}) z ti to .ellipsis:=Uv _ Z5;refine Uu (Vn Z6 (by simp) λ k7 Z7 b7=>?_);replace Z7:IsZip k7 z ti to (rawInt k5.objs.size):=Z7;refine Vn Z7 (by simp) λ k8 Z8 b8=>?_;replace Z8:IsZip k8 z ti to (rawInt k5.objs.size):=Z8;have up:∀c o,c≠z->k5.get? c=some o->k8.get? c=some o:=λ c o c1 e=>b8.extBut _ _ c1 (b7.extBut _ _ c1 (Uv _ e));have pT:IsPair k8 k5.objs.size x y:=b8.extBut _ _ (WG ltz) (b7.extBut _ _ (WG ltz) (UO _ rfl));have sz8:k8.objs.size=k5.objs.size+1:=by rw[b8.1,b7.1,Vm]
 rw[sz]at Z8 pT sz8;refine UK ⟨_,rfl,?_⟩;show Q (.ref k5.objs.size) _;rw[sz];refine q k8 Z8 (up _ _ n2 pO5) (S1.fr _ _ _ j1e λ b hb o e=>up b o ?_ e) (S2.fr _ _ _ j2e λ b hb o e=>up b o ?_ e) pT sz8 λ c o c1 c2 c3 c4 e=>up c o c1 (kp5 c o c1 c2 c3 c4 e)
 . rcases hb with rfl|rfl
   . exact n3
   . exact m1.1
 . rcases hb with rfl|rfl
   . exact n4
   . exact m2.1
theorem H0{A:Around}{s:Shared}{E:Value->Shared->Prop}{J1 J2:Nat->Heap->Prop}{us vs:Array Value}{n:Nat}{a b:Value}{Q:Fin->Shared->Prop}(hh:A.handled=none)(D:C8 z ti to t1 t2 a1 a2)(S1:Src P w t1 a1 J1 us)(S2:Src P w t2 a2 J2 vs)
 (Z:IsZip s.heap z ti to .none) (pI:IsPair s.heap ti (.ref t1) (.ref t2)) (pO:IsPair s.heap to a b) (j1:J1 n s.heap) (j2:J2 n s.heap) (he:us[n]?=none\/vs[n]?=none)
 (q:∀k e,(∀c o,c≠z->c≠to->c≠t1->c≠t2->s.heap.get? c=some o->k.get? c=some o)->(∃o,k.get? e=some o/\o.cls= .type "StopIteration")->E (.ref e) {s with heap:=k}):
 wpAny (model P w) A (Builtin.«zip.__next__» ⟨[.ref z],[]⟩) Q E s:=by
 obtain⟨⟨n1,n2,n3,n4⟩,⟨n5,n6,n7⟩,⟨n8,n9⟩,n10⟩:=D.n;have m1:=D.a1;have m2:=D.a2;simp only[UT,Xq,UW,VE,WK]at m1 m2;show wpAny _ _ (field (.ref z) 2 >>= _) _ _ _;refine Uu (Vj Z rfl (x:= .bool false) rfl ?_);show wpAny _ _ (field (.ref z) 3 >>= _) _ _ _;refine Uu (Vj Z rfl (x:= .ref ti) rfl ?_);refine Uu (Vq pI rfl ?_);show wpAny _ _ (Builtin.SmallTypes.ownedTupleIsFree (.ref z) >>= _) _ _ _;refine Uu ?_;unfold Builtin.SmallTypes.ownedTupleIsFree;refine Uu (Vj Z rfl (x:= .none) rfl (UK ?_));simp only[Wx];refine Uu (Xf ?_);refine Uu (Vj Z rfl (x:= .ref to) rfl ?_);refine Uu (Vn Z (by simp) λ k1 Z1 b1=>?_);replace Z1:IsZip k1 z ti to .ellipsis:=Z1;refine Uu ?_;simp only[Xu,XD,W9,Xg];refine Uu (Uu (Wa ?_));show wpAny _ _ (Builtin.SmallTypes.nextOf (.ref t1) >>= _) _ _ _;have j1a:J1 n k1:=S1.ext j1 b1.extBut (UD n3) (UD m1.1);cases ex:us[n]? with
 |none=>
  refine Uu (S1.en n _ _ _ _ hh j1a ex λ k2 e b2 hx=>?_);obtain⟨oe,he1,he2⟩:=hx;have Z2:IsZip k2 z ti to .ellipsis:=b2 _ _ (UD n3) Z1;have hez:e≠z:=λ c=>by subst c;rw[Z2]at he1;cases he1;simp at he2
  refine Vn Z2 (by simp) λ k3 _ b3=>q k3 e (λ c o c1 _ c3 _ f=>b3.extBut _ _ c1 (b2 _ _ c3 (b1.extBut _ _ c1 f))) ⟨oe,b3.extBut _ _ hez he1,he2⟩
 |some x=>
  have ey:vs[n]?=none:=by
   rcases he with h|h
   . rw[ex]at h;cases h
   . exact h
  refine Uu (S1.nx n _ _ _ _ x j1a ex λ k2 j1b b2=>UK ?_);have pO2:IsPair k2 to a b:=b2.extBut _ _ n8 (b1.extBut _ _ n2 pO);refine Uu (Vq pO2 rfl ?_);refine Uu (XE pO2 λ k3 pO3 b3=>?_);refine Uu (WT (UK ?_));refine Uu (Uu (Wa ?_));show wpAny _ _ (Builtin.SmallTypes.nextOf (.ref t2) >>= _) _ _ _;have j2c:J2 n k3:=S2.ext (S2.ext (S2.ext j2 b1.extBut (UD n4) (UD m2.1)) b2.extBut n10 (UD m2.2.2.2.1)) b3.extBut n9 (UD m2.2.2.1);refine Uu (S2.en n _ _ _ _ hh j2c ey λ k4 e b4 hx=>?_);obtain⟨oe,he1,he2⟩:=hx;have Z4:IsZip k4 z ti to .ellipsis:=b4 _ _ (UD n4) (b3.extBut _ _ (UD n2) (b2.extBut _ _ (UD n3) Z1));have hez:e≠z:=λ c=>by subst c;rw[Z4]at he1;cases he1;simp at he2
  refine Vn Z4 (by simp) λ k5 _ b5=>q k5 e (λ c o c1 c2 c3 c4 f=>b5.extBut _ _ c1 (b4 _ _ c4 (b3.extBut _ _ c2 (b2.extBut _ _ c3 (b1.extBut _ _ c1 f))))) ⟨oe,b5.extBut _ _ hez he1,he2⟩
end
end
theorem Kc{X:Cx}{pins:List (Addr×Obj)}{σ:L2.St}{H:Hp}{s:Shared}{g:Heap}{tk:Nat}{fp:List Addr}{T:Addr}{xs:List V}(I:Inv X pins σ H s)(hf:∀b∈fp,kh X pins H b)
 (k:∀b o,b∉fp->s.heap.get? b=some o->g.get? b=some o) (hT:s.heap.objs.size<=T) (new:df X.prog X.w (upd H T (.tup xs)) g T (.tup xs)):Inv X pins σ (upd H T (.tup xs)) {s with heap:=g,toks:=tk}:=by
 have hn:H T=none:=I.aC.fresh hT;have nfp:∀b u,H b=some u->b∉fp:=λ b u e z=>by rw[(hf b z).1]at e;cases e
 have nT:∀b u,H b=some u->b≠T:=λ b u e=>d7 e hn
 refine I.step (g':=s.gens) (d':=s.drawn) (ch:=fp) (λ b hb=>?_) (λ b o _ _ hc e _=>k b o hc e) (λ b o _ _ hc e _=>⟨o.slots,k b o hc e⟩) (λ b o _ e n=>?_) (λ b o hc e=>⟨o,k b o hc e⟩)
  (λ b ys e=>by rw[aF (nT b _ e)];exact e) (λ b o u e=>by rw[aF (nT b _ e)];exact e) (λ b ps e=>⟨#[],by rw[aF (nT b _ e),e];simp⟩) (λ m hm=>?_) (λ b u e=>?_) I.bare
 . obtain⟨f0,f1,f2,f3,f4,f5⟩:=hf b hb;exact⟨f3,f1,f4,f5⟩
 . rw[aF (Vg (UY (UN e) hT))];exact n
 . obtain⟨o,es,ep,ho,r⟩:=hm;exact⟨o,es,ep,k _ o (λ z=>(hf _ z).2.1 rfl) ho,r⟩
 . by_cases hb:b=T
   . subst hb;rw[a_]at e;cases e;exact new
   . rw[aF hb]at e;refine(I.aC b u e).rE (λ c v hc q=>k c v ?_ q) (λ c q=>by rw[aF (nT c _ q)];exact q) λ c ys q=>by rw[aF (nT c _ q)];exact q
     rcases hc with z|z
     . rw[z];exact nfp b u e
     . exact nfp c _ z
theorem J8{X:Cx}{pins:List (Addr×Obj)}{σ:L2.St}{H:Hp}{s:Shared}{g:Heap}{tk:Nat}{fp:List Addr}(I:Inv X pins σ H s)(hf:∀b∈fp,kh X pins H b)
 (k:∀b o,b∉fp->s.heap.get? b=some o->g.get? b=some o):Inv X pins σ H {s with heap:=g,toks:=tk}:=by
 have nfp:∀b u,H b=some u->b∉fp:=λ b u e z=>by rw[(hf b z).1]at e;cases e
 refine I.step (g':=s.gens) (d':=s.drawn) (ch:=fp) (λ b hb=>?_) (λ b o _ _ hc e _=>k b o hc e) (λ b o _ _ hc e _=>⟨o.slots,k b o hc e⟩) (λ b o _ e n=>n) (λ b o hc e=>⟨o,k b o hc e⟩)
  (λ b ys e=>e) (λ b o u e=>e) (λ b ps e=>⟨#[],by rw[e];simp⟩) (λ m hm=>?_) (λ b u e=>?_) I.bare
 . obtain⟨f0,f1,f2,f3,f4,f5⟩:=hf b hb;exact⟨f3,f1,f4,f5⟩
 . obtain⟨o,es,ep,ho,r⟩:=hm;exact⟨o,es,ep,k _ o (λ z=>(hf _ z).2.1 rfl) ho,r⟩
 . refine(I.aC b u e).rE (λ c v hc q=>k c v ?_ q) (λ c q=>q) λ c ys q=>q;rcases hc with z|z
   . rw[z];exact nfp b u e
   . exact nfp c _ z
inductive SK where
 |l|t
def jF(k:SK)(K:PySem.W.Frag)(H:Hp)(a:Addr)(xs:List V):Prop:=match k with
 | .l=>kH K H a xs
 | .t=>hJ K H a xs
def mL(k:SK)(t a:Addr)(n:Nat)(g:Heap):Prop:=match k with
 | .l=>g.IsListIter t a n
 | .t=>g.IsTupleIter t a n
def gc(k:SK)(g:Heap)(a:Addr)(us:Array Value):Prop:=match k with
 | .l=>g.IsList a us
 | .t=>g.IsTuple a us
def nj(k:SK)(a:Addr):Obj:=match k with
 | .l=>{cls:= .type "list_iterator",data:= .fields #[.ref a,.int 0 0]}
 | .t=>{cls:= .type "tuple_iterator",data:= .fields #[.ref a,.int 0 0]}
theorem kq{P:Program}{w:World}(k:SK)(t a:Addr)(hne:a≠t)(us:Array Value):Src P w t a (λ n g=>mL k t a n g/\gc k g a us) us:=by
 cases k
 . exact src_list t a hne us
 . exact LM t a hne us
theorem fD{X:Cx}{pins:List (Addr×Obj)}{σ:L2.St}{H:Hp}{s:Shared}{k:SK}{a:Addr}{xs:List V}(I:Inv X pins σ H s)(h:jF k X.K H a xs):∃ao:List Value,Vals xs ao/\gc k s.heap a ao.toArray:=by
 cases k
 . obtain⟨ao,rv,p,_⟩:=I.list h;exact⟨ao,rv,p.isList⟩
 . obtain⟨ao,rv,p,_⟩:=I.tuple h;exact⟨ao,rv,p⟩
theorem oN{X:Cx}{pins:List (Addr×Obj)}{σ:L2.St}{H:Hp}{s:Shared}{k:SK}{a:Addr}{xs ys:List V}(I:Inv X pins σ H s)(h:jF k X.K H a xs)(h':jF k X.K H a ys):xs=ys:=by
 cases k
 . exact I.Bi h h'
 . exact I.w9 h h'
theorem qy{P:Program}{w:World}{A:Around}{s:Shared}{E:Value->Shared->Prop}{k:SK}{a:Addr}{us:Array Value}{Q:Value->Shared->Prop}(h:gc k s.heap a us)(q:Q (.ref s.heap.objs.size) {s with heap:=s.heap.push (nj k a)}):wpAny (model P w) A (pyIter (.ref a)) Q E s:=by
 cases k
 . exact WV h q
 . exact wpAny_pyIter_tuple h q
theorem gc.push{k:SK}{g:Heap}{a:Addr}{us:Array Value}(h:gc k g a us)(o:Obj):gc k (g.push o) a us:=by
 cases k
 . obtain⟨o',e,r⟩:=h;exact⟨o',Uv _ e,r⟩
 . obtain⟨o',e,r⟩:=h;exact⟨o',Uv _ e,r⟩
theorem gc.some{k:SK}{g:Heap}{a:Addr}{us:Array Value}(h:gc k g a us):∃o,g.get? a=Option.some o:=by
 cases k
 . obtain⟨o',e,r⟩:=h;exact⟨o',e⟩
 . obtain⟨o',e,r⟩:=h;exact⟨o',e⟩
theorem oV{k:SK}{g h:Heap}{t a:Addr}(e:g.get? t=Option.some (nj k a)):mL k t a 0 g:=by
 cases k
 . exact⟨_,e,rfl,rfl⟩
 . exact⟨_,e,rfl,rfl⟩
theorem iO{k:SK}{t a:Addr}{n:Nat}{g g':Heap}(h:mL k t a n g)(kp:∀o,g.get? t=Option.some o->g'.get? t=Option.some o):mL k t a n g':=by
 cases k
 . obtain⟨o,e,r⟩:=h;exact⟨o,kp o e,r⟩
 . obtain⟨o,e,r⟩:=h;exact⟨o,kp o e,r⟩
theorem gB{k:SK}{t a:Addr}{n:Nat}{g:Heap}(h:mL k t a n g):∃o,g.get? t=Option.some o/\∀v,o.data≠ .cell v:=by
 cases k
 . obtain⟨o,e,c,d⟩:=h;exact⟨o,e,λ v z=>by rw[d]at z;cases z⟩
 . obtain⟨o,e,c,d⟩:=h;exact⟨o,e,λ v z=>by rw[d]at z;cases z⟩
def Sj(K:PySem.W.Frag)(k1 k2:SK)(a1 a2:Addr):It:=
 ⟨λ i H=>∃xs ys x y,jF k1 K H a1 xs/\jF k2 K H a2 ys/\xs[i]?=some x/\ys[i]?=some y,
  λ i H v H'=>∃T x y,H T=none/\v= .ref T/\H'=upd H T (.tup [x,y])/\(∀xs,jF k1 K H a1 xs->xs[i]?=some x)/\∀ys,jF k2 K H a2 ys->ys[i]?=some y,
  λ i H=>∃xs ys,jF k1 K H a1 xs/\jF k2 K H a2 ys/\(xs.length<=i\/ys.length<=i)⟩
def Ra(z ti to t1 t2 a1 a2:Addr)(k1 k2:SK)(i:Nat)(h:Heap):Prop:=IsZip h z ti to .none/\IsPair h ti (.ref t1) (.ref t2)/\(∃a b,IsPair h to a b)/\mL k1 t1 a1 i h/\mL k2 t2 a2 i h
theorem I_{P:Program}{w:World}{K:PySem.W.Frag}{elts:List Expr}{kx:Nat}{pos:Pos}{z ti to t1 t2 a1 a2:Addr}(k1 k2:SK)(D:C8 z ti to t1 t2 a1 a2):
 Turn P w K (.Tuple elts kx pos) (Sj K k1 k2 a1 a2) [z,ti,to,t1,t2] z (Ra z ti to t1 t2 a1 a2 k1 k2) where
 mem:=by simp
 obj:=λ i h st b hb=>by
  obtain⟨Z,pI,⟨a,b',pO⟩,i1,i2⟩:=st;simp only[UT,UW,V3]at hb;rcases hb with rfl|rfl|rfl|rfl|rfl
  . exact⟨_,Z,λ v e=>by cases e⟩
  . exact⟨_,pI,λ v e=>by cases e⟩
  . exact⟨_,pO,λ v e=>by cases e⟩
  . exact gB i1
  . exact gB i2
 keep:=λ i h h' st k=>by
  obtain⟨Z,pI,⟨a,b',pO⟩,i1,i2⟩:=st;exact⟨k z (by simp) _ Z,k ti (by simp) _ pI,⟨a,b',k to (by simp) _ pO⟩,iO i1 (k t1 (by simp)),iO i2 (k t2 (by simp))⟩
 item:=by
  intro X hP hw hK hc i pins s σ H E I hf st hg;subst hP hw hK;obtain⟨Z,pI,⟨a,b',pO⟩,i1,i2⟩:=st;obtain⟨xs,ys,x,y,q1,q2,ex,ey⟩:=hg;obtain⟨us,r1,l1⟩:=fD I q1;obtain⟨vs,r2,l2⟩:=fD I q2;obtain⟨u,eu,ru⟩:=r1.get ex;obtain⟨v,ev,rv⟩:=r2.get ey;have m1:=D.a1;have m2:=D.a2;simp only[UT,Xq,UW,VE,WK]at m1 m2;obtain⟨⟨n1,n2,n3,n4⟩,⟨n5,n6,n7⟩,⟨n8,n9⟩,n10⟩:=D.n;have tz:s.TypeIs (.ref z) "zip":=⟨_,Z,rfl⟩
  unfold pyNext;refine Uu (Yh (VI (name:=Str.ofString "__next__") tz Wf (Wb Wf tz Xv (Fm D (kq k1 t1 a1 m1.2.2.2.1 us.toArray) (kq k2 t2 a2 m2.2.2.2.2 vs.toArray) Z pI pO ⟨i1,l1⟩ ⟨i2,l2⟩ (x:=u) (y:=v) (by simpa using eu) (by simpa using ev) λ k Z2 pO2 j1 j2 pT szk kp=>UK ⟨_,rfl,?_⟩) (Xm _))));refine Yw (s:={s with heap:=k}) Z2 λ k' Z3 b3=>?_;have hT:s.heap.objs.size≠z:=WG (UN Z)
  have kp3:∀b o,b∉[z,ti,to,t1,t2]->s.heap.get? b=some o->k'.get? b=some o:=λ b o hb e=>by
   simp only[UT,Xq,UW,VE,WK]at hb;exact b3.extBut _ _ hb.1 (kp b o hb.1 hb.2.2.1 hb.2.2.2.1 hb.2.2.2.2 e)
  refine⟨.ref s.heap.objs.size,upd H s.heap.objs.size (.tup [x,y]),Kc (s:=s) (tk:=s.toks) I hf kp3 (UB _) ?_,rfl,⟨s.heap.objs.size,x,y,I.aC.fresh (UB _),rfl,rfl,?_,?_⟩,?_,?_⟩
  . refine⟨UE rfl,[u,v],.cons ru (.cons rv .nil),?_⟩;exact⟨_,b3.extBut _ _ hT pT,rfl,_,rfl⟩
  . intro xs' q';rw[oN I q' q1];exact ex
  . intro ys' q';rw[oN I q' q2];exact ey
  . refine⟨Z3,b3.extBut _ _ n1 (kp _ _ n1 n5 n6 n7 pI),⟨_,_,b3.extBut _ _ n2 pO2⟩,iO j1.1 λ o e=>b3.extBut _ _ n3 e,iO j2.1 λ o e=>b3.extBut _ _ n4 e⟩
  . intro b hb
    have:b≠s.heap.objs.size:=by
     obtain⟨o,e,_⟩:∃o,s.heap.get? b=some o/\True:=by
      simp only[UT,UW,V3]at hb;rcases hb with rfl|rfl|rfl|rfl|rfl
      . exact⟨_,Z,trivial⟩
      . exact⟨_,pI,trivial⟩
      . exact⟨_,pO,trivial⟩
      . obtain⟨o,e,_⟩:=gB i1;exact⟨o,e,trivial⟩
      . obtain⟨o,e,_⟩:=gB i2;exact⟨o,e,trivial⟩
     exact Vg (UN e)
    rw[aF this];exact(hf b hb).1
 done:=by
  intro X hP hw hK hc i pins s σ H E I hf st hg;subst hP hw hK;obtain⟨Z,pI,⟨a,b',pO⟩,i1,i2⟩:=st;obtain⟨xs,ys,q1,q2,he⟩:=hg;obtain⟨us,r1,l1⟩:=fD I q1;obtain⟨vs,r2,l2⟩:=fD I q2;have e1:=r1.length;have e2:=r2.length;have m1:=D.a1;have m2:=D.a2;simp only[UT,Xq,UW,VE,WK]at m1 m2;have tz:s.TypeIs (.ref z) "zip":=⟨_,Z,rfl⟩
  unfold pyNext;refine Uu (Yh (VI (name:=Str.ofString "__next__") tz Wf (Wb Wf tz Xv (H0 (I.ok.hd hc) D (kq k1 t1 a1 m1.2.2.2.1 us.toArray) (kq k2 t2 a2 m2.2.2.2.2 vs.toArray) Z pI pO ⟨i1,l1⟩ ⟨i2,l2⟩ ?_ λ k e kp hx=>?_) (Xm _))))
  . rcases he with h|h
    . left;simp;lia
    . right;simp;lia
  . obtain⟨o,ho,hc2⟩:=hx;refine Uu (wpAny_isInstance (T:="StopIteration") (b:=true) ⟨o,ho,hc2⟩ isSubtype_stop ?_);refine UK ⟨rfl,J8 (s:=s) (tk:=s.toks) I hf λ b o hb e=>?_⟩;simp only[UT,Xq,UW,VE,WK]at hb;exact kp b o hb.1 hb.2.2.1 hb.2.2.2.1 hb.2.2.2.2 e
 self:=λ _ _ _ _ _ st h=>Xw st.1 h
abbrev zq(h:Heap)(k1:SK)(a1:Addr):Heap:=h.push (nj k1 a1)
abbrev xZ(h:Heap)(k1 k2:SK)(a1 a2:Addr):Heap:=(zq h k1 a1).push (nj k2 a2)
abbrev KO(h:Heap)(k1 k2:SK)(a1 a2:Addr):Heap:=(xZ h k1 k2 a1 a2).push {cls:= .type "tuple",data:= .seq #[.ref h.objs.size,.ref (zq h k1 a1).objs.size]}
abbrev Lh(h:Heap)(k1 k2:SK)(a1 a2:Addr):Heap:=(KO h k1 k2 a1 a2).push {cls:= .type "tuple",data:= .seq #[.none,.none]}
abbrev Cv(h:Heap)(k1 k2:SK)(a1 a2:Addr):Heap:=(Lh h k1 k2 a1 a2).push {cls:= .type "zip",data:= .fields #[.none,.bool false,.bool false,.ref (xZ h k1 k2 a1 a2).objs.size,.ref (KO h k1 k2 a1 a2).objs.size]}
theorem HB(k1 k2:SK)(a1 a2:Addr)(us vs:Array Value):Meets (Builtin.«zip.__new__» ⟨[.type "zip",.ref a1,.ref a2],[]⟩) (λ _ R s=>gc k1 s.heap a1 us/\gc k2 s.heap a2 vs/\
 R (.ok (.ret (.ref (Lh s.heap k1 k2 a1 a2).objs.size))) {s with heap:=Cv s.heap k1 k2 a1 a2}):=
 .of_wp λ P w A R s h=>by
  obtain⟨hp,g,d,tk,os⟩:=s;obtain⟨c1,c2,h⟩:=h;have hsub:=sub_zip;have L1:gc k1 (Shared.heap ⟨hp,g,d,tk,os⟩) a1 us:=c1;have L2:gc k2 (Shared.heap ⟨hp.push (nj k1 a1),g,d,tk,os⟩) a2 vs:=gc.push c2 _
  wp_walk using qy L1,qy L2
  exact⟨_,rfl,h⟩
theorem Jj{P:Program}{w:World}{A:Around}{s:Shared}{E:Value->Shared->Prop}{k1 k2:SK}{a1 a2:Addr}{us vs:Array Value}{Q:Value->Shared->Prop}(c1:gc k1 s.heap a1 us)(c2:gc k2 s.heap a2 vs)
 (q:∀g n,n=s.heap.objs.size->IsZip g (n+4) (n+2) (n+3) .none->IsPair g (n+2) (.ref n) (.ref (n+1))->IsPair g (n+3) .none .none->mL k1 n a1 0 g->mL k2 (n+1) a2 0 g->(∀c o,s.heap.get? c=some o->g.get? c=some o)->Q (.ref (n+4)) {s with heap:=g}):
 wpAny (model P w) A (call (.type "zip") [.ref a1,.ref a2]) Q E s:=by
 refine callType_new F.called_zip (by decide) (F.typeCall_zip_2 _ _) (F.newCall_zip_2 _ _) (λ ob=>F.args_object_init_3 ob _ _) F.entry_zip_new (HB k1 k2 a1 a2 us vs) ⟨c1,c2,?_⟩;have y1:(zq s.heap k1 a1).objs.size=s.heap.objs.size+1:=Vm ..;have y2:(xZ s.heap k1 k2 a1 a2).objs.size=s.heap.objs.size+2:=by rw[Vm,y1]
 have y3:(KO s.heap k1 k2 a1 a2).objs.size=s.heap.objs.size+3:=by rw[Vm,y2]
 have y4:(Lh s.heap k1 k2 a1 a2).objs.size=s.heap.objs.size+4:=by rw[Vm,y3]
 have e5:(Cv s.heap k1 k2 a1 a2).get? (Lh s.heap k1 k2 a1 a2).objs.size=some _:=UO _ rfl;have e4:(Cv s.heap k1 k2 a1 a2).get? (KO s.heap k1 k2 a1 a2).objs.size=some _:=Uv _ (UO _ rfl);have e3:(Cv s.heap k1 k2 a1 a2).get? (xZ s.heap k1 k2 a1 a2).objs.size=some _:=Uv _ (Uv _ (UO _ rfl));have e2:(Cv s.heap k1 k2 a1 a2).get? (zq s.heap k1 a1).objs.size=some (nj k2 a2):=Uv _ (Uv _ (Uv _ (UO _ (by cases k2<;>rfl))));have e1:(Cv s.heap k1 k2 a1 a2).get? s.heap.objs.size=some (nj k1 a1):=Uv _ (Uv _ (Uv _ (Uv _ (UO _ (by cases k1<;>rfl)))));show _/\_;rw[y2,y3,y4]at e5;rw[y1,y2]at e3;rw[y3]at e4;rw[y1]at e2;rw[y4];exact⟨⟨_,e5,rfl⟩,q _ _ rfl e5 e3 e4 (oV (h:=s.heap) e1) (oV (h:=s.heap) e2) λ c o x=>Uv _ (Uv _ (Uv _ (Uv _ (Uv _ x))))⟩
def C7:D->SK
 | .tup _=> .t
 |_=> .l
def zE(k:SK)(G:Hp)(a:Addr)(vs:List V):Prop:=match k with
 | .l=>Rd G a (.lst vs)
 | .t=>G a=some (.tup vs)
theorem eO{K:PySem.W.Frag}{k:SK}{G F H:Hp}(P:bZ G F H){a:Addr}{vs:List V}(h:zE k G a vs):jF k K H a vs:=by
 cases k
 . exact .inl (eP P h)
 . exact hJ.of (P.get h)
theorem gD{α:List (Option Addr)}{H:Hp}{st:af}{d:D}{v:V}{xs:List D}(S:aX α st H)(r:Rep α H d v)(e:items? st d=some xs):∃p vs,v= .ref p/\aE α H xs vs/\zE (C7 d) H p vs:=by
 cases d<;>try(cases e;done)
 . unfold items? at e;simp only at e;split at e
   . rename_i ys q;cases e;obtain⟨a,ea,vs,h1,h2⟩:=S.fG q;exact⟨a,vs,cW ea r,h2,Rd.of h1⟩
   . cases e
 . cases e;unfold Rep at r;obtain⟨a,vs,rfl,_,h1,h2⟩:=r;exact⟨a,vs,rfl,h2,h1⟩
 . cases e;unfold Rep at r;obtain⟨a,vs,rfl,_,h1,h2⟩:=r;exact⟨a,vs,rfl,h2,h1⟩
def dJ(xs ys:List D):List D:=(xs.zip ys).map λ p=> .tup [p.1,p.2]
theorem g8{xs ys:List D}:(dJ xs ys).length=min xs.length ys.length:=by unfold dJ;simp
theorem tW{xs ys:List D}{n:Nat}{d:D}(e:(dJ xs ys)[n]?=some d):∃x y,xs[n]?=some x/\ys[n]?=some y/\d= .tup [x,y]:=by
 unfold dJ at e;rw[UM]at e;cases q:(xs.zip ys)[n]? with
 |none=>rw[q]at e;cases e
 |some p=>
  rw[q]at e;cases e;rw[Yx]at q;exact⟨p.1,p.2,q.1,q.2,rfl⟩
theorem NU{K:PySem.W.Frag}{k1 k2:SK}{a1 a2:Addr}{α:List (Option Addr)}{G:Hp}{ok:af->Prop}{xs ys:List D}
 (h:∀α' G' st',Step α G α' G'->aX α' st' G'->ok st'->∃vs ws,zE k1 G' a1 vs/\zE k2 G' a2 ws/\aE α' G' xs vs/\aE α' G' ys ws):ur (Sj K k1 k2 a1 a2) α G ok (dJ xs ys) where
 stop:=λ n α' G' F' H' st' s P S o hn=>by
  obtain⟨vs,ws,h1,h2,r1,r2⟩:=h α' G' st' s S o;rw[g8]at hn;refine⟨vs,ws,eO P h1,eO P h2,?_⟩;have:=r1.length;have:=r2.length;lia
 go:=λ n d α' G' F' H' st' s P S o hn=>by
  obtain⟨vs,ws,h1,h2,r1,r2⟩:=h α' G' st' s S o;obtain⟨x,y,ex,ey,rfl⟩:=tW hn;obtain⟨v,ev,_⟩:=r1.get ex;obtain⟨u,eu,_⟩:=r2.get ey;exact⟨vs,ws,v,u,eO P h1,eO P h2,ev,eu⟩
 m7:=λ n d α' G' F' H' st' x H'' s P S o hn y=>by
  obtain⟨vs,ws,h1,h2,r1,r2⟩:=h α' G' st' s S o;obtain⟨c,e,ec,ee,rfl⟩:=tW hn;obtain⟨T,v,u,hT,rfl,rfl,y1,y2⟩:=y;obtain⟨v',ev,rv⟩:=r1.get ec;obtain⟨u',eu,ru⟩:=r2.get ee;rw[y1 vs (eO P h1)]at ev;rw[y2 ws (eO P h2)]at eu;cases ev;cases eu;have hg:=(P.none hT).1;refine⟨upd G' T (.tup [v,u]),Step.laid hg,P.laid hT,S.laid hg,?_⟩;unfold Rep;refine⟨T,[v,u],rfl,S.nv hg,a_,?_⟩;unfold aE;refine⟨v,[u],rfl,rv.step (Step.laid hg),?_⟩;unfold aE;exact⟨u,[],rfl,ru.step (Step.laid hg),by unfold aE;rfl⟩
def IW(ds:List D)(st1:af)(K:List D->(af->Prop)->af->Prop):Prop:=match ds with
 | [x,y]=>(match items? st1 x,items? st1 y with
   |some xs,some ys=>K (dJ xs ys) (λ st'=>items? st' x=some xs/\items? st' y=some ys) st1
   |_,_=>False)
 |_=>False
@[irreducible] def uW:List D->af->(List D->(af->Prop)->af->Prop)->Prop:=IW
def ki(t:DA):DI:=λ σ st K=>t σ st λ ds st1=>uW ds st1 K
theorem Nn{n a1 a2:Nat}(h1:a1<n)(h2:a2<n):C8 (n+4) (n+2) (n+3) n (n+1) a1 a2:=by
 have e0:([n+4,n+2,n+3,n,n+1]:List Nat).Nodup:=by
  simp only[WN,UT,Xq,UW,VE,WK,List.nodup_nil];lia
 have e1:∀a:Nat,a<n->a∉([n+4,n+2,n+3,n,n+1]:List Nat):=λ a ha=>by
  simp only[UT,Xq,UW,VE,WK];lia
 exact⟨e0,e1 a1 h1,e1 a2 h2⟩
theorem PF{X:Cx}{a b:Expr}{elts:List Expr}{kx:Nat}{tpos p pos:Pos}{t:DA}(hg:Gl X "zip")(hm:X.mg "zip"=none)(ha:PA X [a,b] (LA t))(hs:starEach [a,b] X.env=[(false,eval a X.env),(false,eval b X.env)])(hs2:starEach [b] X.env=[(false,eval b X.env)]):
 PI X (.Tuple elts kx tpos) (.Call (.Name "zip" p) [a,b] [] pos) (LI (ki t)):=by
 intro pins s σ H R I h;obtain⟨α,σd,st,K,G,F,P,RS,S,t,k⟩:=h;refine Call_ (kO I hg hm boot_zip (VT (br (ha pos pins s σ H (λ vs H1=>∃ds α1 G1 st1,Step α G α1 G1/\bZ G1 F H1/\aX α1 st1 G1/\aE α1 G1 ds vs/\uW ds st1 K) I ⟨α,σd,st,_,G,F,P,RS,S,t,λ ds st1 q α1 G1 H1 vs s1 P1 S1 r1=>⟨ds,α1,G1,st1,s1,P1,S1,r1,q⟩⟩) λ us s1 ⟨vs,H1,I1,rv,ds,α1,G1,st1,w1,P1,S1,r1,q⟩=>?_) (by rw[hs,hs2]) (by rw[hs2];rfl)));unfold uW IW at q;split at q
 . rename_i x y;split at q
   . rename_i xs ys ex ey;obtain⟨v1,v2,rfl,q1,q2⟩:=mT r1 rfl;obtain⟨p1,vs1,rfl,g1,c1⟩:=gD S1 q1 ex;obtain⟨p2,vs2,rfl,g2,c2⟩:=gD S1 q2 ey;obtain⟨u1,u2,rfl,ru1,ru2⟩:=vals2 rv;cases ru1;cases ru2;obtain⟨its1,_,l1⟩:=fD I1 (eO P1 c1);obtain⟨its2,_,l2⟩:=fD I1 (eO P1 c2);refine Jj l1 l2 λ g n hn Z pI pO i1 i2 kp=>?_;obtain⟨o1,eo1⟩:=l1.some;obtain⟨o2,eo2⟩:=l2.some;refine Xw (s:={s1 with heap:=g}) Z ?_;refine⟨n+4,[n+4,n+2,n+3,n,n+1],_,_,H1,rfl,I1.kept (t':=s1.toks) kp,I_ (C7 x) (C7 y) (Nn (by rw[hn];exact UN eo1) (by rw[hn];exact UN eo2)),⟨Z,pI,⟨_,_,pO⟩,i1,i2⟩,λ b hb=>?_,?_⟩
     . have hb':s1.heap.objs.size<=b:=by
        simp only[UT,UW,V3]at hb;rcases hb with rfl|rfl|rfl|rfl|rfl<;>(rw[<-hn];first|exact UB _|exact Nat.le_add_right _ _)
       exact I1.uc hb' (I1.aC.fresh hb')
     . refine k _ _ st1 q _ α1 G1 H1 w1 P1 S1 (NU λ α' G' st' s' S' o=>?_);obtain⟨p1',ws1,e1,f1,d1⟩:=gD S' (q1.step s') o.1;obtain⟨p2',ws2,e2,f2,d2⟩:=gD S' (q2.step s') o.2;cases e1;cases e2;exact⟨ws1,ws2,d1,d2,f1,f2⟩
   . exact q.elim
 . exact q.elim
theorem iR{st:af}{x y:D}{xs ys:List D}{K:List D->(af->Prop)->af->Prop}(ex:items? st x=some xs)(ey:items? st y=some ys)(k:∀ok:af->Prop,(∀st',items? st' x=some xs->items? st' y=some ys->ok st')->K (dJ xs ys) ok st):uW [x,y] st K:=by
 unfold uW IW;simp only[ex,ey];exact k _ λ st' h1 h2=>⟨h1,h2⟩
theorem yQ{X:Cx}{a b:Expr}{elts:List Expr}{kx:Nat}{tpos p pos:Pos}{ar:DA}(hg:Gl X "zip")(hm:X.mg "zip"=none)(ha:JA X [a,b] ar)(hs:notStar a=true:=by rfl)(hs2:notStar b=true:=by rfl):JI X (.Tuple elts kx tpos) (.Call (.Name "zip" p) [a,b] [] pos) (ki ar):=by
 unfold JI;unfold JA at ha;exact PF hg hm ha (by rw[cv hs,cv hs2];rfl) (cv hs2)
theorem Bj(f:Nat->Int):∀n,preSum f (n+1)=f 0+preSum (λ i=>f (i+1)) n
 |0=>by show preSum f 0+f 0=f 0+0;show(0:Int)+f 0=f 0+0;lia
 |n+1=>by
  have h:=Bj f n;show preSum f (n+1)+f (n+1)=f 0+(preSum (λ i=>f (i+1)) n+f (n+1));rw[h];lia
theorem Cs:∀ns:List Int,preSum (λ i=>ns.getD i 0) ns.length=ns.sum
 | []=>rfl
 |n::ns=>by
  rw[Vh,Bj];have:(λ i=>(n::ns).getD (i+1) 0)=λ i=>ns.getD i 0:=by funext i;simp
  rw[this,Cs ns,List.sum_cons];rfl
section
variable {X:Cx}
def yA:eQ:=λ ds st K=>match ds with| [.lst xs]=>(match m_ xs with|some ns=>K (.int ns.sum) st|none=>False)|_=>False
theorem mV:∀ {ns:List Int} {us:List Value},Vals (ns.map V.int) us->∀(i:Nat) (u:Value),us[i]?=some u->∃t,u=Value.int (ns.getD i 0) t
 | [],_,.nil,i,u,e=>by simp at e
 |n::ns,_,.cons h t,0,u,e=>by
  obtain⟨tk,rfl⟩:=h;simp at e;exact⟨tk,by rw[<-e];rfl⟩
 |n::ns,_,.cons h t,i+1,u,e=>by
  obtain⟨tk,q⟩:=mV t i u (by simpa using e);exact⟨tk,by rw[q];simp⟩
theorem Ru(hc:X.calm=true):bF X (.builtin "sum") (fO yA):=λ pins s σ H xs us Q I rs ⟨α,ds,st,K,G,F',P,r,S,q,k⟩=>by
 unfold yA at q;split at q
 . rename_i ys;split at q
   . rename_i ns e;obtain⟨v,rfl,r1⟩:=gH r rfl;unfold Rep at r1;obtain⟨a,vs,rfl,na,h1,h2⟩:=r1;obtain⟨u,rfl,ru⟩:=vals1 rs;cases ru;have hv:=w6 h2 e;subst hv;obtain⟨z,ao,n,rv,hl,eo⟩:=Inv.qE I (eP P h1);have isL:s.heap.IsList a ao.toArray:=⟨_,eo,rfl,n,rfl⟩
     refine call_sum_walkAnyB (WV isL ?_);have hne:a≠s.heap.objs.size:=Vg (UN eo);refine⟨s.heap.objs.size,_,_,_,_,_,_,λ i=>ns.getD i 0,rfl,(Walks.list (A:=X.A.in1) (I.ok.hd hc) _ a hne ao.toArray).toS,⟨⟨_,UO _ rfl,rfl,rfl⟩,⟨_,Uv _ eo,rfl,n,rfl⟩⟩,?_,?_,?_⟩
     . intro b hb;rw[Vm];simp only[UT,UW,V3]at hb;rcases hb with rfl|rfl
       . exact WH _
       . exact Yl (UN eo)
     . intro i w hw;obtain⟨t,e⟩:=mV rv i w (by simpa using hw);exact .inl ⟨t,e⟩
     . intro s' t' hm
       have kp:∀b o,s.heap.get? b=some o->s'.heap.get? b=some o:=λ b o q=>hm.heap b o (by
        intro hb;have:b=s.heap.objs.size:=by simpa using hb
        exact absurd (UN q) (by rw[this];exact Vt _)) (Uv _ q)
       have es:s'= {s with heap:=s'.heap,toks:=s'.toks}:=by
        have g:=hm.gens;have d:=hm.drawn;have o:=hm.os;cases s';cases s
        simp_all
       have en:preSum (λ i=>ns.getD i 0) ao.toArray.size=ns.sum:=by
        have:ao.toArray.size=ns.length:=by rw[UI,<-hl,Uz]
        rw[this];exact Cs ns
       rw[en,es];exact⟨.int ns.sum,H,I.kept (t':=s'.toks) kp,⟨t',rfl⟩,k.here P q S (by unfold Rep;rfl)⟩
   . exact q.elim
 . exact q.elim
@[irreducible] def vU:eQ:=yA
theorem Kq(hc:X.calm=true):bF X (.builtin "sum") (fO vU):=by unfold vU;exact Ru hc
end
theorem IX{P:Program}{w:World}{K:PySem.W.Frag}{mg:Str->Option Value}{base:Heap}{k:Nat}{f:Addr}{fd:FuncData}{ps:List Str}{S:bq}(h:∀ds st K,¬S ds st K):c_ P w K mg base fX k f fd ps (gu S):=
 ⟨λ vs H Q E q=>by obtain⟨α,ds,st,K,G,F,_,_,_,q,_⟩:=q;exact absurd q (h ds st K),λ A outer s H args us vs Q E _ _ _ _ q=>by obtain⟨α,ds,st,K,G,F,_,_,_,q,_⟩:=q;exact absurd q (h ds st K)⟩
theorem ints_map:∀ns:List Int,m_ (ns.map D.int)=some ns
 | []=>rfl
 |n::ns=>by simp[m_,ints_map ns]
theorem NQ{st:af}{K:DK}{xs:List D}{ns:List Int}(h:m_ xs=some ns)(k:K (.int ns.sum) st):vU [.lst xs] st K:=by unfold vU yA;simp only[h];exact k
section
variable {X:Cx}{pos:Pos}
theorem yW{α:List (Option Addr)}{H:Hp}{ds:List D}{xs:List V}{d e f:D}(r:aE α H ds xs)(q:ds=[d,e,f]):∃v u t,xs=[v,u,t]/\Rep α H d v/\Rep α H e u/\Rep α H f t:=by
 subst q;unfold aE at r;obtain⟨v,q,rfl,h1,h2⟩:=r;obtain⟨u,t,rfl,h3,h4⟩:=mT h2 rfl;exact⟨v,u,t,rfl,h1,h3,h4⟩
def oq(i j k:Nat):dZ:=λ d σ=>match d with| .tup [x,y,z]=>some (((σ.set i (some x)).set j (some y)).set k (some z))|_=>none
theorem Jd{tg:Expr}{i j k:Nat}(h:PG X tg (Eu X.K 3 (i7 (fe i) (i7 (fe j) (i7 (fe k) zU))))):PG X tg (LG (oq i j k)):=PG.imp h λ v σ H Q ⟨α,σd,st,d,K,G,F,P,R,S,r,⟨σ',e,q⟩,kk⟩=>by
 unfold oq at e;split at e
 . rename_i x y z;cases e;unfold Rep at r;obtain⟨a,vs,rfl,na,h1,h2⟩:=r;obtain⟨v1,v2,v3,rfl,r1,r2,r3⟩:=yW h2 rfl;exact⟨a,_,rfl,.of (P.get h1),rfl,v1,_,rfl,v2,_,rfl,v3,_,rfl,rfl,kk.here P q (((R.set i r1).set j r2).set k r3) S⟩
 . cases e
theorem Kv{i j k n:Nat}{x y z:Str}{px py pz:Pos}(hc:X.calm=true)(hN:X.N.Nodup)(hx:Loc X.env.scope x:=by first|exact Or.inl rfl|exact Or.inr rfl)(hf:X.fn x=true\/X.env.scope.names.lookup x=some .local:=by first|exact .inl rfl|exact .inr rfl)(hy:Loc X.env.scope y:=by first|exact Or.inl rfl|exact Or.inr rfl)(hg:X.fn y=true\/X.env.scope.names.lookup y=some .local:=by first|exact .inl rfl|exact .inr rfl)(hz:Loc X.env.scope z:=by first|exact Or.inl rfl|exact Or.inr rfl)(hh:X.fn z=true\/X.env.scope.names.lookup z=some .local:=by first|exact .inl rfl|exact .inr rfl)
 (hi:X.N[i]?=some x:=by rfl) (hj:X.N[j]?=some y:=by rfl) (hk:X.N[k]?=some z:=by rfl):JG X (.Tuple [.Name x px,.Name y py,.Name z pz] n pos) (oq i j k):=by
 unfold JG;exact Jd (AI hc (g9 (iD hN hi hx hf) (g9 (iD hN hj hy hg) (g9 (iD hN hk hz hh) wH))))
end
end L3
namespace L3
open PySem L2 PySem.SeqAt
open PySem.Spec hiding items?
open PyProof.Rows hiding St
section
variable {X:Cx}{pins:List (Addr×Obj)}{σ:L2.St}{H:Hp}{s:Shared}{α:List (Option Addr)}
theorem CP{A:Around}{d e:D}{x y:V}{u v:Value}(hd:xR d=true)(he:xR e=true)(rd:Rep α H d x)(re:Rep α H e y)(rx:RelV x u)(ry:RelV y v):RcNeAt A s u v (!cw d e):=by
 cases d<;>cases e<;>try(first|(cases hd;done)|(cases he;done))
 all_goals(unfold Rep at rd re;subst rd re)
 all_goals(first|(obtain⟨t,rfl⟩:=rx;obtain⟨t',rfl⟩:=ry)|(obtain⟨t,rfl⟩:=rx;cases ry)|(cases rx;obtain⟨t,rfl⟩:=ry)|(cases rx;cases ry))
 all_goals unfold cw
 . exact RcNeAt.none_none
 . exact RcNeAt.none_bool _
 . exact RcNeAt.none_int _ _
 . exact RcNeAt.none_str _ _
 . exact RcNeAt.bool_none _
 . exact RcNeAt.bool_bool _ _
 . exact RcNeAt.bool_int _ _ _
 . exact RcNeAt.bool_str _ _ _
 . exact RcNeAt.int_none _ _
 . exact RcNeAt.int_bool _ _ _
 . exact RcNeAt.int_int _ _ _ _
 . exact RcNeAt.int_str _ _ _ _
 . exact RcNeAt.str_none _ _
 . exact RcNeAt.str_bool _ _ _
 . exact RcNeAt.str_int _ _ _ _
 . exact RcNeAt.str_str _ _ _ _
theorem xp(I:Inv X pins σ H s){A:Around}{xs:List D}{e:D}{x y:V}{u v:Value}(he:xR e=true)(rd:Rep α H (.lst xs) x)(re:Rep α H e y)(rx:RelV x u)(ry:RelV y v)(hu:A.units<cLine):
 RcNeAt A s u v (!cw (.lst xs) e)/\RcNeAt A s v u (!cw e (.lst xs)):=by
 obtain⟨a,vs,ao,rfl,_,_,hl⟩:=lst_is I rd rx;cases e<;>try(cases he;done)
 all_goals(unfold Rep at re;subst re)
 all_goals(first|(obtain⟨t,rfl⟩:=ry)|(cases ry))
 all_goals unfold cw
 . exact⟨RcNeAt.list_none hl hu,RcNeAt.none_list hl hu⟩
 . exact⟨RcNeAt.list_bool _ hl hu,RcNeAt.bool_list _ hl hu⟩
 . exact⟨RcNeAt.list_int _ _ hl hu,RcNeAt.int_list _ _ hl hu⟩
 . exact⟨RcNeAt.list_str _ _ hl hu,RcNeAt.str_list _ _ hl hu⟩
theorem xt(I:Inv X pins σ H s){A:Around}{xs:List D}{e:D}{x y:V}{u v:Value}(he:xR e=true)(rd:Rep α H (.tup xs) x)(re:Rep α H e y)(rx:RelV x u)(ry:RelV y v)(hu:A.units<cLine):
 RcNeAt A s u v (!cw (.tup xs) e)/\RcNeAt A s v u (!cw e (.tup xs)):=by
 obtain⟨a,vs,ao,rfl,_,_,hl⟩:=tup_is I rd rx;cases e<;>try(cases he;done)
 all_goals(unfold Rep at re;subst re)
 all_goals(first|(obtain⟨t,rfl⟩:=ry)|(cases ry))
 all_goals unfold cw
 . exact⟨RcNeAt.tuple_none hl hu,RcNeAt.none_tuple hl hu⟩
 . exact⟨RcNeAt.tuple_bool _ hl hu,RcNeAt.bool_tuple _ hl hu⟩
 . exact⟨RcNeAt.tuple_int _ _ hl hu,RcNeAt.int_tuple _ _ hl hu⟩
 . exact⟨RcNeAt.tuple_str _ _ hl hu,RcNeAt.str_tuple _ _ hl hu⟩
theorem J5(I:Inv X pins σ H s)(n:Nat)(A:Around)(d e:D)(x y:V)(u v:Value)(hd:pl n d=true)(he:pl n e=true)(rd:Rep α H d x)(re:Rep α H e y)(rx:RelV x u)(ry:RelV y v)(hu:A.units+n<cLine):RcNeAt A s u v (!cw d e):=by
 cases n with
 |zero=>
  refine CP ?_ ?_ rd re rx ry
  . cases d<;>first|rfl|(cases hd)
  . cases e<;>first|rfl|(cases he)
 |succ n=>
  have hu0:A.units<cLine:=by lia
  have hin:A.in1.units+n<cLine:=by rw[Around.in1_units];lia
  cases d<;>try(cases hd;done)
  case lst xs=>
   cases e<;>try(cases he;done)
   case lst ys=>
    obtain⟨a,vs,ao,rfl,r1,v1,l1⟩:=lst_is I rd rx;obtain⟨b,ws,jts,rfl,r2,v2,l2⟩:=lst_is I re ry;have e1:=r1.length;have e2:=v1.length;have e3:=r2.length;have e4:=v2.length;unfold cw;by_cases hlen:xs.length=ys.length
    . rw[lV hlen];have hsz:ao.toArray.size=jts.toArray.size:=by simp only[UI];lia
      have hx:xs.length=ao.toArray.size:=by simp only[UI];lia
      rw[hx];refine RcNeAt.lists l1 l2 hsz hu0 λ j h1 h2=>?_;obtain⟨p,_,q1,q2⟩:=jy r1 v1 j (by simpa using h1);obtain⟨p',_,q1',q2'⟩:=jy r2 v2 j (by simpa using h2);exact(EM I n A.in1 _ _ p p' _ _ (g6 (by unfold pl at hd;exact hd) j) (g6 (by unfold pl at he;exact he) j) q1 q1' (by simpa using q2) (by simpa using q2') hin).2
    . rw[lX hlen];exact RcNeAt.lists_lengths l1 l2 (by simp only[UI,Yu,ne_eq];lia) hu0
   case tup ys=>
    obtain⟨a,vs,ao,rfl,r1,v1,l1⟩:=lst_is I rd rx;obtain⟨b,ws,jts,rfl,r2,v2,l2⟩:=tup_is I re ry;unfold cw;exact RcNeAt.list_tuple l1 l2 hu0
   all_goals exact(xp I rfl rd re rx ry hu0).1
  case tup xs=>
   cases e<;>try(cases he;done)
   case tup ys=>
    obtain⟨a,vs,ao,rfl,r1,v1,l1⟩:=tup_is I rd rx;obtain⟨b,ws,jts,rfl,r2,v2,l2⟩:=tup_is I re ry;have e1:=r1.length;have e2:=v1.length;have e3:=r2.length;have e4:=v2.length;unfold cw
    have key:=RcNeAt.tuples (e:=λ j=>cw (xs.getD j .ay) (ys.getD j .ay)) l1 l2 hu0 λ j h1 h2=>by
     obtain⟨p,_,q1,q2⟩:=jy r1 v1 j (by simpa using h1);obtain⟨p',_,q1',q2'⟩:=jy r2 v2 j (by simpa using h2);exact(EM I n A.in1 _ _ p p' _ _ (g6 (by unfold pl at hd;exact hd) j) (g6 (by unfold pl at he;exact he) j) q1 q1' (by simpa using q2) (by simpa using q2') hin).2
    by_cases hlen:xs.length=ys.length
    . rw[lV hlen];have hsz:ao.toArray.size=jts.toArray.size:=by simp only[UI];lia
      have hx:xs.length=ao.toArray.size:=by simp only[UI];lia
      rw[hsz,Nat.min_self,Xs,Bool.and_true,<-hsz,<-hx]at key;exact key
    . rw[lX hlen];have hne:(ao.toArray.size==jts.toArray.size)=false:=by simp only[UI,Wn,ne_eq];lia
      rw[hne,YZ]at key;exact key
   case lst ys=>
    obtain⟨a,vs,ao,rfl,r1,v1,l1⟩:=tup_is I rd rx;obtain⟨b,ws,jts,rfl,r2,v2,l2⟩:=lst_is I re ry;unfold cw;exact RcNeAt.tuple_list l1 l2 hu0
   all_goals exact(xt I rfl rd re rx ry hu0).1
  all_goals
   cases e<;>try(cases he;done)
   case lst ys=>exact(xp I rfl re rd ry rx hu0).2
   case tup ys=>exact(xt I rfl re rd ry rx hu0).2
   all_goals exact CP rfl rfl rd re rx ry
def ON:cO:=λ x y st K=>pl 40 x=true/\pl 40 y=true/\K (.bl (!cw x y)) st
theorem Q_{k:Nat}(hr:cB k X.A):bE X (compareOp .NotEq) (LR ON):=λ pins s σ H x y v u Q I rx ry ⟨α,d,e,st,K,G,F',P,r1,r2,S,q,k⟩=>by
 have hu:=hr.units;exact J5 I 40 X.A d e x y v u q.1 q.2.1 (r1.mono P.same) (r2.mono P.same) rx ry (by lia) _ _ _ _ ⟨.bl (!cw d e),H,I,rfl,k.here P q.2.2 S (by unfold Rep;rfl)⟩
@[irreducible] def vM:cO:=ON
theorem KL{k:Nat}(hr:cB k X.A):bE X (compareOp .NotEq) (LR vM):=by unfold vM;exact Q_ hr
end
theorem G8{st:af}{K:DK}{d e:D}(h1:pl 40 d=true)(h2:pl 40 e=true)(k:K (.bl (!cw d e)) st):vM d e st K:=by unfold vM;exact⟨h1,h2,k⟩
theorem xv{st:af}{n:Nat}{xs:List D}(h:items? st (.ref n)=some xs):st[n]?=some (.lst xs):=by
 unfold items? at h;simp only at h;split at h
 . rename_i q;cases h;exact q
 . cases h
theorem fI{st:af}{d:D}{xs:List D}{K:List D->(af->Prop)->af->Prop}(h:items? st d=some xs)(k:∀ok:af->Prop,(∀st',items? st' d=some xs->ok st')->K xs ok st):nK d st K:=by
 cases d with
 |lst ys=>cases h;exact wO (k _ λ _ _=>trivial)
 |tup ys=>cases h;exact ju (k _ λ _ _=>trivial)
 |ref n=>
  have e:=xv h;unfold nK wz;simp only[e];exact k _ λ st' h'=>xv h'
 |_=>cases h
theorem pS{env:Env}:∀(l:List (Str×NameKind)) (x:Str),(l.lookup x=some .cell\/l.lookup x=some .free)->
 ((l.map λ(n,k)=>if(k== .free&&env.scope.kind== .function&&env.kindOf n==some .cell)then(n,.cell)else(n,k)).lookup x=some .cell\/(l.map λ(n,k)=>if(k== .free&&env.scope.kind== .function&&env.kindOf n==some .cell)then(n,.cell)else(n,k)).lookup x=some .free)
 | [],x,h=>by simp at h
 |(n,k)::l,x,h=>by
  rw[Va];dsimp only;by_cases hx:x=n
  . subst hx;rw[Xz]at h;split
    . rw[Xz];exact .inl rfl
    . rw[Xz];exact h
  . have hb:(x==n)=false:=by simpa using hx
    have e1:List.lookup x ((n,k)::l)=List.lookup x l:=by rw[Ve,hb]
    rw[e1]at h;have ih:=pS (env:=env) l x h;split
    . rw[Ve,hb];exact ih
    . rw[Ve,hb];exact ih
theorem cc.Lm{X0:Cx}{scope0 scope:Scope}{Nc0 Nc:List Str}{C:Addr}{s:Shared}{H:Hp}{ex:List Addr}{fr:List (Option Nat)}(h:mG scope0 Nc0 scope Nc fr=true):cc (bY X0 scope0 Nc0 C s H ex) scope Nc fr:=by
 unfold mG at h;simp only[UR]at h;obtain⟨⟨⟨⟨⟨h1,h2⟩,h3⟩,h4⟩,h5⟩,h6⟩:=h;refine⟨by simpa using h1,λ x hx hk=>?_,λ x hx hk=>?_,λ x hx hk=>?_,by simpa using h5,λ i j x e1 e2=>?_⟩
 . have:=UP.mp h2 x hx;rw[hk]at this;simpa using this
 . have:=UP.mp h3 x hx;rw[hk]at this;simpa using this
 . have:=UP.mp h4 x hx;rw[hk]at this;have z:scope0.names.lookup x.1=some .cell\/scope0.names.lookup x.1=some .free:=by simpa using this
   exact pS _ _ z
 . have hi:i<fr.length:=(Uw.mp e2).1;have:=UP.mp h6 i (Vp.mpr hi);rw[e1,e2]at this;simp only[UR,W_,Wq]at this;exact⟨this.1.1,this.1.2,pS _ _ this.2⟩
end L3
namespace L3
open PySem L2
open PySem.Spec hiding items?
open PyProof.Rows hiding St
section
variable {X:Cx}
end
theorem Fs{n:Nat}{d:D}(h:d∈cC 0 n):∃i:Nat,i<n/\d= .int (i:Int):=by
 unfold cC at h;obtain⟨i,hi,rfl⟩:=U6.mp h;rw[Vp]at hi;exact⟨i,hi,by rw[XF]⟩
theorem GO{f:Nat->D}(n:Nat):(cC 0 n).map (λ d=>match d with| .int i=>f i.toNat|_=> .ay)=(List.range n).map f:=by
 unfold cC;rw[Vl];refine Vd λ i _=>?_;show f ((0:Int)+(i:Int)).toNat=f i;have:((0:Int)+(i:Int)).toNat=i:=by lia
 rw[this]
theorem jT{tg:dZ}{te:DE}{σc:bo}{st:af}{K:List D->af->Prop}(f:Nat->D)(n:Nat)(hx:∀i:Nat,i<n->∀K',K' (f i) st->∃σ2,tg (.int (i:Int)) σc=some σ2/\te σ2 st K')(k:K ((List.range n).map f) st):cM tg ba te (λ _=>True) σc (cC 0 n) [] st K:=by
 refine comp_map (g:=λ d=>match d with| .int i=>f i.toNat|_=> .ay) trivial _ (λ d hd K' q=>?_) (by rw[GO];exact k);obtain⟨i,hi,rfl⟩:=Fs hd;exact hx i hi K' q
theorem gN{tg:dZ}{body:DS}{E:ie}(n:Nat)(I:Nat->bo->af->Prop)(hend:∀σ st,I n σ st->E.nx σ st)
 (hstep:∀(j:Nat) σ st (rest:List D),j<n->I j σ st->(∀σ' st',I (j+1) σ' st'->gT tg body (λ _=>True) E rest σ' st')->∃σ1,tg (.int (j:Int)) σ=some σ1/\body {E with nx:=gT tg body (λ _=>True) E rest,ct:=gT tg body (λ _=>True) E rest,bk:=E.nx} σ1 st)
 {σ:bo} {st:af} (h0:I 0 σ st):gT tg body (λ _=>True) E (cC 0 n) σ st:=by
 refine dR (λ rest σ st=>∃j:Nat,j<=n/\rest=(List.range (n-j)).map (λ i=>D.int (((j+i:Nat):Int)))/\I j σ st) ?_ ?_ _ _ _ ⟨0,VP _,by unfold cC;simp,h0⟩
 . rintro σ st ⟨j,hj,hr,hI⟩
   have:n-j=0:=by
    cases q:n-j with
    |zero=>rfl
    |succ m=>rw[q,VV]at hr;cases hr
   have hjn:j=n:=by lia
   subst hjn;exact⟨trivial,hend σ st hI⟩
 . rintro d rest σ st ⟨j,hj,hr,hI⟩ next
   cases q:n-j with
   |zero=>rw[q]at hr;cases hr
   |succ m=>
    rw[q,VV,Va,Vl]at hr;simp only[VL]at hr;obtain⟨rfl,hrest⟩:=hr;refine⟨trivial,hstep j σ st rest (by lia) hI λ σ' st' h'=>next σ' st' ⟨j+1,by lia,?_,h'⟩⟩;have:n-(j+1)=m:=by lia
    rw[this,hrest];refine Vd λ i _=>?_;show D.int (((j+(i+1):Nat):Int))=D.int (((j+1+i:Nat):Int));congr 2;lia
section
variable {X:Cx}
end
abbrev He:=D->bo->af->(bo->af->Prop)->Prop
inductive P9(t:He)(v:V)(σ:L2.St)(H:Hp)(Q:L2.St->Hp->Prop):Prop
 |mk (α:List (Option Addr)) (σd:bo) (st:af) (d:D) (K:bo->af->Prop) (G F:Hp) (P:bZ G F H) (R:dD α G σd σ) (S:aX α st G) (r:Rep α G d v) (h:t d σd st K) (k:LC α G F K Q):P9 t v σ H Q
def Sv(t:He):TG:=P9 t
section
variable {X:Cx}{pos:Pos}
def ER(t:He)(te:DE):DS:=λ E σ st=>te σ st λ d st1=>t d σ st1 E.nx
theorem Nh{s:Stmt}{te:DE}{t:He}(h:PS X s (j0 (LE te) (Sv t))):PS X s (LS (ER t te)):=PS.imp h λ D σ H ⟨α,σd,st,DD,G,F,P,R,S,q,k⟩=>
 ⟨α,σd,st,_,G,F,P,R,S,q,λ d st1 q1 α1 G1 H1 v s1 P1 S1 r1=>⟨α1,σd,st1,d,DD.nx,G1,F,P1,R.step s1,S1,r1,q1,k.nx.at s1⟩⟩
end
section
variable {X:Cx}
theorem wt{M:Model}{A:Around}{E:Value->Shared->Prop}{s:Shared}{Q:Value->Shared->Prop}{x:V}{v:Value}{b:Bool}(r:RelV x v)(h:Q (.bool (!(v== .bool b))) s):wpAny M A (compareOp .IsNot v (.bool b)) Q E s:=by
 cases x
 case bl c=>
  cases r;cases c<;>cases b<;>exact UK h
 all_goals first
  |(cases r;exact UK h)
  |(obtain⟨t,rfl⟩:=r;exact UK h)
def zL:cO:=λ x y st K=>match y with| .ay=>live st x=true/\K (.bl (!Ld x)) st| .bl b=>live st x=true/\K (.bl (!Fc x b)) st|_=>False
theorem IS:bE X (compareOp .IsNot) (LR zL):=λ pins s σ H x y v u Q I rx ry ⟨α,d,e,st,K,G,F',P,r1,r2,S,q,k⟩=>by
 cases e<;>try exact q.elim
 . refine Nq pins s σ H x y v u Q I rx ry ⟨α,d,.ay,st,K,G,F',P,r1,r2,S,⟨q.1,?_⟩,k⟩;have q2:=q.2;cases d<;>exact q2
 . rename_i b;unfold Rep at r2;subst r2;cases ry;refine wt rx ?_;rw[CD S q.1 r1 rx];exact⟨.bl (!Fc d b),H,I,rfl,k.here P q.2 S (by unfold Rep;rfl)⟩
@[irreducible] def vK:cO:=zL
theorem zO:bE X (compareOp .IsNot) (LR vK):=by unfold vK;exact IS
end
section
variable {st:af}{K:DK}{d:D}{b:Bool}
theorem GK(h:live st d=true)(k:K (.bl (!Ld d)) st):vK d .ay st K:=by unfold vK;exact⟨h,k⟩
end
section
variable {X:Cx}
theorem Mw{o i elt:Expr}{gs:List Comprehension}{sc:Scope}{p:Pos}{to ti te:TE}{pos pos':Pos}(he:PE X (.ListComp elt gs sc p) te)(ho:PE X o to)(hi:PE X i ti)(h2:ji i=true:=by rfl):PS X (.Assign [.Subscript o i pos'] (.ListComp elt gs sc p) pos) (j0 te (AX to ti uL)):=
 u5 he (E6 ho hi set_list (by intro v;cases i<;>first|rfl|cases h2)) (by unfold swapsWithSole swapsWith;rfl) rfl rfl
theorem nh{o i elt:Expr}{gs:List Comprehension}{sc:Scope}{p pos pos':Pos}{te to ti:DE}(he:JE X (.ListComp elt gs sc p) te)(ho:JE X o to)(hi:JE X i ti)(h2:ji i=true:=by rfl):JS X (.Assign [.Subscript o i pos'] (.ListComp elt gs sc p) pos) (dm to ti te):=by
 unfold JS;unfold JE at*;exact Aq (Mw he ho hi h2)
end
end L3
namespace L3
open PySem L2
open PySem.Spec hiding items?
open PyProof.Rows hiding St
open AutoSeq1 (wpAny_loadPart')
end L3
namespace L3
open PySem L2
open PySem.Spec hiding items?
open PyProof.Rows hiding St
section
variable {prog:Program}{w:World}{A:Around}{E:Value->Shared->Prop}{s:Shared}
end
section
variable {X:Cx}{tg:Expr}
end
section
variable {X:Cx}
def Kx:cO:=λ x y st K=>match x,y with
 | .lst xs,.lst ys=>xs.length+ys.length<=sizeLine/\K (.ref st.length) (st++[.lst (xs++ys)])
 |_,_=>False
theorem P_:bE X (binaryOp .Add) (LR Kx):=λ pins s σ H x y v u Q I rx ry ⟨α,d,e,st,K,G,F',P,r1,r2,S,q,k⟩=>by
 cases d<;>cases e<;>try exact q.elim
 unfold Rep at r1 r2;obtain⟨a,vs,rfl,na,ha,ra⟩:=r1;obtain⟨b,ws,rfl,nb,hb,rb⟩:=r2;refine vX pins s σ H _ _ v u Q I rx ry ⟨a,b,vs,ws,rfl,rfl,eP P ha,eP P hb,by rw[<-ra.length,<-rb.length];exact q.1,λ p hp=>?_⟩;exact k.new P q.2 S (aO.mpr (dH (aO.mp ra) (aO.mp rb))) hp
@[irreducible] def o_:cO:=Kx
theorem z8:bE X (binaryOp .Add) (LR o_):=by unfold o_;exact P_
end
theorem wj{st:af}{K:DK}{xs ys:List D}(h:xs.length+ys.length<=sizeLine)(k:K (.ref st.length) (st++[.lst (xs++ys)])):o_ (.lst xs) (.lst ys) st K:=by unfold o_;exact⟨h,k⟩
end L3
namespace L3
open PySem L2
open PySem.Spec hiding items?
open PyProof.Rows hiding St
open PySem PySem.Spec L2 PySem.SeqAt
section
variable {X:Cx}
end
end L3
namespace L3
open PySem L2
open PySem.Spec hiding items?
open PyProof.Rows hiding St
section
variable {X:Cx}
theorem Nr{k:Nat}{x:Str}{e:Expr}{te:DE}{pos pos':Pos}(hN:X.N.Nodup)(hx:Loc X.env.scope x)(he:JE X e te)(hsw:swapsWith e (some (.Name x pos')) pos.line X.env=pure false:=by rfl)(hf:X.fn x=true\/X.env.scope.names.lookup x=some .local:=by first|exact .inl rfl|exact .inr rfl)(hi:X.N[k]?=some x:=by rfl):JS X (.Assign [.Name x pos'] e pos) (aJ k te):=by
 unfold JS;unfold JE at he;exact FC (Hu hN hi hx he hsw hf)
end
abbrev eE(h:Heap)(T:Addr)(a b c:Value):Prop:=h.get? T=some {cls:= .type "tuple",data:= .seq #[a,b,c]}
section
variable {P:Program}{w:World}
theorem dN{A:Around}{s:Shared}{E:Value->Shared->Prop}{T:Addr}{a b c x:Value}{k:Nat}{Q:Unit->Shared->Prop}(hT:eE s.heap T a b c)
 (h:∀h',h'.get? T=some {cls:= .type "tuple",data:= .seq ((#[a,b,c]:Array Value).setIfInBounds k x)}->Heap.SameBut T s.heap h'->Q () {s with heap:=h'}):
 wpAny (model P w) A (updateSeq T (·.setIfInBounds k x)) Q E s:=by
 refine wpAny_updateSeq hT rfl (h _ ?_ (XT ..));rw[Xy _ hT rfl];simp[Obj.mapSeq]
structure K6(z ti to t1 t2 t3 a1 a2 a3:Nat):Prop where
 f:(ti≠z/\to≠z/\t1≠z/\t2≠z/\t3≠z)/\(ti≠to/\ti≠t1/\ti≠t2/\ti≠t3)/\(to≠t1/\to≠t2/\to≠t3)/\(t1≠t2/\t1≠t3/\t2≠t3)
 a1:a1≠z/\a1≠to/\a1≠t1/\a1≠t2/\a1≠t3
 a2:a2≠z/\a2≠to/\a2≠t1/\a2≠t2/\a2≠t3
 a3:a3≠z/\a3≠to/\a3≠t1/\a3≠t2/\a3≠t3
section
variable {z ti to t1 t2 t3 a1 a2 a3:Addr}
theorem FG{A:Around}{s:Shared}{E:Value->Shared->Prop}{J1 J2 J3:Nat->Heap->Prop}{us vs ws:Array Value}{n:Nat}{x y u a b c:Value}{Q:Value->Shared->Prop}(D:K6 z ti to t1 t2 t3 a1 a2 a3)(S1:Src P w t1 a1 J1 us)(S2:Src P w t2 a2 J2 vs)(S3:Src P w t3 a3 J3 ws)
 (Z:IsZip s.heap z ti to .none) (pI:eE s.heap ti (.ref t1) (.ref t2) (.ref t3)) (pO:eE s.heap to a b c) (j1:J1 n s.heap) (j2:J2 n s.heap) (j3:J3 n s.heap) (ex:us[n]?=some x) (ey:vs[n]?=some y) (ez:ws[n]?=some u)
 (q:∀k,IsZip k z ti to (rawInt s.heap.objs.size)->eE k to x y u->J1 (n+1) k->J2 (n+1) k->J3 (n+1) k->eE k s.heap.objs.size x y u->k.objs.size=s.heap.objs.size+1->
   (∀c o,c≠z->c≠to->c≠t1->c≠t2->c≠t3->s.heap.get? c=some o->k.get? c=some o)->Q (.ref s.heap.objs.size) {s with heap:=k}):
 wpAny (model P w) A (Builtin.«zip.__next__» ⟨[.ref z],[]⟩) (λ fin s'=>∃v,fin= .done (.ret v)/\Q v s') E s:=by
 obtain⟨⟨n1,n2,n3,n4,n4'⟩,⟨n5,n6,n7,n7'⟩,⟨n8,n9,n9'⟩,n10,n11,n12⟩:=D.f;obtain⟨p1,p2,p3,p4,p5⟩:=D.a1;obtain⟨q1,q2,q3,q4,q5⟩:=D.a2;obtain⟨r1,r2,r3,r4,r5⟩:=D.a3;show wpAny _ _ (field (.ref z) 2 >>= _) _ _ _;refine Uu (Vj Z rfl (x:= .bool false) rfl ?_);show wpAny _ _ (field (.ref z) 3 >>= _) _ _ _;refine Uu (Vj Z rfl (x:= .ref ti) rfl ?_);refine Uu (Vq pI rfl ?_);show wpAny _ _ (Builtin.SmallTypes.ownedTupleIsFree (.ref z) >>= _) _ _ _;refine Uu ?_;unfold Builtin.SmallTypes.ownedTupleIsFree;refine Uu (Vj Z rfl (x:= .none) rfl (UK ?_));simp only[Wx];refine Uu (Xf ?_);refine Uu (Vj Z rfl (x:= .ref to) rfl ?_);refine Uu (Vn Z (by simp) λ k1 Z1 b1=>?_);replace Z1:IsZip k1 z ti to .ellipsis:=Z1;refine Uu ?_;simp only[Xu,XD,W9,Xg];refine Uu (Uu (Wa ?_));show wpAny _ _ (Builtin.SmallTypes.nextOf (.ref t1) >>= _) _ _ _;refine Uu (S1.nx n _ _ _ _ x (S1.ext j1 b1.extBut (UD n3) (UD p1)) ex λ k2 j1b b2=>UK ?_);have pO2:eE k2 to a b c:=b2.extBut _ _ n8 (b1.extBut _ _ n2 pO);refine Uu (Vq pO2 rfl ?_);refine Uu (dN pO2 λ k3 pO3 b3=>?_);replace pO3:eE k3 to x b c:=pO3;refine Uu (WT (UK ?_));refine Uu (Uu (Wa ?_));show wpAny _ _ (Builtin.SmallTypes.nextOf (.ref t2) >>= _) _ _ _;have j2c:J2 n k3:=S2.ext (S2.ext (S2.ext j2 b1.extBut (UD n4) (UD q1)) b2.extBut n10 (UD q3)) b3.extBut n9 (UD q2);refine Uu (S2.nx n _ _ _ _ y j2c ey λ k4 j2d b4=>UK ?_);have pO4:eE k4 to x b c:=b4.extBut _ _ n9 pO3;refine Uu (Vq pO4 rfl ?_);refine Uu (dN pO4 λ k5 pO5 b5=>?_);replace pO5:eE k5 to x y c:=pO5;refine Uu (WT (UK ?_));refine Uu (Uu (Wa ?_));show wpAny _ _ (Builtin.SmallTypes.nextOf (.ref t3) >>= _) _ _ _;have j3c:J3 n k5:=S3.ext (S3.ext (S3.ext (S3.ext (S3.ext j3 b1.extBut (UD n4') (UD r1)) b2.extBut n11 (UD r3)) b3.extBut n9' (UD r2)) b4.extBut n12 (UD r4)) b5.extBut n9' (UD r2);refine Uu (S3.nx n _ _ _ _ u j3c ez λ k6 j3d b6=>UK ?_);have pO6:eE k6 to x y c:=b6.extBut _ _ n9' pO5;refine Uu (Vq pO6 rfl ?_);refine Uu (dN pO6 λ k7 pO7 b7=>?_);replace pO7:eE k7 to x y u:=pO7;refine Uu (WT (UK (UK ?_)));refine Uu (Vq pO7 rfl ?_);refine Uu (wpAny_newTuple ?_);have sz:k7.objs.size=s.heap.objs.size:=by rw[b7.1,b6.1,b5.1,b4.1,b3.1,b2.1,b1.1]
 have kp7:∀c o,c≠z->c≠to->c≠t1->c≠t2->c≠t3->s.heap.get? c=some o->k7.get? c=some o:=λ c o c1 c2 c3 c4 c5 e=>b7.extBut _ _ c2 (b6.extBut _ _ c5 (b5.extBut _ _ c2 (b4.extBut _ _ c4 (b3.extBut _ _ c2 (b2.extBut _ _ c3 (b1.extBut _ _ c1 e))))));have Z7:IsZip k7 z ti to .ellipsis:=b7.extBut _ _ (UD n2) (b6.extBut _ _ (UD n4') (b5.extBut _ _ (UD n2) (b4.extBut _ _ (UD n4) (b3.extBut _ _ (UD n2) (b2.extBut _ _ (UD n3) Z1)))));have j1e:J1 (n+1) k7:=S1.ext (S1.ext (S1.ext (S1.ext (S1.ext j1b b3.extBut n8 (UD p2)) b4.extBut (UD n10) (UD p4)) b5.extBut n8 (UD p2)) b6.extBut (UD n11) (UD p5)) b7.extBut n8 (UD p2);have j2e:J2 (n+1) k7:=S2.ext (S2.ext (S2.ext j2d b5.extBut n9 (UD q2)) b6.extBut (UD n12) (UD q5)) b7.extBut n9 (UD q2);have j3e:J3 (n+1) k7:=S3.ext j3d b7.extBut n9' (UD r2);have ltz:z<k7.objs.size:=UN Z7;show wpAny _ _ (Builtin.SmallTypes.ownedTupleHandOut (.ref z) (.ref k7.objs.size) >>= _) _ _ _;refine Uu ?_;unfold Builtin.SmallTypes.ownedTupleHandOut;have Z8:IsZip (k7.push {cls:= .type "tuple",data:= .seq #[x,y,u]}) z ti to .ellipsis:=Uv _ Z7;refine Uu (Vn Z8 (by simp) λ k9 Z9 b9=>?_);replace Z9:IsZip k9 z ti to (rawInt k7.objs.size):=Z9;refine Vn Z9 (by simp) λ k10 Z10 b10=>?_;replace Z10:IsZip k10 z ti to (rawInt k7.objs.size):=Z10;have up:∀c o,c≠z->k7.get? c=some o->k10.get? c=some o:=λ c o c1 e=>b10.extBut _ _ c1 (b9.extBut _ _ c1 (Uv _ e));have pT:eE k10 k7.objs.size x y u:=b10.extBut _ _ (WG ltz) (b9.extBut _ _ (WG ltz) (UO _ rfl));have sz10:k10.objs.size=k7.objs.size+1:=by rw[b10.1,b9.1,Vm]
 rw[sz]at Z10 pT sz10;refine UK ⟨_,rfl,?_⟩;show Q (.ref k7.objs.size) _;rw[sz];refine q k10 Z10 (up _ _ n2 pO7) (S1.fr _ _ _ j1e λ b hb o e=>up b o ?_ e) (S2.fr _ _ _ j2e λ b hb o e=>up b o ?_ e) (S3.fr _ _ _ j3e λ b hb o e=>up b o ?_ e) pT sz10 λ c o c1 c2 c3 c4 c5 e=>up c o c1 (kp7 c o c1 c2 c3 c4 c5 e)
 . rcases hb with rfl|rfl
   . exact n3
   . exact p1
 . rcases hb with rfl|rfl
   . exact n4
   . exact q1
 . rcases hb with rfl|rfl
   . exact n4'
   . exact r1
theorem IY{A:Around}{s:Shared}{E:Value->Shared->Prop}{J1 J2 J3:Nat->Heap->Prop}{us vs ws:Array Value}{n:Nat}{a b c:Value}{Q:Fin->Shared->Prop}(hh:A.handled=none)(D:K6 z ti to t1 t2 t3 a1 a2 a3)(S1:Src P w t1 a1 J1 us)(S2:Src P w t2 a2 J2 vs)(S3:Src P w t3 a3 J3 ws)
 (Z:IsZip s.heap z ti to .none) (pI:eE s.heap ti (.ref t1) (.ref t2) (.ref t3)) (pO:eE s.heap to a b c) (j1:J1 n s.heap) (j2:J2 n s.heap) (j3:J3 n s.heap) (he:us[n]?=none\/vs[n]?=none\/ws[n]?=none)
 (q:∀k e,(∀c o,c≠z->c≠to->c≠t1->c≠t2->c≠t3->s.heap.get? c=some o->k.get? c=some o)->(∃o,k.get? e=some o/\o.cls= .type "StopIteration")->E (.ref e) {s with heap:=k}):
 wpAny (model P w) A (Builtin.«zip.__next__» ⟨[.ref z],[]⟩) Q E s:=by
 obtain⟨⟨n1,n2,n3,n4,n4'⟩,⟨n5,n6,n7,n7'⟩,⟨n8,n9,n9'⟩,n10,n11,n12⟩:=D.f;obtain⟨p1,p2,p3,p4,p5⟩:=D.a1;obtain⟨q1,q2,q3,q4,q5⟩:=D.a2;obtain⟨r1,r2,r3,r4,r5⟩:=D.a3;show wpAny _ _ (field (.ref z) 2 >>= _) _ _ _;refine Uu (Vj Z rfl (x:= .bool false) rfl ?_);show wpAny _ _ (field (.ref z) 3 >>= _) _ _ _;refine Uu (Vj Z rfl (x:= .ref ti) rfl ?_);refine Uu (Vq pI rfl ?_);show wpAny _ _ (Builtin.SmallTypes.ownedTupleIsFree (.ref z) >>= _) _ _ _;refine Uu ?_;unfold Builtin.SmallTypes.ownedTupleIsFree;refine Uu (Vj Z rfl (x:= .none) rfl (UK ?_));simp only[Wx];refine Uu (Xf ?_);refine Uu (Vj Z rfl (x:= .ref to) rfl ?_);refine Uu (Vn Z (by simp) λ k1 Z1 b1=>?_);replace Z1:IsZip k1 z ti to .ellipsis:=Z1;refine Uu ?_;simp only[Xu,XD,W9,Xg];refine Uu (Uu (Wa ?_));show wpAny _ _ (Builtin.SmallTypes.nextOf (.ref t1) >>= _) _ _ _;have j1a:J1 n k1:=S1.ext j1 b1.extBut (UD n3) (UD p1);cases ex:us[n]? with
 |none=>
  refine Uu (S1.en n _ _ _ _ hh j1a ex λ k2 e b2 hx=>?_);obtain⟨oe,he1,he2⟩:=hx;have Z2:IsZip k2 z ti to .ellipsis:=b2 _ _ (UD n3) Z1;have hez:e≠z:=λ c=>by subst c;rw[Z2]at he1;cases he1;simp at he2
  refine Vn Z2 (by simp) λ k3 _ b3=>q k3 e (λ c o c1 _ c3 _ _ f=>b3.extBut _ _ c1 (b2 _ _ c3 (b1.extBut _ _ c1 f))) ⟨oe,b3.extBut _ _ hez he1,he2⟩
 |some x=>
  refine Uu (S1.nx n _ _ _ _ x j1a ex λ k2 j1b b2=>UK ?_);have pO2:eE k2 to a b c:=b2.extBut _ _ n8 (b1.extBut _ _ n2 pO);refine Uu (Vq pO2 rfl ?_);refine Uu (dN pO2 λ k3 pO3 b3=>?_);replace pO3:eE k3 to x b c:=pO3;refine Uu (WT (UK ?_));refine Uu (Uu (Wa ?_));show wpAny _ _ (Builtin.SmallTypes.nextOf (.ref t2) >>= _) _ _ _;have j2c:J2 n k3:=S2.ext (S2.ext (S2.ext j2 b1.extBut (UD n4) (UD q1)) b2.extBut n10 (UD q3)) b3.extBut n9 (UD q2);cases ey:vs[n]? with
  |none=>
   refine Uu (S2.en n _ _ _ _ hh j2c ey λ k4 e b4 hx=>?_);obtain⟨oe,he1,he2⟩:=hx;have Z4:IsZip k4 z ti to .ellipsis:=b4 _ _ (UD n4) (b3.extBut _ _ (UD n2) (b2.extBut _ _ (UD n3) Z1));have hez:e≠z:=λ c=>by subst c;rw[Z4]at he1;cases he1;simp at he2
   refine Vn Z4 (by simp) λ k5 _ b5=>q k5 e (λ c o c1 c2 c3 c4 _ f=>b5.extBut _ _ c1 (b4 _ _ c4 (b3.extBut _ _ c2 (b2.extBut _ _ c3 (b1.extBut _ _ c1 f))))) ⟨oe,b5.extBut _ _ hez he1,he2⟩
  |some y=>
   have ez:ws[n]?=none:=by
    rcases he with h|h|h
    . rw[ex]at h;cases h
    . rw[ey]at h;cases h
    . exact h
   refine Uu (S2.nx n _ _ _ _ y j2c ey λ k4 j2d b4=>UK ?_);have pO4:eE k4 to x b c:=b4.extBut _ _ n9 pO3;refine Uu (Vq pO4 rfl ?_);refine Uu (dN pO4 λ k5 pO5 b5=>?_);refine Uu (WT (UK ?_));refine Uu (Uu (Wa ?_));show wpAny _ _ (Builtin.SmallTypes.nextOf (.ref t3) >>= _) _ _ _;have j3c:J3 n k5:=S3.ext (S3.ext (S3.ext (S3.ext (S3.ext j3 b1.extBut (UD n4') (UD r1)) b2.extBut n11 (UD r3)) b3.extBut n9' (UD r2)) b4.extBut n12 (UD r4)) b5.extBut n9' (UD r2);refine Uu (S3.en n _ _ _ _ hh j3c ez λ k6 e b6 hx=>?_);obtain⟨oe,he1,he2⟩:=hx;have Z6:IsZip k6 z ti to .ellipsis:=b6 _ _ (UD n4') (b5.extBut _ _ (UD n2) (b4.extBut _ _ (UD n4) (b3.extBut _ _ (UD n2) (b2.extBut _ _ (UD n3) Z1))));have hez:e≠z:=λ c=>by subst c;rw[Z6]at he1;cases he1;simp at he2
   refine Vn Z6 (by simp) λ k7 _ b7=>q k7 e (λ c o c1 c2 c3 c4 c5 f=>b7.extBut _ _ c1 (b6 _ _ c5 (b5.extBut _ _ c2 (b4.extBut _ _ c4 (b3.extBut _ _ c2 (b2.extBut _ _ c3 (b1.extBut _ _ c1 f))))))) ⟨oe,b7.extBut _ _ hez he1,he2⟩
end
end
def N_(K:PySem.W.Frag)(k1 k2 k3:SK)(a1 a2 a3:Addr):It:=
 ⟨λ i H=>∃xs ys zs x y z,jF k1 K H a1 xs/\jF k2 K H a2 ys/\jF k3 K H a3 zs/\xs[i]?=some x/\ys[i]?=some y/\zs[i]?=some z,
  λ i H v H'=>∃T x y z,H T=none/\v= .ref T/\H'=upd H T (.tup [x,y,z])/\(∀xs,jF k1 K H a1 xs->xs[i]?=some x)/\(∀ys,jF k2 K H a2 ys->ys[i]?=some y)/\∀zs,jF k3 K H a3 zs->zs[i]?=some z,
  λ i H=>∃xs ys zs,jF k1 K H a1 xs/\jF k2 K H a2 ys/\jF k3 K H a3 zs/\(xs.length<=i\/ys.length<=i\/zs.length<=i)⟩
def OD(z ti to t1 t2 t3 a1 a2 a3:Addr)(k1 k2 k3:SK)(i:Nat)(h:Heap):Prop:=IsZip h z ti to .none/\eE h ti (.ref t1) (.ref t2) (.ref t3)/\(∃a b c,eE h to a b c)/\mL k1 t1 a1 i h/\mL k2 t2 a2 i h/\mL k3 t3 a3 i h
theorem FH{P:Program}{w:World}{K:PySem.W.Frag}{elts:List Expr}{kx:Nat}{pos:Pos}{z ti to t1 t2 t3 a1 a2 a3:Addr}(k1 k2 k3:SK)(D:K6 z ti to t1 t2 t3 a1 a2 a3):
 Turn P w K (.Tuple elts kx pos) (N_ K k1 k2 k3 a1 a2 a3) [z,ti,to,t1,t2,t3] z (OD z ti to t1 t2 t3 a1 a2 a3 k1 k2 k3) where
 mem:=by simp
 obj:=λ i h st b hb=>by
  obtain⟨Z,pI,⟨a,b',c',pO⟩,i1,i2,i3⟩:=st;simp only[UT,UW,V3]at hb;rcases hb with rfl|rfl|rfl|rfl|rfl|rfl
  . exact⟨_,Z,λ v e=>by cases e⟩
  . exact⟨_,pI,λ v e=>by cases e⟩
  . exact⟨_,pO,λ v e=>by cases e⟩
  . exact gB i1
  . exact gB i2
  . exact gB i3
 keep:=λ i h h' st k=>by
  obtain⟨Z,pI,⟨a,b',c',pO⟩,i1,i2,i3⟩:=st;exact⟨k z (by simp) _ Z,k ti (by simp) _ pI,⟨a,b',c',k to (by simp) _ pO⟩,iO i1 (k t1 (by simp)),iO i2 (k t2 (by simp)),iO i3 (k t3 (by simp))⟩
 item:=by
  intro X hP hw hK hc i pins s σ H E I hf st hg;subst hP hw hK;obtain⟨Z,pI,⟨a,b',c',pO⟩,i1,i2,i3⟩:=st;obtain⟨xs,ys,zs,x,y,zz,q1,q2,q3,ex,ey,ez⟩:=hg;obtain⟨us,r1,l1⟩:=fD I q1;obtain⟨vs,r2,l2⟩:=fD I q2;obtain⟨ws,r3,l3⟩:=fD I q3;obtain⟨u,eu,ru⟩:=r1.get ex;obtain⟨v,ev,rv⟩:=r2.get ey;obtain⟨wv,ew,rw'⟩:=r3.get ez;obtain⟨⟨n1,n2,n3,n4,n4'⟩,⟨n5,n6,n7,n7'⟩,⟨n8,n9,n9'⟩,n10,n11,n12⟩:=D.f;have tz:s.TypeIs (.ref z) "zip":=⟨_,Z,rfl⟩
  unfold pyNext;refine Uu (Yh (VI (name:=Str.ofString "__next__") tz Wf (Wb Wf tz Xv (FG D (kq k1 t1 a1 D.a1.2.2.1 us.toArray) (kq k2 t2 a2 D.a2.2.2.2.1 vs.toArray) (kq k3 t3 a3 D.a3.2.2.2.2 ws.toArray) Z pI pO ⟨i1,l1⟩ ⟨i2,l2⟩ ⟨i3,l3⟩ (x:=u) (y:=v) (u:=wv) (by simpa using eu) (by simpa using ev) (by simpa using ew) λ k Z2 pO2 j1 j2 j3 pT szk kp=>UK ⟨_,rfl,?_⟩) (Xm _))));refine Yw (s:={s with heap:=k}) Z2 λ k' Z3 b3=>?_;have hT:s.heap.objs.size≠z:=WG (UN Z)
  have kp3:∀b o,b∉[z,ti,to,t1,t2,t3]->s.heap.get? b=some o->k'.get? b=some o:=λ b o hb e=>by
   simp only[UT,Xq,UW,VE,WK]at hb;exact b3.extBut _ _ hb.1 (kp b o hb.1 hb.2.2.1 hb.2.2.2.1 hb.2.2.2.2.1 hb.2.2.2.2.2 e)
  refine⟨.ref s.heap.objs.size,upd H s.heap.objs.size (.tup [x,y,zz]),Kc (s:=s) (tk:=s.toks) I hf kp3 (UB _) ?_,rfl,⟨s.heap.objs.size,x,y,zz,I.aC.fresh (UB _),rfl,rfl,?_,?_,?_⟩,?_,?_⟩
  . refine⟨UE rfl,[u,v,wv],.cons ru (.cons rv (.cons rw' .nil)),?_⟩;exact⟨_,b3.extBut _ _ hT pT,rfl,_,rfl⟩
  . intro xs' q';rw[oN I q' q1];exact ex
  . intro ys' q';rw[oN I q' q2];exact ey
  . intro zs' q';rw[oN I q' q3];exact ez
  . refine⟨Z3,b3.extBut _ _ n1 (kp _ _ n1 n5 n6 n7 n7' pI),⟨_,_,_,b3.extBut _ _ n2 pO2⟩,iO j1.1 λ o e=>b3.extBut _ _ n3 e,iO j2.1 λ o e=>b3.extBut _ _ n4 e,iO j3.1 λ o e=>b3.extBut _ _ n4' e⟩
  . intro b hb
    have:b≠s.heap.objs.size:=by
     obtain⟨o,e,_⟩:∃o,s.heap.get? b=some o/\True:=by
      simp only[UT,UW,V3]at hb;rcases hb with rfl|rfl|rfl|rfl|rfl|rfl
      . exact⟨_,Z,trivial⟩
      . exact⟨_,pI,trivial⟩
      . exact⟨_,pO,trivial⟩
      . obtain⟨o,e,_⟩:=gB i1;exact⟨o,e,trivial⟩
      . obtain⟨o,e,_⟩:=gB i2;exact⟨o,e,trivial⟩
      . obtain⟨o,e,_⟩:=gB i3;exact⟨o,e,trivial⟩
     exact Vg (UN e)
    rw[L2.aF this];exact(hf b hb).1
 done:=by
  intro X hP hw hK hc i pins s σ H E I hf st hg;subst hP hw hK;obtain⟨Z,pI,⟨a,b',c',pO⟩,i1,i2,i3⟩:=st;obtain⟨xs,ys,zs,q1,q2,q3,he⟩:=hg;obtain⟨us,r1,l1⟩:=fD I q1;obtain⟨vs,r2,l2⟩:=fD I q2;obtain⟨ws,r3,l3⟩:=fD I q3;have e1:=r1.length;have e2:=r2.length;have e3:=r3.length;have tz:s.TypeIs (.ref z) "zip":=⟨_,Z,rfl⟩
  unfold pyNext;refine Uu (Yh (VI (name:=Str.ofString "__next__") tz Wf (Wb Wf tz Xv (IY (I.ok.hd hc) D (kq k1 t1 a1 D.a1.2.2.1 us.toArray) (kq k2 t2 a2 D.a2.2.2.2.1 vs.toArray) (kq k3 t3 a3 D.a3.2.2.2.2 ws.toArray) Z pI pO ⟨i1,l1⟩ ⟨i2,l2⟩ ⟨i3,l3⟩ ?_ λ k e kp hx=>?_) (Xm _))))
  . rcases he with h|h|h
    . left;simp;lia
    . right;left;simp;lia
    . right;right;simp;lia
  . obtain⟨o,ho,hc2⟩:=hx;refine Uu (wpAny_isInstance (T:="StopIteration") (b:=true) ⟨o,ho,hc2⟩ isSubtype_stop ?_);refine UK ⟨rfl,J8 (s:=s) (tk:=s.toks) I hf λ b o hb e=>?_⟩;simp only[UT,Xq,UW,VE,WK]at hb;exact kp b o hb.1 hb.2.2.1 hb.2.2.2.1 hb.2.2.2.2.1 hb.2.2.2.2.2 e
 self:=λ _ _ _ _ _ st h=>Xw st.1 h
theorem wC(a b c:Value):checkTypeCall "zip" ⟨[a,b,c],[]⟩=pure ():=by kernel_rfl
theorem yo(a b c:Value):checkBuiltinCall "zip.__new__" ⟨[.type "zip",a,b,c],[]⟩=pure ():=by kernel_rfl
theorem qm(a b c d:Value):argsOk "object.__init__" ⟨[a,b,c,d],[]⟩:=by
 unfold argsOk;rw[signature?_of (id:="object.__init__") (n:=['_','_','t','i','n','i','_','_']) (o:=['t','c','e','j','b','o']) (by kernel_rfl) F.owner_object];kernel_rfl
abbrev KR(h:Heap)(k1 k2 k3:SK)(a1 a2 a3:Addr):Heap:=(xZ h k1 k2 a1 a2).push (nj k3 a3)
abbrev Ln(h:Heap)(k1 k2 k3:SK)(a1 a2 a3:Addr):Heap:=(KR h k1 k2 k3 a1 a2 a3).push {cls:= .type "tuple",data:= .seq #[.ref h.objs.size,.ref (zq h k1 a1).objs.size,.ref (xZ h k1 k2 a1 a2).objs.size]}
abbrev Ko(h:Heap)(k1 k2 k3:SK)(a1 a2 a3:Addr):Heap:=(Ln h k1 k2 k3 a1 a2 a3).push {cls:= .type "tuple",data:= .seq #[.none,.none,.none]}
abbrev Ac(h:Heap)(k1 k2 k3:SK)(a1 a2 a3:Addr):Heap:=(Ko h k1 k2 k3 a1 a2 a3).push {cls:= .type "zip",data:= .fields #[.none,.bool false,.bool false,.ref (KR h k1 k2 k3 a1 a2 a3).objs.size,.ref (Ln h k1 k2 k3 a1 a2 a3).objs.size]}
theorem Es(k1 k2 k3:SK)(a1 a2 a3:Addr)(us vs ws:Array Value):Meets (Builtin.«zip.__new__» ⟨[.type "zip",.ref a1,.ref a2,.ref a3],[]⟩) (λ _ R s=>gc k1 s.heap a1 us/\gc k2 s.heap a2 vs/\gc k3 s.heap a3 ws/\
 R (.ok (.ret (.ref (Ko s.heap k1 k2 k3 a1 a2 a3).objs.size))) {s with heap:=Ac s.heap k1 k2 k3 a1 a2 a3}):=
 .of_wp λ P w A R s h=>by
  obtain⟨hp,g,d,tk,os⟩:=s;obtain⟨c1,c2,c3,h⟩:=h;have hsub:=sub_zip;have L1:gc k1 (Shared.heap ⟨hp,g,d,tk,os⟩) a1 us:=c1;have L2:gc k2 (Shared.heap ⟨hp.push (nj k1 a1),g,d,tk,os⟩) a2 vs:=gc.push c2 _;have L3:gc k3 (Shared.heap ⟨(hp.push (nj k1 a1)).push (nj k2 a2),g,d,tk,os⟩) a3 ws:=gc.push (gc.push c3 _) _
  wp_walk using qy L1,qy L2,qy L3
  exact⟨_,rfl,h⟩
theorem G9{P:Program}{w:World}{A:Around}{s:Shared}{E:Value->Shared->Prop}{k1 k2 k3:SK}{a1 a2 a3:Addr}{us vs ws:Array Value}{Q:Value->Shared->Prop}(c1:gc k1 s.heap a1 us)(c2:gc k2 s.heap a2 vs)(c3:gc k3 s.heap a3 ws)
 (q:∀g n,n=s.heap.objs.size->IsZip g (n+5) (n+3) (n+4) .none->eE g (n+3) (.ref n) (.ref (n+1)) (.ref (n+2))->eE g (n+4) .none .none .none->mL k1 n a1 0 g->mL k2 (n+1) a2 0 g->mL k3 (n+2) a3 0 g->(∀c o,s.heap.get? c=some o->g.get? c=some o)->Q (.ref (n+5)) {s with heap:=g}):
 wpAny (model P w) A (call (.type "zip") [.ref a1,.ref a2,.ref a3]) Q E s:=by
 refine callType_new F.called_zip (by decide) (wC _ _ _) (yo _ _ _) (λ ob=>qm ob _ _ _) F.entry_zip_new (Es k1 k2 k3 a1 a2 a3 us vs ws) ⟨c1,c2,c3,?_⟩;have y1:(zq s.heap k1 a1).objs.size=s.heap.objs.size+1:=Vm ..;have y2:(xZ s.heap k1 k2 a1 a2).objs.size=s.heap.objs.size+2:=by rw[Vm,y1]
 have y3:(KR s.heap k1 k2 k3 a1 a2 a3).objs.size=s.heap.objs.size+3:=by rw[Vm,y2]
 have y4:(Ln s.heap k1 k2 k3 a1 a2 a3).objs.size=s.heap.objs.size+4:=by rw[Vm,y3]
 have y5:(Ko s.heap k1 k2 k3 a1 a2 a3).objs.size=s.heap.objs.size+5:=by rw[Vm,y4]
 have e6:(Ac s.heap k1 k2 k3 a1 a2 a3).get? (Ko s.heap k1 k2 k3 a1 a2 a3).objs.size=some _:=UO _ rfl;have e5:(Ac s.heap k1 k2 k3 a1 a2 a3).get? (Ln s.heap k1 k2 k3 a1 a2 a3).objs.size=some _:=Uv _ (UO _ rfl);have e4:(Ac s.heap k1 k2 k3 a1 a2 a3).get? (KR s.heap k1 k2 k3 a1 a2 a3).objs.size=some _:=Uv _ (Uv _ (UO _ rfl));have e3:(Ac s.heap k1 k2 k3 a1 a2 a3).get? (xZ s.heap k1 k2 a1 a2).objs.size=some (nj k3 a3):=Uv _ (Uv _ (Uv _ (UO _ (by cases k3<;>rfl))));have e2:(Ac s.heap k1 k2 k3 a1 a2 a3).get? (zq s.heap k1 a1).objs.size=some (nj k2 a2):=Uv _ (Uv _ (Uv _ (Uv _ (UO _ (by cases k2<;>rfl)))));have e1:(Ac s.heap k1 k2 k3 a1 a2 a3).get? s.heap.objs.size=some (nj k1 a1):=Uv _ (Uv _ (Uv _ (Uv _ (Uv _ (UO _ (by cases k1<;>rfl))))));show _/\_;rw[y3,y4,y5]at e6;rw[y1,y2,y3]at e4;rw[y4]at e5;rw[y2]at e3;rw[y1]at e2;rw[y5];exact⟨⟨_,e6,rfl⟩,q _ _ rfl e6 e4 e5 (oV (h:=s.heap) e1) (oV (h:=s.heap) e2) (oV (h:=s.heap) e3) λ c o x=>Uv _ (Uv _ (Uv _ (Uv _ (Uv _ (Uv _ x)))))⟩
def ff:List D->List D->List D->List D
 |x::xs,y::ys,z::zs=> .tup [x,y,z]::ff xs ys zs
 |_,_,_=>[]
theorem xi:∀ {xs ys zs:List D},(ff xs ys zs).length=min xs.length (min ys.length zs.length)
 | [],_,_=>by unfold ff;simp
 |_::_,[],_=>by unfold ff;simp
 |_::_,_::_,[]=>by unfold ff;simp
 |x::xs,y::ys,z::zs=>by unfold ff;rw[Vh,xi];simp only[Vh];lia
theorem qG:∀ {xs ys zs:List D} {n:Nat} {d:D},(ff xs ys zs)[n]?=some d->∃x y z,xs[n]?=some x/\ys[n]?=some y/\zs[n]?=some z/\d= .tup [x,y,z]
 | [],_,_,_,_,e=>by unfold ff at e;cases e
 |_::_,[],_,_,_,e=>by unfold ff at e;cases e
 |_::_,_::_,[],_,_,e=>by unfold ff at e;cases e
 |x::xs,y::ys,z::zs,0,d,e=>by
  unfold ff at e;rw[List.getElem?_cons_zero]at e;cases e;exact⟨x,y,z,rfl,rfl,rfl,rfl⟩
 |x::xs,y::ys,z::zs,n+1,d,e=>by
  unfold ff at e;rw[Wm]at e;obtain⟨a,b,c,h1,h2,h3,h4⟩:=qG e;exact⟨a,b,c,by rw[Wm];exact h1,by rw[Wm];exact h2,by rw[Wm];exact h3,h4⟩
theorem L_{K:PySem.W.Frag}{k1 k2 k3:SK}{a1 a2 a3:Addr}{α:List (Option Addr)}{G:Hp}{ok:af->Prop}{xs ys zs:List D}
 (h:∀α' G' st',Step α G α' G'->aX α' st' G'->ok st'->∃vs ws us,zE k1 G' a1 vs/\zE k2 G' a2 ws/\zE k3 G' a3 us/\aE α' G' xs vs/\aE α' G' ys ws/\aE α' G' zs us):ur (N_ K k1 k2 k3 a1 a2 a3) α G ok (ff xs ys zs) where
 stop:=λ n α' G' F' H' st' s P S o hn=>by
  obtain⟨vs,ws,us,h1,h2,h3,r1,r2,r3⟩:=h α' G' st' s S o;rw[xi]at hn;refine⟨vs,ws,us,eO P h1,eO P h2,eO P h3,?_⟩;have:=r1.length;have:=r2.length;have:=r3.length;lia
 go:=λ n d α' G' F' H' st' s P S o hn=>by
  obtain⟨vs,ws,us,h1,h2,h3,r1,r2,r3⟩:=h α' G' st' s S o;obtain⟨x,y,z,ex,ey,ez,rfl⟩:=qG hn;obtain⟨v,ev,_⟩:=r1.get ex;obtain⟨u,eu,_⟩:=r2.get ey;obtain⟨t,et,_⟩:=r3.get ez;exact⟨vs,ws,us,v,u,t,eO P h1,eO P h2,eO P h3,ev,eu,et⟩
 m7:=λ n d α' G' F' H' st' x H'' s P S o hn y=>by
  obtain⟨vs,ws,us,h1,h2,h3,r1,r2,r3⟩:=h α' G' st' s S o;obtain⟨c,e,f,ec,ee,ef,rfl⟩:=qG hn;obtain⟨T,v,u,t,hT,rfl,rfl,y1,y2,y3⟩:=y;obtain⟨v',ev,rv⟩:=r1.get ec;obtain⟨u',eu,ru⟩:=r2.get ee;obtain⟨t',et,rt⟩:=r3.get ef;rw[y1 vs (eO P h1)]at ev;rw[y2 ws (eO P h2)]at eu;rw[y3 us (eO P h3)]at et;cases ev;cases eu;cases et;have hg:=(P.none hT).1;refine⟨L2.upd G' T (.tup [v,u,t]),Step.laid hg,P.laid hT,S.laid hg,?_⟩;unfold Rep;refine⟨T,[v,u,t],rfl,S.nv hg,a_,?_⟩;unfold aE;refine⟨v,[u,t],rfl,rv.step (Step.laid hg),?_⟩;unfold aE;refine⟨u,[t],rfl,ru.step (Step.laid hg),?_⟩;unfold aE;exact⟨t,[],rfl,rt.step (Step.laid hg),by unfold aE;rfl⟩
def ET(ds:List D)(st1:af)(K:List D->(af->Prop)->af->Prop):Prop:=match ds with
 | [x,y,z]=>(match items? st1 x,items? st1 y,items? st1 z with
   |some xs,some ys,some zs=>K (ff xs ys zs) (λ st'=>items? st' x=some xs/\items? st' y=some ys/\items? st' z=some zs) st1
   |_,_,_=>False)
 |_=>False
@[irreducible] def qL:List D->af->(List D->(af->Prop)->af->Prop)->Prop:=ET
def DQ(t:DA):DI:=λ σ st K=>t σ st λ ds st1=>qL ds st1 K
theorem Ls{n a1 a2 a3:Nat}(h1:a1<n)(h2:a2<n)(h3:a3<n):K6 (n+5) (n+3) (n+4) n (n+1) (n+2) a1 a2 a3:=⟨by lia,by lia,by lia,by lia⟩
theorem vals3{vs:List V}{us:List Value}{a b c:V}(h:Vals vs us)(e:vs=[a,b,c]):∃u v w,us=[u,v,w]/\RelV a u/\RelV b v/\RelV c w:=by
 subst e;cases h with
 |cons p q=>
  cases q with
  |cons p' q'=>
   cases q' with
   |cons p'' q''=>
    cases q'';exact⟨_,_,_,rfl,p,p',p''⟩
theorem Na{X:Cx}{a b c:Expr}{elts:List Expr}{kx:Nat}{tpos p pos:Pos}{t:DA}(hg:Gl X "zip")(hm:X.mg "zip"=none)(ha:PA X [a,b,c] (LA t))(hs:starEach [a,b,c] X.env=(false,eval a X.env)::starEach [b,c] X.env)(hs2:starEach [b,c] X.env=[(false,eval b X.env),(false,eval c X.env)]):
 PI X (.Tuple elts kx tpos) (.Call (.Name "zip" p) [a,b,c] [] pos) (LI (DQ t)):=by
 intro pins s σ H R I h;obtain⟨α,σd,st,K,G,F,P,RS,S,t,k⟩:=h;refine Call_ (kO I hg hm boot_zip (VT (br (ha pos pins s σ H (λ vs H1=>∃ds α1 G1 st1,Step α G α1 G1/\bZ G1 F H1/\aX α1 st1 G1/\aE α1 G1 ds vs/\qL ds st1 K) I ⟨α,σd,st,_,G,F,P,RS,S,t,λ ds st1 q α1 G1 H1 vs s1 P1 S1 r1=>⟨ds,α1,G1,st1,s1,P1,S1,r1,q⟩⟩) λ us s1 ⟨vs,H1,I1,rv,ds,α1,G1,st1,w1,P1,S1,r1,q⟩=>?_) hs (by rw[hs2];rfl)));unfold qL ET at q;split at q
 . rename_i x y z;split at q
   . rename_i xs ys zs ex ey ez;obtain⟨v1,v2,v3,rfl,q1,q2,q3⟩:=yW r1 rfl;obtain⟨p1,vs1,rfl,g1,c1⟩:=gD S1 q1 ex;obtain⟨p2,vs2,rfl,g2,c2⟩:=gD S1 q2 ey;obtain⟨p3,vs3,rfl,g3,c3⟩:=gD S1 q3 ez;obtain⟨u1,u2,u3,rfl,ru1,ru2,ru3⟩:=vals3 rv rfl;cases ru1;cases ru2;cases ru3;obtain⟨its1,_,l1⟩:=fD I1 (eO P1 c1);obtain⟨its2,_,l2⟩:=fD I1 (eO P1 c2);obtain⟨its3,_,l3⟩:=fD I1 (eO P1 c3);refine G9 l1 l2 l3 λ g n hn Z pI pO i1 i2 i3 kp=>?_;obtain⟨o1,eo1⟩:=l1.some;obtain⟨o2,eo2⟩:=l2.some;obtain⟨o3,eo3⟩:=l3.some;refine Xw (s:={s1 with heap:=g}) Z ?_;refine⟨n+5,[n+5,n+3,n+4,n,n+1,n+2],_,_,H1,rfl,I1.kept (t':=s1.toks) kp,FH (C7 x) (C7 y) (C7 z) (Ls (by rw[hn];exact UN eo1) (by rw[hn];exact UN eo2) (by rw[hn];exact UN eo3)),⟨Z,pI,⟨_,_,_,pO⟩,i1,i2,i3⟩,λ b hb=>?_,?_⟩
     . have hb':s1.heap.objs.size<=b:=by
        simp only[UT,UW,V3]at hb;rcases hb with rfl|rfl|rfl|rfl|rfl|rfl<;>(rw[<-hn];first|exact UB _|exact Nat.le_add_right _ _)
       exact I1.uc hb' (I1.aC.fresh hb')
     . refine k _ _ st1 q _ α1 G1 H1 w1 P1 S1 (L_ λ α' G' st' s' S' o=>?_);obtain⟨p1',ws1,e1,f1,d1⟩:=gD S' (q1.step s') o.1;obtain⟨p2',ws2,e2,f2,d2⟩:=gD S' (q2.step s') o.2.1;obtain⟨p3',ws3,e3,f3,d3⟩:=gD S' (q3.step s') o.2.2;cases e1;cases e2;cases e3;exact⟨ws1,ws2,ws3,d1,d2,d3,f1,f2,f3⟩
   . exact q.elim
 . exact q.elim
theorem MF{st:af}{x y z:D}{xs ys zs:List D}{K:List D->(af->Prop)->af->Prop}(ex:items? st x=some xs)(ey:items? st y=some ys)(ez:items? st z=some zs)(k:∀ok:af->Prop,(∀st',items? st' x=some xs->items? st' y=some ys->items? st' z=some zs->ok st')->K (ff xs ys zs) ok st):qL [x,y,z] st K:=by
 unfold qL ET;simp only[ex,ey,ez];exact k _ λ st' h1 h2 h3=>⟨h1,h2,h3⟩
theorem NW{X:Cx}{a b c:Expr}{elts:List Expr}{kx:Nat}{tpos p pos:Pos}{ar:DA}(hg:Gl X "zip")(hm:X.mg "zip"=none)(ha:JA X [a,b,c] ar)(hs:notStar a=true:=by rfl)(hs2:notStar b=true:=by rfl)(hs3:notStar c=true:=by rfl):JI X (.Tuple elts kx tpos) (.Call (.Name "zip" p) [a,b,c] [] pos) (DQ ar):=by
 unfold JI;unfold JA at ha;exact Na hg hm ha (cv hs) (by rw[cv hs2,cv hs3];rfl)
def F_:DS:=λ _ _ _=>False
theorem HM{X:Cx}{s:Stmt}:JS X s F_:=by
 unfold JS;intro pins s σ H D I h;obtain⟨α,σd,st,DD,G,F,P,R,S,q,k⟩:=h;exact q.elim
section
variable {X:Cx}
def yZ:cO:=λ x y st K=>match x,y with
 | .ref n,.lst ys=>(match st[n]? with|some (.lst xs)=>xs.length+ys.length<=sizeLine/\K (.lst (xs++ys)) st|_=>False)
 |_,_=>False
theorem P7:bE X (binaryOp .Add) (LR yZ):=λ pins s σ H x y v u Q I rx ry ⟨α,d,e,st,K,G,F',P,r1,r2,S,q,k⟩=>by
 cases d<;>cases e<;>try exact q.elim
 rename_i n ys;unfold yZ at q;simp only at q;split at q
 . rename_i xs e;obtain⟨a,ea,vs,h1,h2⟩:=S.fG e;have r1':=cW ea r1;subst r1';unfold Rep at r2;obtain⟨b,ws,rfl,nb,hb,rb⟩:=r2;refine vX pins s σ H _ _ v u Q I rx ry ⟨a,b,vs,ws,rfl,rfl,.of (P.get h1),eP P hb,by rw[<-h2.length,<-rb.length];exact q.1,λ p hp=>?_⟩;exact k.lst P q.2 S (aO.mpr (dH (aO.mp h2) (aO.mp rb))) hp
 . exact q.elim
@[irreducible] def sf:cO:=yZ
theorem GD:bE X (binaryOp .Add) (LR sf):=by unfold sf;exact P7
end
theorem Md{st:af}{K:DK}{n:Nat}{xs ys:List D}(e:st[n]?=some (.lst xs))(h:xs.length+ys.length<=sizeLine)(k:K (.lst (xs++ys)) st):sf (.ref n) (.lst ys) st K:=by unfold sf yZ;simp only[e];exact⟨h,k⟩
end L3
namespace L3
open PySem L2
open PySem.Spec hiding items?
open PyProof.Rows hiding St
open Sem (wp)
section
variable {prog:Program}{w:World}{A:Around}{s:Shared}{E:Value->Shared->Prop}
end
section
variable {prog:Program}{w:World}{A:Around}{R:Result->Shared->Prop}{I:Addr}{fp wr:List Addr}{G:Array GenState->Array GenState->Prop}{n:Nat}{P:Nat->Value->Prop}{Sx:Nat->Shared->Prop}
end
section
variable {prog:Program}{w:World}{A:Around}{E:Value->Shared->Prop}{s:Shared}
end
section
variable {X:Cx}{pins:List (Addr×Obj)}{σ:L2.St}{H:Hp}{s:Shared}{α:List (Option Addr)}
end
end L3
namespace L3
open PySem L2
open PySem.Spec hiding items?
open PyProof.Rows hiding St
section
variable {X:Cx}
def yD:eQ:=λ ds st K=>match ds with| [.lst xs]=>(match gR xs with|some bs=>K (.bl (bs.any id)) st|none=>False)|_=>False
theorem range_any{α:Type}(l:List α)(f:α->Bool)(tr:Nat->Bool)(h:∀i x,l[i]?=some x->tr i=f x):(List.range l.length).any tr=l.any f:=by
 induction l generalizing tr with
 |nil=>rfl
 |cons a l ih=>
  rw[Vh,VV,Yg,Yg,List.any_map,h 0 a rfl];congr 1;exact ih (tr∘Nat.succ) λ i x e=>h (i+1) x (by simpa using e)
theorem Rl(hc:X.calm=true):bF X (.builtin "any") (fO yD):=λ pins s σ H xs us Q I rs ⟨α,ds,st,K,G,F',P,r,S,q,k⟩=>by
 unfold yD at q;split at q
 . rename_i ys;split at q
   . rename_i bs e;obtain⟨v,rfl,r1⟩:=gH r rfl;unfold Rep at r1;obtain⟨a,vs,rfl,na,h1,h2⟩:=r1;obtain⟨u,rfl,ru⟩:=vals1 rs;cases ru;have hv:=pD h2 e;subst hv;obtain⟨z,ao,n,rv,hl,eo⟩:=Inv.qE I (eP P h1);have hits:=oZ rv;subst hits;have isL:s.heap.IsList a (bs.map Value.bool).toArray:=⟨_,eo,rfl,n,rfl⟩
     refine call_any_walk (WV isL ?_);have hne:a≠s.heap.objs.size:=Vg (UN eo);refine⟨s.heap.objs.size,_,_,_,_,_,λ i=>(bs[i]?).getD true,rfl,Walks.list (A:=X.A.in1) (I.ok.hd hc) _ a hne (bs.map Value.bool).toArray,⟨⟨_,UO _ rfl,rfl,rfl⟩,⟨_,Uv _ eo,rfl,n,rfl⟩⟩,?_,?_⟩
     . intro i w s' Q' E' hP hQ;rw[YY,UM]at hP;cases zb:bs[i]? with
       |none=>rw[zb]at hP;cases hP
       |some b=>
        rw[zb]at hP;cases hP;simp only[zb]at hQ;exact Wj hQ
     . intro h' tk hk
       have kp:∀b o,s.heap.get? b=some o->h'.get? b=some o:=λ b o q=>hk b o (by
        intro hb;have:b=s.heap.objs.size:=by simpa using hb
        exact absurd (UN q) (by rw[this];exact Vt _)) (Uv _ q)
       have ea:(List.range (bs.map Value.bool).toArray.size).any (λ i=>(bs[i]?).getD true)=bs.any id:=by
        rw[UI,Uz];exact range_any bs id _ λ i x e=>by rw[e];rfl
       rw[ea];exact⟨.bl (bs.any id),H,I.kept (t':=tk) kp,rfl,k.here P q S (by unfold Rep;rfl)⟩
   . exact q.elim
 . exact q.elim
@[irreducible] def A8:eQ:=yD
theorem Lb(hc:X.calm=true):bF X (.builtin "any") (fO A8):=by unfold A8;exact Rl hc
end
theorem Qm{st:af}{K:DK}{xs:List D}{bs:List Bool}(h:gR xs=some bs)(k:K (.bl (bs.any id)) st):A8 [.lst xs] st K:=by unfold A8 yD;simp only[h];exact k
def putD(f:Str)(v:D):List (Str×D)->List (Str×D)
 | []=>[(f,v)]
 |(g,x)::r=>if g=f then(g,v)::r else(g,x)::putD f v r
theorem jj.look{α:List (Option Addr)}{H:Hp}{f:Str}{v:D}:∀ {fs:List (Str×D)} {vs:List (Str×V)},jj α H fs vs->fs.lookup f=some v->∃u,vs.lookup f=some u/\Rep α H v u
 | [],_,_,e=>by cases e
 |(g,x)::fs,_,.cons (b:=q) h t,e=>by
  obtain⟨g',y⟩:=q;obtain⟨h1,h2⟩:=h;simp only at h1 h2;subst h1;rw[Ve]at e⊢;cases hb:f==g with
  |true=>rw[hb]at e;cases e;exact⟨y,rfl,h2⟩
  |false=>rw[hb]at e;exact jj.look t e
theorem jj.none{α:List (Option Addr)}{H:Hp}{f:Str}:∀ {fs:List (Str×D)} {vs:List (Str×V)},jj α H fs vs->fs.lookup f=Option.none->vs.lookup f=Option.none
 | [],_,.nil,_=>rfl
 |(g,x)::fs,_,.cons (b:=q) h t,e=>by
  obtain⟨g',y⟩:=q;obtain⟨h1,h2⟩:=h;simp only at h1 h2;subst h1;rw[Ve]at e⊢;cases hb:f==g with
  |true=>rw[hb]at e;cases e
  |false=>rw[hb]at e;exact jj.none t e
theorem jj.put{α:List (Option Addr)}{H:Hp}{f:Str}{d:D}{v:V}(r:Rep α H d v):∀ {fs:List (Str×D)} {vs:List (Str×V)},jj α H fs vs->jj α H (putD f d fs) (fY f v vs)
 | [],_,.nil=> .cons ⟨rfl,r⟩ .nil
 |(g,x)::fs,_,.cons (b:=q) h t=>by
  obtain⟨g',y⟩:=q;obtain⟨h1,h2⟩:=h;simp only at h1 h2;subst h1;unfold putD fY;by_cases hb:g=f
  . rw[UA hb,UA hb];exact .cons ⟨rfl,r⟩ t
  . rw[Uy hb,Uy hb];exact .cons ⟨rfl,h2⟩ (jj.put r t)
def Jr(C:Addr)(f:Str)(d:D)(st:af)(K:DK):Prop:=match d with
 | .ref n=>(match st[n]? with|some (.ins C' fs)=>C'=C/\∃v,fs.lookup f=some v/\K v st|_=>False)
 |_=>False
@[irreducible] def EJ(C:Addr)(f:Str):D->af->DK->Prop:=Jr C f
def cX(C:Addr)(f:Str)(te:DE):DE:=λ σ st K=>te σ st λ d st1=>EJ C f d st1 K
theorem bX{C:Addr}{f:Str}{n:Nat}{st:af}{K:DK}{fs:List (Str×D)}{v:D}(e:st[n]?=some (.ins C fs))(h:fs.lookup f=some v)(k:K v st):EJ C f (.ref n) st K:=by
 unfold EJ Jr;simp only[e];exact⟨trivial,v,h,k⟩
def EK(C:Addr)(f:Str)(x d:D)(st:af)(K:af->Prop):Prop:=match x with
 | .ref n=>(match st[n]? with|some (.ins C' fs)=>C'=C/\fs.length<1000/\K (st.set n (.ins C (putD f d fs)))|_=>False)
 |_=>False
@[irreducible] def yG(C:Addr)(f:Str):D->D->af->(af->Prop)->Prop:=EK C f
def ko(C:Addr)(f:Str)(to te:DE):DS:=λ D σ st=>te σ st λ d st1=>to σ st1 λ x st2=>yG C f x d st2 λ st3=>D.nx σ st3
theorem js{C:Addr}{f:Str}{n:Nat}{d:D}{st:af}{K:af->Prop}{fs:List (Str×D)}(e:st[n]?=some (.ins C fs))(h:fs.length<1000)(k:K (st.set n (.ins C (putD f d fs)))):yG C f (.ref n) d st K:=by
 unfold yG EK;simp only[e];exact⟨trivial,h,k⟩
def yJ(C:Addr)(m:Str)(x:D)(st:af)(k:Prop):Prop:=match x with
 | .ref n=>(match st[n]? with|some (.ins C' fs)=>C'=C/\fs.lookup m=none/\k|_=>False)
 |_=>False
@[irreducible] def uM(C:Addr)(m:Str):D->af->Prop->Prop:=yJ C m
theorem fm{C:Addr}{m:Str}{n:Nat}{st:af}{k:Prop}{fs:List (Str×D)}(e:st[n]?=some (.ins C fs))(h:fs.lookup m=none)(q:k):uM C m (.ref n) st k:=by
 unfold uM yJ;simp only[e];exact⟨trivial,h,q⟩
def e_(C:Addr)(m:Str)(S:bq)(to:DE)(t:DA):DE:=λ σ st K=>to σ st λ x st1=>uM C m x st1 (t σ st1 λ ds st2=>S (x::ds) st2 K)
def yL(C:Addr)(S:bq)(t:DA):DE:=λ σ st K=>t σ st λ ds st1=>S (.ref st1.length::ds) (st1++[.ins C []]) λ r st2=>r= .ay/\K (.ref st1.length) st2
section
variable {X:Cx}{C f g:Addr}{fd:FuncData}{k:Nat}{x m fl:Str}{e o value:Expr}{es:List Expr}{p pos pos' apos:Pos}{te to:DE}{t:DA}{S:bq}{ps:List Str}
theorem RO(c:kK X.K C)(na:fc X.K C fl)(he:PE X e (LE te))(hb:attributeBase e fl X.env (eval e X.env)=eval e X.env):PE X (.Attribute e fl pos) (LE (cX C fl te)):=PE.imp (O7 he hb) λ σ H Q ⟨α,σd,st,K,G,F,P,R,S,t,k⟩=>by
 refine⟨α,σd,st,_,G,F,P,R,S,t,λ d st1 q α1 G1 H1 v s1 P1 S1 r1=>?_⟩;unfold EJ Jr at q;cases d<;>try exact q.elim
 simp only at q;split at q
 . rename_i C' fs e';obtain⟨rfl,w,hw,q⟩:=q;obtain⟨a,ea,dx,vs,h1,h2⟩:=S1.vz e';have r1':=cW ea r1;subst r1';obtain⟨u,hu,ru⟩:=h2.look hw;exact⟨a,_,dx,vs,u,rfl,P1.get h1,c,na,hu,(k.at s1).here P1 q S1 ru⟩
 . exact q.elim
theorem OY(c:kK X.K C)(na:fc X.K C fl)(ho:PE X o (LE to))(hv:PE X value (LE te))(hs:swapsWith value (some (.Attribute o fl pos')) pos.line X.env=pure false):PS X (.Assign [.Attribute o fl pos'] value pos) (LS (ko C fl to te)):=PS.imp (NX ho hv hs) λ D σ H ⟨α,σd,st,DD,G,F,P,R,S,t,k⟩=>by
 refine⟨α,σd,st,_,G,F,P,R,S,t,λ d st1 q α1 G1 H1 v s1 P1 S1 r1=>?_⟩;refine⟨α1,σd,st1,_,G1,F,P1,R.step s1,S1,q,λ x st2 q2 α2 G2 H2 v2 s2 P2 S2 r2=>?_⟩;unfold yG EK at q2;cases x<;>try exact q2.elim
 simp only at q2;split at q2
 . rename_i C' fs e';obtain⟨rfl,hl,q2⟩:=q2;obtain⟨a,ea,dx,vs,h1,h2⟩:=S2.vz e';have r2':=cW ea r2;subst r2';have hm:some a∈α2:=U8 ea;have lv:vs.length<1000:=by rw[<-h2.length];exact hl
   refine⟨a,_,dx,vs,rfl,P2.get h1,c,na,lv,?_⟩;refine((k.nx.at s1).at s2) σd _ q2 α2 (upd G2 a (.ins _ dx (fY fl v vs))) _ σ (Step.write hm) (P2.write h1) (((R.step s1).step s2).step (Step.write hm)) ?_;exact S2.write ea ⟨dx,fY fl v vs,a_,(h2.put (r1.step s2)).step (Step.write hm)⟩
 . exact q2.elim
theorem LE.QM{σ:L2.St}{H:Hp}{Q:VK}(h:LE (e_ C m S to t) σ H Q):DX C m (gu S) [] E0 (LE to) (LA t) σ H Q:=by
 obtain⟨α,σd,st,K,G,F,P,R,Sr,tt,k⟩:=h;refine⟨α,σd,st,_,G,F,P,R,Sr,tt,λ d st1 q α1 G1 H1 v s1 P1 S1 r1=>?_⟩;unfold uM yJ at q;cases d<;>try exact q.elim
 simp only at q;split at q
 . rename_i n C' fs e';obtain⟨rfl,hl,q⟩:=q;obtain⟨a,ea,dx,vs,h1,h2⟩:=S1.vz e';have r1':=cW ea r1;subst r1';refine⟨a,dx,vs,rfl,P1.get h1,h2.none hl,?_⟩;refine⟨α1,σd,st1,_,G1,F,P1,R.step s1,S1,q,λ ds st2 q2 α2 G2 H2 us s2 P2 S2 r2=>?_⟩;try dsimp only
   rw[VZ];exact⟨α2,_,st2,K,G2,F,P2,by unfold aE;exact⟨_,_,rfl,r1.step s2,r2⟩,S2,q2,(k.at s1).at s2⟩
 . exact q.elim
theorem LE.make{σ:L2.St}{H:Hp}{Q:VK}(h:LE (yL C S t) σ H Q):KW C (gu S) [] E0 (LA t) σ H Q:=by
 obtain⟨α,σd,st,K,G,F,P,R,Sr,tt,k⟩:=h;refine⟨α,σd,st,_,G,F,P,R,Sr,tt,λ ds st1 q α1 G1 H1 us s1 P1 S1 r1=>?_⟩;intro x dx hx hdx hne;have hgd:=(P1.none hdx).1;have P2:=P1.laid (o:= .own x) hdx;have S2:=S1.laid (o:= .own x) hgd;have hx2:upd H1 dx (.own x) x=none:=by rw[aF (UD hne)];exact hx
 have hg2:=(P2.none hx2).1;have P3:=P2.laid (o:= .ins C dx []) hx2;have S3:=S2.cell (o:= .ins C dx []) (c:= .ins C []) hg2 ⟨dx,[],a_,.nil⟩;have s2:Step α1 G1 α1 (upd G1 dx (.own x)):=Step.laid hgd;have s3:Step α1 (upd G1 dx (.own x)) (α1++[some x]) (upd (upd G1 dx (.own x)) x (.ins C dx [])):=Step.cell hg2
 have rx:Rep (α1++[some x]) (upd (upd G1 dx (.own x)) x (.ins C dx [])) (.ref st1.length) (.ref x):=by
  unfold Rep;refine .inr ⟨x,?_,rfl⟩;rw[U0 (by rw[S1.len];exact UB _),S1.len,V2];rfl
 rw[VZ];refine⟨α1++[some x],.ref st1.length::ds,st1++[.ins C []],_,_,F,P3,by unfold aE;exact⟨_,_,rfl,rx,(r1.step s2).step s3⟩,S3,q,λ d st2 q2 α' G' H' v s' P' S' r'=>?_⟩;obtain⟨rfl,q2⟩:=q2;unfold Rep at r';exact⟨r',(((k.at s1).at s2).at s3) _ st2 q2 α' G' H' _ s' P' S' (rx.step s')⟩
end
def NV(a:Int)(n:Nat):It:=⟨λ i _=>i<n,λ i H x H'=>H'=H/\x= .int (a+(i:Nat)*(-1)),λ i _=>n<=i⟩
theorem Ga{P:Program}{w:World}{K:PySem.W.Frag}{tg:Expr}(it:Addr)(a:Int)(n:Nat):Turn P w K tg (NV a n) [it] it (λ i h=>IsRangeIter h it (a+(i:Nat)*(-1)) ((n:Int)-(i:Nat)) (-1)) where
 mem:=by simp
 obj:=λ i h st b hb=>by
  have e:b=it:=by simpa using hb
  subst e
  exact⟨_,st,λ v z=>by
   have z':Data.fields _=Data.cell v:=z;cases z'⟩
 keep:=λ i h h' st k=>k it (by simp) _ st
 item:=by
  intro X hP hw hK hc i pins s σ H E I hf st hg;subst hP hw hK;obtain⟨f0,f1,f2,f3,f4,f5⟩:=hf it (by simp);have W:=Walks.range (prog:=X.prog) (w:=X.w) (I.ok.hd hc) it a (-1) n;refine W.item i s _ _ hg st λ v h' tk hv st' kk=>?_;obtain⟨t,rfl⟩:=hv;have I1:Inv X pins σ H {s with heap:=h',toks:=tk}:=I.turned (λ b o hb e=>kk b o (by simpa using hb) e) f0 f1 f3 f4 f5;exact⟨_,rfl,yB (s:={s with heap:=h',toks:=tk}) (n:="range_iterator") st' rfl rfl (by decide) ⟨.int (a+(i:Nat)*(-1)),H,I1,⟨t,rfl⟩,⟨rfl,rfl⟩,st',λ b hb=>(hf b hb).1⟩⟩
 done:=by
  intro X hP hw hK hc i pins s σ H E I hf st hg;subst hP hw hK;obtain⟨f0,f1,f2,f3,f4,f5⟩:=hf it (by simp);exact YL (I.ok.hd hc) st (by have:n<=i:=hg;lia) λ h' eb=>⟨rfl,I.turned (t':=s.toks) (λ b o hb e=>eb b o hb e) f0 f1 f3 f4 f5⟩
 self:=λ _ _ _ _ _ st h=>YM st h
theorem x_(a b:Int):Builtin.Range.rangeSize a b (-1)=((a-b).toNat:Int):=by
 unfold Builtin.Range.rangeSize;rw[Uy (by decide)];have e:(a-b-1)/(- -1:Int)=a-b-1:=by simp
 rw[e];split<;>lia
theorem small_down{a b:Int}(ha: -(2^62)<=a)(ha':a<2^62)(hb: -(2^62)<=b)(hb':b<2^62):Builtin.Range.small a b (-1)=true:=by
 unfold Builtin.Range.small;rw[x_];simp only[Builtin.Range.rangeFitsLong,UR,W_,VW,Wq,show¬((-1:Int)>0) by decide,XX];lia
def KC(ta:TA):TI:=λ σ H R=>ta σ H λ vs H1=>∃i j:Int,vs=[.int i,.int j,.int (-1)]/\(-(2^62)<=i/\i<2^62/\ -(2^62)<=j/\j<2^62)/\R (NV i (i-j).toNat) H1
section
variable {X:Cx}{tg:Expr}
theorem GQ{a b c:Expr}{ta:TA}{p pos:Pos}(hg:Gl X "range")(hm:X.mg "range"=none)(ha:PA X [a,b,c] ta)(hs:notStar a=true:=by rfl)(hs2:notStar b=true:=by rfl)(hs3:notStar c=true:=by rfl):
 PI X tg (.Call (.Name "range" p) [a,b,c] [] pos) (KC ta):=by
 intro pins s σ H R I h;refine Call_ (kO I hg hm boot_range (VT (br (ha pos pins s σ H _ I h) λ us s1 ⟨vs,H1,I1,r1,q1⟩=>?_) (cv hs) (i_ (by simp[fK,hs2,hs3]))));obtain⟨i,j,e,⟨q1,q2,q3,q4⟩,q⟩:=q1;subst e;cases r1 with
 |cons r rr=>
  cases rr with
  |cons r' rr=>
   cases rr with
   |cons r'' rr=>
    cases rr;obtain⟨t,rfl⟩:=r;obtain⟨t',rfl⟩:=r';obtain⟨t'',rfl⟩:=r'';refine call_range_3 (by decide) ?_ (Or.inl (YF (by decide+kernel)));refine wpAny_pyIter_range (IsRange.new ..) (small_down q1 q2 q3 q4) ?_;have I2:Inv X pins σ H1 {s1 with heap:=s1.heap.push {cls:= .type "range",data:= .fields #[.int i t,.int j t',.int (-1) t'']},toks:=s1.toks}:=I1.kept λ b o e=>Uv _ e;generalize({s1 with heap:=s1.heap.push {cls:= .type "range",data:= .fields #[.int i t,.int j t',.int (-1) t'']},toks:=s1.toks}:Shared)=s2 at I2⊢;refine⟨s2.heap.objs.size,[s2.heap.objs.size],_,_,H1,rfl,I2.kept (t':=s2.toks) λ b o e=>Uv _ e,Ga _ i (i-j).toNat,?_,λ b hb=>?_,q⟩
    . show IsRangeIter _ _ (i+((0:Nat):Int)*(-1)) ((((i-j).toNat:Nat):Int)-((0:Nat):Int)) (-1);have e1:i+((0:Nat):Int)*(-1)=i:=by lia
      have e2:(((i-j).toNat:Nat):Int)-((0:Nat):Int)=Builtin.Range.rangeSize i j (-1):=by rw[x_];lia
      rw[e1,e2];exact UO _ rfl
    . have e:b=s2.heap.objs.size:=by simpa using hb
      subst e;exact I2.uc (UB _) (I2.aC.fresh (UB _))
end
def i6(a:Int)(n:Nat):List D:=(List.range n).map λ(k:Nat)=>D.int (a+(k:Nat)*(-1))
theorem rn{a:Int}{n k:Nat}:(i6 a n)[k]?=if k<n then some (.int (a+(k:Nat)*(-1)))else none:=by
 unfold i6;rw[UM];by_cases h:k<n
 . rw[VD h,UA h];rfl
 . rw[Wc (by simpa using h),Uy h];rfl
theorem m4{a:Int}{n:Nat}:(i6 a n).length=n:=by unfold i6;simp
theorem Nv{α:List (Option Addr)}{G:Hp}{a:Int}{n:Nat}:ur (NV a n) α G (λ _=>True) (i6 a n) where
 stop:=λ m α' G' F' H' st' s P S o hn=>by rw[m4]at hn;exact hn
 go:=λ m d α' G' F' H' st' s P S o hn=>by
  rw[rn]at hn;split at hn
  . assumption
  . cases hn
 m7:=λ m d α' G' F' H' st' x H'' s P S o hn y=>by
  obtain⟨rfl,rfl⟩:=y;rw[rn]at hn;split at hn
  . cases hn;exact⟨G',Step.refl,P,S,by unfold Rep;rfl⟩
  . cases hn
def QU(ds:List D)(st1:af)(K:List D->(af->Prop)->af->Prop):Prop:=match ds with
 | [.int i,.int j,.int c]=>(c= -1/\ -(2^62)<=i/\i<2^62/\ -(2^62)<=j/\j<2^62)/\K (i6 i (i-j).toNat) (λ _=>True) st1
 |_=>False
@[irreducible] def yS:List D->af->(List D->(af->Prop)->af->Prop)->Prop:=QU
def wx(t:DA):DI:=λ σ st K=>t σ st λ ds st1=>yS ds st1 K
theorem Fl{X:Cx}{tg iter:Expr}{t:DA}(h:PI X tg iter (KC (LA t))):PI X tg iter (LI (wx t)):=PI.imp h λ σ H R ⟨α,σd,st,K,G,F,P,RS,S,t,k⟩=>by
 refine⟨α,σd,st,_,G,F,P,RS,S,t,λ ds st1 q α1 G1 H1 vs s1 P1 S1 r1=>?_⟩;unfold yS at q;match ds,q,r1 with
 | [.int i,.int j,.int c],q,r1=>
   obtain⟨v,u,w,rfl,r2,r3,r4⟩:=yW r1 rfl;unfold Rep at r2 r3 r4;subst r2 r3 r4;obtain⟨⟨rfl,q1⟩,q2⟩:=q;exact⟨i,j,rfl,q1,k _ _ st1 q2 _ α1 G1 H1 s1 P1 S1 Nv⟩
theorem LF{st:af}{i j:Int}{K:List D->(af->Prop)->af->Prop}(h: -(2^62)<=i/\i<2^62/\ -(2^62)<=j/\j<2^62)(k:K (i6 i (i-j).toNat) (λ _=>True) st):yS [.int i,.int j,.int (-1)] st K:=by unfold yS;exact⟨⟨rfl,h⟩,k⟩
theorem HH{X:Cx}{tg a b c:Expr}{p pos:Pos}{ar:DA}(hg:Gl X "range")(hm:X.mg "range"=none)(ha:JA X [a,b,c] ar)(hs:notStar a=true:=by rfl)(hs2:notStar b=true:=by rfl)(hs3:notStar c=true:=by rfl):JI X tg (.Call (.Name "range" p) [a,b,c] [] pos) (wx ar):=by
 unfold JI;unfold JA at ha;exact Fl (GQ hg hm ha hs hs2 hs3)
section
variable {X:Cx}
def QO:V->V->Hp->VK->Prop:=λ o i H Q=>∃p xs k j v,o= .ref p/\i= .int k/\H p=some (.lst xs)/\0<=k/\jE xs.length k=some j/\xs[j]?=some v/\Q v H
theorem GV:OW X QO:=by
 intro pins s σ H o i ov iv Q I ro ri h;obtain⟨p,xs,k,j,v,rfl,rfl,hp,h0,hj,hv,q⟩:=h;cases ro;obtain⟨t,rfl⟩:=ri;obtain⟨ao,n,r,ho,hz⟩:=I.lst hp;obtain⟨h1,h2,h3,h4⟩:=vW hj;have hl:=r.length;have hn:=oC
 have hk:k.toNat=j:=by
  rw[YN h0 h4]at h1;exact Vi h1
 obtain⟨w,ew,rw'⟩:=r.get hv;have isL:s.heap.IsList p ao.toArray:=⟨_,ho,rfl,n,rfl⟩
 exact wpAny_getItem_list isL h0 (by lia) (by rw[hk];simpa using ew) ⟨v,H,I,rw',q⟩
end
def Ee(x y:D)(st:af)(K:DK):Prop:=match x,y with
 | .ref n,.int k=>(match st[n]? with|some (.lst xs)=>0<=k/\(match di xs k with|some (.int u)=>K (.int u) st|_=>False)|_=>False)
 |_,_=>False
@[irreducible] def yE:D->D->af->DK->Prop:=Ee
def EF(f:Int->Int->Int)(x y old d:D)(st:af)(K:af->Prop):Prop:=match old,d with
 | .int u,.int v=>um x y (.int (f u v)) st K
 |_,_=>False
@[irreducible] def yU(f:Int->Int->Int):D->D->D->D->af->(af->Prop)->Prop:=EF f
def A4(f:Int->Int->Int)(to ti te:DE):DS:=λ D σ st=>to σ st λ x st1=>ti σ st1 λ y st2=>yE x y st2 λ u st3=>te σ st3 λ d st4=>yU f x y u d st4 λ st5=>D.nx σ st5
theorem Lw{n:Nat}{k u:Int}{xs:List D}{st:af}{K:DK}(e:st[n]?=some (.lst xs))(h0:0<=k)(a:di xs k=some (.int u))(q:K (.int u) st):yE (.ref n) (.int k) st K:=by
 unfold yE Ee;simp only[e,a];exact⟨h0,q⟩
theorem M5{f:Int->Int->Int}{n j:Nat}{k u v:Int}{xs:List D}{st:af}{K:af->Prop}(e:st[n]?=some (.lst xs))(a:jE xs.length k=some j)(q:K (st.set n (.lst (xs.set j (.int (f u v)))))):yU f (.ref n) (.int k) (.int u) (.int v) st K:=by
 unfold yU EF um;simp only[e,a];exact q
section
variable {X:Cx}{e o i value:Expr}{es:List Expr}{te to ti:DE}{t:DA}{pos pos' tpos apos p:Pos}{C f:Addr}{fl m x:Str}{S:bq}{k:Nat}{fd:FuncData}{ps:List Str}
theorem HL{op:Operator}{g:Int->Int->Int}(ho:PE X o (LE to))(hi:PE X i (LE ti))(he:PE X e (LE te))(hp:An X op (Ck g))
 (ha:∀ov iv new,augStore i ov iv new=(do holding [new,ov,iv] (setItem ov iv new);release [new,ov,iv] [];pure .next)):PS X (.AugAssign (.Subscript o i tpos) op e pos) (LS (A4 g to ti te)):=PS.imp (ND ho hi GV he hp set_list ha) λ D σ H ⟨α,σd,st,DD,G,F,P,R,S,t,k⟩=>by
 refine⟨α,σd,st,_,G,F,P,R,S,t,λ x st1 q α1 G1 H1 v1 s1 P1 S1 r1=>?_⟩;refine⟨α1,σd,st1,_,G1,F,P1,R.step s1,S1,q,λ y st2 q2 α2 G2 H2 v2 s2 P2 S2 r2=>?_⟩;unfold yE Ee at q2;cases x<;>cases y<;>try exact q2.elim
 rename_i n kk;simp only at q2;split at q2
 . rename_i xs ex;obtain⟨h0,q2⟩:=q2;split at q2
   . rename_i u hu;obtain⟨a,ea,vs,hv,rv⟩:=S2.fG ex;have r1':=cW ea (r1.step s2);subst r1';unfold Rep at r2;unfold di at hu;cases ej:jE xs.length kk with
     |none=>rw[ej]at hu;cases hu
     |some j=>
      rw[ej]at hu;have hu2:xs[j]?=some (.int u):=hu;obtain⟨w,hw,rw'⟩:=rv.get hu2;unfold Rep at rw';subst rw';refine⟨a,vs,kk,j,.int u,rfl,r2,P2.get hv,h0,by rw[<-rv.length];exact ej,hw,?_⟩;refine⟨α2,σd,st2,_,G2,F,P2,(R.step s1).step s2,S2,q2,λ d st3 q4 α3 G3 H3 v3 s3 P3 S3 r3=>?_⟩;unfold yU EF at q4;cases d<;>try exact q4.elim
      rename_i v;unfold Rep at r3;refine⟨u,v,rfl,r3,?_⟩;unfold um at q4;simp only at q4;split at q4
      . rename_i xs3 e3;split at q4
        . rename_i j3 ej3;obtain⟨a',ea',vs3,hv3,rv3⟩:=S3.fG e3;have ra:=cW ea' ((r1.step s2).step s3);cases ra;have hm:some a∈α3:=U8 ea';refine⟨a,vs3,kk,j3,rfl,r2,P3.get hv3,by rw[<-rv3.length];exact ej3,?_⟩;refine(((k.nx.at s1).at s2).at s3) σd _ q4 α3 (upd G3 a (.lst (vs3.set j3 (.int (g u v))))) _ σ (Step.write hm) (P3.write hv3) ((((R.step s1).step s2).step s3).step (Step.write hm)) ?_;exact S3.write ea' ⟨_,a_,(aO.mpr (pL (show Rep α3 G3 (.int (g u v)) (.int (g u v)) by unfold Rep;rfl) j3 (aO.mp rv3))).step (Step.write hm)⟩
        . exact q4.elim
      . exact q4.elim
   . exact q2.elim
 . exact q2.elim
theorem Fv{value o:Expr}{fl:Str}{pos':Pos}{n:Nat}{env:Env}:swapsWith value (some (.Attribute o fl pos')) n env=pure false:=by cases value<;>rfl
theorem cA(c:kK X.K C)(na:fc X.K C fl)(he:JE X e te)(hb:attributeBase e fl X.env (eval e X.env)=eval e X.env:=by rfl):JE X (.Attribute e fl pos) (cX C fl te):=by unfold JE at*;exact RO c na he hb
theorem jr(c:kK X.K C)(na:fc X.K C fl)(ho:JE X o to)(hv:JE X value te):JS X (.Assign [.Attribute o fl pos'] value pos) (ko C fl to te):=by unfold JS;unfold JE at*;exact OY c na ho hv Fv
theorem Jc{op:Operator}{g:Int->Int->Int}(ho:JE X o to)(hi:JE X i ti)(he:JE X e te)(hp:An X op (Ck g))
 (ha:∀ov iv new,augStore i ov iv new=(do holding [new,ov,iv] (setItem ov iv new);release [new,ov,iv] [];pure .next):=by intros;rfl):JS X (.AugAssign (.Subscript o i tpos) op e pos) (A4 g to ti te):=by unfold JS;unfold JE at*;exact HL ho hi he hp ha
theorem gq{pl:Sem Bool}(he:JE X o to)(c:kK X.K C)(hm:Meth X.K C m f)(F:c_ X.prog X.w X.K X.mg X.base fX k f fd ps (gu S))(hr:cB k X.A)(hb:Binds X.K fd ps [])(ha:JA X (e::es) t)
 (hs:notStar e=true:=by rfl) (hs2:fK es=true:=by rfl)
 (ht:eval (.Call (.Attribute o m apos) (e::es) [] pos) X.env=(do
   let ov <-eval o X.env
   standAt apos.atName
   let(f,first) <-holding [ov] (getMethod ov m pl)
   callWith pos f first (backTo pos (starEach (e::es) X.env)) (backToKw pos (keywordEach [] X.env))):=by rfl):
 JE X (.Call (.Attribute o m apos) (e::es) [] pos) (e_ C m S to t):=by
 unfold JE at*;unfold JA at ha;exact PE.imp (Mc he c hm F hr hb .nil yO ha (cv hs) (i_ hs2) ht) λ _ _ _ h=>LE.QM h
theorem M4{pl:Sem Bool}(he:JE X o to)(c:kK X.K C)(hm:Meth X.K C m f)(F:c_ X.prog X.w X.K X.mg X.base fX k f fd ps (gu S))(hr:cB k X.A)(hb:Binds X.K fd ps [])
 (ht:eval (.Call (.Attribute o m apos) [] [] pos) X.env=(do
   let ov <-eval o X.env
   standAt apos.atName
   let(f,first) <-holding [ov] (getMethod ov m pl)
   callWith pos f first (backTo pos (starEach [] X.env)) (backToKw pos (keywordEach [] X.env))):=by rfl):
 JE X (.Call (.Attribute o m apos) [] [] pos) (e_ C m S to ag):=by
 unfold JE at*;refine PE.imp (HQ he c hm F hr hb .nil yO ht) λ σ H Q h=>?_;obtain⟨α,σd,st,K,G,F,P,R,Sr,tt,k⟩:=h;refine⟨α,σd,st,_,G,F,P,R,Sr,tt,λ d st1 q α1 G1 H1 v s1 P1 S1 r1=>?_⟩;unfold uM yJ at q;cases d<;>try exact q.elim
 simp only at q;split at q
 . rename_i n C' fs e';obtain⟨rfl,hl,q⟩:=q;obtain⟨a,ea,dx,vs,h1,h2⟩:=S1.vz e';have r1':=cW ea r1;subst r1';exact⟨a,dx,vs,rfl,P1.get h1,h2.none hl,α1,_,st1,K,G1,F,P1,by unfold aE;exact⟨_,_,rfl,r1,by unfold aE;rfl⟩,S1,q,k.at s1⟩
 . exact q.elim
theorem Fi(M:Mk X.K C f)(F:c_ X.prog X.w X.K X.mg X.base fX k f fd ps (gu S))(hr:cB (k+1) X.A)(hg:Gl X x)(hmg:X.mg x=some (.ref C))(hb:Binds X.K fd ps [])(ha:JA X (e::es) t)(hdb:(x==("__debug__":Str))=false)
 (hs:notStar e=true:=by rfl) (hs2:fK es=true:=by rfl):JE X (.Call (.Name x p) (e::es) [] pos) (yL C S t):=by
 unfold JE;unfold JA at ha;exact PE.imp (Mz M F hr hg hmg hb .nil yO ha hdb (cv hs) (i_ hs2)) λ _ _ _ h=>LE.make h
end
end L3
namespace L2
open PySem PySem.Spec PyProof.Rows
structure Entry(K:PySem.W.Frag)(ts:List (Addr×Addr))(a:Addr)(ns:List Int)(H:Hp):Prop where
 lst:kH K H a (ns.map V.int)
 tab:∀q∈ts,H q.2=some (.mj #[])/\q.2≠a
theorem xJ:∀ {vs:List Value} {ns:List Int},IntsAre vs ns->Vals (ns.map V.int) vs
 |_,_,.nil=> .nil
 |_,_,.cons n t h=> .cons ⟨t,rfl⟩ (xJ h)
structure NN(K:PySem.W.Frag)(ts:List (Addr×Addr))(h:Heap):Prop where
 hd:∀q∈ts,PySem.W.codeHdIn K q.1 q.2=true
 no:∀q∈ts,K.lookup q.2=none
 at':∀q∈ts,h.get? q.2=some (PySem.W.tabObj #[])
theorem FZ{P:Program}{w:World}{K:PySem.W.Frag}{mg mb:Str->Option Value}{k:Nat}{fa a:Addr}{fd:FuncData}{x:Str}{sp:Sp}{s₁:Shared}{vs:List Value}{ns:List Int}{ts:List (Addr×Addr)}
 (KX:K.In s₁.heap) (hns:s₁.heap.Ns mainGlobals mg) (hb:s₁.heap.Ns builtinsNs mb) (hbb:∀x:Str,x≠"__name__"->mb x=bootBuiltins x) (hlim:s₁.heap.NoLimit) (hse:s₁.heap.NoSeer) (hgt:P.given.tree=none)
 (hbm:∃bm ob,mg "__builtins__"=some (.ref bm)/\bm≠builtinsNs/\s₁.heap.get? bm=some ob/\ob.cls= .type "module"/\ob.dict=some builtinsNs/\ob.data= .plain) (hT:NN K ts s₁.heap) (hg:s₁.gens= #[])
 (ha:s₁.heap.get? a=some {cls:= .type "list",data:= .seq vs.toArray}) (hi:IntsAre vs ns) (hl:ns.length<=sizeLine) (hr:cB k callerA)
 (F:∀base:Heap,K.In base->base.Ns mainGlobals mg->c_ P w K mg base (λ _ _ _ _ _ _=>False) k fa fd [x] sp) (hbind:∀(s:Shared) (u:Value),BindsTo s fd ⟨[u],[]⟩ [(x,u)])
 (hsp:∀H:Hp,Entry K ts a ns H->sp [.ref a] H (λ v _=>v= .bl true) λ _ _ _=>False):
 codeAny (model P w) callerA (.call (.ref fa) ⟨[.ref a],[]⟩) (λ r s'=>r= .ok (.ret (.bool true))/\OldK s₁.heap s'.heap/\s'.os=s₁.os/\AllBare s'.gens) s₁:=by
 have rv:=xJ hi;have lenV:=hi.length
 have nta:∀q∈ts,q.2≠a:=λ q hq z=>by
  have:=hT.at' q hq;rw[z,ha]at this;cases this
 let sc:Option HO:=match K.lookup a with
  |some _=>none
  |none=>some (.iE {cls:= .type "list",data:= .seq vs.toArray} (.lst (ns.map V.int)))
 let H:Hp:=λ b=>if b=a then sc else if b∈ts.map (·.2)then some (.mj #[])else none
 have Ha:H a=sc:=UA rfl
 have Ht:∀q∈ts,H q.2=some (.mj #[]):=λ q hq=>by
  show(if q.2=a then sc else if q.2∈ts.map (·.2)then some (HO.mj #[])else none)=_;rw[Uy (nta q hq),UA (List.mem_map_of_mem hq)]
 have Hs:∀b u,H b=some u->(b=a/\K.lookup a=none/\u= .iE {cls:= .type "list",data:= .seq vs.toArray} (.lst (ns.map V.int)))\/(∃q∈ts,q.2=b/\u= .mj #[]):=λ b u e=>by
  have e':(if b=a then sc else if b∈ts.map (·.2)then some (HO.mj #[])else none)=some u:=e;by_cases hba:b=a
  . rw[UA hba]at e'
    have e2:(match K.lookup a with
     |some _=>none
     |none=>some (HO.iE {cls:= .type "list",data:= .seq vs.toArray} (.lst (ns.map V.int))))=some u:=e'
    cases q:K.lookup a with
    |some o=>rw[q]at e2;cases e2
    |none=>rw[q]at e2;cases e2;exact .inl ⟨hba,rfl,rfl⟩
  . rw[Uy hba]at e';by_cases hbt:b∈ts.map (·.2)
    . rw[UA hbt]at e';cases e';obtain⟨q,hq,e⟩:=U6.mp hbt;exact .inr ⟨q,hq,e,rfl⟩
    . rw[Uy hbt]at e';cases e'
 have aC:gv P w H s₁.heap:=λ b u e=>by
  rcases Hs b u e with⟨rfl,_,rfl⟩|⟨q,hq,rfl,rfl⟩
  . exact⟨ha,by rw[Uz];exact hl,vs,_,rv,ha⟩
  . exact hT.at' q hq
 have hE:Entry K ts a ns H:=by
  refine⟨?_,λ q hq=>⟨Ht q hq,nta q hq⟩⟩;cases q:K.lookup a with
  |some o=>
   have e:=KX a o q;rw[ha]at e;cases e;exact .inr ⟨_,vs.toArray,_,q,rfl,rfl,rfl,by rw[UI,lenV];exact hl,by simpa using rv⟩
  |none=>
   refine .inl (.inr ⟨{cls:= .type "list",data:= .seq vs.toArray},?_⟩);rw[Ha]
   show(match K.lookup a with
    |some _=>none
    |none=>some (HO.iE {cls:= .type "list",data:= .seq vs.toArray} (.lst (ns.map V.int))))=_
   rw[q]
 have dictNo:∀ {b:Addr} {o:Obj},s₁.heap.get? b=some o->(∀es ep,o.data≠ .seq es ep)->o.cls≠ .none->H b=none:=λ{b o} e d1 d2=>by
  cases q:H b with
  |none=>rfl
  |some u=>
   rcases Hs b u q with⟨rfl,_,_⟩|⟨t,ht,rfl,_⟩
   . rw[ha]at e;cases e;exact absurd rfl (d1 _ _)
   . rw[hT.at' t ht]at e;cases e;exact absurd rfl d2
 have nsK:∀ {b:Addr} {m:Str->Option Value},s₁.heap.Ns b m->(nL s₁.heap H).Ns b m:=λ{b m} ⟨o,es,ep,e,d,r⟩=>by
  refine⟨o,es,ep,pv e ?_,d,r⟩;cases q:H b with
  |none=>rfl
  |some u=>
   rcases Hs b u q with⟨rfl,_,_⟩|⟨t,ht,rfl,_⟩
   . rw[ha]at e;cases e;cases d
   . rw[hT.at' t ht]at e;cases e;cases d
 have hKb:K.In (nL s₁.heap H):=λ b o e=>pv (KX b o e) (by
  cases q:H b with
  |none=>rfl
  |some u=>
   rcases Hs b u q with⟨rfl,z,_⟩|⟨t,ht,rfl,_⟩
   . rw[z]at e;cases e
   . rw[hT.no t ht]at e;cases e)
 obtain⟨bm,ob,b1,b2,b3,b4,b5,b6⟩:=hbm;have hbmK:(nL s₁.heap H).get? bm=some ob:=pv b3 (dictNo b3 (λ es ep z=>by rw[b6]at z;cases z) (λ z=>by rw[b4]at z;cases z))
 have seK:(nL s₁.heap H).NoSeer:=by
  obtain⟨⟨m1,a1,a2⟩,⟨m2,c1,c2⟩,⟨m3,d1,d2⟩,⟨mg',bm',ob',e1,e2,e3,e4,e5⟩⟩:=hse;refine⟨⟨m1,nsK a1,a2⟩,⟨m2,nsK c1,c2⟩,⟨m3,nsK d1,d2⟩,⟨mg',bm',ob',nsK e1,e2,pv e3 ?_,e4,e5⟩⟩;cases q:H bm' with
  |none=>rfl
  |some u=>
   rcases Hs bm' u q with⟨rfl,_,_⟩|⟨t,ht,rfl,_⟩
   . rw[ha]at e3;cases e3;exact absurd (show Value.type "list"=Value.type "module" from e4) (by intro z;injection z with z;exact absurd z (by decide))
   . rw[hT.at' t ht]at e3;cases e3;cases e4
 have hM:Mod K mg (nL s₁.heap H):=⟨hKb,nsK hns,⟨mb,nsK hb,hbb⟩,let⟨mc,h1,h2⟩:=hlim;⟨mc,nsK h1,h2⟩,seK,⟨bm,ob,b1,b2,hbmK,b4,b5,b6⟩⟩
 have e0:t8 P w K mg (nL s₁.heap H) callerA [] s₁ H:=⟨rfl,hM,λ b o e=>NB e,Y8 (E9 _ _),trivial,λ b hb=>absurd (show b∈([]:List Addr)from hb) (by simp),aC,.of_eq hg,hgt⟩
 refine YA ((F _ hKb (nsK hns)).run callerA [] s₁ H ⟨[.ref a],[]⟩ [.ref a] [.ref a] _ _ hr e0 (hbind s₁ (.ref a)) (.cons rfl .nil) (hsp H hE)) λ r s' h=>?_;cases r with
 |error e=>exact False.elim h
 |ok fl=>
  cases fl with
  |next=>exact False.elim h
  |brk=>exact False.elim h
  |cont=>exact False.elim h
  |ret u=>
   obtain⟨v,H',os,bare,un,hok',r',q⟩:=h;have q':v= .bl true:=q;subst q';obtain rfl:u=Value.bool true:=r';have noF:∀b:Addr,b∉oy ([]:List Env):=λ b z=>absurd (show b∈([]:List Addr)from z) (by simp);refine⟨rfl,⟨λ b o e=>?_,λ b o e=>un.there b o e (by simp)⟩,os,bare⟩;cases q:H b with
   |none=>exact .inl (un.keep b o e q (noF b) (by simp))
   |some u=>
    rcases Hs b u q with⟨rfl,_,rfl⟩|⟨t,ht,rfl,rfl⟩
    . obtain⟨e2,_⟩:=hok' b _ (un.og b _ _ q);rw[ha]at e;cases e;exact .inl e2
    . obtain⟨more,e1⟩:=un.nD _ _ q;have e2:s'.heap.get? t.2=some {cls:= .none,data:= .fields (#[]++more)}:=hok' _ _ e1;have e3:=hT.at' t ht;rw[e3]at e;cases e;have C:PySem.W.CodeHd s₁.heap t.1 t.2:=PySem.W.codeHd_of_K KX (hT.hd t ht);exact .inr (.inl ⟨(C.tab e3).isCodeTable,rfl,#[],more,rfl,e2⟩)
theorem Qz{l:PySem.W.OpenLaw}{n k:Nat}{q:Program}{loose:List Str}{XP:(Str->Option Value)->Heap->Prop}{YP:World->Heap->Prop}{d:DefRec}{K:Params->PySem.W.Frag}{sp:World->Sp}{x:Str}{ts:List (Addr×Addr)}
 (hn:l.most=some n) (hn2:n<=sizeLine) (hdf:d.params.defaults=[]) (hr:cB k callerA) (hq:importsNone q=true) (hgt:l.prog.given.tree=none)
 (hY:∀(w:World) (h:Heap),YP w h->(K w.params).In h/\NN (K w.params) ts h)
 (F:∀(w:World) (mg:Str->Option Value) (fa:Addr) (h:Heap),(K w.params).In h->h.Ns mainGlobals mg->mg d.name=some (.ref fa)->
   ∃fd:FuncData,(∀(s:Shared) (u:Value),BindsTo s fd ⟨[u],[]⟩ [(x,u)])/\
    ∀base:Heap,(K w.params).In base->base.Ns mainGlobals mg->c_ l.prog w (K w.params) mg base (λ _ _ _ _ _ _=>False) k fa fd [x] (sp w))
 (hsp:∀(w:World) (H:Hp) (a:Addr) (ns:List Int),ns.length<=n->Entry (K w.params) ts a ns H->sp w [.ref a] H (λ v _=>v= .bl true) λ _ _ _=>False):
 PySem.W.WalkO q loose XP YP l.row.toRowW d [] (λ f vs=>PySem.call f vs):=by
 refine Att.BA hn hdf λ w s₀ s₁ mg mb fa o pm cd doc a vs ns G Y ho hd hcd hmg hobj hints hlen hg=>?_;obtain⟨KX,hT⟩:=hY w _ Y;obtain⟨fd,hb,hF⟩:=F w mg fa _ KX G.T.g hmg;exact FZ KX G.T.g G.T.b G.T.builtins G.T.nolimit (G.T.seer hq) hgt G.T.bmain hT hg hobj hints (UG hlen hn2) hr hF hb λ H hE=>hsp w H a ns hlen hE
end L2
namespace L3
open PySem PySem.Spec L2
open PyProof.Rows hiding St
section
variable {X:Cx}{pins:List (Addr×Obj)}{σ:L2.St}{H:Hp}{s:Shared}{p:Addr}{o o':Obj}{h':Heap}
end
section
variable {X:Cx}{pins:List (Addr×Obj)}{σ:L2.St}{R:Hp->Prop}{s:Shared}{A:Around}{E:Value->Shared->Prop}{a kS:Addr}{e1 e:Nat}{keys:Array Value}{P:PySem.Fin->Shared->Prop}
structure Own(X:Cx)(pins:List (Addr×Obj))(p:Addr):Prop where
 ge:X.s₀.heap.objs.size<=p
 ne:∀q∈X.pn++pins,q.1≠p
end
section
variable {X:Cx}{scope:Scope}{Nc:List Str}{fr:List (Option Nat)}{p qual:Str}{f c:Addr}{pins:List (Addr×Obj)}{σ:L2.St}{H:Hp}{s:Shared}
end
section
variable {X:Cx}{scope:Scope}{Nc:List Str}{fr:List (Option Nat)}{p x qual:Str}{params:Arguments}{e body:Expr}{te tb:DE}{lpos kpos pos ppos:Pos}{c0 T:Addr}{n0:Nat}
end
end L3
namespace L3
open PySem L2
open PySem.Spec hiding items?
open PyProof.Rows hiding St
def EY(sc:Scope)(N gl:List Str):Bool:=
 N.all (λ x=>(sc.names.lookup x==some .local||sc.names.lookup x==some .cell)&&x != "__debug__"&&x != "__classdict__")&&gl.all (λ x=>sc.names.lookup x==some .globalImplicit&&x != "__debug__")
structure VS(sc:Scope)(N gl:List Str):Prop where
 ok:EY sc N gl=true
theorem VS.at_{sc:Scope}{N gl:List Str}(V:VS sc N gl){i:Nat}{x:Str}(h:N[i]?=some x):Loc sc x/\(x==("__debug__":Str))=false/\(x==("__classdict__":Str))=false:=by
 have o:=V.ok;unfold EY at o;have:=UP.mp (XG.mp o).1 x (U8 h);simp only[UR,W_,Wq,Yu,ne_eq]at this;exact⟨this.1.1,YK this.1.2,YK this.2⟩
theorem VS.So{sc:Scope}{N gl:List Str}(V:VS sc N gl){i:Nat}{x:Str}(h:gl[i]?=some x):sc.names.lookup x=some .globalImplicit/\(x==("__debug__":Str))=false:=by
 have o:=V.ok;unfold EY at o;have:=UP.mp (XG.mp o).2 x (U8 h);simp only[UR,Wq,Yu,ne_eq]at this;exact⟨this.1,YK this.2⟩
section
variable {X:Cx}{sc:Scope}{N gl:List Str}{x:Str}{pos:Pos}
theorem VS.nm(V:VS X.env.scope X.N gl)(i:Nat)(h:X.N[i]?=some x:=by rfl):JE X (.Name x pos) (aa i):=
 let q:=V.at_ h
 GX q.2.1 q.2.2 (q.1.elim .inl λ z=> .inr (.inl z)) h
theorem VS.l(V:VS sc N gl)(i:Nat)(h:N[i]?=some x:=by rfl):Loc sc x:=(V.at_ h).1
theorem VS.g(V:VS sc N gl)(i:Nat)(h:gl[i]?=some x:=by rfl):sc.names.lookup x=some .globalImplicit:=(V.So h).1
theorem VS.d(V:VS sc N gl)(i:Nat)(h:gl[i]?=some x:=by rfl):(x==("__debug__":Str))=false:=(V.So h).2
theorem jw{n:Nat}(hN:X.N[n]?=some x:=by rfl)(hd:((x==("__debug__":Str))||(x==("__classdict__":Str)))=false:=by decide+kernel)
 (hv:zy X.env.scope x:=by first|exact Or.inl rfl|exact Or.inr (Or.inl rfl)|exact Or.inr (Or.inr rfl)):JE X (.Name x pos) (aa n):=
 GX (Bool.or_eq_false_iff.mp hd).1 (Bool.or_eq_false_iff.mp hd).2 hv hN
@[irreducible] def qU:cO:=tE (λ _ j=>j≠0) λ i j=> .int (i.fdiv j)
theorem MS{k:Nat}(hr:cB k X.A)(hs:X.stack=X.env::X.outer)(hgen:X.env.scope.isGenerator=false)(hco:X.env.scope.isCoroutine=false):bE X (binaryOp .FloorDiv) (LR qU):=by
 unfold qU;refine jG (g':=λ i j=> .int (i.fdiv j)) (λ _ _ _ _=>by unfold Rep;rfl) ?_;intro pins s σ H x y v u Q I rx ry h;obtain⟨i,j,rfl,rfl,hc,q⟩:=h;obtain⟨t,rfl⟩:=rx;obtain⟨t',rfl⟩:=ry;refine floordiv_int hc ⟨.int (i.fdiv j),H,I.tok _,⟨_,rfl⟩,q⟩ (.inr (PySem.PylongRoom.of I.nolimit ?_ ?_))
 . have:=hr.dp;show X.A.depth+100<_;lia
 . exact PySem.SeerAt.of (env:=X.env) (l:=X.outer) (I.mod.seer.keeps I.bk) I.ok.gt (by rw[I.ok.frames,hs]) hgen hco I.ok.blt I.ok.glob
theorem Il{st:af}{K:DK}{i j:Int}(h0:j≠0)(k:K (.int (i.fdiv j)) st):qU (.int i) (.int j) st K:=by unfold qU;exact⟨h0,k⟩
end
def Fw(tl:List (Addr×Pos×Str)):bq:=λ ds st K=>∃ns:List Int,ds=[.lst (ns.map .int)]/\ns.length<=63/\st=tl.map (λ q=> .tab q.1 q.2.1 q.2.2 false)/\∀st',K (.bl true) st'
def Gp(K:PySem.W.Frag)(ts:List (Addr×Addr)):Sp:=λ vs H Q _=>∃(a:Addr) (ns:List Int),vs=[.ref a]/\Entry K ts a ns H/\ns.length<=63/\∀H',Q (.bl true) H'
theorem Fo{K:PySem.W.Frag}{ts:List (Addr×Addr)}{tl:List (Addr×Pos×Str)}(nl:E_ K=true)(hts:ts.map (·.2)=tl.map (·.1))(nd:(tl.map (·.1)).Nodup){vs:List V}{H:Hp}{Q:VK}{E:XK}(h:Gp K ts vs H Q E):gu (Fw tl) vs H Q E:=by
 obtain⟨a,ns,rfl,hE,hl,q⟩:=h
 have tabs:∀q∈tl,H q.1=some (.mj #[])/\q.1≠a:=λ q hq=>by
  have h1:q.1∈ts.map (·.2):=by rw[hts];exact List.mem_map_of_mem hq
  obtain⟨t,ht,e⟩:=U6.mp h1;rw[<-e];exact hE.tab t ht
 have at_:∀(i:Nat) (x:Addr),(tl.map λ q=>some q.1)[i]?=some (some x)->∃q,tl[i]?=some q/\q.1=x:=λ i x e=>by
  rw[UM]at e;cases z:tl[i]? with
  |none=>rw[z]at e;cases e
  |some w=>rw[z]at e;simp at e;exact⟨w,rfl,e⟩
 have nota:some a∉tl.map λ q=>some q.1:=λ z=>by
  obtain⟨w,hw,e⟩:=U6.mp z;exact(tabs w hw).2 (Vi e)
 rcases hE.lst with hS|⟨o,ao,n,e,hc,_⟩
 . refine⟨tl.map λ q=>some q.1,[.lst (ns.map .int)],tl.map (λ q=> .tab q.1 q.2.1 q.2.2 false),λ d _=>d= .bl true,H,λ _=>none,⟨λ b=>by cases H b<;>rfl,λ _ _ _=>rfl⟩,?_,⟨by simp,λ i j x e1 e2=>?_,λ n c e=>?_⟩,⟨ns,rfl,hl,rfl,λ _=>rfl⟩,?_⟩
   . unfold aE;refine⟨.ref a,[],rfl,?_,by unfold aE;rfl⟩;unfold Rep;exact⟨a,ns.map V.int,rfl,nota,hS,xV ns⟩
   . obtain⟨p,hp,e3⟩:=at_ i x e1;obtain⟨r,hr,e4⟩:=at_ j x e2;have k1:(tl.map (·.1))[i]?=some x:=by rw[UM,hp,<-e3];rfl
     have k2:(tl.map (·.1))[j]?=some x:=by rw[UM,hr,<-e4];rfl
     have hi:=(Uw.mp k1).1;exact(List.getElem?_inj hi nd).mp (k1.trans k2.symm)
   . rw[UM]at e;cases z:tl[n]? with
     |none=>rw[z]at e;cases e
     |some w=>
      rw[z]at e;have e':Cell.tab w.1 w.2.1 w.2.2 false=c:=Vi e;subst e';refine .inr ⟨w.1,by rw[UM,z];rfl,rfl,#[],(tabs w (U8 z)).1,trivial,.inl ⟨rfl,rfl⟩⟩
   . rintro d st' rfl α' G' H' v _ _ _ r;unfold Rep at r;subst r;exact q H'
 . exact absurd hc (ym nl e)
section
variable {K:PySem.W.Frag}{x qual p1 p2 p3 p4 p5:Str}{st:Stmt}{f:Addr}{fd:FuncData}
abbrev qb(x qual:Str)(st:Stmt)(kV doc pm:Value)(an:Option Addr)(cdv ct:Value):FuncData:=PySem.W.fnOf x qual (j9 st) (gE st) (a9 st) .none kV doc pm an cdv ct
theorem fR{α:Type}{n:Nat}{us:List α}(h:us.length=n+1):∃a r,us=a::r/\r.length=n:=by
 cases us with
 |nil=>cases h
 |cons a r=>exact⟨a,r,rfl,Nat.succ.inj h⟩
theorem r8{α:Type}{us:List α}(h:us.length=0):us=[]:=V8.mp h
theorem R_(F:ma K x qual st f fd)(h:∀kV doc pm an cdv ct a,bindArgs (qb x qual st kV doc pm an cdv ct) ⟨[a],[]⟩=pure [(p1,a)]):Binds K fd [p1] []:=
 F.binds λ kV doc pm an cdv ct us hl=>by
  obtain⟨a,r1,rfl,h1⟩:=fR hl;cases r8 h1;exact h kV doc pm an cdv ct a
theorem Sl(F:ma K x qual st f fd)(h:∀kV doc pm an cdv ct a b,bindArgs (qb x qual st kV doc pm an cdv ct) ⟨[a,b],[]⟩=pure [(p1,a),(p2,b)]):Binds K fd [p1,p2] []:=
 F.binds λ kV doc pm an cdv ct us hl=>by
  obtain⟨a,r1,rfl,h1⟩:=fR hl;obtain⟨b,r2,rfl,h2⟩:=fR h1;cases r8 h2;exact h kV doc pm an cdv ct a b
theorem SJ(F:ma K x qual st f fd)(h:∀kV doc pm an cdv ct a b c,bindArgs (qb x qual st kV doc pm an cdv ct) ⟨[a,b,c],[]⟩=pure [(p1,a),(p2,b),(p3,c)]):Binds K fd [p1,p2,p3] []:=
 F.binds λ kV doc pm an cdv ct us hl=>by
  obtain⟨a,r1,rfl,h1⟩:=fR hl;obtain⟨b,r2,rfl,h2⟩:=fR h1;obtain⟨c,r3,rfl,h3⟩:=fR h2;cases r8 h3;exact h kV doc pm an cdv ct a b c
theorem Sq(F:ma K x qual st f fd)(h:∀kV doc pm an cdv ct a b c d,bindArgs (qb x qual st kV doc pm an cdv ct) ⟨[a,b,c,d],[]⟩=pure [(p1,a),(p2,b),(p3,c),(p4,d)]):Binds K fd [p1,p2,p3,p4] []:=
 F.binds λ kV doc pm an cdv ct us hl=>by
  obtain⟨a,r1,rfl,h1⟩:=fR hl;obtain⟨b,r2,rfl,h2⟩:=fR h1;obtain⟨c,r3,rfl,h3⟩:=fR h2;obtain⟨d,r4,rfl,h4⟩:=fR h3;cases r8 h4;exact h kV doc pm an cdv ct a b c d
end
section
variable {X:Cx}
end
mutual
theorem C1{α:List (Option Addr)}{G:Hp}:∀(n:Nat) {d:D} {v:V},pl n d=true->Rep α G d v->Rep [] G d v
 |_,.ay,_,_,h=>by unfold Rep at h⊢;exact h
 |_,.bl _,_,_,h=>by unfold Rep at h⊢;exact h
 |_,.int _,_,_,h=>by unfold Rep at h⊢;exact h
 |_,.str _,_,_,h=>by unfold Rep at h⊢;exact h
 |_,.ty _,_,p,_=>by unfold pl at p;cases p
 |_,.ref _,_,p,_=>by unfold pl at p;cases p
 |0,.lst _,_,p,_=>by unfold pl at p;cases p
 |0,.tup _,_,p,_=>by unfold pl at p;cases p
 |n+1,.lst xs,_,p,h=>by
  unfold pl at p;unfold Rep at h⊢;obtain⟨a,vs,e,_,r,q⟩:=h;exact⟨a,vs,e,by simp,r,ue n p q⟩
 |n+1,.tup xs,_,p,h=>by
  unfold pl at p;unfold Rep at h⊢;obtain⟨a,vs,e,_,r,q⟩:=h;exact⟨a,vs,e,by simp,r,ue n p q⟩
theorem ue{α:List (Option Addr)}{G:Hp}:∀(n:Nat) {ds:List D} {vs:List V},ds.all (pl n)=true->aE α G ds vs->aE [] G ds vs
 |_,[],_,_,h=>by unfold aE at h⊢;exact h
 |n,d::ds,_,p,h=>by
  rw[V5,UR]at p;unfold aE at h⊢;obtain⟨v,r,e,h1,h2⟩:=h;exact⟨v,r,e,C1 n p.1 h1,ue n p.2 h2⟩
end
section
variable {X:Cx}
def xf(X:Cx):Cx:={X with xe:=λ _ _=>False}
end
variable {st:af}{K:D->af->Prop}{i j:Int}
section
variable {X:Cx}{pos:Pos}
def N7(n:Nat)(t:vg):TG:=λ v σ H Q=>∃a xs,v= .ref a/\Rd H a (.lst xs)/\xs.length=n/\t xs σ H Q
theorem NH{es:List Expr}{k:Nat}{t:vg}{n:Nat}(hc:X.calm=true)(h:Cu X es t)
 (hn:(assignEach es X.env).length=n:=by rfl) (hst:(assignEach es X.env).findIdx? (·.1)=none:=by rfl):PG X (.Tuple es k pos) (N7 n t):=by
 intro pins s σ H v u Q I r hw;obtain⟨a,xs,e1,hq,hl,hw⟩:=hw;subst e1;cases r;obtain⟨hz,ao,n',rv,hle,ho⟩:=L3.Inv.qE I hq;have il:s.heap.IsList a ao.toArray:=⟨_,ho,rfl,n',rfl⟩
 rw[assign_Tuple];refine Uu (Xr ?_);unfold unpack;rw[hn,hst,show n=ao.toArray.size by simp[<-hl,hle]];refine Uu (W3 (PySem.W.kun_itemsOf (I.ok.hd hc) il λ h' hx=>?_));have I1:Inv X pins σ H {s with heap:=h'}:=I.kept (t':=s.toks) λ b o e=>hx b o (Vg (UN e)) e;exact h pins _ σ H xs _ Q I1 (by simpa using rv) hw
end
end L3
namespace L3
open PySem L2
structure ClsAt(K:PySem.W.Frag)(mg:Str->Option Value)(x:Str)(C:Addr):Prop where
 cl:kK K C
 mg:mg x=some (.ref C)
 Se:PySem.W.makesIn K C=true
 kp:PySem.W.keepIn K (.ref C)=true
structure MethAt(K:PySem.W.Frag)(C:Addr)(m qual:Str)(st:Stmt)(ps:List Str)(f:Addr)(fd:FuncData):Prop where
 fn:ma K m qual st f fd
 me:Meth K C m f
 bd:Binds K fd ps []
end L3
namespace Hd
open PySem PySem.W L2 L3
open PySem.Spec hiding items?
open PyProof.Rows hiding St
section
variable {K:Frag}{mg:Str->Option Value}{h:Heap}{x q:Str}{st:Stmt}{f c C:Addr}{pm:Value}{p1 p2 p3 p4 p5 p6:Str}
abbrev Ed(K:Frag)(x:Str)(st:Stmt)(f:Addr)(pm:Value)(c:Addr):Prop:=(nsIn K mainGlobals x,K.lookup f,codeIn K (.ref c) x,keepIn K (.ref f))=(some (some (.ref f)),some (fq st x x pm c),true,true)
abbrev Em(K:Frag)(C:Addr)(x q:Str)(st:Stmt)(f:Addr)(pm:Value)(c:Addr):Prop:=(findIn K (.ref C) x,isFn K (.ref f),K.lookup f,codeIn K (.ref c) q,keepIn K (.ref f))=(some (some (.ref f)),true,some (fq st x q pm c),true,true)
theorem Ed.fn(e:Ed K x st f pm c):ma K x x st f (fd st x x pm c)/\nsIn K mainGlobals x=some (some (.ref f)):=by
 obtain⟨e1,e2,e3,e4⟩:_/\_/\_/\_:=by simpa only[Prod.mk.injEq]using e
 exact⟨G_ (st:=st) e2 e3 e4,e1⟩
theorem Em.fn(e:Em K C x q st f pm c):ma K x q st f (fd st x q pm c)/\Meth K C x f:=by
 obtain⟨e1,e2,e3,e4,e5⟩:_/\_/\_/\_/\_:=by simpa only[Prod.mk.injEq]using e
 exact⟨G_ (st:=st) e3 e4 e5,e1,e2,e5⟩
theorem SD(X:K.In h)(G:h.Ns mainGlobals mg)(e:Ed K x st f pm c)(b:∀kV doc pm an cdv ct a,bindArgs (qb x x st kV doc pm an cdv ct) ⟨[a],[]⟩=pure [(p1,a)]):kr K mg x x st [p1] f (fd st x x pm c):=⟨e.fn.1,mg_of X G e.fn.2,R_ e.fn.1 b⟩
theorem TY(X:K.In h)(G:h.Ns mainGlobals mg)(e:Ed K x st f pm c)(b:∀kV doc pm an cdv ct a1 a2,bindArgs (qb x x st kV doc pm an cdv ct) ⟨[a1,a2],[]⟩=pure [(p1,a1),(p2,a2)]):kr K mg x x st [p1,p2] f (fd st x x pm c):=⟨e.fn.1,mg_of X G e.fn.2,Sl e.fn.1 b⟩
theorem T7(X:K.In h)(G:h.Ns mainGlobals mg)(e:Ed K x st f pm c)(b:∀kV doc pm an cdv ct a1 a2 a3,bindArgs (qb x x st kV doc pm an cdv ct) ⟨[a1,a2,a3],[]⟩=pure [(p1,a1),(p2,a2),(p3,a3)]):kr K mg x x st [p1,p2,p3] f (fd st x x pm c):=⟨e.fn.1,mg_of X G e.fn.2,SJ e.fn.1 b⟩
theorem Um(X:K.In h)(G:h.Ns mainGlobals mg)(e:Ed K x st f pm c)(b:∀kV doc pm an cdv ct a1 a2 a3 a4,bindArgs (qb x x st kV doc pm an cdv ct) ⟨[a1,a2,a3,a4],[]⟩=pure [(p1,a1),(p2,a2),(p3,a3),(p4,a4)]):kr K mg x x st [p1,p2,p3,p4] f (fd st x x pm c):=⟨e.fn.1,mg_of X G e.fn.2,Sq e.fn.1 b⟩
theorem T9(e:Em K C x q st f pm c)(b:∀kV doc pm an cdv ct a,bindArgs (qb x q st kV doc pm an cdv ct) ⟨[a],[]⟩=pure [(p1,a)]):MethAt K C x q st [p1] f (fd st x q pm c):=⟨e.fn.1,e.fn.2,R_ e.fn.1 b⟩
theorem FU(e:Em K C x q st f pm c)(b:∀kV doc pm an cdv ct a1 a2,bindArgs (qb x q st kV doc pm an cdv ct) ⟨[a1,a2],[]⟩=pure [(p1,a1),(p2,a2)]):MethAt K C x q st [p1,p2] f (fd st x q pm c):=⟨e.fn.1,e.fn.2,Sl e.fn.1 b⟩
theorem Su(e:Em K C x q st f pm c)(b:∀kV doc pm an cdv ct a1 a2 a3,bindArgs (qb x q st kV doc pm an cdv ct) ⟨[a1,a2,a3],[]⟩=pure [(p1,a1),(p2,a2),(p3,a3)]):MethAt K C x q st [p1,p2,p3] f (fd st x q pm c):=⟨e.fn.1,e.fn.2,SJ e.fn.1 b⟩
theorem Uj(e:Em K C x q st f pm c)(b:∀kV doc pm an cdv ct a1 a2 a3 a4,bindArgs (qb x q st kV doc pm an cdv ct) ⟨[a1,a2,a3,a4],[]⟩=pure [(p1,a1),(p2,a2),(p3,a3),(p4,a4)]):MethAt K C x q st [p1,p2,p3,p4] f (fd st x q pm c):=⟨e.fn.1,e.fn.2,Sq e.fn.1 b⟩
theorem na{a:Str}(e:findIn K (.ref C) a=some none):fc K C a:=e
end
end Hd
namespace L3
open PySem L2
open PySem.Spec hiding items?
open PyProof.Rows hiding St
section
variable {X:Cx}{pos:Pos}
def Sw(g1 g2:TG):TG:=λ v σ H Q=>g1 v σ H Q\/g2 v σ H Q
theorem RI{tg:Expr}{g1 g2:TG}(h1:PG X tg g1)(h2:PG X tg g2):PG X tg (Sw g1 g2):=by
 intro pins s σ H v u Q I r hw;rcases hw with hw|hw
 . exact h1 pins s σ H v u Q I r hw
 . exact h2 pins s σ H v u Q I r hw
def tU(i j k:Nat):He:=λ d σ st K=>∃x y z,items? st d=some [x,y,z]/\K (((σ.set i (some x)).set j (some y)).set k (some z)) st
theorem FQ{tg:Expr}{i j k:Nat}(h:PG X tg (Sw (N7 3 (i7 (fe i) (i7 (fe j) (i7 (fe k) zU)))) (Eu X.K 3 (i7 (fe i) (i7 (fe j) (i7 (fe k) zU)))))):PG X tg (Sv (tU i j k)):=PG.imp h λ v σ H Q ⟨α,σd,st,d,K,G,F,P,R,S,r,⟨x,y,z,e,q⟩,kk⟩=>by
 obtain⟨p,vs,rfl,rs,hq⟩:=kM S r e;obtain⟨v1,v2,v3,rfl,r1,r2,r3⟩:=yW rs rfl;have fin:=kk.here P q (((R.set i r1).set j r2).set k r3) S;rcases hq with hq|hq
 . exact .inl ⟨p,_,rfl,eP P hq,rfl,v1,_,rfl,v2,_,rfl,v3,_,rfl,rfl,fin⟩
 . exact .inr ⟨p,_,rfl,.of (P.get hq),rfl,v1,_,rfl,v2,_,rfl,v3,_,rfl,rfl,fin⟩
theorem IV{i j k n:Nat}{x y z:Str}{px py pz tp:Pos}{e:Expr}{te:DE}(he:JE X e te)(hc:X.calm=true)(hN:X.N.Nodup)(hx:Loc X.env.scope x:=by first|exact Or.inl rfl|exact Or.inr rfl)(hf:X.fn x=true\/X.env.scope.names.lookup x=some .local:=by first|exact .inl rfl|exact .inr rfl)(hy:Loc X.env.scope y:=by first|exact Or.inl rfl|exact Or.inr rfl)(hg:X.fn y=true\/X.env.scope.names.lookup y=some .local:=by first|exact .inl rfl|exact .inr rfl)(hz:Loc X.env.scope z:=by first|exact Or.inl rfl|exact Or.inr rfl)(hh:X.fn z=true\/X.env.scope.names.lookup z=some .local:=by first|exact .inl rfl|exact .inr rfl)
 (hi:X.N[i]?=some x:=by rfl) (hj:X.N[j]?=some y:=by rfl) (hk:X.N[k]?=some z:=by rfl)
 (hs:swapsWithSole [.Tuple [.Name x px,.Name y py,.Name z pz] n tp] e pos.line X.env=pure false:=by rfl) (hw:swappedStores [.Tuple [.Name x px,.Name y py,.Name z pz] n tp] e X.env=pure none:=by rfl) (h1:(assignEach [.Tuple [.Name x px,.Name y py,.Name z pz] n tp] X.env).map (·.2)=[assign (.Tuple [.Name x px,.Name y py,.Name z pz] n tp) X.env]:=by rfl):JS X (.Assign [.Tuple [.Name x px,.Name y py,.Name z pz] n tp] e pos) (ER (tU i j k) te):=by
 unfold JS;unfold JE at he;have g:Cu X [.Name x px,.Name y py,.Name z pz] _:=g9 (iD hN hi hx hf) (g9 (iD hN hj hy hg) (g9 (iD hN hk hz hh) wH));exact Nh (u5 he (FQ (RI (NH hc g) (AI hc g))) hs hw h1)
end
end L3
namespace L3
open PySem L2
open PySem.Spec hiding items?
end L3
namespace L3
open PySem PySem.Spec L2
open PyProof.Rows hiding St
section
variable {X:Cx}{pos:Pos}
end
end L3
namespace L3
open PySem L2
open PySem.Spec hiding items?
open PyProof.Rows hiding St
section
variable {X:Cx}
end
section
variable {X:Cx}{pos:Pos}
end
section
variable {X:Cx}
end
namespace RF
end RF
section
variable {prog:Program}{w:World}{A:Around}{E:Value->Shared->Prop}{s:Shared}
end
section
variable {X:Cx}{tg:Expr}
end
section
variable {X:Cx}
end
end L3
namespace L3
open PySem L2
open PySem.Spec hiding items?
open PyProof.Rows hiding St
section
variable {X:Cx}
end
section
variable {X:Cx}{pos:Pos}
end
section
variable {X:Cx}
end
section
variable {X:Cx}{sc:Scope}{N gl:List Str}{x:Str}{pos:Pos}
theorem VS.lM(V:VS sc N gl)(h:N.contains x=true:=by decide+kernel):Loc sc x:=by
 obtain⟨i,hi,e⟩:=Vu.mp (Y0.mp h);exact V.l i (by rw[UJ hi,e])
theorem VS.gM(V:VS sc N gl)(h:gl.contains x=true:=by decide+kernel):sc.names.lookup x=some .globalImplicit:=by
 obtain⟨i,hi,e⟩:=Vu.mp (Y0.mp h);exact V.g i (by rw[UJ hi,e])
def O6(N P:List Str)(sc:Scope):Bool:=(sc.kind== .function)&& !sc.isCoroutine&& !sc.isGenerator&&decide N.Nodup&&(N.take P.length==P)&&P.all (λ x=>sc.names.lookup x==some .local||sc.names.lookup x==some .cell)&&sc.names.all λ y=>y.2 != .free
structure VF(s:Stmt)(N P gl:List Str):Prop where
 v:VS (a9 s) N gl
 sc:lO N P (a9 s)
theorem VF.of{s:Stmt}{N P gl:List Str}(h:(EY (a9 s) N gl&&O6 N P (a9 s))=true):VF s N P gl:=by
 obtain⟨h1,h2⟩:=XG.mp h;unfold O6 at h2;simp only[UR,Wq,Bool.not_eq_true',VW,UP,W_,Yu,ne_eq]at h2;obtain⟨⟨⟨⟨⟨⟨a,b⟩,c⟩,d⟩,e⟩,f⟩,g⟩:=h2;exact⟨⟨h1⟩,a,b,c,d,e,f,g⟩
def SY:Expr->List Str
 | .Name x _=>[x]
 | .Tuple [.Name x _,.Name y _] _ _=>[x,y]
 | .Tuple [.Name x _,.Name y _,.Name z _] _ _=>[x,y,z]
 | .Tuple [.Tuple [.Name x _,.Name y _] _ _,.Name z _] _ _=>[x,y,z]
 |_=>[]
def kZ(tg:Expr)(fr:List (Option Nat))(N:List Str):List Str:=SY tg++(fr.filterMap id).map λ k=>N.getD k ""
variable {scope:Scope}{elt tg iter:Expr}{ifs:List Expr}{src:DI}{fr:List (Option Nat)}{dtg:dZ}{t:DT}{te:DE}{pos' p:Pos}
theorem L0(V:VS sc N gl)(h:mG sc N scope (kZ tg fr N) fr=true)(hi:JI X tg iter src)(hg:∀C s H ex,JG (bY X scope (kZ tg fr N) C s H ex) tg dtg)(ht:∀C s H ex,JC (bY X scope (kZ tg fr N) C s H ex) ifs t)(he:∀C s H ex,JE (bY X scope (kZ tg fr N) C s H ex) elt te)(fit:fw fr dtg)(hsc:X.env.scope=sc:=by rfl)(hN:X.N=N:=by rfl)
 (hx:X.xe=λ _ _=>False:=by rfl) (hc:X.calm=true:=by rfl) (hs:∀x,foldedSetIterable iter X.env x=pure x:=by intro _;rfl):JE X (.ListComp elt [⟨tg,iter,ifs,0⟩] scope pos) (bJ src fr dtg t te):=iU (cc.look sc N h hsc hN) hi hg ht he fit hx hc hs
theorem HX{k:Nat}(V:VS sc N gl)(hn:X.N.Nodup)(hl:Loc X.env.scope x)(h:mG sc N scope (kZ tg fr N) fr=true)(hi:JI X tg iter src)(hg:∀C s H ex,JG (bY X scope (kZ tg fr N) C s H ex) tg dtg)(ht:∀C s H ex,JC (bY X scope (kZ tg fr N) C s H ex) ifs t)(he:∀C s H ex,JE (bY X scope (kZ tg fr N) C s H ex) elt te)(fit:fw fr dtg)(hsc:X.env.scope=sc:=by rfl)(hN:X.N=N:=by rfl)
 (hf:X.fn x=true\/X.env.scope.names.lookup x=some .local:=by first|exact .inl rfl|exact .inr rfl) (hsw:swapsWith (.ListComp elt [⟨tg,iter,ifs,0⟩] scope p) (some (.Name x pos')) pos.line X.env=pure true:=by rfl) (hni:X.N[k]?=some x:=by rfl) (hx:X.xe=λ _ _=>False:=by rfl) (hc:X.calm=true:=by rfl) (hs:∀x,foldedSetIterable iter X.env x=pure x:=by intro _;rfl):
 JS X (.Assign [.Name x pos'] (.ListComp elt [⟨tg,iter,ifs,0⟩] scope p) pos) (aJ k (bJ src fr dtg t te)):=NA hn hl (cc.look sc N h hsc hN) hi hg ht he fit hf hsw hni hx hc hs
variable {X0:Cx}{scope0:Scope}{Nc:List Str}{C:Addr}{s:Shared}{H:Hp}{ex:List Addr}
theorem M3(h:mG scope0 Nc scope (kZ tg fr Nc) fr=true)(hi:JI (bY X0 scope0 Nc C s H ex) tg iter src)(hg:∀C' s' H' ex',JG (bY (bY X0 scope0 Nc C s H ex) scope (kZ tg fr Nc) C' s' H' ex') tg dtg)(ht:∀C' s' H' ex',JC (bY (bY X0 scope0 Nc C s H ex) scope (kZ tg fr Nc) C' s' H' ex') ifs t)(he:∀C' s' H' ex',JE (bY (bY X0 scope0 Nc C s H ex) scope (kZ tg fr Nc) C' s' H' ex') elt te)(fit:fw fr dtg)
 (hx:(bY X0 scope0 Nc C s H ex).xe=λ _ _=>False:=by rfl) (hc:(bY X0 scope0 Nc C s H ex).calm=true:=by rfl) (hs:∀x,foldedSetIterable iter (bY X0 scope0 Nc C s H ex).env x=pure x:=by intro _;rfl):JE (bY X0 scope0 Nc C s H ex) (.ListComp elt [⟨tg,iter,ifs,0⟩] scope pos) (bJ src fr dtg t te):=iU (cc.Lm h) hi hg ht he fit hx hc hs
theorem RQ{k:Nat}(hn:Nc.Nodup:=by decide+kernel)(hx:Loc (bY X0 scope0 Nc C s H ex).env.scope x:=by first|exact Or.inl rfl|exact Or.inr rfl)(hf:(bY X0 scope0 Nc C s H ex).fn x=true\/(bY X0 scope0 Nc C s H ex).env.scope.names.lookup x=some .local:=by first|exact .inl rfl|exact .inr rfl)(hi:Nc[k]?=some x:=by rfl):JG (bY X0 scope0 Nc C s H ex) (.Name x pos) (aS k):=gG hn hx hf hi
theorem Qe{k j n:Nat}{y:Str}{px py:Pos}(hn:Nc.Nodup:=by decide+kernel)(hx:Loc (bY X0 scope0 Nc C s H ex).env.scope x:=by first|exact Or.inl rfl|exact Or.inr rfl)(hf:(bY X0 scope0 Nc C s H ex).fn x=true\/(bY X0 scope0 Nc C s H ex).env.scope.names.lookup x=some .local:=by first|exact .inl rfl|exact .inr rfl)(hy:Loc (bY X0 scope0 Nc C s H ex).env.scope y:=by first|exact Or.inl rfl|exact Or.inr rfl)(hg:(bY X0 scope0 Nc C s H ex).fn y=true\/(bY X0 scope0 Nc C s H ex).env.scope.names.lookup y=some .local:=by first|exact .inl rfl|exact .inr rfl)(hi:Nc[k]?=some x:=by rfl)(hj:Nc[j]?=some y:=by rfl)(hc:(bY X0 scope0 Nc C s H ex).calm=true:=by rfl):JG (bY X0 scope0 Nc C s H ex) (.Tuple [.Name x px,.Name y py] n pos) (fh k j):=vh hc hn hx hf hy hg hi hj
theorem VS.loc(V:VS sc N gl)(h:sc.names.lookup x=some .local:=by decide+kernel):sc.names.lookup x=some .local:=h
end
theorem Lr{X:Cx}{b:Stmt}{h₀:ExceptHandler}{hs:List ExceptHandler}{pos:Pos}{t:DS}(h:JS X b t)(hx:X.xe=λ _ _=>False:=by rfl):JS X (.Try [b] (h₀::hs) [] [] pos) t:=by
 unfold JS at*;intro pins s σ H D I q;refine wpAny_Try_except (Yz (Wo (h pins s σ H D I q) (λ f s1 z=>?_) λ _ _ z=>?_))
 . cases f with
   |next=>exact WM (WM z)
   |brk=>exact z
   |cont=>exact z
   |ret u=>exact z
 . rw[hx]at z;exact z.elim
end L3
namespace L2
open PySem PySem.Spec PyProof.Rows PySem.W
def Pw:V->List V->Hp->VK->Prop:=λ x vs H Q=>∃l xs,x= .ref l/\vs=[]/\H l=some (.lst xs)/\Q .ay (upd H l (.lst xs.reverse))
theorem Vals.rev{xs:List V}{ao:List Value}(h:Vals xs ao):Vals xs.reverse ao.reverse:=by
 induction h with
 |nil=>exact .nil
 |cons a _ ih=>
  rw[Xn,Xn];exact ih.append (.cons a .nil)
theorem Pf{X:Cx}:Qh X "list.reverse" Pw:=by
 intro pins s σ H x vs v us Q I rx rv h;obtain⟨l,xs,rfl,rfl,hH,q⟩:=h;cases rx;have hus:=rv.zero;subst hus;obtain⟨z,ao,n,r,hl,e⟩:=I.HG hH;refine WO F.slot_list_reverse ⟨_,e,rfl⟩ F.entry_list_reverse (F.args_list_reverse_1 _) (AutoSeq1.list_reverse_list_0 l ao.toArray n (by rw[UI];lia)) ⟨e,?_⟩;exact⟨.ay,_,I.Ip (its':=ao.reverse) (ys:=xs.reverse) hH e (by simp) r.rev (by rw[XU];exact z),rfl,q⟩
end L2
namespace L3
open PySem L2
open PySem.Spec hiding items?
open PyProof.Rows hiding St
@[irreducible] def qX(to:DE):DE:=λ σ st K=>to σ st λ x st1=>match x with
 | .ref n=>(match st1[n]? with|some (.lst xs)=>K .ay (st1.set n (.lst xs.reverse))|_=>False)
 |_=>False
section
variable {X:Cx}
theorem FL{α β:Type}{R:α->β->Prop}:∀ {xs ys:List α} {us ws:List β},Paired R xs us->Paired R ys ws->Paired R (xs++ys) (us++ws)
 |_,_,_,_,.nil,s=>s
 |_,_,_,_,.cons r t,s=> .cons r (FL t s)
theorem FD{α β:Type}{R:α->β->Prop}:∀ {xs:List α} {us:List β},Paired R xs us->Paired R xs.reverse us.reverse
 |_,_,.nil=> .nil
 |_,_,.cons r t=>by
  rw[Xn,Xn];exact FL (FD t) (.cons r .nil)
theorem LE.rev{to:DE}{σ:L2.St}{H:Hp}{Q:VK}(h:LE (qX to) σ H Q):Jl X.K "list" Pw (LE to) σ H Q:=by
 obtain⟨α,σd,st,K,G,F,P,R,S,t,k⟩:=h;unfold qX at t;refine⟨α,σd,st,_,G,F,P,R,S,t,λ x st1 q α1 G1 H1 v s1 P1 S1 r1=>?_⟩;cases x<;>try exact q.elim
 rename_i n;simp only at q;split at q
 . rename_i ys e;obtain⟨p,ep,vs,h1,h2⟩:=S1.fG e;have r1':=cW ep r1;subst r1';refine⟨.inl ⟨rfl,vs,.inl (.of (P1.get h1))⟩,p,vs,rfl,rfl,P1.get h1,?_⟩;have hm:=U8 ep;exact(k.at s1) .ay _ q α1 _ _ .ay (Step.write hm) (P1.write h1) (S1.write ep ⟨vs.reverse,a_,(aO.mpr (FD (aO.mp h2))).step (Step.write hm)⟩) (by unfold Rep;rfl)
 . exact q.elim
theorem yV{o:Expr}{to:DE}{apos cpos:Pos}(ho:JE X o to)(hbase:attributeBase o "reverse" X.env (eval o X.env)=eval o X.env:=by rfl)(hline:(apos.endLine==cpos.line)=true:=by rfl):JE X (.Call (.Attribute o "reverse" apos) [] [] cpos) (qX to):=by
 unfold JE at*;exact PE.imp (FJ Xj PySem.F.slot_list_reverse PySem.F.type_list_reverse Pf ho hbase hline) λ _ _ _ h=>LE.rev h
end
theorem As{σ:bo}{st:af}{K:DK}{n:Nat}{xs:List D}{to:DE}(ho:∀K',K' (.ref n) st->to σ st K')(e:st[n]?=some (.lst xs))(k:K .ay (st.set n (.lst xs.reverse))):qX to σ st K:=by
 unfold qX;refine ho _ ?_;simp only[e];exact k
@[irreducible] def pA(to:DE):DE:=λ σ st K=>to σ st λ x st1=>match x with
 | .ref n=>(match st1[n]? with|some (.lst xs)=>(match xs[xs.length-1]? with|some d=>K d (st1.set n (.lst xs.dropLast))|none=>False)|_=>False)
 |_=>False
theorem De{α β:Type}{R:α->β->Prop}:∀ {xs:List α} {us:List β},Paired R xs us->Paired R xs.dropLast us.dropLast
 |_,_,.nil=> .nil
 |_,_,.cons _ .nil=> .nil
 |_,_,.cons r (.cons q t)=> .cons r (De (.cons q t))
section
variable {X:Cx}
theorem LE.SV{to:DE}{σ:L2.St}{H:Hp}{Q:VK}(h:LE (pA to) σ H Q):Jl X.K "list" O8 (LE to) σ H Q:=by
 obtain⟨α,σd,st,K,G,F,P,R,S,t,k⟩:=h;unfold pA at t;refine⟨α,σd,st,_,G,F,P,R,S,t,λ x st1 q α1 G1 H1 v s1 P1 S1 r1=>?_⟩;cases x<;>try exact q.elim
 rename_i n;simp only at q;split at q
 . rename_i ys e;split at q
   . rename_i d ed;obtain⟨p,ep,vs,h1,h2⟩:=S1.fG e;have r1':=cW ep r1;subst r1';obtain⟨y,ey,ry⟩:=h2.get ed;have hm:=U8 ep;refine⟨.inl ⟨rfl,vs,.inl (.of (P1.get h1))⟩,p,vs,y,rfl,rfl,P1.get h1,by rw[<-h2.length];exact ey,?_⟩;exact(k.at s1) d _ q α1 _ _ y (Step.write hm) (P1.write h1) (S1.write ep ⟨vs.dropLast,a_,(aO.mpr (De (aO.mp h2))).step (Step.write hm)⟩) (ry.step (Step.write hm))
   . exact q.elim
 . exact q.elim
theorem Gk{o:Expr}{to:DE}{apos cpos:Pos}(ho:JE X o to)(hbase:attributeBase o "pop" X.env (eval o X.env)=eval o X.env:=by rfl)(hline:(apos.endLine==cpos.line)=true:=by rfl):JE X (.Call (.Attribute o "pop" apos) [] [] cpos) (pA to):=by
 unfold JE at*;exact PE.imp (FJ Xj PySem.F.slot_list_pop PySem.F.type_list_pop OG ho hbase hline) λ _ _ _ h=>LE.SV h
end
theorem Cj{σ:bo}{st:af}{K:DK}{n:Nat}{xs:List D}{d:D}{to:DE}(ho:∀K',K' (.ref n) st->to σ st K')(e:st[n]?=some (.lst xs))(hd:xs[xs.length-1]?=some d)(k:K d (st.set n (.lst xs.dropLast))):pA to σ st K:=by
 unfold pA;refine ho _ ?_;simp only[e,hd];exact k
mutual
inductive mi(st:af):D->D->Prop
 |own {n:Nat} {d:D} (h:pl n d=true):mi st d d
 |ref {c:Nat} {xs ys:List D} (e:st[c]?=some (.lst xs)) (t:l0 st xs ys):mi st (.ref c) (.lst ys)
 |lst {xs ys:List D} (t:l0 st xs ys):mi st (.lst xs) (.lst ys)
 |tup {xs ys:List D} (t:l0 st xs ys):mi st (.tup xs) (.tup ys)
inductive l0(st:af):List D->List D->Prop
 |nil:l0 st [] []
 |cons {x y:D} {xs ys:List D} (h:mi st x y) (t:l0 st xs ys):l0 st (x::xs) (y::ys)
end
mutual
theorem mi.rep{α:List (Option Addr)}{G:Hp}{st:af}(S:aX α st G):∀ {d e:D} {v:V},mi st d e->Rep α G d v->Rep [] G e v
 |_,_,_,.own h,r=>C1 _ h r
 |_,_,_,.ref e t,r=>by
  obtain⟨a,ea,ws,g1,g2⟩:=S.fG e;have:=cW ea r;subst this;unfold Rep;exact⟨a,ws,rfl,by simp,.inl g1,t.rep S g2⟩
 |_,_,_,.lst t,r=>by
  unfold Rep at r⊢;obtain⟨a,vs,e,_,q,z⟩:=r;exact⟨a,vs,e,by simp,q,t.rep S z⟩
 |_,_,_,.tup t,r=>by
  unfold Rep at r⊢;obtain⟨a,vs,e,_,q,z⟩:=r;exact⟨a,vs,e,by simp,q,t.rep S z⟩
theorem l0.rep{α:List (Option Addr)}{G:Hp}{st:af}(S:aX α st G):∀ {ds es:List D} {vs:List V},l0 st ds es->aE α G ds vs->aE [] G es vs
 |_,_,_,.nil,r=>by unfold aE at r⊢;exact r
 |_,_,_,.cons h t,r=>by
  unfold aE at r⊢;obtain⟨v,w,e,h1,h2⟩:=r;exact⟨v,w,e,h.rep S h1,t.rep S h2⟩
end
@[irreducible] def tO:cO:=λ x y st K=>∃a b,mi st x a/\mi st y b/\pl 40 a=true/\pl 40 b=true/\K (.bl (!cw a b)) st
theorem DU{X:Cx}{k:Nat}(hr:cB k X.A):bE X (compareOp .NotEq) (LR tO):=λ pins s σ H x y v u Q I rx ry ⟨α,d,e,st,K,G,F',P,r1,r2,S,q,k⟩=>by
 have hu:=hr.units;unfold tO at q;obtain⟨a,b,h1,h2,h3,h4,q⟩:=q;exact J5 I 40 X.A a b x y v u h3 h4 ((h1.rep S r1).mono P.same) ((h2.rep S r2).mono P.same) rx ry (by lia) _ _ _ _ ⟨.bl _,H,I,rfl,k.here P q S (by unfold Rep;rfl)⟩
theorem Od{st:af}{K:DK}{x y a b:D}(h1:mi st x a)(h2:mi st y b)(h3:pl 40 a=true)(h4:pl 40 b=true)(k:K (.bl (!cw a b)) st):tO x y st K:=by
 unfold tO;exact⟨a,b,h1,h2,h3,h4,k⟩
end L3
namespace Mx
def S:Nat->(Nat->Int)->Int
 |0,_=>0
 |n+1,f=>S n f+f n
theorem az{n:Nat}{f g:Nat->Int}(h:∀i,i<n->f i=g i):S n f=S n g:=by
 induction n with
 |zero=>rfl
 |succ n ih=>unfold S;rw[ih λ i hi=>h i (by lia),h n (by lia)]
theorem mf{n:Nat}{f:Nat->Int}(h:∀i,i<n->f i=0):S n f=0:=by
 induction n with
 |zero=>rfl
 |succ n ih=>unfold S;rw[ih λ i hi=>h i (by lia),h n (by lia)];rfl
theorem jA(n:Nat)(f g:Nat->Int):S n (λ i=>f i+g i)=S n f+S n g:=by
 induction n with
 |zero=>rfl
 |succ n ih=>unfold S;rw[ih];dsimp only;lia
theorem cJ(n:Nat)(c:Int)(f:Nat->Int):S n (λ i=>c*f i)=c*S n f:=by
 induction n with
 |zero=>unfold S;rw[VB]
 |succ n ih=>unfold S;rw[ih,YS]
theorem l8(n:Nat)(c:Int)(f:Nat->Int):S n (λ i=>f i*c)=S n f*c:=by
 induction n with
 |zero=>unfold S;rw[XH]
 |succ n ih=>unfold S;rw[ih,Int.add_mul]
theorem ES(n:Nat)(f:Nat->Int):S n (λ i=> -f i)= -S n f:=by
 induction n with
 |zero=>rfl
 |succ n ih=>unfold S;rw[ih];dsimp only;lia
theorem iX(m n:Nat)(f:Nat->Nat->Int):S m (λ i=>S n λ j=>f i j)=S n λ j=>S m λ i=>f i j:=by
 induction m with
 |zero=>exact(mf (n:=n) (λ i _=>rfl)).symm
 |succ m ih=>
  have:S n (λ j=>S (m+1) λ i=>f i j)=S n λ j=>(S m λ i=>f i j)+f m j:=az λ j _=>rfl;rw[this,jA,<-ih];rfl
theorem o5{n:Nat}{k:Nat}(hk:k<n){f:Nat->Int}(h:∀i,i<n->i≠k->f i=0):S n f=f k:=by
 induction n with
 |zero=>lia
 |succ n ih=>
  unfold S;by_cases e:k=n
  . subst e;rw[mf λ i hi=>h i (by lia) (by lia),XF]
  . rw[ih (by lia) λ i hi hn=>h i (by lia) hn,h n (by lia) (by lia),WW]
theorem vv(n:Nat)(f:Nat->Int):S (n+1) f=f 0+S n λ i=>f (i+1):=by
 induction n with
 |zero=>unfold S S;lia
 |succ n ih=>
  have:S (n+1+1) f=S (n+1) f+f (n+1):=rfl;rw[this,ih];have:S (n+1) (λ i=>f (i+1))=S n (λ i=>f (i+1))+f (n+1):=rfl;rw[this];lia
def dl(i j:Nat):Int:=if i=j then 1 else 0
theorem dh(i:Nat):dl i i=1:=UA rfl
theorem dq{i j:Nat}(h:i≠j):dl i j=0:=Uy h
theorem ow{n k:Nat}(hk:k<n)(f:Nat->Int):S n (λ i=>dl k i*f i)=f k:=by
 rw[o5 hk (λ i _ h=>by rw[dq (UD h),XH]),dh,VG]
theorem uI{n k:Nat}(hk:k<n)(f:Nat->Int):S n (λ i=>f i*dl i k)=f k:=by
 rw[o5 hk (λ i _ h=>by rw[dq h,VB]),dh,Int.mul_one]
abbrev Row:=List Int
abbrev Rows:=List (List Int)
def g(A:Rows)(i j:Nat):Int:=(A.getD i []).getD j 0
structure aW(m n:Nat)(A:Rows):Prop where
 len:A.length=m
 eR:∀r∈A,r.length=n
theorem aR{α:Type}{l:List α}{i:Nat}{d:α}(h:i<l.length):l.getD i d=l[i]:=by
 rw[UU,UJ h];rfl
theorem rN{α:Type}{l:List α}{i:Nat}{d:α}(h:l.length<=i):l.getD i d=d:=by
 rw[UU,Wc h];rfl
theorem CB{a b:Row}{n:Nat}(ha:a.length=n)(hb:b.length=n)(h:∀j,j<n->a.getD j 0=b.getD j 0):a=b:=by
 refine List.ext_getElem (by lia) λ i h1 h2=>?_;have:=h i (by lia);rwa [aR h1,aR h2]at this
theorem aW.row{m n:Nat}{A:Rows}(h:aW m n A){i:Nat}(hi:i<m):(A.getD i []).length=n:=by
 have hl:=h.len;rw[aR (by lia)];exact h.eR _ (Vb _)
def eJ(r:Row)(t:Int)(s:Row):Row:=List.zipWith (λ a b=>a+t*b) r s
theorem kg{r s:Row}{t:Int}(h:r.length=s.length):(eJ r t s).length=r.length:=by unfold eJ;simp[h]
theorem rR{r s:Row}{t:Int}(h:r.length=s.length)(j:Nat):(eJ r t s).getD j 0=r.getD j 0+t*s.getD j 0:=by
 unfold eJ;by_cases hj:j<r.length
 . rw[aR (by simp;lia),aR hj,aR (by lia)];simp
 . rw[rN (by simp;lia),rN (by lia),rN (by lia)];simp
def eM:Row->Rows->Row->Row
 |w::ws,r::rs,acc=>eM ws rs (eJ acc w r)
 |_,_,acc=>acc
theorem xO{n:Nat}:∀ {ws:Row} {rs:Rows} {acc:Row},acc.length=n->(∀r∈rs,r.length=n)->(eM ws rs acc).length=n
 | [],_,acc,h,_=>by unfold eM;exact h
 |_::_,[],acc,h,_=>by unfold eM;exact h
 |w::ws,r::rs,acc,h,hr=>by
  unfold eM;refine xO ?_ λ r hr'=>hr r (UQ _ hr');rw[kg (by rw[h,hr r UZ]),h]
theorem AY{n:Nat}:∀ {ws:Row} {rs:Rows} {acc:Row} (j:Nat),acc.length=n->(∀r∈rs,r.length=n)->ws.length=rs.length->(eM ws rs acc).getD j 0=acc.getD j 0+S rs.length λ k=>ws.getD k 0*g rs k j
 | [],[],acc,j,h,_,_=>by unfold eM;show _=_+(0:Int);rw[WW]
 | [],_::_,acc,j,h,_,hl=>by cases hl
 |_::_,[],acc,j,h,_,hl=>by cases hl
 |w::ws,r::rs,acc,j,h,hr,hl=>by
  have e1:acc.length=r.length:=by rw[h,hr r UZ]
  unfold eM;rw[AY j (by rw[kg e1,h]) (λ r hr'=>hr r (UQ _ hr')) (by simpa using hl),rR e1,Vh,vv]
  have:(λ k=>(w::ws).getD (k+1) 0*g (r::rs) (k+1) j)=λ k=>ws.getD k 0*g rs k j:=by
   funext k;unfold g;simp
  rw[this];unfold g;simp;lia
def mulM(A B:Rows)(n:Nat):Rows:=A.map λ w=>eM w B (List.replicate n 0)
theorem cW(n j:Nat):(List.replicate n (0:Int)).getD j 0=0:=by
 by_cases h:j<n
 . rw[aR (by simpa using h)];simp
 . rw[rN (by simp;lia)]
theorem rW{m p n:Nat}{A B:Rows}(ha:aW m p A)(hb:aW p n B):aW m n (mulM A B n):=by
 refine⟨by unfold mulM;rw[Uz];exact ha.len,λ r hr=>?_⟩;unfold mulM at hr;obtain⟨w,_,rfl⟩:=U6.mp hr;exact xO (by simp) hb.eR
theorem map_getD{α:Type}{f:Row->List α}{A:Rows}{i:Nat}(h:i<A.length):(A.map f).getD i []=f (A.getD i []):=by
 rw[aR (by simpa using h),aR h];simp
theorem vV{m p n:Nat}{A B:Rows}(ha:aW m p A)(hb:aW p n B){i:Nat}(hi:i<m)(j:Nat):g (mulM A B n) i j=S p λ k=>g A i k*g B k j:=by
 have hl:=ha.len;show((mulM A B n).getD i []).getD j 0=_;unfold mulM;rw[map_getD (by lia),AY (n:=n) j (by simp) hb.eR (by rw[ha.row hi,hb.len]),cW,XF,hb.len];rfl
def fo(n i:Nat):Row:=(List.range n).map λ k=>dl k i
def units(n:Nat):Rows:=(List.range n).map λ i=>fo n i
theorem range_getD{α:Type}{f:Nat->α}{n i:Nat}{d:α}(h:i<n):((List.range n).map f).getD i d=f i:=by
 rw[aR (by simpa using h)];simp
theorem jn(n:Nat):aW n n (units n):=⟨by simp[units],λ r hr=>by unfold units at hr;obtain⟨i,_,rfl⟩:=U6.mp hr;simp[fo]⟩
theorem Ai{n i j:Nat}(hi:i<n)(hj:j<n):g (units n) i j=dl i j:=by
 unfold g units fo;rw[range_getD hi,range_getD hj];unfold dl;by_cases h:i=j
 . subst h;rfl
 . rw[Uy (UD h),Uy h]
def jV(A:Rows)(j:Nat):Row:=A.map λ r=>r.getD j 0
def jB(A:Rows)(n:Nat):Rows:=(List.range n).map λ j=>jV A j
def f_:Row->Row->Int
 |a::as,b::bs=>a*b+f_ as bs
 |_,_=>0
theorem jI:∀ {a b:Row},a.length=b.length->f_ a b=S b.length λ k=>a.getD k 0*b.getD k 0
 | [],[],_=>rfl
 | [],_::_,h=>by cases h
 |_::_,[],h=>by cases h
 |x::a,y::b,h=>by
  unfold f_;rw[jI (by simpa using h),Vh,vv];simp
theorem ox(i j:Nat):dl i j=dl j i:=by
 unfold dl;by_cases h:i=j
 . rw[UA h,UA h.symm]
 . rw[Uy h,Uy (UD h)]
def sw(i j k:Nat):Nat:=if k=i then j else if k=j then i else k
theorem Th{n i j:Nat}(hi:i<n)(hj:j<n)(hij:i≠j)(f:Nat->Int):S n (λ k=>f (sw i j k))=S n f:=by
 have:S n (λ k=>f (sw i j k))=S n λ k=>f k+(f j-f i)*dl k i+(f i-f j)*dl k j:=az λ k _=>by
  unfold sw;by_cases h1:k=i
  . subst h1;rw[UA rfl,dh,dq hij];lia
  . rw[Uy h1,dq h1];by_cases h2:k=j
    . subst h2;rw[UA rfl,dh];lia
    . rw[Uy h2,dq h2];lia
 rw[this,jA,jA,uI (f:=λ _=>f j-f i) hi,uI (f:=λ _=>f i-f j) hj];lia
theorem kP{A:Rows}{i:Nat}{r:Row}(hi:i<A.length)(a k:Nat):g (A.set i r) a k=if a=i then r.getD k 0 else g A a k:=by
 have e:(A.set i r).getD a []=if a=i then r else A.getD a []:=by
  rw[UU,UU];by_cases h:a=i
  . subst h;rw[UA rfl,UH hi];rfl
  . rw[Uy h,Ux (UD h)]
 unfold g;rw[e];by_cases h:a=i
 . rw[UA h,UA h]
 . rw[Uy h,Uy h]
def Bd(M:Nat)(A:Rows):Prop:=∀r∈A,∀x∈r,x.natAbs<=M
abbrev Fn:=Nat->Nat->Int
def sk(j c:Nat):Nat:=if c<j then c else c+1
def sg(j:Nat):Int:=if j%2=0 then 1 else-1
theorem vQ(j:Nat):sg (j+1)= -sg j:=by unfold sg;split<;>split<;>lia
theorem wu:sg 0=1:=rfl
theorem jC{j c n:Nat}(h:c<n):sk j c<n+1:=by unfold sk;split<;>lia
theorem Rx{j k c:Nat}(h:k<j):sk j (sk k c)=sk k (sk (j-1) c):=by unfold sk;grind
def D:Nat->Fn->Int
 |0,_=>1
 |n+1,M=>S (n+1) λ j=>sg j*M 0 j*D n λ r c=>M (r+1) (sk j c)
theorem f9(M:Fn):D 0 M=1:=rfl
theorem de(n:Nat)(M:Fn):D (n+1) M=S (n+1) λ j=>sg j*M 0 j*D n λ r c=>M (r+1) (sk j c):=rfl
theorem a7:∀ {n:Nat} {M M':Fn},(∀r c,r<n->c<n->M r c=M' r c)->D n M=D n M'
 |0,_,_,_=>rfl
 |n+1,M,M',h=>by
  rw[de,de];refine az λ j hj=>?_;have e:D n (λ r c=>M (r+1) (sk j c))=D n (λ r c=>M' (r+1) (sk j c)):=a7 λ r c hr hc=>h (r+1) (sk j c) (by lia) (jC hc);rw[h 0 j (by lia) hj,e]
theorem Dx:∀ {n:Nat} {M P Q:Fn} {a b:Int} {i:Nat},i<n->(∀c,c<n->M i c=a*P i c+b*Q i c)->(∀r c,r<n->c<n->r≠i->M r c=P r c/\M r c=Q r c)->D n M=a*D n P+b*D n Q
 |0,_,_,_,_,_,_,h,_,_=>by lia
 |n+1,M,P,Q,a,b,0,_,h0,h=>by
  rw[de,de,de,<-cJ,<-cJ,<-jA];refine az λ j hj=>?_;have e1:D n (λ r c=>M (r+1) (sk j c))=D n (λ r c=>P (r+1) (sk j c)):=a7 λ r c hr hc=>(h (r+1) (sk j c) (by lia) (jC hc) (by lia)).1;have e2:D n (λ r c=>M (r+1) (sk j c))=D n (λ r c=>Q (r+1) (sk j c)):=a7 λ r c hr hc=>(h (r+1) (sk j c) (by lia) (jC hc) (by lia)).2;rw[h0 j hj,<-e1,<-e2];grind
 |n+1,M,P,Q,a,b,i+1,hi,h0,h=>by
  rw[de,de,de,<-cJ,<-cJ,<-jA];refine az λ j hj=>?_;have e:=Dx (n:=n) (M:=λ r c=>M (r+1) (sk j c)) (P:=λ r c=>P (r+1) (sk j c)) (Q:=λ r c=>Q (r+1) (sk j c)) (a:=a) (b:=b) (i:=i) (by lia) (λ c hc=>h0 (sk j c) (jC hc)) λ r c hr hc hne=>h (r+1) (sk j c) (by lia) (jC hc) (by lia);have p:=h 0 j (by lia) hj (by lia);rw[e,<-p.1,<-p.2];grind
theorem S9{n:Nat}{M:Fn}(h:∀c,c<n+2->M 0 c=M 1 c):D (n+2) M=0:=by
 let T:Nat->Nat->Int:=λ j k=>sg j*M 0 j*(sg k*M 1 (sk j k)*D n λ r c=>M (r+2) (sk j (sk k c)))
 have e1:∀j,j<n+2->sg j*M 0 j*D (n+1) (λ r c=>M (r+1) (sk j c))=S (n+1) λ k=>T j k:=λ j hj=>by
  rw[de,<-cJ]
 rw[de,az e1]
 have e2:∀j,j<n+2->S (n+1) (λ k=>T j k)=S (n+1) (λ k=>if k<j then T j k else 0)+S (n+1) (λ k=>if k<j then 0 else T j k):=λ j _=>by
  rw[<-jA];refine az λ k _=>?_;split<;>lia
 rw[az e2,jA]
 have e3:∀j k,j<n+2->k<n+1->¬k<j->T j k= -T (k+1) j:=λ j k hj hk hjk=>by
  have s1:sk (k+1) j=j:=by unfold sk;rw[UA (by lia)]
  have s2:sk j k=k+1:=by unfold sk;rw[Uy hjk]
  have s3:(λ r c=>M (r+2) (sk (k+1) (sk j c)))=λ r c=>M (r+2) (sk j (sk k c)):=by
   funext r c;rw[Rx (show j<k+1 by lia)];rfl
  show sg j*M 0 j*(sg k*M 1 (sk j k)*D n λ r c=>M (r+2) (sk j (sk k c)))= -(sg (k+1)*M 0 (k+1)*(sg j*M 1 (sk (k+1) j)*D n λ r c=>M (r+2) (sk (k+1) (sk j c))));rw[s1,s2,s3,vQ,<-h j hj,<-h (k+1) (by lia)];grind
 have e4:S (n+2) (λ j=>S (n+1) λ k=>if k<j then 0 else T j k)= -S (n+2) (λ j=>S (n+1) λ k=>if k<j then T j k else 0):=by
  rw[iX,vv (n+1) (λ j=>S (n+1) λ k=>if k<j then T j k else 0)];have z:S (n+1) (λ k=>if k<0 then T 0 k else 0)=0:=mf λ k _=>Uy (by lia);rw[z,XF,<-ES];refine az λ k hk=>?_;have:S (n+2) (λ j=>if k<j then 0 else T j k)=S (n+1) (λ j=>if k<j then 0 else T j k)+(if k<n+1 then 0 else T (n+1) k):=rfl;rw[this,UA hk,WW,<-ES];refine az λ j hj=>?_;by_cases hkj:k<j
  . rw[UA hkj,Uy (by lia)];rfl
  . rw[Uy hkj,UA (by lia)];exact e3 j k (by lia) hk hkj
 rw[e4];lia
theorem Kz:∀ {n:Nat} {M:Fn} {i:Nat},i+1<n->(∀c,c<n->M i c=M (i+1) c)->D n M=0
 |0,_,_,h,_=>by lia
 |1,_,_,h,_=>by lia
 |n+2,M,0,_,h=>S9 h
 |n+2,M,i+1,hi,h=>by
  rw[de];refine mf λ j hj=>?_;rw[Kz (n:=n+1) (M:=λ r c=>M (r+1) (sk j c)) (i:=i) (by lia) λ c hc=>h (sk j c) (jC hc),VB]
structure Alt(n:Nat)(φ:Fn->Int):Prop where
 cg:∀M M':Fn,(∀r c,r<n->c<n->M r c=M' r c)->φ M=φ M'
 oA:∀(i:Nat) (M P Q:Fn) (a b:Int),i<n->(∀c,c<n->M i c=a*P i c+b*Q i c)->(∀r c,r<n->c<n->r≠i->M r c=P r c/\M r c=Q r c)->φ M=a*φ P+b*φ Q
 alt:∀(i j:Nat) (M:Fn),i<n->j<n->i≠j->(∀c,c<n->M i c=M j c)->φ M=0
def upd(M:Fn)(i:Nat)(x:Nat->Int):Fn:=λ r c=>if r=i then x c else M r c
theorem bH(M:Fn)(i:Nat)(x:Nat->Int)(c:Nat):upd M i x i c=x c:=UA rfl
theorem aF{M:Fn}{i r:Nat}{x:Nat->Int}(h:r≠i)(c:Nat):upd M i x r c=M r c:=Uy h
theorem Si{n i j:Nat}{φ:Fn->Int}(cg:∀M M':Fn,(∀r c,r<n->c<n->M r c=M' r c)->φ M=φ M')
 (oA:∀(i:Nat) (M P Q:Fn) (a b:Int),i<n->(∀c,c<n->M i c=a*P i c+b*Q i c)->(∀r c,r<n->c<n->r≠i->M r c=P r c/\M r c=Q r c)->φ M=a*φ P+b*φ Q)
 (hi:i<n) (hj:j<n) (hij:i≠j) (alt:∀N:Fn,(∀c,c<n->N i c=N j c)->φ N=0) (M:Fn):φ (λ r=>M (sw i j r))= -φ M:=by
 have l1:φ (upd (upd M i λ c=>M i c+M j c) j λ c=>M i c+M j c)=1*φ (upd (upd M i (M i)) j λ c=>M i c+M j c)+1*φ (upd (upd M i (M j)) j λ c=>M i c+M j c):=
  oA i _ _ _ 1 1 hi (λ c _=>by rw[aF hij,aF hij,aF hij,bH,bH,bH];lia) λ r c _ _ hr=>by
   unfold upd;grind
 have l2:∀x:Nat->Int,φ (upd (upd M i x) j λ c=>M i c+M j c)=1*φ (upd (upd M i x) j (M i))+1*φ (upd (upd M i x) j (M j)):=λ x=>
  oA j _ _ _ 1 1 hj (λ c _=>by rw[bH,bH,bH];lia) λ r c _ _ hr=>by
   rw[aF hr,aF hr,aF hr];exact⟨rfl,rfl⟩
 have z0:φ (upd (upd M i λ c=>M i c+M j c) j λ c=>M i c+M j c)=0:=alt _ λ c _=>by rw[aF hij,bH,bH]
 have z1:φ (upd (upd M i (M i)) j (M i))=0:=alt _ λ c _=>by rw[aF hij,bH,bH]
 have z2:φ (upd (upd M i (M j)) j (M j))=0:=alt _ λ c _=>by rw[aF hij,bH,bH]
 have s1:φ (upd (upd M i (M i)) j (M j))=φ M:=cg _ _ λ r c _ _=>by
  unfold upd;split
  . rename_i e;rw[e]
  . split
    . rename_i e;rw[e]
    . rfl
 have s2:φ (upd (upd M i (M j)) j (M i))=φ (λ r=>M (sw i j r)):=cg _ _ λ r c _ _=>by
  unfold upd sw;by_cases h1:r=j
  . rw[UA h1];by_cases h2:r=i
    . lia
    . rw[Uy h2,UA h1]
  . rw[Uy h1];by_cases h2:r=i
    . rw[UA h2,UA h2]
    . rw[Uy h2,Uy h2,Uy h1]
 have a1:=l2 (M i);have a2:=l2 (M j);rw[z1,s1]at a1;rw[z2,s2]at a2;rw[z0,a1,a2]at l1;lia
theorem Alt.swap{n i j:Nat}{φ:Fn->Int}(A:Alt n φ)(hi:i<n)(hj:j<n)(hij:i≠j)(M:Fn):φ (λ r=>M (sw i j r))= -φ M:=
 Si A.cg A.oA hi hj hij (λ N h=>A.alt i j N hi hj hij h) M
theorem vI{n:Nat}{φ:Fn->Int}(cg:∀M M':Fn,(∀r c,r<n->c<n->M r c=M' r c)->φ M=φ M')
 (oA:∀(i:Nat) (M P Q:Fn) (a b:Int),i<n->(∀c,c<n->M i c=a*P i c+b*Q i c)->(∀r c,r<n->c<n->r≠i->M r c=P r c/\M r c=Q r c)->φ M=a*φ P+b*φ Q)
 (adj:∀(i:Nat) (M:Fn),i+1<n->(∀c,c<n->M i c=M (i+1) c)->φ M=0):Alt n φ:=by
 have far:∀(d i:Nat) (M:Fn),i+d+1<n->(∀c,c<n->M i c=M (i+d+1) c)->φ M=0:=by
  intro d;induction d with
  |zero=>exact λ i M h1 h2=>adj i M h1 h2
  |succ d ih=>
   intro i M h1 h2;have hs:=Si cg oA (i:=i+d+1) (j:=i+d+1+1) (by lia) (by lia) (by lia) (λ N h=>adj (i+d+1) N (by lia) h) M
   have:φ (λ r=>M (sw (i+d+1) (i+d+1+1) r))=0:=ih i _ (by lia) λ c hc=>by
    have e1:sw (i+d+1) (i+d+1+1) i=i:=by unfold sw;rw[Uy (by lia),Uy (by lia)]
    have e2:sw (i+d+1) (i+d+1+1) (i+d+1)=i+d+1+1:=by unfold sw;rw[UA rfl]
    rw[e1,e2];exact h2 c hc
   lia
 refine⟨cg,oA,λ i j M hi hj hij h=>?_⟩;by_cases hlt:i<j
 . obtain⟨d,rfl⟩:∃d,j=i+d+1:=⟨j-i-1,by lia⟩
   exact far d i M hj h
 . obtain⟨d,rfl⟩:∃d,i=j+d+1:=⟨i-j-1,by lia⟩
   exact far d j M hi λ c hc=>(h c hc).symm
theorem i4(n:Nat):Alt n (D n):=vI (λ _ _ h=>a7 h) (λ _ _ _ _ _ _ hi h0 h=>Dx hi h0 h) λ _ _ h1 h2=>Kz h1 h2
theorem Alt.IJ{n i:Nat}{φ:Fn->Int}(A:Alt n φ)(hi:i<n){M:Fn}(h:∀c,c<n->M i c=0):φ M=0:=by
 have:=A.oA i M M M 0 0 hi (λ c hc=>by rw[h c hc];rfl) λ _ _ _ _ _=>⟨rfl,rfl⟩
 lia
theorem Alt.ky{n i:Nat}{φ:Fn->Int}(A:Alt n φ)(hi:i<n)(M:Fn)(t:Int)(x:Nat->Int):φ (upd M i λ c=>t*x c)=t*φ (upd M i x):=by
 have:=A.oA i (upd M i λ c=>t*x c) (upd M i x) (upd M i x) t 0 hi (λ c hc=>by rw[bH,bH];lia) λ r c _ _ hr=>by rw[aF hr,aF hr];exact⟨rfl,rfl⟩
 lia
theorem Alt.qI{n i:Nat}{φ:Fn->Int}(A:Alt n φ)(hi:i<n)(M:Fn)(x y:Nat->Int):φ (upd M i λ c=>x c+y c)=φ (upd M i x)+φ (upd M i y):=by
 have:=A.oA i (upd M i λ c=>x c+y c) (upd M i x) (upd M i y) 1 1 hi (λ c hc=>by rw[bH,bH,bH];lia) λ r c _ _ hr=>by rw[aF hr,aF hr,aF hr];exact⟨rfl,rfl⟩
 lia
theorem Alt.qt{n i:Nat}{φ:Fn->Int}(A:Alt n φ)(hi:i<n)(M:Fn)(a:Nat->Int)(x:Nat->Nat->Int):∀m,φ (upd M i λ c=>S m λ j=>a j*x j c)=S m λ j=>a j*φ (upd M i (x j))
 |0=>A.IJ hi λ c _=>by rw[bH];rfl
 |m+1=>by
  have:(λ c=>S (m+1) λ j=>a j*x j c)=λ c=>(S m λ j=>a j*x j c)+a m*x m c:=rfl;rw[this,A.qI hi,A.qt hi M a x m,A.ky hi];rfl
theorem Alt.more{n i:Nat}{φ:Fn->Int}(A:Alt n φ)(hi:i<n)(M:Fn)(x:Nat->Int)(a:Nat->Int)(m:Nat)(hm:m<=n)(him:m<=i):φ (upd M i λ c=>x c+S m λ j=>a j*M j c)=φ (upd M i x):=by
 rw[A.qI hi,A.qt hi M a (λ j=>M j) m,mf λ j hj=>?_,WW];rw[A.alt i j _ hi (by lia) (by lia) λ c _=>by rw[bH,aF (by lia)],VB]
def un(j c:Nat):Nat:=if c<j then c else c-1
def grow(j:Nat)(B:Fn):Fn:=λ r c=>if r=0 then dl j c else if c=j then 0 else B (r-1) (un j c)
theorem vE{n j c:Nat}(hj:j<n+1)(hc:c<n+1)(h:c≠j):un j c<n:=by unfold un;split<;>lia
theorem DL{j c:Nat}(h:c≠j):sk j (un j c)=c:=by unfold sk un;grind
theorem Alt.grow{n j:Nat}{φ:Fn->Int}(A:Alt (n+1) φ)(hj:j<n+1):Alt n λ B=>φ (Mx.grow j B) where
 cg:=λ M M' h=>A.cg _ _ λ r c hr hc=>by
  have:=h (r-1) (un j c);have:=vE (c:=c) hj hc;unfold Mx.grow;grind
 oA:=λ i M P Q a b hi h0 h=>A.oA (i+1) _ _ _ a b (by lia) (λ c hc=>by
  have:=h0 (un j c);have:=vE (c:=c) hj hc;have e:i+1-1=i:=by lia
  unfold Mx.grow;rw[e];grind) λ r c hr hc hne=>by
  have:=h (r-1) (un j c);have:=vE (c:=c) hj hc;unfold Mx.grow;grind
 alt:=λ i k M hi hk hik h=>A.alt (i+1) (k+1) _ (by lia) (by lia) (by lia) λ c hc=>by
  have:=h (un j c);have:=vE (c:=c) hj hc;have e:i+1-1=i:=by lia
  have e2:k+1-1=k:=by lia
  unfold Mx.grow;rw[e,e2];grind
theorem Alt.units{n:Nat}{φ:Fn->Int}(A:Alt (n+1) φ):∀j,j<n+1->φ (Mx.grow j dl)=sg j*φ dl
 |0,_=>by
  rw[wu,VG];refine A.cg _ _ λ r c hr hc=>?_;unfold Mx.grow un dl;grind
 |j+1,hj=>by
  have ih:=A.units j (by lia);have s:=A.swap (i:=0) (j:=j+1) (by lia) hj (by lia) (Mx.grow j dl);rw[vQ,WD,<-ih,<-s];refine A.cg _ _ λ r c hr hc=>?_;unfold Mx.grow un dl sw;grind
theorem Alt.OV{n i k:Nat}{φ:Fn->Int}(A:Alt n φ)(hi:i<n)(hk:k<n)(hik:i≠k)(M:Fn)(x:Nat->Int)(t:Int):φ (upd M i λ c=>x c+t*M k c)=φ (upd M i x):=by
 rw[A.qI hi,A.ky hi M t (M k),A.alt i k (upd M i (M k)) hi hk hik λ c _=>by rw[bH,aF (UD hik)],VB,WW]
def zr(j m:Nat)(M:Fn):Fn:=λ r c=>if r=0 then dl j c else if r<=m/\c=j then 0 else M r c
theorem Alt.zr{n j:Nat}{φ:Fn->Int}(A:Alt (n+1) φ)(M:Fn):∀m,m<=n->φ (Mx.zr j m M)=φ (upd M 0 (dl j))
 |0,_=>A.cg _ _ λ r c hr hc=>by unfold Mx.zr upd;grind
 |m+1,hm=>by
  rw[<-A.zr M m (by lia)];have e:=A.OV (i:=m+1) (k:=0) (by lia) (by lia) (by lia) (Mx.zr j m M) (M (m+1)) (-M (m+1) j)
  have e1:φ (Mx.zr j (m+1) M)=φ (upd (Mx.zr j m M) (m+1) λ c=>M (m+1) c+ -M (m+1) j*Mx.zr j m M 0 c):=A.cg _ _ λ r c hr hc=>by
   unfold upd Mx.zr dl;by_cases h0:r=m+1
   . subst h0;by_cases h1:c=j
     . subst h1;simp;lia
     . have:¬j=c:=λ z=>h1 z.symm;simp[h1,this]
   . rw[Uy h0];grind
  have e2:φ (upd (Mx.zr j m M) (m+1) (M (m+1)))=φ (Mx.zr j m M):=A.cg _ _ λ r c hr hc=>by
   unfold upd Mx.zr;grind
  rw[e1,e,e2]
theorem Dz:∀ {n:Nat} {φ:Fn->Int},Alt n φ->∀M,φ M=φ dl*D n M
 |0,φ,A,M=>by rw[f9,Int.mul_one];exact A.cg _ _ λ r c hr=>by lia
 |n+1,φ,A,M=>by
  have h1:φ M=S (n+1) λ j=>M 0 j*φ (upd M 0 (dl j)):=by
   rw[<-A.qt (by lia) M (M 0) dl (n+1)];refine A.cg _ _ λ r c hr hc=>?_;by_cases h0:r=0
   . subst h0;rw[bH,uI hc]
   . rw[aF h0]
  have h2:∀j,j<n+1->φ (upd M 0 (dl j))=φ (Mx.grow j λ r c=>M (r+1) (sk j c)):=λ j hj=>by
   rw[<-A.zr M n (UB _)];refine A.cg _ _ λ r c hr hc=>?_;unfold Mx.grow Mx.zr;by_cases h0:r=0
   . rw[UA h0,UA h0]
   . rw[Uy h0,Uy h0];by_cases h3:c=j
     . rw[UA ⟨by lia,h3⟩,UA h3]
     . rw[Uy (by lia),Uy h3];dsimp only;rw[DL h3,show r-1+1=r by lia]
  rw[h1,de,<-cJ];refine az λ j hj=>?_;have h3:=Dz (A.grow hj) λ r c=>M (r+1) (sk j c);have h4:=A.units j hj;have h5:φ (Mx.grow j λ r c=>M (r+1) (sk j c))=φ (Mx.grow j dl)*D n λ r c=>M (r+1) (sk j c):=h3;rw[h2 j hj,h5,h4];grind
theorem rS:∀n,D n dl=1
 |0=>rfl
 |n+1=>by
  rw[de,o5 (k:=0) (by lia) λ j hj h0=>by rw[dq (UD h0),VB,XH]]
  have:D n (λ r c=>dl (r+1) (sk 0 c))=D n dl:=a7 λ r c _ _=>by
   unfold dl sk;grind
  rw[this,rS n,dh];rfl
theorem r_(n:Nat)(A B:Fn):D n (λ r c=>S n λ k=>A r k*B k c)=D n A*D n B:=by
 have al:Alt n λ A=>D n (λ r c=>S n λ k=>A r k*B k c):=by
  refine⟨λ M M' h=>a7 λ r c hr hc=>az λ k hk=>by rw[h r k hr hk],λ i M P Q a b hi h0 h=>(i4 n).oA i _ _ _ a b hi (λ c hc=>?_) λ r c hr hc hne=>⟨az λ k hk=>by rw[(h r k hr hk hne).1],az λ k hk=>by rw[(h r k hr hk hne).2]⟩,λ i j M hi hj hij h=>(i4 n).alt i j _ hi hj hij λ c hc=>az λ k hk=>by rw[h k hk]⟩;show(S n λ k=>M i k*B k c)=a*(S n λ k=>P i k*B k c)+b*S n λ k=>Q i k*B k c;rw[<-cJ,<-cJ,<-jA];refine az λ k hk=>?_;rw[h0 k hk];grind
 have h:=Dz al A;have e:D n (λ r c=>S n λ k=>dl r k*B k c)=D n B:=a7 λ r c hr hc=>ow hr λ k=>B k c;rw[h,e,Wg]
theorem FI:∀ {n:Nat} {M P Q:Fn} {a b:Int} {i:Nat},i<n->(∀r,r<n->M r i=a*P r i+b*Q r i)->(∀r c,r<n->c<n->c≠i->M r c=P r c/\M r c=Q r c)->D n M=a*D n P+b*D n Q
 |0,_,_,_,_,_,_,h,_,_=>by lia
 |n+1,M,P,Q,a,b,i,hi,h0,h=>by
  rw[de,de,de,<-cJ,<-cJ,<-jA];refine az λ j hj=>?_;by_cases hij:j=i
  . subst hij;have hs:∀c,sk j c≠j:=λ c=>by unfold sk;split<;>lia
    have e1:D n (λ r c=>M (r+1) (sk j c))=D n (λ r c=>P (r+1) (sk j c)):=a7 λ r c hr hc=>(h (r+1) (sk j c) (by lia) (jC hc) (hs c)).1;have e2:D n (λ r c=>M (r+1) (sk j c))=D n (λ r c=>Q (r+1) (sk j c)):=a7 λ r c hr hc=>(h (r+1) (sk j c) (by lia) (jC hc) (hs c)).2;rw[h0 0 (by lia),<-e1,<-e2];grind
  . have p:=h 0 j (by lia) hj hij;have hu:sk j (un j i)=i:=DL (UD hij);have hs:∀c,c≠un j i->sk j c≠i:=λ c hc=>by unfold sk;unfold un at hc;grind
    have hlt:un j i<n:=vE hj hi (UD hij)
    have e:=FI (n:=n) (M:=λ r c=>M (r+1) (sk j c)) (P:=λ r c=>P (r+1) (sk j c)) (Q:=λ r c=>Q (r+1) (sk j c)) (a:=a) (b:=b) (i:=un j i) hlt (λ r hr=>by
     rw[hu];exact h0 (r+1) (by lia)) λ r c hr hc hne=>h (r+1) (sk j c) (by lia) (jC hc) (hs c hne)
    rw[e,<-p.1,<-p.2];grind
theorem FR:∀ {n:Nat} {M:Fn} {i:Nat},i+1<n->(∀r,r<n->M r i=M r (i+1))->D n M=0
 |0,_,_,h,_=>by lia
 |n+1,M,i,hi,h=>by
  rw[de]
  have key:∀j,j<n+1->j≠i->j≠i+1->D n (λ r c=>M (r+1) (sk j c))=0:=λ j hj h1 h2=>by
   refine FR (i:=un j i) (by unfold un;split<;>lia) λ r hr=>?_;have e1:sk j (un j i)=i:=DL (UD h1);have e2:sk j (un j i+1)=i+1:=by unfold sk un;grind
   rw[e1,e2];exact h (r+1) (by lia)
  have e:D n (λ r c=>M (r+1) (sk i c))=D n (λ r c=>M (r+1) (sk (i+1) c)):=a7 λ r c hr hc=>by
   by_cases hc2:c=i
   . subst hc2;have a1:sk c c=c+1:=by unfold sk;rw[Uy (by lia)]
     have a2:sk (c+1) c=c:=by unfold sk;rw[UA (by lia)]
     rw[a1,a2];exact(h (r+1) (by lia)).symm
   . have a1:sk i c=sk (i+1) c:=by unfold sk;grind
     rw[a1]
  have two:∀(m:Nat) (f:Nat->Int),i+1<m->(∀j,j<m->j≠i->j≠i+1->f j=0)->S m f=f i+f (i+1):=λ m=>by
   induction m with
   |zero=>intro f h;lia
   |succ m ih=>
    intro f hm hf;show S m f+f m=_;by_cases hmi:m=i+1
    . subst hmi;rw[o5 (k:=i) (by lia) λ j hj hne=>hf j (by lia) hne (by lia)]
    . rw[ih f (by lia) λ j hj h1 h2=>hf j (by lia) h1 h2,hf m (by lia) (by lia) hmi,WW]
  rw[two (n+1) _ hi λ j hj h1 h2=>by rw[key j hj h1 h2,VB],e,vQ,h 0 (by lia)];grind
def tr(M:Fn):Fn:=λ r c=>M c r
theorem k_(n:Nat)(M:Fn):D n (tr M)=D n M:=by
 have al:Alt n λ A=>D n (tr A):=vI (λ M M' h=>a7 λ r c hr hc=>h c r hc hr)
  (λ i M P Q a b hi h0 h=>FI hi (λ r hr=>h0 r hr) λ r c hr hc hne=>h c r hc hr hne)
  λ i M hi h=>FR hi λ r hr=>h r hr
 have h:=Dz al M;have e:D n (tr dl)=D n dl:=a7 λ r c _ _=>ox c r;have h2:D n (tr M)=D n (tr dl)*D n M:=h;rw[h2,e,rS,VG]
def Pr:Nat->(Nat->Int)->Int
 |0,_=>1
 |n+1,f=>Pr n f*f n
theorem uR:∀ {n:Nat} {M:Fn},(∀c,c<n+1->M n c=dl n c)->D (n+1) M=D n M
 |0,M,h=>by
  rw[de];show 0+sg 0*M 0 0*D 0 _=1;rw[h 0 (by lia),dh,wu,f9];lia
 |n+1,M,h=>by
  have e1:∀j,j<n+1->D (n+1) (λ r c=>M (r+1) (sk j c))=D n (λ r c=>M (r+1) (sk j c)):=λ j hj=>uR λ c hc=>by
   rw[h (sk j c) (jC hc)];unfold dl sk;grind
  have e2:D (n+1) (λ r c=>M (r+1) (sk (n+1) c))=0:=(i4 (n+1)).IJ (i:=n) (by lia) λ c hc=>by
   have s:sk (n+1) c=c:=by unfold sk;rw[UA (by lia)]
   rw[s,h c (by lia),dq (by lia)]
  have e3:D (n+1+1) M=(S (n+1) λ j=>sg j*M 0 j*D (n+1) λ r c=>M (r+1) (sk j c))+sg (n+1)*M 0 (n+1)*D (n+1) (λ r c=>M (r+1) (sk (n+1) c)):=de (n+1) M;rw[e3,e2,VB,WW,de];exact az λ j hj=>by rw[e1 j hj]
theorem lR{M:Fn}{i j:Nat}{x y:Nat->Int}(h:i≠j):upd (upd M i x) j y=upd (upd M j y) i x:=by
 funext r c;unfold upd;grind
def gx(R:Fn)(p:Nat)(x:Nat->Int)(j:Nat):Int:=D (p+1) λ r c=>if r<p then R r (if c<p then c else j)else x (if c<p then c else j)
theorem Ax{R:Fn}{p j:Nat}{x:Nat->Int}(h:j<p):gx R p x j=0:=by
 unfold gx;rw[<-k_];refine(i4 (p+1)).alt j p _ (by lia) (by lia) (by lia) λ c hc=>?_;unfold tr;dsimp only;rw[UA h,Uy (Vt p)]
def bt(R:Fn)(p:Nat)(x:Nat->Int)(k:Nat):Int:=D (p+1) (upd (λ c r=>if r<p then R r c else x c) p (dl k))
theorem Ky(R:Fn)(p:Nat)(x:Nat->Int)(j:Nat):gx R p x j=D p R*x j+S p λ k=>bt R p x k*R k j:=by
 have e1:gx R p x j=D (p+1) (upd (λ c r=>if r<p then R r c else x c) p λ r=>S (p+1) λ k=>(if k<p then R k j else x j)*dl k r):=by
  unfold gx;rw[<-k_];refine a7 λ c r hc hr=>?_;unfold tr upd;by_cases h:c=p
  . subst h;rw[UA rfl];dsimp only;rw[uI hr,Uy (Vt _)]
  . rw[Uy h];dsimp only;rw[UA (show c<p by lia)]
 rw[e1,(i4 (p+1)).qt (by lia)]
 have e2:D (p+1) (upd (λ c r=>if r<p then R r c else x c) p (dl p))=D p R:=by
  rw[uR λ c _=>bH _ _ _ _];rw[<-k_];refine a7 λ r c hr hc=>?_;unfold tr;rw[aF (by lia),UA (by lia)]
 have e3:(S (p+1) λ k=>(if k<p then R k j else x j)*D (p+1) (upd (λ c r=>if r<p then R r c else x c) p (dl k)))=(S p λ k=>(if k<p then R k j else x j)*D (p+1) (upd (λ c r=>if r<p then R r c else x c) p (dl k)))+(if p<p then R p j else x j)*D (p+1) (upd (λ c r=>if r<p then R r c else x c) p (dl p)):=rfl;rw[e3,e2,Uy (Vt p),Int.add_comm,Wg];congr 1;refine az λ k hk=>?_;rw[UA hk,Wg];rfl
def cl(p j1 j2 c:Nat):Nat:=if c<p then c else if c=p then j1 else j2
def gy(R:Fn)(p:Nat)(x y:Nat->Int)(j1 j2:Nat):Int:=D (p+2) (upd (upd (λ r c=>R r (cl p j1 j2 c)) p λ c=>x (cl p j1 j2 c)) (p+1) λ c=>y (cl p j1 j2 c))
theorem Qw{R:Fn}{p j1 j2:Nat}{x y:Nat->Int}(hd:D p R≠0):gx R p x j1*gx R p y j2-gx R p y j1*gx R p x j2=D p R*gy R p x y j1 j2:=by
 have A:=i4 (p+2)
 let B:Fn:=λ r c=>R r (cl p j1 j2 c)
 let ps:(Nat->Int)->(Nat->Int)->Int:=λ u v=>D (p+2) (upd (upd B p u) (p+1) v)
 have s1:∀u,ps u (λ c=>gx R p y (cl p j1 j2 c))=D p R*ps u λ c=>y (cl p j1 j2 c):=λ u=>by
  have e:(λ c=>gx R p y (cl p j1 j2 c))=λ c=>(λ c=>D p R*y (cl p j1 j2 c)) c+S p λ k=>bt R p y k*upd B p u k c:=by
   funext c;rw[Ky];congr 1;refine az λ k hk=>?_;rw[aF (by lia)]
  show D (p+2) (upd (upd B p u) (p+1) λ c=>gx R p y (cl p j1 j2 c))=_;rw[e,A.more (i:=p+1) (by lia) (upd B p u) (λ c=>D p R*y (cl p j1 j2 c)) (bt R p y) p (by lia) (by lia),A.ky (by lia)]
 have s2:∀v,ps (λ c=>gx R p x (cl p j1 j2 c)) v=D p R*ps (λ c=>x (cl p j1 j2 c)) v:=λ v=>by
  have e:(λ c=>gx R p x (cl p j1 j2 c))=λ c=>(λ c=>D p R*x (cl p j1 j2 c)) c+S p λ k=>bt R p x k*upd B (p+1) v k c:=by
   funext c;rw[Ky];congr 1;refine az λ k hk=>?_;rw[aF (by lia)]
  show D (p+2) (upd (upd B p λ c=>gx R p x (cl p j1 j2 c)) (p+1) v)=D p R*D (p+2) (upd (upd B p λ c=>x (cl p j1 j2 c)) (p+1) v);rw[lR (by lia),e,A.more (i:=p) (by lia) (upd B (p+1) v) (λ c=>D p R*x (cl p j1 j2 c)) (bt R p x) p (by lia) (by lia),A.ky (by lia),lR (by lia)]
 have lhs:ps (λ c=>gx R p x (cl p j1 j2 c)) (λ c=>gx R p y (cl p j1 j2 c))=D p R*(D p R*gy R p x y j1 j2):=by
  rw[s1,s2];rfl
 have two:∀z:Nat->Int,∀c,c<p+2->gx R p z (cl p j1 j2 c)=gx R p z j1*dl p c+gx R p z j2*dl (p+1) c:=λ z c hc=>by
  unfold cl;by_cases h1:c<p
  . rw[UA h1,Ax h1,dq (by lia),dq (by lia)];lia
  . rw[Uy h1];by_cases h2:c=p
    . rw[UA h2,h2,dh,dq (by lia)];lia
    . rw[Uy h2,show c=p+1 by lia,dh,dq (by lia)];lia
 have lin2:∀u a b,ps u (λ c=>a*dl p c+b*dl (p+1) c)=a*ps u (dl p)+b*ps u (dl (p+1)):=λ u a b=>by
  show D (p+2) (upd (upd B p u) (p+1) λ c=>a*dl p c+b*dl (p+1) c)=_;rw[A.qI (by lia),A.ky (by lia),A.ky (by lia)]
 have lin1:∀v a b,ps (λ c=>a*dl p c+b*dl (p+1) c) v=a*ps (dl p) v+b*ps (dl (p+1)) v:=λ v a b=>by
  show D (p+2) (upd (upd B p λ c=>a*dl p c+b*dl (p+1) c) (p+1) v)=a*D (p+2) (upd (upd B p (dl p)) (p+1) v)+b*D (p+2) (upd (upd B p (dl (p+1))) (p+1) v);rw[lR (by lia),A.qI (by lia),A.ky (by lia),A.ky (by lia),lR (by lia),lR (show p+1≠p by lia)]
 have z1:∀u,ps u u=0:=λ u=>A.alt p (p+1) _ (by lia) (by lia) (by lia) λ c _=>by rw[aF (by lia),bH,bH]
 have z2:ps (dl (p+1)) (dl p)= -ps (dl p) (dl (p+1)):=by
  have h:=A.swap (i:=p) (j:=p+1) (by lia) (by lia) (by lia) (upd (upd B p (dl p)) (p+1) (dl (p+1)));rw[<-h];refine a7 λ r c hr hc=>?_;unfold upd sw;grind
 have z3:ps (dl p) (dl (p+1))=D p R:=by
  show D (p+2) (upd (upd B p (dl p)) (p+1) (dl (p+1)))=_;rw[uR λ c _=>bH _ _ _ _];have e:D (p+1) (upd (upd B p (dl p)) (p+1) (dl (p+1)))=D (p+1) (upd B p (dl p)):=a7 λ r c hr hc=>aF (by lia) c;rw[e,uR λ c _=>bH _ _ _ _];refine a7 λ r c hr hc=>?_;rw[aF (by lia)];show R r (cl p j1 j2 c)=R r c;unfold cl;rw[UA hc]
 have rhs:ps (λ c=>gx R p x (cl p j1 j2 c)) (λ c=>gx R p y (cl p j1 j2 c))=D p R*(gx R p x j1*gx R p y j2-gx R p y j1*gx R p x j2):=by
  have e:ps (λ c=>gx R p x (cl p j1 j2 c)) (λ c=>gx R p y (cl p j1 j2 c))=ps (λ c=>gx R p x j1*dl p c+gx R p x j2*dl (p+1) c) (λ c=>gx R p y j1*dl p c+gx R p y j2*dl (p+1) c):=a7 λ r c hr hc=>by
   unfold upd;by_cases h1:r=p+1
   . rw[UA h1,UA h1];exact two y c hc
   . rw[Uy h1,Uy h1];by_cases h2:r=p
     . rw[UA h2,UA h2];exact two x c hc
     . rw[Uy h2,Uy h2]
  rw[e,lin1,lin2,lin2,z1,z1,z2,z3];grind
 have:=lhs.symm.trans rhs;exact(Yy hd this).symm
theorem KI{n:Nat}{f:Nat->Int}{m:Nat}(h:∀i,i<n->(f i).natAbs<=m):(S n f).natAbs<=n*m:=by
 induction n with
 |zero=>simp[S]
 |succ n ih=>
  have h1:=ih λ i hi=>h i (by lia);have h2:=h n (by lia);show(S n f+f n).natAbs<=_;rw[Nat.succ_mul];lia
theorem mS{m:Nat}:∀ {n:Nat} {M:Fn},n<=8->(∀r c,r<n->c<n->(M r c).natAbs<=m)->(D n M).natAbs<=(8*m)^n
 |0,_,_,_=>by simp[D]
 |n+1,M,hn,h=>by
  rw[de]
  have key:∀j,j<n+1->(sg j*M 0 j*D n λ r c=>M (r+1) (sk j c)).natAbs<=m*(8*m)^n:=λ j hj=>by
   have a:=mS (n:=n) (M:=λ r c=>M (r+1) (sk j c)) (by lia) λ r c hr hc=>h (r+1) (sk j c) (by lia) (jC hc);have b:=h 0 j (by lia) hj;have s:(sg j).natAbs=1:=by unfold sg;split<;>rfl
   rw[Vr,Vr,s,YT];exact Xh b a
  have e:=KI key;refine UG e ?_;rw[Xd,We ((8*m)^n),Nat.mul_assoc];have:(n+1)*(m*(8*m)^n)<=8*(m*(8*m)^n):=VM _ hn;exact this
theorem iy(R:Fn)(x:Nat->Int)(j:Nat):gx R 0 x j=x j:=by
 unfold gx;rw[de];show 0+sg 0*_*D 0 _=_;rw[wu,f9,Uy (by lia),Uy (by lia)];lia
theorem j4(R:Fn)(p:Nat):gx R p (R p) p=D (p+1) R:=a7 λ r c hr hc=>by
 have e2:(if c<p then c else p)=c:=by split<;>lia
 rw[e2];split
 . rfl
 . have:r=p:=by lia
   rw[this]
theorem QG(R:Fn)(p:Nat)(y:Nat->Int)(j:Nat):gy R p (R p) y p j=gx R (p+1) y j:=by
 unfold gy gx;refine a7 λ r c hr hc=>?_;have ec:cl p p j c=if c<p+1 then c else j:=by unfold cl;grind
 unfold upd;dsimp only;rw[ec];by_cases a1:r=p+1
 . rw[UA a1,Uy (show¬r<p+1 by lia)]
 . rw[Uy a1,UA (show r<p+1 by lia)];by_cases a2:r=p
   . rw[UA a2,a2]
   . rw[Uy a2]
theorem hW{R:Fn}{p:Nat}(hd:D p R≠0)(y:Nat->Int)(j:Nat):D (p+1) R*gx R p y j-gx R p y p*gx R p (R p) j=D p R*gx R (p+1) y j:=by
 rw[<-QG,<-Qw hd,j4]
theorem kL{G:Fn}(sym:∀i j,G i j=G j i)(p k j:Nat):gx G p (G k) j=gx G p (G j) k:=by
 unfold gx;rw[<-k_];refine a7 λ r c hr hc=>?_;unfold tr;by_cases h1:c<p
 . by_cases h2:r<p
   . simp only[UA h1,UA h2];exact sym _ _
   . simp only[UA h1,Uy h2];exact sym _ _
 . by_cases h2:r<p
   . simp only[Uy h1,UA h2];exact sym _ _
   . simp only[Uy h1,Uy h2];exact sym _ _
theorem zC{G:Fn}{n m p i j:Nat}(hn:n<=8)(hb:∀r c,r<n->c<n->(G r c).natAbs<=m)(hp:p<n)(hi:i<n)(hj:j<n):(gx G p (G i) j).natAbs<=(8*m)^(p+1):=
 mS (by lia) λ r c hr hc=>by
  split
  . exact hb _ _ (by lia) (by split<;>lia)
  . exact hb _ _ hi (by split<;>lia)
def lam(G:Fn)(i j:Nat):Int:=gx G j (G i) j
theorem cN(G:Fn)(i:Nat):lam G i i=D (i+1) G:=j4 G i
theorem Af{G:Fn}(sym:∀i j,G i j=G j i){k:Nat}(hd:D k G≠0)(i j:Nat):(D (k+1) G*gx G k (G i) j-lam G i k*lam G j k).fdiv (D k G)=gx G (k+1) (G i) j:=by
 have h:=hW hd (G i) j;rw[kL sym k k j]at h;unfold lam;rw[h,V4 _ hd]
def ae(A:Rows):Fn:=λ i j=>f_ (A.getD i []) (A.getD j [])
theorem zf:∀a b:Row,f_ a b=f_ b a
 | [],[]=>rfl
 | [],_::_=>rfl
 |_::_,[]=>rfl
 |a::as,b::bs=>by
  unfold f_;rw[zf as bs,Wg]
theorem hV(A:Rows)(i j:Nat):ae A i j=ae A j i:=zf _ _
def aQ(G:Fn)(i:Nat):Row:=(List.range (i+1)).map λ j=>lam G i j
def rJ(G:Fn)(n:Nat):Rows:=(List.range n).map (aQ G)
theorem cR(G:Fn)(i:Nat):(aQ G i).length=i+1:=by unfold aQ;simp
theorem fU(G:Fn){i j:Nat}(h:j<=i):(aQ G i).getD j 0=lam G i j:=by
 unfold aQ;rw[aR (by simp;lia),Vs,Vw]
theorem Ab(G:Fn)(n:Nat):(rJ G n).length=n:=by unfold rJ;simp
theorem CJ(G:Fn){n i:Nat}(h:i<n):(rJ G n).getD i []=aQ G i:=by
 unfold rJ;rw[aR (by simpa using h),Vs,Vw]
def RA(A:Rows)(N:Nat):Fn:=λ i j=>if j<N then ae A i j else(A.getD i []).getD (j-N) 0
def ev(A:Rows)(N i k c:Nat):Int:=gx (RA A N) k (RA A N i) (N+c)
theorem Jg{A:Rows}{N k:Nat}(hk:k<=N):D k (RA A N)=D k (ae A):=a7 λ r c hr hc=>UA (by lia)
theorem QX{A:Rows}{N k i j:Nat}(hk:k<=N)(hj:j<N):gx (RA A N) k (RA A N i) j=gx (ae A) k (ae A i) j:=a7 λ r c hr hc=>by
 have h:(if c<k then c else j)<N:=by split<;>lia
 unfold RA;rw[UA h,UA h]
theorem oX(A:Rows)(N i c:Nat):ev A N i 0 c=(A.getD i []).getD c 0:=by
 unfold ev;rw[iy];unfold RA;rw[Uy (by lia)];congr 1;lia
theorem ot{A:Rows}{N k:Nat}(hk:k<N)(hd:D k (ae A)≠0)(i c:Nat):D k (ae A)*ev A N i (k+1) c=D (k+1) (ae A)*ev A N i k c-lam (ae A) i k*ev A N k k c:=by
 have h:=hW (R:=RA A N) (p:=k) (by rw[Jg (by lia)];exact hd) (RA A N i) (N+c);rw[Jg (by lia),Jg (by lia),QX (by lia) hk]at h;unfold ev lam;lia
theorem gJ(n:Nat)(a b:Int)(f g:Nat->Int):S n (λ c=>a*f c-b*g c)=a*S n f-b*S n g:=by
 induction n with
 |zero=>show(0:Int)=a*0-b*0;lia
 |succ n ih=>
  show S n (λ c=>a*f c-b*g c)+(a*f n-b*g n)=a*(S n f+f n)-b*(S n g+g n);rw[ih,YS,YS];lia
theorem cancel{a x y:Int}(ha:a≠0)(h:a*x=a*y):x=y:=Yy ha h
section
variable {A:Rows}{N w:Nat}
theorem qT(hA:aW N w A)(hD:∀k,k<=N->D k (ae A)≠0){m:Nat}(hm:m<N):∀(k i:Nat),k<=N->i<N->S w (λ c=>ev A N i k c*(A.getD m []).getD c 0)=gx (ae A) k (ae A i) m
 |0,i,_,hi=>by
  rw[iy];have hl:=hA.len;have e1:(A.getD i []).length=w:=hA.eR _ (by rw[aR (by lia)];exact Vb _);have e2:(A.getD m []).length=w:=hA.eR _ (by rw[aR (by lia)];exact Vb _);unfold ae;rw[jI (by rw[e1,e2]),e2];refine az λ c hc=>?_;rw[oX]
 |k+1,i,hk,hi=>by
  have hd:=hD k (by lia);refine cancel hd ?_;rw[<-cJ,<-hW hd (ae A i) m]
  have e:S w (λ c=>D k (ae A)*(ev A N i (k+1) c*(A.getD m []).getD c 0))=S w λ c=>D (k+1) (ae A)*(ev A N i k c*(A.getD m []).getD c 0)-lam (ae A) i k*(ev A N k k c*(A.getD m []).getD c 0):=az λ c hc=>by
   rw[<-V6,ot (by lia) hd,Int.sub_mul,V6,V6]
  rw[e,gJ,qT hA hD hm k i (by lia) hi,qT hA hD hm k k (by lia) (by lia)];rfl
theorem wM(hA:aW N w A)(hD:∀k,k<=N->D k (ae A)≠0){i:Nat}(hi:i<N):∀(k j:Nat),k<=j->j<i->S w (λ c=>ev A N i i c*ev A N j k c)=0
 |0,j,_,hj=>by
  have:=qT hA hD (m:=j) (by lia) i i (by lia) hi;rw[Ax hj]at this;rw[<-this];exact az λ c hc=>by rw[oX]
 |k+1,j,hk,hj=>by
  have hd:=hD k (by lia);refine cancel hd ?_;rw[<-cJ]
  have e:S w (λ c=>D k (ae A)*(ev A N i i c*ev A N j (k+1) c))=S w λ c=>D (k+1) (ae A)*(ev A N i i c*ev A N j k c)-lam (ae A) j k*(ev A N i i c*ev A N k k c):=az λ c hc=>by
   rw[VX,ot (by lia) hd,Int.mul_sub,VX,VX (ev A N i i c)]
  rw[e,gJ,wM hA hD hi k j (by lia) hj,wM hA hD hi k k (UB _) (by lia)];simp
theorem rG(hA:aW N w A)(hD:∀k,k<=N->D k (ae A)≠0){i:Nat}(hi:i<N):∀k,k<=i->S w (λ c=>ev A N i i c*ev A N i k c)=D k (ae A)*D (i+1) (ae A)
 |0,_=>by
  have:=qT hA hD (m:=i) hi i i (by lia) hi;rw[j4]at this;rw[f9,VG,<-this];exact az λ c hc=>by rw[oX]
 |k+1,hk=>by
  have hd:=hD k (by lia);refine cancel hd ?_;rw[<-cJ]
  have e:S w (λ c=>D k (ae A)*(ev A N i i c*ev A N i (k+1) c))=S w λ c=>D (k+1) (ae A)*(ev A N i i c*ev A N i k c)-lam (ae A) i k*(ev A N i i c*ev A N k k c):=az λ c hc=>by
   rw[VX,ot (by lia) hd,Int.mul_sub,VX,VX (ev A N i i c)]
  rw[e,gJ,rG hA hD hi k (by lia),wM hA hD hi k k (UB _) (by lia),VB,WL,VX]
end
theorem j7{n:Nat}{f:Nat->Int}(h:∀i,i<n->0<=f i):0<=S n f:=by
 induction n with
 |zero=>exact X8 _
 |succ n ih=>exact Y1 (ih λ i hi=>h i (by lia)) (h n (by lia))
theorem sq_nonneg(x:Int):0<=x*x:=by
 rcases Int.le_total 0 x with h|h
 . exact WX h h
 . exact Xo h h
theorem i9{A:Rows}{N w:Nat}(hA:aW N w A)(hD:∀k,k<=N->D k (ae A)≠0):∀k,k<=N->0<D k (ae A)
 |0,_=>by rw[f9];decide
 |k+1,hk=>by
  have ih:=i9 hA hD k (by lia);have h:=rG hA hD (i:=k) (by lia) k (UB _);have h2:0<=D k (ae A)*D (k+1) (ae A):=by rw[<-h];exact j7 λ i _=>sq_nonneg _
  have h3:=Int.nonneg_of_mul_nonneg_right h2 ih;have h4:=hD (k+1) hk;lia
structure Sh(G:Fn)(N:Nat):Prop where
 half:∀i j,j<i->i<N->2*(((lam G i j).natAbs:Nat):Int)<=D (j+1) G
 D0:∀i,0<i->i<N->¬4*D (i+1) G*D (i-1) G<3*D i G*D i G-4*lam G i (i-1)*lam G i (i-1)
theorem xM{a b:Int}(hb:0<b):(Rat.divInt a b).num*b=a*(((Rat.divInt a b).den:Nat):Int):=by
 have h:=Rat.num_divInt_den (Rat.divInt a b);exact(Rat.divInt_eq_divInt_iff (by have:=(Rat.divInt a b).den_pos;lia) (by lia)).mp h
theorem Fh{a b c d:Int}(hb:0<b)(hd:0<d):Rat.divInt a b<Rat.divInt c d↔a*d<c*b:=by
 have h1:=xM (a:=a) hb;have h2:=xM (a:=c) hd;have p1:(0:Int)<(((Rat.divInt a b).den:Nat):Int):=by have:=(Rat.divInt a b).den_pos;lia
 have p2:(0:Int)<(((Rat.divInt c d).den:Nat):Int):=by have:=(Rat.divInt c d).den_pos;lia
 rw[Rat.lt_iff];generalize(((Rat.divInt a b).den:Nat):Int)=x at*;generalize(((Rat.divInt c d).den:Nat):Int)=y at*;generalize(Rat.divInt a b).num=u at*;generalize(Rat.divInt c d).num=v at*
 have e1:b*d*(u*y)=x*y*(a*d):=by
  calc b*d*(u*y)=(u*b)*(y*d):=by grind
   _=x*y*(a*d):=by rw[h1];grind
 have e2:b*d*(v*x)=x*y*(c*b):=by
  calc b*d*(v*x)=(v*d)*(x*b):=by grind
   _=x*y*(c*b):=by rw[h2];grind
 have q1:=Ws hb hd;have q2:=Ws p1 p2;constructor
 . intro h;have:=WA h q1;rw[e1,e2]at this;exact WB this (by lia)
 . intro h;have:=WA h q2;rw[<-e1,<-e2]at this;exact WB this (by lia)
theorem Hn{a b c l:Int}(hb:0<b)(hc:0<c):Rat.divInt a b<(Rat.divInt 3 4-Rat.divInt l b*Rat.divInt l b)*Rat.divInt b c↔4*a*c<3*b*b-4*l*l:=by
 have hbb:=Ws hb hb;rw[XA,Y2 _ _ (by decide) (by lia),XA,Fh hb (Ws (Ws (by decide) hbb) hc)];have e1:a*(4*(b*b)*c)=b*b*(4*a*c):=by grind
 have e2:(3*(b*b)-l*l*4)*b*b=b*b*(3*b*b-4*l*l):=by grind
 rw[e1,e2];exact⟨λ h=>WB h (by lia),λ h=>WA h hbb⟩
theorem Jm{t b s0 s1:Int}(hb:0<b)(h1:0<s1)(h:s0*b=t*s1):2*((s0.natAbs:Nat):Int)<=s1↔2*((t.natAbs:Nat):Int)<=b:=by
 have e:((s0.natAbs:Nat):Int)*b=((t.natAbs:Nat):Int)*s1:=by
  have:=Vk Int.natAbs h;rw[Vr,Vr]at this;have h2:((b.natAbs:Nat):Int)=b:=XI (by lia);have h3:((s1.natAbs:Nat):Int)=s1:=XI (by lia)
  calc((s0.natAbs:Nat):Int)*b=((s0.natAbs*b.natAbs:Nat):Int):=by rw[WR,h2]
   _=((t.natAbs*s1.natAbs:Nat):Int):=by rw[this]
   _=((t.natAbs:Nat):Int)*s1:=by rw[WR,h3]
 constructor
 . intro q;refine WC (a:=s1) ?_ h1;have:=Vf q (show 0<=b by lia);have e2:2*((s0.natAbs:Nat):Int)*b=s1*(2*((t.natAbs:Nat):Int)):=by rw[V6,e];grind
   rw[e2]at this;exact this
 . intro q;refine WC (a:=b) ?_ hb;have:=Vf q (show 0<=s1 by lia);have e2:2*((t.natAbs:Nat):Int)*s1=b*(2*((s0.natAbs:Nat):Int)):=by rw[V6,<-e];grind
   rw[e2]at this;exact this
def oO(M:Fn)(k j:Nat)(q:Int):Fn:=λ a b=>if a=k then M a b-q*M j b else M a b
def q_(M:Fn)(k j:Nat)(q:Int):Fn:=λ a b=>if b=k then M a b-q*M a j else M a b
def tk(G:Fn)(k j:Nat)(q:Int):Fn:=q_ (oO G k j q) k j q
theorem JU{n k j:Nat}(M:Fn)(q:Int)(hk:k<n)(hj:j<n)(h:k≠j):D n (oO M k j q)=D n M:=by
 have e:=(i4 n).OV hk hj h M (M k) (-q)
 have e1:D n (upd M k λ c=>M k c+ -q*M j c)=D n (oO M k j q):=a7 λ r c _ _=>by
  unfold upd oO;by_cases hr:r=k
  . rw[UA hr,UA hr,hr];dsimp only;rw[WD];lia
  . rw[Uy hr,Uy hr]
 have e2:D n (upd M k (M k))=D n M:=a7 λ r c _ _=>by
  unfold upd;by_cases hr:r=k
  . rw[UA hr,hr]
  . rw[Uy hr]
 rw[<-e1,e,e2]
theorem Lo{n k j:Nat}(M:Fn)(q:Int)(hk:k<n)(hj:j<n)(h:k≠j):D n (q_ M k j q)=D n M:=by
 rw[<-k_ n M,<-JU (tr M) q hk hj h,<-k_ n (q_ M k j q)];exact a7 λ r c _ _=>rfl
theorem ft(G:Fn)(i p:Nat):lam G i p=D (p+1) λ r c=>G (if r<p then r else i) c:=a7 λ r c hr hc=>by
 have e:(if c<p then c else p)=c:=by split<;>lia
 rw[e];split<;>rfl
theorem Oz{G:Fn}{p j c:Nat}(h:j<p):gx G p (G j) c=0:=by
 unfold gx;refine(i4 (p+1)).alt j p _ (by lia) (by lia) (by lia) λ c' hc'=>?_;rw[UA h,Uy (Vt p)]
theorem uF{G:Fn}{j p:Nat}(h:j<p):lam G j p=0:=Oz h
theorem OZ{G:Fn}{k j i p:Nat}{q:Int}(hj:j<k)(hp:p<=i):lam (tk G k j q) i p=lam G i p-if i=k then q*lam G j p else 0:=by
 by_cases h1:p<k
 . by_cases hi:i=k
   . rw[UA hi,ft,ft,ft]
     have e:=Dx (n:=p+1) (M:=λ r c=>tk G k j q (if r<p then r else i) c) (P:=λ r c=>G (if r<p then r else i) c) (Q:=λ r c=>G (if r<p then r else j) c) (a:=1) (b:= -q) (i:=p) (by lia) (λ c hc=>by
      try dsimp only
      rw[Uy (Vt p)];rw[Uy (Vt p)];unfold tk q_ oO;rw[Uy (by lia),UA hi,hi,WD];lia) (λ r c hr hc hne=>by
      try dsimp only
      have hrp:r<p:=by lia
      rw[UA hrp,UA hrp];unfold tk q_ oO;rw[Uy (by lia),Uy (by lia)];exact⟨rfl,rfl⟩)
     rw[e,VG,WD];lia
   . rw[Uy hi,WL,ft,ft];refine a7 λ r c hr hc=>?_;unfold tk q_ oO;rw[Uy (by lia),Uy (by split<;>lia)]
 . have e0:(if i=k then q*lam G j p else 0)=0:=by
    split
    . rw[uF (by lia),VB]
    . rfl
   rw[e0,WL,ft,ft];by_cases h2:k<p\/i=k
   ·
    have hkk:∀r,r<p+1->((if r<p then r else i)=k↔r=if k<p then k else p):=λ r hr=>by
     by_cases hkp:k<p
     . rw[UA hkp];split<;>lia
     . rw[Uy hkp];split<;>lia
    have hk':(if k<p then k else p)=k:=by split<;>lia
    rw[<-JU (λ r c=>G (if r<p then r else i) c) q (show k<p+1 by lia) (show j<p+1 by lia) (by lia),<-Lo (oO (λ r c=>G (if r<p then r else i) c) k j q) q (show k<p+1 by lia) (show j<p+1 by lia) (by lia)];refine a7 λ r c hr hc=>?_;have hrk:=hkk r hr;rw[hk']at hrk;have hjj:(if j<p then j else i)=j:=UA (by lia);unfold tk q_ oO;by_cases hr2:r=k
    . subst hr2;have:=hrk.mpr rfl;simp only[this,Wx,hjj]
    . have hne:¬(if r<p then r else i)=k:=λ z=>hr2 (hrk.mp z);simp only[Uy hne,Uy hr2]
   . have hpk:p=k:=by lia
     have hik:i≠k:=by lia
     rw[<-Lo (λ r c=>G (if r<p then r else i) c) q (show k<p+1 by lia) (show j<p+1 by lia) (by lia)];refine a7 λ r c hr hc=>?_;have hne:¬(if r<p then r else i)=k:=by split<;>lia
     unfold tk q_ oO;simp only[Uy hne]
def bI(G:Fn)(t:Nat):Fn:=λ a b=>G (sw t (t+1) a) (sw t (t+1) b)
theorem zu(t:Nat):sw t (t+1) t=t+1:=UA rfl
theorem DM(t:Nat):sw t (t+1) (t+1)=t:=by unfold sw;rw[Uy (by lia),UA rfl]
theorem g7{t a:Nat}(h1:a≠t)(h2:a≠t+1):sw t (t+1) a=a:=by unfold sw;rw[Uy h1,Uy h2]
theorem Kr{n i j:Nat}(hi:i<n)(hj:j<n)(h:i≠j)(M:Fn):D n (λ r c=>M (sw i j r) c)= -D n M:=(i4 n).swap hi hj h M
theorem QJ{n i j:Nat}(hi:i<n)(hj:j<n)(h:i≠j)(M:Fn):D n (λ r c=>M r (sw i j c))= -D n M:=by
 rw[<-k_ n M,<-Kr hi hj h (tr M),<-k_];exact a7 λ r c _ _=>rfl
theorem P8{n t:Nat}(h:t+1<n)(M:Fn):D n (λ r c=>M (sw t (t+1) r) (sw t (t+1) c))=D n M:=by
 have e1:=Kr (n:=n) (i:=t) (j:=t+1) (by lia) h (by lia) λ r c=>M r (sw t (t+1) c);have e2:=QJ (n:=n) (i:=t) (j:=t+1) (by lia) h (by lia) M;rw[e1,e2];lia
theorem lE{G:Fn}{t p:Nat}(h:p≠t+1):D p (bI G t)=D p G:=by
 by_cases h1:p<=t
 . refine a7 λ r c hr hc=>?_;unfold bI;rw[g7 (by lia) (by lia),g7 (by lia) (by lia)]
 . exact P8 (by lia) G
theorem jX{G:Fn}{t i p:Nat}(h:p<t):lam (bI G t) i p=lam G (sw t (t+1) i) p:=by
 rw[ft,ft];refine a7 λ r c hr hc=>?_;unfold bI;rw[g7 (a:=c) (by lia) (by lia)];by_cases hr2:r<p
 . rw[UA hr2,UA hr2,g7 (by lia) (by lia)]
 . rw[Uy hr2,Uy hr2]
theorem HW{G:Fn}{t i p:Nat}(h:t+1<p)(hi:p<=i):lam (bI G t) i p=lam G i p:=by
 rw[ft,ft,<-P8 (n:=p+1) (t:=t) (by lia) (λ r c=>G (if r<p then r else i) c)];refine a7 λ r c hr hc=>?_;unfold bI;by_cases hr2:r<p
 . have:sw t (t+1) r<p:=by
    unfold sw;by_cases h1:r=t
    . rw[UA h1];lia
    . rw[Uy h1];by_cases h2:r=t+1
      . rw[UA h2];lia
      . rw[Uy h2];exact hr2
   rw[UA hr2,UA this]
 . have e:r=p:=by lia
   rw[Uy hr2,e,g7 (a:=p) (by lia) (by lia),Uy (Vt p),g7 (a:=i) (by lia) (by lia)]
theorem ux{G:Fn}{t i:Nat}:lam (bI G t) i t=gx G t (G (sw t (t+1) i)) (t+1):=by
 unfold lam gx;refine a7 λ r c hr hc=>?_
 have ec:sw t (t+1) (if c<t then c else t)=if c<t then c else t+1:=by
  by_cases h:c<t
  . rw[UA h,UA h,g7 (by lia) (by lia)]
  . rw[Uy h,Uy h,zu]
 unfold bI;rw[ec];by_cases hr2:r<t
 . rw[UA hr2,UA hr2,g7 (by lia) (by lia)]
 . rw[Uy hr2,Uy hr2]
section
variable {G:Fn}{t:Nat}(sym:∀i j,G i j=G j i)
include sym
theorem M8:∀i j,bI G t i j=bI G t j i:=λ i j=>sym _ _
theorem Aw:lam (bI G t) (t+1) t=lam G (t+1) t:=by
 rw[ux,DM,kL sym];rfl
theorem oo(hd:D t G≠0):D (t+1) G*lam (bI G t) t t=D t G*D (t+2) G+lam G (t+1) t*lam G (t+1) t:=by
 have h:=hW hd (G (t+1)) (t+1);rw[j4,kL sym t t (t+1)]at h;rw[ux,zu];unfold lam;rw[show t+1+1=t+2 from rfl]at h;lia
theorem Qa:lam (bI G t) (t+1) (t+1)=lam G (t+1) (t+1):=by
 rw[cN,cN];exact lE (by lia)
theorem GS(hd:D t G≠0){i:Nat}(hi:t+1<i):D (t+1) G*lam (bI G t) i t=D t G*lam G i (t+1)+lam G (t+1) t*lam G i t:=by
 have h:=hW hd (G i) (t+1);rw[kL sym t t (t+1)]at h;rw[ux,g7 (by lia) (by lia)];unfold lam;have e:gx G t (G i) t*gx G t (G (t+1)) t=gx G t (G (t+1)) t*gx G t (G i) t:=Wg _ _;lia
theorem K7(hd:D t G≠0)(hd1:D (t+1) G≠0){i:Nat}(hi:t+1<i):D (t+1) G*lam (bI G t) i (t+1)=D (t+2) G*lam G i t-lam G (t+1) t*lam G i (t+1):=by
 have hd':D t (bI G t)≠0:=by rw[lE (by lia)];exact hd
 have h:=hW hd' (bI G t i) (t+1)
 have e1:gx (bI G t) t (bI G t i) (t+1)=lam G i t:=by
  unfold lam gx;refine a7 λ r c hr hc=>?_
  have ec:sw t (t+1) (if c<t then c else t+1)=if c<t then c else t:=by
   by_cases h:c<t
   . rw[UA h,UA h,g7 (by lia) (by lia)]
   . rw[Uy h,Uy h,DM]
  unfold bI;rw[ec];by_cases hr2:r<t
  . rw[UA hr2,UA hr2,g7 (by lia) (by lia)]
  . rw[Uy hr2,Uy hr2,g7 (by lia) (by lia)]
 have e2:gx (bI G t) t (bI G t i) t=lam (bI G t) i t:=rfl
 have e3:gx (bI G t) t (bI G t t) (t+1)=lam G (t+1) t:=by
  rw[kL (M8 sym)];exact Aw sym
 have e4:gx (bI G t) (t+1) (bI G t i) (t+1)=lam (bI G t) i (t+1):=rfl;have e5:D (t+1) (bI G t)=lam (bI G t) t t:=(cN _ _).symm;rw[e1,e2,e3,e4,e5,lE (by lia)]at h;have m:=oo (t:=t) sym hd;have l:=GS sym hd hi;refine cancel hd ?_;grind
theorem Nk(hd:D t G≠0)(hd1:D (t+1) G≠0){i:Nat}(hi:t+1<i):D (t+2) G*lam (bI G t) i t=lam (bI G t) t t*lam G i (t+1)+lam G (t+1) t*lam (bI G t) i (t+1):=by
 have m:=oo (t:=t) sym hd;have l:=GS sym hd hi;have u:=K7 sym hd hd1 hi;refine cancel hd1 ?_;grind
end
theorem LP{a b c x y:Int}(ha:0<=a)(hb:0<=b)(h:c*c<=a*b):2*(c*(x*y))<=a*(y*y)+b*(x*x):=by
 by_cases h0:a=0
 . subst h0
   have hc:c=0:=by
    have h1:=sq_nonneg c;have h2:c*c=0:=by omega
    rcases XJ.mp h2 with h|h<;>exact h
   subst hc;have:=WX hb (sq_nonneg x);lia
 . have hp:0<a:=by lia
   have h1:=sq_nonneg (a*y-c*x);have h2:=Vf h (sq_nonneg x);refine WC (a:=a) ?_ hp;have e1:(a*y-c*x)*(a*y-c*x)=a*(a*(y*y))-a*(2*(c*(x*y)))+c*c*(x*x):=by grind
   have e2:a*(a*(y*y)+b*(x*x))=a*(a*(y*y))+a*b*(x*x):=by grind
   rw[e1]at h1;rw[e2];lia
theorem Gr(n:Nat)(f g:Nat->Int):S n (λ i=>f i*g i)*S n (λ i=>f i*g i)<=S n (λ i=>f i*f i)*S n (λ i=>g i*g i):=by
 induction n with
 |zero=>exact X8 _
 |succ n ih=>
  show(S n (λ i=>f i*g i)+f n*g n)*(S n (λ i=>f i*g i)+f n*g n)<=(S n (λ i=>f i*f i)+f n*f n)*(S n (λ i=>g i*g i)+g n*g n);have ha:0<=S n λ i=>f i*f i:=j7 λ i _=>sq_nonneg _;have hb:0<=S n λ i=>g i*g i:=j7 λ i _=>sq_nonneg _;generalize S n (λ i=>f i*f i)=a at*;generalize S n (λ i=>g i*g i)=b at*;generalize S n (λ i=>f i*g i)=c at*;have h:=LP (x:=f n) (y:=g n) ha hb ih;have e1:(c+f n*g n)*(c+f n*g n)=c*c+2*(c*(f n*g n))+(f n*f n)*(g n*g n):=by grind
  have e2:(a+f n*f n)*(b+g n*g n)=a*b+(a*(g n*g n)+b*(f n*f n))+(f n*f n)*(g n*g n):=by grind
  rw[e1,e2];lia
section
variable {A:Rows}{N w:Nat}
theorem bw(hA:aW N w A){i:Nat}(hi:i<N):(A.getD i []).length=w:=hA.eR _ (by have:=hA.len;rw[aR (by lia)];exact Vb _)
theorem eG(hA:aW N w A){i j:Nat}(hi:i<N)(hj:j<N):ae A i j=S w λ c=>(A.getD i []).getD c 0*(A.getD j []).getD c 0:=by
 unfold ae;rw[jI (by rw[bw hA hi,bw hA hj]),bw hA hj]
theorem d4(hA:aW N w A){i:Nat}(hi:i<N):0<=ae A i i:=by
 rw[eG hA hi hi];exact j7 λ c _=>sq_nonneg _
theorem PN(hA:aW N w A)(hD:∀k,k<=N->D k (ae A)≠0){k j:Nat}(hk:k<N)(hj:j<N):lam (ae A) k j*lam (ae A) k j<=D j (ae A)*D (j+1) (ae A)*ae A k k:=by
 have h1:=qT hA hD (m:=k) hk j j (by lia) hj;rw[kL (hV A)]at h1;have h2:=Gr w (λ c=>ev A N j j c) (λ c=>(A.getD k []).getD c 0);rw[rG hA hD hj j (UB _),<-eG hA hk hk]at h2;have h3:S w (λ c=>ev A N j j c*(A.getD k []).getD c 0)=lam (ae A) k j:=h1;rw[h3]at h2;exact h2
theorem N3(hA:aW N w A)(hD:∀k,k<=N->D k (ae A)≠0){m:Int}(hm:∀k,k<=N->D k (ae A)<=m){i:Nat}(hi:i<N)(hh:∀j,j<i->2*(((lam (ae A) i j).natAbs:Nat):Int)<=D (j+1) (ae A)):
 ∀d,d<=i->gx (ae A) (i-d) (ae A i) i<=D (i-d) (ae A)*((d+1:Nat)*m):=by
 have hp:=i9 hA hD;intro d;induction d with
 |zero=>
  intro _;rw[Zc,j4];have h1:=hm (i+1) (by lia);have h2:=hp i (by lia);have h3:=hp (i+1) (by lia);have:(((0+1:Nat):Int)*m)=m:=by simp
  rw[this]
  calc D (i+1) (ae A)<=1*m:=by lia
   _<=D i (ae A)*m:=Vf (by lia) (by lia)
 |succ d ih=>
  intro hd;obtain⟨p,ep⟩:∃p,i-d=p+1:=⟨i-d-1,by lia⟩
  have ep2:i-(d+1)=p:=by lia
  rw[ep2];have ih:=ih (by lia);rw[ep]at ih;have q1:=hp p (by lia);have q2:=hp (p+1) (by lia);have q3:=hm (p+1) (by lia);have hl:=hh p (by lia);have nx:=hW (R:=ae A) (p:=p) (by lia) (ae A i) i;rw[kL (hV A) p p i]at nx
  have hll:lam (ae A) i p*lam (ae A) i p<=D (p+1) (ae A)*D (p+1) (ae A):=by
   have:lam (ae A) i p*lam (ae A) i p=(((lam (ae A) i p).natAbs:Nat):Int)*(((lam (ae A) i p).natAbs:Nat):Int):=(W2 _).symm;rw[this];exact Wd (by lia) (by lia) (by lia) (by lia)
  refine WC (a:=D (p+1) (ae A)) ?_ q2;have h5:=V0 ih (show 0<=D p (ae A) by lia)
  have h6:D (p+1) (ae A)*D (p+1) (ae A)<=D (p+1) (ae A)*(D p (ae A)*m):=by
   refine V0 ?_ (by lia)
   calc D (p+1) (ae A)<=1*m:=by lia
    _<=D p (ae A)*m:=Vf (by lia) (by lia)
  have e1:D (p+1) (ae A)*(D p (ae A)*(((d+1+1:Nat):Int)*m))=D p (ae A)*(D (p+1) (ae A)*(((d+1:Nat):Int)*m))+D (p+1) (ae A)*(D p (ae A)*m):=by
   push_cast
   grind
  rw[e1];unfold lam at hll;lia
theorem M6(hA:aW N w A)(hD:∀k,k<=N->D k (ae A)≠0){m:Int}(hm:∀k,k<=N->D k (ae A)<=m){i:Nat}(hi:i<N)(hh:∀j,j<i->2*(((lam (ae A) i j).natAbs:Nat):Int)<=D (j+1) (ae A)):ae A i i<=((i+1:Nat):Int)*m:=by
 have h:=N3 hA hD hm hi hh i (UB _);rw[V2,iy,f9,VG]at h;exact h
end
theorem AA{t d:Int}(hd:0<d):2*((t-((2*t+d).fdiv (2*d))*d).natAbs:Int)<=d/\(((2*t+d).fdiv (2*d)).natAbs:Int)<=(t.natAbs:Int):=by
 have h1:=Int.fmod_add_mul_fdiv (2*t+d) (2*d);have h2:=V_ (2*t+d) (show 0<2*d by lia);have h3:=Wu (2*t+d) (show 0<2*d by lia);generalize(2*t+d).fmod (2*d)=r at*;generalize(2*t+d).fdiv (2*d)=q at*;have e:2*d*q=2*(q*d):=by grind
 rw[e]at h1;constructor
 . generalize q*d=u at*;lia
 ·
  rcases Int.lt_trichotomy q 0 with hq|hq|hq
  . have h4:=WX (show 0<= -q-1 by lia) (show 0<=d-1 by lia);have e4:(-q-1)*(d-1)= -(q*d)+q-d+1:=by grind
    rw[e4]at h4;generalize q*d=u at*;lia
  . subst hq;simp
  . have h4:=WX (show 0<=q-1 by lia) (show 0<=d-1 by lia);have e4:(q-1)*(d-1)=q*d-q-d+1:=by grind
    rw[e4]at h4;generalize q*d=u at*;lia
theorem Hk{N j:Nat}{G:Fn}{u x:Nat->Int}(hj:j<N)(hx:∀c,c<N->x c=S N λ k=>u k*G k c):D N (upd G j x)=u j*D N G:=by
 have e1:D N (upd G j x)=D N (upd G j λ c=>S N λ k=>u k*G k c):=a7 λ r c hr hc=>by
  unfold upd;by_cases h:r=j
  . rw[UA h,UA h];exact hx c hc
  . rw[Uy h,Uy h]
 rw[e1,(i4 N).qt hj G u G N,o5 hj λ k hk hkj=>?_]
 . congr 1;refine a7 λ r c hr hc=>?_;unfold upd;by_cases h:r=j
   . rw[UA h,h]
   . rw[Uy h]
 . have:D N (upd G j (G k))=0:=(i4 N).alt j k _ hj hk (UD hkj) λ c _=>by rw[bH,aF hkj]
   rw[this,VB]
theorem uV{N j m:Nat}{G:Fn}{u x:Nat->Int}(hN:N<=8)(hj:j<N)(hx:∀c,c<N->x c=S N λ k=>u k*G k c)(hD:D N G≠0)(hG:∀r c,r<N->c<N->(G r c).natAbs<=m)(hxm:∀c,c<N->(x c).natAbs<=m):(u j).natAbs<=(8*m)^N:=by
 have h:=Hk hj hx
 have h2:(D N (upd G j x)).natAbs<=(8*m)^N:=mS hN λ r c hr hc=>by
  unfold upd;by_cases hr2:r=j
  . rw[UA hr2];exact hxm c hc
  . rw[Uy hr2];exact hG r c hr hc
 rw[h,Vr]at h2;have h3:(u j).natAbs*1<=(u j).natAbs*(D N G).natAbs:=Nat.mul_le_mul_left _ (by lia);lia
def aZ(A:Rows)(k:Nat)(q:Int)(j:Nat):Rows:=A.set k (eJ (A.getD k []) (-q) (A.getD j []))
def bV(A:Rows)(k o:Nat):Rows:=(A.set k (A.getD o [])).set o (A.getD k [])
theorem mJ{A:Rows}{k i:Nat}{r:Row}(hk:k<A.length):(A.set k r).getD i []=if i=k then r else A.getD i []:=by
 rw[UU,Yp];by_cases h:k=i
 . rw[UA h,UA (by lia),UA h.symm];rfl
 . rw[Uy h,Uy (UD h),UU]
theorem uk{A:Rows}{t i:Nat}(ht:t+1<A.length):(bV A (t+1) t).getD i []=A.getD (sw t (t+1) i) []:=by
 unfold bV;rw[mJ (by rw[US];lia),mJ ht];unfold sw;by_cases h1:i=t
 . rw[UA h1,UA h1]
 . rw[Uy h1,Uy h1];by_cases h2:i=t+1
   . rw[UA h2,UA h2]
   . rw[Uy h2,Uy h2]
theorem kA{A:Rows}{t:Nat}(ht:t+1<A.length):ae (bV A (t+1) t)=bI (ae A) t:=by
 funext a b;unfold ae bI;rw[uk ht,uk ht]
theorem Gn{A:Rows}{k j:Nat}{q:Int}:(aZ A k q j).length=A.length:=by unfold aZ;rw[US]
theorem mq{A:Rows}{N w k j:Nat}{q:Int}(hA:aW N w A)(hk:k<N)(hj:j<N):aW N w (aZ A k q j):=by
 refine⟨Gn.trans hA.len,λ r hr=>?_⟩;unfold aZ at hr;rcases VO hr with h|rfl
 . exact hA.eR r h
 . rw[kg (by rw[bw hA hk,bw hA hj]),bw hA hk]
theorem uz{A:Rows}{N w t:Nat}(hA:aW N w A)(ht:t+1<N):aW N w (bV A (t+1) t):=by
 refine⟨by unfold bV;rw[US,US];exact hA.len,λ r hr=>?_⟩;unfold bV at hr;rcases VO hr with h|rfl
 . rcases VO h with h|rfl
   . exact hA.eR r h
   . exact bw hA (by lia)
 . exact bw hA ht
theorem qK{A:Rows}{N w k j:Nat}{q:Int}(hA:aW N w A)(hk:k<N)(hj:j<N)(hkj:j≠k){a b:Nat}(ha:a<N)(hb:b<N):ae (aZ A k q j) a b=tk (ae A) k j q a b:=by
 have hl:=hA.len;have lk:=bw hA hk;have lj:=bw hA hj
 have at':∀i c,(((aZ A k q j).getD i []).getD c 0)=if i=k then(A.getD k []).getD c 0-q*(A.getD j []).getD c 0 else(A.getD i []).getD c 0:=λ i c=>by
  unfold aZ;rw[mJ (by lia)];by_cases h:i=k
  . rw[UA h,UA h,rR (by rw[lk,lj]),WD];lia
  . rw[Uy h,Uy h]
 have hS:=gJ;rw[eG (mq hA hk hj) ha hb];unfold tk q_ oO;rw[eG hA ha hb,eG hA ha hj,eG hA hj hb,eG hA hj hj];by_cases h1:b=k
 . by_cases h2:a=k
   . rw[UA h1,UA h2,UA h2]
     have e:S w (λ c=>((aZ A k q j).getD a []).getD c 0*((aZ A k q j).getD b []).getD c 0)=S w λ c=>1*(1*((A.getD a []).getD c 0*(A.getD b []).getD c 0)-q*((A.getD j []).getD c 0*(A.getD b []).getD c 0))-q*(1*((A.getD a []).getD c 0*(A.getD j []).getD c 0)-q*((A.getD j []).getD c 0*(A.getD j []).getD c 0)):=az λ c _=>by
      rw[at',at',UA h1,UA h2,h1,h2];grind
     rw[e,gJ,gJ,gJ];simp only[VG]
   . rw[UA h1,Uy h2,Uy h2]
     have e:S w (λ c=>((aZ A k q j).getD a []).getD c 0*((aZ A k q j).getD b []).getD c 0)=S w λ c=>1*((A.getD a []).getD c 0*(A.getD b []).getD c 0)-q*((A.getD a []).getD c 0*(A.getD j []).getD c 0):=az λ c _=>by
      rw[at',at',UA h1,Uy h2,h1];grind
     rw[e,gJ];lia
 . rw[Uy h1];by_cases h2:a=k
   . rw[UA h2]
     have e:S w (λ c=>((aZ A k q j).getD a []).getD c 0*((aZ A k q j).getD b []).getD c 0)=S w λ c=>1*((A.getD a []).getD c 0*(A.getD b []).getD c 0)-q*((A.getD j []).getD c 0*(A.getD b []).getD c 0):=az λ c _=>by
      rw[at',at',Uy h1,UA h2,h2];grind
     rw[e,gJ];lia
   . rw[Uy h2];exact az λ c _=>by rw[at',at',Uy h1,Uy h2]
theorem Nd{A:Rows}{N p i:Nat}{G:Fn}(h:∀a b,a<N->b<N->ae A a b=G a b)(hp:p<=i)(hi:i<N):lam (ae A) i p=lam G i p:=by
 rw[ft,ft];exact a7 λ r c hr hc=>h _ _ (by split<;>lia) (by lia)
theorem jY{A:Rows}{N w k j i p:Nat}{q:Int}(hA:aW N w A)(hj:j<k)(hk:k<N)(hi:i<N)(hp:p<=i):lam (ae (aZ A k q j)) i p=lam (ae A) i p-if i=k then q*lam (ae A) j p else 0:=by
 rw[Nd (λ a b ha hb=>qK hA hk (by lia) (by lia) ha hb) hp hi,OZ hj hp]
theorem uQ{A:Rows}{N w k j p:Nat}{q:Int}(hA:aW N w A)(hj:j<k)(hk:k<N)(hp:p<=N):D p (ae (aZ A k q j))=D p (ae A):=by
 cases p with
 |zero=>rw[f9,f9]
 |succ p=>
  have:=jY (q:=q) hA hj hk (i:=p) (p:=p) (by lia) (UB _);rw[cN,cN]at this;rw[this];split
  . rename_i h;subst h;rw[uF hj,VB,WL]
  . lia
theorem Ft{A:Rows}{N w k j:Nat}{q:Int}(hA:aW N w A)(hk:k<N)(hj:j<N)(hkj:j≠k):ae (aZ A k q j) k k<=2*(ae A k k+q*q*ae A j j):=by
 have h1:=d4 (mq (q:= -q) hA hk hj) hk;rw[qK hA hk hj hkj hk hk]at h1⊢;unfold tk q_ oO at h1⊢;simp only[Wx]at h1⊢;have hs:=hV A k j;rw[hs]at h1⊢;grind
structure Tn(A0 A U C:Rows)(N w:Nat):Prop where
 isA:aW N w A
 dv:aW N N U
 eZ:aW N N C
 ua:∀i c,i<N->c<w->g A i c=S N λ k=>g U i k*g A0 k c
 ub:∀i j,i<N->j<N->S N (λ k=>g U i k*g C j k)=dl i j
 bu:∀i j,i<N->j<N->S N (λ k=>g C k i*g U k j)=dl i j
theorem mR{A:Rows}{N w k j:Nat}{q:Int}(hA:aW N w A)(hk:k<N)(hj:j<N)(i c:Nat):g (aZ A k q j) i c=if i=k then g A k c-q*g A j c else g A i c:=by
 unfold g aZ;have hl:=hA.len;rw[mJ (by lia)];by_cases h:i=k
 . rw[UA h,UA h,rR (by rw[bw hA hk,bw hA hj]),WD];lia
 . rw[Uy h,Uy h]
theorem oW{A:Rows}{N w t:Nat}(hA:aW N w A)(ht:t+1<N)(i c:Nat):g (bV A (t+1) t) i c=g A (sw t (t+1) i) c:=by
 unfold g;rw[uk (by have:=hA.len;lia)]
theorem uY(n:Nat)(a b:Int)(f h:Nat->Int):S n (λ c=>a*f c+b*h c)=a*S n f+b*S n h:=by
 rw[jA,cJ,cJ]
theorem Tn.take{A0 A U C:Rows}{N w k j:Nat}{q:Int}(T:Tn A0 A U C N w)(hk:k<N)(hj:j<N)(hkj:j≠k):Tn A0 (aZ A k q j) (aZ U k q j) (aZ C j (-q) k) N w where
 isA:=mq T.isA hk hj
 dv:=mq T.dv hk hj
 eZ:=mq T.eZ hj hk
 ua:=λ i c hi hc=>by
  rw[mR T.isA hk hj];have e:S N (λ m=>g (aZ U k q j) i m*g A0 m c)=S N λ m=>(if i=k then g U k m-q*g U j m else g U i m)*g A0 m c:=az λ m _=>by rw[mR T.dv hk hj]
  rw[e];by_cases h:i=k
  . simp only[UA h];rw[T.ua k c hk hc,T.ua j c hj hc];have e2:S N (λ m=>(g U k m-q*g U j m)*g A0 m c)=S N λ m=>1*(g U k m*g A0 m c)-q*(g U j m*g A0 m c):=az λ m _=>by grind
    rw[e2,gJ];lia
  . simp only[Uy h];exact T.ua i c hi hc
 ub:=λ i l hi hl=>by
  have e:S N (λ m=>g (aZ U k q j) i m*g (aZ C j (-q) k) l m)=S N λ m=>(if i=k then g U k m-q*g U j m else g U i m)*(if l=j then g C j m- -q*g C k m else g C l m):=az λ m _=>by rw[mR T.dv hk hj,mR T.eZ hj hk]
  rw[e];have djk:dl j k=0:=dq hkj;by_cases h:i=k
  . by_cases h2:l=j
    . simp only[UA h,UA h2];have e2:S N (λ m=>(g U k m-q*g U j m)*(g C j m- -q*g C k m))=S N λ m=>1*(1*(g U k m*g C j m)+q*(g U k m*g C k m))-q*(1*(g U j m*g C j m)+q*(g U j m*g C k m)):=az λ m _=>by grind
      rw[e2,gJ,uY,uY,T.ub k j hk hj,T.ub k k hk hk,T.ub j j hj hj,T.ub j k hj hk,h,h2,dh,dh,djk,ox k j,djk];lia
    . simp only[UA h,Uy h2];have e2:S N (λ m=>(g U k m-q*g U j m)*g C l m)=S N λ m=>1*(g U k m*g C l m)-q*(g U j m*g C l m):=az λ m _=>by grind
      rw[e2,gJ,T.ub k l hk hl,T.ub j l hj hl,h,dq (UD h2)];lia
  . by_cases h2:l=j
    . simp only[Uy h,UA h2];have e2:S N (λ m=>g U i m*(g C j m- -q*g C k m))=S N λ m=>1*(g U i m*g C j m)+q*(g U i m*g C k m):=az λ m _=>by grind
      rw[e2,uY,T.ub i j hi hj,T.ub i k hi hk,h2,dq h];lia
    . simp only[Uy h,Uy h2];exact T.ub i l hi hl
 bu:=λ i l hi hl=>by
  have e:S N (λ m=>g (aZ C j (-q) k) m i*g (aZ U k q j) m l)=S N λ m=>g C m i*g U m l+((q*(g C k i*g U j l))*dl m j+(-(q*(g C k i*g U j l)))*dl m k):=az λ m _=>by
   rw[mR T.dv hk hj,mR T.eZ hj hk];by_cases h1:m=j
   . have h2:m≠k:=by lia
     rw[UA h1,Uy h2,h1,dh,dq hkj];grind
   . rw[Uy h1,dq h1];by_cases h2:m=k
     . rw[UA h2,h2,dh];grind
     . rw[Uy h2,dq h2];grind
  rw[e,jA,uY,T.bu i l hi hl]
  have e1:S N (λ c=>dl c j)=1:=by
   rw[o5 hj λ i _ h=>dq h,dh]
  have e2:S N (λ c=>dl c k)=1:=by
   rw[o5 hk λ i _ h=>dq h,dh]
  rw[e1,e2];lia
theorem Mi{t a b:Nat}:dl (sw t (t+1) a) (sw t (t+1) b)=dl a b:=by
 by_cases h:a=b
 . rw[h,dh,dh]
 . rw[dq h,dq];intro z;apply h;have:∀x,sw t (t+1) (sw t (t+1) x)=x:=λ x=>by unfold sw;grind
   rw[<-this a,<-this b,z]
theorem qS{t N i:Nat}(ht:t+1<N)(hi:i<N):sw t (t+1) i<N:=by unfold sw;grind
theorem Tn.swap{A0 A U C:Rows}{N w t:Nat}(T:Tn A0 A U C N w)(ht:t+1<N):Tn A0 (bV A (t+1) t) (bV U (t+1) t) (bV C (t+1) t) N w where
 isA:=uz T.isA ht
 dv:=uz T.dv ht
 eZ:=uz T.eZ ht
 ua:=λ i c hi hc=>by
  rw[oW T.isA ht,T.ua _ c (qS ht hi) hc];exact az λ m _=>by rw[oW T.dv ht]
 ub:=λ i j hi hj=>by
  rw[<-Mi (t:=t),<-T.ub _ _ (qS ht hi) (qS ht hj)];exact az λ m _=>by rw[oW T.dv ht,oW T.eZ ht]
 bu:=λ i j hi hj=>by
  rw[<-T.bu i j hi hj,<-Th (i:=t) (j:=t+1) (by lia) ht (by lia) λ k=>g C k i*g U k j];exact az λ m _=>by rw[oW T.dv ht,oW T.eZ ht]
theorem zd{a b:Row}(h:a.length=b.length):f_ a b*f_ a b<=f_ a a*f_ b b:=by
 rw[jI h,jI (a:=a) rfl,jI (a:=b) rfl,h];exact Gr _ _ _
theorem m8{x:Int}{m:Nat}{a b:Int}(h:x*x<=a*b)(ha:0<=a)(hb:0<=b)(h1:a<=m)(h2:b<=m):x.natAbs<=m:=by
 have h3:a*b<=(m:Int)*m:=Wd h1 h2 hb (by lia)
 have h4:((x.natAbs*x.natAbs:Nat):Int)<=((m*m:Nat):Int):=by
  rw[WR,WR,W2];lia
 have h5:x.natAbs*x.natAbs<=m*m:=by lia
 exact WZ λ h=>by
  have:=Nat.mul_lt_mul'' h h;lia
theorem Tn.abs{A0 A U C:Rows}{N w m:Nat}(T:Tn A0 A U C N w)(h0:aW N w A0)(hN:N<=8)(hD0:D N (ae A0)≠0)(hD:D N (ae A)≠0)(g0:∀i,i<N->ae A0 i i<=m)(g1:∀i,i<N->ae A i i<=m){i j:Nat}(hi:i<N)(hj:j<N):
 (g U i j).natAbs<=(8*m)^N/\(g C i j).natAbs<=(8*m)^N:=by
 have gb:∀ {B:Rows},aW N w B->(∀i,i<N->ae B i i<=m)->∀r c,r<N->c<N->(ae B r c).natAbs<=m:=λ{B} hB hb r c hr hc=>by
  have:=zd (a:=B.getD r []) (b:=B.getD c []) (by rw[bw hB hr,bw hB hc]);exact m8 this (d4 hB hr) (d4 hB hc) (hb r hr) (hb c hc)
 have xb:∀a b,a<N->b<N->(f_ (A.getD a []) (A0.getD b [])).natAbs<=m:=λ a b ha hb=>
  m8 (zd (by rw[bw T.isA ha,bw h0 hb])) (d4 T.isA ha) (d4 h0 hb) (g1 a ha) (g0 b hb)
 constructor
 . refine uV (u:=λ k=>g U i k) (x:=λ c=>f_ (A.getD i []) (A0.getD c [])) hN hj (λ c hc=>?_) hD0 (gb h0 g0) λ c hc=>xb i c hi hc;rw[jI (by rw[bw T.isA hi,bw h0 hc]),bw h0 hc]
   have e:S w (λ d=>(A.getD i []).getD d 0*(A0.getD c []).getD d 0)=S w λ d=>S N λ k=>g U i k*(g A0 k d*g A0 c d):=az λ d hd=>by
    have:=T.ua i d hi hd;show g A i d*g A0 c d=_;rw[this,<-l8];exact az λ k _=>by grind
   rw[e,iX];refine az λ k hk=>?_;rw[cJ,eG h0 hk hc];rfl
 . refine uV (u:=λ k=>g C k j) (x:=λ c=>f_ (A.getD c []) (A0.getD j [])) hN hi (λ c hc=>?_) hD (gb T.isA g1) λ c hc=>xb c j hc hj;rw[jI (by rw[bw T.isA hc,bw h0 hj]),bw h0 hj]
   have back:∀d,d<w->g A0 j d=S N λ k=>g C k j*g A k d:=λ d hd=>by
    have e:S N (λ k=>g C k j*g A k d)=S N λ k=>S N λ l=>(g C k j*g U k l)*g A0 l d:=az λ k hk=>by
     rw[T.ua k d hk hd,<-cJ];exact az λ l _=>by grind
    rw[e,iX];have e2:S N (λ l=>S N λ k=>(g C k j*g U k l)*g A0 l d)=S N λ l=>dl j l*g A0 l d:=az λ l hl=>by rw[l8,T.bu j l hj hl]
    rw[e2,ow hj]
   have e:S w (λ d=>(A.getD c []).getD d 0*(A0.getD j []).getD d 0)=S w λ d=>S N λ k=>g C k j*(g A k d*g A c d):=az λ d hd=>by
    show g A c d*g A0 j d=_;rw[back d hd,<-cJ];exact az λ k _=>by grind
   rw[e,iX];refine az λ k hk=>?_;rw[cJ,eG T.isA hk hc];rfl
def oR(A:Rows)(k:Nat):Rows:=A.set k ((A.getD k []).map λ x=> -x)
theorem AJ{A:Rows}{N w k:Nat}(hA:aW N w A)(hk:k<N):aW N w (oR A k):=by
 refine⟨by unfold oR;rw[US];exact hA.len,λ r hr=>?_⟩;unfold oR at hr;rcases VO hr with h|rfl
 . exact hA.eR r h
 . rw[Uz];exact bw hA hk
theorem HD(r:Row)(c:Nat):(r.map λ x=> -x).getD c 0= -r.getD c 0:=by
 rw[UU,UU,UM];cases r[c]?<;>rfl
theorem pC{A:Rows}{N w k:Nat}(hA:aW N w A)(hk:k<N)(i c:Nat):g (oR A k) i c=if i=k then-g A k c else g A i c:=by
 unfold g oR;rw[mJ (by have:=hA.len;lia)];by_cases h:i=k
 . rw[UA h,UA h,HD]
 . rw[Uy h,Uy h]
theorem Tn.neg{A0 A U C:Rows}{N w k:Nat}(T:Tn A0 A U C N w)(hk:k<N):Tn A0 (oR A k) (oR U k) (oR C k) N w where
 isA:=AJ T.isA hk
 dv:=AJ T.dv hk
 eZ:=AJ T.eZ hk
 ua:=λ i c hi hc=>by
  rw[pC T.isA hk];by_cases h:i=k
  . rw[UA h,T.ua k c hk hc,<-ES];exact az λ m _=>by rw[pC T.dv hk,UA h,WD]
  . rw[Uy h,T.ua i c hi hc];exact az λ m _=>by rw[pC T.dv hk,Uy h]
 ub:=λ i j hi hj=>by
  have e:S N (λ m=>g (oR U k) i m*g (oR C k) j m)=S N λ m=>(if i=k then-1 else 1)*(if j=k then-1 else 1)*(g U i m*g C j m):=az λ m _=>by
   rw[pC T.dv hk,pC T.eZ hk];by_cases h1:i=k<;>by_cases h2:j=k<;>simp only[h1,h2,Wx,XX]<;>grind
  rw[e,cJ,T.ub i j hi hj];by_cases h1:i=k
  . by_cases h2:j=k
    . simp[h1,h2]
    . rw[dq (by lia)];simp
  . by_cases h2:j=k
    . rw[dq (by lia)];simp
    . simp[h1,h2]
 bu:=λ i j hi hj=>by
  rw[<-T.bu i j hi hj]
  exact az λ m _=>by
   rw[pC T.dv hk,pC T.eZ hk];by_cases h:m=k
   . subst h;rw[UA rfl,UA rfl];grind
   . rw[Uy h,Uy h]
structure B3 where
 A:Rows
 U:Rows
 C:Rows
def qn(x y:Int):Int:=(2*x+y).fdiv (2*y)
def l_(p top:Nat):Nat->B3->B3
 |0,b=>b
 |k+1,b=>
  let c:=l_ p top k b
  ⟨aZ c.A k ((g c.A k p).fdiv (g c.A top p)) top,aZ c.U k ((g c.A k p).fdiv (g c.A top p)) top,aZ c.C top (-((g c.A k p).fdiv (g c.A top p))) k⟩
def SU(f:Nat->Nat):Nat->Nat
 |0=>0
 |n+1=>SU f n+f n
def mu(A:Rows)(N p:Nat):Nat:=SU (λ i=>(g A i p).natAbs) N
def Sm(b:B3)(N m:Nat):Prop:=∀i c,i<N->(g b.A i c).natAbs<=m/\(g b.U i c).natAbs<=m/\(g b.C i c).natAbs<=m
theorem oG{X:Rows}{r:Row}{k:Nat}(hk:k<=X.length)(i:Nat):(X.take k++r::X.drop k).getD i []=if i<k then X.getD i []else if i=k then r else X.getD (i-1) []:=by
 have lt:(X.take k).length=k:=by rw[WY];lia
 rw[UU,UU,UU];by_cases h:i<k
 . rw[UA h,UC (by rw[lt];exact h),YB h]
 . rw[Uy h,U0 (by rw[lt];lia),lt];by_cases h2:i=k
   . rw[UA h2,h2,V2];rfl
   . rw[Uy h2];have:i-k=(i-1-k)+1:=by lia
     rw[this,Wm,List.getElem?_drop];congr 2;lia
theorem Ib{A:Rows}{N w j:Nat}{z:Nat->Int}(hA:aW N w A)(hj:j<N)(hz:z j≠0)(h:∀c,c<w->S N (λ k=>z k*g A k c)=0):D N (ae A)=0:=by
 have e:D N (upd (ae A) j λ _=>0)=z j*D N (ae A):=Hk hj λ c hc=>by
  have e1:S N (λ k=>z k*ae A k c)=S N λ k=>S w λ q=>z k*g A k q*g A c q:=az λ k hk=>by
   rw[eG hA hk hc,<-cJ];exact az λ q _=>(V6 _ _ _).symm
  rw[e1,iX];refine(mf λ q hq=>?_).symm;rw[l8,h q hq,XH]
 rw[(i4 N).IJ hj λ c _=>bH _ _ _ _]at e;rcases XJ.mp e.symm with h|h
 . exact absurd h hz
 . exact h
end Mx
set_option exponentiation.threshold 100
namespace Mx
theorem p2{a b:Nat}(h:a<=b):(2:Int)^a<=2^b:=by
 have:=UL (n:=2) (by decide) h;have h2:((2^a:Nat):Int)<=((2^b:Nat):Int):=XM.mpr this;rw[VN,VN]at h2;exact h2
theorem nz(a:Nat):(0:Int)<2^a:=YU (by decide)
structure Lg(A0 A U C:Rows)(N w:Nat)(m:Nat->Nat):Prop where
 T:Tn A0 A U C N w
 D:∀p,p<=N->0<D p (ae A)/\D p (ae A)<=2^744
 len:∀i,i<N->ae A i i<=2^m i
variable {A0 A U C:Rows}{N w:Nat}{m:Nat->Nat}
theorem Lg.ne(L:Lg A0 A U C N w m):∀k,k<=N->Mx.D k (ae A)≠0:=λ k hk=>by have:=(L.D k hk).1;lia
theorem Lg.mono(L:Lg A0 A U C N w m){m':Nat->Nat}(h:∀i,i<N->m i<=m' i):Lg A0 A U C N w m':=⟨L.T,L.D,λ i hi=>Vc (L.len i hi) (p2 (h i hi))⟩
theorem Lg.Sa(L:Lg A0 A U C N w m){i p:Nat}(hi:i<N)(hp:p<N):lam (ae A) i p*lam (ae A) i p<=2^(1488+m i):=by
 have h:=PN L.T.isA L.ne hi hp;have h1:=L.D p (by omega);have h2:=L.D (p+1) (by omega);have h3:=L.len i hi;have h4:=d4 L.T.isA hi;have h5:Mx.D p (ae A)*Mx.D (p+1) (ae A)<=2^744*2^744:=Wd h1.2 h2.2 (by omega) (Wh (nz _));have h6:Mx.D p (ae A)*Mx.D (p+1) (ae A)*ae A i i<=2^744*2^744*2^m i:=Wd h5 h3 h4 (Wh (Ws (nz _) (nz _)));have e:(2:Int)^744*2^744*2^m i=2^(1488+m i):=by rw[<-WU,<-WU]
 rw[e]at h6;exact Vc h h6
theorem Fb{x:Int}{b:Nat}(h:x*x<=2^(b+b)):x.natAbs<=2^b:=by
 refine m8 (m:=2^b) (a:=2^b) (b:=2^b) (by rw[<-WU];exact h) (Wh (nz _)) (Wh (nz _)) ?_ ?_<;>(rw[VN];exact X8 _)
theorem Lg.Qk(L:Lg A0 A U C N w m){i p:Nat}(hi:i<N)(hp:p<N)(h:m i<=37000):(lam (ae A) i p).natAbs<=2^40000:=Fb (Vc (L.Sa hi hp) (p2 (by lia)))
theorem Lg.ent(L:Lg A0 A U C N w m)(h:∀i,i<N->m i<=37000):∀r∈A,∀x∈r,x.natAbs<=2^400000:=λ r hr x hx=>by
 obtain⟨i,hi,e⟩:=Vu.mp hr;have hl:=L.T.isA.len;have hiN:i<N:=by lia
 have e2:A.getD i []=r:=by rw[aR hi,e]
 have h1:=L.len i hiN;obtain⟨c,hc,ec⟩:=Vu.mp hx;have hcw:c<w:=by have:=L.T.isA.eR r hr;lia
 rw[eG L.T.isA hiN hiN,e2]at h1
 have h2:x*x<=S w λ c=>r.getD c 0*r.getD c 0:=by
  have key:∀n,c<n->x*x<=S n λ c=>r.getD c 0*r.getD c 0:=λ n=>by
   induction n with
   |zero=>intro h;lia
   |succ n ih=>
    intro h;show x*x<=S n (λ c=>r.getD c 0*r.getD c 0)+r.getD n 0*r.getD n 0;by_cases hcn:c=n
    . subst hcn;rw[aR hc,ec];have:=j7 (n:=c) (f:=λ c=>r.getD c 0*r.getD c 0) λ i _=>sq_nonneg _;lia
    . have:=ih (by lia);have h9:=sq_nonneg (r.getD n 0);lia
  exact key w hcw
 exact Fb (Vc h2 (Vc h1 (p2 (by have:=h i hiN;lia))))
theorem Lg.turn(L:Lg A0 A U C N w m)(h0:aW N w A0)(hN:N<=8)(hD0:Mx.D N (ae A0)≠0)(g0:∀i,i<N->ae A0 i i<=2^37000)(h:∀i,i<N->m i<=37000):(∀r∈U,∀x∈r,x.natAbs<=2^400000)/\∀r∈C,∀x∈r,x.natAbs<=2^400000:=by
 have b:(8*2^37000)^N<=2^400000:=by
  have e:8*2^37000=2^37003:=by rw[show 37003=3+37000 from rfl,Wt]
  rw[e,<-W6];exact UL (by decide) (by lia)
 have key:∀i j,i<N->j<N->(g U i j).natAbs<=2^400000/\(g C i j).natAbs<=2^400000:=λ i j hi hj=>by
  have:=L.T.abs (m:=2^37000) h0 hN hD0 (L.ne N (UB _)) (λ i hi=>by rw[VN];exact g0 i hi) (λ i hi=>by rw[VN];exact Vc (L.len i hi) (p2 (h i hi))) hi hj;exact⟨UG this.1 b,UG this.2 b⟩
 have fin:∀ {B:Rows},aW N N B->(∀i j,i<N->j<N->(g B i j).natAbs<=2^400000)->∀r∈B,∀x∈r,x.natAbs<=2^400000:=λ{B} hB hb r hr x hx=>by
  obtain⟨i,hi,e⟩:=Vu.mp hr;obtain⟨c,hc,ec⟩:=Vu.mp hx;have hl:=hB.len;have hw:=hB.eR r hr;have:=hb i c (by lia) (by lia);unfold g at this;rw[aR hi,e,aR hc,ec]at this;exact this
 exact⟨fin L.T.dv λ i j hi hj=>(key i j hi hj).1,fin L.T.eZ λ i j hi hj=>(key i j hi hj).2⟩
theorem Lg.take(L:Lg A0 A U C N w m){k j:Nat}{q:Int}(hj:j<k)(hk:k<N)(hq:q*q<=2^(1488+m k))(hmj:m j<=748):Lg A0 (aZ A k q j) (aZ U k q j) (aZ C j (-q) k) N w λ i=>if i=k then m k+2240 else m i where
 T:=L.T.take hk (by lia) (by lia)
 D:=λ p hp=>by rw[uQ L.T.isA hj hk hp];exact L.D p hp
 len:=λ i hi=>by
  by_cases h:i=k
  . subst h;rw[UA rfl];have h1:=Ft (q:=q) L.T.isA hi (show j<N by lia) (by lia);have h2:=L.len i hi;have h3:=Vc (L.len j (by lia)) (p2 hmj);have h4:=d4 L.T.isA (i:=j) (by lia);have h5:q*q*ae A j j<=2^(1488+m i)*2^748:=Wd hq h3 h4 (Wh (nz _));rw[<-WU]at h5;have h6:=p2 (show m i<=1488+m i+748 by lia);have h7:(2:Int)^(m i+2240)=2^(1488+m i+748)*2^4:=by rw[<-WU];congr 1;lia
    have h8:(2:Int)^4=16:=by decide
    rw[h7,h8];have h9:=nz (1488+m i+748);lia
  . rw[Uy h]
    have e:ae (aZ A k q j) i i=ae A i i:=by
     rw[qK L.T.isA hk (by lia) (by lia) hi hi];unfold tk q_ oO;rw[Uy h,Uy h]
    rw[e];exact L.len i hi
theorem Lg.swap(L:Lg A0 A U C N w m){t:Nat}(ht:t+1<N)(hm:0<lam (bI (ae A) t) t t/\lam (bI (ae A) t) t t<=2^744):Lg A0 (bV A (t+1) t) (bV U (t+1) t) (bV C (t+1) t) N w λ i=>m (sw t (t+1) i) where
 T:=L.T.swap ht
 D:=λ p hp=>by
  rw[kA (by have:=L.T.isA.len;lia)];by_cases h:p=t+1
  . subst h;rw[<-cN];exact hm
  . rw[lE h];exact L.D p hp
 len:=λ i hi=>by
  rw[kA (by have:=L.T.isA.len;lia)];exact L.len _ (qS ht hi)
end Mx
set_option exponentiation.threshold 100
namespace Mx
theorem wK{f:Nat->Int}:∀n,(∀i,i<n->0<f i)->0<Pr n f
 |0,_=>by show(0:Int)<1;decide
 |n+1,h=>Ws (wK n λ i hi=>h i (by lia)) (h n (by lia))
theorem La{f h:Nat->Int}{t:Nat}:∀n,t<n->(∀i,i<n->0<f i)->(∀i,i<n->0<h i)->(∀i,i<n->i≠t->h i=f i)->h t<f t->Pr n h<Pr n f
 |0,ht,_,_,_,_=>by lia
 |n+1,ht,hf,hh,he,hl=>by
  show Pr n h*h n<Pr n f*f n;by_cases htn:t=n
  . subst htn
    have e:Pr t h=Pr t f:=by
     have key:∀m,m<=t->Pr m h=Pr m f:=λ m=>by
      induction m with
      |zero=>intro _;rfl
      |succ m ih=>intro hm;show Pr m h*h m=Pr m f*f m;rw[ih (by lia),he m (by lia) (by lia)]
     exact key t (UB _)
    rw[e];exact WA hl (wK t λ i hi=>hf i (by lia))
  . rw[he n (by lia) (by lia)];exact Int.mul_lt_mul_of_pos_right (La n (by lia) (λ i hi=>hf i (by lia)) (λ i hi=>hh i (by lia)) (λ i hi=>he i (by lia)) hl) (hf n (by lia))
theorem Le{f h:Nat->Int}:∀n,(∀i,i<n->h i=f i)->Pr n h=Pr n f
 |0,_=>rfl
 |n+1,he=>by show Pr n h*h n=Pr n f*f n;rw[Le n λ i hi=>he i (by lia),he n (by lia)]
def iu(A:Rows)(t:Nat):Prop:=4*(D (t+2) (ae A)*D t (ae A)+lam (ae A) (t+1) t*lam (ae A) (t+1) t)<3*D (t+1) (ae A)*D (t+1) (ae A)
variable {A0 A U C:Rows}{N w:Nat}{m:Nat->Nat}
theorem vf(L:Lg A0 A U C N w m){t:Nat}(ht:t+1<N)(h:iu A t):0<lam (bI (ae A) t) t t/\lam (bI (ae A) t) t t<D (t+1) (ae A):=by
 have p0:=(L.D t (by lia)).1;have p1:=(L.D (t+1) (by lia)).1;have p2:=(L.D (t+2) (by lia)).1;have e:=oo (t:=t) (hV A) (by lia);have h1:=Ws p0 p2;have h2:=sq_nonneg (lam (ae A) (t+1) t);unfold iu at h;rw[Wg (D (t+2) (ae A))]at h;constructor
 . have:0<D (t+1) (ae A)*lam (bI (ae A) t) t t:=by rw[e];lia
   exact Int.pos_of_mul_pos_left (by rw[Wg];exact this) p1
 . refine WB (a:=D (t+1) (ae A)) ?_ (by lia);rw[e];have h3:=Ws p1 p1;have h4:3*D (t+1) (ae A)*D (t+1) (ae A)=3*(D (t+1) (ae A)*D (t+1) (ae A)):=by grind
   rw[h4]at h;lia
def mk(N k:Nat):Nat->Nat:=λ i=>if i=k then 748+2240*(N-k)else 748
structure Lk(A0 A U C:Rows)(N w k:Nat):Prop where
 L:Lg A0 A U C N w (mk N k)
 red:∀i,i<k->i<N->∀j,j<i->2*(((lam (ae A) i j).natAbs:Nat):Int)<=D (j+1) (ae A)
 flat:∀t,t+1<k->t+1<N->¬iu A t
def p_(A:Rows)(N:Nat):Int:=Pr N λ p=>D (p+1) (ae A)
theorem AG{k j:Nat}{q:Int}(hA:aW N w A)(hj:j<k)(hk:k<N):p_ (aZ A k q j) N=p_ A N:=Le N λ p hp=>uQ hA hj hk (by lia)
theorem HE(L:Lg A0 A U C N w m){t:Nat}(ht:t+1<N)(h:iu A t):p_ (bV A (t+1) t) N<p_ A N:=by
 have hl:=L.T.isA.len;have sm:=vf L ht h
 have e:∀p,D p (ae (bV A (t+1) t))=if p=t+1 then lam (bI (ae A) t) t t else D p (ae A):=λ p=>by
  rw[kA (by lia)];by_cases hp:p=t+1
  . rw[UA hp,hp,cN]
  . rw[Uy hp,lE hp]
 refine La (t:=t) N (by lia) (λ i hi=>(L.D (i+1) (by lia)).1) (λ i hi=>?_) (λ i hi hne=>?_) ?_
 . rw[e];split
   . exact sm.1
   . exact(L.D (i+1) (by lia)).1
 . rw[e,Uy (by lia)]
 . rw[e,UA rfl];exact sm.2
theorem MK(L:Lg A0 A U C N w m):0<p_ A N:=wK N λ i hi=>(L.D (i+1) (by lia)).1
theorem AN(hA:aW N w A){k j:Nat}{q:Int}(hj:j<k)(hk:k<N):lam (ae (aZ A k q j)) k j=lam (ae A) k j-q*D (j+1) (ae A):=by
 rw[jY hA hj hk hk (by lia),UA rfl,cN]
theorem CW(hA:aW N w A){k j p:Nat}{q:Int}(hj:j<k)(hk:k<N)(hp:j<p)(hpk:p<=k):lam (ae (aZ A k q j)) k p=lam (ae A) k p:=by
 rw[jY hA hj hk hk hpk,UA rfl,uF hp,VB,WL]
theorem AQ(hA:aW N w A){k j i p:Nat}{q:Int}(hj:j<k)(hk:k<N)(hi:i<N)(hik:i≠k)(hp:p<=i):lam (ae (aZ A k q j)) i p=lam (ae A) i p:=by
 rw[jY hA hj hk hi hp,Uy hik,WL]
theorem NS(L:Lg A0 A U C N w m){k j:Nat}(hk:k<N)(hj:j<N):((2*lam (ae A) k j+D (j+1) (ae A)).fdiv (2*D (j+1) (ae A)))*((2*lam (ae A) k j+D (j+1) (ae A)).fdiv (2*D (j+1) (ae A)))<=2^(1488+m k):=by
 have h1:=(AA (t:=lam (ae A) k j) (L.D (j+1) (by lia)).1).2;have h2:=L.Sa hk hj;generalize(2*lam (ae A) k j+D (j+1) (ae A)).fdiv (2*D (j+1) (ae A))=q at*;have e1:q*q=((q.natAbs:Nat):Int)*((q.natAbs:Nat):Int):=(W2 _).symm;have e2:lam (ae A) k j*lam (ae A) k j=(((lam (ae A) k j).natAbs:Nat):Int)*(((lam (ae A) k j).natAbs:Nat):Int):=(W2 _).symm;rw[e1];rw[e2]at h2;exact Vc (Wd h1 h1 (by lia) (by lia)) h2
end Mx
set_option exponentiation.threshold 100
namespace Mx
theorem lJ{n i j:Nat}(hi:i<n)(hj:j<n):g (units n) i j=dl i j:=by
 unfold g units fo;rw[aR (l:=(List.range n).map _) (by simpa using hi),Vs,Vw,aR (by simpa using hj),Vs,Vw];exact ox _ _
theorem Tn.refl{A:Rows}{N w:Nat}(hA:aW N w A):Tn A A (units N) (units N) N w where
 isA:=hA
 dv:=jn N
 eZ:=jn N
 ua:=λ i c hi hc=>by
  have e:S N (λ k=>g (units N) i k*g A k c)=S N λ k=>dl i k*g A k c:=az λ k hk=>by rw[lJ hi hk]
  rw[e,ow hi]
 ub:=λ i j hi hj=>by
  have e:S N (λ k=>g (units N) i k*g (units N) j k)=S N λ k=>dl i k*dl j k:=az λ k hk=>by rw[lJ hi hk,lJ hj hk]
  rw[e,ow hi];exact ox _ _
 bu:=λ i j hi hj=>by
  have e:S N (λ k=>g (units N) k i*g (units N) k j)=S N λ k=>dl i k*dl k j:=az λ k hk=>by rw[lJ hk hi,lJ hk hj,ox k i]
  rw[e,ow hi]
theorem Lk.start{A:Rows}{N w:Nat}(hA:aW N w A)(hD:∀k,k<=N->D k (ae A)≠0)(hb:∀k,k<=N->D k (ae A)<=2^744)(hl:∀i,i<N->ae A i i<=2^748):Lk A A (units N) (units N) N w 1 where
 L:=⟨Tn.refl hA,λ p hp=>⟨i9 hA hD p hp,hb p hp⟩,λ i hi=>Vc (hl i hi) (p2 (by unfold Mx.mk;split<;>lia))⟩
 red:=λ i hi _ j hj=>by lia
 flat:=λ t ht=>by lia
end Mx
set_option exponentiation.threshold 100
namespace Mx
section
variable {A:Rows}{N w:Nat}
theorem Sh.two(h:Sh (ae A) N){i:Nat}(h0:0<i)(hi:i<N):D i (ae A)*D i (ae A)<=2*D (i+1) (ae A)*D (i-1) (ae A):=by
 have a:=h.half i (i-1) (by lia) hi;have b:=h.D0 i h0 hi;rw[show i-1+1=i by lia]at a;generalize lam (ae A) i (i-1)=l at*;generalize D i (ae A)=d at*;generalize D (i+1) (ae A)=p at*;generalize D (i-1) (ae A)=q at*
 have c:4*l*l<=d*d:=by
  have h1:2*(l.natAbs:Int)*(2*(l.natAbs:Int))<=d*d:=Wd a a (by lia) (by lia);have h2:(l.natAbs:Int)*(l.natAbs:Int)=l*l:=by rw[<-WR,XW]
  grind
 have e:3*d*d=3*(d*d):=by grind
 have e2:4*p*q=2*(2*p*q):=by grind
 lia
variable (hA:aW N w A)(hD:∀k,k<=N->D k (ae A)≠0)(h2:∀i,0<i->i<N->D i (ae A)*D i (ae A)<=2*D (i+1) (ae A)*D (i-1) (ae A))
include hA hD h2
end
section
variable {A B U C:Rows}{N w:Nat}
theorem Tn.unit(T:Tn A B U C N w):D N (g U)*D N (g U)=1:=by
 have a:D N (λ r c=>S N λ k=>g U r k*(tr (g C)) k c)=D N dl:=a7 λ r c hr hc=>T.ub r c hr hc;rw[r_,rS,k_]at a;generalize D N (g U)=x at*;generalize D N (g C)=y at*;have:x.natAbs*y.natAbs=1:=by rw[<-Vr,a];rfl
 have hx:x.natAbs=1:=XN this;rcases Int.natAbs_eq x with h|h<;>rw[hx]at h<;>subst h<;>rfl
theorem Tn.same(T:Tn A B U C N w)(hA:aW N w A):D N (ae B)=D N (ae A):=by
 have e:D N (ae B)=D N λ r c=>S N λ k=>g U r k*(λ k c=>S N λ l=>ae A k l*tr (g U) l c) k c:=a7 λ r c hr hc=>by
  rw[eG T.isA hr hc]
  have a1:S w (λ x=>(B.getD r []).getD x 0*(B.getD c []).getD x 0)=S w λ x=>S N λ k=>S N λ l=>g U r k*(g A k x*g A l x)*g U c l:=az λ x hx=>by
   show g B r x*g B c x=_;rw[T.ua r x hr hx,T.ua c x hc hx,<-l8];refine az λ k _=>?_;rw[<-cJ];exact az λ l _=>by grind
  rw[a1,iX];refine az λ k hk=>?_;rw[iX,<-cJ];refine az λ l hl=>?_;rw[eG hA hk hl,l8,cJ,V6];rfl
 rw[e,r_,r_,k_];have u:=T.unit;generalize D N (g U)=x at*;generalize D N (ae A)=y at*;have:x*(y*x)=(x*x)*y:=by grind
 rw[this,u,VG]
end
end Mx
set_option exponentiation.threshold 100
namespace Mx
section
variable {A:Rows}{N w:Nat}
theorem Bh(hA:aW N w A)(hD:∀k,k<=N->D k (ae A)≠0)(h:Sh (ae A) N):∀j t,t+j+1=N->D (t+1) (ae A)<=2^j*D N (ae A)*D t (ae A)
 |0,t,e=>by
  have p:=i9 hA hD t (by lia);have q:=i9 hA hD N (UB N);rw[e,Int.pow_zero,VG];have:=V0 (show(1:Int)<=D t (ae A)from p) (Wh q);lia
 |j+1,t,e=>by
  have ih:=Bh hA hD h j (t+1) (by lia);have a:=h.two (i:=t+1) (by lia) (by lia);rw[show t+1-1=t by lia]at a;have p0:=i9 hA hD t (by lia);have p1:=i9 hA hD (t+1) (by lia);rw[Int.pow_succ];generalize D (t+1+1) (ae A)=d2 at*;generalize D (t+1) (ae A)=d1 at*;generalize D t (ae A)=d0 at*;have s0:2*d2<=2*(2^j*D N (ae A)*d1):=V0 ih (by decide);have s1:2*d2*d0<=2*(2^j*D N (ae A)*d1)*d0:=Vf s0 (by lia)
  have s2:d1*d1<=(2^j*2*D N (ae A)*d0)*d1:=by
   have:2*(2^j*D N (ae A)*d1)*d0=(2^j*2*D N (ae A)*d0)*d1:=by grind
   lia
  exact Yi s2 p1
theorem Cy(hA:aW N w A)(hD:∀k,k<=N->D k (ae A)≠0)(h:Sh (ae A) N){b:Int}(hb:∀t,t<N->D (t+1) (ae A)<=b*D t (ae A)){i:Nat}(hi:i<N):∀j p,p+j=i->gx (ae A) p (ae A i) i<=D p (ae A)*(((j+1:Nat):Int)*b)
 |0,p,e=>by
  have e':p=i:=by lia
  subst e';rw[j4];have:=hb p hi
  have e2:D p (ae A)*(((0+1:Nat):Int)*b)=b*D p (ae A):=by
   rw[show((0+1:Nat):Int)=1 from rfl,VG,Wg]
  lia
 |j+1,p,e=>by
  have ih:=Cy hA hD h hb hi j (p+1) (by lia);have nx:=hW (R:=ae A) (p:=p) (hD p (by lia)) (ae A i) i;have sy:=kL (hV A) p p i;have hf:=h.half i p (by lia) hi;have p0:=i9 hA hD p (by lia);have p1:=i9 hA hD (p+1) (by lia);have hbp:=hb p (by lia);rw[sy]at nx;unfold lam at hf;generalize gx (ae A) p (ae A i) p=l at*;generalize gx (ae A) (p+1) (ae A i) i=g1 at*;generalize gx (ae A) p (ae A i) i=g0 at*;generalize D (p+1) (ae A)=d1 at*;generalize D p (ae A)=d0 at*
  have hl:l*l<=d1*d1:=by
   have h1:(l.natAbs:Int)*(l.natAbs:Int)<=d1*d1:=Wd (by lia) (by lia) (by lia) (by lia);have h2:(l.natAbs:Int)*(l.natAbs:Int)=l*l:=by rw[<-WR,XW]
   lia
  have s1:d0*g1<=d0*(d1*(((j+1:Nat):Int)*b)):=V0 ih (by lia)
  have s2:g0*d1<=(d0*(((j+1:Nat):Int)*b)+d1)*d1:=by
   have:(d0*(((j+1:Nat):Int)*b)+d1)*d1=d0*(d1*(((j+1:Nat):Int)*b))+d1*d1:=by grind
   have:d1*g0=g0*d1:=Wg _ _;lia
  have s3:=Yi s2 p1
  have e3:d0*(((j+1+1:Nat):Int)*b)=d0*(((j+1:Nat):Int)*b)+b*d0:=by
   rw[show((j+1+1:Nat):Int)=((j+1:Nat):Int)+1 from rfl,Int.add_mul,YS,VG,Wg d0 b]
  lia
theorem JK(hA:aW N w A)(hD:∀k,k<=N->D k (ae A)≠0)(h:Sh (ae A) N)(hN:N<=8){e:Nat}(hd:D N (ae A)<=2^e){i:Nat}(hi:i<N):ae A i i<=2^(N+2+e):=by
 have q:=i9 hA hD N (UB N)
 have hb:∀t,t<N->D (t+1) (ae A)<=(2^(N-1)*2^e)*D t (ae A):=λ t ht=>by
  have r:=Bh hA hD h (N-1-t) t (by lia);have p:=i9 hA hD t (by lia);have a1:(2:Int)^(N-1-t)<=2^(N-1):=p2 (by lia);have a2:(2:Int)^(N-1-t)*D N (ae A)<=2^(N-1)*2^e:=Wd a1 hd (by lia) (Wh (YU (by decide)));exact Vc r (Vf a2 (by lia))
 have s:=Cy hA hD h hb hi i 0 (by lia);rw[iy,f9,VG]at s;have c:((i+1:Nat):Int)*(2^(N-1)*2^e)<=2^3*(2^(N-1)*2^e):=Vf (by lia) (Wh (Ws (YU (by decide)) (YU (by decide))));have c2:(2:Int)^3*(2^(N-1)*2^e)=2^(N+2+e):=by rw[<-WU,<-WU,show 3+(N-1+e)=N+2+e by lia]
 rw[c2]at c;exact Vc s c
end
theorem K3:∀(n:Nat) (f:Nat->Int),S n (λ k=>f (n-1-k))=S n f
 |0,_=>rfl
 |n+1,f=>by
  rw[vv];show f (n+1-1-0)+S n (λ i=>f (n+1-1-(i+1)))=S n f+f n
  have e:S n (λ i=>f (n+1-1-(i+1)))=S n λ k=>f (n-1-k):=az λ i hi=>by
   rw[show n+1-1-(i+1)=n-1-i by lia]
  rw[e,K3 n f,show n+1-1-0=n by lia,Int.add_comm]
theorem sd{A:Rows}{N w i c:Nat}(hA:aW N w A)(hi:i<N):g A.reverse i c=g A (N-1-i) c:=by
 have hl:=hA.len
 have e:A.reverse.getD i []=A.getD (N-1-i) []:=by
  rw[UU,UU,List.getElem?_reverse (by lia),hl]
 unfold g;rw[e]
theorem zg{A:Rows}{N w:Nat}(hA:aW N w A):aW N w A.reverse:=⟨by rw[XU];exact hA.len,λ r hr=>hA.eR r (YG.mp hr)⟩
theorem Tn.rev{A0 A U C:Rows}{N w:Nat}(T:Tn A0 A U C N w):Tn A0 A.reverse U.reverse C.reverse N w where
 isA:=zg T.isA
 dv:=zg T.dv
 eZ:=zg T.eZ
 ua:=λ i c hi hc=>by
  rw[sd T.isA hi,T.ua _ c (by lia) hc];exact az λ k hk=>by rw[sd T.dv hi]
 ub:=λ i j hi hj=>by
  have e:S N (λ k=>g U.reverse i k*g C.reverse j k)=S N λ k=>g U (N-1-i) k*g C (N-1-j) k:=az λ k hk=>by rw[sd T.dv hi,sd T.eZ hj]
  rw[e,T.ub _ _ (by lia) (by lia)];unfold dl;by_cases h:i=j
  . rw[UA h,UA (by lia)]
  . rw[Uy h,Uy (by lia)]
 bu:=λ i j hi hj=>by
  have e:S N (λ k=>g C.reverse k i*g U.reverse k j)=S N λ k=>(λ q=>g C q i*g U q j) (N-1-k):=az λ k hk=>by rw[sd T.eZ hk,sd T.dv hk]
  rw[e,K3 N λ q=>g C q i*g U q j,T.bu i j hi hj]
variable {A:Rows}{N w:Nat}
theorem wX(hA:aW N w A){m:Nat}(hm:m<N):∀(k i:Nat),(∀j,j<k->D j (ae A)≠0)->k<=N->i<N->S w (λ c=>ev A N i k c*(A.getD m []).getD c 0)=gx (ae A) k (ae A i) m
 |0,i,_,_,hi=>by
  rw[iy];have hl:=hA.len;have e1:(A.getD i []).length=w:=hA.eR _ (by rw[aR (by lia)];exact Vb _);have e2:(A.getD m []).length=w:=hA.eR _ (by rw[aR (by lia)];exact Vb _);unfold ae;rw[jI (by rw[e1,e2]),e2];refine az λ c hc=>?_;rw[oX]
 |k+1,i,hD,hk,hi=>by
  have hd:=hD k (by lia);refine cancel hd ?_;rw[<-cJ,<-hW hd (ae A i) m]
  have e:S w (λ c=>D k (ae A)*(ev A N i (k+1) c*(A.getD m []).getD c 0))=S w λ c=>D (k+1) (ae A)*(ev A N i k c*(A.getD m []).getD c 0)-lam (ae A) i k*(ev A N k k c*(A.getD m []).getD c 0):=az λ c hc=>by
   rw[<-V6,ot (by lia) hd,Int.sub_mul,V6,V6]
  rw[e,gJ,wX hA hm k i (λ j hj=>hD j (by lia)) (by lia) hi,wX hA hm k k (λ j hj=>hD j (by lia)) (by lia) (by lia)];rfl
theorem vR(hA:aW N w A):∀(k i:Nat),(∀j,j<k->D j (ae A)≠0)->k<=i->i<N->∃(t:Int) (y:Nat->Int),t≠0/\y i=t*D k (ae A)/\(∀m,i<m->y m=0)/\∀c,c<w->t*ev A N i k c=S N λ m=>y m*g A m c
 |0,i,_,_,hi=>⟨1,λ m=>dl i m,by decide,by rw[f9];unfold dl;simp,λ m hm=>Uy (by lia),λ c hc=>by
   rw[oX,VG];exact(ow hi λ m=>g A m c).symm⟩
 |k+1,i,hD,hk,hi=>by
  obtain⟨t1,y1,h1,e1,z1,s1⟩:=vR hA k i (λ j hj=>hD j (by lia)) (by lia) hi;obtain⟨t2,y2,h2,e2,z2,s2⟩:=vR hA k k (λ j hj=>hD j (by lia)) (UB k) (by lia);have dk:=hD k (by lia);refine⟨D k (ae A)*t1*t2,λ m=>D (k+1) (ae A)*t2*y1 m-lam (ae A) i k*t1*y2 m,Wy (Wy dk h1) h2,?_,λ m hm=>?_,λ c hc=>?_⟩
  . show D (k+1) (ae A)*t2*y1 i-lam (ae A) i k*t1*y2 i=_;rw[e1,z2 i (by lia)];grind
  . show D (k+1) (ae A)*t2*y1 m-lam (ae A) i k*t1*y2 m=_;rw[z1 m hm,z2 m (by lia)];simp
  . have n:=ot (A:=A) (N:=N) (show k<N by lia) dk i c;have a1:=s1 c hc;have a2:=s2 c hc
    have e:S N (λ m=>(D (k+1) (ae A)*t2*y1 m-lam (ae A) i k*t1*y2 m)*g A m c)=D (k+1) (ae A)*t2*S N (λ m=>y1 m*g A m c)-lam (ae A) i k*t1*S N (λ m=>y2 m*g A m c):=by
     rw[<-gJ];exact az λ m _=>by grind
    rw[e,<-a1,<-a2];grind
theorem Hg:∀ {n:Nat} {f:Nat->Int},(∀i,i<n->0<=f i)->S n f=0->∀i,i<n->f i=0
 |0,_,_,_,i,hi=>absurd hi (Nat.not_lt_zero i)
 |n+1,f,h,e,i,hi=>by
  have h1:0<=S n f:=j7 λ i hi=>h i (by lia);have h2:=h n (by lia);have e':S n f+f n=0:=e;rcases YH i n with z|z
  . exact Hg (λ i hi=>h i (by lia)) (by lia) i z
  . have:i=n:=by lia
    subst this;lia
theorem minors(hA:aW N w A)(h:D N (ae A)≠0):∀k,k<=N->D k (ae A)≠0:=by
 intro k;induction k using Nat.strongRecOn with
 |ind k ih=>
  intro hk;cases k with
  |zero=>rw[f9];decide
  |succ i=>
   intro z;refine h ?_;have hD:∀j,j<i+1->D j (ae A)≠0:=λ j hj=>ih j hj (by lia);obtain⟨t,y,ht,yi,yz,s⟩:=vR hA i i (λ j hj=>hD j (by lia)) (UB i) (by lia)
   have orth:∀m,m<=i->S w (λ c=>ev A N i i c*g A m c)=0:=λ m hm=>by
    have e:=wX hA (m:=m) (by lia) i i (λ j hj=>hD j (by lia)) (by lia) (by lia);refine Eq.trans e ?_;rcases YH m i with q|q
    . exact Ax q
    . have:m=i:=by lia
      subst this;rw[j4];exact z
   have sq:t*S w (λ c=>ev A N i i c*ev A N i i c)=0:=by
    rw[<-cJ]
    have e:S w (λ c=>t*(ev A N i i c*ev A N i i c))=S w λ c=>S N λ m=>y m*(ev A N i i c*g A m c):=az λ c hc=>by
     have e1:t*(ev A N i i c*ev A N i i c)=ev A N i i c*(t*ev A N i i c):=by grind
     rw[e1,s c hc,<-cJ];exact az λ m _=>by grind
    rw[e,iX];refine mf λ m hm=>?_;rw[cJ];rcases YH i m with q|q
    . rw[yz m q,XH]
    . rw[orth m q,VB]
   have sq0:S w (λ c=>ev A N i i c*ev A N i i c)=0:=(XJ.mp sq).resolve_left ht
   have ez:∀c,c<w->ev A N i i c=0:=λ c hc=>by
    have:=Hg (λ c _=>sq_nonneg _) sq0 c hc;exact(XJ.mp this).elim id id
   refine Ib hA (j:=i) (z:=y) (by lia) (by rw[yi];exact Wy ht (hD i (by lia))) λ c hc=>?_;rw[<-s c hc,ez c hc,VB]
theorem MX{U C:Rows}{N:Nat}(ub:∀i j,i<N->j<N->S N (λ k=>g U i k*g C j k)=dl i j):D N (g U)*D N (g U)=1:=by
 have a:D N (λ r c=>S N λ k=>g U r k*(tr (g C)) k c)=D N dl:=a7 λ r c hr hc=>ub r c hr hc;rw[r_,rS,k_]at a;generalize D N (g U)=x at*;generalize D N (g C)=y at*;have:x.natAbs*y.natAbs=1:=by rw[<-Vr,a];rfl
 have hx:x.natAbs=1:=XN this;rcases Int.natAbs_eq x with h|h<;>rw[hx]at h<;>subst h<;>rfl
theorem MH{A B U C:Rows}{N w:Nat}(hB:aW N w B)(ua:∀i c,i<N->c<w->g B i c=S N λ k=>g U i k*g A k c)(ub:∀i j,i<N->j<N->S N (λ k=>g U i k*g C j k)=dl i j)(hA:aW N w A):D N (ae B)=D N (ae A):=by
 have e:D N (ae B)=D N λ r c=>S N λ k=>g U r k*(λ k c=>S N λ l=>ae A k l*tr (g U) l c) k c:=a7 λ r c hr hc=>by
  rw[eG hB hr hc]
  have a1:S w (λ x=>(B.getD r []).getD x 0*(B.getD c []).getD x 0)=S w λ x=>S N λ k=>S N λ l=>g U r k*(g A k x*g A l x)*g U c l:=az λ x hx=>by
   show g B r x*g B c x=_;rw[ua r x hr hx,ua c x hc hx,<-l8];refine az λ k _=>?_;rw[<-cJ];exact az λ l _=>by grind
  rw[a1,iX];refine az λ k hk=>?_;rw[iX,<-cJ];refine az λ l hl=>?_;rw[eG hA hk hl,l8,cJ,V6];rfl
 rw[e,r_,r_,k_];have u:=MX ub;generalize D N (g U)=x at*;generalize D N (ae A)=y at*;have:x*(y*x)=(x*x)*y:=by grind
 rw[this,u,VG]
end Mx
namespace Prog
open PySem L2 L3
open PySem.Spec hiding items?
open PyProof.Rows hiding St
theorem dw{i j:Int}(h1: -(2^64)<i)(h2:i<2^64):IntMulOk i j:= .of_left (intBits_le_64 h1 h2)
theorem Dl{i j:Int}(h1: -(2^64)<j)(h2:j<2^64):IntMulOk i j:= .of_right (intBits_le_64 h1 h2)
theorem GU{a b:Nat}(h:a<=b)(hb:b.log2<9000)(ha:a≠0):a.log2<9000:=by
 have hb0:b≠0:=by lia
 exact(WE ha).mpr (Vz h ((WE hb0).mp hb))
def Any(st:af)(d:D):Prop:=∃t,dn st d=some t
structure Thing(st:af)(d:D):Prop where
 any:Any st d
 ao:∀xs,items? st d=some xs->(∀x∈xs,Any st x)/\xs.length<=sizeLine
def isInt:D->Bool
 | .int _=>true
 |_=>false
theorem zt{st:af}{d:D}{t:String}(h:dn st d=some t):(t=="int")=isInt d:=by
 cases d<;>unfold dn at h<;>first|(cases h;done)|(cases h;rfl)|(simp only at h;split at h<;>first|(cases h;rfl)|cases h)
theorem ny{st:af}{d:D}{t:String}(h:dn st d=some t):(t=="list"||t=="tuple")=(items? st d).isSome:=by
 cases d<;>unfold dn at h<;>first|(cases h;done)|(cases h;rfl)|(simp only at h;split at h<;>first|(cases h;rename_i q;rw[aq q];rfl)|cases h)
def dz(st:af)(d:D)(m:Int):Bool:=match items? st d with
 |some xs=>decide ((xs.length:Int)=m)&&xs.all isInt
 |none=>false
theorem sU{tg:dZ}{te:DE}{ok:af->Prop}{σc:bo}{st:af}{K:List D->af->Prop}{g:D->D}(aC:ok st):∀(xs acc:List D),(∀x∈xs,∀K',K' (g x) st->∃σ2,tg x σc=some σ2/\te σ2 st K')->K (acc++xs.map g) st->cM tg ba te ok σc xs acc st K
 | [],acc,_,h=>by unfold cM;exact⟨aC,by simpa using h⟩
 |x::xs,acc,hx,h=>by
  unfold cM;obtain⟨σ2,e,q⟩:=hx x UZ (λ y st2=>cM tg ba te ok σc xs (acc++[y]) st2 K) (sU aC xs (acc++[g x]) (λ y hy=>hx y (UQ _ hy)) (by simpa using h));exact⟨aC,σ2,e,q⟩
theorem kC{f:D->Bool}:∀xs:List D,gR (xs.map λ x=>D.bl (f x))=some (xs.map f)
 | []=>rfl
 |x::xs=>by simp[gR,kC xs]
abbrev aj(r:List Int):List D:=r.map D.int
abbrev cH(r:List Int):D:= .tup (aj r)
abbrev aK(r:List Int):D:= .lst (aj r)
abbrev cq(A:List (List Int)):D:= .tup (A.map cH)
abbrev KG(A:List (List Int)):D:= .lst (A.map aK)
def bj(st:af):List D->List (List Int)->Prop
 | [],[]=>True
 |d::ds,r::rs=>items? st d=some (aj r)/\bj st ds rs
 |_,_=>False
structure cL(st:af)(d:D)(A:List (List Int)):Prop where
 ex:∃ds,items? st d=some ds/\bj st ds A
theorem bj.len{st:af}:∀ {ds:List D} {A:List (List Int)},bj st ds A->ds.length=A.length
 | [],[],_=>rfl
 |_::_,_::_,h=>by simp[bj.len h.2]
theorem bj.tup{st:af}:∀ {A:List (List Int)},bj st (A.map cH) A
 | []=>trivial
 |_::_=>⟨rfl,bj.tup⟩
theorem bj.lst{st:af}:∀ {A:List (List Int)},bj st (A.map aK) A
 | []=>trivial
 |_::_=>⟨rfl,bj.lst⟩
theorem bj.get{st:af}:∀ {ds:List D} {A:List (List Int)} {i:Nat} {d:D},bj st ds A->ds[i]?=some d->∃r,A[i]?=some r/\items? st d=some (aj r)
 |_::_,r::_,0,_,h,e=>by simp at e;subst e;exact⟨r,rfl,h.1⟩
 |_::_,_::_,i+1,d,h,e=>by
  obtain⟨r,e1,e2⟩:=bj.get (i:=i) (d:=d) h.2 (by simpa using e);exact⟨r,by simpa using e1,e2⟩
theorem fJ{st:af}{A:List (List Int)}:cL st (cq A) A:=⟨_,rfl,bj.tup⟩
theorem Lv{st:af}{A:List (List Int)}:cL st (KG A) A:=⟨_,rfl,bj.lst⟩
structure Ext(st st':af):Prop where
 len:st.length<=st'.length
 same:∀m,m<st.length->st'[m]?=st[m]?
theorem Ext.refl{st:af}:Ext st st:=⟨UB _,λ _ _=>rfl⟩
theorem Ext.trans{st st1 st2:af}(a:Ext st st1)(b:Ext st1 st2):Ext st st2:=⟨UG a.len b.len,λ m h=>(b.same m (UY h a.len)).trans (a.same m h)⟩
theorem Ext.push{st:af}{c:List Cell}:Ext st (st++c):=⟨by simp,λ m h=>UC h⟩
theorem Ext.set{st:af}{n:Nat}{c:Cell}{st0:af}(a:Ext st0 st)(h:st0.length<=n):Ext st0 (st.set n c):=⟨by rw[US];exact a.len,λ m hm=>by rw[Ux (by lia)];exact a.same m hm⟩
theorem Ext.items{st st':af}{d:D}{xs:List D}(x:Ext st st')(e:items? st d=some xs):items? st' d=some xs:=by
 cases d with
 |ref n=>
  unfold items? at e⊢;simp only at e⊢;cases q:st[n]? with
  |none=>rw[q]at e;cases e
  |some c=>
   have hn:=(Uw.mp q).1;rw[x.same n hn];exact e
 |_=>exact e
theorem Ext.rg{st st':af}(x:Ext st st'):∀ {ds:List D} {A:List (List Int)},bj st ds A->bj st' ds A
 | [],[],_=>trivial
 |_::_,_::_,h=>⟨x.items h.1,x.rg h.2⟩
theorem Ext.si{st st':af}(x:Ext st st'){d:D}{A:List (List Int)}(h:cL st d A):cL st' d A:=by
 obtain⟨ds,e,r⟩:=h.ex;exact⟨ds,x.items e,x.rg r⟩
theorem ia{r:List Int}{k:Nat}(h:k<r.length):di (aj r) (k:Int)=some (.int (r.getD k 0)):=by
 refine dg ?_;rw[UM,UJ h,Mx.aR h];rfl
theorem getD_mem{r:List Int}{k:Nat}(h:k<r.length):r.getD k 0∈r:=by rw[Mx.aR h];exact Vb _
theorem bj.at{st:af}{ds:List D}{A:List (List Int)}{k:Nat}(h:bj st ds A)(hk:k<A.length):∃d,di ds (k:Int)=some d/\items? st d=some (aj (A.getD k [])):=by
 have hl:=h.len;have e:ds[k]?=some ds[k]:=UJ (by lia);obtain⟨r,er,hr⟩:=h.get e;refine⟨ds[k],dg e,?_⟩;rw[Mx.aR hk];rw[UJ hk]at er;cases er;exact hr
theorem ints_app{r:List Int}{x:Int}:aj r++[D.int x]=aj (r++[x]):=by simp[aj]
theorem HY{A:List (List Int)}{r:List Int}:A.map cH++[cH r]=(A++[r]).map cH:=by simp
theorem mH{r s:List Int}{d:D}(h:d∈dJ (aj r) (aj s)):∃a b,a∈r/\b∈s/\d= .tup [.int a,.int b]:=by
 obtain⟨n,hn,e⟩:=Vu.mp h;have e':(dJ (aj r) (aj s))[n]?=some d:=by rw[UJ hn,e]
 obtain⟨x,y,ex,ey,rfl⟩:=tW e';rw[UM]at ex ey;cases q1:r[n]? with
 |none=>rw[q1]at ex;cases ex
 |some a=>
  cases q2:s[n]? with
  |none=>rw[q2]at ey;cases ey
  |some b=>
   rw[q1]at ex;rw[q2]at ey;cases ex;cases ey;exact⟨a,b,U8 q1,U8 q2,rfl⟩
theorem zi(n:Nat):(List.replicate n [D.int 0]).flatten=aj (List.replicate n 0):=by
 induction n with
 |zero=>rfl
 |succ n ih=>rw[VY,Wl,ih];rfl
theorem xQ:∀r:List Int,(aj r).map (λ x=>match x with| .int i=>i|_=>0)=r
 | []=>rfl
 |a::r=>by rw[aj,Va,Va,xQ r]
theorem tR{d:D}{ds:List D}:di (d::ds) 0=some d:=dg (j:=0) rfl
def intsOf(st:af)(d:D):List Int:=match items? st d with
 |some xs=>xs.map λ x=>match x with| .int i=>i|_=>0
 |none=>[]
theorem ql{st:af}{d:D}{r:List Int}(h:items? st d=some (aj r)):intsOf st d=r:=by
 unfold intsOf;rw[h];exact xQ r
theorem Ge{x y:D}{xs ys:List D}:dJ (x::xs) (y::ys)= .tup [x,y]::dJ xs ys:=rfl
theorem M7{n:Nat}{r:List Int}:(aj r).all (pl n)=true:=by
 refine UP.mpr λ d hd=>?_;obtain⟨i,_,rfl⟩:=U6.mp hd;cases n<;>rfl
def aU:Addr:=287
def aL:Addr:=362
def nX:bq:=λ ds st K=>∃d,ds=[d]/\Any st d/\K (.bl (isInt d)) st
def td:List Str:=["thing"]
def Bz:DS:=(aP (mX (a8 gi (ab (aa 0) (ab (dC (.ty "int")) ag))) (vx (aH (a8 gi (ab (aa 0) (ab (dC (.ty "bool")) ag)))))))
abbrev Ut(S:bq)(n:Nat)(P:DS)(N:List Str):Prop:=∀ds st K,S ds st K->ds.length=n/\P {nx:=λ _ st'=>K .ay st',rt:=K} (aI N ds) st
theorem AZ:Ut nX 1 Bz td:=by
 rintro ds st K ⟨d,rfl,⟨t,ht⟩,k⟩;refine⟨rfl,?_⟩;rw[<-zt ht]at k;have hm:=jl ht;refine jO ht (by decide) ?_;simp only[hZ,UT,UW,V3]at hm;rcases hm with rfl|rfl|rfl|rfl|rfl|rfl
 . exact k
 . refine cT (jO ht (by decide) ?_);exact k
 . refine cT (jO ht (by decide) ?_);exact k
 . exact k
 . exact k
 . exact k
def iZ:bq:=λ ds st K=>∃d,ds=[d]/\Any st d/\K (.bl (items? st d).isSome) st
def sX:List Str:=["thing"]
def Br:DS:=(aP (a8 gi (ab (aa 0) (ab (iK (ab (dC (.ty "list")) (ab (dC (.ty "tuple")) ag))) ag))))
theorem Ba:Ut iZ 1 Br sX:=by
 rintro ds st K ⟨d,rfl,⟨t,ht⟩,k⟩;refine⟨rfl,?_⟩;rw[<-ny ht]at k;have hm:=jl ht;refine⟨UE rfl,Ci ht rfl (by decide) ?_⟩;simp only[hZ,UT,UW,V3]at hm;rcases hm with rfl|rfl|rfl|rfl|rfl|rfl<;>exact k
def h_:bq:=λ ds st K=>∃d m,ds=[d,.int m]/\Any st d/\K (.bl (match items? st d with|some xs=>decide ((xs.length:Int)=m)|none=>false)) st
def oH:List Str:=["thing","many"]
def wV:DS:=(aP (mX (av iZ (ab (aa 0) ag)) (ah fi (a8 dE (ab (aa 0) ag)) (aa 1))))
theorem vL:Ut h_ 2 wV oH:=by
 rintro ds st K ⟨d,m,rfl,ha,k⟩;refine⟨rfl,?_⟩;cases e:items? st d with
 |none=>
  rw[e]at k;exact⟨d,rfl,ha,by rw[e];exact k⟩
 |some xs=>
  rw[e]at k;refine⟨d,rfl,ha,?_⟩;rw[e];refine cT (cP e (y_ ?_));exact k
def i8:bq:=λ ds st K=>∃d m,ds=[d,.int m]/\Thing st d/\K (.bl (dz st d m)) st
def pZ:List Str:=["thing","many"]
def yl:DS:=(aP (mX (av h_ (ab (aa 0) (ab (aa 1) ag))) (a8 pM (ab (bJ (cy (aa 0)) [none] (aS 0) ba (av nX (ab (aa 0) ag))) ag))))
theorem wL:Ut i8 2 yl pZ:=by
 rintro ds st K ⟨d,m,rfl,ha,k⟩;refine⟨rfl,?_⟩;refine⟨d,m,rfl,ha.any,?_⟩;unfold dz at k;cases e:items? st d with
 |none=>rw[e]at k;exact k
 |some xs=>
  rw[e]at k;obtain⟨h1,h2⟩:=ha.ao xs e;by_cases hl:(xs.length:Int)=m
  . simp only[hl,decide_true,W4]at k⊢;rw[UA trivial];refine oU e λ ok aC=>?_;refine⟨h2,sU (g:=λ x=> .bl (isInt x)) aC xs [] (λ x hx K' q=>⟨_,rfl,⟨x,rfl,h1 x hx,q⟩⟩) ?_⟩;refine vC (kC xs) ?_;simpa using k
  . simp only[hl,decide_false,V7]at k⊢;exact k
def tV:bq:=λ ds st K=>∃a b,ds=[.int a,.int b]/\K (.int ((Nat.gcd a.natAbs b.natAbs:Nat):Int)) st
def Be:List Str:=["one","other","great","small","rest"]
def HS:DS:=(aw (aJ 2 (a8 nG (ab (aa 0) ag)))
 (aw (aJ 3 (a8 nG (ab (aa 1) ag)))
 (aw (uU (aH (ah oz (aa 3) (dC (.int 0)))) (aw (aJ 4 (ah gF (aa 2) (aa 3)))
 (aw (aJ 2 (aa 3))
 (aJ 3 (aa 4)))))
 (aP (aa 2)))))
theorem A_{a:Int}{m:Nat}(h:a.natAbs<2^m):Builtin.Int.intBits a<=m:=by
 unfold Builtin.Int.intBits;by_cases h0:a.natAbs=0
 . have:a=0:=by lia
   subst this;simp
 . have:=(WE h0).mpr h;split<;>lia
theorem wA{a b:Int}{m n:Nat}(ha:a.natAbs<=2^m)(hb:b.natAbs<=2^n)(h:m+n<=130000000):IntMulOk a b:=by
 have q:∀ {x:Int} {k:Nat},x.natAbs<=2^k->Builtin.Int.intBits x<=k+1:=λ{x k} h=>A_ (Vz h (VU (by decide) (WH k)));have h1:=q ha;have h2:=q hb;have e:(2:Nat)^27=134217728:=by decide
 have z:Builtin.Int.intTooBig (Builtin.Int.intBits a+Builtin.Int.intBits b)=false:=by
  unfold Builtin.Int.intTooBig bitsLine;exact UX (by lia)
 unfold IntMulOk;rw[z];simp
theorem HZ(a b:Nat):(a:Int).fmod (b:Int)=((a%b:Nat):Int):=by
 rw[Int.fmod_eq_emod_of_nonneg _ (Yd b)];exact(Int.natCast_emod a b).symm
theorem Fe:Ut tV 2 HS Be:=by
 rintro ds st K ⟨a,b,rfl,k⟩;refine⟨rfl,?_⟩;refine oE (oE ?_);refine⟨λ m σ st'=>∃(g s:Nat) (r:Option D),σ=[some (.int a),some (.int b),some (.int g),some (.int s),r]/\st'=st/\Nat.gcd g s=Nat.gcd a.natAbs b.natAbs/\s=m,⟨b.natAbs,a.natAbs,b.natAbs,none,?_,rfl,rfl,rfl⟩,?_⟩
 . rfl
 . rintro m σ st' ⟨g,s,r,rfl,rfl,hg,rfl⟩;by_cases hs:(s:Int)=0
   . have hs0:s=0:=by lia
     subst hs0;rw[Nat.gcd_zero_right]at hg;subst hg;exact yY k
   . have hs0:0<s:=by lia
     have hd:(!decide ((s:Int)=0))=true:=by simp;lia
     refine yY ?_;show if(!decide ((s:Int)=0))=true then _ else _
     rw[UA hd];refine i0 hs ⟨g%s,Nat.mod_lt _ hs0,s,g%s,some (.int ((g%s:Nat):Int)),?_,rfl,?_,rfl⟩
     . simp[HZ]
     . rw[Zd,<-Nat.gcd_rec,Zd];exact hg
def uE(t b:Int):Int:=((if b<0 then-1 else 1)*t).fdiv ((Nat.gcd t.natAbs b.natAbs:Nat):Int)
def l_(t b:Int):Int:=((if b<0 then-1 else 1)*b).fdiv ((Nat.gcd t.natAbs b.natAbs:Nat):Int)
def jd(t b:Int):D:= .tup [.int (uE t b),.int (l_ t b)]
def my:bq:=λ ds st K=>∃(t b:Int),ds=[.int t,.int b]/\b≠0/\b.natAbs.log2<9000/\K (jd t b) st
def Hl:List Str:=["top","bottom","shrink"]
def PJ:DS:=(aw (aJ 2 (av tV (ab (aa 0) (ab (aa 1) ag))))
 (aw (bR (aH (ah mm (aa 1) (dC (.int 0)))) (aJ 2 (jx fH (aa 2))) bW)
 (aP (iK (ab (ah gK (aa 0) (aa 2)) (ab (ah gK (aa 1) (aa 2)) ag))))))
theorem rK{g t:Int}(hg:g≠0)(h:g∣t):t.fdiv (-g)=(-1*t).fdiv g:=by
 obtain⟨c,rfl⟩:=h
 have e1:(g*c).fdiv (-g)= -c:=by
  have:g*c=(-g)*(-c):=by rw[Int.neg_mul_neg]
  rw[this,V4 _ (by lia)]
 have e2:(-1*(g*c)).fdiv g= -c:=by
  have: -1*(g*c)=g*(-c):=by rw[WD,VG,Int.mul_neg]
  rw[this,V4 _ hg]
 rw[e1,e2]
theorem xN(t b:Int):((Nat.gcd t.natAbs b.natAbs:Nat):Int)∣t:=Int.ofNat_dvd_left.mpr (Nat.gcd_dvd_left _ _)
theorem xC(t b:Int):((Nat.gcd t.natAbs b.natAbs:Nat):Int)∣b:=Int.ofNat_dvd_left.mpr (Nat.gcd_dvd_right _ _)
theorem MN:Ut my 2 PJ Hl:=by
 rintro ds st K ⟨t,b,rfl,hb,hlog,k⟩;refine⟨rfl,?_⟩;refine⟨t,b,rfl,?_⟩
 have hg0:Nat.gcd t.natAbs b.natAbs≠0:=λ z=>by
  have:=Xx z;lia
 have hgl:Nat.gcd t.natAbs b.natAbs<=b.natAbs:=Nat.le_of_dvd (by lia) (Nat.gcd_dvd_right _ _);have hne:((Nat.gcd t.natAbs b.natAbs:Nat):Int)≠0:=by lia
 have hlg:=GU hgl hlog hg0;unfold jd uE l_ at k;refine C6 (λ h=>cT ?_) λ h=>?_
 . rw[UA h,<-rK hne (xN t b),<-rK hne (xC t b)]at k;refine eK (gC (by lia) (by rw[XZ,Wv];exact hlg) (gC (by lia) (by rw[XZ,Wv];exact hlg) ?_));exact⟨UE rfl,k⟩
 . rw[Uy (by lia),VG,VG]at k;refine gC hne (by rw[Wv];exact hlg) (gC hne (by rw[Wv];exact hlg) ?_);exact⟨UE rfl,k⟩
abbrev Dg(q:Rat):D:= .tup [.int q.num,.int ((q.den:Nat):Int)]
theorem jZ{t b:Int}(hb:b≠0):jd t b=Dg (Rat.divInt t b):=by
 unfold jd Dg uE l_;have hg:(b.gcd t:Nat)=Nat.gcd t.natAbs b.natAbs:=by unfold Int.gcd;rw[Zd]
 have hs:(if b<0 then(-1:Int)else 1)=b.sign:=by
  rcases Int.lt_trichotomy b 0 with h|h|h
  . rw[UA h,Int.sign_eq_neg_one_of_neg h]
  . exact absurd h hb
  . rw[Uy (by lia),Int.sign_eq_one_of_pos h]
 have e1:(Rat.divInt t b).num=((if b<0 then(-1:Int)else 1)*t).fdiv ((Nat.gcd t.natAbs b.natAbs:Nat):Int):=by
  rw[Rat.num_divInt,hs,hg,W5 _ (Yd _)]
 have e2:(((Rat.divInt t b).den:Nat):Int)=((if b<0 then(-1:Int)else 1)*b).fdiv ((Nat.gcd t.natAbs b.natAbs:Nat):Int):=by
  rw[Rat.den_divInt,Uy hb,hs,hg,W5 _ (Yd _),Int.natCast_ediv];congr 1;rw[Int.sign_mul_self]
 rw[e1,e2]
structure Sz(q:Rat)(m:Nat):Prop where
 num:q.num.natAbs<2^m
 den:q.den<2^m
theorem Sz.mono{q:Rat}{m n:Nat}(h:Sz q m)(hmn:m<=n):Sz q n:=⟨UY h.num (UL (by decide) hmn),UY h.den (UL (by decide) hmn)⟩
theorem Sz.of{t b:Int}{m:Nat}(hb:b≠0)(h1:t.natAbs<2^m)(h2:b.natAbs<2^m):Sz (Rat.divInt t b) m:=by
 have hg:1<=b.gcd t:=by
  have:b.gcd t≠0:=λ z=>hb (Int.gcd_eq_zero_iff.mp z).1;lia
 constructor
 . rw[Rat.num_divInt];have:((b.sign*t)/((b.gcd t:Nat):Int)).natAbs<=(b.sign*t).natAbs:=Int.natAbs_ediv_le_natAbs _ _
   have e:(b.sign*t).natAbs<=t.natAbs:=by
    rw[Vr];have:b.sign.natAbs<=1:=by rw[Int.natAbs_sign];split<;>lia
    calc b.sign.natAbs*t.natAbs<=1*t.natAbs:=VM _ this
     _=t.natAbs:=YT _
   lia
 . rw[Rat.den_divInt,Uy hb];exact Vz (Nat.div_le_self _ _) h2
theorem FA(a b:Nat):2^a*2^b=2^(a+b):=(Wt 2 a b).symm
theorem gj{x y:Int}{a b:Nat}(hx:x.natAbs<2^a)(hy:y.natAbs<2^b):(x*y).natAbs<2^(a+b):=by
 rw[Vr,<-FA];exact Nat.mul_lt_mul'' hx hy
theorem den_nz(q:Rat):((q.den:Nat):Int)≠0:=by have:=q.den_nz;lia
theorem uT(q:Rat):q=Rat.divInt q.num ((q.den:Nat):Int):=(Rat.num_divInt_den q).symm
theorem sub_eq(p q:Rat):p-q=Rat.divInt (p.num*((q.den:Nat):Int)-q.num*((p.den:Nat):Int)) (((p.den:Nat):Int)*((q.den:Nat):Int)):=by
 conv=>lhs;rw[uT p,uT q]
 rw[Y2 _ _ (den_nz p) (den_nz q)]
theorem mul_eq(p q:Rat):p*q=Rat.divInt (p.num*q.num) (((p.den:Nat):Int)*((q.den:Nat):Int)):=by
 conv=>lhs;rw[uT p,uT q]
 rw[XA]
theorem j5(q:Rat):(((q.den:Nat):Int)).natAbs=q.den:=Wv _
theorem Ek{x y:Int}{a:Nat}(hx:x.natAbs<2^a)(hy:y.natAbs<2^a):(x-y).natAbs<2^(a+1):=by
 rw[Xd];lia
theorem Sz.sub{p q:Rat}{a b:Nat}(hp:Sz p a)(hq:Sz q b):Sz (p-q) (a+b+1):=by
 rw[sub_eq];have h1:=gj hp.num (show(((q.den:Nat):Int)).natAbs<2^b by rw[j5];exact hq.den);have h2:=gj hq.num (show(((p.den:Nat):Int)).natAbs<2^a by rw[j5];exact hp.den);rw[Nat.add_comm b a]at h2;have h3:=gj (show(((p.den:Nat):Int)).natAbs<2^a by rw[j5];exact hp.den) (show(((q.den:Nat):Int)).natAbs<2^b by rw[j5];exact hq.den);exact Sz.of (Wy (den_nz p) (den_nz q)) (Ek h1 h2) (UY h3 (UL (by decide) (by lia)))
theorem Sz.mul{p q:Rat}{a b:Nat}(hp:Sz p a)(hq:Sz q b):Sz (p*q) (a+b):=by
 rw[mul_eq];have h3:=gj (show(((p.den:Nat):Int)).natAbs<2^a by rw[j5];exact hp.den) (show(((q.den:Nat):Int)).natAbs<2^b by rw[j5];exact hq.den);exact Sz.of (Wy (den_nz p) (den_nz q)) (gj hp.num hq.num) h3
theorem Dk{a:Int}{m:Nat}(h:a.natAbs<2^m):Builtin.Int.intBits a<=m:=by
 unfold Builtin.Int.intBits;by_cases h0:a.natAbs=0
 . have:a=0:=by lia
   subst this;simp
 . have:=(WE h0).mpr h;split<;>lia
theorem kf{a b:Int}{m n:Nat}(ha:a.natAbs<2^m)(hb:b.natAbs<2^n)(hm:m<=4000)(hn:n<=4000):IntMulOk a b:=by
 have l:4000<=2^20:=by decide
 exact .of_bits (UG (Dk ha) (UG hm l)) (UG (Dk hb) (UG hn l))
theorem KH{a:Int}{m:Nat}(ha:a.natAbs<2^m)(hm:m<=8999)(h0:a≠0):a.natAbs.log2<9000:=by
 have:=(WE (show a.natAbs≠0 by lia)).mpr ha;lia
structure Fq(st:af)(d:D)(q:Rat):Prop where
 ao:items? st d=some [.int q.num,.int ((q.den:Nat):Int)]
 sz:Sz q 2500
theorem Fq.a{st:af}{d:D}{q:Rat}(h:Fq st d q):q.num.natAbs<2^2500:=h.sz.num
theorem Fq.b{st:af}{d:D}{q:Rat}(h:Fq st d q):(((q.den:Nat):Int)).natAbs<2^2500:=by rw[j5];exact h.sz.den
theorem Fq.tup{st:af}{q:Rat}{m:Nat}(h:Sz q m)(hm:m<=2500):Fq st (Dg q) q:=⟨rfl,h.mono hm⟩
def wm:bq:=λ ds st K=>∃x y p q,ds=[x,y]/\Fq st x p/\Fq st y q/\K (Dg (p-q)) st
def CU:List Str:=["one","other"]
def ME:DS:=(aP (av my (ab (ah cG (ah bh (ah aT (aa 0) (dC (.int 0))) (ah aT (aa 1) (dC (.int 1)))) (ah bh (ah aT (aa 1) (dC (.int 0))) (ah aT (aa 0) (dC (.int 1))))) (ab (ah bh (ah aT (aa 0) (dC (.int 1))) (ah aT (aa 1) (dC (.int 1)))) ag))))
theorem HP:Ut wm 2 ME CU:=by
 rintro ds st K ⟨x,y,p,q,rfl,X,Y,k⟩;refine⟨rfl,?_⟩;have h0:=Wy (den_nz p) (den_nz q);refine aA X.ao rfl (aA Y.ao rfl (bc (kf X.a Y.b (by decide) (by decide)) (aA Y.ao rfl (aA X.ao rfl (bc (kf Y.a X.b (by decide) (by decide)) (cn ?_))))));refine aA X.ao rfl (aA Y.ao rfl (bc (kf X.b Y.b (by decide) (by decide)) ?_));refine⟨_,_,rfl,h0,KH (gj X.b Y.b) (by decide) h0,?_⟩;rw[jZ h0,<-sub_eq];exact k
def rO:bq:=λ ds st K=>∃x y p q,ds=[x,y]/\Fq st x p/\Fq st y q/\K (Dg (p*q)) st
def CG:List Str:=["one","other"]
def Mr:DS:=(aP (av my (ab (ah bh (ah aT (aa 0) (dC (.int 0))) (ah aT (aa 1) (dC (.int 0)))) (ab (ah bh (ah aT (aa 0) (dC (.int 1))) (ah aT (aa 1) (dC (.int 1)))) ag))))
theorem IF:Ut rO 2 Mr CG:=by
 rintro ds st K ⟨x,y,p,q,rfl,X,Y,k⟩;refine⟨rfl,?_⟩;have h0:=Wy (den_nz p) (den_nz q);refine aA X.ao rfl (aA Y.ao rfl (bc (kf X.a Y.a (by decide) (by decide)) ?_));refine aA X.ao rfl (aA Y.ao rfl (bc (kf X.b Y.b (by decide) (by decide)) ?_));refine⟨_,_,rfl,h0,KH (gj X.b Y.b) (by decide) h0,?_⟩;rw[jZ h0,<-mul_eq];exact k
def uB:bq:=λ ds st K=>∃x y p q,ds=[x,y]/\Fq st x p/\Fq st y q/\K (.bl (decide (p<q))) st
def zN:List Str:=["one","other"]
def I0:DS:=(aP (ah mm (ah bh (ah aT (aa 0) (dC (.int 0))) (ah aT (aa 1) (dC (.int 1)))) (ah bh (ah aT (aa 1) (dC (.int 0))) (ah aT (aa 0) (dC (.int 1))))))
theorem Fx:Ut uB 2 I0 zN:=by
 rintro ds st K ⟨x,y,p,q,rfl,X,Y,k⟩;refine⟨rfl,?_⟩;refine aA X.ao rfl (aA Y.ao rfl (bc (kf X.a Y.b (by decide) (by decide)) (aA Y.ao rfl (aA X.ao rfl (bc (kf Y.a X.b (by decide) (by decide)) (yX ?_))))));have e:decide (p.num*((q.den:Nat):Int)<q.num*((p.den:Nat):Int))=decide (p<q):=WJ.mpr (Rat.lt_iff p q).symm;rw[e];exact k
def kE:bq:=λ ds st K=>∃(d:D) (A:List (List Int)),ds=[d]/\cL st d A/\A.length<=1000/\K (cq A) st
def w_:List Str:=["rows"]
def FW:DS:=(aP (a8 cm (ab (bJ (cy (aa 0)) [none] (aS 0) ba (a8 cm (ab (aa 0) ag))) ag)))
theorem d_{tg:dZ}{te:DE}{ok:af->Prop}{σc:bo}{st:af}{K:List D->af->Prop}{ds:List D}{A:List (List Int)}(f:List Int->D)(aC:ok st)(hr:bj st ds A)(hx:∀d r,r∈A->items? st d=some (aj r)->∀K',K' (f r) st->∃σ2,tg d σc=some σ2/\te σ2 st K')(k:K (A.map f) st):cM tg ba te ok σc ds [] st K:=by
 refine gS (λ rest acc st'=>∃(A1 A2:List (List Int)),st=st'/\A1++A2=A/\bj st rest A2/\acc=A1.map f) ?_ ?_ _ _ _ ⟨[],A,rfl,rfl,hr,rfl⟩
 . rintro acc st' ⟨A1,A2,rfl,he,h,rfl⟩;match A2,h with
   | [],_=>
     rw[VZ]at he;subst he;exact⟨aC,k⟩
 . rintro d rest acc st' ⟨A1,A2,rfl,he,h,rfl⟩ next
   match A2,h with
   |r::A2,h=>
    obtain⟨σ2,e2,q⟩:=hx d r (by rw[<-he];simp) h.1 (λ y st2=>cM tg ba te ok σc rest (A1.map f++[y]) st2 K) (next _ _ ⟨A1++[r],A2,rfl,by rw[<-he];simp,h.2,by simp⟩);exact⟨aC,σ2,e2,q⟩
theorem DZ:Ut kE 1 FW w_:=by
 rintro ds st K ⟨d,A,rfl,⟨da,hd,ra⟩,hl,k⟩;refine⟨rfl,?_⟩;refine oU hd λ ok aC=>⟨bz (by rw[ra.len];exact hl),?_⟩
 refine d_ cH aC ra (λ e r hr he K' q=>⟨_,rfl,bS he q⟩) ?_;exact bS rfl k
def lK:bq:=λ ds st K=>∃x y t r s,ds=[x,.int t,y]/\items? st x=some (aj r)/\items? st y=some (aj s)/\r.length<=1000/\(∀b∈s,IntMulOk t b)/\K (aK (Mx.eJ r t s)) st
def Cr:List Str:=["row","times","other"]
def Ly:DS:=(aP (bJ (ki (ab (aa 0) (ab (aa 2) ag))) [none,none,some 1] (fh 0 1) ba (ah b_ (aa 0) (ah bh (aa 2) (aa 1)))))
theorem ng{t:Int}:∀(r s:List Int),(dJ (aj r) (aj s)).map (λ d=>match d with| .tup [.int a,.int b]=> .int (a+t*b)|_=> .ay)=aj (Mx.eJ r t s)
 | [],_=>rfl
 |_::_,[]=>rfl
 |a::r,b::s=>by
  have:=ng (t:=t) r s;unfold dJ Mx.eJ at this⊢;simp only[aj,Va,List.zip_cons_cons,YV]at this⊢;rw[this]
theorem Ie:Ut lK 3 Ly Cr:=by
 rintro ds st K ⟨x,y,t,r,s,rfl,hx,hy,hl,hm,k⟩;refine⟨rfl,?_⟩;refine iR hx hy λ ok aC=>⟨bz (by rw[g8];simp;lia),?_⟩
 refine comp_map (g:=λ d=>match d with| .tup [.int a,.int b]=> .int (a+t*b)|_=> .ay) (aC st hx hy) _ (λ d hd K' q=>?_) ?_
 . obtain⟨a,b,ha,hb,rfl⟩:=mH hd;exact⟨_,rfl,bc (hm b hb) (cp q)⟩
 . rw[ng];exact k
def t7:bq:=λ ds st K=>∃(x y:D) (n:Nat) (ws:List Int) (A:List (List Int)),ds=[x,y,.int n]/\items? st x=some (aj ws)/\cL st y A/\(∀r∈A,r.length=n)/\n<=1000/\(∀w∈ws,∀r∈A,∀b∈r,IntMulOk w b)/\K (cH (Mx.eM ws A (List.replicate n 0))) st
def Bg:List Str:=["weights","rows","wide","total","weight","row"]
def Jv:DS:=(aw (aJ 3 (ah bh (fg (ab (dC (.int 0)) ag)) (aa 2)))
 (aw (eX (ki (ab (aa 0) (ab (aa 1) ag))) (fh 4 5) (aJ 3 (av lK (ab (aa 3) (ab (aa 4) (ab (aa 5) ag))))))
 (aP (a8 cm (ab (aa 3) ag)))))
theorem Hi:Ut t7 3 Jv Bg:=by
 rintro ds st K ⟨x,y,n,ws,A,rfl,hx,⟨dr,hy,hr⟩,hw,hn,hm,k⟩;refine⟨rfl,?_⟩;refine R6 (UE rfl) (Df ⟨by lia,by lia,bz (by simp;lia)⟩ ?_);rw[U_,zi];refine iR hx hy λ ok aC=>?_
 refine dR (λ rest σ st'=>∃(v4 v5:Option D) (ws':List Int) (ds':List D) (A':List (List Int)) (acc:List Int),st=st'/\rest=dJ (aj ws') ds'/\bj st ds' A'/\σ=[some x,some y,some (.int n),some (aK acc),v4,v5]/\acc.length=n/\(∀r∈A',r∈A)/\(∀w∈ws',w∈ws)/\Mx.eM ws' A' acc=Mx.eM ws A (List.replicate n 0)) ?_ ?_ _ _ _
  ⟨none,none,ws,dr,A,List.replicate n 0,rfl,rfl,hr,rfl,by simp,λ _ h=>h,λ _ h=>h,rfl⟩
 . rintro σ st1 ⟨v4,v5,ws',ds',A',acc,rfl,he,hr',rfl,hl,_,_,hs⟩;refine⟨aC _ hx hy,bS rfl ?_⟩
   have:Mx.eM ws' A' acc=acc:=by
    match ws',ds',A',hr',he with
    | [],_,_,_,_=>unfold Mx.eM;rfl
    |_::_,[],[],_,_=>unfold Mx.eM;rfl
    |_::_,_::_,_::_,_,he=>cases he
   rw[this]at hs;rw[hs];exact k
 . rintro d rest σ st1 ⟨v4,v5,ws',ds',A',acc,rfl,he,hr',rfl,hl,ha,hw',hs⟩ next
   match ws',ds',A',hr',he with
   |w::ws',e::ds',r::A',hr',he=>
    simp only[aj,Va,Ge,VL]at he;obtain⟨rfl,rfl⟩:=he;refine⟨aC _ hx hy,_,rfl,?_⟩;have hrl:=hw r (ha r UZ);refine⟨_,_,_,acc,r,rfl,rfl,hr'.1,by lia,λ b hb=>hm w (hw' w UZ) r (ha r UZ) b hb,?_⟩;refine next _ _ ⟨_,_,ws',ds',A',Mx.eJ acc w r,rfl,rfl,hr'.2,rfl,by rw[Mx.kg (by lia)];exact hl,λ q hq=>ha q (UQ _ hq),λ q hq=>hw' q (UQ _ hq),?_⟩
    rw[<-hs];rfl
   | [],_,_,_,he=>cases he
   |_::_,[],[],_,he=>cases he
def nA:bq:=λ ds st K=>∃(x y:D) (n:Nat) (A B:List (List Int)),ds=[x,y]/\cL st x A/\cL st y B/\B≠ []/\(∀r∈B,r.length=n)/\n<=1000/\A.length<=1000/\(∀w∈A,∀c∈w,∀r∈B,∀b∈r,IntMulOk c b)/\K (cq (Mx.mulM A B n)) st
def xa:List Str:=["one","other","wide"]
def E7:DS:=(aw (aJ 2 (a8 dE (ab (ah aT (aa 1) (dC (.int 0))) ag)))
 (aP (a8 cm (ab (bJ (cy (aa 0)) [none,some 1,some 2] (aS 0) ba (av t7 (ab (aa 0) (ab (aa 1) (ab (aa 2) ag))))) ag))))
theorem zS{st:af}{n:Nat}{B:List (List Int)}{f:D->D}:∀ {ds:List D} {A:List (List Int)},bj st ds A->(∀d r,items? st d=some (aj r)->f d=cH (Mx.eM r B (List.replicate n 0)))->ds.map f=(Mx.mulM A B n).map cH
 | [],[],_,_=>rfl
 |d::ds,r::A,h,hf=>by
  rw[Va,hf d r h.1,zS h.2 hf];rfl
theorem EA:Ut nA 2 E7 xa:=by
 rintro ds st K ⟨x,y,n,A,B,rfl,⟨da,hx,ra⟩,hy,hB,hw,hn,hl,hm,k⟩;refine⟨rfl,?_⟩;obtain⟨db,ey,rb⟩:=hy.ex;match B,db,rb,hB,hw,hm,hy,k,ey with
 |r0::B,d0::db,rb,_,hw,hm,hy,k,ey=>
  have h0:r0.length=n:=hw r0 UZ;refine aA ey tR (cP rb.1 ?_);rw[Uz,h0];refine oU hx λ ok aC=>⟨bz (by rw[ra.len];exact hl),?_⟩
  refine comp_map (g:=λ d=>cH (Mx.eM (intsOf st d) (r0::B) (List.replicate n 0))) aC da (λ d hd K' q=>?_) ?_
  . obtain⟨i,hi,ed⟩:=Vu.mp hd;obtain⟨r,er,hr⟩:=ra.get (i:=i) (d:=d) (by rw[UJ hi,ed]);refine⟨_,rfl,d,y,n,r,r0::B,rfl,hr,hy,hw,hn,λ c hc=>hm r (U8 er) c hc,?_⟩;rw[ql hr]at q;exact q
  . refine bS rfl ?_;rw[zS ra (n:=n) (B:=r0::B) λ d r h=>by rw[ql h]];exact k
 |_::_,[],rb,_,_,_,_,_,_=>exact rb.elim
def t_:bq:=λ ds st K=>∃(d:D) (A:List (List Int)) (j:Nat),ds=[d,.int j]/\cL st d A/\(∀r∈A,j<r.length)/\A.length<=1000/\K (cH (Mx.jV A j)) st
def y6:List Str:=["rows","place"]
def IB:DS:=(aP (a8 cm (ab (bJ (cy (aa 0)) [none,some 1] (aS 0) ba (ah aT (aa 0) (aa 1))) ag)))
theorem Gj{tg:dZ}{te:DE}{ok:af->Prop}{σc:bo}{st:af}{K:List D->af->Prop}{ds:List D}{A:List (List Int)}(f:List Int->D)(aC:ok st)(hr:bj st ds A)(hx:∀d r,r∈A->items? st d=some (aj r)->∀K',K' (f r) st->∃σ2,tg d σc=some σ2/\te σ2 st K')(k:K (A.map f) st):cM tg ba te ok σc ds [] st K:=by
 refine gS (λ rest acc st'=>∃(A1 A2:List (List Int)),st=st'/\A1++A2=A/\bj st rest A2/\acc=A1.map f) ?_ ?_ _ _ _ ⟨[],A,rfl,rfl,hr,rfl⟩
 . rintro acc st' ⟨A1,A2,rfl,he,h,rfl⟩;match A2,h with
   | [],_=>
     rw[VZ]at he;subst he;exact⟨aC,k⟩
 . rintro d rest acc st' ⟨A1,A2,rfl,he,h,rfl⟩ next
   match A2,h with
   |r::A2,h=>
    obtain⟨σ2,e2,q⟩:=hx d r (by rw[<-he];simp) h.1 (λ y st2=>cM tg ba te ok σc rest (A1.map f++[y]) st2 K) (next _ _ ⟨A1++[r],A2,rfl,by rw[<-he];simp,h.2,by simp⟩);exact⟨aC,σ2,e2,q⟩
theorem GC(A:List (List Int))(j:Nat):A.map (λ r=>D.int (r.getD j 0))=aj (Mx.jV A j):=by unfold Mx.jV aj;rw[Vl];rfl
theorem Hw:Ut t_ 2 IB y6:=by
 rintro ds st K ⟨d,A,j,rfl,⟨da,hd,ra⟩,hj,hl,k⟩;refine⟨rfl,?_⟩;refine oU hd λ ok aC=>⟨bz (by rw[ra.len];exact hl),?_⟩
 refine Gj (λ r=> .int (r.getD j 0)) aC ra (λ e r hr he K' q=>⟨_,rfl,aA he (ia (hj r hr)) q⟩) ?_;rw[GC];exact bS rfl k
def ll:bq:=λ ds st K=>∃(d:D) (A:List (List Int)) (n:Nat),ds=[d,.int n]/\cL st d A/\(∀r∈A,r.length=n)/\A.length<=1000/\n<=1000/\K (cq (Mx.jB A n)) st
def pY:List Str:=["rows","wide"]
def yx:DS:=(aP (a8 cm (ab (bJ (cE (ab (aa 1) ag)) [none,some 0] (aS 0) ba (av t_ (ab (aa 1) (ab (aa 0) ag)))) ag)))
theorem JM(A:List (List Int))(n:Nat):(List.range n).map (λ j=>cH (Mx.jV A j))=(Mx.jB A n).map cH:=by unfold Mx.jB;rw[Vl];rfl
theorem wB:Ut ll 2 yx pY:=by
 rintro ds st K ⟨d,A,n,rfl,hd,hw,hl,hn,k⟩;refine⟨rfl,?_⟩;refine dS ⟨by lia,by lia⟩ ⟨bz (by rw[dc];lia),?_⟩;rw[U_];refine jT (λ j=>cH (Mx.jV A j)) n (λ i hi K' q=>⟨_,rfl,d,A,i,rfl,hd,λ r hr=>by rw[hw r hr];exact hi,hl,q⟩) ?_;rw[JM];exact bS rfl k
def pk:bq:=λ ds st K=>∃(n i:Nat),ds=[.int n,.int i]/\n<=1000/\K (cH (Mx.fo n i)) st
def u_:List Str:=["n","place"]
def EL:DS:=(aP (a8 cm (ab (bJ (cE (ab (aa 0) ag)) [none,some 1] (aS 0) ba (CA (aH (ah fi (aa 0) (aa 1))) (dC (.int 1)) (dC (.int 0)))) ag)))
theorem Bp:Ut pk 2 EL u_:=by
 rintro ds st K ⟨n,i,rfl,hn,k⟩;refine⟨rfl,?_⟩;refine dS ⟨by lia,by lia⟩ ⟨bz (by rw[dc];lia),?_⟩;rw[U_];refine jT (λ j=> .int (Mx.dl j i)) n (λ j hj K' q=>⟨_,rfl,?_⟩) ?_
 . refine eq2 (λ h=>cT ?_) λ h=>?_
   . have:j=i:=by lia
     subst this;rw[Mx.dh]at q;exact q
   . rw[Mx.dq (by lia)]at q;exact q
 . have:(List.range n).map (λ j=>D.int (Mx.dl j i))=aj (Mx.fo n i):=by unfold Mx.fo aj;rw[Vl];rfl
   rw[this];exact bS rfl k
def iS:bq:=λ ds st K=>∃(n:Nat),ds=[.int n]/\n<=1000/\K (cq (Mx.units n)) st
def sR:List Str:=["n"]
def BU:DS:=(aP (a8 cm (ab (bJ (cE (ab (aa 0) ag)) [none,some 0] (aS 0) ba (av pk (ab (aa 1) (ab (aa 0) ag)))) ag)))
theorem Au:Ut iS 1 BU sR:=by
 rintro ds st K ⟨n,rfl,hn,k⟩;refine⟨rfl,?_⟩;refine dS ⟨by lia,by lia⟩ ⟨bz (by rw[dc];lia),?_⟩;rw[U_];refine jT (λ i=>cH (Mx.fo n i)) n (λ i hi K' q=>⟨_,rfl,n,i,rfl,hn,q⟩) ?_;have:(List.range n).map (λ i=>cH (Mx.fo n i))=(Mx.units n).map cH:=by unfold Mx.units;rw[Vl];rfl
 rw[this];exact bS rfl k
def vG:bq:=λ ds st K=>∃(x y:D) (r s:List Int),ds=[x,y]/\items? st x=some (aj r)/\items? st y=some (aj s)/\r.length<=1000/\(∀a∈r,∀b∈s,IntMulOk a b)/\K (.int (Mx.f_ r s)) st
def Lj:List Str:=["one","other"]
def Qy:DS:=(aP (a8 vU (ab (bJ (ki (ab (aa 0) (ab (aa 1) ag))) [none,none] (fh 0 1) ba (ah bh (aa 0) (aa 1))) ag)))
theorem Cz:∀(r s:List Int),∃ns:List Int,(dJ (aj r) (aj s)).map (λ d=>match d with| .tup [.int a,.int b]=> .int (a*b)|_=> .ay)=aj ns/\ns.sum=Mx.f_ r s
 | [],_=>⟨[],rfl,rfl⟩
 |_::_,[]=>⟨[],rfl,rfl⟩
 |a::r,b::s=>by
  obtain⟨ns,h1,h2⟩:=Cz r s;refine⟨a*b::ns,?_,?_⟩
  . have e:dJ (aj (a::r)) (aj (b::s))= .tup [.int a,.int b]::dJ (aj r) (aj s):=rfl;rw[e,Va,h1];rfl
  . rw[List.sum_cons,h2];rfl
theorem Hc:Ut vG 2 Qy Lj:=by
 rintro ds st K ⟨x,y,r,s,rfl,hx,hy,hl,hm,k⟩;refine⟨rfl,?_⟩;refine iR hx hy λ ok aC=>⟨bz (by rw[g8];simp;lia),?_⟩
 obtain⟨ns,h1,h2⟩:=Cz r s;refine comp_map (g:=λ d=>match d with| .tup [.int a,.int b]=> .int (a*b)|_=> .ay) (aC st hx hy) _ (λ d hd K' q=>?_) ?_
 . obtain⟨a,b,ha,hb,rfl⟩:=mH hd;exact⟨_,rfl,bc (hm a ha b hb) q⟩
 . rw[h1];refine NQ (ints_map _) ?_;rw[h2];exact k
structure iQ(st:af)(d:D):Prop where
 any:Any st d
 ao:∀xs,items? st d=some xs->(∀x∈xs,Thing st x)/\xs.length<=sizeLine
def l7(n:Nat)(m:D):Bool:=match m with
 | .int i=>decide ((n:Int)=i)
 |_=>true
def cf(st:af)(d m:D)(w:Int):Bool:=match items? st d with
 |some xs=>l7 xs.length m&&xs.all λ r=>dz st r w
 |none=>false
def jv:bq:=λ ds st K=>∃d m w,ds=[d,m,.int w]/\iQ st d/\(m= .ay\/∃i,m= .int i)/\K (.bl (cf st d m w)) st
def qj:List Str:=["thing","many","wide"]
def Ff:DS:=(aw (bR (cQ (aH (av iZ (ab (aa 0) ag)))) (aP (dC (.bl false))) bW)
 (aw (bR (vb (aH (ah vK (aa 1) (dC .ay))) (aH (ah oz (a8 dE (ab (aa 0) ag)) (aa 1)))) (aP (dC (.bl false))) bW)
 (aP (a8 pM (ab (bJ (cy (aa 0)) [none,some 2] (aS 0) ba (av i8 (ab (aa 0) (ab (aa 1) ag)))) ag)))))
theorem sV{st:af}{d m:D}{w:Int}(e:items? st d=none):cf st d m w=false:=by unfold cf;rw[e]
theorem sW{st:af}{d m:D}{w:Int}{xs:List D}(e:items? st d=some xs):cf st d m w=(l7 xs.length m&&xs.all λ r=>dz st r w):=by unfold cf;rw[e]
theorem D6:Ut jv 3 Ff qj:=by
 rintro ds st K ⟨d,m,w,rfl,hd,hm,k⟩;refine⟨rfl,?_⟩;refine⟨d,rfl,hd.any,?_⟩;cases e:items? st d with
 |none=>rw[sV e]at k;exact k
 |some xs=>
  rw[sW e]at k;obtain⟨h1,h2⟩:=hd.ao xs e
  have fin:l7 xs.length m=true->aP (a8 pM (ab (bJ (cy (aa 0)) [none,some 2] (aS 0) ba (av i8 (ab (aa 0) (ab (aa 1) ag)))) ag)) {nx:=λ _ st'=>K .ay st',rt:=K} (aI qj [d,m,.int w]) st:=by
   intro hk;rw[hk,W4]at k;refine oU e λ ok aC=>⟨h2,comp_map (g:=λ r=> .bl (dz st r w)) aC xs (λ x hx K' q=>⟨_,rfl,x,w,rfl,h1 x hx,q⟩) ?_⟩
   refine vC (kC xs) ?_;simpa using k
  rcases hm with rfl|⟨i,rfl⟩
  . exact GK rfl (fin rfl)
  . refine GK rfl (cP e (ne2 (λ h=>?_) λ h=>?_))
    . have:l7 xs.length (.int i)=false:=UX h;rw[this]at k;exact k
    . exact fin (VA h)
theorem Lq{n:Nat}{r:List Int}:pl (n+1) (cH r)=true:=by
 unfold pl;exact M7
theorem gY{n:Nat}{A:List (List Int)}:pl (n+2) (cq A)=true:=by
 unfold pl;refine UP.mpr λ d hd=>?_;obtain⟨r,_,rfl⟩:=U6.mp hd;exact Lq
theorem xl:∀(r s:List Int),fu (aj r) (aj s)=decide (r=s)
 | [],[]=>by unfold fu;rfl
 | [],_::_=>by unfold fu;rfl
 |_::_,[]=>by unfold fu;rfl
 |a::r,b::s=>by
  have ih:=xl r s;unfold aj at ih⊢;rw[Va,Va];unfold fu;rw[ih];unfold cw;by_cases h1:a=b
  . subst h1;simp
  . have:(a==b)=false:=by simpa using h1
    rw[this,V7];exact(UX λ h=>h1 (List.cons.inj h).1).symm
theorem xo:∀(A B:List (List Int)),fu (A.map cH) (B.map cH)=decide (A=B)
 | [],[]=>by unfold fu;rfl
 | [],_::_=>by unfold fu;rfl
 |_::_,[]=>by unfold fu;rfl
 |a::r,b::s=>by
  have ih:=xo r s;rw[Va,Va];unfold fu;rw[ih];unfold cH cw;rw[xl];by_cases h1:a=b
  . subst h1;simp
  . rw[UX h1,V7];exact(UX λ h=>h1 (List.cons.inj h).1).symm
theorem pX(A B:List (List Int)):cw (cq A) (cq B)=decide (A=B):=by
 unfold cq cw;exact xo A B
def rowsOf(st:af)(d:D):List (List Int):=match items? st d with
 |some xs=>xs.map (intsOf st)
 |none=>[]
theorem all_ints:∀ {xs:List D},xs.all isInt=true->xs=aj (xs.map λ x=>match x with| .int i=>i|_=>0)
 | [],_=>rfl
 |x::xs,h=>by
  rw[V5,UR]at h;have ih:=all_ints h.2;cases x<;>first|(cases h.1;done)|skip
  rename_i i;show D.int i::xs=D.int i::_;rw[<-aj,<-ih]
theorem hO{st:af}{r:D}{w:Int}(h:dz st r w=true):items? st r=some (aj (intsOf st r))/\((intsOf st r).length:Int)=w:=by
 unfold dz at h;cases e:items? st r with
 |none=>rw[e]at h;cases h
 |some xs=>
  rw[e]at h;simp only[UR,VW]at h;have e2:=all_ints h.2;have e3:=ql (e.trans (Vk some e2));rw[e3];exact⟨Vk some e2,by rw[Uz];exact h.1⟩
theorem oY{st:af}{w:Int}:∀ {xs:List D},(xs.all λ r=>dz st r w)=true->bj st xs (xs.map (intsOf st))
 | [],_=>trivial
 |x::xs,h=>by
  rw[V5,UR]at h;exact⟨(hO h.1).1,oY h.2⟩
theorem tG{st:af}{d:D}{n:Nat}(h:cf st d (.int n) n=true):cL st d (rowsOf st d)/\Mx.aW n n (rowsOf st d):=by
 unfold cf at h;cases e:items? st d with
 |none=>rw[e]at h;cases h
 |some xs=>
  rw[e]at h;simp only[UR]at h;have e1:rowsOf st d=xs.map (intsOf st):=by unfold rowsOf;rw[e]
  rw[e1];refine⟨⟨xs,e,oY h.2⟩,⟨?_,λ r hr=>?_⟩⟩
  . have:((xs.length:Int)=(n:Int)):=of_decide_eq_true h.1;rw[Uz];lia
  . obtain⟨x,hx,rfl⟩:=U6.mp hr;have:=(hO (UP.mp h.2 x hx)).2;lia
structure nM(st:af)(d:D):Prop where
 le:∀xs,items? st d=some xs->xs.length<=1000
 sm:∀xs,items? st d=some xs->∀x∈xs,∀ys,items? st x=some ys->∀i,D.int i∈ys->i.natAbs<=2^65000000
theorem nM.rows{st:af}{d m:D}{w:Int}(h:nM st d)(hr:cf st d m w=true):∀r∈rowsOf st d,∀c∈r,c.natAbs<=2^65000000:=λ r hr1 c hc=>by
 unfold cf at hr;cases e:items? st d with
 |none=>rw[e]at hr;cases hr
 |some xs=>
  rw[e]at hr;simp only[UR]at hr;have e1:rowsOf st d=xs.map (intsOf st):=by unfold rowsOf;rw[e]
  rw[e1]at hr1;obtain⟨x,hx,rfl⟩:=U6.mp hr1;have e2:=(hO (UP.mp hr.2 x hx)).1;exact h.sm xs e x hx _ e2 c (U6.mpr ⟨c,hc,rfl⟩)
def xn(st:af)(x y:D)(n:Nat):Bool:=cf st y (.int n) n&&decide (Mx.mulM (rowsOf st x) (rowsOf st y) n=Mx.units n)
def pK:bq:=λ ds st K=>∃(x y:D) (n:Nat),ds=[x,y]/\iQ st x/\iQ st y/\nM st x/\nM st y/\cf st x (.int n) n=true/\1<=n/\n<=1000/\K (.bl (xn st x y n)) st
def vi:List Str:=["turn","back","many"]
def EE:DS:=(aw (bR (cQ (aH (av iZ (ab (aa 0) ag)))) (aP (dC (.bl false))) bW)
 (aw (aJ 2 (a8 dE (ab (aa 0) ag)))
 (aw (bR (fT (cQ (aH (av jv (ab (aa 0) (ab (aa 2) (ab (aa 2) ag)))))) (cQ (aH (av jv (ab (aa 1) (ab (aa 2) (ab (aa 2) ag))))))) (aP (dC (.bl false))) bW)
 (aP (IT (ah fi (aa 2) (dC (.int 0))) (ah fi (av nA (ab (aa 0) (ab (aa 1) ag))) (av iS (ab (aa 2) ag))))))))
theorem B6:Ut pK 2 EE vi:=by
 rintro ds st K ⟨x,y,n,rfl,hx,hy,sx,sy,e1,hn1,hn,k⟩;refine⟨rfl,?_⟩;obtain⟨R1,M1⟩:=tG e1;obtain⟨xs,e,rx⟩:=R1.ex;have l1:=M1.len;have lx:xs.length=n:=by rw[rx.len];exact l1
 refine⟨x,rfl,hx.any,?_⟩;rw[e];refine cP e ?_;rw[lx];refine⟨x,_,_,rfl,hx,Or.inr ⟨_,rfl⟩,?_⟩;rw[e1];refine⟨y,_,_,rfl,hy,Or.inr ⟨_,rfl⟩,?_⟩;unfold xn at k;cases e2:cf st y (.int n) n with
 |false=>rw[e2]at k;exact k
 |true=>
  rw[e2]at k;obtain⟨R2,M2⟩:=tG e2;have l2:=M2.len;refine Li (by lia) ?_;have hB:rowsOf st y≠ []:=λ z=>by rw[z]at l2;simp at l2;lia
  have b1:=sx.rows e1;have b2:=sy.rows e2;refine⟨x,y,n,_,_,rfl,R1,R2,hB,M2.eR,hn,by lia,λ w hw c hc r hr b hb=>wA (b1 w hw c hc) (b2 r hr b hb) (by decide),?_⟩;refine⟨n,rfl,hn,?_⟩;refine uZ gY gY ?_;rw[pX];exact k
def qY(st:af)(x y:D)(n:Nat):Bool:=cf st x (.int n) n&&xn st x y n
def mr:bq:=λ ds st K=>∃(x y:D) (n:Nat),ds=[x,y,.int n]/\iQ st x/\iQ st y/\nM st x/\nM st y/\1<=n/\n<=1000/\K (.bl (qY st x y n)) st
def qv:List Str:=["turn","back","many"]
def y9:DS:=(aP (mX (av jv (ab (aa 0) (ab (aa 2) (ab (aa 2) ag)))) (av pK (ab (aa 0) (ab (aa 1) ag)))))
theorem yb:Ut mr 3 y9 qv:=by
 rintro ds st K ⟨x,y,n,rfl,hx,hy,sx,sy,hn1,hn,k⟩;refine⟨rfl,?_⟩;refine⟨x,_,_,rfl,hx,Or.inr ⟨_,rfl⟩,?_⟩;unfold qY at k;cases e1:cf st x (.int n) n with
 |false=>rw[e1]at k;exact k
 |true=>
  rw[e1]at k;exact⟨x,y,n,rfl,hx,hy,sx,sy,e1,hn1,hn,k⟩
theorem fP{st:af}{d:D}{n w:Nat}(h:cf st d (.int n) w=true):cL st d (rowsOf st d)/\Mx.aW n w (rowsOf st d):=by
 unfold cf at h;cases e:items? st d with
 |none=>rw[e]at h;cases h
 |some xs=>
  rw[e]at h;simp only[UR]at h;have e1:rowsOf st d=xs.map (intsOf st):=by unfold rowsOf;rw[e]
  rw[e1];refine⟨⟨xs,e,oY h.2⟩,⟨?_,λ r hr=>?_⟩⟩
  . have:((xs.length:Int)=(n:Int)):=of_decide_eq_true h.1;rw[Uz];lia
  . obtain⟨x,hx,rfl⟩:=U6.mp hr;have:=(hO (UP.mp h.2 x hx)).2;lia
def tk(st:af)(A:List (List Int))(N w:Nat)(f t b:D):Bool:=cf st f (.int N) w&&(qY st t b N&&decide (rowsOf st f=Mx.mulM (rowsOf st t) A w))
def lY:bq:=λ ds st K=>∃(d f t b:D) (A:List (List Int)) (N w:Nat),ds=[d,f,t,b]/\cL st d A/\Mx.aW N w A/\1<=N/\N<=8/\w<=8/\(∀r∈A,∀c∈r,c.natAbs<=2^48)/\(iQ st f/\nM st f)/\(iQ st t/\nM st t)/\(iQ st b/\nM st b)/\K (.bl (tk st A N w f t b)) st
def qM:List Str:=["rows","made","turn","back","many"]
def zx:DS:=(aw (aJ 4 (a8 dE (ab (aa 0) ag)))
 (aw (bR (fT (cQ (aH (av jv (ab (aa 1) (ab (aa 4) (ab (a8 dE (ab (ah aT (aa 0) (dC (.int 0))) ag)) ag)))))) (cQ (aH (av mr (ab (aa 2) (ab (aa 3) (ab (aa 4) ag))))))) (aP (dC (.bl false))) bW)
 (aP (ah fi (av kE (ab (aa 1) ag)) (av nA (ab (aa 2) (ab (aa 0) ag)))))))
theorem yy:Ut lY 4 zx qM:=by
 rintro ds st K ⟨d,f,t,b,A,N,w,rfl,hd,hA,n1,n8,w8,bA,hf,ht,hb,k⟩;refine⟨rfl,?_⟩;obtain⟨da,hda,ra⟩:=hd.ex;have lA:=hA.len;have ld:da.length=N:=by rw[ra.len];exact lA
 obtain⟨e0,ee0,he0⟩:=ra.at (k:=0) (by lia);have h0w:(A.getD 0 []).length=w:=Mx.bw hA (by lia);refine cP hda ?_;rw[ld];refine aA hda ee0 (cP he0 ?_);rw[Uz,h0w];refine⟨f,_,_,rfl,hf.1,Or.inr ⟨_,rfl⟩,?_⟩;unfold tk at k;cases e1:cf st f (.int N) w with
 |false=>rw[e1]at k;exact k
 |true=>
  rw[e1]at k;refine⟨t,b,N,rfl,ht.1,hb.1,ht.2,hb.2,n1,by lia,?_⟩;cases e2:qY st t b N with
  |false=>rw[e2]at k;exact k
  |true=>
   rw[e2]at k
   have e3:cf st t (.int N) N=true:=by
    unfold qY at e2;exact((UR _ _).mp e2).1
   obtain⟨Rf,Mf⟩:=fP e1;obtain⟨Rt,Mt⟩:=fP e3;have lf:=Mf.len;have lt:=Mt.len;refine⟨f,rowsOf st f,rfl,Rf,by lia,?_⟩;refine⟨t,d,w,_,A,rfl,Rt,hd,λ z=>by rw[z]at lA;simp at lA;lia,hA.eR,by lia,by lia,λ r hr c hc s hs x hx=>wA (ht.2.rows e3 r hr c hc) (bA s hs x hx) (by decide),uZ gY gY ?_⟩;rw[pX];exact k
theorem bits_le{a:Int}{m:Nat}(h:a.natAbs<2^m):Builtin.Int.intBits a<=m:=by
 unfold Builtin.Int.intBits;by_cases h0:a.natAbs=0
 . have:a=0:=by lia
   subst this;simp
 . have:=(WE h0).mpr h;split<;>lia
theorem Dd{a b:Int}(ha:a.natAbs<=2^900)(hb:b.natAbs<=2^900):IntMulOk a b:=by
 have l:(2:Nat)^900<2^901:=VU (by decide) (by decide);have l2:901<=2^20:=by decide
 exact .of_bits (UG (bits_le (Vz ha l)) l2) (UG (bits_le (Vz hb l)) l2)
theorem EI{a:Int}(ha:a.natAbs<=2^900)(h0:a≠0):a.natAbs.log2<9000:=by
 have l:(2:Nat)^900<2^901:=VU (by decide) (by decide);have:=(WE (show a.natAbs≠0 by lia)).mpr (Vz ha l);lia
structure Gm(G:Mx.Fn)(n:Nat):Prop where
 le:n<=8
 ex:∃b,(∀r c,r<n->c<n->(G r c).natAbs<=b)/\(8*b)^n<=2^900/\(8*b)^(n-1)<=2^800/\1<=b
 sym:∀i j,G i j=G j i
theorem Gm.gx{G:Mx.Fn}{n p i j:Nat}(h:Gm G n)(hp:p<n)(hi:i<n)(hj:j<n):(Mx.gx G p (G i) j).natAbs<=2^900:=by
 obtain⟨b,hb,h1,_,b1⟩:=h.ex;exact UG (Mx.zC h.le hb hp hi hj) (UG (UL (by lia) (by lia)) h1)
theorem Gm.D{G:Mx.Fn}{n p:Nat}(h:Gm G n)(hp:p<=n):(Mx.D p G).natAbs<=2^900:=by
 obtain⟨b,hb,h1,_,b1⟩:=h.ex;exact UG (Mx.mS (by have:=h.le;lia) λ r c hr hc=>hb r c (by lia) (by lia)) (UG (UL (by lia) hp) h1)
theorem Gm.big{G:Mx.Fn}{n i j:Nat}(h:Gm G n)(hi:i<n)(hj:j<n):(G i j).natAbs<=2^900:=by
 obtain⟨b,hb,h1,_,b1⟩:=h.ex;have h2:(8*b)^1<=(8*b)^n:=UL (by lia) (by lia);have h3:=hb i j hi hj;rw[Nat.pow_one]at h2;lia
def mY:bq:=λ ds st K=>∃(G:Mx.Fn) (n i j:Nat) (m:Nat) (o1 o2:List Int) (dt d1 d2:D) (ts:List D),ds=[.int (G i j),dt,d1,d2]/\items? st dt=some ts/\bj st ts (Mx.rJ G m)/\items? st d1=some (aj o1)/\items? st d2=some (aj o2)/\o1.length=j/\j<=o2.length/\j<=m/\(∀k,k<j->o1.getD k 0=Mx.lam G i k/\o2.getD k 0=Mx.lam G j k)/\(∀k,k<j->Mx.D k G≠0)/\Gm G n/\i<n/\j<n/\K (.int (Mx.gx G j (G i) j)) st
def xG:List Str:=["together","table","one","other","divisor","line","left","right"]
def GB:DS:=(aw (aJ 4 (dC (.int 1)))
 (aw (eX (DQ (ab (aa 1) (ab (aa 2) (ab (aa 3) ag)))) (oq 5 6 7) (aw (aJ 0 (ah gK (ah cG (ah bh (ah aT (aa 5) (jx fH (dC (.int 1)))) (aa 0)) (ah bh (aa 6) (aa 7))) (aa 4)))
 (aJ 4 (ah aT (aa 5) (jx fH (dC (.int 1)))))))
 (aP (aa 0))))
theorem ke{r:List Int}{n:Nat}(h:r.length=n+1):di (aj r) (-1)=some (.int (r.getD n 0)):=by
 have e:r=r.take n++[r.getD n 0]:=by
  rw[Mx.aR (by lia),<-List.take_succ_eq_append_getElem (by lia),List.take_of_length_le (by lia)]
 have e2:aj r=aj (r.take n)++[.int (r.getD n 0)]:=by
  conv=>lhs;rw[e]
  simp[aj]
 rw[e2];exact HN _ _
theorem uX{ts:List D}{o1 o2:List Int}{k:Nat}(h1:k<ts.length)(h2:k<o1.length)(h3:k<o2.length):ff (ts.drop k) (aj (o1.drop k)) (aj (o2.drop k))= .tup [ts[k],.int (o1.getD k 0),.int (o2.getD k 0)]::ff (ts.drop (k+1)) (aj (o1.drop (k+1))) (aj (o2.drop (k+1))):=by
 rw[U9 h1,U9 h2,U9 h3,Mx.aR h2,Mx.aR h3];rfl
theorem nu{st:af}{ts:List D}{A:List (List Int)}{q:Nat}(h:bj st ts A)(hq:q<ts.length):items? st ts[q]=some (aj (A.getD q [])):=by
 obtain⟨r,e1,e2⟩:=h.get (UJ hq);have hl:=h.len;rw[UJ (by lia)]at e1;cases e1;rw[Mx.aR (by lia)];exact e2
theorem EU:Ut mY 4 GB xG:=by
 rintro ds st K ⟨G,n,i,j,m,o1,o2,dt,d1,d2,ts,rfl,ht,rt,h1,h2,l1,l2,l3,ho,hD,g,hi,hj,k⟩;refine⟨rfl,?_⟩;have hg:=g.le;have lt:=rt.len;rw[Mx.Ab]at lt;refine MF ht h1 h2 λ ok aC=>?_;refine dR (λ rest σ st'=>st'=st/\∃(q:Nat) (v5 v6 v7:Option D),q<=j/\σ=[some (.int (Mx.gx G q (G i) j)),some dt,some d1,some d2,some (.int (Mx.D q G)),v5,v6,v7]/\rest=ff (ts.drop q) (aj (o1.drop q)) (aj (o2.drop q))) ?_ ?_ _ _ _ ⟨rfl,0,none,none,none,VP _,by rw[Mx.iy];rfl,rfl⟩
 . rintro σ st' ⟨rfl,q,v5,v6,v7,hq,rfl,hr⟩;refine⟨aC _ ht h1 h2,?_⟩
   have:q=j:=by
    by_cases h:q<j
    . rw[uX (by lia) (by lia) (by lia)]at hr;cases hr
    . lia
   subst this;exact k
 . rintro x rest σ st' ⟨rfl,q,v5,v6,v7,hq,rfl,hr⟩ next
   have hqj:q<j:=by
    by_cases h:q<j
    . exact h
    . have:o1.drop q=[]:=WS (by lia);rw[this]at hr
      have e:ff (ts.drop q) (aj []) (aj (o2.drop q))=[]:=by
       cases (ts.drop q)<;>rfl
      rw[e]at hr;cases hr
   rw[uX (by lia) (by lia) (by lia),VL]at hr;obtain⟨rfl,rfl⟩:=hr;refine⟨aC _ ht h1 h2,_,rfl,?_⟩;have il:=nu rt (q:=q) (by lia);rw[Mx.CJ G (show q<m by lia)]at il;rw[(ho q hqj).1,(ho q hqj).2];have eL:(Mx.aQ G q).getD q 0=Mx.D (q+1) G:=by rw[Mx.fU G (UB _),Mx.cN]
   have b1:=g.D (p:=q+1) (by omega);have b2:=g.gx (p:=q) (i:=i) (j:=j) (by omega) hi hj;have b3:(Mx.lam G i q).natAbs<=2^900:=g.gx (by omega) hi (by omega);have b4:(Mx.lam G j q).natAbs<=2^900:=g.gx (by omega) hj (by omega);have b5:=g.D (p:=q) (by omega);refine eK (aA il (ke (Mx.cR G q)) ?_);rw[eL];refine bc (Dd b1 b2) (bc (Dd b3 b4) (cn (gC (hD q hqj) (EI b5 (hD q hqj)) ?_)));rw[Mx.Af g.sym (hD q hqj)];refine eK (aA il (ke (Mx.cR G q)) ?_);rw[eL];exact next _ _ ⟨rfl,q+1,_,_,_,hqj,rfl,rfl⟩
structure St(A:List (List Int))(N w:Nat):Prop where
 is:Mx.aW N w A
 wd:w<=1000
 sm:∀r∈A,∀x∈r,x.natAbs<=2^100
 gm:Gm (Mx.ae A) N
theorem St.mem{A:List (List Int)}{N w i:Nat}(h:St A N w)(hi:i<N):A.getD i []∈A:=by
 have:=h.is.len;rw[Mx.aR (by lia)];exact Vb _
def qV:bq:=λ ds st K=>∃(A:List (List Int)) (N w i:Nat) (dt dA dr:D) (ts:List D),ds=[dt,dA,dr]/\items? st dt=some ts/\bj st ts (Mx.rJ (Mx.ae A) i)/\cL st dA A/\St A N w/\i<N/\items? st dr=some (aj (A.getD i []))/\(∀k,k<=i->Mx.D k (Mx.ae A)≠0)/\∀st',Ext st st'->st'.length=st.length+1->st'[st.length]?=some (.lst (aj (Mx.aQ (Mx.ae A) i)))->K (.ref st.length) st'
def xm:List Str:=["table","steps","row","made","line","step"]
def Fj:DS:=(aw (aJ 3 (mz ag))
 (aw (eX (ki (ab (aa 0) (ab (aa 1) ag))) (fh 4 5) (du (dY (aa 3) (av mY (ab (av vG (ab (aa 2) (ab (aa 5) ag))) (ab (aa 0) (ab (aa 3) (ab (aa 4) ag))))))))
 (aw (du (dY (aa 3) (av mY (ab (av vG (ab (aa 2) (ab (aa 2) ag))) (ab (aa 0) (ab (aa 3) (ab (aa 3) ag)))))))
 (aP (aa 3)))))
theorem xq{ts da:List D}{q:Nat}(h1:q<ts.length)(h2:q<da.length):dJ (ts.drop q) (da.drop q)= .tup [ts[q],da[q]]::dJ (ts.drop (q+1)) (da.drop (q+1)):=by
 rw[U9 h1,U9 h2];rfl
theorem FO{A:List (List Int)}{N w i j:Nat}(h:St A N w)(hi:i<N)(hj:j<N):∀a∈A.getD i [],∀b∈A.getD j [],IntMulOk a b:=λ a ha b hb=>wA (h.sm _ (h.mem hi) a ha) (h.sm _ (h.mem hj) b hb) (by decide)
theorem tX(G:Mx.Fn)(i q:Nat):aj ((List.range q).map λ j=>Mx.lam G i j)++[.int (Mx.lam G i q)]=aj ((List.range (q+1)).map λ j=>Mx.lam G i j):=by rw[Wi,VR];simp[aj]
theorem oP(G:Mx.Fn){i q k:Nat}(h:k<q):((List.range q).map λ j=>Mx.lam G i j).getD k 0=Mx.lam G i k:=by rw[Mx.aR (by simpa using h),Vs,Vw]
theorem DH:Ut qV 3 Fj xm:=by
 rintro ds st K ⟨A,N,w,i,dt,dA,dr,ts,rfl,ht,rt,⟨da,hda,ra⟩,hS,hi,hr,hD,k⟩;refine⟨rfl,?_⟩;have hl:=hS.is.len;have hla:=ra.len;have lt:=rt.len;rw[Mx.Ab]at lt;have h8:=hS.gm.le;have wi:=hS.is.eR _ (hS.mem hi);have hw:=hS.wd;refine⟨UE rfl,?_⟩;have X0:Ext st (st++[.lst []]):=Ext.push;have e0:(st++[Cell.lst []])[st.length]?=some (.lst (aj ((List.range 0).map λ j=>Mx.lam (Mx.ae A) i j))):=by simp
 refine iR (X0.items ht) (X0.items hda) λ ok aC=>?_;refine dR (λ rest σ st'=>∃(q:Nat) (v4 v5:Option D),q<=i/\σ=[some dt,some dA,some dr,some (.ref st.length),v4,v5]/\rest=dJ (ts.drop q) (da.drop q)/\Ext st st'/\st'.length=st.length+1/\st'[st.length]?=some (.lst (aj ((List.range q).map λ j=>Mx.lam (Mx.ae A) i j)))) ?_ ?_ _ _ _ ⟨0,none,none,VP _,rfl,rfl,X0,by simp,e0⟩
 . rintro σ st1 ⟨q,v4,v5,hq,rfl,hrest,X,ln1,e⟩;refine⟨aC _ (X.items ht) (X.items hda),?_⟩
   have hqi:q=i:=by
    by_cases h:q<i
    . rw[xq (by lia) (by lia)]at hrest;cases hrest
    . lia
   subst hqi;refine iY (by rfl) e ?_;refine⟨_,_,A.getD q [],A.getD q [],rfl,X.items hr,X.items hr,by lia,FO hS hi hi,?_⟩;refine⟨Mx.ae A,N,q,q,q,(List.range q).map λ j=>Mx.lam (Mx.ae A) q j,(List.range q).map λ j=>Mx.lam (Mx.ae A) q j,dt,.ref st.length,.ref st.length,ts,rfl,X.items ht,X.rg rt,aq e,aq e,by simp,by simp,UB _,λ k hk=>⟨oP _ hk,oP _ hk⟩,λ k hk=>hD k (by lia),hS.gm,hi,hi,?_⟩;refine gz e (by rw[Vy];simp;lia) ?_;have hlt:=(Uw.mp e).1
   have e2:(st1.set st.length (.lst (aj ((List.range q).map λ j=>Mx.lam (Mx.ae A) q j)++[.int (Mx.gx (Mx.ae A) q (Mx.ae A q) q)])))[st.length]?=some (.lst (aj (Mx.aQ (Mx.ae A) q))):=by
    rw[UH hlt];have:=tX (Mx.ae A) q q;unfold Mx.lam at this⊢;unfold Mx.aQ Mx.lam;rw[this]
   exact k _ (X.set (UB _)) (by rw[US];exact ln1) e2
 . rintro x rest σ st1 ⟨q,v4,v5,hq,rfl,hrest,X,ln1,e⟩ next
   have hqi:q<i:=by
    by_cases h:q<i
    . exact h
    . have:ts.drop q=[]:=WS (by lia);rw[this]at hrest;cases hrest
   rw[xq (by lia) (by lia),VL]at hrest;obtain⟨rfl,rfl⟩:=hrest;refine⟨aC _ (X.items ht) (X.items hda),_,rfl,?_⟩;have hrq:=nu ra (q:=q) (by lia);have htq:=nu rt (q:=q) (by lia);rw[Mx.CJ _ hqi]at htq;refine iY (by rfl) e ?_;refine⟨_,_,A.getD i [],A.getD q [],rfl,X.items hr,X.items hrq,by lia,FO hS hi (by lia),?_⟩;refine⟨Mx.ae A,N,i,q,i,(List.range q).map λ j=>Mx.lam (Mx.ae A) i j,Mx.aQ (Mx.ae A) q,dt,.ref st.length,ts[q],ts,rfl,X.items ht,X.rg rt,aq e,X.items htq,by simp,by rw[Mx.cR];lia,by lia,λ k hk=>⟨oP _ hk,Mx.fU _ (by lia)⟩,λ k hk=>hD k (by lia),hS.gm,hi,by lia,?_⟩;refine gz e (by rw[Vy];simp;lia) ?_;have hlt:=(Uw.mp e).1;refine next _ _ ⟨q+1,_,_,hqi,rfl,rfl,X.set (UB _),by rw[US];exact ln1,?_⟩
   rw[UH hlt];have:=tX (Mx.ae A) i q;unfold Mx.lam at this⊢;rw[this]
structure Tb(st:af)(tb:Nat)(rs:List Nat)(G:Mx.Fn)(N:Nat):Prop where
 et:st[tb]?=some (Cell.lst (rs.map D.ref))
 lr:rs.length=N
 nd:∀(i j c:Nat),rs[i]?=some c->rs[j]?=some c->i=j
 nt:∀(i c:Nat),rs[i]?=some c->c≠tb
 row:∀(i c:Nat),rs[i]?=some c->st[c]?=some (Cell.lst (aj (Mx.aQ G i)))
theorem Tb.rows{st:af}{tb:Nat}{rs:List Nat}{G:Mx.Fn}{N:Nat}(T:Tb st tb rs G N):bj st (rs.map D.ref) (Mx.rJ G N):=by
 have key:∀(l:List Nat) (n:Nat),(∀(i c:Nat),l[i]?=some c->st[c]?=some (Cell.lst (aj (Mx.aQ G (n+i)))))->bj st (l.map D.ref) ((List.range l.length).map λ i=>Mx.aQ G (n+i)):=by
  intro l;induction l with
  |nil=>intro n h;trivial
  |cons c l ih=>
   intro n h;rw[Vh,VV,Va,Va,Vl];refine⟨aq (by have:=h 0 c rfl;exact this),?_⟩
   have:=ih (n+1) λ i d hd=>by
    have:=h (i+1) d (by simpa using hd);rw[show n+1+i=n+(i+1) by lia];exact this
   have e:((λ i=>Mx.aQ G (n+i))∘Nat.succ)=λ i=>Mx.aQ G (n+1+i):=by
    funext i;show Mx.aQ G (n+(i+1))=_;rw[show n+1+i=n+(i+1) by lia]
   rw[e];exact this
 have h:=key rs 0 λ i c hc=>by rw[Nat.zero_add];exact T.row i c hc
 rw[T.lr]at h;unfold Mx.rJ;have e:(λ i=>Mx.aQ G (0+i))=Mx.aQ G:=by funext i;rw[Nat.zero_add]
 rw[e]at h;exact h
theorem Tb.ext{st st':af}{tb:Nat}{rs:List Nat}{G:Mx.Fn}{N:Nat}(T:Tb st tb rs G N)(h1:st'[tb]?=st[tb]?)(h2:∀(i c:Nat),rs[i]?=some c->st'[c]?=st[c]?):Tb st' tb rs G N:=⟨h1.trans T.et,T.lr,T.nd,T.nt,λ i c h=>(h2 i c h).trans (T.row i c h)⟩
def lH:bq:=λ ds st K=>∃(A:List (List Int)) (N w:Nat) (dA:D),ds=[dA]/\cL st dA A/\St A N w/\(∀k,k<=N->Mx.D k (Mx.ae A)≠0)/\∀st' rs,Ext st st'->Tb st' st.length rs (Mx.ae A) N->(∀(i c:Nat),rs[i]?=some c->st.length<c)->K (.ref st.length) st'
def vH:List Str:=["steps","table","step","line"]
def DG:DS:=(aw (aJ 1 (mz ag))
 (aw (eX (cy (aa 0)) (aS 2) (aw (aJ 3 (av qV (ab (aa 1) (ab (aa 0) (ab (aa 2) ag)))))
 (aw (bR (aH (ah fi (ah aT (aa 3) (jx fH (dC (.int 1)))) (dC (.int 0)))) F_ bW)
 (du (dY (aa 1) (aa 3))))))
 (aP (aa 1))))
theorem lW{i:Nat}{σ:bo}{st:af}{K:DK}{d:D}(h:σ[i]?=some (some d))(k:K d st):aa i σ st K:=by
 unfold aa;simp only[h];exact k
theorem Bu:Ut lH 1 DG vH:=by
 rintro ds st K ⟨A,N,w,dA,rfl,hA,hS,hD,k⟩;refine⟨rfl,?_⟩;obtain⟨da,hda,ra⟩:=hA.ex;have hl:=hS.is.len;have hla:=ra.len;have h8:=hS.gm.le;refine⟨UE rfl,?_⟩;have X0:Ext st (st++[.lst []]):=Ext.push;have T0:Tb (st++[Cell.lst []]) st.length [] (Mx.ae A) 0:=⟨by simp,rfl,λ i j c h=>by simp at h,λ i c h=>by simp at h,λ i c h=>by simp at h⟩
 refine fI (X0.items hda) λ ok aC=>?_;refine dR (λ rest σ st'=>∃(q:Nat) (rs:List Nat) (v2 v3:Option D),q<=N/\σ=[some dA,some (.ref st.length),v2,v3]/\rest=da.drop q/\Ext st st'/\Tb st' st.length rs (Mx.ae A) q/\∀(i c:Nat),rs[i]?=some c->st.length<c/\c<st'.length) ?_ ?_ _ _ _ ⟨0,[],none,none,VP _,rfl,rfl,X0,T0,λ i c h=>by simp at h⟩
 . rintro σ st1 ⟨q,rs,v2,v3,hq,rfl,hrest,X,T,hc⟩;refine⟨aC _ (X.items hda),?_⟩
   have hqN:q=N:=by
    have:=Vk List.length hrest;simp at this;lia
   subst hqN;exact k _ rs X T λ i c h=>(hc i c h).1
 . rintro x rest σ st1 ⟨q,rs,v2,v3,hq,rfl,hrest,X,T,hc⟩ next
   have hqN:q<N:=by
    have:=Vk List.length hrest;simp at this;lia
   rw[U9 (show q<da.length by lia),VL]at hrest;obtain⟨rfl,rfl⟩:=hrest;refine⟨aC _ (X.items hda),_,rfl,?_⟩;have hrq:=nu ra (q:=q) (by lia);refine⟨A,N,w,q,.ref st.length,dA,_,_,rfl,aq T.et,T.rows,X.si hA,hS,hqN,X.items hrq,λ k hk=>hD k (by lia),λ st2 X2 ln2 e2=>?_⟩;have X3:=X.trans X2;have hlt:st.length<st1.length:=(Uw.mp T.et).1;have lr:=T.lr;refine eK (aA (aq e2) (ke (Mx.cR _ q)) ?_);rw[Mx.fU _ (UB q),Mx.cN];refine Li (hD (q+1) (by lia)) ?_;have et2:st2[st.length]?=some (.lst (rs.map D.ref)):=(X2.same _ hlt).trans T.et;refine iY (by rfl) et2 (lW rfl (gz et2 (by rw[Vy,Uz];lia) ?_))
   have key:∀(i c:Nat),(rs++[st1.length])[i]?=some c->(i<q/\rs[i]?=some c)\/(i=q/\c=st1.length):=λ i c h=>by
    by_cases hi:i<rs.length
    . rw[UC hi]at h;exact .inl ⟨by lia,h⟩
    . have hlt2:=(Uw.mp h).1;have:i=rs.length:=by simp at hlt2;lia
      rw[U0 (by lia),this,V2]at h;simp at h;exact .inr ⟨by lia,h.symm⟩
   refine next _ _ ⟨q+1,rs++[st1.length],_,_,hqN,rfl,rfl,X3.set (UB _),⟨?_,by simp[lr],λ i j c hi hj=>?_,λ i c hi=>?_,λ i c hi=>?_⟩,λ i c hi=>?_⟩
   . rw[UH (by lia),VR];rfl
   . rcases key i c hi with⟨a1,a2⟩|⟨a1,a2⟩<;>rcases key j c hj with⟨b1,b2⟩|⟨b1,b2⟩
     . exact T.nd i j c a2 b2
     . have:=(hc i c a2).2;lia
     . have:=(hc j c b2).2;lia
     . lia
   . rcases key i c hi with⟨a1,a2⟩|⟨a1,a2⟩
     . exact T.nt i c a2
     . lia
   . rcases key i c hi with⟨a1,a2⟩|⟨a1,a2⟩
     . have h1:=hc i c a2;rw[Ux (by lia),X2.same c h1.2];exact T.row i c a2
     . rw[a2,a1,Ux (by lia)];exact e2
   . rcases key i c hi with⟨a1,a2⟩|⟨a1,a2⟩
     . have h1:=hc i c a2;exact⟨h1.1,by rw[US];lia⟩
     . exact⟨by lia,by rw[US];lia⟩
abbrev Ay(G:Mx.Fn)(N:Nat):List D:=(List.range N).map λ k=>jd (Mx.D (k+1) G) (Mx.D k G)
abbrev K9(G:Mx.Fn)(i:Nat):List D:=(List.range i).map λ j=>jd (Mx.lam G i j) (Mx.D (j+1) G)
abbrev Pk(G:Mx.Fn)(N:Nat):List D:=(List.range N).map λ i=> .tup (K9 G i)
theorem Tb.at{st:af}{tb:Nat}{rs:List Nat}{G:Mx.Fn}{N k:Nat}(T:Tb st tb rs G N)(h:k<N):st[rs.getD k 0]?=some (.lst (aj (Mx.aQ G k))):=by
 have hl:=T.lr;refine T.row k _ ?_;rw[UU,UJ (by lia)];rfl
theorem Tb.refs{st:af}{tb:Nat}{rs:List Nat}{G:Mx.Fn}{N:Nat}(T:Tb st tb rs G N):rs.map D.ref=(List.range N).map λ k=>D.ref (rs.getD k 0):=by
 have hl:=T.lr;refine List.ext_getElem (by simp[hl]) λ i h1 h2=>?_;rw[Vs,Vs,Vw,UU,UJ (by simpa using h1)];rfl
def mI:bq:=λ ds st K=>∃(G:Mx.Fn) (N tb:Nat) (rs:List Nat),ds=[.ref tb]/\Tb st tb rs G N/\Gm G N/\(∀k,k<=N->Mx.D k G≠0)/\K (.tup (Ay G N)) st
def qZ:List Str:=["table","lasts"]
def Ao:DS:=(aw (aJ 1 (bJ (cy (aa 0)) [none] (aS 0) ba (ah aT (aa 0) (jx fH (dC (.int 1))))))
 (aP (a8 cm (ab (bJ (ki (ab (aa 1) (ab (ah b_ (fg (ab (dC (.int 1)) ag)) (aa 1)) ag))) [none,none] (fh 0 1) ba (av my (ab (aa 0) (ab (aa 1) ag)))) ag))))
theorem gQ{f h:Nat->D}{N:Nat}{tg:dZ}{te:DE}{ok:af->Prop}{σc:bo}{st:af}{K:List D->af->Prop}(aC:ok st)(hx:∀k,k<N->∀K',K' (h k) st->∃σ2,tg (f k) σc=some σ2/\te σ2 st K')(k:K ((List.range N).map h) st):cM tg ba te ok σc ((List.range N).map f) [] st K:=by
 refine gS (λ rest acc st'=>st'=st/\∃q,q<=N/\rest=((List.range N).map f).drop q/\acc=(List.range q).map h) ?_ ?_ _ _ _ ⟨rfl,0,VP _,rfl,rfl⟩
 . rintro acc st' ⟨rfl,q,hq,hr,rfl⟩
   have:q=N:=by
    have:=Vk List.length hr;simp at this;lia
   subst this;exact⟨aC,k⟩
 . rintro x rest acc st' ⟨rfl,q,hq,hr,rfl⟩ next
   have hqN:q<N:=by
    have:=Vk List.length hr;simp at this;lia
   rw[U9 (by simpa using hqN),VL,Vs,Vw]at hr;obtain⟨rfl,rfl⟩:=hr;obtain⟨σ2,e2,t⟩:=hx q hqN (λ y st2=>cM tg ba te ok σc _ ((List.range q).map h++[y]) st2 K) (next _ _ ⟨rfl,q+1,hqN,rfl,by rw[Wi,VR];rfl⟩);exact⟨aC,σ2,e2,t⟩
theorem AM{a b:Nat->D}{N M:Nat}(h:N<=M):dJ ((List.range N).map a) ((List.range M).map b)=(List.range N).map λ k=> .tup [a k,b k]:=by
 refine List.ext_getElem? λ k=>?_;unfold dJ;rw[UM,UM];by_cases hk:k<N
 . rw[VD hk]
   have e:(((List.range N).map a).zip ((List.range M).map b))[k]?=some (a k,b k):=by
    rw[Yx];exact⟨by rw[UM,VD hk];rfl,by rw[UM,VD (by lia)];rfl⟩
   rw[e];rfl
 . have e1:(((List.range N).map a).zip ((List.range M).map b))[k]?=none:=Wc (by rw[List.length_zip];simp;lia);rw[e1,Wc (by simpa using hk)];rfl
theorem yg:Ut mI 1 Ao qZ:=by
 rintro ds st K ⟨G,N,tb,rs,rfl,T,g,hD,k⟩;refine⟨rfl,?_⟩;have h8:=g.le;refine fI (aq T.et) λ ok aC=>⟨bz (by rw[Uz,T.lr];lia),?_⟩
 have hk:=aC _ (aq T.et);rw[T.refs];refine gQ (h:=λ k=> .int (Mx.D (k+1) G)) hk (λ q hq K' t=>⟨_,rfl,eK (aA (aq (T.at hq)) (ke (Mx.cR G q)) ?_)⟩) ?_
 . rw[Mx.fU G (UB q),Mx.cN];exact t
 refine R6 (UE rfl) (Ce (by rw[Vy];simp;lia) ?_)
 have e1: [D.int 1]++(List.range N).map (λ k=>D.int (Mx.D (k+1) G))=(List.range (N+1)).map λ k=>D.int (Mx.D k G):=by
  rw[VV,Va,Vl];rfl
 rw[e1];refine iR rfl rfl λ ok aC=>⟨bz (by rw[g8];simp;lia),?_⟩
 rw[AM (by lia)];refine gQ (h:=λ k=>jd (Mx.D (k+1) G) (Mx.D k G)) (aC _ rfl rfl) (λ q hq K' t=>⟨_,rfl,⟨_,_,rfl,hD q (by lia),EI (g.D (by lia)) (hD q (by lia)),t⟩⟩) ?_;exact bS rfl k
def nQ:bq:=λ ds st K=>∃(G:Mx.Fn) (N i tb:Nat) (rs:List Nat),ds=[.ref tb,.ref (rs.getD i 0)]/\Tb st tb rs G N/\i<N/\Gm G N/\(∀k,k<=N->Mx.D k G≠0)/\K (.tup (K9 G i)) st
def sQ:List Str:=["table","line"]
def BY:DS:=(aP (a8 cm (ab (bJ (ki (ab (kQ (aa 1) jW (lF (jx fH (dC (.int 1))))) (ab (aa 0) ag))) [none,none] (fh 0 1) ba (av my (ab (aa 0) (ab (ah aT (aa 1) (jx fH (dC (.int 1)))) ag)))) ag)))
theorem II{r:List Int}{n:Nat}(h:r.length=n+1):L3.cutD (aj r) none (some (-1))=aj (r.take n):=by
 unfold L3.cutD;rw[HT.t5]
 have e:HT.bL (aj r).length (aj r).length (some (-1))=n:=by
  show(if(-1:Int)<0 then((-1:Int)+((aj r).length:Int)).toNat else min (-1:Int).toNat (aj r).length)=n;rw[UA (by decide),Uz];lia
 rw[e,List.drop_zero,Zc];unfold aj;rw[Yj]
theorem AF:Ut nQ 2 BY sQ:=by
 rintro ds st K ⟨G,N,i,tb,rs,rfl,T,hi,g,hD,k⟩;refine⟨rfl,?_⟩;have h8:=g.le;refine eK (kN (T.at hi) ?_);rw[II (Mx.cR G i)]
 have e1:aj ((Mx.aQ G i).take i)=(List.range i).map λ j=> .int (Mx.lam G i j):=by
  unfold Mx.aQ;rw[<-Yj,List.take_range,XO (by lia)];unfold aj;rw[Vl];rfl
 rw[e1];refine iR rfl (aq T.et) λ ok aC=>⟨bz (by rw[g8];simp;lia),?_⟩
 have hk:=aC _ rfl (aq T.et);rw[T.refs,AM (by lia)];refine gQ (h:=λ j=>jd (Mx.lam G i j) (Mx.D (j+1) G)) hk (λ q hq K' t=>⟨_,rfl,?_⟩) ?_
 . refine eK (aA (aq (T.at (by lia))) (ke (Mx.cR G q)) ?_);rw[Mx.fU G (UB q),Mx.cN];exact⟨_,_,rfl,hD (q+1) (by lia),EI (g.D (by lia)) (hD (q+1) (by lia)),t⟩
 exact bS rfl k
def t6:bq:=λ ds st K=>∃(A:List (List Int)) (N w:Nat) (dA:D),ds=[dA]/\cL st dA A/\St A N w/\(∀k,k<=N->Mx.D k (Mx.ae A)≠0)/\∀st',Ext st st'->K (.tup [.tup (Ay (Mx.ae A) N),.tup (Pk (Mx.ae A) N)]) st'
def A3:List Str:=["steps","table"]
def Ji:DS:=(aw (aJ 1 (av lH (ab (aa 0) ag)))
 (aP (iK (ab (av mI (ab (aa 1) ag)) (ab (a8 cm (ab (bJ (cy (aa 1)) [none,some 1] (aS 0) ba (av nQ (ab (aa 1) (ab (aa 0) ag)))) ag)) ag)))))
theorem Gw:Ut t6 1 Ji A3:=by
 rintro ds st K ⟨A,N,w,dA,rfl,hA,hS,hD,k⟩;refine⟨rfl,?_⟩;have h8:=hS.gm.le;refine⟨A,N,w,dA,rfl,hA,hS,hD,λ st1 rs X1 T _=>?_⟩;refine⟨_,N,_,rs,rfl,T,hS.gm,hD,?_⟩;refine fI (aq T.et) λ ok aC=>⟨bz (by rw[Uz,T.lr];lia),?_⟩
 have hk:=aC _ (aq T.et);rw[T.refs];refine gQ (h:=λ i=> .tup (K9 (Mx.ae A) i)) hk (λ q hq K' t=>⟨_,rfl,⟨_,N,q,_,rs,rfl,T,hq,hS.gm,hD,t⟩⟩) ?_;exact bS rfl ⟨UE rfl,k st1 X1⟩
def gU:bq:=λ ds st K=>∃(t d:Int),ds=[.int t,.int d]/\d≠0/\K (.int (Mx.qn t d)) st
def kB:List Str:=["top","bottom"]
def rH:DS:=(aP (ah qU (ah b_ (ah bh (dC (.int 2)) (aa 0)) (aa 1)) (ah bh (dC (.int 2)) (aa 1))))
theorem kD{a b:Int}{m n:Nat}(ha:a.natAbs<=2^m)(hb:b.natAbs<=2^n):(a*b).natAbs<=2^(m+n):=by
 rw[Vr,Wt];exact Xh ha hb
theorem cV{a b:Int}{m n:Nat}(ha:a.natAbs<=2^m)(hb:b.natAbs<=2^n)(hm:m<1000000)(hn:n<1000000):IntMulOk a b:=by
 have l2:(1000000:Nat)<=2^20:=by decide
 have q:∀ {x:Int} {k:Nat},x.natAbs<=2^k->k<1000000->Builtin.Int.intBits x<=2^20:=λ{x k} h hk=>UG (A_ (Vz h (VU (by decide) (WH k)))) (by lia);exact .of_bits (q ha hm) (q hb hn)
theorem yR{a:Int}{m:Nat}(ha:a.natAbs<=2^m)(h0:a≠0)(hm:m+1<9000):a.natAbs.log2<9000:=by
 have l:(2:Nat)^m<2^(m+1):=VU (by decide) (WH m);have:=(WE (show a.natAbs≠0 by lia)).mpr (Vz ha l);lia
theorem qh:Ut gU 2 rH kB:=by
 rintro ds st K ⟨t,d,rfl,hd,k⟩;exact⟨rfl,bc (dw (by decide) (by decide)) (cp (bc (dw (by decide) (by decide)) (Il (by lia) k)))⟩
def iP:bq:=λ ds st K=>∃(n k o:Nat) (A:List (List Int)),ds=[.ref n,.int k,.int o]/\st[n]?=some (.lst (A.map aK))/\k<A.length/\o<A.length/\K (.ref st.length) (st++[.lst ((Mx.bV A k o).map aK)])
def sT:List Str:=["rows","k","other","order"]
def BQ:DS:=(aw (aJ 3 (a8 qF (ab (aa 0) ag)))
 (aw (dm (aa 3) (aa 1) (ah aT (aa 0) (aa 2)))
 (aw (dm (aa 3) (aa 2) (ah aT (aa 0) (aa 1)))
 (aP (aa 3)))))
theorem eN{A:List (List Int)}{j:Nat}(h:j<A.length):di (A.map aK) (j:Int)=some (aK (A.getD j [])):=by
 refine dg ?_;rw[UM,UJ h,Mx.aR h];rfl
theorem fz{m k:Nat}(h:k<m):jE m (k:Int)=some k:=by
 have:=O1 (i:=(k:Int)) (m:=m) (by lia) (by lia);rw[U_]at this;exact this
theorem kc{A:List (List Int)}{k:Nat}{r:List Int}:(A.map aK).set k (aK r)=(A.set k r).map aK:=by rw[Xe]
theorem Bc:Ut iP 3 BQ sT:=by
 rintro ds st K ⟨n,k,o,A,rfl,e,hk,ho,kk⟩;refine⟨rfl,?_⟩;have hn:n<st.length:=(Uw.mp e).1;refine IM (aq e) ?_;have e1:(st++[Cell.lst (A.map aK)])[n]?=some (.lst (A.map aK)):=by rw[UC hn];exact e
 have e2:(st++[Cell.lst (A.map aK)])[st.length]?=some (.lst (A.map aK)):=by simp
 refine aA (aq e1) (eN ho) (dO e2 (by rw[Uz];exact fz hk) ?_);rw[kc]
 have es:(st++[Cell.lst (A.map aK)]).set st.length (.lst ((A.set k (A.getD o [])).map aK))=st++[Cell.lst ((A.set k (A.getD o [])).map aK)]:=by
  rw[Y3 _ _ (UB _),V2];rfl
 rw[es];have e3:(st++[Cell.lst ((A.set k (A.getD o [])).map aK)])[n]?=some (.lst (A.map aK)):=by rw[UC hn];exact e
 have e4:(st++[Cell.lst ((A.set k (A.getD o [])).map aK)])[st.length]?=some (.lst ((A.set k (A.getD o [])).map aK)):=by simp
 refine aA (aq e3) (eN hk) (dO e4 (by rw[Uz,US];exact fz ho) ?_);rw[kc]
 have es2:(st++[Cell.lst ((A.set k (A.getD o [])).map aK)]).set st.length (.lst (((A.set k (A.getD o [])).set o (A.getD k [])).map aK))=st++[Cell.lst ((Mx.bV A k o).map aK)]:=by
  rw[Y3 _ _ (UB _),V2];rfl
 rw[es2];exact kk
structure Bn(st:af)(b xb xu xc:Nat)(A U C:List (List Int)):Prop where
 eb:st[b]?=some (Cell.ins aU [("body",.ref xb),("turn",.ref xu),("back_columns",.ref xc)])
 e1:st[xb]?=some (Cell.lst (A.map aK))
 e2:st[xu]?=some (Cell.lst (U.map aK))
 e3:st[xc]?=some (Cell.lst (C.map aK))
 n1:xb≠xu
 n2:xb≠xc
 n3:xu≠xc
theorem gX{st:af}{b x:Nat}{C:Addr}{fs:List (Str×D)}{xs:List D}(h1:st[b]?=some (Cell.ins C fs))(h2:st[x]?=some (Cell.lst xs)):b≠x:=λ z=>by rw[z,h2]at h1;cases h1
def jh:bq:=λ ds st K=>∃(b N:Nat) (d:D) (A:List (List Int)),ds=[.ref b,d]/\st[b]?=some (.ins aU [])/\cL st d A/\A.length=N/\N<=8/\∀st',Bn st' b st.length (st.length+1) (st.length+2) A (Mx.units N) (Mx.units N)->st'.length=st.length+3->(∀m,m<st.length->m≠b->st'[m]?=st[m]?)->K .ay st'
def jf:List Str:=["self","rows"]
def uf:DS:=(aw (ko aU "body" (aa 0) (iV (cy (aa 1)) [none] (aS 0) ba (a8 ib (ab (aa 0) ag))))
 (aw (ko aU "turn" (aa 0) (iV (cy (av iS (ab (a8 dE (ab (aa 1) ag)) ag))) [none] (aS 0) ba (a8 ib (ab (aa 0) ag))))
 (ko aU "back_columns" (aa 0) (iV (cy (av iS (ab (a8 dE (ab (aa 1) ag)) ag))) [none] (aS 0) ba (a8 ib (ab (aa 0) ag))))))
theorem pR(f:Str)(v:D):∀fs:List (Str×D),(putD f v fs).length<=fs.length+1
 | []=>by simp[putD]
 |(g,x)::r=>by
  unfold putD;split
  . simp
  . have:=pR f v r;simp only[Vh];lia
theorem mx{st:af}{A:List (List Int)}:bj st (A.map cH) A:=bj.tup
theorem xk(n:Nat):(Mx.units n).length=n:=by unfold Mx.units;simp
theorem sE:Ut jh 2 uf jf:=by
 rintro ds st K ⟨b,N,d,A,rfl,eb,hA,hl,hN,k⟩;refine⟨rfl,?_⟩;have hb:b<st.length:=(Uw.mp eb).1;obtain⟨da,hd,ra⟩:=hA.ex;have hdl:=ra.len;have lst:∀(e:D) (r:List Int),True:=λ _ _=>trivial;refine oU hd λ ok aC=>⟨bz (by lia),?_⟩
 refine d_ aK aC ra (λ e r hr he K' q=>⟨_,rfl,kb he q⟩) ?_;have eb1:(st++[Cell.lst (A.map aK)])[b]?=some (.ins aU []):=by rw[UC hb];exact eb
 refine js eb1 (by decide) ?_;generalize hs1:(st++[Cell.lst (A.map aK)]).set b (.ins aU (putD "body" (.ref st.length) []))=st1;have l1:st1.length=st.length+1:=by rw[<-hs1];simp
 have f1:∀m,m<st.length->m≠b->st1[m]?=st[m]?:=λ m hm hmb=>by rw[<-hs1,Ux (UD hmb),UC hm]
 have b1:st1[b]?=some (.ins aU (putD "body" (.ref st.length) [])):=by rw[<-hs1,UH (by simp;lia)]
 have x1:st1[st.length]?=some (.lst (A.map aK)):=by rw[<-hs1,Ux (by lia)];simp
 clear hs1
 have itd:∃da',items? st1 d=some da'/\da'.length=N:=by
  cases d with
  |ref n=>
   by_cases hnb:n=b
   . subst hnb;unfold items? at hd;simp only[eb]at hd;cases hd
   . have hn:n<st.length:=by
      unfold items? at hd;simp only at hd;cases q:st[n]? with
      |none=>rw[q]at hd;cases hd
      |some c=>exact(Uw.mp q).1
     refine⟨da,?_,by lia⟩;unfold items? at hd⊢;simp only at hd⊢;rw[f1 n hn hnb];exact hd
  |_=>exact⟨da,hd,by lia⟩
 obtain⟨da1,hd1,hdl1⟩:=itd;refine cP hd1 ?_;rw[hdl1];refine⟨N,rfl,by lia,?_⟩;refine ju ⟨bz (by rw[Uz,xk];lia),?_⟩;refine d_ aK trivial mx (λ e r hr he K' q=>⟨_,rfl,kb he q⟩) ?_;have b2:(st1++[Cell.lst ((Mx.units N).map aK)])[b]?=some (.ins aU (putD "body" (.ref st.length) [])):=by rw[UC (by lia)];exact b1
 refine js b2 (by have:=pR "body" (.ref st.length) [];simp only[List.length_nil]at this;lia) ?_;generalize hs2:(st1++[Cell.lst ((Mx.units N).map aK)]).set b (.ins aU (putD "turn" (.ref st1.length) (putD "body" (.ref st.length) [])))=st2;have l2:st2.length=st.length+2:=by rw[<-hs2];simp;lia
 have f2:∀m,m<st1.length->m≠b->st2[m]?=st1[m]?:=λ m hm hmb=>by rw[<-hs2,Ux (UD hmb),UC hm]
 have b2':st2[b]?=some (.ins aU (putD "turn" (.ref st1.length) (putD "body" (.ref st.length) []))):=by rw[<-hs2,UH (by simp;lia)]
 have x2:st2[st1.length]?=some (.lst ((Mx.units N).map aK)):=by rw[<-hs2,Ux (by lia)];simp
 clear hs2
 have itd2:items? st2 d=some da1:=by
  cases d with
  |ref n=>
   by_cases hnb:n=b
   . subst hnb;unfold items? at hd1;simp only[b1]at hd1;cases hd1
   . have hn:n<st1.length:=by
      unfold items? at hd1;simp only at hd1;cases q:st1[n]? with
      |none=>rw[q]at hd1;cases hd1
      |some c=>exact(Uw.mp q).1
     unfold items? at hd1⊢;simp only at hd1⊢;rw[f2 n hn hnb];exact hd1
  |_=>exact hd1
 refine cP itd2 ?_;rw[hdl1];refine⟨N,rfl,by lia,?_⟩;refine ju ⟨bz (by rw[Uz,xk];lia),?_⟩;refine d_ aK trivial mx (λ e r hr he K' q=>⟨_,rfl,kb he q⟩) ?_;have b3:(st2++[Cell.lst ((Mx.units N).map aK)])[b]?=some (.ins aU (putD "turn" (.ref st1.length) (putD "body" (.ref st.length) []))):=by rw[UC (by lia)];exact b2'
 refine js b3 (by have h1:=pR "body" (.ref st.length) [];have h2:=pR "turn" (.ref st1.length) (putD "body" (.ref st.length) []);simp only[List.length_nil]at h1;lia) ?_;refine k _ ⟨?_,?_,?_,?_,by lia,by lia,by lia⟩ (by simp;lia) λ m hm hmb=>?_
 . rw[UH (by simp;lia),l1,l2];rfl
 . rw[Ux (by lia),UC (by lia),f2 _ (by lia) (by lia)];exact x1
 . rw[Ux (by lia),UC (by lia)];rw[l1]at x2;exact x2
 . rw[Ux (by lia)];rw[show st.length+2=st2.length by lia];simp
 . rw[Ux (UD hmb),UC (by lia),f2 m (by lia) hmb,f1 m hm hmb]
def lZ:bq:=λ ds st K=>∃(b xb xu xc N w k j:Nat) (A U C:List (List Int)) (q:Int),ds=[.ref b,.int k,.int q,.int j]/\Bn st b xb xu xc A U C/\Mx.aW N w A/\Mx.aW N N U/\Mx.aW N N C/\k<N/\j<N/\N<=8/\w<=9/\(∀x∈A.getD j [],IntMulOk (-q) x)/\(∀x∈U.getD j [],IntMulOk (-q) x)/\(∀x∈C.getD k [],IntMulOk q x)/\
 ∀st',Bn st' b xb xu xc (Mx.aZ A k q j) (Mx.aZ U k q j) (Mx.aZ C j (-q) k)->st'.length=st.length->(∀m,m≠xb->m≠xu->m≠xc->st'[m]?=st[m]?)->K .ay st'
def mQ:List Str:=["self","k","times","other"]
def Az:DS:=(aw (dm (cX aU "body" (aa 0)) (aa 1) (av lK (ab (ah aT (cX aU "body" (aa 0)) (aa 1)) (ab (jx fH (aa 2)) (ab (ah aT (cX aU "body" (aa 0)) (aa 3)) ag)))))
 (aw (dm (cX aU "turn" (aa 0)) (aa 1) (av lK (ab (ah aT (cX aU "turn" (aa 0)) (aa 1)) (ab (jx fH (aa 2)) (ab (ah aT (cX aU "turn" (aa 0)) (aa 3)) ag)))))
 (dm (cX aU "back_columns" (aa 0)) (aa 3) (av lK (ab (ah aT (cX aU "back_columns" (aa 0)) (aa 3)) (ab (aa 2) (ab (ah aT (cX aU "back_columns" (aa 0)) (aa 1)) ag)))))))
theorem yk:Ut lZ 4 Az mQ:=by
 rintro ds st K ⟨b,xb,xu,xc,N,w,k,j,A,U,C,q,rfl,B,hA,hU,hC,hk,hj,hN,hw,mA,mU,mC,kk⟩;refine⟨rfl,?_⟩;have lA:=hA.len;have lU:=hU.len;have lC:=hC.len;have rA:=Mx.bw hA hk;have rU:=Mx.bw hU hk;have rC:=Mx.bw hC hj;have bx1:=gX B.eb B.e1;have bx2:=gX B.eb B.e2;have bx3:=gX B.eb B.e3;have n1:=B.n1;have n2:=B.n2;have n3:=B.n3;refine bX B.eb rfl (aA (aq B.e1) (eN (by lia)) (eK (bX B.eb rfl (aA (aq B.e1) (eN (by lia)) ?_))));refine⟨_,_,-q,A.getD k [],A.getD j [],rfl,rfl,rfl,by lia,mA,?_⟩;refine bX B.eb rfl (dO B.e1 (by rw[Uz,lA];exact fz hk) ?_);rw[kc];have g1:∀m,m≠xb->(st.set xb (.lst ((A.set k (Mx.eJ (A.getD k []) (-q) (A.getD j []))).map aK)))[m]?=st[m]?:=λ m hm=>Ux (UD hm);have h1:(st.set xb (.lst ((A.set k (Mx.eJ (A.getD k []) (-q) (A.getD j []))).map aK)))[xb]?=some (.lst ((Mx.aZ A k q j).map aK)):=UH (Uw.mp B.e1).1;have z1:(st.set xb (.lst ((A.set k (Mx.eJ (A.getD k []) (-q) (A.getD j []))).map aK))).length=st.length:=US;generalize st.set xb (.lst ((A.set k (Mx.eJ (A.getD k []) (-q) (A.getD j []))).map aK))=st1 at g1 h1 z1⊢;have eb1:=(g1 b bx1).trans B.eb;have e21:=(g1 xu (UD n1)).trans B.e2;have e31:=(g1 xc (UD n2)).trans B.e3;refine bX eb1 rfl (aA (aq e21) (eN (by lia)) (eK (bX eb1 rfl (aA (aq e21) (eN (by lia)) ?_))));refine⟨_,_,-q,U.getD k [],U.getD j [],rfl,rfl,rfl,by lia,mU,?_⟩;refine bX eb1 rfl (dO e21 (by rw[Uz,lU];exact fz hk) ?_);rw[kc];have g2:∀m,m≠xu->(st1.set xu (.lst ((U.set k (Mx.eJ (U.getD k []) (-q) (U.getD j []))).map aK)))[m]?=st1[m]?:=λ m hm=>Ux (UD hm);have h2:(st1.set xu (.lst ((U.set k (Mx.eJ (U.getD k []) (-q) (U.getD j []))).map aK)))[xu]?=some (.lst ((Mx.aZ U k q j).map aK)):=UH (Uw.mp e21).1;have z2:(st1.set xu (.lst ((U.set k (Mx.eJ (U.getD k []) (-q) (U.getD j []))).map aK))).length=st1.length:=US;generalize st1.set xu (.lst ((U.set k (Mx.eJ (U.getD k []) (-q) (U.getD j []))).map aK))=st2 at g2 h2 z2⊢;have eb2:=(g2 b bx2).trans eb1;have e32:=(g2 xc (UD n3)).trans e31;refine bX eb2 rfl (aA (aq e32) (eN (by lia)) (bX eb2 rfl (aA (aq e32) (eN (by lia)) ?_)));refine⟨_,_,q,C.getD j [],C.getD k [],rfl,rfl,rfl,by lia,mC,?_⟩;refine bX eb2 rfl (dO e32 (by rw[Uz,lC];exact fz hj) ?_);rw[kc];have hc:C.set j (Mx.eJ (C.getD j []) q (C.getD k []))=Mx.aZ C j (-q) k:=by unfold Mx.aZ;rw[Int.neg_neg]
 rw[hc];refine kk _ ⟨?_,?_,?_,?_,n1,n2,n3⟩ (by rw[US];lia) λ m m1 m2 m3=>?_
 . rw[Ux (UD bx3)];exact eb2
 . rw[Ux (UD n2),g2 _ n1];exact h1
 . rw[Ux (UD n3)];exact h2
 . exact UH (Uw.mp e32).1
 . rw[Ux (UD m3),g2 m m2,g1 m m1]
def jm:bq:=λ ds st K=>∃(b xb xu xc N w k o:Nat) (A U C:List (List Int)),ds=[.ref b,.int k,.int o]/\Bn st b xb xu xc A U C/\Mx.aW N w A/\Mx.aW N N U/\Mx.aW N N C/\k<N/\o<N/\
 ∀st',Bn st' b st.length (st.length+1) (st.length+2) (Mx.bV A k o) (Mx.bV U k o) (Mx.bV C k o)->st'.length=st.length+3->(∀m,m<st.length->m≠b->st'[m]?=st[m]?)->K .ay st'
def jo:List Str:=["self","k","other"]
def uu:DS:=(aw (ko aU "body" (aa 0) (av iP (ab (cX aU "body" (aa 0)) (ab (aa 1) (ab (aa 2) ag)))))
 (aw (ko aU "turn" (aa 0) (av iP (ab (cX aU "turn" (aa 0)) (ab (aa 1) (ab (aa 2) ag)))))
 (ko aU "back_columns" (aa 0) (av iP (ab (cX aU "back_columns" (aa 0)) (ab (aa 1) (ab (aa 2) ag)))))))
theorem sD:Ut jm 3 uu jo:=by
 rintro ds st K ⟨b,xb,xu,xc,N,w,k,o,A,U,C,rfl,B,hA,hU,hC,hk,ho,kk⟩;refine⟨rfl,?_⟩;have lA:=hA.len;have lU:=hU.len;have lC:=hC.len;have bx1:=gX B.eb B.e1;have bx2:=gX B.eb B.e2;have bx3:=gX B.eb B.e3;have hb:b<st.length:=(Uw.mp B.eb).1;have hu:xu<st.length:=(Uw.mp B.e2).1;have hc:xc<st.length:=(Uw.mp B.e3).1;refine bX B.eb rfl ?_;refine⟨xb,k,o,A,rfl,B.e1,by lia,by lia,?_⟩;have eb1:(st++[Cell.lst ((Mx.bV A k o).map aK)])[b]?=some (.ins aU [("body",.ref xb),("turn",.ref xu),("back_columns",.ref xc)]):=by rw[UC hb];exact B.eb
 refine js eb1 (by simp) ?_;have pb:putD "body" (.ref st.length) [("body",.ref xb),("turn",.ref xu),("back_columns",.ref xc)]=([("body",.ref st.length),("turn",.ref xu),("back_columns",.ref xc)]:List (Str×D)):=rfl;rw[pb];generalize hs1:(st++[Cell.lst ((Mx.bV A k o).map aK)]).set b (.ins aU [("body",.ref st.length),("turn",.ref xu),("back_columns",.ref xc)])=st1;have l1:st1.length=st.length+1:=by rw[<-hs1];simp
 have f1:∀m,m<st.length->m≠b->st1[m]?=st[m]?:=λ m hm hmb=>by rw[<-hs1,Ux (UD hmb),UC hm]
 have b1:st1[b]?=some (.ins aU [("body",.ref st.length),("turn",.ref xu),("back_columns",.ref xc)]):=by rw[<-hs1,UH (by simp;lia)]
 have x1:st1[st.length]?=some (.lst ((Mx.bV A k o).map aK)):=by rw[<-hs1,Ux (by lia)];simp
 clear hs1 eb1;refine bX b1 rfl ?_;refine⟨xu,k,o,U,rfl,(f1 xu hu (UD bx2)).trans B.e2,by lia,by lia,?_⟩;have eb1:(st1++[Cell.lst ((Mx.bV U k o).map aK)])[b]?=some (.ins aU [("body",.ref st.length),("turn",.ref xu),("back_columns",.ref xc)]):=by rw[UC (by lia)];exact b1
 refine js eb1 (by simp) ?_;have pb:putD "turn" (.ref st1.length) [("body",.ref st.length),("turn",.ref xu),("back_columns",.ref xc)]=([("body",.ref st.length),("turn",.ref st1.length),("back_columns",.ref xc)]:List (Str×D)):=rfl;rw[pb];generalize hs2:(st1++[Cell.lst ((Mx.bV U k o).map aK)]).set b (.ins aU [("body",.ref st.length),("turn",.ref st1.length),("back_columns",.ref xc)])=st2;have l2:st2.length=st.length+2:=by rw[<-hs2];simp;lia
 have f2:∀m,m<st1.length->m≠b->st2[m]?=st1[m]?:=λ m hm hmb=>by rw[<-hs2,Ux (UD hmb),UC hm]
 have b2:st2[b]?=some (.ins aU [("body",.ref st.length),("turn",.ref st1.length),("back_columns",.ref xc)]):=by rw[<-hs2,UH (by simp;lia)]
 have x2:st2[st1.length]?=some (.lst ((Mx.bV U k o).map aK)):=by rw[<-hs2,Ux (by lia)];simp
 clear hs2 eb1;refine bX b2 rfl ?_;refine⟨xc,k,o,C,rfl,((f2 xc (by lia) (UD bx3)).trans (f1 xc hc (UD bx3))).trans B.e3,by lia,by lia,?_⟩;have eb1:(st2++[Cell.lst ((Mx.bV C k o).map aK)])[b]?=some (.ins aU [("body",.ref st.length),("turn",.ref st1.length),("back_columns",.ref xc)]):=by rw[UC (by lia)];exact b2
 refine js eb1 (by simp) ?_;have pb:putD "back_columns" (.ref st2.length) [("body",.ref st.length),("turn",.ref st1.length),("back_columns",.ref xc)]=([("body",.ref st.length),("turn",.ref st1.length),("back_columns",.ref st2.length)]:List (Str×D)):=rfl;rw[pb];refine kk _ ⟨?_,?_,?_,?_,by lia,by lia,by lia⟩ (by simp;lia) λ m hm hmb=>?_
 . rw[UH (by simp;lia),l1,l2]
 . rw[Ux (by lia),UC (by lia),f2 _ (by lia) (by lia)];exact x1
 . rw[Ux (by lia),UC (by lia)];rw[l1]at x2;exact x2
 . rw[Ux (by lia)];rw[show st.length+2=st2.length by lia];simp
 . rw[Ux (UD hmb),UC (by lia),f2 m (by lia) hmb,f1 m hm hmb]
theorem LB{t b:Int}(hb:b≠0):uE t b*b=t*l_ t b/\(uE t b).natAbs<=t.natAbs/\(l_ t b).natAbs<=b.natAbs:=by
 have hg0:Nat.gcd t.natAbs b.natAbs≠0:=λ z=>by
  have:=Xx z;lia
 have hne:((Nat.gcd t.natAbs b.natAbs:Nat):Int)≠0:=by lia
 have h1:=xN t b;have h2:=xC t b;unfold uE l_;generalize hs:(if b<0 then(-1:Int)else 1)=s;have hs2:s= -1\/s=1:=by rw[<-hs];split<;>simp
 generalize Nat.gcd t.natAbs b.natAbs=g at*;obtain⟨t',rfl⟩:=h1;obtain⟨b',rfl⟩:=h2;have e1:(s*((g:Int)*t')).fdiv (g:Int)=s*t':=by rw[VX,V4 _ hne]
 have e2:(s*((g:Int)*b')).fdiv (g:Int)=s*b':=by rw[VX,V4 _ hne]
 rw[e1,e2]
 have q:∀x:Int,(s*x).natAbs<=((g:Int)*x).natAbs:=λ x=>by
  rw[Vr,Vr,Wv];have:s.natAbs=1:=by rcases hs2 with rfl|rfl<;>rfl
  rw[this];exact VM _ (by lia)
 exact⟨by grind,q _,q _⟩
theorem M_{t b:Int}(hb:b≠0):0<l_ t b:=by
 have h:=jZ (t:=t) hb;unfold jd Dg at h
 have:l_ t b=(((Rat.divInt t b).den:Nat):Int):=by
  injection h with h;injection h with _ h;injection h with h _;injection h
 rw[this];have:=(Rat.divInt t b).den_pos;lia
def iJ:bq:=λ ds st K=>∃(t b:Int),ds=[jd t b]/\0<b/\K (.bl (decide (2*((t.natAbs:Nat):Int)<=b))) st
def lz:List Str:=["share"]
def sF:DS:=(aP (ah G7 (ah bh (dC (.int 2)) (a8 nG (ab (ah aT (aa 0) (dC (.int 0))) ag))) (ah aT (aa 0) (dC (.int 1)))))
theorem qP:Ut iJ 1 sF lz:=by
 rintro ds st K ⟨t,b,rfl,hb,k⟩;refine⟨rfl,?_⟩;have h1:=M_ (t:=t) (b:=b) (by lia);have h2:=(LB (t:=t) (b:=b) (by lia)).1;have e:decide (2*(((uE t b).natAbs:Nat):Int)<=l_ t b)=decide (2*((t.natAbs:Nat):Int)<=b):=WJ.mpr (Mx.Jm hb h1 h2);rw[<-e]at k;exact aA rfl rfl (oE (bc (dw (by decide) (by decide)) (aA rfl rfl (Qv k))))
def jP:bq:=λ ds st K=>∃(a b c l:Int),ds=[jd a b,jd l b,jd b c]/\0<b/\0<c/\a.natAbs<2^901/\b.natAbs<2^801/\c.natAbs<2^801/\l.natAbs<2^801/\K (.bl (decide (4*a*c<3*b*b-4*l*l))) st
def m9:List Str:=["square","share","ahead"]
def uG:DS:=(aP (av uB (ab (aa 0) (ab (av rO (ab (av wm (ab (av my (ab (dC (.int 3)) (ab (dC (.int 4)) ag))) (ab (av rO (ab (aa 1) (ab (aa 1) ag))) ag))) (ab (aa 2) ag))) ag))))
theorem tQ:Ut jP 3 uG m9:=by
 rintro ds st K ⟨a,b,c,l,rfl,hb,hc,za,zb,zc,zl,k⟩;refine⟨rfl,?_⟩;have hb0:b≠0:=by lia
 have hc0:c≠0:=by lia
 have zb2:b.natAbs<2^901:=UY zb (UL (by decide) (by decide));have s1:=Sz.of hb0 za zb2;have s2:=Sz.of hb0 zl zb;have s3:=Sz.of hc0 zb zc;have s4:Sz (Rat.divInt 3 4) 3:=Sz.of (by decide) (by decide) (by decide);have s5:=s2.mul s2;have s6:=s4.sub s5;have s7:=s6.mul s3;rw[jZ hb0,jZ hb0,jZ hc0];rw[<-WJ.mpr (Mx.Hn (a:=a) (l:=l) hb hc)]at k;refine⟨3,4,rfl,by decide,by decide,?_⟩;rw[jZ (by decide)];refine⟨_,_,_,_,rfl,Fq.tup s2 (by decide),Fq.tup s2 (by decide),?_⟩;refine⟨_,_,_,_,rfl,Fq.tup s4 (by decide),Fq.tup s5 (by decide),?_⟩;refine⟨_,_,_,_,rfl,Fq.tup s6 (by decide),Fq.tup s3 (by decide),?_⟩;exact⟨_,_,_,_,rfl,Fq.tup s1 (by decide),Fq.tup s7 (by decide),k⟩
def pf:bq:=λ ds st K=>∃(A:List (List Int)) (N w:Nat) (dA:D),ds=[dA]/\cL st dA A/\St A N w/\(∀k,k<=N->Mx.D k (Mx.ae A)≠0)/\(Mx.Sh (Mx.ae A) N->∀st',Ext st st'->K (.bl true) st')/\(¬Mx.Sh (Mx.ae A) N->∀st',Ext st st'->K (.bl false) st')
def ve:List Str:=["steps","told","squares","own"]
def EH:DS:=(aw (aJ 1 (av t6 (ab (aa 0) ag)))
 (aw (aJ 2 (ah aT (aa 1) (dC (.int 0))))
 (aw (eX (cy (ah aT (aa 1) (dC (.int 1)))) (aS 3) (bR (cQ (aH (a8 pM (ab (bJ (cy (aa 3)) [none] (aS 0) ba (av iJ (ab (aa 0) ag))) ag)))) (aP (dC (.bl false))) bW))
 (aP (vx (aH (a8 A8 (ab (bJ (lI (ab (dC (.int 1)) (ab (a8 dE (ab (aa 2) ag)) ag))) [none,some 2,some 1] (aS 0) ba (av jP (ab (ah aT (aa 1) (aa 0)) (ab (ah aT (ah aT (ah aT (aa 2) (dC (.int 1))) (aa 0)) (ah cG (aa 0) (dC (.int 1)))) (ab (ah aT (aa 1) (ah cG (aa 0) (dC (.int 1)))) ag))))) ag))))))))
theorem Gm.Db{G:Mx.Fn}{n p:Nat}(h:Gm G n)(hp:p<=n):(Mx.D p G).natAbs<2^901:=Vz (h.D hp) (VU (by decide) (by decide))
theorem Gm.Dc{G:Mx.Fn}{n p:Nat}(h:Gm G n)(hp:p<n):(Mx.D p G).natAbs<2^801:=by
 obtain⟨b,hb,_,h1,b1⟩:=h.ex;exact Vz (UG (Mx.mS (by have:=h.le;lia) λ r c hr hc=>hb r c (by lia) (by lia)) (UG (UL (by lia) (by lia)) h1)) (VU (by decide) (by decide))
theorem Gm.lb{G:Mx.Fn}{n p i:Nat}(h:Gm G n)(hi:i<n)(hp:p+1<n):(Mx.lam G i p).natAbs<2^801:=by
 obtain⟨b,hb,_,h1,b1⟩:=h.ex;exact Vz (UG (Mx.zC h.le hb (by lia) hi (by lia)) (UG (UL (by lia) (by lia)) h1)) (VU (by decide) (by decide))
theorem tf{f:Nat->Bool}(n:Nat):gR ((List.range n).map λ j=>D.bl (f j))=some ((List.range n).map f):=by
 have h:=kC (f:=λ d=>match d with| .int j=>f j.toNat|_=>false) ((List.range n).map λ(j:Nat)=>D.int ((j:Nat):Int));rw[Vl,Vl]at h;exact h
theorem BO:Ut pf 1 EH ve:=by
 rintro ds st K ⟨A,N,w,dA,rfl,hA,hS,hD,kT,kF⟩;refine⟨rfl,?_⟩;have gm:=hS.gm;have h8:=gm.le;have hp:=Mx.i9 hS.is hD;refine⟨A,N,w,dA,rfl,hA,hS,hD,λ st1 X1=>?_⟩;refine aA rfl rfl (aA rfl rfl (ju ?_));refine dR (λ rest σ st'=>st'=st1/\∃(q:Nat) (v3:Option D),q<=N/\rest=(Pk (Mx.ae A) N).drop q/\σ=[some dA,some (.tup [.tup (Ay (Mx.ae A) N),.tup (Pk (Mx.ae A) N)]),some (.tup (Ay (Mx.ae A) N)),v3]/\∀i j,j<i->i<q->2*(((Mx.lam (Mx.ae A) i j).natAbs:Nat):Int)<=Mx.D (j+1) (Mx.ae A)) ?_ ?_ _ _ _ ⟨rfl,0,none,VP _,rfl,rfl,λ i j _ h=>by lia⟩
 . rintro σ st' ⟨rfl,q,v3,hq,hrest,rfl,hh⟩
   have hqN:q=N:=by
    have:=Vk List.length hrest;simp at this;lia
   subst hqN;refine⟨trivial,?_⟩;refine cP rfl (wa ⟨by decide,by decide,by rw[Uz,Yq];lia,by rw[Uz,Yq];lia⟩ ⟨bz (by rw[dc];simp;lia),?_⟩)
   have er:cC 1 ((((Ay (Mx.ae A) q).length:Nat):Int)-1).toNat=(List.range (q-1)).map λ m=>D.int ((m+1:Nat):Int):=by
    unfold cC;have:((((Ay (Mx.ae A) q).length:Nat):Int)-1).toNat=q-1:=by rw[Uz,Yq];lia
    rw[this];refine Vd λ m _=>?_;congr 1;lia
   rw[er];refine gQ (h:=λ m=> .bl (decide (4*Mx.D (m+2) (Mx.ae A)*Mx.D m (Mx.ae A)<3*Mx.D (m+1) (Mx.ae A)*Mx.D (m+1) (Mx.ae A)-4*Mx.lam (Mx.ae A) (m+1) m*Mx.lam (Mx.ae A) (m+1) m))) trivial (λ m hm K' t=>⟨_,rfl,?_⟩) ?_
   . have ix:∀j,j<q->di (Ay (Mx.ae A) q) (j:Int)=some (jd (Mx.D (j+1) (Mx.ae A)) (Mx.D j (Mx.ae A))):=λ j hj=>dg (by rw[UM,VD hj];rfl);refine aA rfl (ix (m+1) (by lia)) (aA rfl rfl (aA (e:= .tup (K9 (Mx.ae A) (m+1))) rfl (dg (by rw[UM,VD (by lia)];rfl)) (cn ?_)));have em:((m+1:Nat):Int)-1=(m:Int):=by lia
     rw[em];refine aA (e:=jd (Mx.lam (Mx.ae A) (m+1) m) (Mx.D (m+1) (Mx.ae A))) rfl (dg (by rw[UM,VD (by lia)];rfl)) (cn ?_);rw[em];refine aA rfl (ix m (by lia)) ?_;exact⟨_,_,_,_,rfl,hp _ (by lia),hp _ (by lia),gm.Db (by lia),gm.Dc (by lia),gm.Dc (by lia),gm.lb (by lia) (by lia),t⟩
   refine Qm (tf _) ?_;by_cases hsh:Mx.Sh (Mx.ae A) q
   . have:((List.range (q-1)).map λ m=>decide (4*Mx.D (m+2) (Mx.ae A)*Mx.D m (Mx.ae A)<3*Mx.D (m+1) (Mx.ae A)*Mx.D (m+1) (Mx.ae A)-4*Mx.lam (Mx.ae A) (m+1) m*Mx.lam (Mx.ae A) (m+1) m)).any id=false:=by
      rw[Yk];intro b hb;obtain⟨m,hm,rfl⟩:=U6.mp hb;rw[Vp]at hm;have:=hsh.D0 (m+1) (by lia) (by lia);simpa using this
     rw[this];exact kT hsh _ X1
   . have:((List.range (q-1)).map λ m=>decide (4*Mx.D (m+2) (Mx.ae A)*Mx.D m (Mx.ae A)<3*Mx.D (m+1) (Mx.ae A)*Mx.D (m+1) (Mx.ae A)-4*Mx.lam (Mx.ae A) (m+1) m*Mx.lam (Mx.ae A) (m+1) m)).any id=true:=by
      cases z:((List.range (q-1)).map λ m=>decide (4*Mx.D (m+2) (Mx.ae A)*Mx.D m (Mx.ae A)<3*Mx.D (m+1) (Mx.ae A)*Mx.D (m+1) (Mx.ae A)-4*Mx.lam (Mx.ae A) (m+1) m*Mx.lam (Mx.ae A) (m+1) m)).any id with
      |true=>rfl
      |false=>
       rw[Yk]at z;refine absurd ⟨hh,λ i h0 hi=>?_⟩ hsh;have:=z _ (U6.mpr ⟨i-1,Vp.mpr (by lia),rfl⟩);have e1:i-1+1=i:=by lia
       have e2:i-1+2=i+1:=by lia
       rw[e1,e2]at this;simpa using this
     rw[this];exact kF hsh _ X1
 . rintro x rest σ st' ⟨rfl,q,v3,hq,hrest,rfl,hh⟩ next
   have hqN:q<N:=by
    have:=Vk List.length hrest;simp at this;lia
   rw[U9 (by simpa using hqN),VL,Vs,Vw]at hrest;obtain⟨rfl,rfl⟩:=hrest;refine⟨trivial,_,rfl,?_⟩;refine ju ⟨bz (by simp;lia),?_⟩;refine gQ (h:=λ j=> .bl (decide (2*(((Mx.lam (Mx.ae A) q j).natAbs:Nat):Int)<=Mx.D (j+1) (Mx.ae A)))) trivial (λ j hj K' t=>⟨_,rfl,_,_,rfl,hp _ (by lia),t⟩) ?_;refine vC (tf _) ?_;by_cases hall:∀j,j<q->2*(((Mx.lam (Mx.ae A) q j).natAbs:Nat):Int)<=Mx.D (j+1) (Mx.ae A)
   . have:((List.range q).map λ j=>decide (2*(((Mx.lam (Mx.ae A) q j).natAbs:Nat):Int)<=Mx.D (j+1) (Mx.ae A))).all id=true:=by
      rw[UP];intro b hb;obtain⟨m,hm,rfl⟩:=U6.mp hb;rw[Vp]at hm;simpa using hall m hm
     rw[this];refine next _ _ ⟨rfl,q+1,_,hqN,rfl,rfl,λ i j hj hi=>?_⟩
     by_cases hiq:i=q
     . subst hiq;exact hall j hj
     . exact hh i j hj (by lia)
   . have:((List.range q).map λ j=>decide (2*(((Mx.lam (Mx.ae A) q j).natAbs:Nat):Int)<=Mx.D (j+1) (Mx.ae A))).all id=false:=by
      cases z:((List.range q).map λ j=>decide (2*(((Mx.lam (Mx.ae A) q j).natAbs:Nat):Int)<=Mx.D (j+1) (Mx.ae A))).all id with
      |false=>rfl
      |true=>
       rw[UP]at z;refine absurd (λ j hj=>?_) hall;have:=z _ (U6.mpr ⟨j,Vp.mpr hj,rfl⟩);simpa using this
     rw[this];exact kF (λ hsh=>hall λ j hj=>hsh.half q j hj hqN) _ X1
structure Ss(n0:Nat)(st:af)(s b xb xu xc tb:Nat)(rs:List Nat)(A U C:List (List Int))(N:Nat):Prop where
 es:st[s]?=some (Cell.ins aL [("bench",.ref b),("table",.ref tb)])
 B:Bn st b xb xu xc A U C
 T:Tb st tb rs (Mx.ae A) N
 d1:tb≠xb/\tb≠xu/\tb≠xc
 d2:∀(i c:Nat),rs[i]?=some c->c≠xb/\c≠xu/\c≠xc
 lo:n0<=s/\n0<=b/\n0<=xb/\n0<=xu/\n0<=xc/\n0<=tb
 lr:∀(i c:Nat),rs[i]?=some c->n0<=c
theorem qB{st st':af}(f:∀(m:Nat) (xs:List D),st[m]?=some (Cell.lst xs)->st'[m]?=some (Cell.lst xs)):∀ {ds:List D} {A:List (List Int)},bj st ds A->bj st' ds A
 | [],[],_=>trivial
 |d::_,_::_,h=>⟨by
  have h1:=h.1;cases d with
  |ref n=>
   unfold items? at h1⊢;simp only at h1⊢;split at h1
   . rename_i xs e;rw[f n xs e];exact h1
   . cases h1
  |_=>exact h1,qB f h.2⟩
theorem BR{st st':af}(f:∀(m:Nat) (xs:List D),st[m]?=some (Cell.lst xs)->st'[m]?=some (Cell.lst xs)){d:D}{A:List (List Int)}(h:cL st d A):cL st' d A:=by
 obtain⟨ds,e,r⟩:=h.ex;refine⟨ds,?_,qB f r⟩;cases d with
 |ref n=>
  unfold items? at e⊢;simp only at e⊢;split at e
  . rename_i xs e';rw[f n xs e'];exact e
  . cases e
 |_=>exact e
def iH:bq:=λ ds st K=>∃(s N w:Nat) (d:D) (A:List (List Int)),ds=[.ref s,d]/\st[s]?=some (.ins aL [])/\cL st d A/\St A N w/\(∀k,k<=N->Mx.D k (Mx.ae A)≠0)/\∀st' b xb xu xc tb rs,Ss s st' s b xb xu xc tb rs A (Mx.units N) (Mx.units N) N->(∀m,m<s->st'[m]?=st[m]?)->K .ay st'
def iG:List Str:=["self","steps"]
def sC:DS:=(aw (ko aL "bench" (aa 0) (yL aU jh (ab (aa 1) ag)))
 (ko aL "table" (aa 0) (av lH (ab (aa 1) ag))))
theorem qJ:Ut iH 2 sC iG:=by
 rintro ds st K ⟨s,N,w,d,A,rfl,es,hA,hS,hD,k⟩;refine⟨rfl,?_⟩;have hs:s<st.length:=(Uw.mp es).1;have X0:Ext st (st++[.ins aU []]):=Ext.push;have e0:(st++[Cell.ins aU []]).length=st.length+1:=by simp
 refine⟨st.length,N,d,A,rfl,by simp,X0.si hA,hS.is.len,hS.gm.le,λ st1 B l1 f1=>⟨rfl,?_⟩⟩;rw[e0]at B l1 f1;have g1:∀m,m<st.length->st1[m]?=st[m]?:=λ m hm=>by rw[f1 m (by lia) (by lia),X0.same m hm]
 have es1:st1[s]?=some (.ins aL []):=(g1 s hs).trans es;refine js es1 (by decide) ?_;have pb:putD "bench" (.ref st.length) []=([("bench",.ref st.length)]:List (Str×D)):=rfl;rw[pb];generalize hs2:st1.set s (.ins aL [("bench",.ref st.length)])=st2;have l2:st2.length=st.length+4:=by rw[<-hs2,US];lia
 have f2:∀m,m≠s->st2[m]?=st1[m]?:=λ m hm=>by rw[<-hs2,Ux (UD hm)]
 have es2:st2[s]?=some (.ins aL [("bench",.ref st.length)]):=by rw[<-hs2,UH (by lia)]
 clear hs2
 have hA2:cL st2 d A:=BR (λ m xs e=>by
  have hm:m<st.length:=(Uw.mp e).1;have hms:m≠s:=λ z=>by rw[z,es]at e;cases e
  rw[f2 m hms,g1 m hm];exact e) hA
 refine⟨A,N,w,d,rfl,hA2,hS,hD,λ st3 rs X3 T hrs=>?_⟩;have es3:st3[s]?=some (.ins aL [("bench",.ref st.length)]):=(X3.same s (by lia)).trans es2;refine js es3 (by simp) ?_;have pb:putD "table" (.ref st2.length) [("bench",.ref st.length)]=([("bench",.ref st.length),("table",.ref st2.length)]:List (Str×D)):=rfl;rw[pb];have ht:st2.length<st3.length:=(Uw.mp T.et).1;have g3:∀m,m<st2.length->m≠s->(st3.set s (.ins aL [("bench",.ref st.length),("table",.ref st2.length)]))[m]?=st1[m]?:=λ m hm hms=>by rw[Ux (UD hms),X3.same m hm,f2 m hms]
 have b0:=(Uw.mp B.eb).1;refine k _ st.length (st.length+1) (st.length+1+1) (st.length+1+2) st2.length rs ⟨?_,⟨?_,?_,?_,?_,by lia,by lia,by lia⟩,?_,⟨by lia,by lia,by lia⟩,λ i c h=>?_,⟨by lia,by lia,by lia,by lia,by lia,by lia⟩,λ i c h=>?_⟩ λ m hm=>?_
 . rw[UH (by lia)]
 . rw[g3 _ (by lia) (by lia)];exact B.eb
 . rw[g3 _ (by lia) (by lia)];exact B.e1
 . rw[g3 _ (by lia) (by lia)];exact B.e2
 . rw[g3 _ (by lia) (by lia)];exact B.e3
 . refine T.ext (Ux (by lia)) λ i c h=>Ux ?_;have:=hrs i c h;lia
 . have:=hrs i c h;exact⟨by lia,by lia,by lia⟩
 . have:=hrs i c h;lia
 . rw[g3 m (by lia) (by lia),g1 m (by lia)]
def cY:bq:=λ ds st K=>∃(s b tb N kk:Nat) (rs:List Nat) (G:Mx.Fn) (k:Int),ds=[.ref s,.int k]/\st[s]?=some (Cell.ins aL [("bench",.ref b),("table",.ref tb)])/\Tb st tb rs G N/\k=(kk:Int)-1/\kk<=N/\K (.int (Mx.D kk G)) st
def jq:List Str:=["self","k"]
def uo:DS:=(aP (CA (aH (ah u4 (aa 1) (dC (.int 0)))) (ah aT (ah aT (cX aL "table" (aa 0)) (aa 1)) (aa 1)) (dC (.int 1))))
theorem Tb.line{st:af}{tb N:Nat}{rs:List Nat}{G:Mx.Fn}(h:Tb st tb rs G N){i:Nat}(hi:i<N):∃c,rs[i]?=some c/\di (rs.map D.ref) ((i:Nat):Int)=some (.ref c)/\st[c]?=some (Cell.lst (aj (Mx.aQ G i))):=by
 have lr:=h.lr;have e:rs[i]?=some rs[i]:=UJ (by lia);exact⟨rs[i],e,dg (by rw[UM,e];rfl),h.row i _ e⟩
theorem Ss.line{n0 s b xb xu xc tb N:Nat}{rs:List Nat}{A U C:List (List Int)}{st:af}(h:Ss n0 st s b xb xu xc tb rs A U C N){i:Nat}(hi:i<N):∃c,rs[i]?=some c/\di (rs.map D.ref) ((i:Nat):Int)=some (.ref c)/\st[c]?=some (Cell.lst (aj (Mx.aQ (Mx.ae A) i))):=h.T.line hi
theorem iA{G:Mx.Fn}{i p:Nat}(h:p<=i):di (aj (Mx.aQ G i)) ((p:Nat):Int)=some (.int (Mx.lam G i p)):=by
 have:=ia (r:=Mx.aQ G i) (k:=p) (by rw[Mx.cR];lia);rw[Mx.fU _ h]at this;exact this
theorem sv:Ut cY 2 uo jq:=by
 rintro ds st K ⟨s,b,tb,N,kk,rs,G,k,rfl,es,T,rfl,hk,q⟩;refine⟨rfl,?_⟩;cases kk with
 |zero=>
  refine SN (by lia) ?_;rw[Mx.f9]at q;exact q
 |succ m=>
  have em:((m+1:Nat):Int)-1=(m:Int):=by lia
  rw[em];obtain⟨c,e1,e2,e3⟩:=T.line (i:=m) (by lia);refine R8 (by lia) (cT (bX es rfl (aA (aq T.et) e2 (aA (aq e3) (iA (UB m)) ?_))));rw[Mx.cN];exact q
structure Cw(A U C:List (List Int))(N:Nat):Prop where
 lam:∀i p,p<=i->i<N->(Mx.lam (Mx.ae A) i p).natAbs<=2^40000
 D:∀p,p<=N->0<Mx.D p (Mx.ae A)/\(Mx.D p (Mx.ae A)).natAbs<=2^744
 eA:∀r∈A,∀x∈r,x.natAbs<=2^400000
 eU:∀r∈U,∀x∈r,x.natAbs<=2^400000
 eC:∀r∈C,∀x∈r,x.natAbs<=2^400000
abbrev nq(A:List (List Int))(k j:Nat):Int:=(2*Mx.lam (Mx.ae A) k j+Mx.D (j+1) (Mx.ae A)).fdiv (2*Mx.D (j+1) (Mx.ae A))
def gI:bq:=λ ds st K=>∃(n0 s b xb xu xc tb N w k j:Nat) (rs:List Nat) (A U C:List (List Int)),ds=[.ref s,.int k,.int j]/\Ss n0 st s b xb xu xc tb rs A U C N/\Mx.aW N w A/\Mx.aW N N U/\Mx.aW N N C/\j<k/\k<N/\N<=8/\w<=9/\Cw A U C N/\
 ∀st',Ss n0 st' s b xb xu xc tb rs (Mx.aZ A k (nq A k j) j) (Mx.aZ U k (nq A k j) j) (Mx.aZ C j (-nq A k j) k) N->(∀m,m<n0->st'[m]?=st[m]?)->K .ay st'
def jN:List Str:=["self","k","j","quotient","i"]
def vt:DS:=(aw (aJ 3 (av gU (ab (ah aT (ah aT (cX aL "table" (aa 0)) (aa 1)) (aa 2)) (ab (ah aT (ah aT (cX aL "table" (aa 0)) (aa 2)) (aa 2)) ag))))
 (aw (bR (aH (ah fi (aa 3) (dC (.int 0)))) Dt bW)
 (aw (du (e_ aU "take" lZ (cX aL "bench" (aa 0)) (ab (aa 1) (ab (aa 3) (ab (aa 2) ag)))))
 (eX (cE (ab (ah b_ (aa 2) (dC (.int 1))) ag)) (aS 4) (A4 (λ i j=>i-j) (ah aT (cX aL "table" (aa 0)) (aa 1)) (aa 4) (ah bh (aa 3) (ah aT (ah aT (cX aL "table" (aa 0)) (aa 2)) (aa 4))))))))
theorem Hf{r s:List Int}(h:r.length=s.length):Mx.eJ r 0 s=r:=by
 refine Mx.CB (n:=r.length) (Mx.kg h) rfl λ c _=>?_;rw[Mx.rR h];lia
theorem pE{A:List (List Int)}{N w k j:Nat}(hA:Mx.aW N w A)(hk:k<N)(hj:j<N):Mx.aZ A k 0 j=A:=by
 unfold Mx.aZ;have hl:=hA.len;rw[Int.neg_zero,Hf (by rw[Mx.bw hA hk,Mx.bw hA hj]),Mx.aR (by lia)];exact List.set_getElem_self _
theorem CZ{G G':Mx.Fn}{i:Nat}(h:∀p,p<=i->Mx.lam G i p=Mx.lam G' i p):Mx.aQ G i=Mx.aQ G' i:=by
 unfold Mx.aQ;exact Vd λ p hp=>h p (by rw[Vp]at hp;lia)
def jH(G:Mx.Fn)(k j:Nat)(q:Int)(m:Nat):List Int:=(List.range (k+1)).map λ p=>if p<m then Mx.lam G k p-q*Mx.lam G j p else Mx.lam G k p
theorem wg{G:Mx.Fn}{k j m p:Nat}{q:Int}(h:p<=k):(jH G k j q m).getD p 0=if p<m then Mx.lam G k p-q*Mx.lam G j p else Mx.lam G k p:=by
 unfold jH;rw[Mx.aR (by simp;lia),Vs,Vw]
theorem mN{G:Mx.Fn}{k j m:Nat}{q:Int}:(jH G k j q m).length=k+1:=by unfold jH;simp
theorem Jf{G:Mx.Fn}{k j m:Nat}{q:Int}(h:m<=k):(jH G k j q m).set m (Mx.lam G k m-q*Mx.lam G j m)=jH G k j q (m+1):=by
 refine Mx.CB (n:=k+1) (by rw[US,mN]) mN λ c hc=>?_;rw[wg (by lia),UU,Yp];by_cases hcm:m=c
 . subst hcm;rw[UA rfl,UA (by rw[mN];lia),UA (by lia)];rfl
 . rw[Uy hcm,<-UU,wg (by lia)];by_cases h1:c<m
   . rw[UA h1,UA (by lia)]
   . rw[Uy h1,Uy (by lia)]
theorem Tb.take{st:af}{tb N w k j:Nat}{rs:List Nat}{A:List (List Int)}{q:Int}(T:Tb st tb rs (Mx.ae A) N)(hA:Mx.aW N w A)(hj:j<k)(hk:k<N){st':af}(h1:st'[tb]?=st[tb]?)(h2:∀(i c:Nat),i≠k->rs[i]?=some c->st'[c]?=st[c]?)(h3:∀c,rs[k]?=some c->st'[c]?=some (.lst (aj (jH (Mx.ae A) k j q (j+1))))):Tb st' tb rs (Mx.ae (Mx.aZ A k q j)) N:=by
 have lr:=T.lr;refine⟨h1.trans T.et,lr,T.nd,T.nt,λ i c h=>?_⟩;have hi:i<N:=by have:=(Uw.mp h).1;lia
 by_cases hik:i=k
 . subst hik;rw[h3 c h];congr 3;unfold jH Mx.aQ;refine Vd λ p hp=>?_;rw[Vp]at hp;rw[Mx.jY hA hj hk hi (by lia),UA rfl];by_cases hpj:p<j+1
   . rw[UA hpj]
   . have z:Mx.lam (Mx.ae A) j p=0:=Mx.uF (by lia);rw[Uy hpj,z,VB,WL]
 . rw[h2 i c hik h,T.row i c h];congr 3;exact CZ λ p hp=>by rw[Mx.jY hA hj hk hi hp,Uy hik,WL]
theorem wI{A:List (List Int)}{N w i:Nat}(h:Mx.aW N w A)(hi:i<N):A.getD i []∈A:=by
 have:=h.len;rw[Mx.aR (by lia)];exact Vb _
theorem uA:Ut gI 3 vt jN:=by
 rintro ds st K ⟨n0,s,b,xb,xu,xc,tb,N,w,k,j,rs,A,U,C,rfl,h,hA,hU,hC,hj,hk,hN,hw,sm,kk⟩;refine⟨rfl,?_⟩;obtain⟨ck,ek1,ek2,ek3⟩:=h.line (i:=k) hk;obtain⟨cj,ej1,ej2,ej3⟩:=h.line (i:=j) (by lia);obtain⟨hD0,hDb⟩:=sm.D (j+1) (by lia);refine bX h.es rfl (aA (aq h.T.et) ek2 (aA (aq ek3) (iA (by lia)) (bX h.es rfl (aA (aq h.T.et) ej2 (aA (aq ej3) (iA (UB j)) ?_)))));rw[Mx.cN];refine⟨_,_,rfl,by lia,?_⟩;unfold Mx.qn
 have hq:(nq A k j).natAbs<=2^40000:=by
  have:=(Mx.AA (t:=Mx.lam (Mx.ae A) k j) hD0).2;have h2:=sm.lam k j (by lia) hk;exact UG (XM.mp this) h2
 refine eq2 (λ h0=>cT ?_) λ h0=>?_
 . have e0:nq A k j=0:=h0;rw[e0,Int.neg_zero,pE hA hk (by lia),pE hU hk (by lia),pE hC (by lia) hk]at kk;exact kk st h λ m _=>rfl
 unfold nq at hq kk;generalize hqe:(2*Mx.lam (Mx.ae A) k j+Mx.D (j+1) (Mx.ae A)).fdiv (2*Mx.D (j+1) (Mx.ae A))=q at*;have hnq:(-q).natAbs<=2^40000:=by rw[XZ];exact hq
 refine bX h.es rfl (fm h.B.eb rfl ?_);refine⟨b,xb,xu,xc,N,w,k,j,A,U,C,q,rfl,h.B,hA,hU,hC,hk,by lia,hN,hw,λ x hx=>cV hnq (sm.eA _ (wI hA (by lia)) x hx) (by decide) (by decide),λ x hx=>cV hnq (sm.eU _ (wI hU (by lia)) x hx) (by decide) (by decide),λ x hx=>cV hq (sm.eC _ (wI hC hk) x hx) (by decide) (by decide),λ st1 B1 l1 f1=>?_⟩;have lo:=h.lo;have sx:s≠xb/\s≠xu/\s≠xc:=⟨gX h.es h.B.e1,gX h.es h.B.e2,gX h.es h.B.e3⟩
 have es1:st1[s]?=_:=(f1 s sx.1 sx.2.1 sx.2.2).trans h.es;have et1:st1[tb]?=_:=(f1 tb h.d1.1 h.d1.2.1 h.d1.2.2).trans h.T.et;have fr:∀(i c:Nat),rs[i]?=some c->st1[c]?=st[c]?:=λ i c hc=>f1 c (h.d2 i c hc).1 (h.d2 i c hc).2.1 (h.d2 i c hc).2.2
 have ckj:ck≠cj:=λ z=>by
  have:=h.T.nd k j ck ek1 (by rw[z];exact ej1);lia
 have ckt:ck≠tb:=h.T.nt k ck ek1
 have cks:∀(m:Nat) (C':Addr) (fs:List (Str×D)),st1[m]?=some (.ins C' fs)->m≠ck:=λ m C' fs hm z=>by
  rw[z,fr k ck ek1,ek3]at hm;cases hm
 refine cp ?_;have e1:((j:Nat):Int)+1=((j+1:Nat):Int):=rfl;rw[e1];refine dS ⟨by lia,by lia⟩ ?_;rw[U_];refine gN (j+1) (λ m σ st'=>∃v4:Option D,σ=[some (.ref s),some (.int (k:Int)),some (.int (j:Int)),some (.int q),v4]/\(∀n,n≠ck->st'[n]?=st1[n]?)/\st'[ck]?=some (.lst (aj (jH (Mx.ae A) k j q m)))) ?_ ?_ ⟨none,rfl,λ _ _=>rfl,?_⟩
 . rintro σ st2 ⟨v4,rfl,g,e⟩;refine kk st2 ⟨?_,⟨?_,?_,?_,?_,h.B.n1,h.B.n2,h.B.n3⟩,?_,h.d1,h.d2,lo,h.lr⟩ λ m hm=>?_
   . rw[g s (cks s _ _ es1)];exact es1
   . rw[g b (cks b _ _ B1.eb)];exact B1.eb
   . rw[g xb (h.d2 k ck ek1).1.symm];exact B1.e1
   . rw[g xu (h.d2 k ck ek1).2.1.symm];exact B1.e2
   . rw[g xc (h.d2 k ck ek1).2.2.symm];exact B1.e3
   . refine h.T.take hA hj hk ?_ (λ i c hi hc=>?_) λ c hc=>?_
     . rw[g tb (UD ckt),et1,h.T.et]
     . have:c≠ck:=λ z=>hi (h.T.nd i k c hc (by rw[z];exact ek1));rw[g c this,fr i c hc]
     . rw[ek1]at hc;cases hc;exact e
   . have a1:=h.lr k ck ek1;rw[g m (by lia),f1 m (by lia) (by lia) (by lia)]
 . rintro m σ st2 rest hm ⟨v4,rfl,g,e⟩ next
   refine⟨_,rfl,?_⟩;have es2:st2[s]?=_:=(g s (cks s _ _ es1)).trans es1;have et2:st2[tb]?=_:=(g tb (UD ckt)).trans et1;have ej4:st2[cj]?=_:=((g cj (UD ckj)).trans (fr j cj ej1)).trans ej3;refine bX es2 rfl (aA (aq et2) ek2 ?_)
   refine Lw (u:=Mx.lam (Mx.ae A) k m) e (by lia) (by
    have:=ia (r:=jH (Mx.ae A) k j q m) (k:=m) (by rw[mN];lia);rw[wg (by lia),Uy (Vt m)]at this;exact this) ?_
   refine bX es2 rfl (aA (aq et2) ej2 (aA (aq ej4) (iA (by lia)) (bc (cV hq (sm.lam j m (by lia) (by lia)) (by decide) (by decide)) ?_)));refine M5 (j:=m) e (by rw[Uz,mN];exact fz (by lia)) ?_
   have es3:(aj (jH (Mx.ae A) k j q m)).set m (.int (Mx.lam (Mx.ae A) k m-q*Mx.lam (Mx.ae A) j m))=aj (jH (Mx.ae A) k j q (m+1)):=by
    rw[<-Jf (by lia)];unfold aj;rw[Xe]
   rw[es3];have hlt:=(Uw.mp e).1;exact next _ _ ⟨_,rfl,λ n hn=>by rw[Ux (UD hn)];exact g n hn,UH hlt⟩
 . rw[fr k ck ek1,ek3]
   have e9:jH (Mx.ae A) k j q 0=Mx.aQ (Mx.ae A) k:=by
    unfold jH Mx.aQ;exact Vd λ p _=>by rw[Uy (by lia)]
   rw[e9]
def iF:bq:=λ ds st K=>∃(n0 s b xb xu xc tb N t:Nat) (rs:List Nat) (A U C:List (List Int)),ds=[.ref s,.int ((t+1:Nat):Int)]/\Ss n0 st s b xb xu xc tb rs A U C N/\t+1<N/\Cw A U C N/\K (.bl (decide (4*(Mx.D (t+2) (Mx.ae A)*Mx.D t (Mx.ae A)+Mx.lam (Mx.ae A) (t+1) t*Mx.lam (Mx.ae A) (t+1) t)<3*Mx.D (t+1) (Mx.ae A)*Mx.D (t+1) (Mx.ae A)))) st
def iI:List Str:=["self","k","share","ahead"]
def su:DS:=(aw (aJ 2 (ah aT (ah aT (cX aL "table" (aa 0)) (aa 1)) (ah cG (aa 1) (dC (.int 1)))))
 (aw (aJ 3 (e_ aL "last_of" cY (aa 0) (ab (ah cG (aa 1) (dC (.int 1))) ag)))
 (aP (ah mm (ah bh (dC (.int 4)) (ah b_ (ah bh (e_ aL "last_of" cY (aa 0) (ab (aa 1) ag)) (e_ aL "last_of" cY (aa 0) (ab (ah cG (aa 1) (dC (.int 2))) ag))) (ah bh (aa 2) (aa 2)))) (ah bh (ah bh (dC (.int 3)) (aa 3)) (aa 3))))))
theorem rB:Ut iF 2 su iI:=by
 rintro ds st K ⟨n0,s,b,xb,xu,xc,tb,N,t,rs,A,U,C,rfl,h,ht,sm,kk⟩;refine⟨rfl,?_⟩;obtain⟨ck,ek1,ek2,ek3⟩:=h.line (i:=t+1) ht;have em:((t+1:Nat):Int)-1=(t:Int):=by lia
 refine bX h.es rfl (aA (aq h.T.et) ek2 (cn ?_));rw[em];refine aA (aq ek3) (iA (by lia)) ?_;have b0:=(sm.D t (by lia)).2;have b1:=(sm.D (t+1) (by lia)).2;have b2:=(sm.D (t+2) (by lia)).2;have b3:=sm.lam (t+1) t (by lia) ht;have t3:(3:Int).natAbs<=2^2:=by decide
 refine fm h.es rfl (cn ?_);refine⟨s,b,tb,N,t+1,rs,_,_,rfl,h.es,h.T,by lia,by lia,?_⟩;refine fm h.es rfl ?_;refine⟨s,b,tb,N,t+2,rs,_,_,rfl,h.es,h.T,by lia,by lia,?_⟩;refine fm h.es rfl (cn ?_);refine⟨s,b,tb,N,t,rs,_,_,rfl,h.es,h.T,by lia,by lia,?_⟩;exact bc (cV b2 b0 (by decide) (by decide)) (bc (cV b3 b3 (by decide) (by decide)) (cp (bc (dw (by decide) (by decide)) (bc (dw (by decide) (by decide)) (bc (cV (kD t3 b1) b1 (by decide) (by decide)) (yX kk))))))
structure qk(st:af)(tb:Nat)(rs:List Nat)(L:Nat->List Int)(N:Nat):Prop where
 et:st[tb]?=some (Cell.lst (rs.map D.ref))
 lr:rs.length=N
 nd:∀(i j c:Nat),rs[i]?=some c->rs[j]?=some c->i=j
 nt:∀(i c:Nat),rs[i]?=some c->c≠tb
 row:∀(i c:Nat),rs[i]?=some c->st[c]?=some (Cell.lst (aj (L i)))
theorem Tb.toF{st:af}{tb N:Nat}{rs:List Nat}{G:Mx.Fn}(T:Tb st tb rs G N):qk st tb rs (Mx.aQ G) N:=⟨T.et,T.lr,T.nd,T.nt,T.row⟩
theorem qk.toT{st:af}{tb N:Nat}{rs:List Nat}{G:Mx.Fn}{L:Nat->List Int}(T:qk st tb rs L N)(h:∀i,i<N->L i=Mx.aQ G i):Tb st tb rs G N:=⟨T.et,T.lr,T.nd,T.nt,λ i c hc=>by
 have:=(Uw.mp hc).1;rw[<-h i (by have:=T.lr;lia)];exact T.row i c hc⟩
theorem qk.line{st:af}{tb N:Nat}{rs:List Nat}{L:Nat->List Int}(h:qk st tb rs L N){i:Nat}(hi:i<N):∃c,rs[i]?=some c/\di (rs.map D.ref) ((i:Nat):Int)=some (.ref c)/\st[c]?=some (Cell.lst (aj (L i))):=by
 have lr:=h.lr;have e:rs[i]?=some rs[i]:=UJ (by lia);exact⟨rs[i],e,dg (by rw[UM,e];rfl),h.row i _ e⟩
theorem qk.lt{st:af}{tb N:Nat}{rs:List Nat}{L:Nat->List Int}(h:qk st tb rs L N):tb<st.length/\∀(i c:Nat),rs[i]?=some c->c<st.length:=⟨(Uw.mp h.et).1,λ i c hc=>(Uw.mp (h.row i c hc)).1⟩
theorem kP{rs:List Nat}{i m c d:Nat}(hi:i<rs.length)(h:(rs.set i d)[m]?=some c):(m=i/\c=d)\/(m≠i/\rs[m]?=some c):=by
 rw[Yp]at h;by_cases z:i=m
 . rw[UA z,UA (by lia)]at h;cases h;exact .inl ⟨z.symm,rfl⟩
 . rw[Uy z]at h;exact .inr ⟨UD z,h⟩
theorem qk.put{st:af}{tb N i:Nat}{rs:List Nat}{L:Nat->List Int}(T:qk st tb rs L N)(hi:i<N)(r:List Int):qk ((st++[Cell.lst (aj r)]).set tb (.lst ((rs.set i st.length).map D.ref))) tb (rs.set i st.length) (λ m=>if m=i then r else L m) N:=by
 have lr:=T.lr;obtain⟨h1,h2⟩:=T.lt;refine⟨UH (by simp;lia),by rw[US];exact lr,λ a b c ha hb=>?_,λ a c ha=>?_,λ a c ha=>?_⟩
 . rcases kP (by lia) ha with⟨a1,a2⟩|⟨a1,a2⟩<;>rcases kP (by lia) hb with⟨b1,b2⟩|⟨b1,b2⟩
   . lia
   . have:=h2 b c b2;lia
   . have:=h2 a c a2;lia
   . exact T.nd a b c a2 b2
 . rcases kP (by lia) ha with⟨a1,a2⟩|⟨a1,a2⟩
   . lia
   . exact T.nt a c a2
 . rcases kP (by lia) ha with⟨a1,a2⟩|⟨a1,a2⟩
   . rw[UA a1,a2,Ux (by lia)];simp
   . have h3:=h2 a c a2;have h4:=T.nt a c a2;rw[Uy a1,Ux (UD h4),UC h3];exact T.row a c a2
def ly:bq:=λ ds st K=>∃(n0 s b xb xu xc tb N w t:Nat) (rs:List Nat) (A U C:List (List Int)),ds=[.ref s,.int ((t+1:Nat):Int)]/\Ss n0 st s b xb xu xc tb rs A U C N/\Mx.aW N w A/\Mx.aW N N U/\Mx.aW N N C/\t+1<N/\N<=8/\Cw A U C N/\
 ∀st' xb' xu' xc' rs',Ss n0 st' s b xb' xu' xc' tb rs' (Mx.bV A (t+1) t) (Mx.bV U (t+1) t) (Mx.bV C (t+1) t) N->(∀m,m<n0->st'[m]?=st[m]?)->K .ay st'
def kY:List Str:=["self","k","share","own","ahead","made","kept","i","line","upper","lower"]
def ya:DS:=(aw (du (e_ aU "exchange" jm (cX aL "bench" (aa 0)) (ab (aa 1) (ab (ah cG (aa 1) (dC (.int 1))) ag))))
 (aw (aJ 2 (ah aT (ah aT (cX aL "table" (aa 0)) (aa 1)) (ah cG (aa 1) (dC (.int 1)))))
 (aw (aJ 3 (e_ aL "last_of" cY (aa 0) (ab (aa 1) ag)))
 (aw (aJ 4 (e_ aL "last_of" cY (aa 0) (ab (ah cG (aa 1) (dC (.int 1))) ag)))
 (aw (aJ 5 (ah gK (ah b_ (ah bh (e_ aL "last_of" cY (aa 0) (ab (ah cG (aa 1) (dC (.int 2))) ag)) (aa 3)) (ah bh (aa 2) (aa 2))) (aa 4)))
 (aw (aJ 6 (kQ (ah aT (cX aL "table" (aa 0)) (aa 1)) jW (lF (ah cG (aa 1) (dC (.int 1))))))
 (aw (dm (cX aL "table" (aa 0)) (aa 1) (ah o_ (kQ (ah aT (cX aL "table" (aa 0)) (ah cG (aa 1) (dC (.int 1)))) jW (lF (ah cG (aa 1) (dC (.int 1))))) (fg (ab (aa 2) (ab (aa 3) ag)))))
 (aw (dm (cX aL "table" (aa 0)) (ah cG (aa 1) (dC (.int 1))) (ah o_ (aa 6) (fg (ab (aa 5) ag))))
 (eX (lI (ab (ah b_ (aa 1) (dC (.int 1))) (ab (a8 dE (ab (cX aL "table" (aa 0)) ag)) ag))) (aS 7) (aw (aJ 8 (ah aT (cX aL "table" (aa 0)) (aa 7)))
 (aw (aJ 9 (ah gK (ah cG (ah bh (aa 3) (ah aT (aa 8) (ah cG (aa 1) (dC (.int 1))))) (ah bh (aa 2) (ah aT (aa 8) (aa 1)))) (aa 4)))
 (aw (aJ 10 (ah gK (ah b_ (ah bh (aa 5) (ah aT (aa 8) (aa 1))) (ah bh (aa 2) (aa 9))) (aa 3)))
 (dm (cX aL "table" (aa 0)) (aa 7) (ah o_ (ah b_ (kQ (aa 8) jW (lF (ah cG (aa 1) (dC (.int 1))))) (fg (ab (aa 10) (ab (aa 9) ag)))) (kQ (aa 8) (lF (ah b_ (aa 1) (dC (.int 1)))) jW)))))))))))))))
theorem uv{G:Mx.Fn}{i t:Nat}(h:t<=i):L3.cutD (aj (Mx.aQ G i)) none (some ((t:Nat):Int))=aj ((List.range t).map λ p=>Mx.lam G i p):=by
 have hl:t<=(Mx.aQ G i).length:=by rw[Mx.cR];lia
 have e:L3.cutD (aj (Mx.aQ G i)) none (some ((t:Nat):Int))=aj ((Mx.aQ G i).take t):=by
  unfold L3.cutD;rw[HT.t5,HT.CM,Uz,XO hl,List.drop_zero,Zc];unfold aj;rw[Yj]
 rw[e];unfold Mx.aQ;rw[<-Yj,List.take_range,XO (by lia)]
theorem HK{G:Mx.Fn}{i t:Nat}(h:t<=i+1):L3.cutD (aj (Mx.aQ G i)) (some ((t:Nat):Int)) none=aj ((List.range (i+1-t)).map λ p=>Mx.lam G i (t+p)):=by
 have hl:t<=(Mx.aQ G i).length:=by rw[Mx.cR];lia
 unfold L3.cutD;rw[HT.t5,HT.CM,Uz,XO hl];refine List.ext_getElem? λ m=>?_;rw[List.getElem?_take];by_cases hm:m<i+1-t
 . rw[UA (by rw[Mx.cR];lia),List.getElem?_drop];unfold Mx.aQ;rw[UM,UM,UM,UM,VD (by lia),VD hm];rfl
 . rw[Uy (by rw[Mx.cR];lia),Wc (by simpa using hm)]
theorem rh{a b c:Int}(hb:b≠0)(h:b*c=a):a.fdiv b=c:=by rw[<-h,V4 _ hb]
theorem zZ(f:Nat->Int)(t:Nat)(x y:Int):aj ((List.range t).map f)++[.int x,.int y]=aj ((List.range t).map f++[x,y]):=by simp[aj]
theorem LQ{G:Mx.Fn}(sym:∀i j,G i j=G j i)(t:Nat):(List.range t).map (λ p=>Mx.lam G t p)++[Mx.lam G (t+1) t,Mx.D (t+2) G]=Mx.aQ (Mx.bI G t) (t+1):=by
 unfold Mx.aQ;rw[Wi,Wi,VR,VR,V9];congr 1
 . refine Vd λ p hp=>?_;rw[Vp]at hp;rw[Mx.jX hp,Mx.DM]
 . show [_,_]=[Mx.lam (Mx.bI G t) (t+1) t,Mx.lam (Mx.bI G t) (t+1) (t+1)]
   rw[Mx.Aw sym,Mx.Qa sym,Mx.cN]
theorem Fy{G:Mx.Fn}(t:Nat):(List.range t).map (λ p=>Mx.lam G (t+1) p)++[Mx.lam (Mx.bI G t) t t]=Mx.aQ (Mx.bI G t) t:=by
 unfold Mx.aQ;rw[Wi,VR];congr 1;refine Vd λ p hp=>?_;rw[Vp]at hp;rw[Mx.jX hp,Mx.zu]
theorem Ih{G:Mx.Fn}{t i:Nat}(hi:t+1<i):(List.range t).map (λ p=>Mx.lam G i p)++[Mx.lam (Mx.bI G t) i t,Mx.lam (Mx.bI G t) i (t+1)]++(List.range (i+1-(t+2))).map (λ p=>Mx.lam G i (t+2+p))=Mx.aQ (Mx.bI G t) i:=by
 unfold Mx.aQ
 have e:List.range (i+1)=List.range t++[t,t+1]++(List.range (i+1-(t+2))).map (λ p=>t+2+p):=by
  have h1:i+1=t+2+(i+1-(t+2)):=by lia
  conv=>lhs;rw[h1]
  rw[List.range_add,Wi,Wi,V9 (List.range t)];rfl
 rw[e,VR,VR,Vl];congr 1
 . congr 1;refine Vd λ p hp=>?_;rw[Vp]at hp;rw[Mx.jX hp,Mx.g7 (by lia) (by lia)]
 . refine Vd λ p hp=>?_;rw[Vp]at hp;show _=Mx.lam (Mx.bI G t) i (t+2+p);rw[Mx.HW (by lia) (by lia)]
theorem abs_dvd{d x y:Int}(hd:0<d)(h:d*x=y):x.natAbs<=y.natAbs:=by
 rw[<-h,Vr];have:1*x.natAbs<=d.natAbs*x.natAbs:=VM _ (by lia);lia
theorem rZ{a:Int}{m n:Nat}(h:a.natAbs<=2^m)(hm:m<=n):a.natAbs<=2^n:=UG h (UL (by decide) hm)
theorem Gs{a b:Int}{m:Nat}(ha:a.natAbs<=2^m)(hb:b.natAbs<=2^m):(a+b).natAbs<=2^(m+1):=by
 have:=Int.natAbs_add_le a b;rw[Xd];lia
theorem PK{a b:Int}{m:Nat}(ha:a.natAbs<=2^m)(hb:b.natAbs<=2^m):(a-b).natAbs<=2^(m+1):=by
 have:=Gs ha (b:= -b) (by rw[XZ];exact hb);rw[<-Int.sub_eq_add_neg]at this;exact this
theorem v_:Ut ly 2 ya kY:=by
 rintro ds st K ⟨n0,s,b,xb,xu,xc,tb,N,w,t,rs,A,U,C,rfl,h,hA,hU,hC,ht,hN,sm,kk⟩;refine⟨rfl,?_⟩;have em:((t+1:Nat):Int)-1=(t:Int):=by lia
 have lo:=h.lo;have hs0:s<st.length:=(Uw.mp h.es).1;have htb:=h.T.toF.lt;have lA:=hA.len;have sym:=Mx.hV A;have hgs:Mx.ae (Mx.bV A (t+1) t)=Mx.bI (Mx.ae A) t:=Mx.kA (by lia);obtain⟨p0,b0⟩:=sm.D t (by lia);obtain⟨p1,b1⟩:=sm.D (t+1) (by lia);obtain⟨p2,b2⟩:=sm.D (t+2) (by lia);have b3:=sm.lam (t+1) t (by lia) ht;refine bX h.es rfl (fm h.B.eb rfl (cn ?_));rw[em];refine⟨b,xb,xu,xc,N,w,t+1,t,A,U,C,rfl,h.B,hA,hU,hC,ht,by lia,λ st1 B1 l1 f1=>?_⟩
 have sb:s≠b:=λ z=>by
  have h1:=h.es;rw[z,h.B.eb]at h1;have h2:=Cell.ins.inj (Vi h1);exact absurd h2.1 (by decide)
 have lb:∀m xs,st[m]?=some (Cell.lst xs)->m≠b:=λ m xs hm z=>by rw[z,h.B.eb]at hm;cases hm
 have es1:st1[s]?=_:=(f1 s hs0 sb).trans h.es;have T1:Tb st1 tb rs (Mx.ae A) N:=h.T.ext (f1 tb htb.1 (lb _ _ h.T.et)) λ i c hc=>f1 c (htb.2 i c hc) (lb _ _ (h.T.row i c hc));obtain⟨ck,ek1,ek2,ek3⟩:=T1.line (i:=t+1) ht;refine bX es1 rfl (aA (aq T1.et) ek2 (cn ?_));rw[em];refine aA (aq ek3) (iA (by lia)) ?_;refine fm es1 rfl ?_;refine⟨s,b,tb,N,t+2,rs,_,_,rfl,es1,T1,by lia,by lia,?_⟩;refine fm es1 rfl (cn ?_);refine⟨s,b,tb,N,t+1,rs,_,_,rfl,es1,T1,by lia,by lia,?_⟩;refine fm es1 rfl (cn ?_);refine⟨s,b,tb,N,t,rs,_,_,rfl,es1,T1,by lia,by lia,?_⟩;refine bc (cV b0 b2 (by decide) (by decide)) (bc (cV b3 b3 (by decide) (by decide)) (cp (gC (by lia) (yR b1 (by lia) (by decide)) ?_)));rw[rh (by lia) (Mx.oo sym (by lia))];refine bX es1 rfl (aA (aq T1.et) ek2 (cn ?_));rw[em];refine kN ek3 ?_;rw[uv (by lia)];obtain⟨cj,ej1,ej2,ej3⟩:=T1.line (i:=t) (by lia);refine bX es1 rfl (cn ?_);rw[em];refine aA (aq T1.et) ej2 (cn ?_);rw[em];refine kN ej3 ?_;rw[uv (by lia)];refine⟨UE rfl,wj (by rw[Vy];simp;lia) ?_⟩;rw[zZ,LQ sym];have F1:=T1.toF;have l1t:=F1.lt;have es1':(st1++[Cell.lst (aj (Mx.aQ (Mx.bI (Mx.ae A) t) (t+1)))])[s]?=_:=(UC (by lia)).trans es1;have et1':(st1++[Cell.lst (aj (Mx.aQ (Mx.bI (Mx.ae A) t) (t+1)))])[tb]?=_:=(UC l1t.1).trans F1.et;refine bX es1' rfl (dO et1' (by rw[Uz,F1.lr];exact fz ht) ?_);have em1:(rs.map D.ref).set (t+1) (.ref st1.length)=(rs.set (t+1) st1.length).map D.ref:=by rw[Xe]
 rw[em1];have F2:=F1.put ht (Mx.aQ (Mx.bI (Mx.ae A) t) (t+1));have g2:∀m,m<st1.length->m≠tb->((st1++[Cell.lst (aj (Mx.aQ (Mx.bI (Mx.ae A) t) (t+1)))]).set tb (.lst ((rs.set (t+1) st1.length).map D.ref)))[m]?=st1[m]?:=λ m hm hmt=>by rw[Ux (UD hmt),UC hm]
 have l2:((st1++[Cell.lst (aj (Mx.aQ (Mx.bI (Mx.ae A) t) (t+1)))]).set tb (.lst ((rs.set (t+1) st1.length).map D.ref))).length=st1.length+1:=by simp
 have stb:s≠tb:=gX h.es h.T.et;generalize((st1++[Cell.lst (aj (Mx.aQ (Mx.bI (Mx.ae A) t) (t+1)))]).set tb (.lst ((rs.set (t+1) st1.length).map D.ref)))=st2 at F2 g2 l2⊢;have es2:st2[s]?=_:=(g2 s (by lia) stb).trans es1;refine⟨UE rfl,wj (by rw[Vy];simp;lia) ?_⟩;rw[ints_app,Fy];have l2t:=F2.lt;have es2':(st2++[Cell.lst (aj (Mx.aQ (Mx.bI (Mx.ae A) t) t))])[s]?=_:=(UC (by lia)).trans es2;have et2':(st2++[Cell.lst (aj (Mx.aQ (Mx.bI (Mx.ae A) t) t))])[tb]?=_:=(UC l2t.1).trans F2.et;refine bX es2' rfl (cn ?_);rw[em];refine dO et2' (by rw[Uz,F2.lr];exact fz (by lia)) ?_;have em2:((rs.set (t+1) st1.length).map D.ref).set t (.ref st2.length)=((rs.set (t+1) st1.length).set t st2.length).map D.ref:=by simp only[Xe]
 rw[em2];have F3:=F2.put (i:=t) (by lia) (Mx.aQ (Mx.bI (Mx.ae A) t) t);have g3:∀m,m<st2.length->m≠tb->((st2++[Cell.lst (aj (Mx.aQ (Mx.bI (Mx.ae A) t) t))]).set tb (.lst (((rs.set (t+1) st1.length).set t st2.length).map D.ref)))[m]?=st2[m]?:=λ m hm hmt=>by rw[Ux (UD hmt),UC hm]
 have l3:((st2++[Cell.lst (aj (Mx.aQ (Mx.bI (Mx.ae A) t) t))]).set tb (.lst (((rs.set (t+1) st1.length).set t st2.length).map D.ref))).length=st2.length+1:=by simp
 have r3:∀(i c:Nat),((rs.set (t+1) st1.length).set t st2.length)[i]?=some c->(n0<=c/\(c<st.length->∃i',rs[i']?=some c))/\(st.length<=c->st1.length<=c):=λ i c hc=>by
  have lr:=T1.lr;rcases kP (by rw[US];lia) hc with⟨_,rfl⟩|⟨_,hc2⟩
  . exact⟨⟨by lia,λ z=>by lia⟩,λ _=>by lia⟩
  . rcases kP (by lia) hc2 with⟨_,rfl⟩|⟨_,hc3⟩
    . exact⟨⟨by lia,λ z=>by lia⟩,λ _=>by lia⟩
    . have:=htb.2 i c hc3;exact⟨⟨h.lr i c hc3,λ _=>⟨i,hc3⟩⟩,λ z=>by lia⟩
 generalize((st2++[Cell.lst (aj (Mx.aQ (Mx.bI (Mx.ae A) t) t))]).set tb (.lst (((rs.set (t+1) st1.length).set t st2.length).map D.ref)))=st3 at F3 g3 l3⊢;generalize((rs.set (t+1) st1.length).set t st2.length)=rs3 at F3 r3⊢;have es3:st3[s]?=_:=(g3 s (by lia) stb).trans es2;have hb1:b<st.length:=(Uw.mp h.B.eb).1;have btb:b≠tb:=gX h.B.eb h.T.et;have fr3:∀m,m<st1.length->m≠tb->st3[m]?=st1[m]?:=λ m hm hmt=>(g3 m (by lia) hmt).trans (g2 m hm hmt);refine cp ?_;refine bX es3 rfl (cP (aq F3.et) ?_);rw[Uz,F3.lr];have e5:((t+1:Nat):Int)+1=((t+2:Nat):Int):=rfl;rw[e5];refine wa ⟨by lia,by lia,by lia,by lia⟩ ?_
 have er:cC ((t+2:Nat):Int) (((N:Nat):Int)-((t+2:Nat):Int)).toNat=(List.range (N-(t+2))).map λ m=>D.int ((t+2+m:Nat):Int):=by
  unfold cC;have:(((N:Nat):Int)-((t+2:Nat):Int)).toNat=N-(t+2):=by lia
  rw[this];refine Vd λ m _=>?_;congr 1
 rw[er];have hb3:∀m,m<n0->st3[m]?=st[m]?:=λ m hm=>by rw[fr3 m (by lia) (by lia),f1 m (by lia) (by lia)]
 refine dR (λ rest σ st'=>∃(q:Nat) (rs':List Nat) (v7 v8 v9 v10:Option D),q<=N-(t+2)/\rest=((List.range (N-(t+2))).map λ m=>D.int ((t+2+m:Nat):Int)).drop q/\σ=[some (.ref s),some (.int ((t+1:Nat):Int)),some (.int (Mx.lam (Mx.ae A) (t+1) t)),some (.int (Mx.D (t+2) (Mx.ae A))),some (.int (Mx.D (t+1) (Mx.ae A))),some (.int (Mx.lam (Mx.bI (Mx.ae A) t) t t)),some (.lst (aj ((List.range t).map λ p=>Mx.lam (Mx.ae A) (t+1) p))),v7,v8,v9,v10]/\st1.length<=st'.length/\(∀m,m<st1.length->m≠tb->st'[m]?=st1[m]?)/\qk st' tb rs' (λ i=>if i<t+2+q then Mx.aQ (Mx.bI (Mx.ae A) t) i else Mx.aQ (Mx.ae A) i) N/\∀(i c:Nat),rs'[i]?=some c->(n0<=c/\(c<st.length->∃i',rs[i']?=some c))/\(st.length<=c->st1.length<=c)) ?_ ?_ _ _ _ ⟨0,rs3,none,none,none,none,VP _,rfl,rfl,by lia,fr3,?_,r3⟩
 . rintro σ st4 ⟨q,rs',v7,v8,v9,v10,hq,hrest,rfl,l4,f4,F4,r4⟩;refine⟨trivial,?_⟩
   have hqN:q=N-(t+2):=by
    have:=Vk List.length hrest;simp at this;lia
   have T4:Tb st4 tb rs' (Mx.ae (Mx.bV A (t+1) t)) N:=F4.toT λ i hi=>by rw[UA (by lia),hgs]
   have nb:=B1.n1;refine kk st4 st.length (st.length+1) (st.length+2) rs' ⟨?_,⟨?_,?_,?_,?_,B1.n1,B1.n2,B1.n3⟩,T4,⟨by lia,by lia,by lia⟩,λ i c hc=>?_,⟨by lia,by lia,by lia,by lia,by lia,by lia⟩,λ i c hc=>(r4 i c hc).1.1⟩ λ m hm=>?_
   . rw[f4 s (by lia) stb];exact es1
   . rw[f4 b (by lia) btb];exact B1.eb
   . rw[f4 _ (by lia) (by lia)];exact B1.e1
   . rw[f4 _ (by lia) (by lia)];exact B1.e2
   . rw[f4 _ (by lia) (by lia)];exact B1.e3
   . obtain⟨⟨_,h2⟩,h3⟩:=r4 i c hc;by_cases hcs:c<st.length
     . exact⟨by lia,by lia,by lia⟩
     . have:=h3 (by lia);exact⟨by lia,by lia,by lia⟩
   . rw[f4 m (by lia) (by lia),f1 m (by lia) (by lia)]
 . rintro x rest σ st4 ⟨q,rs',v7,v8,v9,v10,hq,hrest,rfl,l4,f4,F4,r4⟩ next
   have hqN:q<N-(t+2):=by
    have:=Vk List.length hrest;simp at this;lia
   rw[U9 (by simpa using hqN),VL,Vs,Vw]at hrest;obtain⟨rfl,rfl⟩:=hrest;refine⟨trivial,_,rfl,?_⟩;have hi:t+2+q<N:=by lia
   obtain⟨ci,ei1,ei2,ei3⟩:=F4.line hi;rw[Uy (Vt _)]at ei3;have es4:st4[s]?=_:=(f4 s (by omega) stb).trans es1;have c1:=sm.lam (t+2+q) t (by omega) hi;have c2:=sm.lam (t+2+q) (t+1) (by omega) hi;have up:=Mx.K7 sym (t:=t) (by omega) (by omega) (i:=t+2+q) (by omega);have lw:=Mx.Nk sym (t:=t) (by omega) (by omega) (i:=t+2+q) (by omega);have md:=Mx.oo sym (t:=t) (by omega);have bm:(Mx.lam (Mx.bI (Mx.ae A) t) t t).natAbs<=2^90000:=rZ (m:=80000+1) (UG (abs_dvd p1 md) (Gs (m:=80000) (rZ (n:=80000) (kD b0 b2) (by decide)) (rZ (n:=80000) (kD b3 b3) (by decide)))) (by decide);have bu:(Mx.lam (Mx.bI (Mx.ae A) t) (t+2+q) (t+1)).natAbs<=2^90000:=rZ (m:=80000+1) (UG (abs_dvd p1 up) (PK (m:=80000) (rZ (n:=80000) (kD b2 c1) (by decide)) (rZ (n:=80000) (kD b3 c2) (by decide)))) (by decide);refine bX es4 rfl (aA (aq F4.et) ei2 ?_);refine cn ?_;rw[em];refine aA (aq ei3) (iA (by omega)) (bc (cV b2 c1 (by decide) (by decide)) (aA (aq ei3) (iA (by omega)) (bc (cV b3 c2 (by decide) (by decide)) (cn (gC (by omega) (yR b1 (by omega) (by decide)) ?_)))));rw[rh (by omega) up];refine aA (aq ei3) (iA (by omega)) (bc (cV bm c2 (by decide) (by decide)) (bc (cV b3 bu (by decide) (by decide)) (cp (gC (by omega) (yR b2 (by omega) (by decide)) ?_))));rw[rh (by omega) lw];refine cn ?_;rw[em];refine kN ei3 ?_;rw[uv (by omega)];refine⟨UE rfl,Ce (by rw[Vy];simp;omega) ?_⟩;rw[zZ];refine cp ?_;rw[e5];refine kN ei3 ?_;rw[HK (by omega)];refine wj (by rw[Vy];simp;omega) ?_
   have ea:aj ((List.range t).map (λ p=>Mx.lam (Mx.ae A) (t+2+q) p)++[Mx.lam (Mx.bI (Mx.ae A) t) (t+2+q) t,Mx.lam (Mx.bI (Mx.ae A) t) (t+2+q) (t+1)])++aj ((List.range (t+2+q+1-(t+2))).map λ p=>Mx.lam (Mx.ae A) (t+2+q) (t+2+p))=aj (Mx.aQ (Mx.bI (Mx.ae A) t) (t+2+q)):=by
    rw[<-Ih (by lia)];simp[aj]
   rw[ea];have l4t:=F4.lt;have es4':(st4++[Cell.lst (aj (Mx.aQ (Mx.bI (Mx.ae A) t) (t+2+q)))])[s]?=_:=(UC (by lia)).trans es4;have et4':(st4++[Cell.lst (aj (Mx.aQ (Mx.bI (Mx.ae A) t) (t+2+q)))])[tb]?=_:=(UC l4t.1).trans F4.et;refine bX es4' rfl (dO et4' (by rw[Uz,F4.lr];exact fz hi) ?_);have em4:(rs'.map D.ref).set (t+2+q) (.ref st4.length)=(rs'.set (t+2+q) st4.length).map D.ref:=by rw[Xe]
   rw[em4];have F5:=F4.put hi (Mx.aQ (Mx.bI (Mx.ae A) t) (t+2+q));refine next _ _ ⟨q+1,rs'.set (t+2+q) st4.length,_,_,_,_,hqN,rfl,rfl,by simp;lia,λ m hm hmt=>?_,⟨F5.et,F5.lr,F5.nd,F5.nt,λ i c hc=>?_⟩,λ i c hc=>?_⟩
   . rw[Ux (UD hmt),UC (by lia)];exact f4 m hm hmt
   . rw[F5.row i c hc];congr 3;by_cases h1:i=t+2+q
     . rw[UA h1,UA (by lia),h1]
     . rw[Uy h1];by_cases h2:i<t+2+q
       . rw[UA h2,UA (by lia)]
       . rw[Uy h2,Uy (by lia)]
   . have lr:=F4.lr;rcases kP (by lia) hc with⟨_,rfl⟩|⟨_,hc2⟩
     . exact⟨⟨by lia,λ z=>by lia⟩,λ _=>by lia⟩
     . exact r4 i c hc2
 . refine⟨F3.et,F3.lr,F3.nd,F3.nt,λ i c hc=>?_⟩;have hi:i<N:=by have:=(Uw.mp hc).1;have:=F3.lr;lia
   rw[F3.row i c hc];congr 3;by_cases h1:i=t
   . rw[UA h1,UA (by lia),h1]
   . rw[Uy h1];by_cases h2:i=t+1
     . rw[UA h2,UA (by lia),h2]
     . rw[Uy h2];by_cases h3:i<t
       . rw[UA (by lia)];exact CZ λ p hp=>by rw[Mx.jX (by lia),Mx.g7 (by lia) (by lia)]
       . rw[Uy (by lia)]
theorem yT{A0 A U C:List (List Int)}{N w:Nat}{m:Nat->Nat}(L:Mx.Lg A0 A U C N w m)(h0:Mx.aW N w A0)(hN:N<=8)(hD0:Mx.D N (Mx.ae A0)≠0)(g0:∀i,i<N->Mx.ae A0 i i<=2^37000)(hm:∀i,i<N->m i<=37000):Cw A U C N where
 lam:=λ i p hp hi=>L.Qk hi (by lia) (hm i hi)
 D:=λ p hp=>⟨(L.D p hp).1,by
  have h:=L.D p hp;have h2:(((2:Nat)^744:Nat):Int)=(2:Int)^744:=VN 2 744;have h3:(((Mx.D p (Mx.ae A)).natAbs:Nat):Int)=Mx.D p (Mx.ae A):=XI (by lia);exact XM.mp (by rw[h3,h2];exact h.2)⟩
 eA:=L.ent hm
 eU:=(L.turn h0 hN hD0 g0 hm).1
 eC:=(L.turn h0 hN hD0 g0 hm).2
def je:bq:=λ ds st K=>∃(n0 s b xb xu xc tb N w:Nat) (rs:List Nat) (A0 A U C:List (List Int)),ds=[.ref s]/\Ss n0 st s b xb xu xc tb rs A U C N/\Mx.aW N w A0/\N<=8/\w<=9/\Mx.D N (Mx.ae A0)≠0/\(∀i,i<N->Mx.ae A0 i i<=2^37000)/\Mx.Lk A0 A U C N w 1/\
 ∀st' xb' xu' xc' rs' A' U' C',Ss n0 st' s b xb' xu' xc' tb rs' A' U' C' N->Mx.Tn A0 A' U' C' N w->Cw A' U' C' N->Mx.Sh (Mx.ae A') N->(∀m,m<n0->st'[m]?=st[m]?)->K .ay st'
def jb:List Str:=["self","k","j"]
def tL:DS:=(aw (aJ 1 (dC (.int 1)))
 (uU (aH (ah mm (aa 1) (a8 dE (ab (cX aL "table" (aa 0)) ag)))) (aw (du (e_ aL "lessen" gI (aa 0) (ab (aa 1) (ab (ah cG (aa 1) (dC (.int 1))) ag))))
 (bR (aH (e_ aL "is_steep" iF (aa 0) (ab (aa 1) ag))) (aw (du (e_ aL "swap" ly (aa 0) (ab (aa 1) ag)))
 (aJ 1 (a8 wk (ab (dC (.int 1)) (ab (ah cG (aa 1) (dC (.int 1))) ag))))) (aw (eX (wx (ab (ah cG (aa 1) (dC (.int 2))) (ab (jx fH (dC (.int 1))) (ab (jx fH (dC (.int 1))) ag)))) (aS 2) (du (e_ aL "lessen" gI (aa 0) (ab (aa 1) (ab (aa 2) ag)))))
 (DJ 1 (Ad (λ i j=>i+j)) (dC (.int 1))))))))
theorem mk_le{N k i:Nat}(hN:N<=8):Mx.mk N k i<=37000:=by unfold Mx.mk;split<;>lia
theorem vF(A:List (List Int)){k j:Nat}(h:0<Mx.D (j+1) (Mx.ae A)):2*(((Mx.lam (Mx.ae A) k j-nq A k j*Mx.D (j+1) (Mx.ae A)).natAbs:Nat):Int)<=Mx.D (j+1) (Mx.ae A):=(Mx.AA h).1
theorem Q9{A0 A U C:List (List Int)}{N w k:Nat}(h:Mx.Lk A0 A U C N w k)(hk:N<=k):Mx.Sh (Mx.ae A) N where
 half:=λ i j hj hi=>h.red i (by lia) hi j hj
 D0:=λ i h0 hi z=>by
  obtain⟨t,rfl⟩:∃t,i=t+1:=⟨i-1,by lia⟩
  refine h.flat t (by lia) hi ?_;unfold Mx.iu;rw[Nat.add_sub_cancel]at z;have e:4*Mx.D (t+1+1) (Mx.ae A)*Mx.D t (Mx.ae A)=4*(Mx.D (t+2) (Mx.ae A)*Mx.D t (Mx.ae A)):=by grind
  have e2:4*Mx.lam (Mx.ae A) (t+1) t*Mx.lam (Mx.ae A) (t+1) t=4*(Mx.lam (Mx.ae A) (t+1) t*Mx.lam (Mx.ae A) (t+1) t):=by grind
  rw[e,e2]at z;lia
theorem Pb{a b:Prop}(h:b):if false=true then a else b:=h
theorem LX{A0 A U C:List (List Int)}{N w t:Nat}{m:Nat->Nat}(L:Mx.Lg A0 A U C N w m)(hm:∀i,i<N->m i<=if i=t+1 then 748+2240*(N-t)else 748)(ht:t+1<N)(hst:Mx.iu A t)(red:∀i,i<t+1->∀j,j<i->2*(((Mx.lam (Mx.ae A) i j).natAbs:Nat):Int)<=Mx.D (j+1) (Mx.ae A))(flat:∀u,u+1<t+1->¬Mx.iu A u):Mx.Lk A0 (Mx.bV A (t+1) t) (Mx.bV U (t+1) t) (Mx.bV C (t+1) t) N w (max 1 t):=by
 have sm:=Mx.vf L ht hst;have L3:=L.swap ht ⟨sm.1,Vc (Wh sm.2) (L.D (t+1) (by lia)).2⟩;have hgs:Mx.ae (Mx.bV A (t+1) t)=Mx.bI (Mx.ae A) t:=Mx.kA (by have:=L.T.isA.len;lia);refine⟨⟨L3.T,L3.D,λ i hi=>?_⟩,λ i hik hi j hj=>?_,λ u hu hu2=>?_⟩
 . by_cases h0:t=0/\i=0
   . have h1:=(L3.D 1 (by lia)).2
     have e:Mx.D 1 (Mx.ae (Mx.bV A (t+1) t))=Mx.ae (Mx.bV A (t+1) t) 0 0:=by
      have h2:=Mx.cN (Mx.ae (Mx.bV A (t+1) t)) 0;unfold Mx.lam at h2;rw[Mx.iy]at h2;exact h2.symm
     rw[h0.2,<-e];exact Vc h1 (Mx.p2 (by unfold Mx.mk;split<;>lia))
   . refine Vc (L3.len i hi) (Mx.p2 ?_);have h1:=hm (Mx.sw t (t+1) i) (Mx.qS ht hi);by_cases e1:i=t
     . rw[e1,Mx.zu,UA rfl]at h1;rw[e1,Mx.zu];unfold Mx.mk;rw[UA (by lia),show max 1 t=t by lia];exact h1
     . have h2:Mx.sw t (t+1) i≠t+1:=by
        intro z;by_cases e2:i=t+1
        . rw[e2,Mx.DM]at z;lia
        . rw[Mx.g7 e1 e2]at z;exact e2 z
       rw[Uy h2]at h1;unfold Mx.mk;split<;>lia
 . rw[hgs,Mx.lE (by lia),Mx.jX (by lia),Mx.g7 (by lia) (by lia)];exact red i (by lia) j hj
 . intro z;refine flat u (by lia) ?_;unfold Mx.iu at z⊢;rw[hgs,Mx.lE (by lia),Mx.lE (by lia),Mx.lE (by lia),Mx.jX (by lia),Mx.g7 (by lia) (by lia)]at z;exact z
theorem sr:Ut je 1 tL jb:=by
 rintro ds st K ⟨n0,s,b,xb,xu,xc,tb,N,w,rs,A0,A,U,C,rfl,h,h0,hN,hw,hD0,g0,hL,kk⟩;refine⟨rfl,?_⟩;refine⟨λ m σ st'=>∃(k xb xu xc:Nat) (rs:List Nat) (A U C:List (List Int)) (v2:Option D),σ=[some (.ref s),some (.int ((k:Nat):Int)),v2]/\1<=k/\Ss n0 st' s b xb xu xc tb rs A U C N/\Mx.Lk A0 A U C N w k/\(∀m,m<n0->st'[m]?=st[m]?)/\m=(Mx.p_ A N).toNat*(N+2)+(N+1-k),⟨_,1,xb,xu,xc,rs,A,U,C,none,rfl,UB _,h,hL,λ _ _=>rfl,rfl⟩,?_⟩;rintro m σ st1 ⟨k,xb,xu,xc,rs,A,U,C,v2,rfl,hk1,h,hL,fr,rfl⟩;refine bX h.es rfl (cP (aq h.T.et) ?_);rw[Uz,h.T.lr];refine C6 (λ hlt=>cT ?_) λ hge=>?_;rotate_left
 . exact kk st1 xb xu xc rs A U C h hL.L.T (yT hL.L h0 hN hD0 g0 λ i _=>mk_le hN) (Q9 hL (by lia)) fr
 obtain⟨t,rfl⟩:∃t,k=t+1:=⟨k-1,by lia⟩
 have ht:t+1<N:=by lia
 have em:((t+1:Nat):Int)-1=(t:Int):=by lia
 have sm:=yT hL.L h0 hN hD0 g0 λ i _=>mk_le hN;have T:=hL.L.T;refine fm h.es rfl (cn ?_);rw[em];refine⟨n0,s,b,xb,xu,xc,tb,N,w,t+1,t,rs,A,U,C,rfl,h,T.isA,T.dv,T.eZ,by lia,ht,hN,hw,sm,λ st2 h2 f2=>?_⟩;have L2:=hL.L.take (k:=t+1) (j:=t) (q:=nq A (t+1) t) (by lia) ht (Mx.NS hL.L ht (by lia)) (by unfold Mx.mk;rw[Uy (by lia)];lia)
 have r2:2*(((Mx.lam (Mx.ae (Mx.aZ A (t+1) (nq A (t+1) t) t)) (t+1) t).natAbs:Nat):Int)<=Mx.D (t+1) (Mx.ae A):=by
  rw[Mx.AN T.isA (by lia) ht];exact vF A (hL.L.D (t+1) (by lia)).1
 have low2:∀i p,i<t+1->p<=i->Mx.lam (Mx.ae (Mx.aZ A (t+1) (nq A (t+1) t) t)) i p=Mx.lam (Mx.ae A) i p:=λ i p hi hp=>Mx.AQ T.isA (by lia) ht (by lia) (by lia) hp;have D2:∀p,p<=N->Mx.D p (Mx.ae (Mx.aZ A (t+1) (nq A (t+1) t) t))=Mx.D p (Mx.ae A):=λ p hp=>Mx.uQ T.isA (by lia) ht hp;have ph2:Mx.p_ (Mx.aZ A (t+1) (nq A (t+1) t) t) N=Mx.p_ A N:=Mx.AG T.isA (by lia) ht;generalize hA2:Mx.aZ A (t+1) (nq A (t+1) t) t=A2 at*;generalize Mx.aZ U (t+1) (nq A (t+1) t) t=U2 at*;generalize Mx.aZ C t (-nq A (t+1) t) (t+1)=C2 at*
 have hm2:∀i,i<N->(if i=t+1 then Mx.mk N (t+1) (t+1)+2240 else Mx.mk N (t+1) i)<=37000:=λ i hi=>by
  by_cases hi2:i=t+1
  . rw[UA hi2];unfold Mx.mk;rw[UA rfl];lia
  . rw[Uy hi2];exact mk_le hN
 have sm2:=yT L2 h0 hN hD0 g0 hm2;refine fm h2.es rfl ?_;refine⟨n0,s,b,xb,xu,xc,tb,N,t,rs,A2,U2,C2,rfl,h2,ht,sm2,?_⟩;have fr2:∀m,m<n0->st2[m]?=st[m]?:=λ m hm=>(f2 m hm).trans (fr m hm);by_cases hst:Mx.iu A2 t
 . have hst':=hst;unfold Mx.iu at hst';rw[VA hst'];refine cT ?_;refine fm h2.es rfl ?_;refine⟨n0,s,b,xb,xu,xc,tb,N,w,t,rs,A2,U2,C2,rfl,h2,L2.T.isA,L2.T.dv,L2.T.eZ,ht,hN,sm2,λ st3 xb3 xu3 xc3 rs3 h3 f3=>?_⟩;refine cn ?_;rw[em];refine F8 ?_;have ek:(if((t:Nat):Int)>1 then((t:Nat):Int)else 1)=((max 1 t:Nat):Int):=by split<;>lia
   rw[ek]
   have L3:=LX L2 (λ i hi=>by
    by_cases hi2:i=t+1
    . rw[UA hi2,UA hi2];unfold Mx.mk;rw[UA rfl];lia
    . rw[Uy hi2,Uy hi2];unfold Mx.mk;rw[Uy hi2];lia) ht hst (λ i hi j hj=>by rw[low2 i j hi (by lia),D2 (j+1) (by lia)];exact hL.red i hi (by lia) j hj) (λ u hu z=>hL.flat u hu (by lia) (by
    unfold Mx.iu at z⊢;rw[low2 (u+1) u hu (by lia),D2 _ (by lia),D2 _ (by lia),D2 _ (by lia)]at z;exact z))
   have hph:=Mx.HE L2 ht hst;have hp3:=Mx.MK L3.L;rw[ph2]at hph;refine⟨_,?_,max 1 t,xb3,xu3,xc3,rs3,_,_,_,_,rfl,by lia,h3,L3,λ m hm=>(f3 m hm).trans (fr2 m hm),rfl⟩;have h9:((Mx.p_ (Mx.bV A2 (t+1) t) N).toNat+1)*(N+2)<=(Mx.p_ A N).toNat*(N+2):=VM _ (by lia);rw[Nat.add_mul,YT]at h9;lia
 . have hst':=hst;unfold Mx.iu at hst';rw[UX hst'];refine Pb ?_;refine cn (eK (eK ?_));have e2:((t+1:Nat):Int)-2=(t:Int)-1:=by lia
   rw[e2];refine LF ⟨by lia,by lia,by lia,by lia⟩ ?_;have e3:((t:Int)-1- -1).toNat=t:=by lia
   rw[e3];refine dR (λ rest σ st'=>∃(q:Nat) (A' U' C':List (List Int)) (v2:Option D),q<=t/\rest=(i6 ((t:Int)-1) t).drop q/\σ=[some (.ref s),some (.int ((t+1:Nat):Int)),v2]/\Ss n0 st' s b xb xu xc tb rs A' U' C' N/\Mx.Lg A0 A' U' C' N w (λ i=>if i=t+1 then 748+2240*(N-(t+1))+2240*(q+1)else 748)/\(∀i p,i<t+1->p<=i->Mx.lam (Mx.ae A') i p=Mx.lam (Mx.ae A2) i p)/\(∀p,p<=N->Mx.D p (Mx.ae A')=Mx.D p (Mx.ae A2))/\(∀p,t<=p+q->p<=t->2*(((Mx.lam (Mx.ae A') (t+1) p).natAbs:Nat):Int)<=Mx.D (p+1) (Mx.ae A2))/\Mx.lam (Mx.ae A') (t+1) t=Mx.lam (Mx.ae A2) (t+1) t/\Mx.p_ A' N=Mx.p_ A2 N/\∀m,m<n0->st'[m]?=st[m]?) ?_ ?_ _ _ _ ⟨0,A2,U2,C2,v2,VP _,rfl,rfl,h2,L2.mono λ i hi=>?_,λ _ _ _ _=>rfl,λ _ _=>rfl,λ p hp hp2=>?_,rfl,rfl,fr2⟩
   . rintro σ st3 ⟨q,A',U',C',v3,hq,hrest,rfl,h3,L3,low3,D3,red3,same3,ph3,fr3⟩;refine⟨trivial,?_⟩
     have hqt:q=t:=by
      have:=Vk List.length hrest;simp[m4]at this;lia
     subst hqt;have redk:∀j,j<q+1->2*(((Mx.lam (Mx.ae A') (q+1) j).natAbs:Nat):Int)<=Mx.D (j+1) (Mx.ae A'):=λ j hj=>by rw[D3 (j+1) (by lia)];exact red3 j (by lia) (by lia)
     have L4:Mx.Lk A0 A' U' C' N w (q+2):=by
      refine⟨⟨L3.T,L3.D,λ i hi=>?_⟩,λ i hi hiN j hj=>?_,λ u hu huN=>?_⟩
      . by_cases hi2:i=q+1
        . subst hi2;have h5:=Mx.M6 L3.T.isA L3.ne (λ k hk=>(L3.D k hk).2) hi redk;have h16:(2:Int)^4=16:=by decide
          have h6:((q+1+1:Nat):Int)*2^744<=2^4*2^744:=Vf (by omega) (Wh (Mx.nz _));rw[<-WU]at h6;exact Vc h5 (Vc h6 (Mx.p2 (by unfold Mx.mk;split<;>omega)))
        . have h5:=L3.len i hi;rw[Uy hi2]at h5;exact Vc h5 (Mx.p2 (by unfold Mx.mk;split<;>lia))
      . by_cases hi2:i=q+1
        . subst hi2;exact redk j hj
        . rw[low3 i j (by lia) (by lia),D3 (j+1) (by lia),low2 i j (by lia) (by lia),D2 (j+1) (by lia)];exact hL.red i (by lia) hiN j hj
      . intro z;unfold Mx.iu at z;by_cases hu2:u=q
        . subst hu2;rw[same3,D3 _ (by lia),D3 _ (by lia),D3 _ (by lia)]at z;exact hst z
        . rw[low3 (u+1) u (by lia) (by lia),D3 _ (by lia),D3 _ (by lia),D3 _ (by lia),low2 (u+1) u (by lia) (by lia),D2 _ (by lia),D2 _ (by lia),D2 _ (by lia)]at z;exact hL.flat u (by lia) (by lia) z
     refine⟨_,?_,q+2,xb,xu,xc,rs,A',U',C',_,rfl,by lia,h3,L4,fr3,rfl⟩;rw[ph3,ph2];lia
   . rintro x rest σ st3 ⟨q,A',U',C',v3,hq,hrest,rfl,h3,L3,low3,D3,red3,same3,ph3,fr3⟩ next
     have hqt:q<t:=by
      have:=Vk List.length hrest;simp[m4]at this;lia
     have ex:(t:Int)-1+((q:Nat):Int)* -1=((t-1-q:Nat):Int):=by lia
     have hx:(i6 ((t:Int)-1) t).drop q=D.int ((t-1-q:Nat):Int)::(i6 ((t:Int)-1) t).drop (q+1):=by
      have hl:q<(i6 ((t:Int)-1) t).length:=by rw[m4];exact hqt
      have eg:(i6 ((t:Int)-1) t)[q]=D.int ((t-1-q:Nat):Int):=by
       have e:=UJ hl;rw[rn,UA hqt,ex]at e;exact(Vi e).symm
      rw[U9 hl,eg]
     rw[hx,VL]at hrest;obtain⟨rfl,rfl⟩:=hrest;refine⟨trivial,_,rfl,?_⟩;have hm3:∀i,i<N->(if i=t+1 then 748+2240*(N-(t+1))+2240*(q+1)else 748)<=37000:=λ i hi=>by split<;>lia
     have sm3:=yT L3 h0 hN hD0 g0 hm3;have T3:=L3.T;obtain⟨j,hj⟩:∃j,j=t-1-q:=⟨_,rfl⟩
     rw[<-hj];refine fm h3.es rfl ?_;refine⟨n0,s,b,xb,xu,xc,tb,N,w,t+1,j,rs,A',U',C',rfl,h3,T3.isA,T3.dv,T3.eZ,by lia,ht,hN,hw,sm3,λ st4 h4 f4=>?_⟩;have L4:=L3.take (k:=t+1) (j:=j) (q:=nq A' (t+1) j) (by lia) ht (Mx.NS L3 ht (by lia)) (by rw[Uy (by lia)];lia);refine next _ _ ⟨q+1,_,_,_,_,hqt,rfl,rfl,h4,L4.mono λ i hi=>?_,λ i p hi hp=>?_,λ p hp=>?_,λ p hp hp2=>?_,?_,?_,λ m hm=>(f4 m hm).trans (fr3 m hm)⟩
     . by_cases hi2:i=t+1
       . rw[UA hi2,UA hi2,UA rfl];lia
       . rw[Uy hi2,Uy hi2,Uy hi2];lia
     . rw[Mx.AQ T3.isA (by lia) ht (by lia) (by lia) hp];exact low3 i p hi hp
     . rw[Mx.uQ T3.isA (by lia) ht hp];exact D3 p hp
     . by_cases hpj:p=j
       . subst hpj;rw[Mx.AN T3.isA (by lia) ht,<-D3 (p+1) (by lia)];exact vF A' (L3.D (p+1) (by lia)).1
       . rw[Mx.CW T3.isA (by lia) ht (by lia) (by lia)];exact red3 p (by lia) hp2
     . rw[Mx.CW T3.isA (by lia) ht (by lia) (by lia)];exact same3
     . rw[Mx.AG T3.isA (by lia) ht];exact ph3
   . by_cases hi2:i=t+1
     . rw[UA hi2,UA hi2];unfold Mx.mk;rw[UA rfl];lia
     . rw[Uy hi2,Uy hi2];unfold Mx.mk;rw[Uy hi2];lia
   . have:p=t:=by lia
     subst this;rw[D2 (p+1) (by lia)];exact r2
def wN:bq:=λ ds st K=>∃(dA:D) (A:List (List Int)) (N w:Nat),ds=[dA]/\cL st dA A/\St A N w/\(∀k,k<=N->(Mx.D k (Mx.ae A)).natAbs<=2^744)/\(∀i,i<N->Mx.ae A i i<=2^748)/\w<=9/\(∀k,k<=N->Mx.D k (Mx.ae A)≠0)/\∀st' A' U' C',Ext st st'->Mx.Tn A A' U' C' N w->Cw A' U' C' N->Mx.Sh (Mx.ae A') N->K (.tup [cq A',cq U',cq (Mx.jB C' N)]) st'
def Di:List Str:=["steps","stairs","bench"]
def LW:DS:=(aw (aJ 1 (yL aL iH (ab (aa 0) ag)))
 (aw (du (e_ aL "shorten" je (aa 1) ag))
 (aw (aJ 2 (cX aL "bench" (aa 1)))
 (aP (iK (ab (av kE (ab (cX aU "body" (aa 2)) ag)) (ab (av kE (ab (cX aU "turn" (aa 2)) ag)) (ab (av ll (ab (cX aU "back_columns" (aa 2)) (ab (a8 dE (ab (aa 0) ag)) ag))) ag))))))))
theorem Jo:Ut wN 1 LW Di:=by
 rintro ds st K ⟨dA,A,N,w,rfl,hA,hS,hd7,hgb,hw,hD,kk⟩;refine⟨rfl,?_⟩;have gm:=hS.gm;have hN:=gm.le;have hl:=hS.is.len;have X0:Ext st (st++[.ins aL []]):=Ext.push;refine⟨st.length,N,w,dA,A,rfl,by simp,X0.si hA,hS,hD,λ st1 b xb xu xc tb rs h1 f1=>⟨rfl,?_⟩⟩
 have hDb:∀k,k<=N->Mx.D k (Mx.ae A)<=2^744:=λ k hk=>by
  have h2:=hd7 k hk;have h3:(((2:Nat)^744:Nat):Int)=(2:Int)^744:=VN 2 744;have h4:Mx.D k (Mx.ae A)<=(((Mx.D k (Mx.ae A)).natAbs:Nat):Int):=by lia
  exact Vc h4 (by rw[<-h3];exact XM.mpr h2)
 have hL:=Mx.Lk.start hS.is hD hDb hgb;refine fm h1.es rfl ?_;refine⟨st.length,st.length,b,xb,xu,xc,tb,N,w,rs,A,A,_,_,rfl,h1,hS.is,hN,hw,hD N (UB _),λ i hi=>Vc (hgb i hi) (Mx.p2 (by decide)),hL,λ st2 xb2 xu2 xc2 rs2 A2 U2 C2 h2 T2 hD2 hsh f2=>?_⟩;have hs2:=(Uw.mp h2.es).1;have X2:Ext st st2:=⟨by lia,λ m hm=>by rw[f2 m hm,f1 m hm,X0.same m hm]⟩
 refine bX h2.es rfl ?_;have lA:=T2.isA.len;have lU:=T2.dv.len;have lC:=T2.eZ.len;refine bX h2.B.eb rfl ?_;refine⟨.ref xb2,A2,rfl,⟨_,aq h2.B.e1,bj.lst⟩,by lia,?_⟩;refine bX h2.B.eb rfl ?_;refine⟨.ref xu2,U2,rfl,⟨_,aq h2.B.e2,bj.lst⟩,by lia,?_⟩;refine bX h2.B.eb rfl ?_;obtain⟨da,hda,ra⟩:=(X2.si hA).ex;refine cP hda ?_;rw[ra.len,hl];refine⟨.ref xc2,C2,N,rfl,⟨_,aq h2.B.e3,bj.lst⟩,T2.eZ.eR,by lia,by lia,?_⟩;exact⟨UE rfl,kk st2 A2 U2 C2 X2 T2 hD2 hsh⟩
structure rk(st:af)(d:D):Prop where
 any:Any st d
 ao:∀xs,items? st d=some xs->∀x∈xs,iQ st x/\nM st x
theorem uj{xs:List D}(h:xs.length=3):∃f t b,xs=[f,t,b]:=by
 match xs,h with
 | [f,t,b],_=>exact⟨f,t,b,rfl⟩
def Due(st:af)(A:List (List Int))(N w:Nat)(x:D):Prop:=∃f t b,items? st x=some [f,t,b]/\tk st A N w f t b=true/\Mx.Sh (Mx.ae (rowsOf st f)) N
def lh:bq:=λ ds st K=>∃(d x:D) (A:List (List Int)) (N w:Nat),ds=[d,x]/\cL st d A/\Mx.aW N w A/\1<=N/\N<=8/\w<=8/\(∀r∈A,∀c∈r,c.natAbs<=2^48)/\Mx.D N (Mx.ae A)≠0/\rk st x/\(∀f t b,items? st x=some [f,t,b]->tk st A N w f t b=true->St (rowsOf st f) N w)/\(Due st A N w x->∀st',Ext st st'->K (.bl true) st')/\(¬Due st A N w x->∀st',Ext st st'->K (.bl false) st')
def qg:List Str:=["steps","told"]
def yp:DS:=(aw (bR (fT (cQ (aH (av h_ (ab (aa 1) (ab (dC (.int 3)) ag))))) (cQ (aH (av lY (ab (aa 0) (ab (ah aT (aa 1) (dC (.int 0))) (ab (ah aT (aa 1) (dC (.int 1))) (ab (ah aT (aa 1) (dC (.int 2))) ag)))))))) (aP (dC (.bl false))) bW)
 (aP (av pf (ab (ah aT (aa 1) (dC (.int 0))) ag))))
theorem S0{C:List (List Int)}{N k j:Nat}(hC:Mx.aW N N C)(hk:k<N)(hj:j<N):Mx.g (Mx.jB C N) k j=Mx.g C j k:=by
 have lC:=hC.len;unfold Mx.g Mx.jB Mx.jV;rw[Mx.aR (l:=(List.range N).map _) (by simpa using hk),Vs,Vw,Mx.aR (by rw[Uz];lia),Vs,Mx.aR (l:=C) (by lia)]
theorem KJ{C:List (List Int)}{N:Nat}(hC:Mx.aW N N C):Mx.aW N N (Mx.jB C N):=by
 refine⟨by unfold Mx.jB;simp,λ r hr=>?_⟩;unfold Mx.jB at hr;obtain⟨i,_,rfl⟩:=U6.mp hr;unfold Mx.jV;rw[Uz];exact hC.len
theorem Hr{C:List (List Int)}{N b:Nat}(hC:Mx.aW N N C)(h:∀r∈C,∀x∈r,x.natAbs<=b):∀r∈Mx.jB C N,∀x∈r,x.natAbs<=b:=λ r hr x hx=>by
 unfold Mx.jB at hr;obtain⟨i,hi,rfl⟩:=U6.mp hr;rw[Vp]at hi;unfold Mx.jV at hx;obtain⟨s,hs,rfl⟩:=U6.mp hx;exact h s hs _ (getD_mem (by rw[hC.eR s hs];exact hi))
theorem Pe{st:af}{A:List (List Int)}{N w:Nat}{f t b:D}(hA:Mx.aW N w A)(h:tk st A N w f t b=true)(hD:Mx.D N (Mx.ae A)≠0):cL st f (rowsOf st f)/\Mx.aW N w (rowsOf st f)/\∀k,k<=N->Mx.D k (Mx.ae (rowsOf st f))≠0:=by
 unfold tk qY xn at h;simp only[UR,VW]at h;obtain⟨h1,⟨h2,h3,h4⟩,h5⟩:=h;obtain⟨Rf,Mf⟩:=fP h1;obtain⟨_,Mt⟩:=fP h2;obtain⟨_,Mb⟩:=fP h3;refine⟨Rf,Mf,Mx.minors Mf ?_⟩;generalize rowsOf st f=F at*;generalize rowsOf st t=U at*;generalize rowsOf st b=B at*;rw[Mx.MH (A:=A) (U:=U) (C:=Mx.jB B N) Mf (λ i c hi hc=>by rw[h5,Mx.vV Mt hA hi]) (λ i j hi hj=>?_) hA]
 . exact hD
 . have e:=Mx.vV Mt Mb (i:=i) (j:=j) hi;rw[h4,Mx.lJ hi hj]at e;rw[e];exact Mx.az λ k hk=>by rw[S0 Mb hj hk]
theorem vO:Ut lh 2 yp qg:=by
 rintro ds st K ⟨d,x,A,N,w,rfl,hd,hA,n1,n8,w8,bA,hD,hx,hS,kT,kF⟩;refine⟨rfl,x,3,rfl,hx.any,?_⟩;cases e:items? st x with
 |none=>exact kF (λ⟨f,t,b,z,_⟩=>by rw[e]at z;cases z) st Ext.refl
 |some xs=>
  by_cases h3:xs.length=3
  . obtain⟨f,t,b,rfl⟩:=uj h3;have hi:=hx.ao _ e;refine aA e rfl (aA e rfl (aA e rfl ?_));refine⟨d,f,t,b,A,N,w,rfl,hd,hA,n1,n8,w8,bA,hi f (by simp),hi t (by simp),hi b (by simp),?_⟩;cases e2:tk st A N w f t b with
    |false=>exact kF (λ⟨f',t',b',z,z2,_⟩=>by rw[e]at z;cases z;rw[e2]at z2;cases z2) st Ext.refl
    |true=>
     obtain⟨Rf,Mf,hDf⟩:=Pe hA e2 hD;refine aA e rfl ?_;refine⟨rowsOf st f,N,w,f,rfl,Rf,hS f t b e e2,hDf,λ sh st' X=>kT ⟨f,t,b,e,e2,sh⟩ st' X,λ sh st' X=>kF (λ⟨f',t',b',z,z2,z3⟩=>sh (by rw[e]at z;cases z;exact z3)) st' X⟩
  . have en:(match some xs with|some xs=>decide ((xs.length:Int)=3)|none=>false)=false:=UX (by lia);rw[en];exact kF (λ⟨f,t,b,z,_⟩=>by rw[e]at z;cases z;exact h3 rfl) st Ext.refl
structure Upd(st:af)(n:Nat)(st':af):Prop where
 len:st'.length=st.length
 same:∀m,m≠n->st'[m]?=st[m]?
theorem Upd.refl{st:af}{n:Nat}:Upd st n st:=⟨rfl,λ _ _=>rfl⟩
theorem Upd.trans{st st1 st2:af}{n:Nat}(a:Upd st n st1)(b:Upd st1 n st2):Upd st n st2:=⟨b.len.trans a.len,λ m h=>(b.same m h).trans (a.same m h)⟩
theorem Upd.set{st:af}{n:Nat}{c:Cell}:Upd st n (st.set n c):=⟨US,λ m h=>Ux (UD h)⟩
structure Lf(st:af)(n:Nat):Prop where
 ex:∃x,st[n]?=some (.lst [.int x])/\0<=x
def t9:bq:=λ ds st K=>∃(ns:List Int) (k:Int),ds=[.lst (ns.map .int),.int k]/\0<=k/\∀c,K (.int c) st
def Ag:List Str:=["_law_script","_law_k"]
def Ir:DS:=(aw (bR (aH (ah mm (aa 1) (a8 dE (ab (aa 0) ag)))) (aP (ah aT (aa 0) (aa 1))) bW)
 (aP (dC (.int 0))))
theorem Np{ns:List Int}{k:Int}(h0:0<=k)(h:k<ns.length):∃c,di (ns.map D.int) k=some (.int c):=by
 have hk:k.toNat<ns.length:=by lia
 refine⟨ns[k.toNat],?_⟩;have e:(ns.map D.int)[k.toNat]?=some (.int ns[k.toNat]):=by simp[hk]
 have:=dg e;rw[W7 h0]at this;exact this
theorem GI:Ut t9 2 Ir Ag:=by
 rintro ds st K ⟨ns,k,rfl,hk0,q⟩;refine⟨rfl,?_⟩;refine cP rfl ?_;rw[Uz];refine C6 (λ h=>?_) λ h=>q 0;obtain⟨c,e⟩:=Np hk0 h;exact cT (aA rfl e (q c))
def pd:bq:=λ ds st K=>∃(ns:List Int) (k:Int),ds=[.lst (ns.map .int),.int k]/\0<=k/\k<=1000/\∀x:Int,0<=x->K (.ref st.length) (st++[.lst [.int x]])
def vo:List Str:=["_law_script","_law_k","_law_cell","_law_number_here","_law_wide","_law_j"]
def E3:DS:=(aw (aJ 2 (av t9 (ab (aa 0) (ab (aa 1) ag))))
 (aw (bR (aH (ah u4 (a8 nG (ab (aa 2) ag)) (ah tM (dC (.int 10)) (dC (.int 18))))) (aP (mz (ab (a8 nG (ab (aa 2) ag)) ag))) bW)
 (aw (aJ 3 (ah gF (ah bh (ah b_ (ah b_ (ah gF (aa 2) (dC (.int 2147483647))) (ah bh (dC (.int 7919)) (aa 1))) (dC (.int 11))) (dC (.int 48271))) (dC (.int 2147483629))))
 (aw (aJ 4 (dC (.int 0)))
 (aw (eX (cE (ab (dC (.int 9)) ag)) (aS 5) (aw (aJ 3 (ah gF (ah b_ (ah b_ (ah bh (aa 3) (aa 3)) (ah bh (dC (.int 69621)) (aa 5))) (dC (.int 7))) (dC (.int 1999999973))))
 (aJ 4 (ah b_ (ah bh (aa 4) (dC (.int 1999999973))) (aa 3)))))
 (aP (mz (ab (aa 4) ag))))))))
def IP:DS:=(aw (aJ 4 (dC (.int 0)))
 (aw (eX (cE (ab (dC (.int 9)) ag)) (aS 5) (aw (aJ 3 (ah gF (ah b_ (ah b_ (ah bh (aa 3) (aa 3)) (ah bh (dC (.int 69621)) (aa 5))) (dC (.int 7))) (dC (.int 1999999973))))
 (aJ 4 (ah b_ (ah bh (aa 4) (dC (.int 1999999973))) (aa 3)))))
 (aP (mz (ab (aa 4) ag)))))
theorem G0{d0 d1 d2:D}{u:Int}{st:af}{E:ie}(h0:0<=u)(h1:u<2^62)(k:∀x:Int,0<=x->E.rt (.ref st.length) (st++[.lst [.int x]])):IP E [some d0,some d1,some d2,some (.int u),none,none] st:=by
 refine dS ⟨by decide,by decide⟩ ?_;refine gN 9 (λ _ σ st'=>st'=st/\∃(u w:Int) (v:Option D),0<=u/\u<2^62/\0<=w/\σ=[some d0,some d1,some d2,some (.int u),some (.int w),v]) ?_ ?_ ⟨rfl,u,0,none,h0,h1,X8 _,rfl⟩
 . rintro σ st' ⟨rfl,u,w,v,a1,a2,a3,rfl⟩;exact⟨UE rfl,k w a3⟩
 . rintro j σ st' rest hj ⟨rfl,u,w,v,a1,a2,a3,rfl⟩ next
   refine⟨_,rfl,?_⟩;refine bc (dw (by lia) (by lia)) (bc (dw (by decide) (by decide)) (cp (cp (i0 (by decide) ?_))));have u1:=V_ (u*u+69621*(j:Int)+7) (show(0:Int)<1999999973 by decide);have u2:=Wu (u*u+69621*(j:Int)+7) (show(0:Int)<1999999973 by decide);generalize(u*u+69621*(j:Int)+7).fmod 1999999973=t at u1 u2;refine bc (Dl (by decide) (by decide)) (cp ?_);have hw:0<=w*1999999973+t:=Y1 (WX a3 (by decide)) u1;generalize w*1999999973+t=w2 at hw;exact next _ _ ⟨rfl,t,w2,_,u1,by lia,hw,rfl⟩
def Ev(A:DE)(σ:bo)(st:af)(d:D):Prop:=∀K:DK,K d st->A σ st K
theorem se{x:D->D->af->DK->Prop}{A B:DE}{σ:bo}{st:af}{a b d:D}(hA:Ev A σ st a)(hB:Ev B σ st b)(hx:∀K:DK,K d st->x a b st K):Ev (ah x A B) σ st d:=λ K k=>hA _ (hB _ (hx K k))
theorem zB{σ:bo}{st:af}{d:D}:Ev (dC d) σ st d:=λ K k=>k
theorem Gx{i:Nat}{σ:bo}{st:af}{d:D}(h:σ[i]?=some (some d)):Ev (aa i) σ st d:=λ K k=>lW h k
theorem GN{σ:bo}{st:af}{c k:Int}(h2:σ[2]?=some (some (.int c)))(h1:σ[1]?=some (some (.int k))):Ev (ah gF (ah bh (ah b_ (ah b_ (ah gF (aa 2) (dC (.int 2147483647))) (ah bh (dC (.int 7919)) (aa 1))) (dC (.int 11))) (dC (.int 48271))) (dC (.int 2147483629))) σ st (.int (((c.fmod 2147483647+7919*k+11)*48271).fmod 2147483629)):=by
 have a1:Ev (ah gF (aa 2) (dC (.int 2147483647))) σ st (.int (c.fmod 2147483647)):=se (Gx h2) zB λ K k=>i0 (by decide) k;have a2:Ev (ah bh (dC (.int 7919)) (aa 1)) σ st (.int (7919*k)):=se zB (Gx h1) λ K k=>bc (dw (by decide) (by decide)) k;have a3:=se (d:= .int (c.fmod 2147483647+7919*k)) a1 a2 λ K k=>cp k;have a4:=se (d:= .int (c.fmod 2147483647+7919*k+11)) a3 (zB (d:= .int 11)) λ K k=>cp k;have a5:=se (d:= .int ((c.fmod 2147483647+7919*k+11)*48271)) a4 (zB (d:= .int 48271)) λ K k=>bc (Dl (by decide) (by decide)) k;exact se a5 (zB (d:= .int 2147483629)) λ K k=>i0 (by decide) k
theorem OO{i:Nat}{A:DE}{B:DS}{E:ie}{σ:bo}{st:af}{d:D}(h:Ev A σ st d)(k:B E (σ.set i (some d)) st):aw (aJ i A) B E σ st:=h _ k
theorem BG:Ut pd 2 E3 vo:=by
 rintro ds st K ⟨ns,k,rfl,hk0,hk1,q⟩;refine⟨rfl,?_⟩;refine⟨ns,k,rfl,hk0,λ c=>?_⟩;refine oE (zV ⟨by decide,by decide,by decide⟩ ?_);generalize(10:Int)^(18:Int).toNat=big;refine TZ (λ h=>cT (oE ⟨UE rfl,q _ (by lia)⟩)) λ h=>?_;refine OO (σ:=[some (.lst (ns.map .int)),some (.int k),some (.int c),none,none,none]) (GN (c:=c) (k:=k) rfl rfl) ?_;have u1:=V_ ((c.fmod 2147483647+7919*k+11)*48271) (show(0:Int)<2147483629 by decide);have u2:=Wu ((c.fmod 2147483647+7919*k+11)*48271) (show(0:Int)<2147483629 by decide);generalize((c.fmod 2147483647+7919*k+11)*48271).fmod 2147483629=u at u1 u2;exact G0 (E:={nx:=λ _ st'=>K .ay st',rt:=K}) u1 (by lia) q
def bg:bq:=λ ds st K=>∃(n:Nat) (m:Int),ds=[.ref n,.int m]/\Lf st n/\0<m/\m<2^62/\∀r st',0<=r->r<m->Lf st' n->Upd st n st'->K (.int r) st'
def sY:List Str:=["_law_left_here","_law_many","_law_digit_here"]
def BB:DS:=(aw (aJ 2 (ah gF (ah aT (aa 0) (dC (.int 0))) (aa 1)))
 (aw (dm (aa 0) (dC (.int 0)) (ah gK (ah aT (aa 0) (dC (.int 0))) (aa 1)))
 (aP (aa 2))))
theorem FN{m:Int}(h0:0<m)(h:m<2^62):m.natAbs.log2<9000:=by
 have:m.natAbs.log2<62:=(WE (by lia)).mpr (by lia);lia
theorem AU:Ut bg 2 BB sY:=by
 rintro ds st K ⟨n,m,rfl,⟨x,e,hx⟩,hm0,hm1,k⟩;refine⟨rfl,?_⟩;have hn:n<st.length:=(Uw.mp e).1;have it:items? st (.ref n)=some [.int x]:=aq e;refine aA it tR (i0 (by lia) (aA it tR (gC (by lia) (FN hm0 hm1) (dO e (by rfl) ?_))));refine k _ _ (V_ _ hm0) (Wu _ hm0) ⟨_,UH hn,?_⟩ Upd.set;rw[W5 _ (by lia)];exact Int.ediv_nonneg hx (by lia)
def Sm(x:Int):Prop:= -1000000000000<x/\x<1000000000000
def jU(kd:Int):Nat:=if kd=3 then 999999999999 else if kd=4 then 4 else 999
def jL:bq:=λ ds st K=>∃(n:Nat) (kd:Int),ds=[.ref n,.int kd]/\Lf st n/\0<=kd/\kd<5/\∀r st',r.natAbs<=jU kd->Lf st' n->Upd st n st'->K (.int r) st'
def qo:List Str:=["_law_left_here","_law_kind","_law_size"]
def zk:DS:=(aw (bR (aH (ah fi (aa 1) (dC (.int 3)))) (aP (ah b_ (ah cG (av bg (ab (aa 0) (ab (ah cG (ah bh (dC (.int 2)) (ah tM (dC (.int 10)) (dC (.int 12)))) (dC (.int 1))) ag))) (ah tM (dC (.int 10)) (dC (.int 12)))) (dC (.int 1)))) bW)
 (aw (bR (vb (aH (ah fi (aa 1) (dC (.int 2)))) (aH (ah fi (av bg (ab (aa 0) (ab (dC (.int 2)) ag))) (dC (.int 0))))) (aP (ah cG (av bg (ab (aa 0) (ab (dC (.int 1999)) ag))) (dC (.int 999)))) bW)
 (aw (aJ 2 (ah aT (fg (ab (dC (.int 3)) (ab (dC (.int 9)) (ab (dC (.int 1)) (ab (dC (.int 0)) (ab (dC (.int 4)) ag)))))) (aa 1)))
 (aP (ah cG (av bg (ab (aa 0) (ab (ah b_ (ah bh (dC (.int 2)) (aa 2)) (dC (.int 1))) ag))) (aa 2))))))
theorem C_{st st1:af}{n:Nat}{kd:Int}{K:DK}(L:Lf st1 n)(U:Upd st n st1)(h0:0<=kd)(h1:kd<5)(k:∀r st',r.natAbs<=jU kd->Lf st' n->Upd st n st'->K (.int r) st'):(aw (aJ 2 (ah aT (fg (ab (dC (.int 3)) (ab (dC (.int 9)) (ab (dC (.int 1)) (ab (dC (.int 0)) (ab (dC (.int 4)) ag)))))) (aa 1)))
 (aP (ah cG (av bg (ab (aa 0) (ab (ah b_ (ah bh (dC (.int 2)) (aa 2)) (dC (.int 1))) ag))) (aa 2)))) {nx:=λ _ st'=>K .ay st',rt:=K} [some (.ref n),some (.int kd),none] st1:=by
 have e:kd=0\/kd=1\/kd=2\/kd=3\/kd=4:=by lia
 have fin:∀s:Int,0<=s->s<=9->s<=jU kd->(aP (ah cG (av bg (ab (aa 0) (ab (ah b_ (ah bh (dC (.int 2)) (aa 2)) (dC (.int 1))) ag))) (aa 2))) {nx:=λ _ st'=>K .ay st',rt:=K} [some (.ref n),some (.int kd),some (.int s)] st1:=λ s s0 s1 s2=>by
  refine bc (dw (by decide) (by decide)) (cp ?_);exact⟨n,_,rfl,L,by lia,by lia,λ r st2 a1 a2 L2 U2=>cn (k _ _ (by lia) L2 (U.trans U2))⟩
 refine⟨UE rfl,?_⟩;rcases e with rfl|rfl|rfl|rfl|rfl
 . exact aA rfl rfl (fin 3 (by decide) (by decide) (by decide))
 . exact aA rfl rfl (fin 9 (by decide) (by decide) (by decide))
 . exact aA rfl rfl (fin 1 (by decide) (by decide) (by decide))
 . exact aA rfl rfl (fin 0 (by decide) (by decide) (by decide))
 . exact aA rfl rfl (fin 4 (by decide) (by decide) (by decide))
theorem yc:Ut jL 2 zk qo:=by
 rintro ds st K ⟨n,kd,rfl,L,k0,k1,k⟩;refine⟨rfl,?_⟩;refine eq2 (λ h=>cT ?_) λ h=>?_
 . refine zV ⟨by decide,by decide,by decide⟩ (bc (dw (by decide) (by decide)) (cn ?_));refine⟨n,_,rfl,L,by decide,by decide,λ r st2 c1 c2 L2 U2=>zV ⟨by decide,by decide,by decide⟩ (cn (cp ?_))⟩;have e:(10:Int)^(12:Int).toNat=1000000000000:=by decide
   rw[e]at c2⊢;have nk:jU kd=999999999999:=by unfold jU;rw[UA h]
   exact k _ _ (by lia) L2 U2
 . refine eq2 (λ h2=>cT ?_) λ h2=>C_ L Upd.refl k0 k1 k;refine⟨n,2,rfl,L,by decide,by decide,λ r st2 c1 c2 L2 U2=>?_⟩;refine eq2 (λ h3=>cT ?_) λ h3=>C_ L2 U2 k0 k1 k;have nk:jU kd=999:=by unfold jU;rw[Uy h,Uy (by lia)]
   exact⟨n,1999,rfl,L2,by decide,by decide,λ r st3 d1 d2 L3 U3=>cn (k _ _ (by lia) L3 (U2.trans U3))⟩
def T_(A:List (List Int)):Prop:=∀r∈A,∀x∈r,Sm x
def SM(kd:Int)(A:List (List Int)):Prop:=∀r∈A,∀x∈r,x.natAbs<=jU kd
structure Dr(A:List (List Int))(N w:Nat):Prop where
 is:Mx.aW N w A
 le:N<=8
 wd:w<=9
 bd:T_ A
 n1:1<=N
 w8:w<=8
 Ol:(N<=4/\(N<=2\/∀r∈A,∀x∈r,x.natAbs<=999))\/∀r∈A,∀x∈r,x.natAbs<=4
def jD:bq:=λ ds st K=>∃(n m w:Nat) (kd:Int),ds=[.ref n,.int m,.int w,.int kd]/\Lf st n/\m<=8/\w<=8/\0<=kd/\kd<5/\∀A st',Mx.aW m w A->SM kd A->Lf st' n->Upd st n st'->K (cq A) st'
def u9:List Str:=["_law_left_here","_law_many","_law_wide","_law_kind"]
def Dq:DS:=(aP (a8 cm (ab (bJ (cE (ab (aa 1) ag)) [none,some 2,some 0,some 3] (aS 0) ba (a8 cm (ab (bJ (cE (ab (aa 1) ag)) [none,some 2,some 3] (aS 0) ba (av jL (ab (aa 1) (ab (aa 2) ag)))) ag))) ag)))
theorem IG{n w:Nat}{kd:Int}{σc:bo}{st:af}{te:DE}{K:List D->af->Prop}(ei:∀(x:D) (st':af) (K':DK),jL [.ref n,.int kd] st' K'->te (σc.set 0 (some x)) st' K')(L:Lf st n)(k0:0<=kd)(k1:kd<5)(hs:(λ(x:D)=>aS 0 x σc)=λ x=>some (σc.set 0 (some x)))
 (k:∀r st',r.length=w->(∀x∈r,x.natAbs<=jU kd)->Lf st' n->Upd st n st'->K (aj r) st'):
 cM (aS 0) ba te (λ _=>True) σc (cC 0 w) [] st K:=by
 refine gS (λ rest acc st'=>∃r:List Int,acc=aj r/\r.length+rest.length=w/\(∀x∈r,x.natAbs<=jU kd)/\Lf st' n/\Upd st n st') ?_ ?_ _ _ _ ⟨[],rfl,by rw[dc];simp,by simp,L,Upd.refl⟩
 . rintro acc st' ⟨r,rfl,hl,hr,B',U⟩;have hl:r.length=w:=by simpa using hl
   exact⟨trivial,k r st' hl hr B' U⟩
 . rintro x rest acc st' ⟨r,rfl,hl,hr,B',U⟩ next
   have hl2:r.length<w:=by simp at hl;lia
   refine⟨trivial,_,congrFun hs x,?_⟩;refine ei x st' _ ⟨n,kd,rfl,B',k0,k1,λ y st2 a B2 U2=>?_⟩;show cM _ _ _ _ _ _ _ _ _;rw[ints_app];refine next _ _ ⟨r++[y],rfl,by simp at hl⊢;lia,λ z hz=>?_,B2,U.trans U2⟩
   rcases VJ.mp hz with h|h
   . exact hr z h
   . have:z=y:=by simpa using h
     subst this;exact a
theorem BN:Ut jD 4 Dq u9:=by
 rintro ds st K ⟨n,m,w,kd,rfl,B,hm,hw,k0,k1,k⟩;refine⟨rfl,?_⟩;refine dS ⟨by lia,by lia⟩ ⟨bz (by rw[dc];lia),?_⟩;rw[U_];refine gS (λ rest acc st'=>∃A:List (List Int),acc=A.map cH/\A.length+rest.length=m/\(∀r∈A,r.length=w)/\SM kd A/\Lf st' n/\Upd st n st') ?_ ?_ _ _ _ ⟨[],rfl,by rw[dc];simp,by simp,λ _ h=>by simp at h,B,Upd.refl⟩
 . rintro acc st' ⟨A,rfl,hl,hA,hBd,B',U⟩;have hl:A.length=m:=by simpa using hl
   exact⟨trivial,bS rfl (k A st' ⟨hl,hA⟩ hBd B' U)⟩
 . rintro x rest acc st' ⟨A,rfl,hl,hA,hBd,B',U⟩ next
   have hl2:A.length<m:=by simp at hl;lia
   refine⟨trivial,_,rfl,?_⟩;refine dS ⟨by lia,by lia⟩ ⟨bz (by rw[dc];lia),?_⟩;rw[U_];refine IG (n:=n) (kd:=kd) (λ x st' K' h=>h) B' k0 k1 rfl λ r st2 hr1 hr2 B2 U2=>?_;refine bS rfl ?_;show cM _ _ _ _ _ _ _ _ _;rw[HY];refine next _ _ ⟨A++[r],rfl,by simp at hl⊢;lia,λ q hq=>?_,λ q hq=>?_,B2,U.trans U2⟩
   . rcases VJ.mp hq with h|h
     . exact hA q h
     . have:q=r:=by simpa using h
       subst this;exact hr1
   . rcases VJ.mp hq with h|h
     . exact hBd q h
     . have:q=r:=by simpa using h
       subst this;exact hr2
def nV:bq:=λ ds st K=>∃(n:Nat),ds=[.ref n]/\Lf st n/\∀A N w st',Dr A N w->Lf st' n->Upd st n st'->K (cq A) st'
def sP:List Str:=["_law_left_here","_law_kind","_law_many","_law_wide"]
def By:DS:=(aw (aJ 1 (ah aT (fg (ab (dC (.int 0)) (ab (dC (.int 0)) (ab (dC (.int 1)) (ab (dC (.int 1)) (ab (dC (.int 2)) (ab (dC (.int 2)) (ab (dC (.int 3)) (ab (dC (.int 4)) ag))))))))) (av bg (ab (aa 0) (ab (dC (.int 8)) ag)))))
 (aw (aJ 2 (ah b_ (dC (.int 1)) (av bg (ab (aa 0) (ab (dC (.int 4)) ag)))))
 (aw (aJ 3 (ah b_ (aa 2) (av bg (ab (aa 0) (ab (dC (.int 3)) ag)))))
 (aw (bR (aH (ah fi (aa 1) (dC (.int 3)))) (Je 2 3 (ab (ah b_ (dC (.int 1)) (ah gF (aa 2) (dC (.int 2)))) (ab (ah b_ (dC (.int 2)) (ah gF (aa 3) (dC (.int 2)))) ag))) bW)
 (aw (bR (aH (ah fi (aa 1) (dC (.int 4)))) (aw (aJ 2 (ah b_ (dC (.int 7)) (ah gF (aa 2) (dC (.int 2)))))
 (aJ 3 (a8 wk (ab (aa 2) (ab (ah b_ (dC (.int 7)) (ah gF (aa 3) (dC (.int 2)))) ag))))) bW)
 (aP (av jD (ab (aa 0) (ab (aa 2) (ab (aa 3) (ab (aa 1) ag)))))))))))
theorem zF:Ut nV 1 By sP:=by
 rintro ds st K ⟨n,rfl,L,k⟩;refine⟨rfl,?_⟩;refine⟨UE rfl,n,8,rfl,L,by decide,by decide,λ r st1 r0 r1 L1 U1=>?_⟩
 have hk:∃kd:Int,0<=kd/\kd<5/\di [D.int 0,.int 0,.int 1,.int 1,.int 2,.int 2,.int 3,.int 4] r=some (.int kd):=by
  have e:r=0\/r=1\/r=2\/r=3\/r=4\/r=5\/r=6\/r=7:=by lia
  rcases e with rfl|rfl|rfl|rfl|rfl|rfl|rfl|rfl<;>exact⟨_,by decide,by decide,rfl⟩
 obtain⟨kd,k0,k1,ek⟩:=hk;refine aA rfl ek ?_;refine⟨n,4,rfl,L1,by decide,by decide,λ a st2 a0 a1 L2 U2=>cp ?_⟩;refine⟨n,3,rfl,L2,by decide,by decide,λ b st3 b0 b1 L3 U3=>cp ?_⟩;have U:=(U1.trans U2).trans U3
 have fin:∀(N w:Nat),1<=N->N<=8->w<=8->(kd≠4->N<=4)->(kd=3->N<=2)->(aP (av jD (ab (aa 0) (ab (aa 2) (ab (aa 3) (ab (aa 1) ag)))))) {nx:=λ _ st'=>K .ay st',rt:=K} [some (.ref n),some (.int kd),some (.int N),some (.int w)] st3:=λ N w n1 hN hw c1 c2=>
  ⟨n,N,w,kd,rfl,L3,hN,hw,k0,k1,λ A st4 hA bA L4 U4=>k A N w st4 ⟨hA,hN,by lia,λ r hr x hx=>by
   have:=bA r hr x hx;have n2:jU kd<=999999999999:=by unfold jU;split;exact UB _;split<;>decide
   unfold Sm;lia,n1,hw,by
   by_cases h4:kd=4
   . refine .inr λ r hr x hx=>?_;have:=bA r hr x hx;unfold jU at this;rwa [Uy (by lia),UA h4]at this
   . refine .inl ⟨c1 h4,?_⟩;by_cases h3:kd=3
     . exact .inl (c2 h3)
     . refine .inr λ r hr x hx=>?_;have:=bA r hr x hx;unfold jU at this;rwa [Uy h3,Uy h4]at this⟩ L4 (U.trans U4)⟩
 have fin2:∀(N w:Int),1<=N->N<=8->0<=w->w<=8->(kd≠4->N<=4)->(kd=3->N<=2)->(aP (av jD (ab (aa 0) (ab (aa 2) (ab (aa 3) (ab (aa 1) ag)))))) {nx:=λ _ st'=>K .ay st',rt:=K} [some (.ref n),some (.int kd),some (.int N),some (.int w)] st3:=λ N w h1 h2 h3 h4 c1 c2=>by
  have:=fin N.toNat w.toNat (by lia) (by lia) (by lia) (λ z=>by have:=c1 z;lia) (λ z=>by have:=c2 z;lia);rw[W7 (show 0<=N by lia),W7 h3]at this;exact this
 have md:∀x:Int,0<=x.fmod 2/\x.fmod 2<2:=λ x=>⟨V_ _ (by decide),Wu _ (by decide)⟩
 refine eq2 (λ h=>cT ?_) λ h=>?_
 . refine i0 (by decide) (cp (i0 (by decide) (cp ?_)));have m1:=md (1+a);have m2:=md (1+a+b);refine Li (by lia) ?_;exact fin2 _ _ (by lia) (by lia) (by lia) (by lia) (λ _=>by lia) (λ _=>by lia)
 . refine eq2 (λ h2=>cT ?_) λ h2=>fin2 _ _ (by lia) (by lia) (by lia) (by lia) (λ _=>by lia) (λ z=>absurd z h);have m1:=md (1+a);have m2:=md (1+a+b);refine i0 (by decide) (cp (i0 (by decide) (cp (F8 ?_))));refine fin2 _ _ (by lia) (by lia) ?_ ?_ (λ z=>absurd h2 z) (λ z=>absurd z h)
   . split<;>lia
   . split<;>lia
def ni:bq:=vG
def xT:List Str:=["_law_one","_law_other"]
def Fg:DS:=(aP (a8 vU (ab (bJ (ki (ab (aa 0) (ab (aa 1) ag))) [none,none] (fh 0 1) ba (ah bh (aa 0) (aa 1))) ag)))
theorem D_:Ut ni 2 Fg xT:=Hc
theorem om{m:Nat}:∀ {a b:List Int},(∀x∈a,x.natAbs<=m)->(∀x∈b,x.natAbs<=m)->(Mx.f_ a b).natAbs<=a.length*(m*m)
 | [],_,_,_=>by show(0:Int).natAbs<=_;simp
 |_::_,[],_,_=>by show(0:Int).natAbs<=_;simp
 |x::a,y::b,h1,h2=>by
  have ih:=om (a:=a) (b:=b) (λ z hz=>h1 z (UQ _ hz)) λ z hz=>h2 z (UQ _ hz);have e:Mx.f_ (x::a) (y::b)=x*y+Mx.f_ a b:=rfl
  have h3:(x*y).natAbs<=m*m:=by
   rw[Vr];exact Xh (h1 x UZ) (h2 y UZ)
  have h4:=Int.natAbs_add_le (x*y) (Mx.f_ a b);rw[e,Vh,Nat.add_mul,YT];lia
theorem Dr.mem{A:List (List Int)}{N w i:Nat}(h:Dr A N w)(hi:i<N):A.getD i []∈A:=by
 have:=h.is.len;rw[Mx.aR (by lia)];exact Vb _
theorem TH{n:Nat}(h:n<=8):(8*2^90)^n<=2^900:=by
 rw[show(8*2^90:Nat)=2^93 by decide,<-W6];exact UL (by decide) (by lia)
theorem RM{n:Nat}(h:n<=8):(8*2^90)^(n-1)<=2^800:=by
 rw[show(8*2^90:Nat)=2^93 by decide,<-W6];exact UL (by decide) (by lia)
theorem Dr.st{A:List (List Int)}{N w:Nat}(h:Dr A N w):St A N w where
 is:=h.is
 wd:=by have:=h.wd;lia
 sm:=λ r hr x hx=>UG (show x.natAbs<=2^40 by have:=h.bd r hr x hx;unfold Sm at this;lia) (by decide)
 gm:={
  le:=h.le
  ex:=⟨2^90,λ r c hr hc=>by
   have q:∀i,i<N->∀x∈A.getD i [],x.natAbs<=1000000000000:=λ i hi x hx=>by have:=h.bd _ (h.mem hi) x hx;unfold Sm at this;lia
   have h1:=om (q r hr) (q c hc);have h2:=h.is.eR _ (h.mem hr);have h3:=h.wd;unfold Mx.ae;rw[h2]at h1;have h4:w*(1000000000000*1000000000000)<=9*(1000000000000*1000000000000):=VM _ h3;exact UG h1 (UG h4 (by decide)),TH h.le,RM h.le,by decide⟩
  sym:=Mx.hV A}
theorem NP{p:Nat}(h:p<=8):(8*2^900)^p<=2^7300:=by
 have e:8*2^900=2^903:=by rw[show 903=3+900 from rfl,Wt]
 rw[e,<-W6];exact UL (by decide) (by lia)
structure Cd(G:Mx.Fn)(n:Nat):Prop where
 le:n<=8
 bd:∀r c,r<n->c<n->(G r c).natAbs<=2^900
 sym:∀i j,G i j=G j i
theorem Cd.gx{G:Mx.Fn}{n p i j:Nat}(h:Cd G n)(hp:p<n)(hi:i<n)(hj:j<n):(Mx.gx G p (G i) j).natAbs<=2^7300:=UG (Mx.zC h.le h.bd hp hi hj) (NP (by have:=h.le;lia))
theorem Cd.D{G:Mx.Fn}{n p:Nat}(h:Cd G n)(hp:p<=n):(Mx.D p G).natAbs<=2^7300:=UG (Mx.mS (by have:=h.le;lia) λ r c hr hc=>h.bd r c (by lia) (by lia)) (NP (by have:=h.le;lia))
structure xD(A:List (List Int))(N w:Nat):Prop where
 is:Mx.aW N w A
 wd:w<=1000
 sm:∀r∈A,∀x∈r,x.natAbs<=2^400000
 gm:Cd (Mx.ae A) N
theorem xD.mem{A:List (List Int)}{N w i:Nat}(h:xD A N w)(hi:i<N):A.getD i []∈A:=by
 have:=h.is.len;rw[Mx.aR (by lia)];exact Vb _
theorem Lu{A:List (List Int)}{N w i j:Nat}(h:xD A N w)(hi:i<N)(hj:j<N):∀a∈A.getD i [],∀b∈A.getD j [],IntMulOk a b:=λ a ha b hb=>cV (h.sm _ (h.mem hi) a ha) (h.sm _ (h.mem hj) b hb) (by decide) (by decide)
theorem St.Sf{A:List (List Int)}{N w:Nat}(h:St A N w):xD A N w where
 is:=h.is
 wd:=h.wd
 sm:=λ r hr x hx=>UG (h.sm r hr x hx) (UL (by decide) (by decide))
 gm:=⟨h.gm.le,λ r c hr hc=>UG (h.gm.big hr hc) (UL (by decide) (by decide)),h.gm.sym⟩
structure Own(G:Mx.Fn)(N:Nat)(st:af)(g kn:Nat)(cs:List Nat):Prop where
 eg:st[g]?=some (Cell.lst (aj ((List.range (N+1)).map λ q=>Mx.D q G)))
 ek:st[kn]?=some (Cell.lst (cs.map D.ref))
 lc:cs.length=N
 row:∀j c,cs[j]?=some c->st[c]?=some (Cell.lst (aj (Mx.aQ G j)))
def m6:bq:=λ ds st K=>∃(dA:D) (A:List (List Int)) (N w:Nat),ds=[dA]/\cL st dA A/\xD A N w/\(∀st',Ext st st'->(∃k,k<=N/\Mx.D k (Mx.ae A)=0)->K .ay st')/\∀st' g kn cs,Ext st st'->(∀k,k<=N->Mx.D k (Mx.ae A)≠0)->Own (Mx.ae A) N st' g kn cs->K (.tup [.ref g,.ref kn]) st'
def xr:List Str:=["_law_steps","_law_grown","_law_known","_law_step","_law_found","_law_j","_law_told","_law_other","_law_k","_law_less"]
def F0:DS:=(aw (aJ 1 (mz (ab (dC (.int 1)) ag)))
 (aw (aJ 2 (mz ag))
 (aw (eX (cy (aa 0)) (aS 3) (aw (aJ 4 (mz ag))
 (aw (eX (cE (ab (ah b_ (a8 dE (ab (aa 2) ag)) (dC (.int 1))) ag)) (aS 5) (aw (aJ 6 (av ni (ab (aa 3) (ab (ah aT (aa 0) (aa 5)) ag))))
 (aw (aJ 7 (ah aT (ah sf (aa 2) (fg (ab (aa 4) ag))) (aa 5)))
 (aw (eX (cE (ab (aa 5) ag)) (aS 8) (aw (aJ 9 (ah bh (ah aT (aa 4) (aa 8)) (ah aT (aa 7) (aa 8))))
 (aJ 6 (ah gK (ah cG (ah bh (ah aT (aa 1) (ah b_ (aa 8) (dC (.int 1)))) (aa 6)) (aa 9)) (ah aT (aa 1) (aa 8))))))
 (du (dY (aa 4) (aa 6)))))))
 (aw (bR (aH (ah fi (ah aT (aa 4) (jx fH (dC (.int 1)))) (dC (.int 0)))) (aP (dC .ay)) bW)
 (aw (du (dY (aa 1) (ah aT (aa 4) (jx fH (dC (.int 1))))))
 (du (dY (aa 2) (aa 4))))))))
 (aP (iK (ab (aa 1) (ab (aa 2) ag)))))))
theorem Ox{A:List (List Int)}{j:Nat}(h:j<A.length):di (A.map cH) (j:Int)=some (cH (A.getD j [])):=by
 refine dg ?_;rw[UM,UJ h,Mx.aR h];rfl
theorem NF{G:Mx.Fn}{n i j g f o:Nat}{gl fl ol:List Int}{d0 d2 d3 d5:D}{st:af}{E:ie}{v8 v9:Option D}(gm:Cd G n)(hi:i<n)(hj:j<=i)(hD:∀k,k<=i->Mx.D k G≠0)
 (eg:st[g]?=some (.lst (aj gl))) (ef:st[f]?=some (.lst (aj fl))) (eo:st[o]?=some (.lst (aj ol))) (lg:gl.length=i+1) (lf:fl.length=j) (lo:j<=ol.length)
 (hg:∀k,k<=i->gl.getD k 0=Mx.D k G) (hf:∀k,k<j->fl.getD k 0=Mx.lam G i k) (ho:∀k,k<j->ol.getD k 0=Mx.lam G j k)
 (k:∀v8 v9,E.nx [some d0,some (.ref g),some d2,some d3,some (.ref f),some d5,some (.int (Mx.lam G i j)),some (.ref o),v8,v9] st):
 eX (cE (ab (dC (.int j)) ag)) (aS 8) (aw (aJ 9 (ah bh (ah aT (aa 4) (aa 8)) (ah aT (aa 7) (aa 8))))
 (aJ 6 (ah gK (ah cG (ah bh (ah aT (aa 1) (ah b_ (aa 8) (dC (.int 1)))) (aa 6)) (aa 9)) (ah aT (aa 1) (aa 8))))) E [some d0,some (.ref g),some d2,some d3,some (.ref f),some d5,some (.int (G i j)),some (.ref o),v8,v9] st:=by
 have hn:=gm.le;refine dS ⟨by lia,by lia⟩ ?_;rw[U_];refine gN j (λ q σ st'=>st'=st/\∃v8 v9,σ=[some d0,some (.ref g),some d2,some d3,some (.ref f),some d5,some (.int (Mx.gx G q (G i) j)),some (.ref o),v8,v9]) ?_ ?_ ⟨rfl,v8,v9,by rw[Mx.iy]⟩
 . rintro σ st' ⟨rfl,v8,v9,rfl⟩;exact k v8 v9
 . rintro q σ st' rest hq ⟨rfl,v8,v9,rfl⟩ next
   refine⟨_,rfl,?_⟩;have b1:=gm.D (p:=q+1) (by lia);have b2:=gm.gx (p:=q) (i:=i) (j:=j) (by lia) hi (by lia);have b3:(Mx.lam G i q).natAbs<=2^7300:=gm.gx (by lia) hi (by lia);have b4:(Mx.lam G j q).natAbs<=2^7300:=gm.gx (by lia) (by lia) (by lia);have b5:=gm.D (p:=q) (by lia);have hd:=hD q (by lia);have e1:=aq ef;have e2:=aq eo;have e3:=aq eg;refine aA e1 (ia (by lia)) (aA e2 (ia (by lia)) ?_);rw[hf q hq,ho q hq];refine bc (cV b3 b4 (by decide) (by decide)) (cp ?_);refine aA e3 (e:= .int (Mx.D (q+1) G)) (by have:=ia (r:=gl) (k:=q+1) (by lia);rw[hg (q+1) (by lia)]at this;exact this) ?_;refine bc (cV b1 b2 (by decide) (by decide)) (cn (aA e3 (ia (by lia)) ?_));rw[hg q (by lia)];refine gC hd (yR b5 hd (by decide)) ?_;rw[Mx.Af gm.sym hd];exact next _ _ ⟨rfl,_,_,rfl⟩
theorem uy(G:Mx.Fn)(i q:Nat):((List.range q).map λ j=>Mx.lam G i j).length=q:=by simp
theorem FV(G:Mx.Fn)(i:Nat):((List.range (i+1)).map λ j=>Mx.lam G i j)=Mx.aQ G i:=rfl
theorem MA{st0:af}{dA dr:D}{A:List (List Int)}{N w i g kn f:Nat}{gl:List Int}{cs:List Nat}{st:af}{E:ie}{v5 v6 v7 v8 v9:Option D}(X0:Ext st0 st)(hf0:st0.length<=f)(rA:cL st0 dA A)(hr:items? st0 dr=some (aj (A.getD i [])))(hS:xD A N w)(hi:i<N)(hD:∀k,k<=i->Mx.D k (Mx.ae A)≠0)
 (eg:st[g]?=some (.lst (aj gl))) (ek:st[kn]?=some (.lst (cs.map D.ref))) (ef:st[f]?=some (.lst [])) (lg:gl.length=i+1) (lc:cs.length=i) (hgf:g≠f) (hkf:kn≠f)
 (hg:∀k,k<=i->gl.getD k 0=Mx.D k (Mx.ae A)) (hc:∀j c,cs[j]?=some c->c≠f/\st[c]?=some (.lst (aj (Mx.aQ (Mx.ae A) j))))
 (k:∀st' v5 v6 v7 v8 v9,Upd st f st'->st'[f]?=some (.lst (aj (Mx.aQ (Mx.ae A) i)))->E.nx [some dA,some (.ref g),some (.ref kn),some dr,some (.ref f),v5,v6,v7,v8,v9] st'):
 (eX (cE (ab (ah b_ (a8 dE (ab (aa 2) ag)) (dC (.int 1))) ag)) (aS 5) (aw (aJ 6 (av ni (ab (aa 3) (ab (ah aT (aa 0) (aa 5)) ag))))
 (aw (aJ 7 (ah aT (ah sf (aa 2) (fg (ab (aa 4) ag))) (aa 5)))
 (aw (eX (cE (ab (aa 5) ag)) (aS 8) (aw (aJ 9 (ah bh (ah aT (aa 4) (aa 8)) (ah aT (aa 7) (aa 8))))
 (aJ 6 (ah gK (ah cG (ah bh (ah aT (aa 1) (ah b_ (aa 8) (dC (.int 1)))) (aa 6)) (aa 9)) (ah aT (aa 1) (aa 8))))))
 (du (dY (aa 4) (aa 6))))))) E [some dA,some (.ref g),some (.ref kn),some dr,some (.ref f),v5,v6,v7,v8,v9] st:=by
 have hn:=hS.gm.le;have hl:=hS.is.len;have hw:=hS.wd;refine cP (aq ek) (cp ?_);have e0:(((cs.map D.ref).length:Nat):Int)+1=((i+1:Nat):Int):=by rw[Uz,lc];rfl
 rw[e0];refine dS ⟨by lia,by lia⟩ ?_;rw[U_];refine gN (i+1) (λ q σ st'=>Upd st f st'/\st'[f]?=some (.lst (aj ((List.range q).map λ j=>Mx.lam (Mx.ae A) i j)))/\∃v5 v6 v7 v8 v9,σ=[some dA,some (.ref g),some (.ref kn),some dr,some (.ref f),v5,v6,v7,v8,v9]) ?_ ?_ ⟨Upd.refl,ef,_,_,_,_,_,rfl⟩
 . rintro σ st' ⟨U,e,v5,v6,v7,v8,v9,rfl⟩;rw[FV]at e;exact k st' v5 v6 v7 v8 v9 U e
 . rintro q σ st1 rest hq ⟨U,e,v5,v6,v7,v8,v9,rfl⟩ next
   refine⟨_,rfl,?_⟩;have X1:Ext st0 st1:=⟨by have:=X0.len;have:=U.len;lia,λ m hm=>(U.same m (by lia)).trans (X0.same m hm)⟩
   obtain⟨da,hda,ra⟩:=rA.ex;obtain⟨eq_,eeq,heq⟩:=ra.at (k:=q) (by lia);refine aA (X1.items hda) eeq ?_;have wi:=hS.is.eR _ (hS.mem hi);refine⟨_,_,A.getD i [],A.getD q [],rfl,X1.items hr,X1.items heq,by lia,Lu hS hi (by lia),?_⟩;have ek1:=(U.same kn hkf).trans ek;have eg1:=(U.same g hgf).trans eg;refine⟨UE rfl,Md ek1 (by rw[Vy,Uz];simp;lia) ?_⟩;have hlt:=(Uw.mp e).1
   have ho:∃(o:Nat) (ol:List Int),(cs.map D.ref++[D.ref f])[q]?=some (.ref o)/\st1[o]?=some (.lst (aj ol))/\q<=ol.length/\∀k,k<q->ol.getD k 0=Mx.lam (Mx.ae A) q k:=by
    by_cases hqi:q<i
    . have ec:cs[q]?=some cs[q]:=UJ (by lia);obtain⟨c1,c2⟩:=hc q _ ec;refine⟨cs[q],Mx.aQ (Mx.ae A) q,?_,(U.same _ c1).trans c2,by rw[Mx.cR];lia,λ k hk=>Mx.fU _ (by lia)⟩;rw[UC (by rw[Uz];lia),UM,ec];rfl
    . have:q=i:=by lia
      subst this;refine⟨f,_,?_,e,by rw[uy];lia,λ k hk=>oP _ hk⟩;rw[U0 (by rw[Uz];lia),Uz,lc,V2];rfl
   obtain⟨o,ol,o1,o2,o3,o4⟩:=ho;refine aA rfl (dg o1) ?_;refine NF hS.gm hi (by lia) hD eg1 e o2 lg (uy _ _ _) o3 hg (λ k hk=>oP _ hk) o4 λ v8 v9=>?_;refine iY (by rfl) e (lW rfl (gz e (by rw[Vy,Uz,uy];lia) ?_));refine next _ _ ⟨U.trans Upd.set,?_,_,_,_,_,_,rfl⟩
   rw[UH hlt,tX]
theorem Oi{G:Mx.Fn}{n k:Nat}(h:k<n):((List.range n).map λ q=>Mx.D q G).getD k 0=Mx.D k G:=by rw[Mx.aR (by simpa using h),Vs,Vw]
theorem RT(G:Mx.Fn)(q:Nat):aj ((List.range q).map λ j=>Mx.D j G)++[.int (Mx.D q G)]=aj ((List.range (q+1)).map λ j=>Mx.D j G):=by rw[Wi,VR];simp[aj]
theorem EZ:Ut m6 1 F0 xr:=by
 rintro ds st K ⟨dA,A,N,w,rfl,rA,hS,k1,k2⟩;refine⟨rfl,?_⟩;have hn:=hS.gm.le;have hl:=hS.is.len;refine⟨UE rfl,UE rfl,?_⟩;have X0:Ext st (st++[.lst [.int 1]]++[.lst []]):=Ext.push.trans Ext.push
 have eg0:(st++[Cell.lst [.int 1]]++[Cell.lst []])[st.length]?=some (.lst (aj ((List.range (0+1)).map λ q=>Mx.D q (Mx.ae A)))):=by
  rw[V9,U0 (UB _),V2];rfl
 have ek0:(st++[Cell.lst [.int 1]]++[Cell.lst []])[st.length+1]?=some (.lst (([]:List Nat).map D.ref)):=by
  rw[V9,U0 (by lia)];have:st.length+1-st.length=1:=by lia
  rw[this];rfl
 have hlen0:(st++[Cell.lst [.int 1]]++[Cell.lst []]).length=st.length+2:=by simp
 have hD0:∀k,k<=0->Mx.D k (Mx.ae A)≠0:=λ k hk=>by
  have:k=0:=by lia
  rw[this,Mx.f9];decide
 have elen:(st++[Cell.lst [.int 1]]).length=st.length+1:=by simp
 obtain⟨da,hda,ra⟩:=rA.ex;have lda:=ra.len;refine fI (X0.items hda) λ ok aC=>?_;refine dR (λ rest σ st'=>∃(i:Nat) (cs:List Nat) (v3 v4 v5 v6 v7 v8 v9:Option D),i<=N/\σ=[some dA,some (.ref st.length),some (.ref (st.length+1)),v3,v4,v5,v6,v7,v8,v9]/\rest=da.drop i/\Ext st st'/\st.length+2<=st'.length/\st'[st.length]?=some (.lst (aj ((List.range (i+1)).map λ q=>Mx.D q (Mx.ae A))))/\st'[st.length+1]?=some (.lst (cs.map D.ref))/\cs.length=i/\(∀k,k<=i->Mx.D k (Mx.ae A)≠0)/\∀j c,cs[j]?=some c->st.length+2<=c/\c<st'.length/\st'[c]?=some (.lst (aj (Mx.aQ (Mx.ae A) j)))) ?_ ?_ _ _ _ ⟨0,[],none,none,none,none,none,none,none,VP _,by rw[elen];rfl,rfl,X0,by rw[hlen0];lia,eg0,ek0,rfl,hD0,λ j c h=>by simp at h⟩
 . rintro σ st1 ⟨i,cs,v3,v4,v5,v6,v7,v8,v9,hi,rfl,hr,X,hlen,eg,ek,lc,hD,hc⟩;refine⟨aC _ (X.items hda),?_⟩
   have:i=N:=by
    have:=Vk List.length hr;simp at this;lia
   subst this;exact⟨UE rfl,k2 st1 _ _ cs X hD ⟨eg,ek,lc,λ j c h=>(hc j c h).2.2⟩⟩
 . rintro x rest σ st1 ⟨i,cs,v3,v4,v5,v6,v7,v8,v9,hi,rfl,hr,X,hlen,eg,ek,lc,hD,hc⟩ next
   have hiN:i<N:=by
    have:=Vk List.length hr;simp at this;lia
   rw[U9 (show i<da.length by lia),VL]at hr;obtain⟨rfl,rfl⟩:=hr;obtain⟨ri,eri,hri⟩:=ra.get (UJ (show i<da.length by lia))
   have eri2:ri=A.getD i []:=by
    rw[UJ (by lia)]at eri;cases eri;rw[Mx.aR (by lia)]
   rw[eri2]at hri;refine⟨aC _ (X.items hda),_,rfl,?_⟩;refine⟨UE rfl,?_⟩;have XP:Ext st1 (st1++[.lst []]):=Ext.push;have ef:(st1++[Cell.lst []])[st1.length]?=some (.lst []):=by simp
   refine MA (E:={nx:=_,rt:=K,ct:=_,bk:=_}) (i:=i) (g:=st.length) (kn:=st.length+1) (f:=st1.length) (cs:=cs) (gl:=(List.range (i+1)).map λ q=>Mx.D q (Mx.ae A)) (X.trans XP) X.len rA hri hS hiN hD ((XP.same _ (by lia)).trans eg) ((XP.same _ (by lia)).trans ek) ef (by simp) lc (by lia) (by lia) (λ k hk=>Oi (by lia)) (λ j c h=>by
    obtain⟨h1,h2,h3⟩:=hc j c h;exact⟨by lia,(XP.same _ h2).trans h3⟩) λ st2 v5 v6 v7 v8 v9 U ef2=>?_
   have l2:st2.length=st1.length+1:=by rw[U.len];simp
   have it:=aq ef2;have X2:Ext st st2:=⟨by lia,λ m hm=>by rw[U.same m (by lia),XP.same m (by lia)];exact X.same m hm⟩
   refine eK (aA it (ke (Mx.cR _ i)) ?_);rw[Mx.fU _ (UB i),Mx.cN];refine eq2 (λ h=>cT (k1 st2 X2 ⟨i+1,by lia,h⟩)) λ h=>?_;have eg2:st2[st.length]?=some (.lst (aj ((List.range (i+1)).map λ q=>Mx.D q (Mx.ae A)))):=by rw[U.same _ (by lia),XP.same _ (by lia)];exact eg
   have ek2:st2[st.length+1]?=some (.lst (cs.map D.ref)):=by rw[U.same _ (by lia),XP.same _ (by lia)];exact ek
   refine iY (by rfl) eg2 (eK (aA it (ke (Mx.cR _ i)) ?_));rw[Mx.fU _ (UB i),Mx.cN];refine gz eg2 (by rw[Vy];simp;lia) ?_;rw[RT];have ek3:(st2.set st.length (.lst (aj ((List.range (i+1+1)).map λ q=>Mx.D q (Mx.ae A)))))[st.length+1]?=some (.lst (cs.map D.ref)):=by rw[Ux (by lia)];exact ek2
   refine iY (by rfl) ek3 (lW rfl (gz ek3 (by rw[Vy];simp;lia) ?_));refine next _ _ ⟨i+1,cs++[st1.length],_,_,_,_,_,_,_,hiN,rfl,rfl,?_,by simp;lia,?_,?_,by simp[lc],λ q hq=>?_,λ j c hj=>?_⟩
   . exact(X2.set (UB _)).set (by lia)
   . rw[Ux (by lia),UH (by lia)]
   . rw[UH (by rw[US];lia),VR];rfl
   . by_cases hqi:q=i+1
     . rw[hqi];exact h
     . exact hD q (by lia)
   . by_cases hjc:j<cs.length
     . rw[UC hjc]at hj;obtain⟨h1,h2,h3⟩:=hc j c hj;refine⟨h1,by simp;lia,?_⟩;rw[Ux (by lia),Ux (by lia),U.same _ (by lia),XP.same _ h2];exact h3
     . have hlt:=(Uw.mp hj).1;have:j=i:=by simp at hlt;lia
       subst this;rw[U0 (by lia),lc,V2]at hj;simp at hj;subst hj;refine⟨by lia,by simp;lia,?_⟩;rw[Ux (by lia),Ux (by lia)];exact ef2
def nN:bq:=λ ds st K=>∃(dA:D) (A:List (List Int)) (N w:Nat),ds=[dA]/\cL st dA A/\xD A N w/\(∀k,k<=N->Mx.D k (Mx.ae A)≠0)/\(Mx.Sh (Mx.ae A) N->∀st',Ext st st'->K (.bl true) st')/\(¬Mx.Sh (Mx.ae A) N->∀st',Ext st st'->K (.bl false) st')
def tH:List Str:=["_law_steps","_law_told","_law_grown","_law_known","_law_i","_law_j","_law_here","_law_least"]
def B9:DS:=(aw (aJ 1 (av m6 (ab (aa 0) ag)))
 (aw (bR (aH (ah Dh (aa 1) (dC .ay))) (aP (dC (.bl false))) bW)
 (aw (zG (fh 2 3) (aa 1))
 (aw (eX (cE (ab (a8 dE (ab (aa 3) ag)) ag)) (aS 4) (aw (eX (cE (ab (aa 4) ag)) (aS 5) (bR (aH (ah tj (ah bh (dC (.int 2)) (a8 nG (ab (ah aT (ah aT (aa 3) (aa 4)) (aa 5)) ag))) (ah aT (aa 2) (ah b_ (aa 5) (dC (.int 1)))))) (aP (dC (.bl false))) bW))
 (bR (aH (ah tj (aa 4) (dC (.int 0)))) (aw (aJ 6 (ah aT (ah aT (aa 3) (aa 4)) (ah cG (aa 4) (dC (.int 1)))))
 (aw (aJ 7 (ah cG (ah bh (ah bh (dC (.int 3)) (ah aT (aa 2) (aa 4))) (ah aT (aa 2) (aa 4))) (ah bh (ah bh (dC (.int 4)) (aa 6)) (aa 6))))
 (bR (aH (ah mm (ah bh (ah bh (dC (.int 4)) (ah aT (aa 2) (ah b_ (aa 4) (dC (.int 1))))) (ah aT (aa 2) (ah cG (aa 4) (dC (.int 1))))) (aa 7))) (aP (dC (.bl false))) bW))) bW)))
 (aP (dC (.bl true)))))))
theorem Ah:Ut nN 1 B9 tH:=by
 rintro ds st K ⟨dA,A,N,w,rfl,rA,hS,hD,kT,kF⟩;refine⟨rfl,?_⟩;have gm:=hS.gm;have h8:=gm.le;refine⟨dA,A,N,w,rfl,rA,hS,λ st1 X1 hz=>?_,λ st1 g kn cs X1 _ O=>?_⟩
 . obtain⟨k,hk,z⟩:=hz;exact absurd z (hD k hk)
 refine AS rfl ?_;refine⟨_,rfl,?_⟩;have ik:=aq O.ek;have ig:=aq O.eg;have lc:=O.lc
 have ixD:∀m,m<=N->di (aj ((List.range (N+1)).map λ q=>Mx.D q (Mx.ae A))) ((m:Nat):Int)=some (.int (Mx.D m (Mx.ae A))):=λ m hm=>by
  have:=ia (r:=(List.range (N+1)).map λ q=>Mx.D q (Mx.ae A)) (k:=m) (by simp;lia);rw[Oi (by lia)]at this;exact this
 have ixL:∀i m,m<=i->di (aj (Mx.aQ (Mx.ae A) i)) ((m:Nat):Int)=some (.int (Mx.lam (Mx.ae A) i m)):=λ i m hm=>by
  have:=ia (r:=Mx.aQ (Mx.ae A) i) (k:=m) (by rw[Mx.cR];lia);rw[Mx.fU _ hm]at this;exact this
 refine cP ik ?_;rw[Uz,lc];refine dS ⟨by lia,by lia⟩ ?_;rw[U_];refine gN N (λ q σ st'=>st'=st1/\∃v4 v5 v6 v7:Option D,σ=[some dA,some (.tup [.ref g,.ref kn]),some (.ref g),some (.ref kn),v4,v5,v6,v7]/\(∀i j,j<i->i<q->2*(((Mx.lam (Mx.ae A) i j).natAbs:Nat):Int)<=Mx.D (j+1) (Mx.ae A))/\∀i,0<i->i<q->¬4*Mx.D (i+1) (Mx.ae A)*Mx.D (i-1) (Mx.ae A)<3*Mx.D i (Mx.ae A)*Mx.D i (Mx.ae A)-4*Mx.lam (Mx.ae A) i (i-1)*Mx.lam (Mx.ae A) i (i-1)) ?_ ?_ ⟨rfl,none,none,none,none,rfl,λ i j _ h=>by lia,λ i _ h=>by lia⟩
 . rintro σ st' ⟨rfl,v4,v5,v6,v7,rfl,h1,h2⟩;exact kT ⟨h1,h2⟩ _ X1
 . rintro q σ st' rest hq ⟨rfl,v4,v5,v6,v7,rfl,h1,h2⟩ next
   refine⟨_,rfl,?_⟩;have ec:cs[q]?=some cs[q]:=UJ (by lia);have er:(cs.map D.ref)[q]?=some (.ref cs[q]):=by rw[UM,ec];rfl
   have il:=aq (O.row q _ ec);dsimp only;refine CI (λ σ' st2=>st2=st'/\∃v5:Option D,σ'=[some dA,some (.tup [.ref g,.ref kn]),some (.ref g),some (.ref kn),some (.int (q:Int)),v5,v6,v7]/\∀j,j<q->2*(((Mx.lam (Mx.ae A) q j).natAbs:Nat):Int)<=Mx.D (j+1) (Mx.ae A)) (λ nx hnx=>?_) ?_
   . refine dS ⟨by lia,by lia⟩ ?_;rw[U_];refine gN q (λ m σ st2=>st2=st'/\∃v5:Option D,σ=[some dA,some (.tup [.ref g,.ref kn]),some (.ref g),some (.ref kn),some (.int (q:Int)),v5,v6,v7]/\∀j,j<m->2*(((Mx.lam (Mx.ae A) q j).natAbs:Nat):Int)<=Mx.D (j+1) (Mx.ae A)) ?_ ?_ ⟨rfl,v5,rfl,λ j h=>by lia⟩
     . rintro σ st2 ⟨rfl,v5,rfl,h⟩;exact hnx _ _ ⟨rfl,v5,rfl,h⟩
     . rintro m σ st2 rest2 hm ⟨rfl,v5,rfl,h⟩ next2;refine⟨_,rfl,?_⟩;refine aA ik (dg er) (aA il (ixL q m (by lia)) (oE (bc (dw (by decide) (by decide)) (cp (aA ig (ixD (m+1) (by lia)) (Og (λ hh=>cT ?_) λ hh=>?_))))))
       . exact kF (λ sh=>by have:=sh.half q m hm hq;lia) _ X1
       . refine next2 _ _ ⟨rfl,_,rfl,λ j hj=>?_⟩;by_cases hjm:j=m
         . subst hjm;exact hh
         . exact h j (by lia)
   rintro σ' st2 ⟨rfl,v5,rfl,hh⟩
   have h1':∀i j,j<i->i<q+1->2*(((Mx.lam (Mx.ae A) i j).natAbs:Nat):Int)<=Mx.D (j+1) (Mx.ae A):=λ i j hj hi=>by
    by_cases hiq:i=q
    . subst hiq;exact hh j hj
    . exact h1 i j hj (by lia)
   refine Og (λ h0=>cT ?_) λ h0=>next _ _ ⟨rfl,_,_,_,_,rfl,h1',λ i hi0 hi=>h2 i hi0 (by lia)⟩
   have em:((q:Nat):Int)-1=((q-1:Nat):Int):=by lia
   have b1:=gm.D (p:=q) (by lia);have b2:=gm.D (p:=q+1) (by lia);have b3:=gm.D (p:=q-1) (by lia);have b4:(Mx.lam (Mx.ae A) q (q-1)).natAbs<=2^7300:=gm.gx (by lia) hq (by lia);have t3:(3:Int).natAbs<=2^2:=by decide
   have t4:(4:Int).natAbs<=2^3:=by decide
   refine aA ik (dg er) (cn ?_);rw[em];refine aA il (ixL q (q-1) (by lia)) ?_;refine aA ig (ixD q (by lia)) (bc (dw (by decide) (by decide)) (aA ig (ixD q (by lia)) (bc (cV (kD t3 b1) b1 (by decide) (by decide)) (bc (dw (by decide) (by decide)) (bc (cV (kD t4 b4) b4 (by decide) (by decide)) (cn ?_))))));refine cp (aA ig (ixD (q+1) (by lia)) (bc (dw (by decide) (by decide)) (cn ?_)));rw[em];refine aA ig (ixD (q-1) (by lia)) (bc (cV (kD t4 b2) b3 (by decide) (by decide)) (C6 (λ hf=>cT ?_) λ hf=>?_))
   . exact kF (λ sh=>sh.D0 q (by lia) hq hf) _ X1
   . refine next _ _ ⟨rfl,_,_,_,_,rfl,h1',λ i hi0 hi=>?_⟩
     by_cases hiq:i=q
     . subst hiq;lia
     . exact h2 i hi0 (by lia)
def eV:bq:=λ ds st K=>∃(dP dQ:D) (P Q:List (List Int)) (m p n:Nat),ds=[dP,dQ]/\cL st dP P/\cL st dQ Q/\Mx.aW m p P/\Mx.aW p n Q/\1<=p/\m<=1000/\p<=1000/\n<=1000/\(∀r∈P,∀x∈r,x.natAbs<=2^500000)/\(∀r∈Q,∀x∈r,x.natAbs<=2^500000)/\∀st',Ext st st'->K (cq (Mx.mulM P Q n)) st'
def qc:List Str:=["_law_one","_law_other","_law_found","_law_weights","_law_made","_law_weight","_law_row"]
def yu:DS:=(aw (aJ 2 (mz ag))
 (aw (eX (cy (aa 0)) (aS 3) (aw (aJ 4 (ah bh (fg (ab (dC (.int 0)) ag)) (a8 dE (ab (ah aT (aa 1) (dC (.int 0))) ag))))
 (aw (eX (ki (ab (aa 3) (ab (aa 1) ag))) (fh 5 6) (aJ 4 (bJ (ki (ab (aa 4) (ab (aa 6) ag))) [none,none,some 5] (fh 0 1) ba (ah b_ (aa 0) (ah bh (aa 2) (aa 1))))))
 (du (dY (aa 2) (a8 cm (ab (aa 4) ag)))))))
 (aP (a8 cm (ab (aa 2) ag)))))
theorem vZ:Ut eV 2 yu qc:=by
 rintro ds st K ⟨dP,dQ,P,Q,m,p,n,rfl,rP,rQ,hP,hQ,hp,hm,hp2,hn,bP,bQ,kk⟩;refine⟨rfl,?_⟩;have lP:=hP.len;have lQ:=hQ.len;obtain⟨ps,ep,ip⟩:=rP.ex;obtain⟨qs,eq,iq⟩:=rQ.ex;obtain⟨e0d,ee0,he0⟩:=iq.at (k:=0) (by lia);have h00:Q.getD 0 []∈Q:=by rw[Mx.aR (by lia)];exact Vb _
 refine⟨UE rfl,?_⟩;have X0:Ext st (st++[.lst []]):=Ext.push;have e0:(st++[Cell.lst []])[st.length]?=some (.lst (([]:List (List Int)).map cH)):=by simp
 refine fI (X0.items ep) λ ok aC=>?_;refine dR (λ rest σ st'=>∃(P1 P2:List (List Int)) (v3 v4 v5 v6:Option D),P1++P2=P/\bj st rest P2/\σ=[some dP,some dQ,some (.ref st.length),v3,v4,v5,v6]/\Ext st st'/\st'[st.length]?=some (.lst ((Mx.mulM P1 Q n).map cH))) ?_ ?_ _ _ _ ⟨[],P,none,none,none,none,rfl,ip,rfl,X0,e0⟩
 . rintro σ st1 ⟨P1,P2,v3,v4,v5,v6,hP12,hr,rfl,X,e⟩;refine⟨aC _ (X.items ep),?_⟩;match P2,hr with
   | [],_=>
     rw[VZ]at hP12;subst hP12;exact bS (aq e) (kk st1 X)
 . rintro x rest σ st1 ⟨P1,P2,v3,v4,v5,v6,hP12,hr,rfl,X,e⟩ next
   match P2,hr,hP12 with
   |ws::P2,⟨hx,hr⟩,hP12=>
    have hws:ws∈P:=by rw[<-hP12];simp
    have lws:=hP.eR ws hws;refine⟨aC _ (X.items ep),_,rfl,?_⟩;refine⟨UE rfl,aA (X.items eq) ee0 (cP (X.items he0) (Df ⟨by rw[Uz];lia,by rw[Uz,hQ.eR _ h00];lia,bz (by rw[Uz,hQ.eR _ h00];simp;lia)⟩ ?_))⟩;rw[Uz,hQ.eR _ h00,U_,zi];refine iR (X.items hx) (X.items eq) λ ok2 hok2=>?_;refine dR (λ rest σ st'=>st'=st1/\∃(w2:List Int) (q2:List D) (Q2:List (List Int)) (acc:List Int) (v5 v6:Option D),rest=dJ (aj w2) q2/\bj st q2 Q2/\σ=[some dP,some dQ,some (.ref st.length),some x,some (aK acc),v5,v6]/\acc.length=n/\(∀x∈w2,x∈ws)/\(∀r∈Q2,r∈Q)/\Mx.eM w2 Q2 acc=Mx.eM ws Q (List.replicate n 0)) ?_ ?_ _ _ _ ⟨rfl,ws,qs,Q,_,v5,v6,rfl,iq,rfl,by simp,λ x h=>h,λ r h=>h,rfl⟩
    . rintro σ st2 ⟨rfl,w2,q2,Q2,acc,v5,v6,hz,hi,rfl,la,hw2,hQ2,hs⟩;refine⟨hok2 _ (X.items hx) (X.items eq),?_⟩
      have hacc:acc=Mx.eM ws Q (List.replicate n 0):=by
       match w2,q2,Q2,hi,hz,hs with
       | [],_,_,_,_,hs=>exact hs
       |_::_,[],[],_,_,hs=>exact hs
       |_::_,_::_,_::_,_,hz,_=>cases hz
      refine iY (by rfl) e (bS rfl (gz e (by rw[Vy,Uz];unfold Mx.mulM;rw[Uz];have:=Vk List.length hP12;simp at this;lia) ?_));have hlt:=(Uw.mp e).1;refine next _ _ ⟨P1++[ws],P2,_,_,_,_,by rw[<-hP12];simp,hr,rfl,X.set (UB _),?_⟩
      rw[UH hlt,hacc];unfold Mx.mulM;simp
    . rintro y rest2 σ st2 ⟨rfl,w2,q2,Q2,acc,v5,v6,hz,hi,rfl,la,hw2,hQ2,hs⟩ next2;match w2,q2,Q2,hi,hz,hs,hw2,hQ2 with
      | [],_,_,_,hz,_,_,_=>cases hz
      |_::_,[],[],_,hz,_,_,_=>cases hz
      |c::w2,d::q2,r::Q2,⟨hd,hi⟩,hz,hs,hw2,hQ2=>
       have ez:dJ (aj (c::w2)) (d::q2)= .tup [.int c,d]::dJ (aj w2) q2:=rfl;rw[ez,VL]at hz;obtain⟨rfl,rfl⟩:=hz;have hrQ:=hQ2 r UZ;refine⟨hok2 _ (X.items hx) (X.items eq),_,rfl,?_⟩;refine iR rfl (X.items hd) λ ok3 hok3=>⟨bz (by rw[g8,Uz];lia),?_⟩
       refine comp_map (g:=λ d=>match d with| .tup [.int a,.int b]=> .int (a+c*b)|_=> .ay) (hok3 _ rfl (X.items hd)) _ (λ d hd K' t=>?_) ?_
       . obtain⟨a,b,ha,hb,rfl⟩:=mH hd;exact⟨_,rfl,bc (cV (bP ws hws c (hw2 c UZ)) (bQ r hrQ b hb) (by decide) (by decide)) (cp t)⟩
       rw[ng];exact next2 _ _ ⟨rfl,w2,q2,Q2,_,_,_,rfl,hi,rfl,by rw[Mx.kg (by rw[la,hQ.eR r hrQ])];exact la,λ x h=>hw2 x (UQ _ h),λ r h=>hQ2 r (UQ _ h),hs⟩
def gk:bq:=λ ds st K=>∃(n:Nat),ds=[.int n]/\n<=1000/\K (cq (Mx.units n)) st
def va:List Str:=["_law_n"]
def Eb:DS:=(aP (a8 cm (ab (bJ (cE (ab (aa 0) ag)) [none,some 0] (aS 0) ba (a8 cm (ab (bJ (cE (ab (aa 1) ag)) [none,some 0] (aS 0) ba (a8 zT (ab (ah fi (aa 1) (aa 0)) ag))) ag))) ag)))
theorem B5:Ut gk 1 Eb va:=by
 rintro ds st K ⟨n,rfl,hn,k⟩;refine⟨rfl,?_⟩;refine dS ⟨by lia,by lia⟩ ⟨bz (by rw[dc];lia),?_⟩;rw[U_];refine jT (λ i=>cH (Mx.fo n i)) n (λ i hi K' q=>⟨_,rfl,?_⟩) ?_
 . refine dS ⟨by lia,by lia⟩ ⟨bz (by rw[dc];lia),?_⟩;rw[U_];refine jT (λ j=> .int (Mx.dl j i)) n (λ j hj K' q=>⟨_,rfl,?_⟩) ?_
   . refine eq2 (λ h=>Co ?_) λ h=>Co ?_
     . have:j=i:=by lia
       subst this;rw[Mx.dh]at q;exact q
     . rw[Mx.dq (by lia)]at q;exact q
   . have:(List.range n).map (λ j=>D.int (Mx.dl j i))=aj (Mx.fo n i):=by unfold Mx.fo aj;rw[Vl];rfl
     rw[this];exact bS rfl q
 have:(List.range n).map (λ i=>cH (Mx.fo n i))=(Mx.units n).map cH:=by unfold Mx.units;rw[Vl];rfl
 rw[this];exact bS rfl k
theorem Iz{A:List (List Int)}{N w M:Nat}(hA:Mx.aW N w A)(h:∀r∈A,∀x∈r,x.natAbs<=M):∀i c,i<N->c<w->(Mx.g A i c).natAbs<=M:=λ i c hi hc=>by
 have lA:=hA.len;have lr:=hA.row hi;unfold Mx.g;exact h _ (by rw[Mx.aR (by lia)];exact Vb _) _ (getD_mem (by lia))
theorem Kd{x:Int}{e:Nat}(h:x*x<=2^(e+e)):x.natAbs<=2^e:=by
 have h2:((x.natAbs*x.natAbs:Nat):Int)=x*x:=XW;have h3:((2^(e+e):Nat):Int)=2^(e+e):=VN 2 _;rw[<-h2,<-h3]at h;have h4:=XM.mp h;rw[Wt]at h4;exact Nat.mul_self_le_mul_self_iff.mp h4
theorem GY{A:List (List Int)}{N w i c:Nat}(hA:Mx.aW N w A)(hi:i<N)(hc:c<w):Mx.g A i c*Mx.g A i c<=Mx.ae A i i:=by
 rw[Mx.eG hA hi hi]
 have go:∀n,n<=w->(c<n->Mx.g A i c*Mx.g A i c<=Mx.S n λ c=>(A.getD i []).getD c 0*(A.getD i []).getD c 0)/\0<=Mx.S n λ c=>(A.getD i []).getD c 0*(A.getD i []).getD c 0:=λ n=>by
  induction n with
  |zero=>exact λ _=>⟨λ z=>absurd z (Nat.not_lt_zero _),X8 _⟩
  |succ n ih=>
   intro h;obtain⟨h1,h2⟩:=ih (by lia)
   have h3:0<=(A.getD i []).getD n 0*(A.getD i []).getD n 0:=by
    rcases Int.le_total 0 ((A.getD i []).getD n 0)with z|z
    . exact WX z z
    . exact Xo z z
   refine⟨λ hc=>?_,?_⟩
   . rcases YH c n with z|z
     . exact Vc (h1 z) (Int.le_add_of_nonneg_right h3)
     . have:c=n:=by lia
       subst this;exact Int.le_add_of_nonneg_left h2
   . exact Y1 h2 h3
 exact(go w (UB w)).1 hc
theorem JL{A:List (List Int)}{N w b e:Nat}(hA:Mx.aW N w A)(h8:N<=8)(w8:w<=8)(hb:∀r∈A,∀x∈r,x.natAbs<=b)(he:(8*(8*(b*b)))^N<=2^e):Mx.D N (Mx.ae A)<=2^e:=by
 have mem:∀i,i<N->A.getD i []∈A:=λ i hi=>by have:=hA.len;rw[Mx.aR (by lia)];exact Vb _
 have:(Mx.D N (Mx.ae A)).natAbs<=2^e:=UG (Mx.mS h8 λ r c hr hc=>by
  have h1:=om (hb _ (mem r hr)) (hb _ (mem c hc));have h2:=hA.eR _ (mem r hr);unfold Mx.ae;rw[h2]at h1;exact UG h1 (VM _ w8)) he
 have h3:((2^e:Nat):Int)=2^e:=VN 2 _;lia
theorem NY{x y N:Nat}(h1:1<=x)(h2:N<=y):x^N<=x^y:=UL h1 h2
theorem rX{A:List (List Int)}{N w:Nat}{r:List Int}{x:Int}(hA:Mx.aW N w A)(hr:r∈A)(hx:x∈r):∃i c,i<N/\c<w/\x=Mx.g A i c:=by
 obtain⟨i,hi,rfl⟩:=Vu.mp hr;obtain⟨c,hc,rfl⟩:=Vu.mp hx;have lA:=hA.len;have lw:=hA.eR _ hr;refine⟨i,c,by lia,by lia,?_⟩;unfold Mx.g;rw[Mx.aR hi,Mx.aR hc]
theorem Rn{A:List (List Int)}{N w E:Nat}(hA:Mx.aW N w A)(n8:N<=8)(w8:w<=8)(hE:E<=200)(hd:∀i,i<N->Mx.ae A i i<=2^E)(h1:(E+3)*N<=900)(h2:(E+3)*(N-1)<=800):St A N w:=by
 have e8:(8*2^E:Nat)=2^(E+3):=by rw[Wt,We]
 have hd2:∀i,i<N->Mx.ae A i i<=((2^E:Nat):Int):=λ i hi=>by rw[VN];exact hd i hi
 refine⟨hA,by lia,λ r hr x hx=>?_,n8,⟨2^E,λ r c hr hc=>Mx.m8 (Mx.zd (by rw[Mx.bw hA hr,Mx.bw hA hc])) (Mx.d4 hA hr) (Mx.d4 hA hc) (hd2 r hr) (hd2 c hc),?_,?_,Nat.one_le_two_pow⟩,Mx.hV A⟩
 . obtain⟨i,c,hi,hc,rfl⟩:=rX hA hr hx;exact Kd (Vc (GY hA hi hc) (Vc (hd i hi) (Mx.p2 (by lia))))
 . rw[e8,<-W6];exact UL (by decide) h1
 . rw[e8,<-W6];exact UL (by decide) h2
structure Tc(st:af)(a b n:Nat)(T C:List (List Int)):Prop where
 ea:st[a]?=some (.lst (T.map aK))
 eb:st[b]?=some (.lst (C.map aK))
 lf:Lf st n
def Bd(A:List (List Int))(e:Nat):Prop:=∀r∈A,∀x∈r,x.natAbs<=2^e
def pG:bq:=λ ds st K=>∃(n N w:Nat) (A:List (List Int)) (dd mo:Int),ds=[.ref n,.int N,.int dd,.int mo]/\Lf st n/\Mx.aW N w A/\1<=N/\N<=8/\0<=dd/\dd<=3/\mo=1/\∀st' A' T C,Mx.Tn A A' T C N w->Bd T 3->Bd C 3->Lf st' n->(∀m,m<st.length->m≠n->st'[m]?=st[m]?)->K (.tup [cq T,cq (Mx.jB C N)]) st'
def u7:List Str:=["_law_left_here","_law_n","_law_deeds","_law_most","_law_turn_here","_law_columns","_law_k","_law_one","_law_other","_law_many","_law_back"]
def Eg:DS:=(aw (aJ 4 (iV (cy (av gk (ab (aa 1) ag))) [none] (aS 0) ba (a8 ib (ab (aa 0) ag))))
 (aw (aJ 5 (iV (cy (av gk (ab (aa 1) ag))) [none] (aS 0) ba (a8 ib (ab (aa 0) ag))))
 (aw (eX (cE (ab (aa 2) ag)) (aS 6) (aw (aJ 7 (av bg (ab (aa 0) (ab (aa 1) ag))))
 (aw (aJ 8 (av bg (ab (aa 0) (ab (aa 1) ag))))
 (aw (aJ 9 (ah cG (av bg (ab (aa 0) (ab (ah b_ (ah bh (dC (.int 2)) (aa 3)) (dC (.int 1))) ag))) (aa 3)))
 (bR (aH (ah oz (aa 7) (aa 8))) (aw (dm (aa 4) (aa 7) (bJ (ki (ab (ah aT (aa 4) (aa 7)) (ab (ah aT (aa 4) (aa 8)) ag))) [none,none,some 9] (fh 0 1) ba (ah b_ (aa 0) (ah bh (aa 2) (aa 1)))))
 (dm (aa 5) (aa 8) (bJ (ki (ab (ah aT (aa 5) (aa 8)) (ab (ah aT (aa 5) (aa 7)) ag))) [none,none,some 9] (fh 0 1) ba (ah cG (aa 0) (ah bh (aa 2) (aa 1)))))) (aw (dm (aa 4) (aa 7) (bJ (cy (ah aT (aa 4) (aa 7))) [none] (aS 0) ba (jx fH (aa 0))))
 (aw (dm (aa 5) (aa 7) (bJ (cy (ah aT (aa 5) (aa 7))) [none] (aS 0) ba (jx fH (aa 0))))
 (aw (du (qX (aa 4)))
 (du (qX (aa 5)))))))))))
 (aw (aJ 10 (a8 cm (ab (bJ (cE (ab (aa 1) ag)) [none,some 5] (aS 0) ba (a8 cm (ab (bJ (cy (aa 1)) [none,some 0] (aS 0) ba (ah aT (aa 0) (aa 1))) ag))) ag)))
 (aP (iK (ab (a8 cm (ab (bJ (cy (aa 4)) [none] (aS 0) ba (a8 cm (ab (aa 0) ag))) ag)) (ab (aa 10) ag))))))))
theorem z_{t:Int}:∀(r s:List Int),(dJ (aj r) (aj s)).map (λ d=>match d with| .tup [.int a,.int b]=> .int (a-t*b)|_=> .ay)=aj (Mx.eJ r (-t) s)
 | [],_=>rfl
 |_::_,[]=>rfl
 |a::r,b::s=>by
  have:=z_ (t:=t) r s;unfold dJ Mx.eJ at this⊢;simp only[aj,Va,List.zip_cons_cons,YV]at this⊢;rw[this,WD,<-Int.sub_eq_add_neg]
theorem Bd.g{A:List (List Int)}{N w e i c:Nat}(hA:Mx.aW N w A)(h:Bd A e)(hi:i<N)(hc:c<w):(Mx.g A i c).natAbs<=2^e:=Iz hA h i c hi hc
theorem Bd.take{A:List (List Int)}{N w e k j:Nat}{q:Int}(hA:Mx.aW N w A)(h:Bd A e)(hT:Mx.aW N w (Mx.aZ A k q j))(hk:k<N)(hj:j<N)(hq:q.natAbs<=1):Bd (Mx.aZ A k q j) (e+1):=λ r hr x hx=>by
 obtain⟨i,c,hi,hc,rfl⟩:=rX hT hr hx;rw[Mx.mR hA hk hj];have h4:2^(e+1)=2*2^e:=by rw[Xd,We]
 split
 . have h1:=Bd.g hA h hk hc;have h2:=Bd.g hA h hj hc;have h3:(q*Mx.g A j c).natAbs<=1*2^e:=by rw[Vr];exact Xh hq h2
   lia
 . have:=Bd.g hA h hi hc;lia
theorem Bd.neg{A:List (List Int)}{e k:Nat}(h:Bd A e)(hk:k<A.length):Bd (Mx.oR A k) (e+1):=λ r hr x hx=>by
 have h4:2^(e+1)=2*2^e:=by rw[Xd,We]
 unfold Mx.oR at hr;rcases VO hr with z|rfl
 . have:=h r z x hx;lia
 . obtain⟨y,hy,rfl⟩:=U6.mp hx;have:=h _ (by rw[Mx.aR hk];exact Vb _) y hy;lia
theorem Bd.rev{A:List (List Int)}{e:Nat}(h:Bd A e):Bd A.reverse e:=λ r hr=>h r (YG.mp hr)
theorem Ct{r:List Int}:(aj r).map (λ x=>match x with| .int a=>D.int (-a)|_=> .ay)=aj (r.map λ x=> -x):=by
 unfold aj;rw[Vl,Vl];rfl
theorem pU{A:List (List Int)}{k:Nat}{r:List Int}:(A.map aK).set k (.lst (aj r))=(A.set k r).map aK:=by rw[Xe]
theorem BS:Ut pG 4 Eg u7:=by
 rintro ds st K ⟨n,N,w,A,dd,mo,rfl,L,hA,n1,n8,d0,d10,m1,k⟩;refine⟨rfl,?_⟩
 have ln:n<st.length:=by
  obtain⟨x,e,_⟩:=L.ex;exact(Uw.mp e).1
 have lu:=(Mx.jn N).len;refine⟨N,rfl,by lia,ju ⟨bz (by rw[Uz,lu];lia),?_⟩⟩;refine d_ aK trivial (A:=Mx.units N) (mx) (λ e r hr he K' q=>⟨_,rfl,kb he q⟩) ?_;refine⟨N,rfl,by lia,ju ⟨bz (by rw[Uz,lu];lia),?_⟩⟩;refine d_ aK trivial (A:=Mx.units N) (mx) (λ e r hr he K' q=>⟨_,rfl,kb he q⟩) ?_;rw[show(st++[Cell.lst ((Mx.units N).map aK)]).length=st.length+1 by simp]
 have T0:Tc (st++[Cell.lst ((Mx.units N).map aK)]++[Cell.lst ((Mx.units N).map aK)]) st.length (st.length+1) n (Mx.units N) (Mx.units N):=by
  refine⟨by simp,by simp,?_⟩;obtain⟨x,e,h⟩:=L.ex;exact⟨x,by rw[V9,UC ln];exact e,h⟩
 have f0:∀m,m<st.length->m≠n->(st++[Cell.lst ((Mx.units N).map aK)]++[Cell.lst ((Mx.units N).map aK)])[m]?=st[m]?:=λ m hm _=>by rw[V9,UC hm]
 have B0:Bd (Mx.units N) 0:=λ r hr x hx=>by
  obtain⟨i,c,hi,hc,rfl⟩:=rX (Mx.jn N) hr hx;rw[Mx.Ai hi hc];unfold Mx.dl;split<;>decide
 generalize st++[Cell.lst ((Mx.units N).map aK)]++[Cell.lst ((Mx.units N).map aK)]=st0 at T0 f0⊢;have hab:st.length<st.length+1:=by lia
 have han:st.length≠n:=by lia
 have hbn:st.length+1≠n:=by lia
 generalize st.length=a at T0 hab han hbn ln f0 k⊢;generalize a+1=b at T0 hab hbn⊢;refine dS ⟨by lia,by lia⟩ ?_;refine dR (λ rest σ st'=>∃(q:Nat) (A' T C:List (List Int)) (v6 v7 v8 v9 v10:Option D),rest.length+q=dd.toNat/\σ=[some (.ref n),some (.int N),some (.int dd),some (.int mo),some (.ref a),some (.ref b),v6,v7,v8,v9,v10]/\Mx.Tn A A' T C N w/\Bd T q/\Bd C q/\Tc st' a b n T C/\∀m,m<a->m≠n->st'[m]?=st[m]?) ?_ ?_ _ _ _ ⟨0,A,Mx.units N,Mx.units N,none,none,none,none,none,(by rw[dc];lia),rfl,Mx.Tn.refl hA,B0,B0,T0,f0⟩
 . rintro σ st' ⟨q,A',T,C,v6,v7,v8,v9,v10,hq,rfl,tn,bT,bC,tc,fr⟩;refine⟨trivial,?_⟩;have lC:=tn.eZ.len;have lT:=tn.dv.len;have hq10:q<=3:=by simp at hq;lia
   refine dS ⟨by lia,by lia⟩ ⟨bz (by rw[dc];lia),?_⟩
   have er:cC 0 (N:Int).toNat=(List.range N).map λ i=>D.int ((i:Nat):Int):=by
    unfold cC;rw[show(N:Int).toNat=N by lia];exact Vd λ i _=>by rw[XF]
   rw[er];refine gQ (h:=λ i=>cH (Mx.jV C i)) trivial (λ i hi K' t=>⟨_,rfl,fI (aq tc.eb) λ ok aC=>⟨bz (by rw[Uz,lC];lia),?_⟩⟩) ?_
   . refine d_ (λ r=>D.int (r.getD i 0)) (aC _ (aq tc.eb)) (A:=C) bj.lst (λ e r hr he K2 q2=>⟨_,rfl,aA he (dg (by have:=tn.eZ.eR r hr;rw[UM,UJ (by lia),Mx.aR (by lia)];rfl)) q2⟩) ?_;refine bS rfl ?_
     have:C.map (λ r=>D.int (r.getD i 0))=aj (Mx.jV C i):=by
      unfold aj Mx.jV;rw[Vl];rfl
     rw[this];exact t
   refine bS rfl ?_
   have eB:(List.range N).map (λ i=>cH (Mx.jV C i))=(Mx.jB C N).map cH:=by
    unfold Mx.jB;rw[Vl];rfl
   rw[eB];refine fI (aq tc.ea) λ ok aC=>⟨bz (by rw[Uz,lT];lia),?_⟩
   refine d_ cH (aC _ (aq tc.ea)) (A:=T) bj.lst (λ e r hr he K' q=>⟨_,rfl,bS he q⟩) ?_;refine bS rfl ⟨UE rfl,?_⟩;exact k st' A' T C tn (λ r hr x hx=>UG (bT r hr x hx) (UL (by decide) hq10)) (λ r hr x hx=>UG (bC r hr x hx) (UL (by decide) hq10)) tc.lf fr
 . rintro x rest σ st1 ⟨q,A',T,C,v6,v7,v8,v9,v10,hq,rfl,tn,bT,bC,tc,fr⟩ next
   refine⟨trivial,_,rfl,?_⟩;have lC:=tn.eZ.len;have lT:=tn.dv.len;refine⟨n,_,rfl,tc.lf,by lia,by lia,λ o st2 o0 o1 L2 U2=>?_⟩;refine⟨n,_,rfl,L2,by lia,by lia,λ p st3 p0 p1 L3 U3=>?_⟩;refine bc (dw (by decide) (by decide)) (cp ⟨n,_,rfl,L3,by lia,by lia,λ y st4 y0 y1 L4 U4=>cn ?_⟩);have U:=(U2.trans U3).trans U4;have ea:st4[a]?=some (.lst (T.map aK)):=(U.same a han).trans tc.ea;have eb:st4[b]?=some (.lst (C.map aK)):=(U.same b hbn).trans tc.eb;have f4:∀m,m<a->m≠n->st4[m]?=st[m]?:=λ m h1 h2=>(U.same m h2).trans (fr m h1 h2);have sa:a<st4.length:=(Uw.mp ea).1;have sb:b<st4.length:=(Uw.mp eb).1;have ty:(y-mo).natAbs<=1:=by lia
   generalize y-mo=t at ty⊢;obtain⟨i,rfl⟩:∃i:Nat,o=(i:Int):=⟨o.toNat,by lia⟩
   obtain⟨j,rfl⟩:∃j:Nat,p=(j:Int):=⟨p.toNat,by lia⟩
   have hi:i<N:=by lia
   have hj:j<N:=by lia
   clear U U2 U3 U4 L2 L3 tc fr
   have fin:∀(A2 T2 C2:List (List Int)) (s5:af),Mx.Tn A A2 T2 C2 N w->Bd T2 (q+1)->Bd C2 (q+1)->s5=(st4.set a (.lst (T2.map aK))).set b (.lst (C2.map aK))->Tc s5 a b n T2 C2/\∀m,m<a->m≠n->s5[m]?=st[m]?:=by
    rintro A2 T2 C2 s5 _ _ _ rfl;refine⟨⟨by rw[Ux (by lia),UH sa],by rw[UH (by rw[US];exact sb)],?_⟩,λ m h1 h2=>?_⟩
    . obtain⟨x,e,h⟩:=L4.ex;exact⟨x,by rw[Ux hbn,Ux han];exact e,h⟩
    . rw[Ux (by lia),Ux (by lia)];exact f4 m h1 h2
   have rT:∀ {k:Nat},k<N->(T.getD k []).length=N:=λ h=>Mx.bw tn.dv h;have rC:∀ {k:Nat},k<N->(C.getD k []).length=N:=λ h=>Mx.bw tn.eZ h;refine ne2 (λ hne=>cT ?_) λ heq=>?_
   . have hij:i≠j:=λ z=>hne (by rw[z]);refine aA (aq ea) (eN (by lia)) (aA (aq ea) (eN (by lia)) (iR rfl rfl λ ok aC=>⟨bz (by rw[g8,Uz,rT hi];lia),?_⟩));refine comp_map (g:=λ d=>match d with| .tup [.int a,.int b]=> .int (a+t*b)|_=> .ay) (aC _ rfl rfl) _ (λ d hd K' q=>?_) ?_
     . obtain⟨a,b,ha,hb,rfl⟩:=mH hd;exact⟨_,rfl,bc (dw (by lia) (by lia)) (cp q)⟩
     rw[show(dJ (aj (T.getD i [])) (aj (T.getD j []))).map (λ d=>match d with| .tup [.int a,.int b]=>D.int (a+t*b)|_=> .ay)=aj (Mx.eJ (T.getD i []) t (T.getD j []))from ng _ _];refine dO ea (by rw[Uz,lT];exact fz hi) ?_;rw[pU];have eb5:(st4.set a (.lst ((T.set i (Mx.eJ (T.getD i []) t (T.getD j []))).map aK)))[b]?=some (.lst (C.map aK)):=by rw[Ux (by lia)];exact eb
     refine aA (aq eb5) (eN (by lia)) (aA (aq eb5) (eN (by lia)) (iR rfl rfl λ ok aC=>⟨bz (by rw[g8,Uz,rC hj];lia),?_⟩));refine comp_map (g:=λ d=>match d with| .tup [.int a,.int b]=> .int (a-t*b)|_=> .ay) (aC _ rfl rfl) _ (λ d hd K' q=>?_) ?_
     . obtain⟨a,b,ha,hb,rfl⟩:=mH hd;exact⟨_,rfl,bc (dw (by lia) (by lia)) (cn q)⟩
     rw[z_];refine dO eb5 (by rw[Uz,lC];exact fz hj) ?_;rw[pU];have T2:=tn.take (q:= -t) hi hj (UD hij);have e1:Mx.aZ T i (-t) j=T.set i (Mx.eJ (T.getD i []) t (T.getD j [])):=by unfold Mx.aZ;rw[Int.neg_neg]
     have e2:Mx.aZ C j (- -t) i=C.set j (Mx.eJ (C.getD j []) (-t) (C.getD i [])):=by unfold Mx.aZ;rw[Int.neg_neg]
     have b1:=Bd.take tn.dv bT T2.dv hi hj (by lia);have b2:=Bd.take tn.eZ bC T2.eZ hj hi (by lia);rw[e1,e2]at T2;rw[e1]at b1;rw[e2]at b2;obtain⟨tc,fr⟩:=fin _ _ _ _ T2 b1 b2 rfl;exact next _ _ ⟨q+1,_,_,_,_,_,_,_,_,by simp at hq⊢;lia,rfl,T2,b1,b2,tc,fr⟩
   . refine aA (aq ea) (eN (by lia)) (wO ⟨bz (by rw[Uz,rT hi];lia),?_⟩);refine comp_map (g:=λ x=>match x with| .int a=> .int (-a)|_=> .ay) trivial _ (λ x hx K' q=>?_) ?_
     . obtain⟨a,_,rfl⟩:=U6.mp hx;exact⟨_,rfl,eK q⟩
     rw[Ct];refine dO ea (by rw[Uz,lT];exact fz hi) ?_;rw[pU];have eb5:(st4.set a (.lst ((T.set i ((T.getD i []).map λ x=> -x)).map aK)))[b]?=some (.lst (C.map aK)):=by rw[Ux (by lia)];exact eb
     refine aA (aq eb5) (eN (by lia)) (wO ⟨bz (by rw[Uz,rC hi];lia),?_⟩);refine comp_map (g:=λ x=>match x with| .int a=> .int (-a)|_=> .ay) trivial _ (λ x hx K' q=>?_) ?_
     . obtain⟨a,_,rfl⟩:=U6.mp hx;exact⟨_,rfl,eK q⟩
     rw[Ct];refine dO eb5 (by rw[Uz,lC];exact fz hi) ?_;rw[pU];have T2:=(tn.neg hi).rev;have b1:=(Bd.neg (k:=i) bT (by lia)).rev;have b2:=(Bd.neg (k:=i) bC (by lia)).rev;unfold Mx.oR at T2 b1 b2;generalize hX:T.set i ((T.getD i []).map λ x=> -x)=X at T2 b1⊢;generalize hY:C.set i ((C.getD i []).map λ x=> -x)=Y at T2 b2⊢;have ea6:((st4.set a (.lst (X.map aK))).set b (.lst (Y.map aK)))[a]?=some (.lst (X.map aK)):=by rw[Ux (by lia),UH sa]
     refine As (λ K' h=>lW rfl h) ea6 ?_;have eb6:(((st4.set a (.lst (X.map aK))).set b (.lst (Y.map aK))).set a (.lst (X.map aK).reverse))[b]?=some (.lst (Y.map aK)):=by rw[Ux (by lia),UH (by rw[US];exact sb)]
     refine As (λ K' h=>lW rfl h) eb6 ?_
     have e6:(((st4.set a (.lst (X.map aK))).set b (.lst (Y.map aK))).set a (.lst (X.map aK).reverse)).set b (.lst (Y.map aK).reverse)=(st4.set a (.lst (X.reverse.map aK))).set b (.lst (Y.reverse.map aK)):=by
      rw[List.set_comm _ _ (show b≠a by lia),List.set_set,List.set_set,List.map_reverse,List.map_reverse]
     rw[e6];obtain⟨tc,fr⟩:=fin _ _ _ _ T2 b1 b2 rfl;exact next _ _ ⟨q+1,_,_,_,_,_,_,_,_,by simp at hq⊢;lia,rfl,T2,b1,b2,tc,fr⟩
def f7:bq:=λ ds st K=>∃(d:D) (N w:Nat),ds=[d,.int N,.int w]/\iQ st d/\K (.bl (cf st d (.int N) w)) st
def oj:List Str:=["_law_rows_here","_law_many","_law_wide","_law_row"]
def wR:DS:=(aw (bR (fT (cQ (aH (a8 gi (ab (aa 0) (ab (iK (ab (dC (.ty "tuple")) (ab (dC (.ty "list")) ag))) ag))))) (aH (ah oz (a8 dE (ab (aa 0) ag)) (aa 1)))) (aP (dC (.bl false))) bW)
 (aw (eX (cy (aa 0)) (aS 3) (aw (bR (fT (cQ (aH (a8 gi (ab (aa 3) (ab (iK (ab (dC (.ty "tuple")) (ab (dC (.ty "list")) ag))) ag))))) (aH (ah oz (a8 dE (ab (aa 3) ag)) (aa 2)))) (aP (dC (.bl false))) bW)
 (bR (cQ (aH (a8 pM (ab (bJ (cy (aa 3)) [none] (aS 0) ba (mX (a8 gi (ab (aa 0) (ab (dC (.ty "int")) ag))) (vx (aH (a8 gi (ab (aa 0) (ab (dC (.ty "bool")) ag))))))) ag)))) (aP (dC (.bl false))) bW)))
 (aP (dC (.bl true)))))
theorem lD{st:af}{d:D}{K:DK}(h:Any st d)(k:K (.bl (items? st d).isSome) st):gi [d,.tup [.ty "tuple",.ty "list"]] st K:=by
 obtain⟨t,ht⟩:=h;have hm:=jl ht
 have e:([("tuple":String),"list"].any (pq t))=(items? st d).isSome:=by
  rw[<-ny ht];simp only[hZ,UT,UW,V3]at hm;rcases hm with rfl|rfl|rfl|rfl|rfl|rfl<;>rfl
 refine Ci ht rfl (by decide) ?_;rw[e];exact k
theorem vd:Ut f7 3 wR oj:=by
 rintro ds st K ⟨d,N,w,rfl,hd,k⟩;refine⟨rfl,⟨UE rfl,lD hd.any ?_⟩⟩;cases e:items? st d with
 |none=>rw[sV e]at k;exact k
 |some xs=>
  rw[sW e]at k;obtain⟨h1,h2⟩:=hd.ao xs e;refine cP e ?_;by_cases hN:(xs.length:Int)=(N:Int)
  . refine Kk hN ?_;have em:l7 xs.length (.int N)=true:=VA hN;rw[em,W4]at k;refine fI e λ ok aC=>?_;refine dR (λ rest σ st'=>st=st'/\∃v3:Option D,σ=[some d,some (.int N),some (.int w),v3]/\(∀x∈rest,Thing st x)/\(xs.all λ r=>dz st r w)=(rest.all λ r=>dz st r w)) ?_ ?_ _ _ _ ⟨rfl,none,rfl,h1,rfl⟩
    . rintro σ st' ⟨rfl,v3,rfl,_,ea⟩;rw[ea]at k;exact⟨aC _ e,k⟩
    . rintro x rest σ st' ⟨rfl,v3,rfl,ht,ea⟩ next
      have hx:=ht x UZ;refine⟨aC _ e,_,rfl,⟨UE rfl,lD hx.any ?_⟩⟩;rw[V5]at ea;cases ex:items? st x with
      |none=>
       have:dz st x w=false:=by unfold dz;rw[ex]
       rw[this,V7]at ea;rw[ea]at k;exact k
      |some ys=>
       obtain⟨g1,g2⟩:=hx.ao ys ex;refine cP ex ?_;by_cases hw:(ys.length:Int)=(w:Int)
       . refine Kk hw (fI ex λ ok2 hok2=>⟨g2,?_⟩);refine comp_map (g:=λ y=> .bl (isInt y)) (hok2 _ ex) _ (λ y hy K' q=>⟨_,rfl,?_⟩) ?_
         . obtain⟨t,ht⟩:=g1 y hy;rw[<-zt ht]at q;have hm:=jl ht;refine jO ht (by decide) ?_;simp only[hZ,UT,UW,V3]at hm;rcases hm with rfl|rfl|rfl|rfl|rfl|rfl
           . exact q
           . exact jO ht (by decide) q
           . exact jO ht (by decide) q
           . exact q
           . exact q
           . exact q
         refine vC (kC ys) ?_
         have en:dz st x w=ys.all isInt:=by
          unfold dz;rw[ex];simp only[hw,decide_true,W4]
         rw[en]at ea;have el:(ys.map λ y=>isInt y).all id=ys.all isInt:=by rw[Zb];rfl
         rw[el];cases h:ys.all isInt with
         |false=>
          rw[h,V7]at ea;rw[ea]at k;exact k
         |true=>
          rw[h,W4]at ea;exact next _ _ ⟨rfl,_,rfl,λ z hz=>ht z (UQ _ hz),ea⟩
       . have:dz st x w=false:=by
          unfold dz;rw[ex];simp only[hw,decide_false,V7]
         rw[this,V7]at ea;rw[ea]at k;exact neT hw k
  . have em:l7 xs.length (.int N)=false:=UX hN;rw[em,V7]at k;exact neT hN k
def kl:bq:=λ ds st K=>∃(x:D) (A:List (List Int)) (N w:Nat),ds=[cq A,x]/\Mx.aW N w A/\1<=N/\N<=8/\w<=8/\(∀r∈A,∀c∈r,c.natAbs<=2^48)/\Mx.D N (Mx.ae A)≠0/\rk st x/\(∀xs,items? st x=some xs->∀y∈xs,∀ys,items? st y=some ys->∀z∈ys,∀zs,items? st z=some zs->∀i,D.int i∈zs->i.natAbs<=2^500000)/\(∀f t b,items? st x=some [f,t,b]->tk st A N w f t b=true->xD (rowsOf st f) N w)/\(Due st A N w x->∀st',Ext st st'->K (.bl true) st')/\(¬Due st A N w x->∀st',Ext st st'->K (.bl false) st')
def tx:List Str:=["_law_steps","_law_told","_law_made","_law_turn_here","_law_back","_law_n"]
def Ca:DS:=(aw (bR (fT (cQ (aH (a8 gi (ab (aa 1) (ab (iK (ab (dC (.ty "tuple")) (ab (dC (.ty "list")) ag))) ag))))) (aH (ah oz (a8 dE (ab (aa 1) ag)) (dC (.int 3))))) (aP (dC (.bl false))) bW)
 (aw (ER (tU 2 3 4) (aa 1))
 (aw (aJ 5 (a8 dE (ab (aa 0) ag)))
 (aw (bR (fT (cQ (aH (av f7 (ab (aa 2) (ab (aa 5) (ab (a8 dE (ab (ah aT (aa 0) (dC (.int 0))) ag)) ag)))))) (fT (cQ (aH (av f7 (ab (aa 3) (ab (aa 5) (ab (aa 5) ag)))))) (cQ (aH (av f7 (ab (aa 4) (ab (aa 5) (ab (aa 5) ag)))))))) (aP (dC (.bl false))) bW)
 (aw (bR (fT (aH (ah vM (av eV (ab (aa 3) (ab (aa 4) ag))) (av gk (ab (aa 5) ag)))) (aH (ah vM (av eV (ab (aa 3) (ab (aa 0) ag))) (a8 cm (ab (bJ (cy (aa 2)) [none] (aS 0) ba (a8 cm (ab (aa 0) ag))) ag))))) (aP (dC (.bl false))) bW)
 (aP (av nN (ab (aa 2) ag))))))))
theorem wc{st:af}{d:D}{n w e:Nat}(h:cf st d (.int n) w=true)(hb:∀ys,items? st d=some ys->∀z∈ys,∀zs,items? st z=some zs->∀i,D.int i∈zs->i.natAbs<=2^e):∀r∈rowsOf st d,∀c∈r,c.natAbs<=2^e:=λ r hr c hc=>by
 unfold cf at h;cases e1:items? st d with
 |none=>rw[e1]at h;cases h
 |some xs=>
  rw[e1]at h;simp only[UR]at h;have e2:rowsOf st d=xs.map (intsOf st):=by unfold rowsOf;rw[e1]
  rw[e2]at hr;obtain⟨x,hx,rfl⟩:=U6.mp hr;have e3:=(hO (UP.mp h.2 x hx)).1;exact hb xs e1 x hx _ e3 c (U6.mpr ⟨c,hc,rfl⟩)
theorem AK:Ut kl 2 Ca tx:=by
 rintro ds st K ⟨x,A,N,w,rfl,hA,n1,n8,w8,bA,hD,hx,hb,hS,kT,kF⟩;refine⟨rfl,⟨UE rfl,lD hx.any ?_⟩⟩;have lA:=hA.len;cases e:items? st x with
 |none=>exact kF (λ⟨f,t,b,z,_⟩=>by rw[e]at z;cases z) st Ext.refl
 |some xs=>
  refine cP e ?_;by_cases h3:xs.length=3
  . obtain⟨f,t,b,rfl⟩:=uj h3;have hi:=hx.ao _ e
    have no:tk st A N w f t b=false->¬Due st A N w x:=λ z ⟨f',t',b',z1,z2,_⟩=>by
     rw[e]at z1;cases z1;rw[z]at z2;cases z2
    refine Kk rfl ⟨f,t,b,e,?_⟩;refine cP rfl ?_;rw[Uz,lA];have w0:(A.getD 0 []).length=w:=Mx.bw hA (by lia);refine aA (e:=cH (A.getD 0 [])) rfl (Ox (j:=0) (by lia)) (cP rfl ?_);rw[Uz,w0];refine⟨f,N,w,rfl,(hi f (by simp)).1,?_⟩;cases e1:cf st f (.int N) w with
    |false=>exact kF (no (by unfold tk;rw[e1];rfl)) st Ext.refl
    |true=>
     refine⟨t,N,N,rfl,(hi t (by simp)).1,?_⟩;cases e2:cf st t (.int N) N with
     |false=>exact kF (no (by unfold tk qY;rw[e1,e2];rfl)) st Ext.refl
     |true=>
      refine⟨b,N,N,rfl,(hi b (by simp)).1,?_⟩;cases e3:cf st b (.int N) N with
      |false=>exact kF (no (by unfold tk qY xn;rw[e1,e2,e3];rfl)) st Ext.refl
      |true=>
       obtain⟨Rf,Mf⟩:=fP e1;obtain⟨Rt,Mt⟩:=fP e2;obtain⟨Rb,Mb⟩:=fP e3;have bt:=wc e2 (hb _ e t (by simp));have bb:=wc e3 (hb _ e b (by simp))
       have et:tk st A N w f t b=(decide (Mx.mulM (rowsOf st t) (rowsOf st b) N=Mx.units N)&&decide (rowsOf st f=Mx.mulM (rowsOf st t) A w)):=by
        unfold tk qY xn;rw[e1,e2,e3];simp
       refine⟨t,b,_,_,N,N,N,rfl,Rt,Rb,Mt,Mb,n1,by lia,by lia,by lia,bt,bb,λ st1 X1=>?_⟩;refine⟨N,rfl,by lia,G8 gY gY ?_⟩;rw[pX];by_cases g1:Mx.mulM (rowsOf st t) (rowsOf st b) N=Mx.units N
       . rw[VA g1];rw[VA g1,W4]at et;refine⟨t,_,_,A,N,N,w,rfl,X1.si Rt,fJ,Mt,hA,n1,by lia,by lia,by lia,bt,λ r hr c hc=>UG (bA r hr c hc) (UL (by decide) (by decide)),λ st2 X2=>?_⟩;have X12:=X1.trans X2;obtain⟨fs,ef,rf⟩:=Rf.ex;have lf:=rf.len;rw[Mf.len]at lf;refine fI (X12.items ef) λ ok aC=>⟨bz (by lia),?_⟩
         refine d_ cH (aC _ (X12.items ef)) (X12.rg rf) (λ d r hr he K' q=>⟨_,rfl,bS he q⟩) ?_;refine bS rfl (G8 gY gY ?_);rw[pX];by_cases g2:rowsOf st f=Mx.mulM (rowsOf st t) A w
         . rw[VA g2.symm];rw[VA g2]at et;obtain⟨_,_,hDf⟩:=Pe hA et hD;exact⟨f,_,N,w,rfl,X12.si Rf,hS f t b e et,hDf,λ sh st3 X3=>kT ⟨f,t,b,e,et,sh⟩ st3 (X12.trans X3),λ sh st3 X3=>kF (λ⟨f',t',b',z1,_,z3⟩=>by rw[e]at z1;cases z1;exact sh z3) st3 (X12.trans X3)⟩
         . rw[UX λ z=>g2 z.symm];rw[UX g2]at et;exact kF (no et) st2 X12
       . rw[UX g1];rw[UX g1,V7]at et;exact kF (no et) st1 X1
  . exact neT (by lia) (kF (λ⟨f,t,b,z,_⟩=>by rw[e]at z;cases z;exact h3 rfl) st Ext.refl)
def gw(st:af):Nat->D->D
 |0,d=>d
 |n+1,d=>match items? st d with
  |some xs=> .lst (xs.map (gw st n))
  |none=>d
def Rb(st:af):Nat->D->Prop
 |0,d=>Any st d/\items? st d=none
 |n+1,d=>Any st d/\∀xs,items? st d=some xs->xs.length<=1000/\∀x∈xs,Rb st n x
def Frs(F:Nat->Nat->D->D->Prop):Nat->Nat->List D->List D->Prop
 |lo,hi,[],[]=>lo<=hi
 |lo,hi,x::xs,y::ys=>∃m,F lo m x y/\Frs F m hi xs ys
 |_,_,_,_=>False
def Fr(st:af):Nat->Nat->Nat->D->D->Prop
 |0,lo,hi,e,a=>lo<=hi/\e=a
 |n+1,lo,hi,e,a=>(lo<=hi/\e=a/\items? [] a=none)\/∃c xs ys,a= .lst ys/\e= .ref c/\c<hi/\st[c]?=some (.lst xs)/\Frs (Fr st n) lo c xs ys
def dj:Nat->bq
 |0=>λ _ _ _=>False
 |n+1=>λ ds st K=>∃d,ds=[d]/\Rb st n d/\∀st' e,Ext st st'->Fr st' n st.length st'.length e (gw st n d)->K e st'
theorem yw:∀ds st K,¬dj 0 ds st K:=λ _ _ _ h=>h
def nZ:List Str:=["_law_thing"]
def BV(SR:bq):DS:=(aw (bR (aH (a8 gi (ab (aa 0) (ab (iK (ab (dC (.ty "tuple")) (ab (dC (.ty "list")) ag))) ag)))) (aP (iV (cy (aa 0)) [none] (aS 0) ba (av SR (ab (aa 0) ag)))) bW)
 (aP (aa 0)))
theorem Any.none{st st':af}{d:D}(h:Any st d)(e:items? st d=none):items? st' d=none:=by
 obtain⟨t,h⟩:=h;cases d<;>first|rfl|(cases e;done)|skip
 rename_i n;unfold dn at h;simp only at h;split at h
 . rename_i q;rw[aq q]at e;cases e
 . cases h
theorem Any.ext{st st':af}{d:D}(X:Ext st st')(h:Any st d):Any st' d:=by
 obtain⟨t,h⟩:=h;refine⟨t,?_⟩;cases d<;>first|exact h|skip
 rename_i n;unfold dn at h⊢;simp only at h⊢;split at h
 . rename_i q;rw[(X.same n (Uw.mp q).1).trans q];exact h
 . cases h
theorem Any.any{st:af}{d:D}(h:Any st d):∀n,gw st n d=d\/∃xs,items? st d=some xs
 |0=> .inl rfl
 |n+1=>by
  cases e:items? st d with
  |none=>left;unfold gw;rw[e]
  |some xs=>exact .inr ⟨xs,rfl⟩
theorem Rb.any{st:af}{d:D}:∀ {n:Nat},Rb st n d->Any st d
 |0,h=>h.1
 |_+1,h=>h.1
theorem Rb.ext{st st':af}(X:Ext st st'):∀ {n:Nat} {d:D},Rb st n d->Rb st' n d
 |0,d,h=>⟨h.1.ext X,h.1.none h.2⟩
 |n+1,d,h=>by
  refine⟨h.1.ext X,λ xs e=>?_⟩;cases e2:items? st d with
  |none=>rw[h.1.none e2]at e;cases e
  |some ys=>
   rw[X.items e2]at e;cases e;exact⟨(h.2 _ e2).1,λ x hx=>((h.2 _ e2).2 x hx).ext X⟩
theorem Rb.rd{st st':af}(X:Ext st st'):∀ {n:Nat} {d:D},Rb st n d->gw st' n d=gw st n d
 |0,d,h=>rfl
 |n+1,d,h=>by
  unfold gw;cases e2:items? st d with
  |none=>rw[h.1.none e2]
  |some ys=>
   rw[X.items e2];exact Vk D.lst (Vd λ x hx=>((h.2 _ e2).2 x hx).rd X)
theorem Frs.mono{F G:Nat->Nat->D->D->Prop}{H:Nat}(h:∀lo hi x y,hi<=H->F lo hi x y->G lo hi x y)(le:∀lo hi x y,F lo hi x y->lo<=hi):∀ {lo hi:Nat} {xs ys:List D},hi<=H->Frs F lo hi xs ys->lo<=hi/\Frs G lo hi xs ys
 |_,_,[],[],_,q=>⟨q,q⟩
 |_,_,x::xs,y::ys,hH,⟨m,a,b⟩=>by
  obtain⟨l1,g1⟩:=Frs.mono h le hH b;exact⟨UG (le _ _ _ _ a) l1,m,h _ _ _ _ (UG l1 hH) a,g1⟩
 |_,_,[],_::_,_,q=>q.elim
 |_,_,_::_,[],_,q=>q.elim
theorem Fr.le{st:af}:∀ {n lo hi:Nat} {e a:D},Fr st n lo hi e a->lo<=hi
 |0,_,_,_,_,h=>h.1
 |_+1,_,_,_,_,.inl h=>h.1
 |n+1,lo,hi,_,_,.inr ⟨c,xs,ys,_,_,h,_,f⟩=>by
  have:=(Frs.mono (G:=Fr st n) (H:=c) (λ _ _ _ _ _ z=>z) (λ _ _ _ _ z=>Fr.le z) (UB _) f).1;lia
theorem Fr.ext{st st':af}(X:Ext st st'):∀ {n lo hi:Nat} {e a:D},hi<=st.length->Fr st n lo hi e a->Fr st' n lo hi e a
 |0,_,_,_,_,_,h=>h
 |_+1,_,_,_,_,_,.inl h=> .inl h
 |n+1,lo,hi,_,_,l,.inr ⟨c,xs,ys,h1,h2,h3,h4,f⟩=> .inr ⟨c,xs,ys,h1,h2,h3,(X.same c (by lia)).trans h4,(Frs.mono (H:=c) (λ _ _ _ _ z q=>Fr.ext X (by lia) q) (λ _ _ _ _ z=>Fr.le z) (UB _) f).2⟩
theorem Frs.snoc{F:Nat->Nat->D->D->Prop}{m hi:Nat}{x y:D}(h:F m hi x y)(l:m<=hi)(z:∀lo m2 x y,m2<=lo->F lo hi x y->F m2 hi x y):∀ {lo:Nat} {xs ys:List D},Frs F lo m xs ys->Frs F lo hi (xs++[x]) (ys++[y])
 |_,[],[],q=>⟨hi,z _ _ _ _ q h,UB _⟩
 |_,_::_,_::_,⟨k,a,b⟩=>⟨k,a,Frs.snoc h l z b⟩
 |_,[],_::_,q=>q.elim
 |_,_::_,[],q=>q.elim
theorem Frs.low{F:Nat->Nat->D->D->Prop}(z:∀lo m2 hi x y,m2<=lo->F lo hi x y->F m2 hi x y):∀ {lo m2 hi:Nat} {xs ys:List D},m2<=lo->Frs F lo hi xs ys->Frs F m2 hi xs ys
 |_,_,_,[],[],h,q=>UG h q
 |_,_,_,_::_,_::_,h,⟨k,a,b⟩=>⟨k,z _ _ _ _ _ h a,b⟩
 |_,_,_,[],_::_,_,q=>q.elim
 |_,_,_,_::_,[],_,q=>q.elim
theorem Fr.low{st:af}:∀ {n lo m2 hi:Nat} {e a:D},m2<=lo->Fr st n lo hi e a->Fr st n m2 hi e a
 |0,_,_,_,_,_,l,h=>⟨UG l h.1,h.2⟩
 |_+1,_,_,_,_,_,l,.inl h=> .inl ⟨UG l h.1,h.2⟩
 |n+1,_,_,_,_,_,l,.inr ⟨c,xs,ys,h1,h2,h3,h4,f⟩=> .inr ⟨c,xs,ys,h1,h2,h3,h4,Frs.low (F:=Fr st n) (λ _ _ _ _ _ l q=>Fr.low l q) l f⟩
theorem zJ:∀n ds st K,dj (n+1) ds st K->ds.length=1/\BV (dj n) {nx:=λ _ st'=>K .ay st',rt:=K} (aI nZ ds) st:=by
 rintro n ds st K ⟨d,rfl,hd,k⟩;refine⟨rfl,⟨UE rfl,lD hd.any ?_⟩⟩;cases e:items? st d with
 |none=>
  refine k st d Ext.refl ?_;have e2:=hd.any.none (st':=[]) e;have er:gw st n d=d:=(hd.any.any n).resolve_right λ⟨xs,z⟩=>by rw[e]at z;cases z
  rw[er];cases n with
  |zero=>exact⟨UB _,rfl⟩
  |succ n=>exact .inl ⟨UB _,rfl,e2⟩
 |some xs=>
  cases n with
  |zero=>have:=hd.2;rw[e]at this;cases this
  |succ n=>
   obtain⟨hl,hx⟩:=hd.2 xs e;have er:gw st (n+1) d= .lst (xs.map (gw st n)):=by unfold gw;rw[e]
   rw[er]at k;refine cT (fI e λ ok aC=>⟨bz hl,?_⟩);refine gS (λ rest acc st'=>∃pre,pre++rest=xs/\Ext st st'/\Frs (Fr st' n) st.length st'.length acc (pre.map (gw st n))) ?_ ?_ _ _ _ ⟨[],rfl,Ext.refl,UB _⟩
   . rintro acc st' ⟨pre,hp,X,f⟩;rw[VZ]at hp;subst hp;refine⟨aC _ (X.items e),k _ _ (X.trans Ext.push) (.inr ⟨st'.length,acc,_,rfl,rfl,by simp,by simp,?_⟩)⟩;exact(Frs.mono (H:=st'.length) (λ _ _ _ _ z q=>Fr.ext Ext.push z q) (λ _ _ _ _ z=>Fr.le z) (UB _) f).2
   . rintro x rest acc st' ⟨pre,hp,X,f⟩ next
     have hxx:=hx x (by rw[<-hp];simp);refine⟨aC _ (X.items e),_,rfl,x,rfl,hxx.ext X,λ st2 y X2 fy=>?_⟩;rw[hxx.rd X]at fy;refine next _ _ ⟨pre++[x],by rw[<-hp];simp,X.trans X2,?_⟩
     rw[VR];exact Frs.snoc fy X2.len (λ _ _ _ _ l q=>Fr.low l q) (Frs.mono (H:=st'.length) (λ _ _ _ _ z q=>Fr.ext X2 z q) (λ _ _ _ _ z=>Fr.le z) (UB _) f).2
structure Pp(M U B:List (List Int))(N w e:Nat):Prop where
 m:Mx.aW N w M
 u:Mx.aW N N U
 b:Mx.aW N N B
 bm:∀r∈M,∀x∈r,x.natAbs+2<=2^e
 bu:∀r∈U,∀x∈r,x.natAbs+2<=2^450000
 bb:∀r∈B,∀x∈r,x.natAbs+2<=2^450000
 e1:1<=e/\2*e+3<=200
 e2:(2*e+6)*N<=900
 e3:(2*e+6)*(N-1)<=800
def n_:bq:=λ ds st K=>∃(n:Nat) (A:List (List Int)) (N w:Nat),ds=[.ref n,cq A]/\Lf st n/\Dr A N w/\(∀k,k<=N->Mx.D k (Mx.ae A)≠0)/\∀st' M U B e,Pp M U B N w e->Lf st' n->K (.lst [cq M,cq U,cq B]) st'
def tD:List Str:=["_law_left_here","_law_steps","_law_n","_law_way","_law_made","_law_turn_here","_law_back","_law_further","_law_undone"]
def B4:DS:=(aw (aJ 2 (a8 dE (ab (aa 1) ag)))
 (aw (aJ 3 (av bg (ab (aa 0) (ab (dC (.int 6)) ag))))
 (aw (bR (aH (ah fi (aa 3) (dC (.int 0)))) (aP (fg (ab (aa 1) (ab (av gk (ab (aa 2) ag)) (ab (av gk (ab (aa 2) ag)) ag))))) bW)
 (aw (zG (oq 4 5 6) (av wN (ab (aa 1) ag)))
 (aw (bR (aH (ah mm (aa 3) (dC (.int 3)))) (aw (zG (fh 7 8) (av pG (ab (aa 0) (ab (aa 2) (ab (ah b_ (dC (.int 1)) (av bg (ab (aa 0) (ab (dC (.int 3)) ag)))) (ab (dC (.int 1)) ag))))))
 (aP (fg (ab (av eV (ab (aa 7) (ab (aa 4) ag))) (ab (av eV (ab (aa 7) (ab (aa 5) ag))) (ab (av eV (ab (aa 6) (ab (aa 8) ag))) ag)))))) bW)
 (aP (fg (ab (aa 4) (ab (aa 5) (ab (aa 6) ag))))))))))
theorem Ts{A:List (List Int)}{N w:Nat}(dr:Dr A N w):(N<=2/\Mx.D N (Mx.ae A)<=2^172)\/(N<=4/\Mx.D N (Mx.ae A)<=2^104)\/Mx.D N (Mx.ae A)<=2^80:=by
 have h8:=dr.le;rcases dr.Ol with⟨n4,n2|h⟩|h
 . exact .inl ⟨n2,JL (b:=1000000000000) dr.is h8 dr.w8 (λ r hr x hx=>by have:=dr.bd r hr x hx;unfold Sm at this;lia) (UG (NY (by decide) n2) (by decide))⟩
 . exact .inr (.inl ⟨n4,JL (b:=999) dr.is h8 dr.w8 h (UG (NY (by decide) n4) (by decide))⟩)
 . exact .inr (.inr (JL (b:=4) dr.is h8 dr.w8 h (UG (NY (by decide) h8) (by decide))))
theorem Bb{P Q:List (List Int)}{m p n a b e:Nat}(hP:Mx.aW m p P)(hQ:Mx.aW p n Q)(p8:p<=8)(bP:Bd P a)(bQ:Bd Q b)(h:a+b+3<=e):Bd (Mx.mulM P Q n) e:=λ r hr x hx=>by
 obtain⟨i,c,hi,hc,rfl⟩:=rX (Mx.rW hP hQ) hr hx;rw[Mx.vV hP hQ hi]
 have h1:=Mx.KI (n:=p) (f:=λ k=>Mx.g P i k*Mx.g Q k c) (m:=2^a*2^b) λ k hk=>by
  rw[Vr];exact Xh (Iz hP bP i k hi hk) (Iz hQ bQ k c hk hc)
 have h2:p*(2^a*2^b)<=2^(a+b+3):=by
  rw[Wt,Wt,We];exact Nat.mul_le_mul_left _ p8
 exact UG h1 (UG h2 (UL (by decide) h))
theorem Bd.two{A:List (List Int)}{e f:Nat}(h:Bd A e)(he:e+1<=f)(e1:1<=e):∀r∈A,∀x∈r,x.natAbs+2<=2^f:=λ r hr x hx=>by
 have h1:=h r hr x hx;have h2:2^(e+1)=2*2^e:=by rw[Xd,We]
 have h3:2^1<=2^e:=UL (by decide) e1;have h4:2^(e+1)<=2^f:=UL (by decide) he;generalize 2^e=p at h1 h2 h3;generalize 2^f=q at h4⊢;generalize 2^(e+1)=s at h2 h4;lia
theorem LJ{A A' U C:List (List Int)}{N w:Nat}(dr:Dr A N w)(T:Mx.Tn A A' U C N w)(hDn:∀k,k<=N->Mx.D k (Mx.ae A')≠0)(sh:Mx.Sh (Mx.ae A') N):∃e,Bd A' e/\1<=e/\2*(e+7)+3<=200/\(2*(e+7)+6)*N<=900/\(2*(e+7)+6)*(N-1)<=800:=by
 have n8:=dr.le;have w8:=dr.w8;have e:=T.same dr.is
 have bd:∀ {d f:Nat},Mx.D N (Mx.ae A')<=2^d->N+2+d<=f+f->Bd A' f:=λ{d f} hd hf r hr x hx=>by
  obtain⟨i,c,hi,hc,rfl⟩:=rX T.isA hr hx;exact Kd (Vc (GY T.isA hi hc) (Vc (Mx.JK T.isA hDn sh n8 hd hi) (Mx.p2 hf)))
 rcases Ts dr with⟨n,h⟩|⟨n,h⟩|h
 . rw[<-e]at h;exact⟨88,bd h (by lia),by lia,by lia,by lia,by lia⟩
 . rw[<-e]at h;exact⟨55,bd h (by lia),by lia,by lia,by lia,by lia⟩
 . rw[<-e]at h;exact⟨45,bd h (by lia),by lia,by lia,by lia,by lia⟩
theorem Dr.gr{A:List (List Int)}{N w:Nat}(h:Dr A N w):(∀k,k<=N->(Mx.D k (Mx.ae A)).natAbs<=2^744)/\∀i,i<N->Mx.ae A i i<=2^748:=by
 have g:∀r c,r<N->c<N->(Mx.ae A r c).natAbs<=2^90:=λ r c hr hc=>by
  have q:∀i,i<N->∀x∈A.getD i [],x.natAbs<=1000000000000:=λ i hi x hx=>by have:=h.bd _ (h.mem hi) x hx;unfold Sm at this;lia
  have h1:=om (q r hr) (q c hc);have h2:=h.is.eR _ (h.mem hr);have h3:=h.wd;unfold Mx.ae;rw[h2]at h1;have h4:w*(1000000000000*1000000000000)<=9*(1000000000000*1000000000000):=VM _ h3;exact UG h1 (UG h4 (by decide))
 have n8:=h.le;refine⟨λ k hk=>UG (Mx.mS (by lia) λ r c hr hc=>g r c (by lia) (by lia)) ?_,λ i hi=>?_⟩
 . rw[show(8*2^90:Nat)=2^93 by decide,<-W6];exact UL (by decide) (by lia)
 . have h1:=g i i hi hi;have h2:(2:Nat)^90<=2^748:=UL (by decide) (by decide);have h3:((2^748:Nat):Int)=2^748:=VN 2 _;rw[<-h3];lia
theorem AB:Ut n_ 2 B4 tD:=by
 rintro ds st K ⟨n,A,N,w,rfl,L,dr,hD,k⟩;refine⟨rfl,?_⟩;have n8:=dr.le;have w8:=dr.w8;have n1:=dr.n1;have hA:=dr.is;have lA:=hA.len;refine cP rfl ?_;rw[Uz,lA];refine⟨n,6,rfl,L,by decide,by decide,λ y st1 y0 y1 L1 U1=>eq2 (λ hy=>cT ?_) λ hy=>?_⟩
 . refine⟨N,rfl,by lia,⟨N,rfl,by lia,⟨UE rfl,?_⟩⟩⟩
   have bu:∀r∈Mx.units N,∀x∈r,x.natAbs+2<=2^450000:=λ r hr x hx=>by
    obtain⟨i,c,hi,hc,rfl⟩:=rX (Mx.jn N) hr hx;rw[Mx.Ai hi hc];have:2^2<=2^450000:=UL (by decide) (by decide);generalize 2^450000=p at this⊢;unfold Mx.dl;split<;>simp<;>omega
   obtain⟨e,be,ee⟩:∃e,(∀r∈A,∀x∈r,x.natAbs+2<=2^e)/\(1<=e/\2*e+3<=200)/\(2*e+6)*N<=900/\(2*e+6)*(N-1)<=800:=by
    rcases dr.Ol with⟨n4,n2|h⟩|h
    . exact⟨40,λ r hr x hx=>by have:=dr.bd r hr x hx;unfold Sm at this;lia,by lia,by lia,by lia⟩
    . exact⟨10,λ r hr x hx=>by have:=h r hr x hx;lia,by lia,by lia,by lia⟩
    . exact⟨3,λ r hr x hx=>by have:=h r hr x hx;lia,by lia,by lia,by lia⟩
   exact k st1 A _ _ e ⟨hA,Mx.jn N,Mx.jn N,be,bu,bu,ee.1,ee.2.1,ee.2.2⟩ L1
 obtain⟨d1,d2⟩:=dr.gr;refine⟨_,A,N,w,rfl,fJ,dr.st,d1,d2,dr.wd,hD,λ st2 A5 U5 C5 X2 T5 sm5 sh5=>⟨_,rfl,?_⟩⟩;have hDn:∀k,k<=N->Mx.D k (Mx.ae A5)≠0:=λ k hk=>by have:=(sm5.D k hk).1;lia
 obtain⟨e,bM,e1,e2,e3,e4⟩:=LJ dr T5 hDn sh5;have bU:Bd U5 400000:=sm5.eU;have bB:Bd (Mx.jB C5 N) 400000:=Hr T5.eZ sm5.eC;have hB:=KJ T5.eZ
 have L2:Lf st2 n:=by
  obtain⟨x,e,h⟩:=L1.ex;exact⟨x,(X2.same n (Uw.mp e).1).trans e,h⟩
 refine C6 (λ h3=>cT ?_) λ h3=>?_
 . refine⟨n,3,rfl,L2,by decide,by decide,λ z st3 z0 z1 L3 U3=>cp ?_⟩;refine⟨n,N,w,A5,_,1,rfl,L3,T5.isA,n1,n8,by omega,by omega,rfl,λ st4 A6 T C tn bT bC L4 fr=>⟨_,rfl,?_⟩⟩;have hBk:=KJ tn.eZ;have bBk:Bd (Mx.jB C N) 3:=Hr tn.eZ bC;have le5:∀ {X:List (List Int)} {f:Nat},Bd X f->f<=500000->∀r∈X,∀x∈r,x.natAbs<=2^500000:=λ h hf r hr x hx=>UG (h r hr x hx) (UL (by decide) hf);refine⟨_,_,T,A5,N,N,w,rfl,fJ,fJ,tn.dv,T5.isA,n1,by omega,by omega,by omega,le5 bT (by decide),le5 bM (by omega),λ st5 X5=>?_⟩;refine⟨_,_,T,U5,N,N,N,rfl,fJ,fJ,tn.dv,T5.dv,n1,by omega,by omega,by omega,le5 bT (by decide),le5 bU (by decide),λ st6 X6=>?_⟩;refine⟨_,_,Mx.jB C5 N,Mx.jB C N,N,N,N,rfl,fJ,fJ,hB,hBk,n1,by omega,by omega,by omega,le5 bB (by decide),le5 bBk (by decide),λ st7 X7=>⟨UE rfl,?_⟩⟩;have X47:=(X5.trans X6).trans X7;refine k st7 _ _ _ (e+7) ⟨Mx.rW tn.dv T5.isA,Mx.rW tn.dv T5.dv,Mx.rW hB hBk,(Bb tn.dv T5.isA n8 bT bM (UB _)).two (by omega) (by omega),(Bb tn.dv T5.dv n8 bT bU (UB _)).two (by decide) (by decide),(Bb hB hBk n8 bB bBk (UB _)).two (by decide) (by decide),⟨by omega,e2⟩,e3,e4⟩ ?_;obtain⟨x,e,h⟩:=L4.ex;exact⟨x,(X47.same n (Uw.mp e).1).trans e,h⟩
 . refine⟨UE rfl,?_⟩;exact k st2 _ _ _ (e+7) ⟨T5.isA,T5.dv,hB,bM.two (by lia) e1,bU.two (by decide) (by decide),bB.two (by decide) (by decide),⟨by lia,e2⟩,e3,e4⟩ L2
def xS(m:Nat)(y:D):Prop:=(∃i:Int,y= .int i/\i.natAbs<=m)\/y∈[D.bl false,.bl true,.str "1",.tup [.int 1,.int 1],.lst [],.tup []]
def O3(R:Nat->Prop)(m:Nat)(x:D):Prop:=(∃r,R r/\x= .ref r)\/∃ys,x= .lst ys/\ys.length<=20/\∀y∈ys,xS m y
def rD:List D:=[.lst [],.str "made",.tup [.int 1,.int 2],.tup [],.int 0,.lst [.lst []]]
structure SG(c:Nat)(P:Nat->Nat)(R:Nat->Nat->Prop):Prop where
 pc:∀i,i<3->P i≠c
 rc:∀i r,i<3->R i r->r≠c
 rp:∀i j r,i<3->j<3->R i r->r≠P j
 rr:∀i j r,i<3->j<3->R i r->R j r->i=j
 pp:∀i j,i<3->j<3->P i=P j->i=j
structure Inv(st:af)(c:Nat)(P:Nat->Nat)(R:Nat->Nat->Prop)(b:Nat->Nat):Prop where
 mZ:SG c P R
 row:∀i r,i<3->R i r->∃ys,st[r]?=some (.lst ys)/\ys.length<=20/\∀y∈ys,xS (b i) y
 rows:∀i,i<3->∃xs,st[P i]?=some (.lst xs)/\xs.length<=20/\∀x∈xs,O3 (R i) (b i) x
 pap:∃zs,st[c]?=some (.lst zs)/\zs.length<=4/\∀k z,zs[k]?=some z->(∃i,i<3/\z= .ref (P i)/\(k=0->i=0))\/z∈rD
structure Pz(st:af)(n c:Nat)(P:Nat->Nat)(R:Nat->Nat->Prop)(b:Nat->Nat):Prop where
 mZ:SG c P R
 nc:n≠c
 np:∀i,i<3->P i≠n
 nr:∀i r,i<3->R i r->r≠n
 row:∀i r,i<3->R i r->∃q:List Int,st[r]?=some (.lst (aj q))/\1<=q.length/\q.length<=8/\∀x∈q,x.natAbs+2<=b i
 rows:∀i,i<3->∃xs,st[P i]?=some (.lst xs)/\1<=xs.length/\xs.length<=8/\∀x∈xs,∃r,R i r/\x= .ref r
 pap:st[c]?=some (.lst [.ref (P 0),.ref (P 1),.ref (P 2)])
def nC:bq:=λ ds st K=>∃(n c:Nat) (P:Nat->Nat) (R:Nat->Nat->Prop) (b:Nat->Nat),ds=[.ref n,.ref c]/\Lf st n/\Pz st n c P R b/\(∀i,2<=b i)/\∀st',Inv st' c P R b->K (.ref c) st'
def tF:List Str:=["_law_left_here","_law_paper_here","_law_way","_law_at_here","_law_rows_here","_law_row","_law_place"]
def Bw:DS:=(aw (aJ 2 (av bg (ab (aa 0) (ab (dC (.int 13)) ag))))
 (aw (aJ 3 (av bg (ab (aa 0) (ab (dC (.int 3)) ag))))
 (aw (aJ 4 (ah aT (aa 1) (aa 3)))
 (aw (aJ 5 (ah aT (aa 4) (av bg (ab (aa 0) (ab (a8 dE (ab (aa 4) ag)) ag)))))
 (aw (aJ 6 (av bg (ab (aa 0) (ab (a8 dE (ab (aa 5) ag)) ag))))
 (aw (bR (aH (ah mm (aa 2) (dC (.int 4)))) (dm (aa 5) (aa 6) (ah b_ (ah aT (aa 5) (aa 6)) (ah aT (fg (ab (dC (.int 1)) (ab (jx fH (dC (.int 1))) (ab (dC (.int 2)) (ab (jx fH (dC (.int 2))) ag))))) (aa 2)))) (bR (aH (ah fi (aa 2) (dC (.int 4)))) (dm (aa 5) (aa 6) (ah aT (fg (ab (dC (.bl false)) (ab (dC (.bl true)) ag))) (ah gF (ah aT (aa 5) (aa 6)) (dC (.int 2))))) (bR (aH (ah fi (aa 2) (dC (.int 5)))) (du (qX (aa 4))) (bR (aH (ah fi (aa 2) (dC (.int 6)))) (du (pA (aa 4))) (bR (aH (ah fi (aa 2) (dC (.int 7)))) (du (dY (aa 4) (a8 ib (ab (aa 5) ag)))) (bR (aH (ah fi (aa 2) (dC (.int 8)))) (du (dY (aa 5) (av bg (ab (aa 0) (ab (dC (.int 3)) ag))))) (bR (aH (ah fi (aa 2) (dC (.int 9)))) (dm (aa 1) (aa 3) (ah aT (fg (ab (fg ag) (ab (dC (.str "made")) (ab (iK (ab (dC (.int 1)) (ab (dC (.int 2)) ag))) (ab (iK ag) (ab (dC (.int 0)) (ab (fg (ab (fg ag) ag)) ag))))))) (av bg (ab (aa 0) (ab (dC (.int 6)) ag))))) (bR (aH (ah fi (aa 2) (dC (.int 10)))) (dm (aa 5) (aa 6) (ah aT (fg (ab (dC (.str "1")) (ab (iK (ab (dC (.int 1)) (ab (dC (.int 1)) ag))) (ab (fg ag) (ab (iK ag) ag))))) (av bg (ab (aa 0) (ab (dC (.int 4)) ag))))) (bR (aH (ah fi (aa 2) (dC (.int 11)))) (du (dY (aa 1) (aa 4))) (du (pA (aa 1))))))))))))
 (aP (aa 1))))))))
theorem Pz.upd{st st':af}{n c:Nat}{P:Nat->Nat}{R:Nat->Nat->Prop}{b:Nat->Nat}(h:Pz st n c P R b)(U:Upd st n st'):Pz st' n c P R b:=by
 refine⟨h.mZ,h.nc,h.np,h.nr,λ i r hi hr=>?_,λ i hi=>?_,(U.same c (UD h.nc)).trans h.pap⟩
 . obtain⟨q,e,z⟩:=h.row i r hi hr;exact⟨q,(U.same r (h.nr i r hi hr)).trans e,z⟩
 . obtain⟨xs,e,z⟩:=h.rows i hi;exact⟨xs,(U.same _ (h.np i hi)).trans e,z⟩
theorem mh{q:List Int}{m:Nat}(h:∀x∈q,x.natAbs+2<=m):∀y∈aj q,xS m y:=λ y hy=>by
 obtain⟨x,hx,rfl⟩:=U6.mp hy;exact .inl ⟨x,rfl,by have:=h x hx;lia⟩
theorem Pz.inv{st:af}{n c:Nat}{P:Nat->Nat}{R:Nat->Nat->Prop}{b:Nat->Nat}(h:Pz st n c P R b):Inv st c P R b:=by
 refine⟨h.mZ,λ i r hi hr=>?_,λ i hi=>?_,_,h.pap,by simp,λ k z hz=> .inl ?_⟩
 . obtain⟨q,e,_,q8,z⟩:=h.row i r hi hr;exact⟨_,e,by rw[Uz];lia,mh z⟩
 . obtain⟨xs,e,_,q8,z⟩:=h.rows i hi;exact⟨xs,e,by lia,λ x hx=> .inl (z x hx)⟩
 . match k,hz with
   |0,hz=>cases hz;exact⟨0,by lia,rfl,λ _=>rfl⟩
   |1,hz=>cases hz;exact⟨1,by lia,rfl,by lia⟩
   |2,hz=>cases hz;exact⟨2,by lia,rfl,by lia⟩
   |_+3,hz=>cases hz
section
variable {st:af}{c:Nat}{P:Nat->Nat}{R:Nat->Nat->Prop}{b:Nat->Nat}
theorem Inv.vY(h:Inv st c P R b){i r:Nat}{ys:List D}(hi:i<3)(hr:R i r)(hl:ys.length<=20)(hy:∀y∈ys,xS (b i) y):Inv (st.set r (.lst ys)) c P R b:=by
 refine⟨h.mZ,λ j s hj hs=>?_,λ j hj=>?_,?_⟩
 . by_cases e:r=s
   . subst e;have:=h.mZ.rr i j r hi hj hr hs;subst this;obtain⟨q,e,_⟩:=h.row i r hi hr;exact⟨ys,UH (Uw.mp e).1,hl,hy⟩
   . obtain⟨q,e2,z⟩:=h.row j s hj hs;exact⟨q,by rw[Ux e];exact e2,z⟩
 . obtain⟨xs,e,z⟩:=h.rows j hj;exact⟨xs,by rw[Ux (h.mZ.rp i j r hi hj hr)];exact e,z⟩
 . obtain⟨zs,e,z⟩:=h.pap;exact⟨zs,by rw[Ux (h.mZ.rc i r hi hr)];exact e,z⟩
theorem Inv.tK(h:Inv st c P R b){i:Nat}{xs:List D}(hi:i<3)(hl:xs.length<=20)(hx:∀x∈xs,O3 (R i) (b i) x):Inv (st.set (P i) (.lst xs)) c P R b:=by
 refine⟨h.mZ,λ j s hj hs=>?_,λ j hj=>?_,?_⟩
 . obtain⟨q,e2,z⟩:=h.row j s hj hs;exact⟨q,by rw[Ux (UD (h.mZ.rp j i s hj hi hs))];exact e2,z⟩
 . by_cases e:i=j
   . subst e;obtain⟨q,e,_⟩:=h.rows i hi;exact⟨xs,UH (Uw.mp e).1,hl,hx⟩
   . obtain⟨q,e2,z⟩:=h.rows j hj;exact⟨q,by rw[Ux λ w=>e (h.mZ.pp i j hi hj w)];exact e2,z⟩
 . obtain⟨zs,e,z⟩:=h.pap;exact⟨zs,by rw[Ux (h.mZ.pc i hi)];exact e,z⟩
theorem Inv.wW(h:Inv st c P R b){zs:List D}(hl:zs.length<=4)(hz:∀k z,zs[k]?=some z->(∃i,i<3/\z= .ref (P i)/\(k=0->i=0))\/z∈rD):Inv (st.set c (.lst zs)) c P R b:=by
 refine⟨h.mZ,λ j s hj hs=>?_,λ j hj=>?_,?_⟩
 . obtain⟨q,e2,z⟩:=h.row j s hj hs;exact⟨q,by rw[Ux (UD (h.mZ.rc j s hj hs))];exact e2,z⟩
 . obtain⟨q,e2,z⟩:=h.rows j hj;exact⟨q,by rw[Ux (UD (h.mZ.pc j hj))];exact e2,z⟩
 . obtain⟨q,e,_⟩:=h.pap;exact⟨zs,UH (Uw.mp e).1,hl,hz⟩
end
theorem y8:Ut nC 2 Bw tF:=by
 rintro ds st K ⟨n,c,P,R,b,rfl,L,pz,b2,k⟩;refine⟨rfl,?_⟩;refine⟨n,13,rfl,L,by decide,by decide,λ y st1 y0 y1 L1 U1=>?_⟩;refine⟨n,3,rfl,L1,by decide,by decide,λ a st2 a0 a1 L2 U2=>?_⟩;have pz2:=(pz.upd U1).upd U2;obtain⟨i,rfl⟩:∃i:Nat,a=(i:Int):=⟨a.toNat,by lia⟩
 have hi:i<3:=by lia
 have ei:di [D.ref (P 0),.ref (P 1),.ref (P 2)] (i:Int)=some (.ref (P i)):=by
  match i,hi with
  |0,_=>rfl
  |1,_=>rfl
  |2,_=>rfl
 refine aA (aq pz2.pap) ei ?_;obtain⟨xs,ex,x1,x8,hx⟩:=pz2.rows i hi;refine cP (aq ex) ⟨n,_,rfl,L2,by lia,by lia,λ p st3 p0 p1 L3 U3=>?_⟩;have ex3:=(U3.same _ (pz.np i hi)).trans ex;have pz3:=pz2.upd U3;obtain⟨j,rfl⟩:∃j:Nat,p=(j:Int):=⟨p.toNat,by lia⟩
 have hj:j<xs.length:=by lia
 obtain⟨r,hr,er⟩:=hx xs[j] (Vb _);refine aA (aq ex3) (dg ((UJ hj).trans (Vk some er))) ?_;obtain⟨q,eq,q1,q8,hq⟩:=pz3.row i r hi hr;refine cP (aq eq) ⟨n,_,rfl,L3,by rw[Uz];lia,by rw[Uz];lia,λ s st4 s0 s1 L4 U4=>?_⟩;rw[Uz]at s1;have ex4:=(U4.same _ (pz.np i hi)).trans ex3;have eq4:=(U4.same _ (pz.nr i r hi hr)).trans eq;have pz4:=pz3.upd U4;obtain⟨m,rfl⟩:∃m:Nat,s=(m:Int):=⟨s.toNat,by lia⟩
 have hm:m<q.length:=by lia
 have eqm:di (aj q) (m:Int)=some (.int q[m]):=dg (by rw[UM,UJ hm];rfl);have hqm:=hq q[m] (Vb _);have iv:=pz4.inv;clear pz pz2 pz3 U1 U2 U3 L L1 L2 L3 ex ex3 eq ei;have hixm:jE (aj q).length (m:Int)=some m:=fz (by rw[Uz];exact hm);have setm:∀ {d:D},xS (b i) d->K (.ref c) (st4.set r (.lst ((aj q).set m d))):=λ hd=>k _ (iv.vY hi hr (by rw[US,Uz];lia) λ y hy=>(VO hy).elim (mh hq y) λ e=>e▸hd);refine C6 (λ h4=>cT ?_) λ h4=>?_
 . refine aA (aq eq4) eqm ?_;have e:y=0\/y=1\/y=2\/y=3:=by lia
   rcases e with rfl|rfl|rfl|rfl
   all_goals
    refine eK (eK ⟨UE rfl,aA rfl rfl (cp ?_)⟩);refine dO eq4 hixm (setm (.inl ⟨_,rfl,by lia⟩))
 refine eq2 (λ h5=>cT ?_) λ h5=>?_
 . refine⟨UE rfl,aA (aq eq4) eqm (i0 (by decide) ?_)⟩
   have e:q[m].fmod 2=0\/q[m].fmod 2=1:=by
    have h1:=V_ q[m] (show(0:Int)<2 by decide);have h2:=Wu q[m] (show(0:Int)<2 by decide);lia
   rcases e with e|e
   . rw[e];exact aA rfl rfl (dO eq4 hixm (setm (.inr (by simp))))
   . rw[e];exact aA rfl rfl (dO eq4 hixm (setm (.inr (by simp))))
 refine eq2 (λ h6=>cT ?_) λ h6=>?_
 . refine As (λ K' h=>h) ex4 (k _ (iv.tK hi (by rw[XU];lia) λ x hxx=> .inl (hx x (YG.mp hxx))))
 refine eq2 (λ h7=>cT ?_) λ h7=>?_
 . refine Cj (λ K' h=>h) ex4 (UJ (by lia)) (k _ (iv.tK hi (by rw[List.length_dropLast];lia) λ x hxx=> .inl (hx x (List.dropLast_subset xs hxx))))
 refine eq2 (λ h8=>cT ?_) λ h8=>?_
 . refine iY rfl ex4 (kb (aq eq4) (gz ex4 (by rw[Vy];lia) (k _ (iv.tK hi (by simp;lia) λ x hxx=>?_))));rcases VJ.mp hxx with z|z
   . exact .inl (hx x z)
   . exact .inr ⟨_,by simpa using z,by rw[Uz];lia,mh hq⟩
 refine eq2 (λ h9=>cT ?_) λ h9=>?_
 . refine iY rfl eq4 ⟨n,3,rfl,L4,by decide,by decide,λ t st5 t0 t1 L5 U5=>?_⟩;have eq5:=(U5.same _ (pz4.nr i r hi hr)).trans eq4;refine gz eq5 (by rw[Vy,Uz];lia) ?_;have iv5:=(pz4.upd U5).inv
   have:=iv5.vY hi hr (ys:=aj q++[.int t]) (by simp;lia) λ y hy=>by
    rcases VJ.mp hy with z|z
    . exact mh hq y z
    . refine .inl ⟨t,by simpa using z,?_⟩;have:=b2 i;lia
   exact k _ this
 refine eq2 (λ h10=>cT ?_) λ h10=>?_
 . refine⟨UE rfl,UE rfl,UE rfl,UE rfl,UE rfl,UE rfl,?_⟩;refine⟨n,6,rfl,L4,by decide,by decide,λ t st5 t0 t1 L5 U5=>?_⟩
   obtain⟨d,hd,hdc⟩:∃d,di rD t=some d/\d∈rD:=by
    have e:t=0\/t=1\/t=2\/t=3\/t=4\/t=5:=by lia
    rcases e with rfl|rfl|rfl|rfl|rfl|rfl<;>exact⟨_,rfl,by simp[rD]⟩
   refine aA rfl hd ?_;have pz5:=pz4.upd U5;refine dO pz5.pap (fz (k:=i) (by simpa using hi)) ?_
   have:=pz5.inv.wW (zs:=[D.ref (P 0),.ref (P 1),.ref (P 2)].set i d) (by simp) λ k z hz=>by
    by_cases e:i=k
    . subst e;rw[UH (by simpa using hi)]at hz;cases hz;exact .inr hdc
    . rw[Ux e]at hz;match k,hz with
      |0,hz=>cases hz;exact .inl ⟨0,by lia,rfl,λ _=>rfl⟩
      |1,hz=>cases hz;exact .inl ⟨1,by lia,rfl,by lia⟩
      |2,hz=>cases hz;exact .inl ⟨2,by lia,rfl,by lia⟩
      |_+3,hz=>cases hz
   exact k _ this
 refine eq2 (λ h11=>cT ?_) λ h11=>?_
 . refine⟨UE rfl,UE rfl,UE rfl,UE rfl,?_⟩;refine⟨n,4,rfl,L4,by decide,by decide,λ t st5 t0 t1 L5 U5=>?_⟩;have eq5:=(U5.same _ (pz4.nr i r hi hr)).trans eq4
   obtain⟨d,hd,hdc⟩:∃d,di [D.str "1",.tup [.int 1,.int 1],.lst [],.tup []] t=some d/\d∈[D.bl false,.bl true,.str "1",.tup [.int 1,.int 1],.lst [],.tup []]:=by
    have e:t=0\/t=1\/t=2\/t=3:=by lia
    rcases e with rfl|rfl|rfl|rfl<;>exact⟨_,rfl,by simp⟩
   refine aA rfl hd (dO eq5 hixm ?_);have:=(pz4.upd U5).inv.vY hi hr (ys:=(aj q).set m d) (by rw[US,Uz];lia) λ y hy=>(VO hy).elim (mh hq y) λ e=>e▸ .inr hdc;exact k _ this
 refine eq2 (λ h12=>cT ?_) λ h12=>?_
 . refine iY rfl pz4.pap (lW rfl (gz pz4.pap (UE rfl) (k _ (iv.wW (UE rfl) λ k z hz=> .inl ?_))));match k,hz with
   |0,hz=>cases hz;exact⟨0,by lia,rfl,λ _=>rfl⟩
   |1,hz=>cases hz;exact⟨1,by lia,rfl,by lia⟩
   |2,hz=>cases hz;exact⟨2,by lia,rfl,by lia⟩
   |3,hz=>cases hz;exact⟨i,hi,rfl,by lia⟩
   |_+4,hz=>cases hz
 . refine Cj (λ K' h=>h) pz4.pap rfl (k _ (iv.wW (by simp) λ k z hz=> .inl ?_));match k,hz with
   |0,hz=>cases hz;exact⟨0,by lia,rfl,λ _=>rfl⟩
   |1,hz=>cases hz;exact⟨1,by lia,rfl,by lia⟩
   |_+2,hz=>cases hz
def cU:bq:=λ ds st K=>∃(d x:D) (v:Bool) (A:List (List Int)) (N w:Nat),ds=[d,x,.bl v]/\cL st d A/\Mx.aW N w A/\1<=N/\N<=8/\w<=8/\(∀r∈A,∀c∈r,c.natAbs<=2^48)/\Mx.D N (Mx.ae A)≠0/\rk st x/\(∀f t b,items? st x=some [f,t,b]->tk st A N w f t b=true->St (rowsOf st f) N w)/\(v=true↔Due st A N w x)/\∀st',Ext st st'->K (.bl true) st'
def vJ:List Str:=["_law_steps","_law_told","_law_due","_law_found"]
def Ez:DS:=(aw (aJ 3 (av lh (ab (aa 0) (ab (aa 1) ag))))
 (aP (mX (a8 gi (ab (aa 3) (ab (dC (.ty "bool")) ag))) (ah fi (aa 3) (aa 2)))))
theorem Bo:Ut cU 3 Ez vJ:=by
 rintro ds st K ⟨d,x,v,A,N,w,rfl,hd,hA,n1,n8,w8,bA,hD,hx,hS,hv,k⟩;refine⟨rfl,⟨d,x,A,N,w,rfl,hd,hA,n1,n8,w8,bA,hD,hx,hS,λ z st' X=>?_,λ z st' X=>?_⟩⟩
 . have:v=true:=hv.mpr z;subst this;refine jO rfl (by decide) (cT (uZ rfl rfl ?_));rw[show cw (.bl true) (.bl true)=true from mD 40 _ rfl];exact k st' X
 . have:v=false:=by
    cases v with
    |false=>rfl
    |true=>exact absurd (hv.mp rfl) z
   subst this;refine jO rfl (by decide) (cT (uZ rfl rfl ?_));rw[show cw (.bl false) (.bl false)=true from mD 40 _ rfl];exact k st' X
abbrev J_:bq:=Fw []
def Ll:List Str:=["_law_script","_law_k","_law_left_here","_law_steps","_law_told","_law_kept","_law_handed","_law_due"]
def Qs:DS:=(aw (eX (lI (ab (dC (.int 1)) (ab (ah b_ (dC (.int 2)) (a8 dE (ab (kQ (aa 0) (lF (dC (.int 1))) (lF (dC (.int 5)))) ag))) ag))) (aS 1) (aw (aJ 2 (av pd (ab (aa 0) (ab (aa 1) ag))))
 (aw (aJ 3 (av nV (ab (aa 2) ag)))
 (aw (bR (aH (ah Dh (av m6 (ab (aa 3) ag)) (dC .ay))) Ds bW)
 (aw (aJ 4 (av (dj 5) (ab (av n_ (ab (aa 2) (ab (aa 3) ag))) ag)))
 (aw (bR (aH (ah tj (av bg (ab (aa 2) (ab (dC (.int 3)) ag))) (dC (.int 0)))) (aJ 4 (av nC (ab (aa 2) (ab (aa 4) ag)))) bW)
 (aw (aJ 5 (av (dj 5) (ab (aa 4) ag)))
 (aw (aJ 6 (bJ (cy (aa 4)) [none] (aS 0) ba (CA (aH (a8 gi (ab (aa 0) (ab (dC (.ty "list")) ag)))) (a8 cm (ab (aa 0) ag)) (aa 0))))
 (aw (aJ 7 (av kl (ab (aa 3) (ab (aa 4) ag))))
 (aw (bR (fT (cQ (aH (av cU (ab (aa 3) (ab (aa 4) (ab (aa 7) ag)))))) (cQ (aH (av cU (ab (bJ (cy (aa 3)) [none] (aS 0) ba (a8 ib (ab (aa 0) ag))) (ab (a8 cm (ab (aa 6) ag)) (ab (aa 7) ag))))))) (aP (dC (.bl false))) bW)
 (bR (fT (aH (ah tO (av (dj 5) (ab (aa 4) ag)) (aa 5))) (fT (cQ (aH (av cU (ab (aa 3) (ab (dC (.str "no paper")) (ab (dC (.bl false)) ag)))))) (cQ (aH (av cU (ab (aa 3) (ab (dC (.int 3)) (ab (dC (.bl false)) ag)))))))) (aP (dC (.bl false))) bW)))))))))))
 (aP (dC (.bl true))))
theorem Mg{xs:List D}{a b:Int}:(L3.cutD xs (some a) (some b)).length<=xs.length:=by
 unfold L3.cutD;rw[WY,YD];lia
def cb:Nat->D->Bool
 |_,.int _=>true
 |_,.bl _=>true
 |_,.str _=>true
 |n+1,.lst xs=>decide (xs.length<=1000)&&xs.all (cb n)
 |n+1,.tup xs=>decide (xs.length<=1000)&&xs.all (cb n)
 |_,_=>false
theorem rM{st:af}:∀ {n:Nat} {d:D},cb n d=true->Rb st n d
 |0,.int _,_=>⟨⟨_,rfl⟩,rfl⟩
 |0,.bl _,_=>⟨⟨_,rfl⟩,rfl⟩
 |0,.str _,_=>⟨⟨_,rfl⟩,rfl⟩
 |_+1,.int _,_=>⟨⟨_,rfl⟩,λ _ z=>by cases z⟩
 |_+1,.bl _,_=>⟨⟨_,rfl⟩,λ _ z=>by cases z⟩
 |_+1,.str _,_=>⟨⟨_,rfl⟩,λ _ z=>by cases z⟩
 |n+1,.lst xs,h=>by
  unfold cb at h;rw[UR,VW]at h;exact⟨⟨_,rfl⟩,λ _ z=>by cases z;exact⟨h.1,λ x hx=>rM (UP.mp h.2 x hx)⟩⟩
 |n+1,.tup xs,h=>by
  unfold cb at h;rw[UR,VW]at h;exact⟨⟨_,rfl⟩,λ _ z=>by cases z;exact⟨h.1,λ x hx=>rM (UP.mp h.2 x hx)⟩⟩
theorem Po{st:af}{m:Nat}{y:D}(h:xS m y):Rb st 1 y:=by
 rcases h with⟨i,rfl,_⟩|h
 . exact rM rfl
 . simp only[UT,UW,V3]at h;rcases h with rfl|rfl|rfl|rfl|rfl|rfl<;>exact rM rfl
theorem Hj{st:af}{m:Nat}{x:D}{ys:List D}(a:Any st x)(e:items? st x=some ys)(hl:ys.length<=20)(h:∀y∈ys,xS m y):Rb st 2 x:=
 ⟨a,λ zs z=>by rw[e]at z;cases z;exact⟨by lia,λ y hy=>Po (h y hy)⟩⟩
theorem wZ{st:af}{r:Nat}{ys:List D}(e:st[r]?=some (.lst ys)):Any st (.ref r):=⟨"list",by unfold dn;simp only[e]⟩
def Nb(st:af)(m:Nat)(z:D):Prop:=∀ys,items? st z=some ys->∀y∈ys,∀zs,items? st y=some zs->∀i,D.int i∈zs->i.natAbs<=m
theorem C4{m:Nat}{i:Int}(h:xS m (.int i)):i.natAbs<=m:=by
 rcases h with⟨j,e,hj⟩|h
 . cases e;exact hj
 . simp at h
theorem Inv.pi{st:af}{c:Nat}{P:Nat->Nat}{R:Nat->Nat->Prop}{b:Nat->Nat}(h:Inv st c P R b){i:Nat}(hi:i<3):Rb st 3 (.ref (P i))/\Nb st (b i) (.ref (P i)):=by
 obtain⟨xs,e,x8,hx⟩:=h.rows i hi;refine⟨⟨wZ e,λ ys z=>?_⟩,λ ys z y hy zs ey j hj=>?_⟩
 . rw[aq e]at z;cases z;refine⟨by lia,λ x hxx=>?_⟩;rcases hx x hxx with⟨r,hr,rfl⟩|⟨ws,rfl,hl,hw⟩
   . obtain⟨ws,ew,hl,hw⟩:=h.row i r hi hr;exact Hj (wZ ew) (aq ew) hl hw
   . exact Hj ⟨_,rfl⟩ rfl hl hw
 . rw[aq e]at z;cases z;rcases hx y hy with⟨r,hr,rfl⟩|⟨ws,rfl,hl,hw⟩
   . obtain⟨ws,ew,hl,hw⟩:=h.row i r hi hr;rw[aq ew]at ey;cases ey;exact C4 (hw _ hj)
   . cases ey;exact C4 (hw _ hj)
theorem DY{st:af}{m:Nat}{z:D}(h:z∈rD):Rb st 3 z/\Nb st m z:=by
 have hc:cb 3 z=true:=by
  simp only[rD,UT,UW,V3]at h;rcases h with rfl|rfl|rfl|rfl|rfl|rfl<;>rfl
 refine⟨rM hc,λ ys e y hy zs ey i hi=>?_⟩;simp only[rD,UT,UW,V3]at h;rcases h with rfl|rfl|rfl|rfl|rfl|rfl
 . cases e;cases hy
 . cases e
 . cases e;simp only[UT,UW,V3]at hy;rcases hy with rfl|rfl<;>cases ey
 . cases e;cases hy
 . cases e
 . cases e;simp only[UT,UW,V3]at hy;subst hy;cases ey;cases hi
structure fw(st:af)(x:D)(zs:List D)(e:Nat):Prop where
 it:items? st x=some zs
 any:Any st x
 le:zs.length<=4
 rb:∀z∈zs,Rb st 3 z
 nb:∀z∈zs,Nb st (2^450000) z
 n0:∀z,zs[0]?=some z->Nb st (2^e) z
theorem Inv.fit{st:af}{c e:Nat}{P:Nat->Nat}{R:Nat->Nat->Prop}{b:Nat->Nat}(h:Inv st c P R b)(hb:∀i,b i<=2^450000)(h0:b 0<=2^e):∃zs,fw st (.ref c) zs e:=by
 obtain⟨zs,ez,z4,hz⟩:=h.pap;refine⟨zs,aq ez,wZ ez,z4,λ z hm=>?_,λ z hm=>?_,λ z e0=>?_⟩
 . obtain⟨k,hk⟩:=Y4.mp hm;rcases hz k z hk with⟨i,hi,rfl,_⟩|h2
   . exact(h.pi hi).1
   . exact(DY (m:=0) h2).1
 . obtain⟨k,hk⟩:=Y4.mp hm;rcases hz k z hk with⟨i,hi,rfl,_⟩|h2
   . exact λ ys e y hy zs ey j hj=>UG ((h.pi hi).2 ys e y hy zs ey j hj) (hb i)
   . exact(DY h2).2
 . rcases hz 0 z e0 with⟨i,hi,rfl,q⟩|h2
   . rw[q rfl];exact λ ys e y hy zs ey j hj=>UG ((h.pi (by lia)).2 ys e y hy zs ey j hj) h0
   . exact(DY h2).2
section
variable {st:af}{x:D}{zs:List D}{e:Nat}
theorem fw.J4(h:fw st x zs e):Rb st 4 x:=⟨h.any,λ xs z=>by rw[h.it]at z;cases z;exact⟨by have:=h.le;lia,h.rb⟩⟩
theorem Ja{y:D}{n:Nat}(h:Rb st (n+1) y):Thing st y:=⟨h.1,λ xs z=>⟨λ w hw=>((h.2 xs z).2 w hw).any,bz (h.2 xs z).1⟩⟩
theorem fw.three(h:fw st x zs e):rk st x:=⟨h.any,λ xs z y hy=>by
 rw[h.it]at z;cases z;have r:=h.rb y hy;have n:=h.nb y hy;refine⟨⟨r.1,λ ys ey=>⟨λ w hw=>Ja ((r.2 ys ey).2 w hw),bz (r.2 ys ey).1⟩⟩,λ ys ey=>(r.2 ys ey).1,λ ys ey w hw vs ev i hi=>UG (n ys ey w hw vs ev i hi) (UL (by decide) (by decide))⟩⟩
theorem fw.PX{M U B A:List (List Int)}{N w:Nat}(h:fw st x zs e)(pp:Pp M U B N w e)(n8:N<=8)(w8:w<=8){f t b:D}(ef:items? st x=some [f,t,b])(k:tk st A N w f t b=true):St (rowsOf st f) N w:=by
 rw[h.it]at ef;cases ef;have n0:=h.n0 f rfl
 have hr:cf st f (.int N) w=true:=by
  unfold tk at k;exact((UR _ _).mp k).1
 obtain⟨_,M⟩:=fP hr;have bd:=wc hr n0;refine Rn (E:=2*e+3) M n8 w8 pp.e1.2 (λ i hi=>?_) pp.e2 pp.e3;have mem:(rowsOf st f).getD i []∈rowsOf st f:=by have:=M.len;rw[Mx.aR (by lia)];exact Vb _
 have h1:=om (bd _ mem) (bd _ mem);rw[M.eR _ mem]at h1;have h3:=UG h1 (VM _ w8);unfold Mx.ae;have h4:8*(2^e*2^e)=2^(2*e+3):=by rw[<-Wt,show 2*e+3=(e+e)+3 by lia,Wt _ (e+e),We]
 rw[h4]at h3;have h5:((2^(2*e+3):Nat):Int)=2^(2*e+3):=VN 2 _;rw[<-h5];lia
def hg(st:af)(z:D):D:=if dn st z=some "list" then .tup ((items? st z).getD [])else z
theorem o8{z:D}:items? st (hg st z)=items? st z:=by
 unfold hg;split
 . rename_i h;have:=ny h;cases e:items? st z with
   |none=>rw[e]at this;cases this
   |some xs=>rfl
 . rfl
theorem Pc{z:D}(h:Any st z):Any st (hg st z):=by
 unfold hg;split
 . exact⟨_,rfl⟩
 . exact h
theorem fw.hand(h:fw st x zs e):fw st (.tup (zs.map (hg st))) (zs.map (hg st)) e:=by
 have nb:∀ {m:Nat} {z:D},Nb st m z->Nb st m (hg st z):=λ h=>by unfold Nb at h⊢;rw[o8];exact h
 refine⟨rfl,⟨_,rfl⟩,by rw[Uz];exact h.le,λ y hy=>?_,λ y hy=>?_,λ y hy=>?_⟩
 . obtain⟨z,hz,rfl⟩:=U6.mp hy;have:=h.rb z hz;exact⟨Pc this.1,λ xs e=>this.2 xs (by rw[o8]at e;exact e)⟩
 . obtain⟨z,hz,rfl⟩:=U6.mp hy;exact nb (h.nb z hz)
 . rw[UM]at hy;cases e0:zs[0]? with
   |none=>rw[e0]at hy;cases hy
   |some z=>rw[e0]at hy;cases hy;exact nb (h.n0 z e0)
theorem oB{f:D}:rowsOf st (hg st f)=rowsOf st f:=by unfold rowsOf;rw[o8]
theorem qw{f m:D}{w:Int}:cf st (hg st f) m w=cf st f m w:=by unfold cf;rw[o8]
theorem JX{A:List (List Int)}{N w:Nat}{f t b:D}:tk st A N w (hg st f) (hg st t) (hg st b)=tk st A N w f t b:=by
 unfold tk qY xn;rw[qw,qw,qw,oB,oB,oB]
theorem fw.Uq{A:List (List Int)}{N w:Nat}(h:fw st x zs e):Due st A N w (.tup (zs.map (hg st)))↔Due st A N w x:=by
 constructor
 . rintro⟨f,t,b,e1,e2,e3⟩;have e4:zs.map (hg st)=[f,t,b]:=Vi e1;obtain⟨x0,x1,x2,rfl⟩:=uj (xs:=zs) (by have:=Vk List.length e4;simpa using this);simp only[Va,Za,VL,WK]at e4;obtain⟨rfl,rfl,rfl⟩:=e4;exact⟨x0,x1,x2,h.it,by rw[JX]at e2;exact e2,by rw[oB]at e3;exact e3⟩
 . rintro⟨f,t,b,e1,e2,e3⟩;rw[h.it]at e1;cases e1;exact⟨hg st f,hg st t,hg st b,rfl,by rw[JX];exact e2,by rw[oB];exact e3⟩
end
theorem fw.ext{st st':af}{x:D}{zs:List D}{e:Nat}(X:Ext st st')(h:fw st x zs e):fw st' x zs e:=by
 have nb:∀ {m:Nat} {z:D},Rb st 3 z->Nb st m z->Nb st' m z:=λ{m z} r h ys ey y hy zs ez i hi=>by
  cases e1:items? st z with
  |none=>rw[r.1.none e1]at ey;cases ey
  |some ws=>
   rw[X.items e1]at ey;cases ey;have r2:=(r.2 _ e1).2 y hy;cases e2:items? st y with
   |none=>rw[r2.1.none e2]at ez;cases ez
   |some vs=>
    rw[X.items e2]at ez;cases ez;exact h _ e1 y hy _ e2 i hi
 exact⟨X.items h.it,h.any.ext X,h.le,λ z hz=>(h.rb z hz).ext X,λ z hz=>nb (h.rb z hz) (h.nb z hz),λ z hz=>nb (h.rb z (U8 hz)) (h.n0 z hz)⟩
theorem Any.same{st st':af}{d:D}(X:Ext st st')(h:Any st d):items? st' d=items? st d:=by
 cases e:items? st d with
 |none=>exact h.none e
 |some xs=>exact X.items e
theorem Jx{f g:D->Bool}{xs:List D}(h:∀x∈xs,f x=g x):xs.all f=xs.all g:=by
 rw[W8,UP,UP];exact⟨λ q x hx=>by rw[<-h x hx];exact q x hx,λ q x hx=>by rw[h x hx];exact q x hx⟩
theorem gP{st st':af}{f:D}(X:Ext st st')(h:Rb st 3 f):(∀m w,cf st' f m w=cf st f m w)/\rowsOf st' f=rowsOf st f:=by
 unfold cf rowsOf;rw[h.1.same X];cases e:items? st f with
 |none=>exact⟨λ _ _=>rfl,rfl⟩
 |some xs=>
  have a:∀r∈xs,items? st' r=items? st r:=λ r hr=>((h.2 xs e).2 r hr).1.same X;refine⟨λ m w=>Vk (l7 xs.length m&& ·) (Jx λ r hr=>?_),Vd λ r hr=>?_⟩
  . unfold dz;rw[a r hr]
  . unfold intsOf;rw[a r hr]
theorem F7{st st':af}{A:List (List Int)}{N w:Nat}{f t b:D}(X:Ext st st')(hf:Rb st 3 f)(ht:Rb st 3 t)(hb:Rb st 3 b):tk st' A N w f t b=tk st A N w f t b:=by
 unfold tk qY xn;rw[(gP X hf).1,(gP X ht).1,(gP X hb).1,(gP X hf).2,(gP X ht).2,(gP X hb).2]
theorem Due.ext{st st':af}{x:D}{zs:List D}{e:Nat}{A:List (List Int)}{N w:Nat}(X:Ext st st')(h:fw st x zs e):Due st' A N w x↔Due st A N w x:=by
 constructor
 . rintro⟨f,t,b,e1,e2,e3⟩;rw[X.items h.it]at e1;cases e1;have hf:=h.rb f (by simp);rw[F7 X hf (h.rb t (by simp)) (h.rb b (by simp))]at e2;rw[(gP X hf).2]at e3;exact⟨f,t,b,h.it,e2,e3⟩
 . rintro⟨f,t,b,e1,e2,e3⟩;rw[h.it]at e1;cases e1;have hf:=h.rb f (by simp);refine⟨f,t,b,X.items h.it,?_,?_⟩
   . rw[F7 X hf (h.rb t (by simp)) (h.rb b (by simp))];exact e2
   . rw[(gP X hf).2];exact e3
theorem K1{st:af}:∀ {n:Nat} {d:D},Rb st n d->pl n (gw st n d)=true
 |0,d,h=>by
  obtain⟨⟨t,ht⟩,e⟩:=h;unfold gw;cases d<;>first|rfl|(cases e;done)|(cases ht;done)|skip
  rename_i k;unfold dn at ht;simp only at ht;split at ht
  . rename_i q;rw[aq q]at e;cases e
  . cases ht
 |n+1,d,h=>by
  unfold gw;cases e:items? st d with
  |some xs=>
   show pl (n+1) (.lst (xs.map (gw st n)))=true;unfold pl;refine UP.mpr λ y hy=>?_;obtain⟨z,hz,rfl⟩:=U6.mp hy;exact K1 ((h.2 xs e).2 z hz)
  |none=>
   show pl (n+1) d=true;obtain⟨t,ht⟩:=h.1;cases d<;>first|rfl|(cases e;done)|(cases ht;done)|skip
   rename_i k;unfold dn at ht;simp only at ht;split at ht
   . rename_i q;rw[aq q]at e;cases e
   . cases ht
theorem Et:∀ {n:Nat} {d:D} (m:Nat),n<=m->pl n d=true->pl m d=true
 |_,.ay,m,_,_=>by cases m<;>rfl
 |_,.bl _,m,_,_=>by cases m<;>rfl
 |_,.int _,m,_,_=>by cases m<;>rfl
 |_,.str _,m,_,_=>by cases m<;>rfl
 |n+1,.lst xs,m+1,l,h=>by
  unfold pl at h⊢;exact UP.mpr λ x hx=>Et m (by lia) (UP.mp h x hx)
 |n+1,.tup xs,m+1,l,h=>by
  unfold pl at h⊢;exact UP.mpr λ x hx=>Et m (by lia) (UP.mp h x hx)
 |n,.ref _,_,_,h=>by cases n<;>cases h
 |n,.ty _,_,_,h=>by cases n<;>cases h
 |0,.lst _,_,_,h=>by cases h
 |0,.tup _,_,_,h=>by cases h
theorem C3{st:af}{F:Nat->Nat->D->D->Prop}{n:Nat}(h:∀lo hi x y,F lo hi x y->pl n y=true->mi st x y):∀ {lo hi:Nat} {xs ys:List D},Frs F lo hi xs ys->ys.all (pl n)=true->l0 st xs ys
 |_,_,[],[],_,_=> .nil
 |_,_,x::xs,y::ys,⟨m,a,b⟩,p=>by
  rw[V5,UR]at p;exact .cons (h _ _ _ _ a p.1) (C3 h b p.2)
 |_,_,[],_::_,q,_=>q.elim
 |_,_,_::_,[],q,_=>q.elim
theorem Ak{st:af}:∀ {n lo hi:Nat} {e a:D},Fr st n lo hi e a->pl n a=true->mi st e a
 |0,_,_,_,_,h,p=>by obtain⟨_,rfl⟩:=h;exact .own p
 |n+1,_,_,_,_,.inl h,p=>by obtain⟨_,rfl,_⟩:=h;exact .own p
 |n+1,lo,hi,_,_,.inr ⟨c,xs,ys,rfl,rfl,h3,h4,f⟩,p=>by
  unfold pl at p;exact .ref h4 (C3 (λ _ _ _ _ q z=>Ak q z) f p)
mutual
theorem Dm{st st':af}(X:Ext st st'):∀ {d e:D},mi st d e->mi st' d e
 |_,_,.own h=> .own h
 |_,_,.ref e t=> .ref ((X.same _ (Uw.mp e).1).trans e) (o9 X t)
 |_,_,.lst t=> .lst (o9 X t)
 |_,_,.tup t=> .tup (o9 X t)
theorem o9{st st':af}(X:Ext st st'):∀ {ds es:List D},l0 st ds es->l0 st' ds es
 |_,_,.nil=> .nil
 |_,_,.cons h t=> .cons (Dm X h) (o9 X t)
end
theorem Ot{st:af}{n lo hi:Nat}{e:D}{i:Int}(h:Fr st n lo hi e (.int i)):e= .int i/\lo<=hi:=by
 cases n with
 |zero=>exact⟨h.2,h.1⟩
 |succ n=>
  rcases h with h|⟨_,_,_,z,_⟩
  . exact⟨h.2.1,h.1⟩
  . cases z
theorem zo{st:af}{n:Nat}:∀ {lo hi:Nat} {xs:List D} {q:List Int},Frs (Fr st n) lo hi xs (aj q)->xs=aj q/\lo<=hi
 |_,_,[],[],h=>⟨rfl,h⟩
 |_,_,x::xs,y::ys,⟨m,a,b⟩=>by
  obtain⟨e1,l1⟩:=Ot a;obtain⟨e2,l2⟩:=zo b;exact⟨by rw[e1,e2];rfl,UG l1 l2⟩
 |_,_,[],_::_,q=>q.elim
 |_,_,_::_,[],q=>q.elim
theorem Oa{st:af}{n lo hi:Nat}{e:D}{q:List Int}(h:Fr st (n+1) lo hi e (aK q)):∃r,e= .ref r/\lo<=r/\r<hi/\st[r]?=some (.lst (aj q)):=by
 rcases h with⟨_,_,z⟩|⟨c,xs,ys,e1,e2,h3,h4,f⟩
 . cases z
 . cases e1;obtain⟨rfl,l⟩:=zo f;exact⟨c,e2,l,h3,h4⟩
theorem AL{st:af}{n:Nat}:∀ {lo hi:Nat} {xs:List D} {A:List (List Int)},Frs (Fr st (n+1)) lo hi xs (A.map aK)->lo<=hi/\xs.length=A.length/\∀x∈xs,∃r q,x= .ref r/\q∈A/\lo<=r/\r<hi/\st[r]?=some (.lst (aj q))
 |_,_,[],[],h=>⟨h,rfl,λ _ h=>by cases h⟩
 |lo,hi,x::xs,y::ys,⟨m,a,b⟩=>by
  obtain⟨r,e1,l1,l2,e2⟩:=Oa a;obtain⟨l3,l4,hx⟩:=AL b;refine⟨by lia,by simp[l4],λ z hz=>?_⟩;rcases UT.mp hz with rfl|hz
  . exact⟨r,y,e1,UZ,l1,by lia,e2⟩
  . obtain⟨r,q,g1,g2,g3,g4,g5⟩:=hx z hz;exact⟨r,q,g1,UQ _ g2,by lia,g4,g5⟩
 |_,_,[],_::_,q=>q.elim
 |_,_,_::_,[],q=>q.elim
theorem wy{st:af}{n lo hi:Nat}{e:D}{A:List (List Int)}(h:Fr st (n+2) lo hi e (.lst (A.map aK))):∃p xs,e= .ref p/\lo<=p/\p<hi/\st[p]?=some (.lst xs)/\xs.length=A.length/\∀x∈xs,∃r q,x= .ref r/\q∈A/\lo<=r/\r<p/\st[r]?=some (.lst (aj q)):=by
 rcases h with⟨_,_,z⟩|⟨c,xs,ys,e1,e2,h3,h4,f⟩
 . cases z
 . cases e1;obtain⟨l1,l2,hx⟩:=AL f;exact⟨c,xs,e2,l1,h3,h4,l2,hx⟩
theorem wG{st:af}{n:Nat}{A:List (List Int)}:gw st (n+3) (cq A)= .lst (A.map aK):=by
 show D.lst ((A.map cH).map (gw st (n+2)))=_;rw[Vl];refine Vk D.lst (Vd λ r _=>?_);show D.lst ((aj r).map (gw st (n+1)))=_;unfold aj;rw[Vl];rfl
def sel(i a b c:Nat):Nat:=if i=0 then a else if i=1 then b else c
theorem Up{lo m1 m2 p0 p1 p2:Nat}(h1:p0<m1)(h2:m1<=p1)(h3:p1<m2):∀i j,i<3->j<3->i<j->sel i p0 p1 p2<sel j lo m1 m2:=λ i j hi hj hij=>by
 have h:(i=0/\j=1)\/(i=0/\j=2)\/(i=1/\j=2):=by lia
 rcases h with⟨rfl,rfl⟩|⟨rfl,rfl⟩|⟨rfl,rfl⟩
 . exact h1
 . show p0<m2;lia
 . exact h3
theorem Ti{lo m1 m2 p0 p1 p2 c:Nat}(a0:lo<=p0)(b0:p0<m1)(a1:m1<=p1)(b1:p1<m2)(a2:m2<=p2)(b2:p2<c):∀i,i<3->sel i lo m1 m2<=sel i p0 p1 p2/\lo<=sel i lo m1 m2/\sel i p0 p1 p2<c:=λ i hi=>by
 have h:i=0\/i=1\/i=2:=by lia
 rcases h with rfl|rfl|rfl
 . exact⟨a0,UB _,show p0<c by lia⟩
 . exact⟨a1,show lo<=m1 by lia,show p1<c by lia⟩
 . exact⟨a2,show lo<=m2 by lia,b2⟩
theorem Lz{st:af}{n lo hi E0 E1 E2:Nat}{d:D}{M U B:List (List Int)}{N w:Nat}(mM:Mx.aW N w M)(mU:Mx.aW N N U)(mB:Mx.aW N N B)(bM:∀r∈M,∀x∈r,x.natAbs+2<=E0)(bU:∀r∈U,∀x∈r,x.natAbs+2<=E1)(bB:∀r∈B,∀x∈r,x.natAbs+2<=E2)(n1:1<=N)(n8:N<=8)(w1:1<=w)(w8:w<=8)(h:Fr st 4 lo hi d (.lst [.lst (M.map aK),.lst (U.map aK),.lst (B.map aK)]))(hn:n<lo):∃c P R,d= .ref c/\Pz st n c P R λ i=>sel i E0 E1 E2:=by
 rcases h with⟨_,_,z⟩|⟨c,xs,ys,e1,rfl,h3,h4,f⟩
 . cases z
 . cases e1;match xs,f with
   | [],f=>exact f.elim
   | [_],⟨_,_,f⟩=>exact f.elim
   | [_,_],⟨_,_,_,_,f⟩=>exact f.elim
   |_::_::_::_::_,⟨_,_,_,_,_,_,f⟩=>exact f.elim
   | [x0,x1,x2],⟨m1,f0,m2,f1,m3,f2,l3⟩=>
     obtain⟨p0,r0,rfl,a0,b0,c0,d0,g0⟩:=wy f0;obtain⟨p1,r1,rfl,a1,b1,c1,d1,g1⟩:=wy f1;obtain⟨p2,r2,rfl,a2,b2,c2,d2,g2⟩:=wy f2;have l3:m3<=c:=l3;have lM:=mM.len;have lU:=mU.len;have lB:=mB.len;have three:∀ {i:Nat},i<3->i=0\/i=1\/i=2:=λ h=>by lia
     have inj:∀ {xs:List D} {A:List (List Int)} {lo p:Nat},(∀x∈xs,∃r q,x=D.ref r/\q∈A/\lo<=r/\r<p/\st[r]?=some (.lst (aj q)))->∀ {r:Nat},D.ref r∈xs->(lo<=r/\r<p)/\∃q∈A,st[r]?=some (.lst (aj q)):=λ{xs A lo p} h {r} hr=>by
      obtain⟨r',q,e,hq,h1,h2,h3⟩:=h _ hr;cases e;exact⟨⟨h1,h2⟩,q,hq,h3⟩
     have key:∀i r,i<3->D.ref r∈(if i=0 then r0 else if i=1 then r1 else r2)->sel i lo m1 m2<=r/\r<sel i p0 p1 p2:=λ i r hi hr=>by
      rcases three hi with rfl|rfl|rfl
      . exact(inj g0 hr).1
      . exact(inj g1 hr).1
      . exact(inj g2 hr).1
     have up:=Up (lo:=lo) (p2:=p2) b0 a1 b1;have lop:=Ti a0 b0 a1 b1 a2 (UY b2 l3);refine⟨c,λ i=>sel i p0 p1 p2,λ i r=>D.ref r∈(if i=0 then r0 else if i=1 then r1 else r2),rfl,⟨⟨λ i hi=>?_,λ i r hi hr=>?_,λ i j r hi hj hr=>?_,λ i j r hi hj hr hs=>?_,λ i j hi hj he=>?_⟩,by lia,λ i hi=>?_,λ i r hi hr=>?_,λ i r hi hr=>?_,λ i hi=>?_,h4⟩⟩
     . have:=lop i hi;lia
     . have:=lop i hi;have:=key i r hi hr;lia
     . have k1:=key i r hi hr;have k2:=lop i hi;have k3:=lop j hj;rcases Yr i j with z|rfl|z
       . have:=up i j hi hj z;lia
       . lia
       . have:=up j i hj hi z;lia
     . have k1:=key i r hi hr;have k2:=key j r hj hs;have k3:=lop i hi;have k4:=lop j hj;rcases Yr i j with z|z|z
       . have:=up i j hi hj z;lia
       . exact z
       . have:=up j i hj hi z;lia
     . have he:sel i p0 p1 p2=sel j p0 p1 p2:=he;have k3:=lop i hi;have k4:=lop j hj;rcases Yr i j with z|z|z
       . have:=up i j hi hj z;lia
       . exact z
       . have:=up j i hj hi z;lia
     . have:=lop i hi;lia
     . have:=lop i hi;have:=key i r hi hr;lia
     . have fin:∀ {A:List (List Int)} {m k:Nat},Mx.aW N k A->1<=k->k<=8->(∀r∈A,∀x∈r,x.natAbs+2<=m)->(∃q∈A,st[r]?=some (.lst (aj q)))->∃q:List Int,st[r]?=some (.lst (aj q))/\1<=q.length/\q.length<=8/\∀x∈q,x.natAbs+2<=m:=λ hA k1 k8 hb ⟨q,hq,e⟩=>⟨q,e,by rw[hA.eR q hq];exact k1,by rw[hA.eR q hq];exact k8,hb q hq⟩
       rcases three hi with rfl|rfl|rfl
       . exact fin mM w1 w8 bM (inj g0 hr).2
       . exact fin mU n1 n8 bU (inj g1 hr).2
       . exact fin mB n1 n8 bB (inj g2 hr).2
     . have fin:∀ {xs:List D} {A:List (List Int)} {lo p k:Nat},st[p]?=some (.lst xs)->xs.length=A.length->Mx.aW N k A->(∀x∈xs,∃r q,x=D.ref r/\q∈A/\lo<=r/\r<p/\st[r]?=some (.lst (aj q)))->∃ys,st[p]?=some (.lst ys)/\1<=ys.length/\ys.length<=8/\∀x∈ys,∃r,D.ref r∈xs/\x= .ref r:=λ e l hA h=>⟨_,e,by rw[l,hA.len];exact n1,by rw[l,hA.len];exact n8,λ x hx=>by
        obtain⟨r,q,rfl,_⟩:=h x hx;exact⟨r,hx,rfl⟩⟩
       rcases three hi with rfl|rfl|rfl
       . exact fin c0 d0 mM g0
       . exact fin c1 d1 mU g1
       . exact fin c2 d2 mB g2
theorem MU{st:af}{n lo hi e:Nat}{d:D}{M U B:List (List Int)}{N w:Nat}(pp:Pp M U B N w e)(n1:1<=N)(n8:N<=8)(w1:1<=w)(w8:w<=8)(h:Fr st 4 lo hi d (.lst [.lst (M.map aK),.lst (U.map aK),.lst (B.map aK)]))(hn:n<lo):∃c P R,d= .ref c/\Pz st n c P R λ i=>sel i (2^e) (2^450000) (2^450000):=
 Lz pp.m pp.u pp.b pp.bm pp.bu pp.bb n1 n8 w1 w8 h hn
def Sg(ns:List Int)(σ:bo):Prop:=∃v1 v2 v3 v4 v5 v6 v7:Option D,σ=[some (.lst (ns.map .int)),v1,v2,v3,v4,v5,v6,v7]
def OA:DS:=(aw (aJ 5 (av (dj 5) (ab (aa 4) ag)))
 (aw (aJ 6 (bJ (cy (aa 4)) [none] (aS 0) ba (CA (aH (a8 gi (ab (aa 0) (ab (dC (.ty "list")) ag)))) (a8 cm (ab (aa 0) ag)) (aa 0))))
 (aw (aJ 7 (av kl (ab (aa 3) (ab (aa 4) ag))))
 (aw (bR (fT (cQ (aH (av cU (ab (aa 3) (ab (aa 4) (ab (aa 7) ag)))))) (cQ (aH (av cU (ab (bJ (cy (aa 3)) [none] (aS 0) ba (a8 ib (ab (aa 0) ag))) (ab (a8 cm (ab (aa 6) ag)) (ab (aa 7) ag))))))) (aP (dC (.bl false))) bW)
 (bR (fT (aH (ah tO (av (dj 5) (ab (aa 4) ag)) (aa 5))) (fT (cQ (aH (av cU (ab (aa 3) (ab (dC (.str "no paper")) (ab (dC (.bl false)) ag)))))) (cQ (aH (av cU (ab (aa 3) (ab (dC (.int 3)) (ab (dC (.bl false)) ag)))))))) (aP (dC (.bl false))) bW)))))
theorem RN{A:List (List Int)}{N w:Nat}(dr:Dr A N w):∀r∈A,∀c∈r,c.natAbs<=2^48:=λ r hr x hx=>by
 have:=dr.bd r hr x hx;unfold Sm at this;lia
theorem IA{E:ie}{ns:List Int}{q v2:D}{e c N w:Nat}{A M U B:List (List Int)}{P:Nat->Nat}{R:Nat->Nat->Prop}{b:Nat->Nat}{st:af}{v5 v6 v7:Option D}(dr:Dr A N w)(hD:∀k,k<=N->Mx.D k (Mx.ae A)≠0)(pp:Pp M U B N w e)(iv:Inv st c P R b)(hb:∀i,b i<=2^450000)(h0:b 0<=2^e)(hk:∀σ st',Sg ns σ->E.nx σ st'):
 OA E [some (.lst (ns.map .int)),some q,some v2,some (cq A),some (.ref c),v5,v6,v7] st:=by
 have n8:=dr.le;have w8:=dr.w8;have n1:=dr.n1;have hA:=dr.is;have lA:=hA.len;have b48:=RN dr;have hDN:=hD N (UB N);obtain⟨zs,fit⟩:=iv.fit hb h0;refine⟨_,rfl,fit.J4,λ st1 d1 X1 f1'=>?_⟩;have r1:=K1 fit.J4;have g1:=Ak f1' r1;have fit1:=fit.ext X1;have z4:=fit1.le;refine fI fit1.it λ ok aC=>⟨bz (by lia),?_⟩
 refine comp_map (g:=hg st1) (aC _ fit1.it) _ (λ z hz K' t=>⟨_,rfl,?_⟩) ?_
 . obtain⟨ty,hty⟩:=(fit1.rb z hz).1;have hm:=jl hty;have eh:hg st1 z=if ty="list" then .tup ((items? st1 z).getD [])else z:=by unfold hg;rw[hty];simp only[Yn]
   refine jO hty (by decide) ?_;by_cases hl:ty="list"
   . subst hl;rw[UA rfl]at eh
     obtain⟨xs,hxs⟩:∃xs,items? st1 z=some xs:=by
      have:=ny hty;cases e:items? st1 z with
      |none=>rw[e]at this;cases this
      |some xs=>exact⟨xs,rfl⟩
     rw[hxs]at eh;refine cT (bS hxs ?_);rw[eh]at t;exact t
   . rw[Uy hl]at eh;rw[eh]at t;simp only[hZ,UT,UW,V3]at hm;rcases hm with rfl|rfl|rfl|rfl|rfl|rfl<;>first|exact absurd rfl hl|exact t
 have hand:=fit1.hand;have duo:=fit1.Uq (A:=A) (N:=N) (w:=w);generalize zs.map (hg st1)=hs at hand duo⊢
 have go:∀v:Bool,(v=true↔Due st1 A N w (.ref c))->∀st2,Ext st1 st2->(aw (bR (fT (cQ (aH (av cU (ab (aa 3) (ab (aa 4) (ab (aa 7) ag)))))) (cQ (aH (av cU (ab (bJ (cy (aa 3)) [none] (aS 0) ba (a8 ib (ab (aa 0) ag))) (ab (a8 cm (ab (aa 6) ag)) (ab (aa 7) ag))))))) (aP (dC (.bl false))) bW)
  (bR (fT (aH (ah tO (av (dj 5) (ab (aa 4) ag)) (aa 5))) (fT (cQ (aH (av cU (ab (aa 3) (ab (dC (.str "no paper")) (ab (dC (.bl false)) ag)))))) (cQ (aH (av cU (ab (aa 3) (ab (dC (.int 3)) (ab (dC (.bl false)) ag)))))))) (aP (dC (.bl false))) bW)) E [some (.lst (ns.map .int)),some q,some v2,some (cq A),some (.ref c),some d1,some (.lst hs),some (.bl v)] st2:=by
  intro v hv st2 X2;have fit2:=fit1.ext X2;refine⟨_,_,v,A,N,w,rfl,fJ,hA,n1,n8,w8,b48,hDN,fit2.three,λ f t b ef k=>fit2.PX pp n8 w8 ef k,hv.trans (Due.ext X2 fit1).symm,λ st3 X3=>?_⟩;have X13:=X2.trans X3;refine ju ⟨bz (by rw[Uz];lia),?_⟩;refine d_ aK trivial (A:=A) mx (λ d r hr he K' q=>⟨_,rfl,kb he q⟩) ?_;refine bS rfl ?_;have hand3:=hand.ext X13;refine⟨KG A,.tup hs,v,A,N,w,rfl,Lv,hA,n1,n8,w8,b48,hDN,hand3.three,λ f t b ef k=>hand3.PX pp n8 w8 ef k,(hv.trans duo.symm).trans (Due.ext X13 hand).symm,λ st4 X4=>?_⟩;have X14:=X13.trans X4;have fit4:=fit1.ext X14;refine⟨_,rfl,fit4.J4,λ st5 d5 X5 f5=>?_⟩;have X15:=X14.trans X5;have e5:gw st4 4 (.ref c)=gw st 4 (.ref c):=fit.J4.rd (X1.trans X14);rw[e5]at f5;have g5:=Ak f5 r1;have r40:=Et 40 (by lia) r1;refine Od g5 (Dm X15 g1) r40 r40 ?_;rw[mD 40 _ r40];have no:∀ {x:D} {st:af},items? st x=none->¬Due st A N w x:=λ h ⟨f,t,b,e,_⟩=>by rw[h]at e;cases e
  have th:∀ {x:D} {st:af},Any st x->items? st x=none->rk st x:=λ a h=>⟨a,λ xs e=>by rw[h]at e;cases e⟩
  refine⟨_,_,false,A,N,w,rfl,fJ,hA,n1,n8,w8,b48,hDN,th ⟨_,rfl⟩ rfl,λ f t b ef k=>(by cases ef),⟨λ h=>(by cases h),λ h=>absurd h (no rfl)⟩,λ st6 X6=>?_⟩;refine⟨_,_,false,A,N,w,rfl,fJ,hA,n1,n8,w8,b48,hDN,th ⟨_,rfl⟩ rfl,λ f t b ef k=>(by cases ef),⟨λ h=>(by cases h),λ h=>absurd h (no rfl)⟩,λ st7 X7=>?_⟩;exact hk _ _ ⟨_,_,_,_,_,_,_,rfl⟩
 refine⟨.ref c,A,N,w,rfl,hA,n1,n8,w8,b48,hDN,fit1.three,λ xs ex y hy ys ey z hz vs ev i hi=>?_,λ f t b ef k=>(fit1.PX pp n8 w8 ef k).Sf,λ h st2 X2=>go true ⟨λ _=>h,λ _=>rfl⟩ st2 X2,λ h st2 X2=>go false ⟨λ z=>(by cases z),λ z=>absurd z h⟩ st2 X2⟩;rw[fit1.it]at ex;cases ex;exact UG (fit1.nb y hy ys ey z hz vs ev i hi) (UL (by decide) (by decide))
theorem OM:Ut J_ 1 Qs Ll:=by
 rintro ds st K ⟨ns,rfl,hl,hst,k⟩;refine⟨rfl,?_⟩;clear hst;refine Gi (cP rfl (cp ?_));have hc:=Mg (xs:=ns.map D.int) (a:=1) (b:=5);rw[Uz]at hc;generalize(L3.cutD (ns.map D.int) (some 1) (some 5)).length=m at hc⊢;refine wa ⟨by lia,by lia,by lia,by lia⟩ ?_
 have hm:∀d∈cC 1 (2+(m:Int)-1).toNat,∃q:Int,d= .int q/\0<=q/\q<=1000:=λ d hd=>by
  unfold cC at hd;obtain⟨i,hi,rfl⟩:=U6.mp hd;rw[Vp]at hi;exact⟨_,rfl,by lia,by lia⟩
 generalize cC 1 (2+(m:Int)-1).toNat=rs at hm⊢;refine dR (λ rest σ st'=>(∀d∈rest,∃q:Int,d= .int q/\0<=q/\q<=1000)/\Sg ns σ) ?_ ?_ _ _ _ ⟨hm,none,none,none,none,none,none,none,rfl⟩
 . rintro σ st' ⟨_,v1,v2,v3,v4,v5,v6,v7,rfl⟩;exact⟨trivial,k _⟩
 . rintro x rest σ st1 ⟨hr,v1,v2,v3,v4,v5,v6,v7,rfl⟩ next
   obtain⟨q,rfl,q0,q1⟩:=hr x UZ;have hr2:∀d∈rest,∃q:Int,d= .int q/\0<=q/\q<=1000:=λ d hd=>hr d (UQ _ hd);refine⟨trivial,_,rfl,?_⟩;refine⟨ns,q,rfl,q0,q1,λ x hx=>?_⟩;have L1:Lf (st1++[.lst [.int x]]) st1.length:=⟨x,by simp,hx⟩
   generalize st1.length=n at L1⊢;generalize st1++[Cell.lst [.int x]]=st2 at L1⊢;refine⟨n,rfl,L1,λ A N w st3 dr L3 U3=>?_⟩;clear L1 U3;have hlA:=dr.is.len;have n8:=dr.le;have w8:=dr.w8;have n1:=dr.n1;refine⟨_,A,N,w,rfl,fJ,dr.st.Sf,λ st4 X4 _=>?_,λ st4 g kn cs X4 hD own=>?_⟩
   . refine AS rfl ?_;exact next _ _ ⟨hr2,_,_,_,_,_,_,_,rfl⟩
   refine AS rfl ?_
   have L4:Lf st4 n:=by
    obtain⟨x,e,h⟩:=L3.ex;exact⟨x,(X4.same n (Uw.mp e).1).trans e,h⟩
   clear L3 X4 own
   have w1:1<=w:=by
    refine Nat.one_le_iff_ne_zero.mpr λ z=>hD 1 (by lia) ?_;subst z
    have e:Mx.D 1 (Mx.ae A)=Mx.ae A 0 0:=by
     rw[<-Mx.cN];exact Mx.iy _ _ _
    rw[e,Mx.eG dr.is (by lia) (by lia)];rfl
   refine⟨n,A,N,w,rfl,L4,dr,hD,λ st5 M U B e pp L5=>?_⟩;clear L4;have lM:=pp.m.len;have lU:=pp.u.len;have lB:=pp.b.len
   have rb:Rb st5 4 (.lst [cq M,cq U,cq B]):=by
    refine rM ?_
    have row:∀ {r:List Int},r.length<=8->cb 2 (cH r)=true:=λ{r} h=>by
     unfold cb;rw[UR,VW,Uz];refine⟨by lia,UP.mpr λ d hd=>?_⟩;obtain⟨i,_,rfl⟩:=U6.mp hd;rfl
    have rws:∀ {A:List (List Int)} {N w:Nat},Mx.aW N w A->N<=8->w<=8->cb 3 (cq A)=true:=λ{A N w} hA n8 w8=>by
     unfold cb;rw[UR,VW,Uz,hA.len];refine⟨by lia,UP.mpr λ d hd=>?_⟩;obtain⟨r,hr,rfl⟩:=U6.mp hd;exact row (by rw[hA.eR r hr];exact w8)
    unfold cb;rw[UR,VW];refine⟨by simp,?_⟩;simp only[V5,List.all_nil,rws pp.m n8 w8,rws pp.u n8 n8,rws pp.b n8 n8,Bool.and_self]
   refine⟨_,rfl,rb,λ st6 d6 X6 f6=>?_⟩
   have er:gw st5 4 (.lst [cq M,cq U,cq B])= .lst [.lst (M.map aK),.lst (U.map aK),.lst (B.map aK)]:=by
    show D.lst [gw st5 3 (cq M),gw st5 3 (cq U),gw st5 3 (cq B)]=_;rw[wG,wG,wG]
   rw[er]at f6
   have ln:n<st5.length:=by
    obtain⟨x,e,_⟩:=L5.ex;exact(Uw.mp e).1
   obtain⟨c,P,R,rfl,pz⟩:=MU pp n1 n8 w1 w8 f6 ln
   have L6:Lf st6 n:=by
    obtain⟨x,e,h⟩:=L5.ex;exact⟨x,(X6.same n (Uw.mp e).1).trans e,h⟩
   have p1:2^1<=2^e:=UL (by decide) pp.e1.1;have p2:2^1<=2^450000:=UL (by decide) (by decide);have p3:2^e<=2^450000:=UL (by decide) (by have:=pp.e1.2;omega)
   have b2:∀i,2<=sel i (2^e) (2^450000) (2^450000):=λ i=>by
    unfold sel;split
    . exact p1
    . split<;>exact p2
   have b3:∀i,sel i (2^e) (2^450000) (2^450000)<=2^450000:=λ i=>by
    unfold sel;split
    . exact p3
    . split<;>exact UB _
   have b0:sel 0 (2^e) (2^450000) (2^450000)<=2^e:=UB _;clear p1 p2 p3 f6 er rb X6 L5 ln lM lU lB;generalize hbb:(λ i=>sel i (2^e) (2^450000) (2^450000))=bb at pz;have c2:∀i,2<=bb i:=λ i=>by rw[<-hbb];exact b2 i
   have c3:∀i,bb i<=2^450000:=λ i=>by rw[<-hbb];exact b3 i
   have c0:bb 0<=2^e:=by rw[<-hbb];exact b0
   clear hbb b2 b3 b0;dsimp only;refine CI (λ σ' st'=>σ'=[some (.lst (ns.map .int)),some (.int q),some (.ref n),some (cq A),some (.ref c),v5,v6,v7]/\Inv st' c P R bb) (λ nx hnx=>?_) ?_
   . refine⟨n,3,rfl,L6,by decide,by decide,λ y st7 y0 y1 L7 U7=>?_⟩;have pz7:=pz.upd U7;refine Og (λ _=>cT ?_) λ _=>?_
     . exact⟨n,c,P,R,bb,rfl,L7,pz7,c2,λ st8 iv=>hnx _ _ ⟨rfl,iv⟩⟩
     . exact hnx _ _ ⟨rfl,pz7.inv⟩
   . rintro σ' st' ⟨rfl,iv⟩;exact IA dr hD pp iv c3 c0 λ σ st' hs=>next σ st' ⟨hr2,hs⟩
end Prog
namespace Row
open PySem L2 L3 Prog
open PySem.Spec hiding items?
open PyProof.Rows hiding St
theorem vw:(("int":Str))≠"__name__":=by decide+kernel
theorem i5:(("isinstance":Str))≠"__name__":=by decide+kernel
theorem Dp:(("bool":Str))≠"__name__":=by decide+kernel
theorem eW:(("tuple":Str))≠"__name__":=by decide+kernel
theorem fj:(("list":Str))≠"__name__":=by decide+kernel
theorem gW:(("len":Str))≠"__name__":=by decide+kernel
theorem Fd:(("all":Str))≠"__name__":=by decide+kernel
theorem FF:(("abs":Str))≠"__name__":=by decide+kernel
theorem GF:(("sum":Str))≠"__name__":=by decide+kernel
theorem GH:(("any":Str))≠"__name__":=by decide+kernel
theorem zK:(("max":Str))≠"__name__":=by decide+kernel
structure Bl(mg:Str->Option Value):Prop where
 yK:mg "int"=none
 jS:mg "isinstance"=none
 Gg:mg "bool"=none
 fL:mg "tuple"=none
 fZ:mg "list"=none
 jQ:mg "len"=none
 KY:mg "all"=none
 KD:mg "abs"=none
 uP:mg "zip"=none
 iC:mg "range"=none
 K4:mg "sum"=none
 Kw:mg "any"=none
 EB:mg "max"=none
structure Kl(K:PySem.W.Frag)(mg:Str->Option Value):Prop where
 cu:ClsAt K mg "Bench" aU
 bf:ClsAt K mg "Stairs" aL
 fF:fc K aU "body"
 fC:fc K aU "turn"
 cK:fc K aU "back_columns"
 ir:fc K aL "bench"
 bD:fc K aL "table"
theorem B8:VF nJ td ["thing"] ["int","isinstance","bool"]:= .of (by decide+kernel)
theorem Bs:VF nB sX ["thing"] ["tuple","list","isinstance"]:= .of (by decide+kernel)
theorem vP:VF j8 oH ["thing","many"] ["is_listed","len"]:= .of (by decide+kernel)
theorem ye:VF kU pZ ["thing","many"] ["is_listed_of","all"]:= .of (by decide+kernel)
theorem Ik:VF ui Be ["one","other"] ["abs"]:= .of (by decide+kernel)
theorem PB:VF zI Hl ["top","bottom"] ["common"]:= .of (by decide+kernel)
theorem MY:VF wY CU ["one","other"] ["part"]:= .of (by decide+kernel)
theorem Ml:VF wD CG ["one","other"] ["part"]:= .of (by decide+kernel)
theorem HR:VF uq zN ["one","other"] []:= .of (by decide+kernel)
theorem GW:VF qH w_ ["rows"] ["tuple"]:= .of (by decide+kernel)
theorem Ni:VF vS Cr ["row","times","other"] ["zip"]:= .of (by decide+kernel)
theorem Ic:VF tS Bg ["weights","rows","wide"] ["zip","added","tuple"]:= .of (by decide+kernel)
theorem FT:VF qz xa ["one","other"] ["len","tuple"]:= .of (by decide+kernel)
theorem JN:VF ud y6 ["rows","place"] ["tuple"]:= .of (by decide+kernel)
theorem yj:VF lp pY ["rows","wide"] ["range","tuple"]:= .of (by decide+kernel)
theorem D5:VF pH u_ ["n","place"] ["range","tuple"]:= .of (by decide+kernel)
theorem B_:VF nP sR ["n"] ["range","tuple"]:= .of (by decide+kernel)
theorem QH:VF Ec Lj ["one","other"] ["zip","sum"]:= .of (by decide+kernel)
theorem Hm:VF qx qj ["thing","many","wide"] ["is_listed","len","all"]:= .of (by decide+kernel)
theorem EV:VF pP vi ["turn","back"] ["is_listed","len","is_rows","product","unit_rows"]:= .of (by decide+kernel)
theorem zw:VF mw qv ["turn","back","many"] ["is_rows","are_back"]:= .of (by decide+kernel)
theorem Aj:VF l6 qM ["rows","made","turn","back"] ["len","is_rows","is_turn_of","as_rows","product"]:= .of (by decide+kernel)
theorem cx:VF qQ xG ["together","table","one","other"] ["zip"]:= .of (by decide+kernel)
theorem FX:VF qA xm ["table","steps","row"] ["zip","dot","cleared"]:= .of (by decide+kernel)
theorem Ey:VF pB vH ["steps"] ["line_of"]:= .of (by decide+kernel)
theorem zR:VF mF qZ ["table"] ["zip","tuple"]:= .of (by decide+kernel)
theorem BZ:VF nR sQ ["table","line"] ["zip","tuple"]:= .of (by decide+kernel)
theorem IE:VF uw A3 ["steps"] ["table_of","tuple","squares_in"]:= .of (by decide+kernel)
theorem dy:VF gL kB ["top","bottom"] []:= .of (by decide+kernel)
theorem BI:VF nW sT ["rows","k","other"] ["list"]:= .of (by decide+kernel)
theorem bp:VF cZ jf ["self","rows"] ["len","unit_rows"]:= .of (by decide+kernel)
theorem aV:VF g_ mQ ["self","k","times","other"] ["added"]:= .of (by decide+kernel)
theorem a6:VF fB jo ["self","k","other"] ["exchanged"]:= .of (by decide+kernel)
theorem sH:VF iN lz ["share"] ["abs"]:= .of (by decide+kernel)
theorem vD:VF jR m9 ["square","share","ahead"] ["times","part","minus","before"]:= .of (by decide+kernel)
theorem DW:VF pW ve ["steps"] ["shares","all","len","range","any"]:= .of (by decide+kernel)
theorem cz:VF e7 iG ["self","steps"] ["Bench","table_of"]:= .of (by decide+kernel)
theorem fA:VF fx jq ["self","k"] []:= .of (by decide+kernel)
theorem aN:VF fM jN ["self","k","j"] ["nearest_quotient","range"]:= .of (by decide+kernel)
theorem aY:VF fb iI ["self","k"] []:= .of (by decide+kernel)
theorem ai:VF gp kY ["self","k"] ["len","range"]:= .of (by decide+kernel)
theorem aG:VF fv jb ["self"] ["len","max","range"]:= .of (by decide+kernel)
theorem cF:VF wb Di ["steps"] ["Stairs","len","turned_over","as_rows"]:= .of (by decide+kernel)
theorem yh:VF kX qg ["steps","told"] ["is_listed_of","are_turned","is_short"]:= .of (by decide+kernel)
theorem IH:VF tZ Ag ["_law_script","_law_k"] ["len"]:= .of (by decide+kernel)
theorem Eh:VF pV vo ["_law_script","_law_k"] ["_law_at","abs","range"]:= .of (by decide+kernel)
theorem BW:VF nO sY ["_law_left_here","_law_many"] []:= .of (by decide+kernel)
theorem zm:VF mv qo ["_law_left_here","_law_kind"] ["_law_digit"]:= .of (by decide+kernel)
theorem DF:VF pF u9 ["_law_left_here","_law_many","_law_wide","_law_kind"] ["range","tuple"]:= .of (by decide+kernel)
theorem Cb:VF nH sP ["_law_left_here"] ["_law_digit","max","_law_rows"]:= .of (by decide+kernel)
theorem F9:VF rm xT ["_law_one","_law_other"] ["zip","sum"]:= .of (by decide+kernel)
theorem Gz:VF qp xr ["_law_steps"] ["len","range","_law_dot"]:= .of (by decide+kernel)
theorem BH:VF nF tH ["_law_steps"] ["_law_own","len","range","abs"]:= .of (by decide+kernel)
theorem yv:VF lq qc ["_law_one","_law_other"] ["len","zip","tuple"]:= .of (by decide+kernel)
theorem Ew:VF pj va ["_law_n"] ["range","tuple"]:= .of (by decide+kernel)
theorem au:VF dG u7 ["_law_left_here","_law_n","_law_deeds","_law_most"] ["_law_unit","range","_law_digit","zip","tuple"]:= .of (by decide+kernel)
theorem wU:VF ka oj ["_law_rows_here","_law_many","_law_wide"] ["list","tuple","isinstance","len","all"]:= .of (by decide+kernel)
theorem ax:VF ku tx ["_law_steps","_law_told"] ["list","tuple","isinstance","len","_law_are_rows","_law_product","_law_unit","_law_short"]:= .of (by decide+kernel)
theorem dF:VF fS nZ ["_law_thing"] ["list","tuple","isinstance"]:= .of (by decide+kernel)
theorem aB:VF nS tD ["_law_left_here","_law_steps"] ["len","_law_digit","_law_unit","short","_law_turn","_law_product"]:= .of (by decide+kernel)
theorem Bv:VF nE tF ["_law_left_here","_law_paper_here"] ["_law_digit","len","list"]:= .of (by decide+kernel)
theorem EO:VF pQ vJ ["_law_steps","_law_told","_law_due"] ["shows_short","bool","isinstance"]:= .of (by decide+kernel)
theorem QQ:VF uH Ll ["_law_script"] ["len","range","_law_left","_law_drawn","_law_own","_law_paper","_law_lists","_law_digit","_law_spoil","_law_takes","_law_says","tuple"]:= .of (by decide+kernel)
structure Ev(w:World)(mg:Str->Option Value)(h:Heap):Prop where
 X:(KX w.params).In h
 G:h.Ns mainGlobals mg
section
variable {w:World}{mg:Str->Option Value}{h:Heap}(base:Heap)(e:Ev w mg h)
include e
set_option hygiene false
local macro_rules| `(tactic|nofun)=> `(tactic|repeat' first
 |(show JA _ _ _;first|exact aD|refine ak ?_ ?_)
 |(show JE (bY _ _ _ _ _ _ _) _ _;first|exact jw|exact bG|refine cS ?_ ?_|first|refine bN c1.1 c1.2 (hr.mono (by decide)) ?_ (by decide+kernel) rfl|refine bN c2.1 c2.2 (hr.mono (by decide)) ?_ (by decide+kernel) rfl|refine bN c3.1 c3.2 (hr.mono (by decide)) ?_ (by decide+kernel) rfl|refine bN c4.1 c4.2 (hr.mono (by decide)) ?_ (by decide+kernel) rfl|refine bN c5.1 c5.2 (hr.mono (by decide)) ?_ (by decide+kernel) rfl|refine bN c6.1 c6.2 (hr.mono (by decide)) ?_ (by decide+kernel) rfl|refine bN c7.1 c7.2 (hr.mono (by decide)) ?_ (by decide+kernel) rfl|refine bN c8.1 c8.2 (hr.mono (by decide)) ?_ (by decide+kernel) rfl|refine bN c9.1 c9.2 (hr.mono (by decide)) ?_ (by decide+kernel) rfl|refine gn JZ ?_ B.yK rfl vw (by decide+kernel) rfl|refine eF yF ?_ B.jS rfl i5 (by decide+kernel) rfl|refine gn jt ?_ B.fL rfl eW (by decide+kernel) rfl|refine gn l9 ?_ B.fZ rfl fj (by decide+kernel) rfl|refine gn C9 ?_ B.fZ rfl fj (by decide+kernel) rfl|refine eF jJ ?_ B.jQ rfl gW (by decide+kernel) rfl|refine eF (Km rfl) ?_ B.KY rfl Fd (by decide+kernel) rfl|refine eF Ku ?_ B.KD rfl FF (by decide+kernel) rfl|refine eF (Kq rfl) ?_ B.K4 rfl GF (by decide+kernel) rfl|refine eF (Lb rfl) ?_ B.Kw rfl GH (by decide+kernel) rfl|refine eF (D1 rfl) ?_ B.EB rfl zK (by decide+kernel) rfl|refine xg ?_ ?_|refine yV ?_|refine Gk ?_|refine bx (by first|exact iB|exact ou|exact Ke|exact d9|exact Lp|exact dM|exact GD) ?_ ?_|refine DB (by first|exact Ap hr|exact DC|exact Iv|exact Io|exact zO|exact IZ|exact wF|exact Al|exact DU hr) (fE _) ?_ ?_|refine rL ?_|refine m5 ?_|refine Lc ?_|refine lN ?_ ?_ ?_|refine kv ?_|refine EW ?_ ?_ ?_|refine Kn ?_ ?_|refine PR ?_ ?_|refine J0 ?_|refine K_ ?_|exact AV|exact KN|exact Kh|refine M3 (by decide+kernel) ?_ ?_ ?_ ?_ ?_|exact kR B.yK rfl vw (by decide+kernel) rfl|exact kR B.Gg rfl Dp (by decide+kernel) rfl|exact kR B.fL rfl eW (by decide+kernel) rfl|exact kR B.fZ rfl fj (by decide+kernel) rfl)
 |(show JE _ _ _;first|exact v.nm _|exact bG|refine cS ?_ ?_|first|refine bN c1.1 c1.2 (hr.mono (by decide)) ?_ (by decide+kernel) v.gM|refine bN c2.1 c2.2 (hr.mono (by decide)) ?_ (by decide+kernel) v.gM|refine bN c3.1 c3.2 (hr.mono (by decide)) ?_ (by decide+kernel) v.gM|refine bN c4.1 c4.2 (hr.mono (by decide)) ?_ (by decide+kernel) v.gM|refine bN c5.1 c5.2 (hr.mono (by decide)) ?_ (by decide+kernel) v.gM|refine bN c6.1 c6.2 (hr.mono (by decide)) ?_ (by decide+kernel) v.gM|refine bN c7.1 c7.2 (hr.mono (by decide)) ?_ (by decide+kernel) v.gM|refine bN c8.1 c8.2 (hr.mono (by decide)) ?_ (by decide+kernel) v.gM|refine bN c9.1 c9.2 (hr.mono (by decide)) ?_ (by decide+kernel) v.gM|refine gn JZ ?_ B.yK rfl vw (by decide+kernel) v.gM|refine eF yF ?_ B.jS rfl i5 (by decide+kernel) v.gM|refine gn jt ?_ B.fL rfl eW (by decide+kernel) v.gM|refine gn l9 ?_ B.fZ rfl fj (by decide+kernel) v.gM|refine gn C9 ?_ B.fZ rfl fj (by decide+kernel) v.gM|refine eF jJ ?_ B.jQ rfl gW (by decide+kernel) v.gM|refine eF (Km rfl) ?_ B.KY rfl Fd (by decide+kernel) v.gM|refine eF Ku ?_ B.KD rfl FF (by decide+kernel) v.gM|refine eF (Kq rfl) ?_ B.K4 rfl GF (by decide+kernel) v.gM|refine eF (Lb rfl) ?_ B.Kw rfl GH (by decide+kernel) v.gM|refine eF (D1 rfl) ?_ B.EB rfl zK (by decide+kernel) v.gM|refine xg ?_ ?_|refine yV ?_|refine Gk ?_|refine bx (by first|exact iB|exact ou|exact Ke|exact d9|exact Lp|exact dM|exact GD) ?_ ?_|refine DB (by first|exact Ap hr|exact DC|exact Iv|exact Io|exact zO|exact IZ|exact wF|exact Al|exact DU hr) (fE _) ?_ ?_|refine rL ?_|refine m5 ?_|refine Lc ?_|refine lN ?_ ?_ ?_|refine kv ?_|refine EW ?_ ?_ ?_|refine Kn ?_ ?_|refine PR ?_ ?_|refine J0 ?_|refine K_ ?_|exact AV|exact KN|exact Kh|refine L0 v (by decide+kernel) ?_ ?_ ?_ ?_ ?_|exact kR B.yK rfl vw (by decide+kernel) v.gM|exact kR B.Gg rfl Dp (by decide+kernel) v.gM|exact kR B.fL rfl eW (by decide+kernel) v.gM|exact kR B.fZ rfl fj (by decide+kernel) v.gM)
 |(show JB _ _ _;first|refine aM ?_ ?_|refine bO ?_|exact kI)
 |(show JS _ _ _;first|refine cD nd v.lM ?_|refine km ?_ ?_ ?_|refine eY ?_|refine oF ?_ ?_ ?_|refine AW ?_ ?_|refine iw ?_|refine jg ?_ ?_ ?_|refine HX v nd v.lM (by decide+kernel) ?_ ?_ ?_ ?_ ?_|refine OJ nd (by decide) v.loc v.loc ?_|refine Am ?_ ?_|refine Lr ?_|exact HM|exact BC)
 |(show JT _ _ _;first|refine iW (by first|exact Ap hr|exact DC|exact Iv|exact Io|exact zO|exact IZ|exact wF|exact Al|exact DU hr) (fE _) ?_ ?_|(show JT _ (.BoolOp _ _ _) _;refine yI ?_)|refine rl ?_|refine lS ?_)
 |(show JW _ _ _;first|refine vk ?_ ?_|refine uN ?_|refine PV ?_ ?_|refine MV ?_)
 |(show JI (bY _ _ _ _ _ _ _) _ _ _;first|refine mO rfl B.iC ?_|refine yQ rfl B.uP ?_|refine tN rfl B.iC ?_|refine iz ?_)
 |(show JI _ _ _ _;first|refine mO v.gM B.iC ?_|refine yQ v.gM B.uP ?_|refine tN v.gM B.iC ?_|refine iz ?_)
 |(show JG (bY _ _ _ _ _ _ _) _ _;first|exact RQ|exact Qe)
 |(show JG _ _ _;first|exact gG nd v.lM (by first|exact .inr v.loc|exact .inl rfl)|exact vh rfl nd v.lM (by first|exact .inr v.loc|exact .inl rfl) v.lM (by first|exact .inr v.loc|exact .inl rfl))
 |(show JO _ _ _;first|exact oQ|refine oM ?_)
 |(show JC _ _ _;exact dX)
 |exact dW
 |exact wJ
 |intro _ _ _ _)
def Fk(w:World)(mg:Str->Option Value)(base:Heap)(n:Str)(s:Stmt)(ps:List Str)(a:Addr)(m:Value)(c:Addr)(k:Nat)(S:bq):Prop:=kr (KX w.params) mg n n s ps a (Hd.fd s n n m c)/\c_ PW w (KX w.params) mg base fX k a (Hd.fd s n n m c) ps (gu S)
omit e in
theorem fk{n:Str}{s:Stmt}{N gl ps:List Str}{a:Addr}{m:Value}{c:Addr}{k:Nat}{S:bq}{t:DS}{base:Heap}(d:kr (KX w.params) mg n n s ps a (Hd.fd s n n m c))(v:VF s N ps gl)(g:VS (a9 s) N gl->N.Nodup->∀(cdv:Value) (A:Around) (outer:List Env) (z:Shared) (H:Hp) (E:XK),cB k (A.deeper (envOfC n (a9 s) z.heap.objs.size a cdv))->JB (pw fX PW w (KX w.params) mg base N n (a9 s) a cdv A outer z H E).xf (gE s) t)(q:∀ds st K,S ds st K->ds.length=ps.length/\t {nx:=λ _ st2=>K .ay st2,rt:=K} (aI N ds) st):Fk w mg base n s ps a m c (k+1) S:=⟨d,jK d.fn v.sc (g v.v v.sc.nd) q⟩
local macro_rules| `(tactic|ac_rfl)=> `(tactic|first|exact Hd.SD e.X e.G (by kernel_rfl) λ _ _ _ _ _ _ _=>rfl|exact Hd.TY e.X e.G (by kernel_rfl) λ _ _ _ _ _ _ _ _=>rfl|exact Hd.T7 e.X e.G (by kernel_rfl) λ _ _ _ _ _ _ _ _ _=>rfl|exact Hd.Um e.X e.G (by kernel_rfl) λ _ _ _ _ _ _ _ _ _ _=>rfl)
theorem Bt:Bl mg:=⟨Vo e.X e.G (by kernel_rfl),Vo e.X e.G (by kernel_rfl),Vo e.X e.G (by kernel_rfl),Vo e.X e.G (by kernel_rfl),Vo e.X e.G (by kernel_rfl),Vo e.X e.G (by kernel_rfl),Vo e.X e.G (by kernel_rfl),Vo e.X e.G (by kernel_rfl),Vo e.X e.G (by kernel_rfl),Vo e.X e.G (by kernel_rfl),Vo e.X e.G (by kernel_rfl),Vo e.X e.G (by kernel_rfl),Vo e.X e.G (by kernel_rfl)⟩
theorem Qt:Kl (KX w.params) mg:=⟨⟨⟨by kernel_rfl,by kernel_rfl,by kernel_rfl,by kernel_rfl⟩,Y6 e.X e.G (by kernel_rfl),by kernel_rfl,by kernel_rfl⟩,⟨⟨by kernel_rfl,by kernel_rfl,by kernel_rfl,by kernel_rfl⟩,Y6 e.X e.G (by kernel_rfl),by kernel_rfl,by kernel_rfl⟩,Hd.na (by kernel_rfl),Hd.na (by kernel_rfl),Hd.na (by kernel_rfl),Hd.na (by kernel_rfl),Hd.na (by kernel_rfl)⟩
theorem BK:Fk w mg base "is_number" nJ ["thing"] 53 xH 52 1 nX:=by
 have B:=Bt e;exact fk (by ac_rfl) B8 (λ v nd _ _ _ _ _ _ hr=>by nofun) AZ
theorem nI:Fk w mg base "is_listed" nB ["thing"] 60 xH 59 1 iZ:=by
 have B:=Bt e;exact fk (by ac_rfl) Bs (λ v nd _ _ _ _ _ _ hr=>by nofun) Ba
theorem oh:Fk w mg base "is_listed_of" j8 ["thing","many"] 67 xH 66 2 h_:=by
 have c1:=nI base e;have B:=Bt e;exact fk (by ac_rfl) vP (λ v nd _ _ _ _ _ _ hr=>by nofun) vL
theorem yf:Fk w mg base "are_numbers" kU ["thing","many"] 72 xH 71 3 i8:=by
 have c1:=oh base e;have c2:=BK base e;have B:=Bt e;exact fk (by ac_rfl) ye (λ v nd _ _ _ _ _ _ hr=>by nofun) wL
theorem JP:Fk w mg base "common" ui ["one","other"] 79 sN 78 1 tV:=by
 have B:=Bt e;exact fk (by ac_rfl) Ik (λ v nd _ _ _ _ _ _ hr=>by nofun) Fe
theorem qR:Fk w mg base "part" zI ["top","bottom"] 86 sN 85 2 my:=by
 have c1:=JP base e;have B:=Bt e;exact fk (by ac_rfl) PB (λ v nd _ _ _ _ _ _ hr=>by nofun) MN
theorem MT:Fk w mg base "minus" wY ["one","other"] 93 sN 92 3 wm:=by
 have c1:=qR base e;have B:=Bt e;exact fk (by ac_rfl) MY (λ v nd _ _ _ _ _ _ hr=>by nofun) HP
theorem Nz:Fk w mg base "times" wD ["one","other"] 100 sN 99 3 rO:=by
 have c1:=qR base e;have B:=Bt e;exact fk (by ac_rfl) Ml (λ v nd _ _ _ _ _ _ hr=>by nofun) IF
theorem IQ:Fk w mg base "before" uq ["one","other"] 107 sN 106 1 uB:=by
 have B:=Bt e;exact fk (by ac_rfl) HR (λ v nd _ _ _ _ _ _ hr=>by nofun) Fx
theorem xU:Fk w mg base "as_rows" qH ["rows"] 112 gd 111 1 kE:=by
 have B:=Bt e;exact fk (by ac_rfl) GW (λ v nd _ _ _ _ _ _ hr=>by nofun) DZ
theorem CT:Fk w mg base "added" vS ["row","times","other"] 117 gd 116 1 lK:=by
 have B:=Bt e;exact fk (by ac_rfl) Ni (λ v nd _ _ _ _ _ _ hr=>by nofun) Ie
theorem Ia:Fk w mg base "sum_by" tS ["weights","rows","wide"] 124 gd 123 2 t7:=by
 have c1:=CT base e;have B:=Bt e;exact fk (by ac_rfl) Ic (λ v nd _ _ _ _ _ _ hr=>by nofun) Hi
theorem w4:Fk w mg base "product" qz ["one","other"] 129 gd 128 3 nA:=by
 have c1:=Ia base e;have B:=Bt e;exact fk (by ac_rfl) FT (λ v nd _ _ _ _ _ _ hr=>by nofun) EA
theorem JQ:Fk w mg base "column" ud ["rows","place"] 134 gd 133 1 t_:=by
 have B:=Bt e;exact fk (by ac_rfl) JN (λ v nd _ _ _ _ _ _ hr=>by nofun) Hw
theorem yt:Fk w mg base "turned_over" lp ["rows","wide"] 139 gd 138 2 ll:=by
 have c1:=JQ base e;have B:=Bt e;exact fk (by ac_rfl) yj (λ v nd _ _ _ _ _ _ hr=>by nofun) wB
theorem D7:Fk w mg base "unit_row" pH ["n","place"] 144 gd 143 1 pk:=by
 have B:=Bt e;exact fk (by ac_rfl) D5 (λ v nd _ _ _ _ _ _ hr=>by nofun) Bp
theorem tq:Fk w mg base "unit_rows" nP ["n"] 149 gd 148 2 iS:=by
 have c1:=D7 base e;have B:=Bt e;exact fk (by ac_rfl) B_ (λ v nd _ _ _ _ _ _ hr=>by nofun) Au
theorem QD:Fk w mg base "dot" Ec ["one","other"] 154 gd 153 1 vG:=by
 have B:=Bt e;exact fk (by ac_rfl) QH (λ v nd _ _ _ _ _ _ hr=>by nofun) Hc
theorem qu:Fk w mg base "is_rows" qx ["thing","many","wide"] 159 gd 158 4 jv:=by
 have c1:=nI base e;have c2:=yf base e;have B:=Bt e;exact fk (by ac_rfl) Hm (λ v nd _ _ _ _ _ _ hr=>by nofun) D6
theorem Ef:Fk w mg base "are_back" pP ["turn","back"] 166 gd 165 5 pK:=by
 have c1:=nI base e;have c2:=qu base e;have c3:=w4 base e;have c4:=tq base e;have B:=Bt e;exact fk (by ac_rfl) EV (λ v nd _ _ _ _ _ _ hr=>by nofun) B6
theorem AO:Fk w mg base "is_turn_of" mw ["turn","back","many"] 173 gd 172 6 mr:=by
 have c1:=qu base e;have c2:=Ef base e;have B:=Bt e;exact fk (by ac_rfl) zw (λ v nd _ _ _ _ _ _ hr=>by nofun) yb
theorem AD:Fk w mg base "are_turned" l6 ["rows","made","turn","back"] 180 gd 179 7 lY:=by
 have c1:=qu base e;have c2:=AO base e;have c3:=xU base e;have c4:=w4 base e;have B:=Bt e;exact fk (by ac_rfl) Aj (λ v nd _ _ _ _ _ _ hr=>by nofun) yy
theorem HC:Fk w mg base "cleared" qQ ["together","table","one","other"] 187 qd 186 1 mY:=by
 have B:=Bt e
 exact fk (by ac_rfl) cx (λ v nd cdv A outer s H E hr=>(aM (cD cx.sc.nd (cx.v.l 4) bG)
  (aM (oF (NW (cx.v.g 0) B.uP (ak (cx.v.nm 1) (ak (cx.v.nm 2) (ak (cx.v.nm 3) aD)))) (Kv rfl cx.sc.nd) (aM (cD cx.sc.nd (cx.v.l 0) (bx ou (bx dM (bx d9 (cS (cx.v.nm 5) (kv bG)) (cx.v.nm 0)) (bx d9 (cx.v.nm 6) (cx.v.nm 7))) (cx.v.nm 4)))
  (bO (cD cx.sc.nd (cx.v.l 4) (cS (cx.v.nm 5) (kv bG))))))
  (bO (eY (cx.v.nm 0)))))) EU
theorem Ho:Fk w mg base "line_of" qA ["table","steps","row"] 194 qd 193 2 qV:=by
 have c1:=QD base e;have c2:=HC base e;have B:=Bt e;exact fk (by ac_rfl) FX (λ v nd _ _ _ _ _ _ hr=>by nofun) DH
theorem vB:Fk w mg base "table_of" pB ["steps"] 201 qd 200 3 lH:=by
 have c1:=Ho base e;have B:=Bt e;exact fk (by ac_rfl) Ey (λ v nd _ _ _ _ _ _ hr=>by nofun) Bu
theorem Bk:Fk w mg base "squares_in" mF ["table"] 206 qd 205 3 mI:=by
 have c1:=qR base e;have B:=Bt e;exact fk (by ac_rfl) zR (λ v nd _ _ _ _ _ _ hr=>by nofun) yg
theorem B7:Fk w mg base "shares_in" nR ["table","line"] 211 qd 210 3 nQ:=by
 have c1:=qR base e;have B:=Bt e;exact fk (by ac_rfl) BZ (λ v nd _ _ _ _ _ _ hr=>by nofun) AF
theorem Jt:Fk w mg base "shares" uw ["steps"] 216 qd 215 4 t6:=by
 have c1:=vB base e;have c2:=B7 base e;have c3:=Bk base e;have B:=Bt e;exact fk (by ac_rfl) IE (λ v nd _ _ _ _ _ _ hr=>by nofun) Gw
theorem qO:Fk w mg base "nearest_quotient" gL ["top","bottom"] 223 oi 222 1 gU:=by
 exact fk (by ac_rfl) dy (λ v nd cdv A outer s H E hr=>(bO (eY (bx (MS hr rfl dy.sc.gen dy.sc.co) (bx iB (bx d9 bG (dy.v.nm 0)) (dy.v.nm 1)) (bx d9 bG (dy.v.nm 1)))))) qh
theorem BP:Fk w mg base "exchanged" nW ["rows","k","other"] 230 oi 229 1 iP:=by
 have B:=Bt e;exact fk (by ac_rfl) BI (λ v nd _ _ _ _ _ _ hr=>by nofun) Bc
theorem gh:MethAt (KX w.params) aU "__init__" "Bench.__init__" cZ ["self","rows"] 242 (Hd.fd cZ "__init__" "Bench.__init__" oi 241):=Hd.FU (by kernel_rfl) λ _ _ _ _ _ _ _ _=>rfl
theorem tY:c_ PW w (KX w.params) mg base fX 3 242 (Hd.fd cZ "__init__" "Bench.__init__" oi 241) ["self","rows"] (gu jh):=by
 have c1:=tq base e;have B:=Bt e;have Q:=Qt e
 exact jK (N:=jf) (gh e).fn bp.sc (λ cdv A outer s H E hr=>(aM (jr Q.cu.cl Q.fF (bp.v.nm 0) (oJ (Nc:=["row"]) (cc.look (a9 cZ) ["self","rows"] (by decide+kernel)) (iz (bp.v.nm 1)) (λ _ _ _ _=>(gG (show(["row"]:List Str).Nodup by decide+kernel))) (λ _ _ _ _=>dX) (λ _ _ _ _=>(gn l9 (ak jw aD) B.fZ rfl fj (by decide+kernel) rfl)) dW))
  (aM (jr Q.cu.cl Q.fC (bp.v.nm 0) (oJ (Nc:=["row"]) (cc.look (a9 cZ) ["self","rows"] (by decide+kernel)) (iz (bN c1.1 c1.2 (hr.mono (by decide)) (ak (eF jJ (ak (bp.v.nm 1) aD) B.jQ rfl gW (bp.v.d 0) (bp.v.g 0)) aD) (bp.v.d 1) (bp.v.g 1))) (λ _ _ _ _=>(gG (show(["row"]:List Str).Nodup by decide+kernel))) (λ _ _ _ _=>dX) (λ _ _ _ _=>(gn l9 (ak jw aD) B.fZ rfl fj (by decide+kernel) rfl)) dW))
  (bO (jr Q.cu.cl Q.cK (bp.v.nm 0) (oJ (Nc:=["row"]) (cc.look (a9 cZ) ["self","rows"] (by decide+kernel)) (iz (bN c1.1 c1.2 (hr.mono (by decide)) (ak (eF jJ (ak (bp.v.nm 1) aD) B.jQ rfl gW (bp.v.d 0) (bp.v.g 0)) aD) (bp.v.d 1) (bp.v.g 1))) (λ _ _ _ _=>(gG (show(["row"]:List Str).Nodup by decide+kernel))) (λ _ _ _ _=>dX) (λ _ _ _ _=>(gn l9 (ak jw aD) B.fZ rfl fj (by decide+kernel) rfl)) dW)))))) sE
theorem mP:MethAt (KX w.params) aU "take" "Bench.take" g_ ["self","k","times","other"] 249 (Hd.fd g_ "take" "Bench.take" oi 248):=Hd.Uj (by kernel_rfl) λ _ _ _ _ _ _ _ _ _ _=>rfl
theorem zp:c_ PW w (KX w.params) mg base fX 2 249 (Hd.fd g_ "take" "Bench.take" oi 248) ["self","k","times","other"] (gu lZ):=by
 have c1:=CT base e;have Q:=Qt e
 exact jK (N:=mQ) (mP e).fn aV.sc (λ cdv A outer s H E hr=>(aM (jg (bN c1.1 c1.2 (hr.mono (by decide)) (ak (cS (cA Q.cu.cl Q.fF (aV.v.nm 0)) (aV.v.nm 1)) (ak (kv (aV.v.nm 2)) (ak (cS (cA Q.cu.cl Q.fF (aV.v.nm 0)) (aV.v.nm 3)) aD))) (aV.v.d 0) (aV.v.g 0)) (cA Q.cu.cl Q.fF (aV.v.nm 0)) (aV.v.nm 1))
  (aM (jg (bN c1.1 c1.2 (hr.mono (by decide)) (ak (cS (cA Q.cu.cl Q.fC (aV.v.nm 0)) (aV.v.nm 1)) (ak (kv (aV.v.nm 2)) (ak (cS (cA Q.cu.cl Q.fC (aV.v.nm 0)) (aV.v.nm 3)) aD))) (aV.v.d 0) (aV.v.g 0)) (cA Q.cu.cl Q.fC (aV.v.nm 0)) (aV.v.nm 1))
  (bO (jg (bN c1.1 c1.2 (hr.mono (by decide)) (ak (cS (cA Q.cu.cl Q.cK (aV.v.nm 0)) (aV.v.nm 3)) (ak (aV.v.nm 2) (ak (cS (cA Q.cu.cl Q.cK (aV.v.nm 0)) (aV.v.nm 1)) aD))) (aV.v.d 0) (aV.v.g 0)) (cA Q.cu.cl Q.cK (aV.v.nm 0)) (aV.v.nm 3)))))) yk
theorem jc:MethAt (KX w.params) aU "exchange" "Bench.exchange" fB ["self","k","other"] 256 (Hd.fd fB "exchange" "Bench.exchange" oi 255):=Hd.Su (by kernel_rfl) λ _ _ _ _ _ _ _ _ _=>rfl
theorem uh:c_ PW w (KX w.params) mg base fX 2 256 (Hd.fd fB "exchange" "Bench.exchange" oi 255) ["self","k","other"] (gu jm):=by
 have c1:=BP base e;have Q:=Qt e
 exact jK (N:=jo) (jc e).fn a6.sc (λ cdv A outer s H E hr=>(aM (jr Q.cu.cl Q.fF (a6.v.nm 0) (bN c1.1 c1.2 (hr.mono (by decide)) (ak (cA Q.cu.cl Q.fF (a6.v.nm 0)) (ak (a6.v.nm 1) (ak (a6.v.nm 2) aD))) (a6.v.d 0) (a6.v.g 0)))
  (aM (jr Q.cu.cl Q.fC (a6.v.nm 0) (bN c1.1 c1.2 (hr.mono (by decide)) (ak (cA Q.cu.cl Q.fC (a6.v.nm 0)) (ak (a6.v.nm 1) (ak (a6.v.nm 2) aD))) (a6.v.d 0) (a6.v.g 0)))
  (bO (jr Q.cu.cl Q.cK (a6.v.nm 0) (bN c1.1 c1.2 (hr.mono (by decide)) (ak (cA Q.cu.cl Q.cK (a6.v.nm 0)) (ak (a6.v.nm 1) (ak (a6.v.nm 2) aD))) (a6.v.d 0) (a6.v.g 0))))))) sD
theorem sJ:Fk w mg base "is_half_at_most" iN ["share"] 298 fV 297 1 iJ:=by
 have B:=Bt e;exact fk (by ac_rfl) sH (λ v nd _ _ _ _ _ _ hr=>by nofun) qP
theorem u6:Fk w mg base "falls_too_far" jR ["square","share","ahead"] 305 fV 304 4 jP:=by
 have c1:=Nz base e;have c2:=qR base e;have c3:=MT base e;have c4:=IQ base e;have B:=Bt e;exact fk (by ac_rfl) vD (λ v nd _ _ _ _ _ _ hr=>by nofun) tQ
theorem D9:Fk w mg base "is_short" pW ["steps"] 310 fV 309 5 pf:=by
 have c1:=Jt base e;have c2:=sJ base e;have c3:=u6 base e;have B:=Bt e;exact fk (by ac_rfl) DW (λ v nd _ _ _ _ _ _ hr=>by nofun) BO
theorem fW:MethAt (KX w.params) aL "__init__" "Stairs.__init__" e7 ["self","steps"] 324 (Hd.fd e7 "__init__" "Stairs.__init__" fV 323):=Hd.FU (by kernel_rfl) λ _ _ _ _ _ _ _ _=>rfl
theorem sA:c_ PW w (KX w.params) mg base fX 5 324 (Hd.fd e7 "__init__" "Stairs.__init__" fV 323) ["self","steps"] (gu iH):=by
 have c1:=vB base e;have Q:=Qt e
 exact jK (N:=iG) (fW e).fn cz.sc (λ cdv A outer s H E hr=>(aM (jr Q.bf.cl Q.ir (cz.v.nm 0) (Fi ⟨Q.cu.Se,(gh e).me.at_,(gh e).me.fn,Q.cu.kp⟩ (tY base e) (hr.mono (by decide)) (cz.v.g 0) Q.cu.mg (gh e).bd (ak (cz.v.nm 1) aD) (cz.v.d 0)))
  (bO (jr Q.bf.cl Q.bD (cz.v.nm 0) (bN c1.1 c1.2 (hr.mono (by decide)) (ak (cz.v.nm 1) aD) (cz.v.d 1) (cz.v.g 1)))))) qJ
theorem bK:MethAt (KX w.params) aL "last_of" "Stairs.last_of" fx ["self","k"] 331 (Hd.fd fx "last_of" "Stairs.last_of" fV 330):=Hd.FU (by kernel_rfl) λ _ _ _ _ _ _ _ _=>rfl
theorem dU:c_ PW w (KX w.params) mg base fX 1 331 (Hd.fd fx "last_of" "Stairs.last_of" fV 330) ["self","k"] (gu cY):=by
 have Q:=Qt e;exact jK (N:=jq) (bK e).fn fA.sc (λ cdv A outer s H E hr=>(bO (eY (EW (iW DC (fE _) (fA.v.nm 1) bG) (cS (cS (cA Q.bf.cl Q.bD (fA.v.nm 0)) (fA.v.nm 1)) (fA.v.nm 1)) bG)))) sv
theorem fQ:MethAt (KX w.params) aL "lessen" "Stairs.lessen" fM ["self","k","j"] 338 (Hd.fd fM "lessen" "Stairs.lessen" fV 337):=Hd.Su (by kernel_rfl) λ _ _ _ _ _ _ _ _ _=>rfl
theorem mW:c_ PW w (KX w.params) mg base fX 3 338 (Hd.fd fM "lessen" "Stairs.lessen" fV 337) ["self","k","j"] (gu gI):=by
 have c1:=qO base e;have B:=Bt e;have Q:=Qt e
 exact jK (N:=jN) (fQ e).fn aN.sc (λ cdv A outer s H E hr=>(aM (cD aN.sc.nd (aN.v.l 3) (bN c1.1 c1.2 (hr.mono (by decide)) (ak (cS (cS (cA Q.bf.cl Q.bD (aN.v.nm 0)) (aN.v.nm 1)) (aN.v.nm 2)) (ak (cS (cS (cA Q.bf.cl Q.bD (aN.v.nm 0)) (aN.v.nm 2)) (aN.v.nm 2)) aD)) (aN.v.d 0) (aN.v.g 0)))
  (aM (km (iW (Ap hr) (fE _) (aN.v.nm 3) bG) (bO MG) kI)
  (aM (iw (gq (cA Q.bf.cl Q.ir (aN.v.nm 0)) Q.cu.cl (mP e).me (zp base e) (hr.mono (by decide)) (mP e).bd (ak (aN.v.nm 1) (ak (aN.v.nm 3) (ak (aN.v.nm 2) aD)))))
  (bO (oF (mO (aN.v.g 1) B.iC (ak (bx iB (aN.v.nm 2) bG) aD)) (gG aN.sc.nd) (bO (Jc (cS (cA Q.bf.cl Q.bD (aN.v.nm 0)) (aN.v.nm 1)) (aN.v.nm 4) (bx d9 (aN.v.nm 3) (cS (cS (cA Q.bf.cl Q.bD (aN.v.nm 0)) (aN.v.nm 2)) (aN.v.nm 4))) N2)))))))) uA
theorem iM:MethAt (KX w.params) aL "is_steep" "Stairs.is_steep" fb ["self","k"] 345 (Hd.fd fb "is_steep" "Stairs.is_steep" fV 344):=Hd.FU (by kernel_rfl) λ _ _ _ _ _ _ _ _=>rfl
theorem sI:c_ PW w (KX w.params) mg base fX 2 345 (Hd.fd fb "is_steep" "Stairs.is_steep" fV 344) ["self","k"] (gu iF):=by
 have Q:=Qt e
 exact jK (N:=iI) (iM e).fn aY.sc (λ cdv A outer s H E hr=>(aM (cD aY.sc.nd (aY.v.l 2) (cS (cS (cA Q.bf.cl Q.bD (aY.v.nm 0)) (aY.v.nm 1)) (bx dM (aY.v.nm 1) bG)))
  (aM (cD aY.sc.nd (aY.v.l 3) (gq (aY.v.nm 0) Q.bf.cl (bK e).me (dU base e) (hr.mono (by decide)) (bK e).bd (ak (bx dM (aY.v.nm 1) bG) aD)))
  (bO (eY (DB wF (fE _) (bx d9 bG (bx iB (bx d9 (gq (aY.v.nm 0) Q.bf.cl (bK e).me (dU base e) (hr.mono (by decide)) (bK e).bd (ak (aY.v.nm 1) aD)) (gq (aY.v.nm 0) Q.bf.cl (bK e).me (dU base e) (hr.mono (by decide)) (bK e).bd (ak (bx dM (aY.v.nm 1) bG) aD))) (bx d9 (aY.v.nm 2) (aY.v.nm 2)))) (bx d9 (bx d9 bG (aY.v.nm 3)) (aY.v.nm 3)))))))) rB
theorem kW:MethAt (KX w.params) aL "swap" "Stairs.swap" gp ["self","k"] 352 (Hd.fd gp "swap" "Stairs.swap" fV 351):=Hd.FU (by kernel_rfl) λ _ _ _ _ _ _ _ _=>rfl
theorem yn:c_ PW w (KX w.params) mg base fX 3 352 (Hd.fd gp "swap" "Stairs.swap" fV 351) ["self","k"] (gu ly):=by
 have B:=Bt e;have Q:=Qt e
 exact jK (N:=kY) (kW e).fn ai.sc (λ cdv A outer s H E hr=>(aM (iw (gq (cA Q.bf.cl Q.ir (ai.v.nm 0)) Q.cu.cl (jc e).me (uh base e) (hr.mono (by decide)) (jc e).bd (ak (ai.v.nm 1) (ak (bx dM (ai.v.nm 1) bG) aD))))
  (aM (cD ai.sc.nd (ai.v.l 2) (cS (cS (cA Q.bf.cl Q.bD (ai.v.nm 0)) (ai.v.nm 1)) (bx dM (ai.v.nm 1) bG)))
  (aM (cD ai.sc.nd (ai.v.l 3) (gq (ai.v.nm 0) Q.bf.cl (bK e).me (dU base e) (hr.mono (by decide)) (bK e).bd (ak (ai.v.nm 1) aD)))
  (aM (cD ai.sc.nd (ai.v.l 4) (gq (ai.v.nm 0) Q.bf.cl (bK e).me (dU base e) (hr.mono (by decide)) (bK e).bd (ak (bx dM (ai.v.nm 1) bG) aD)))
  (aM (cD ai.sc.nd (ai.v.l 5) (bx ou (bx iB (bx d9 (gq (ai.v.nm 0) Q.bf.cl (bK e).me (dU base e) (hr.mono (by decide)) (bK e).bd (ak (bx dM (ai.v.nm 1) bG) aD)) (ai.v.nm 3)) (bx d9 (ai.v.nm 2) (ai.v.nm 2))) (ai.v.nm 4)))
  (aM (cD ai.sc.nd (ai.v.l 6) (lN (cS (cA Q.bf.cl Q.bD (ai.v.nm 0)) (ai.v.nm 1)) oQ (oM (bx dM (ai.v.nm 1) bG))))
  (aM (jg (bx z8 (lN (cS (cA Q.bf.cl Q.bD (ai.v.nm 0)) (bx dM (ai.v.nm 1) bG)) oQ (oM (bx dM (ai.v.nm 1) bG))) (m5 (ak (ai.v.nm 2) (ak (ai.v.nm 3) aD)))) (cA Q.bf.cl Q.bD (ai.v.nm 0)) (ai.v.nm 1))
  (aM (jg (bx z8 (ai.v.nm 6) (m5 (ak (ai.v.nm 5) aD))) (cA Q.bf.cl Q.bD (ai.v.nm 0)) (bx dM (ai.v.nm 1) bG))
  (bO (oF (tN (ai.v.g 1) B.iC (ak (bx iB (ai.v.nm 1) bG) (ak (eF jJ (ak (cA Q.bf.cl Q.bD (ai.v.nm 0)) aD) B.jQ rfl gW (ai.v.d 0) (ai.v.g 0)) aD))) (gG ai.sc.nd) (aM (cD ai.sc.nd (ai.v.l 8) (cS (cA Q.bf.cl Q.bD (ai.v.nm 0)) (ai.v.nm 7)))
  (aM (cD ai.sc.nd (ai.v.l 9) (bx ou (bx dM (bx d9 (ai.v.nm 3) (cS (ai.v.nm 8) (bx dM (ai.v.nm 1) bG))) (bx d9 (ai.v.nm 2) (cS (ai.v.nm 8) (ai.v.nm 1)))) (ai.v.nm 4)))
  (aM (cD ai.sc.nd (ai.v.l 10) (bx ou (bx iB (bx d9 (ai.v.nm 5) (cS (ai.v.nm 8) (ai.v.nm 1))) (bx d9 (ai.v.nm 2) (ai.v.nm 9))) (ai.v.nm 3)))
  (bO (jg (bx z8 (bx iB (lN (ai.v.nm 8) oQ (oM (bx dM (ai.v.nm 1) bG))) (m5 (ak (ai.v.nm 10) (ak (ai.v.nm 9) aD)))) (lN (ai.v.nm 8) (oM (bx iB (ai.v.nm 1) bG)) oQ)) (cA Q.bf.cl Q.bD (ai.v.nm 0)) (ai.v.nm 7))))))))))))))))) v_
theorem ja:MethAt (KX w.params) aL "shorten" "Stairs.shorten" fv ["self"] 359 (Hd.fd fv "shorten" "Stairs.shorten" fV 358):=Hd.T9 (by kernel_rfl) λ _ _ _ _ _ _ _=>rfl
theorem tT:c_ PW w (KX w.params) mg base fX 4 359 (Hd.fd fv "shorten" "Stairs.shorten" fV 358) ["self"] (gu je):=by
 have B:=Bt e;have Q:=Qt e
 exact jK (N:=jb) (ja e).fn aG.sc (λ cdv A outer s H E hr=>(aM (cD aG.sc.nd (aG.v.l 1) bG)
  (bO (AW (iW wF (fE _) (aG.v.nm 1) (eF jJ (ak (cA Q.bf.cl Q.bD (aG.v.nm 0)) aD) B.jQ rfl gW (aG.v.d 0) (aG.v.g 0))) (aM (iw (gq (aG.v.nm 0) Q.bf.cl (fQ e).me (mW base e) (hr.mono (by decide)) (fQ e).bd (ak (aG.v.nm 1) (ak (bx dM (aG.v.nm 1) bG) aD))))
  (bO (km (lS (gq (aG.v.nm 0) Q.bf.cl (iM e).me (sI base e) (hr.mono (by decide)) (iM e).bd (ak (aG.v.nm 1) aD))) (aM (iw (gq (aG.v.nm 0) Q.bf.cl (kW e).me (yn base e) (hr.mono (by decide)) (kW e).bd (ak (aG.v.nm 1) aD)))
  (bO (cD aG.sc.nd (aG.v.l 1) (eF (D1 rfl) (ak bG (ak (bx dM (aG.v.nm 1) bG) aD)) B.EB rfl zK (aG.v.d 1) (aG.v.g 1))))) (aM (oF (HH (aG.v.g 2) B.iC (ak (bx dM (aG.v.nm 1) bG) (ak (kv bG) (ak (kv bG) aD)))) (gG aG.sc.nd) (bO (iw (gq (aG.v.nm 0) Q.bf.cl (fQ e).me (mW base e) (hr.mono (by decide)) (fQ e).bd (ak (aG.v.nm 1) (ak (aG.v.nm 2) aD))))))
  (bO (OH aG.sc.nd (aG.v.l 1) bG PU)))))))))) sr
theorem MD:Fk w mg base "short" wb ["steps"] 373 fV 372 7 wN:=by
 have c1:=yt base e;have c2:=xU base e;have B:=Bt e;have Q:=Qt e
 exact fk (by ac_rfl) cF (λ v nd cdv A outer s H E hr=>(aM (cD cF.sc.nd (cF.v.l 1) (Fi ⟨Q.bf.Se,(fW e).me.at_,(fW e).me.fn,Q.bf.kp⟩ (sA base e) (hr.mono (by decide)) (cF.v.g 0) Q.bf.mg (fW e).bd (ak (cF.v.nm 0) aD) (cF.v.d 0)))
  (aM (iw (M4 (cF.v.nm 1) Q.bf.cl (ja e).me (tT base e) (hr.mono (by decide)) (ja e).bd))
  (aM (cD cF.sc.nd (cF.v.l 2) (cA Q.bf.cl Q.ir (cF.v.nm 1)))
  (bO (eY (rL (ak (bN c2.1 c2.2 (hr.mono (by decide)) (ak (cA Q.cu.cl Q.fF (cF.v.nm 2)) aD) (cF.v.d 3) (cF.v.g 3)) (ak (bN c2.1 c2.2 (hr.mono (by decide)) (ak (cA Q.cu.cl Q.fC (cF.v.nm 2)) aD) (cF.v.d 3) (cF.v.g 3)) (ak (bN c1.1 c1.2 (hr.mono (by decide)) (ak (cA Q.cu.cl Q.cK (cF.v.nm 2)) (ak (eF jJ (ak (cF.v.nm 0) aD) B.jQ rfl gW (cF.v.d 1) (cF.v.g 1)) aD)) (cF.v.d 2) (cF.v.g 2)) aD)))))))))) Jo
theorem yr:Fk w mg base "shows_short" kX ["steps","told"] 380 fV 379 8 lh:=by
 have c1:=oh base e;have c2:=AD base e;have c3:=D9 base e;have B:=Bt e;exact fk (by ac_rfl) yh (λ v nd _ _ _ _ _ _ hr=>by nofun) vO
theorem HU:Fk w mg base "_law_at" tZ ["_law_script","_law_k"] 387 dB 386 1 t9:=by
 have B:=Bt e;exact fk (by ac_rfl) IH (λ v nd _ _ _ _ _ _ hr=>by nofun) GI
theorem El:Fk w mg base "_law_left" pV ["_law_script","_law_k"] 394 dB 393 2 pd:=by
 have c1:=HU base e;have B:=Bt e;exact fk (by ac_rfl) Eh (λ v nd _ _ _ _ _ _ hr=>by nofun) BG
theorem gA:Fk w mg base "_law_digit" nO ["_law_left_here","_law_many"] 401 dB 400 1 bg:=by
 have B:=Bt e;exact fk (by ac_rfl) BW (λ v nd _ _ _ _ _ _ hr=>by nofun) AU
theorem Av:Fk w mg base "_law_number" mv ["_law_left_here","_law_kind"] 408 dB 407 2 jL:=by
 have c1:=gA base e;have B:=Bt e;exact fk (by ac_rfl) zm (λ v nd _ _ _ _ _ _ hr=>by nofun) yc
theorem Ex:Fk w mg base "_law_rows" pF ["_law_left_here","_law_many","_law_wide","_law_kind"] 413 dB 412 3 jD:=by
 have c1:=Av base e;have B:=Bt e;exact fk (by ac_rfl) DF (λ v nd _ _ _ _ _ _ hr=>by nofun) BN
theorem BJ:Fk w mg base "_law_drawn" nH ["_law_left_here"] 420 dB 419 4 nV:=by
 have c1:=gA base e;have c2:=Ex base e;have B:=Bt e;exact fk (by ac_rfl) Cb (λ v nd _ _ _ _ _ _ hr=>by nofun) zF
theorem FE:Fk w mg base "_law_dot" rm ["_law_one","_law_other"] 425 dB 424 1 ni:=by
 have B:=Bt e;exact fk (by ac_rfl) F9 (λ v nd _ _ _ _ _ _ hr=>by nofun) D_
theorem xF:Fk w mg base "_law_own" qp ["_law_steps"] 432 dB 431 2 m6:=by
 have c1:=FE base e;have B:=Bt e;exact fk (by ac_rfl) Gz (λ v nd _ _ _ _ _ _ hr=>by nofun) EZ
theorem Bx:Fk w mg base "_law_short" nF ["_law_steps"] 439 dB 438 3 nN:=by
 have c1:=xF base e;have B:=Bt e;exact fk (by ac_rfl) BH (λ v nd _ _ _ _ _ _ hr=>by nofun) Ah
theorem qf:Fk w mg base "_law_product" lq ["_law_one","_law_other"] 444 dB 443 1 eV:=by
 have B:=Bt e;exact fk (by ac_rfl) yv (λ v nd _ _ _ _ _ _ hr=>by nofun) vZ
theorem ph:Fk w mg base "_law_unit" pj ["_law_n"] 449 dB 448 1 gk:=by
 have B:=Bt e;exact fk (by ac_rfl) Ew (λ v nd _ _ _ _ _ _ hr=>by nofun) B5
theorem Ei:Fk w mg base "_law_turn" dG ["_law_left_here","_law_n","_law_deeds","_law_most"] 454 dB 453 2 pG:=by
 have c1:=ph base e;have c2:=gA base e;have B:=Bt e
 exact fk (by ac_rfl) au (λ v nd cdv A outer s H E hr=>(aM (Jz au.sc.nd (au.v.l 4) (Nc:=["_law_row"]) (cc.look (a9 dG) ["_law_left_here","_law_n","_law_deeds","_law_most","_law_turn_here","_law_columns","_law_k","_law_one","_law_other","_law_many","_law_back"] (by decide+kernel)) (iz (bN c1.1 c1.2 (hr.mono (by decide)) (ak (au.v.nm 1) aD) (au.v.d 0) (au.v.g 0))) (λ _ _ _ _=>(gG (show(["_law_row"]:List Str).Nodup by decide+kernel))) (λ _ _ _ _=>dX) (λ _ _ _ _=>(gn l9 (ak jw aD) B.fZ rfl fj (by decide+kernel) rfl)) dW)
  (aM (Nr au.sc.nd (au.v.l 5) (oJ (Nc:=["_law_row"]) (cc.look (a9 dG) ["_law_left_here","_law_n","_law_deeds","_law_most","_law_turn_here","_law_columns","_law_k","_law_one","_law_other","_law_many","_law_back"] (by decide+kernel)) (iz (bN c1.1 c1.2 (hr.mono (by decide)) (ak (au.v.nm 1) aD) (au.v.d 0) (au.v.g 0))) (λ _ _ _ _=>(gG (show(["_law_row"]:List Str).Nodup by decide+kernel))) (λ _ _ _ _=>dX) (λ _ _ _ _=>(gn l9 (ak jw aD) B.fZ rfl fj (by decide+kernel) rfl)) dW))
  (aM (oF (mO (au.v.g 1) B.iC (ak (au.v.nm 2) aD)) (gG au.sc.nd) (aM (cD au.sc.nd (au.v.l 7) (bN c2.1 c2.2 (hr.mono (by decide)) (ak (au.v.nm 0) (ak (au.v.nm 1) aD)) (au.v.d 2) (au.v.g 2)))
  (aM (cD au.sc.nd (au.v.l 8) (bN c2.1 c2.2 (hr.mono (by decide)) (ak (au.v.nm 0) (ak (au.v.nm 1) aD)) (au.v.d 2) (au.v.g 2)))
  (aM (cD au.sc.nd (au.v.l 9) (bx dM (bN c2.1 c2.2 (hr.mono (by decide)) (ak (au.v.nm 0) (ak (bx iB (bx d9 bG (au.v.nm 3)) bG) aD)) (au.v.d 2) (au.v.g 2)) (au.v.nm 3)))
  (bO (km (iW Al (fE _) (au.v.nm 7) (au.v.nm 8)) (aM (nh (iU (Nc:=["_law_a","_law_b","_law_many"]) (cc.look (a9 dG) ["_law_left_here","_law_n","_law_deeds","_law_most","_law_turn_here","_law_columns","_law_k","_law_one","_law_other","_law_many","_law_back"] (by decide+kernel)) (yQ (au.v.g 3) B.uP (ak (cS (au.v.nm 4) (au.v.nm 7)) (ak (cS (au.v.nm 4) (au.v.nm 8)) aD))) (λ _ _ _ _=>(vh rfl (show(["_law_a","_law_b","_law_many"]:List Str).Nodup by decide+kernel))) (λ _ _ _ _=>dX) (λ _ _ _ _=>(bx iB jw (bx d9 jw jw))) wJ) (au.v.nm 4) (au.v.nm 7))
  (bO (nh (iU (Nc:=["_law_a","_law_b","_law_many"]) (cc.look (a9 dG) ["_law_left_here","_law_n","_law_deeds","_law_most","_law_turn_here","_law_columns","_law_k","_law_one","_law_other","_law_many","_law_back"] (by decide+kernel)) (yQ (au.v.g 3) B.uP (ak (cS (au.v.nm 5) (au.v.nm 8)) (ak (cS (au.v.nm 5) (au.v.nm 7)) aD))) (λ _ _ _ _=>(vh rfl (show(["_law_a","_law_b","_law_many"]:List Str).Nodup by decide+kernel))) (λ _ _ _ _=>dX) (λ _ _ _ _=>(bx dM jw (bx d9 jw jw))) wJ) (au.v.nm 5) (au.v.nm 8)))) (aM (nh (iU (Nc:=["_law_a"]) (cc.look (a9 dG) ["_law_left_here","_law_n","_law_deeds","_law_most","_law_turn_here","_law_columns","_law_k","_law_one","_law_other","_law_many","_law_back"] (by decide+kernel)) (iz (cS (au.v.nm 4) (au.v.nm 7))) (λ _ _ _ _=>(gG (show(["_law_a"]:List Str).Nodup by decide+kernel))) (λ _ _ _ _=>dX) (λ _ _ _ _=>(kv jw)) dW) (au.v.nm 4) (au.v.nm 7))
  (aM (nh (iU (Nc:=["_law_a"]) (cc.look (a9 dG) ["_law_left_here","_law_n","_law_deeds","_law_most","_law_turn_here","_law_columns","_law_k","_law_one","_law_other","_law_many","_law_back"] (by decide+kernel)) (iz (cS (au.v.nm 5) (au.v.nm 7))) (λ _ _ _ _=>(gG (show(["_law_a"]:List Str).Nodup by decide+kernel))) (λ _ _ _ _=>dX) (λ _ _ _ _=>(kv jw)) dW) (au.v.nm 5) (au.v.nm 7))
  (aM (iw (yV (au.v.nm 4)))
  (bO (iw (yV (au.v.nm 5)))))))))))))
  (aM (cD au.sc.nd (au.v.l 10) (gn jt (ak (iU (Nc:=["_law_k","_law_columns"]) (cc.look (a9 dG) ["_law_left_here","_law_n","_law_deeds","_law_most","_law_turn_here","_law_columns","_law_k","_law_one","_law_other","_law_many","_law_back"] (by decide+kernel)) (mO (au.v.g 1) B.iC (ak (au.v.nm 1) aD)) (λ _ _ _ _=>(gG (show(["_law_k","_law_columns"]:List Str).Nodup by decide+kernel))) (λ _ _ _ _=>dX) (λ _ _ _ _=>(gn jt (ak (iU (Nc:=["_law_row","_law_k"]) (cc.Lm (by decide+kernel)) (iz jw) (λ _ _ _ _=>(gG (show(["_law_row","_law_k"]:List Str).Nodup by decide+kernel))) (λ _ _ _ _=>dX) (λ _ _ _ _=>(cS jw jw)) dW) aD) B.fL rfl eW (by decide+kernel) rfl)) dW) aD) B.fL rfl eW (au.v.d 4) (au.v.g 4)))
  (bO (eY (rL (ak (gn jt (ak (iU (Nc:=["_law_row"]) (cc.look (a9 dG) ["_law_left_here","_law_n","_law_deeds","_law_most","_law_turn_here","_law_columns","_law_k","_law_one","_law_other","_law_many","_law_back"] (by decide+kernel)) (iz (au.v.nm 4)) (λ _ _ _ _=>(gG (show(["_law_row"]:List Str).Nodup by decide+kernel))) (λ _ _ _ _=>dX) (λ _ _ _ _=>(gn jt (ak jw aD) B.fL rfl eW (by decide+kernel) rfl)) dW) aD) B.fL rfl eW (au.v.d 4) (au.v.g 4)) (ak (au.v.nm 10) aD)))))))))) BS
theorem vN:Fk w mg base "_law_are_rows" ka ["_law_rows_here","_law_many","_law_wide"] 459 dB 458 1 f7:=by
 have B:=Bt e;exact fk (by ac_rfl) wU (λ v nd _ _ _ _ _ _ hr=>by nofun) vd
theorem BF:Fk w mg base "_law_takes" ku ["_law_steps","_law_told"] 464 dB 463 4 kl:=by
 have c1:=vN base e;have c2:=qf base e;have c3:=ph base e;have c4:=Bx base e;have B:=Bt e
 exact fk (by ac_rfl) ax (λ v nd cdv A outer s H E hr=>(aM (km (yI (vk (rl (lS (eF yF (ak (ax.v.nm 1) (ak (rL (ak (kR B.fL rfl eW (ax.v.d 1) (ax.v.g 1)) (ak (kR B.fZ rfl fj (ax.v.d 0) (ax.v.g 0)) aD))) aD)) B.jS rfl i5 (ax.v.d 2) (ax.v.g 2)))) (uN (iW Al (fE _) (eF jJ (ak (ax.v.nm 1) aD) B.jQ rfl gW (ax.v.d 3) (ax.v.g 3)) bG)))) (bO (eY AV)) kI)
  (aM (IV (ax.v.nm 1) rfl ax.sc.nd)
  (aM (cD ax.sc.nd (ax.v.l 5) (eF jJ (ak (ax.v.nm 0) aD) B.jQ rfl gW (ax.v.d 3) (ax.v.g 3)))
  (aM (km (yI (vk (rl (lS (bN c1.1 c1.2 (hr.mono (by decide)) (ak (ax.v.nm 2) (ak (ax.v.nm 5) (ak (eF jJ (ak (cS (ax.v.nm 0) bG) aD) B.jQ rfl gW (ax.v.d 3) (ax.v.g 3)) aD))) (ax.v.d 4) (ax.v.g 4)))) (vk (rl (lS (bN c1.1 c1.2 (hr.mono (by decide)) (ak (ax.v.nm 3) (ak (ax.v.nm 5) (ak (ax.v.nm 5) aD))) (ax.v.d 4) (ax.v.g 4)))) (uN (rl (lS (bN c1.1 c1.2 (hr.mono (by decide)) (ak (ax.v.nm 4) (ak (ax.v.nm 5) (ak (ax.v.nm 5) aD))) (ax.v.d 4) (ax.v.g 4)))))))) (bO (eY AV)) kI)
  (aM (km (yI (vk (iW (KL hr) (fE _) (bN c2.1 c2.2 (hr.mono (by decide)) (ak (ax.v.nm 3) (ak (ax.v.nm 4) aD)) (ax.v.d 5) (ax.v.g 5)) (bN c3.1 c3.2 (hr.mono (by decide)) (ak (ax.v.nm 5) aD) (ax.v.d 6) (ax.v.g 6))) (uN (iW (KL hr) (fE _) (bN c2.1 c2.2 (hr.mono (by decide)) (ak (ax.v.nm 3) (ak (ax.v.nm 0) aD)) (ax.v.d 5) (ax.v.g 5)) (gn jt (ak (iU (Nc:=["_law_row"]) (cc.look (a9 ku) ["_law_steps","_law_told","_law_made","_law_turn_here","_law_back","_law_n"] (by decide+kernel)) (iz (ax.v.nm 2)) (λ _ _ _ _=>(gG (show(["_law_row"]:List Str).Nodup by decide+kernel))) (λ _ _ _ _=>dX) (λ _ _ _ _=>(gn jt (ak jw aD) B.fL rfl eW (by decide+kernel) rfl)) dW) aD) B.fL rfl eW (ax.v.d 1) (ax.v.g 1)))))) (bO (eY AV)) kI)
  (bO (eY (bN c4.1 c4.2 (hr.mono (by decide)) (ak (ax.v.nm 2) aD) (ax.v.d 7) (ax.v.g 7)))))))))) AK
theorem sZ:kr (KX w.params) mg "_law_lists" "_law_lists" fS ["_law_thing"] 469 (Hd.fd fS "_law_lists" "_law_lists" dB 468):=Hd.SD e.X e.G (by kernel_rfl) λ _ _ _ _ _ _ _=>rfl
theorem p7:∀n:Nat,c_ PW w (KX w.params) mg base fX (0+n) 469 (Hd.fd fS "_law_lists" "_law_lists" dB 468) ["_law_thing"] (gu (dj n))
 |0=>IX (yw)
 |n+1=>by
  have GR:=p7 n;have F:=sZ e;have B:=Bt e;exact jK (N:=nZ) F.fn dF.sc (λ cdv A outer s H E hr=>(aM (km (lS (eF yF (ak (dF.v.nm 0) (ak (rL (ak (kR B.fL rfl eW (dF.v.d 1) (dF.v.g 1)) (ak (kR B.fZ rfl fj (dF.v.d 0) (dF.v.g 0)) aD))) aD)) B.jS rfl i5 (dF.v.d 2) (dF.v.g 2))) (bO (eY (oJ (Nc:=["_law_inner"]) (cc.look (a9 fS) ["_law_thing"] (by decide+kernel)) (iz (dF.v.nm 0)) (λ _ _ _ _=>(gG (show(["_law_inner"]:List Str).Nodup by decide+kernel))) (λ _ _ _ _=>dX) (λ _ _ _ _=>(bN F GR hr (ak jw aD) (by decide+kernel) rfl)) dW))) kI)
  (bO (eY (dF.v.nm 0))))) (zJ n)
theorem BX:Fk w mg base "_law_lists" fS ["_law_thing"] 469 dB 468 5 (dj 5):=⟨sZ e,p7 base e 5⟩
theorem BD:Fk w mg base "_law_paper" nS ["_law_left_here","_law_steps"] 476 dB 475 8 n_:=by
 have c1:=gA base e;have c2:=ph base e;have c3:=MD base e;have c4:=Ei base e;have c5:=qf base e;have B:=Bt e
 exact fk (by ac_rfl) aB (λ v nd cdv A outer s H E hr=>(aM (cD aB.sc.nd (aB.v.l 2) (eF jJ (ak (aB.v.nm 1) aD) B.jQ rfl gW (aB.v.d 0) (aB.v.g 0)))
  (aM (cD aB.sc.nd (aB.v.l 3) (bN c1.1 c1.2 (hr.mono (by decide)) (ak (aB.v.nm 0) (ak bG aD)) (aB.v.d 1) (aB.v.g 1)))
  (aM (km (iW (Ap hr) (fE _) (aB.v.nm 3) bG) (bO (eY (m5 (ak (aB.v.nm 1) (ak (bN c2.1 c2.2 (hr.mono (by decide)) (ak (aB.v.nm 2) aD) (aB.v.d 2) (aB.v.g 2)) (ak (bN c2.1 c2.2 (hr.mono (by decide)) (ak (aB.v.nm 2) aD) (aB.v.d 2) (aB.v.g 2)) aD)))))) kI)
  (aM (Am (bN c3.1 c3.2 (hr.mono (by decide)) (ak (aB.v.nm 1) aD) (aB.v.d 3) (aB.v.g 3)) (Kv rfl aB.sc.nd))
  (aM (km (iW wF (fE _) (aB.v.nm 3) bG) (aM (Am (bN c4.1 c4.2 (hr.mono (by decide)) (ak (aB.v.nm 0) (ak (aB.v.nm 2) (ak (bx iB bG (bN c1.1 c1.2 (hr.mono (by decide)) (ak (aB.v.nm 0) (ak bG aD)) (aB.v.d 1) (aB.v.g 1))) (ak bG aD)))) (aB.v.d 4) (aB.v.g 4)) (vh rfl aB.sc.nd))
  (bO (eY (m5 (ak (bN c5.1 c5.2 (hr.mono (by decide)) (ak (aB.v.nm 7) (ak (aB.v.nm 4) aD)) (aB.v.d 5) (aB.v.g 5)) (ak (bN c5.1 c5.2 (hr.mono (by decide)) (ak (aB.v.nm 7) (ak (aB.v.nm 5) aD)) (aB.v.d 5) (aB.v.g 5)) (ak (bN c5.1 c5.2 (hr.mono (by decide)) (ak (aB.v.nm 6) (ak (aB.v.nm 8) aD)) (aB.v.d 5) (aB.v.g 5)) aD))))))) kI)
  (bO (eY (m5 (ak (aB.v.nm 4) (ak (aB.v.nm 5) (ak (aB.v.nm 6) aD)))))))))))) AB
theorem Bq:Fk w mg base "_law_spoil" nE ["_law_left_here","_law_paper_here"] 483 dB 482 2 nC:=by
 have c1:=gA base e;have B:=Bt e;exact fk (by ac_rfl) Bv (λ v nd _ _ _ _ _ _ hr=>by nofun) y8
theorem Ej:Fk w mg base "_law_says" pQ ["_law_steps","_law_told","_law_due"] 490 dB 489 9 cU:=by
 have c1:=yr base e;have B:=Bt e;exact fk (by ac_rfl) EO (λ v nd _ _ _ _ _ _ hr=>by nofun) Bo
theorem QF:Fk w mg base "law" uH ["_law_script"] 495 dB 494 10 J_:=by
 have c1:=El base e;have c2:=BJ base e;have c3:=xF base e;have c4:=BD base e;have c5:=BX base e;have c6:=gA base e;have c7:=Bq base e;have c8:=BF base e;have c9:=Ej base e;have B:=Bt e;exact fk (by ac_rfl) QQ (λ v nd _ _ _ _ _ _ hr=>by nofun) OM
end
def dL:DefRec:=match uH with
 | .FunctionDef n a b _ _ _ sc _ _ pos=>⟨n,a,b,sc,pos⟩
 |_=>⟨"",L2.j9 (.Pass ⟨0,0,0,0⟩),[],L2.a9 (.Pass ⟨0,0,0,0⟩),⟨0,0,0,0⟩⟩
end Row
open PySem PySem.W PyProof.Rows
set_option maxRecDepth 100000 in
set_option maxHeartbeats 0 in
theorem PySem.Challenge.cw_latticeworks_k37_papers_of_short_steps_holds : PySem.Challenge.rw_latticeworks_k37_papers_of_short_steps.Holds := by
 refine PySem.W.holds_law Row.H_ λ H_=>?_;refine PySem.W.holds_open (r:=PySem.Challenge.rw_latticeworks_k37_papers_of_short_steps.row) (q:=PySem.W.view Row.PW [0,2,3,5,6,7,8,10,11,12,13,14,16,17,18,19,20,21,22,23,24,25,26,27,28,30,31,32,33,34,35,37,38,39,41,42,43,44,45,46,48,49,50,51,52,53,54,55,56,57,58,59,60,61,62,63,64,65,66]) (loose:=[]) (Xt:=λ _=>true) (XP:=λ _ _=>True) (YP:=(PySem.W.kmHook Row.KX Row.KA (λ _=>rfl) []).says) (d:=Row.dL) (kwd:=[]) Row.left ((PySem.W.kmHook Row.KX Row.KA (λ _=>rfl) []).of) ((PySem.W.kmHook Row.KX Row.KA (λ _=>rfl) []).keeps) (λ _ _=>trivial) (λ _ _ _ _ _=>trivial) (by kernel_rfl) (by kernel_rfl) (by kernel_rfl) (λ s _=>PySem.W.recFacts_of (R:=[]) rfl) (by kernel_rfl) H_ (by decide+kernel) ⟨rfl,rfl,rfl,rfl,rfl,by decide+kernel⟩ ?hw ?hc;case hw=>w_witness2
 refine L2.Qz (n:=63) (k:=10) (x:="_law_script") (ts:=[]) (K:=Row.KX) (sp:=λ w=>L3.Gp (Row.KX w.params) []) rfl (by decide) (by kernel_rfl) ⟨rfl,by decide,by decide⟩ (by kernel_rfl) rfl (λ w h Y=>⟨PySem.W.km_in_of Y,⟨(λ q hq=>by cases hq),(λ q hq=>by cases hq),λ q hq=>by cases hq⟩⟩) ?F λ _ _ a ns hl hE=>⟨a,ns,rfl,hE,hl,λ _=>rfl⟩
 intro w mg fa h X G hmg;have e2:=hmg.symm.trans (Y6 (v:= .ref 495) X G (by kernel_rfl));cases e2;exact⟨Hd.fd Row.uH "law" "law" Row.dB 494,λ s v=> .of_eq rfl,λ base _ _=>(Row.QF base ⟨X,G⟩).2.imp λ vs H Q E h=>L3.Fo (tl:=[]) (by kernel_rfl) rfl (by decide) h⟩
