import PyProof.Rows.All
import Wide.All
import OpenK.AllK
import Wide.FinOn
import Lean
import PyProof.EqAt
import PyProof.EqKinds
import PyProof.TupleCall
import PyProof.NeKinds
import KE.KUnpack
import PySem.Challenge.RW_latticeworks_k58_whole_equations_put_oth
set_option Elab.async false
set_option linter.all false
set_option maxRecDepth 100000
def Uh:=@List.length_map
def Ui:=@List.getElem?_eq_some_iff
def Uj:=@PySem.wpAny_bind
def Uk:=@Nat.le_refl
def Ul:=@List.getElem?_set_ne
def Um:=@Nat.le_trans
def Uo:=@PySem.Heap.get?_push_of_some
def Up:=@if_neg
def Uq:=@List.getElem?_set_self
def Ur:=@if_pos
def Us:=@List.getElem?_append_left
def Ut:=@List.size_toArray
def Uu:=@List.getD_eq_getElem?_getD
def Uv:=@List.getElem?_eq_getElem
def Uw:=@PySem.wpAny_pure
def Ux:=@Nat.le_of_ble_eq_true
def Uy:=@Ne.symm
def UA:=@PySem.Heap.lt_size
def UB:=@List.getElem?_map
def UC:=@List.length_set
def UD:=@List.mem_iff_getElem
def UE:=@Nat.pow_le_pow_right
def UG:=@List.mem_cons_of_mem
def UH:=@Nat.lt_of_lt_of_le
def UI:=@List.mem_map
def UJ:=@Int.toNat_natCast
def UK:=@List.mem_cons
def UL:=@List.getElem_mem
def UM:=@List.mem_append_right
def UN:=@PySem.Heap.get?_push_size
def UO:=@List.mem_of_getElem?
def UP:=@List.mem_cons_self
def UQ:=@decide_eq_false
def UR:=@Nat.ne_of_lt
def US:=@Nat.zero_le
def UT:=@List.length_cons
def UU:=@List.not_mem_nil
def UW:=@List.all_eq_true
def UX:=@Nat.not_lt_zero
def UY:=@List.map_cons
def UZ:=@Nat.lt_succ_self
def U0:=@Bool.and_eq_true
def U9:=@decide_eq_true
def U_:=@Nat.mul_le_mul
def Va:=@Nat.lt_succ_of_lt
def Vb:=@List.map_map
def Vc:=@List.getElem?_append_right
def Vd:=@Int.mul_zero
def Ve:=@List.lookup_cons
def Vf:=@List.mem_append
def Vg:=@PySem.mem_of_lookup
def Vh:=@Int.natAbs_mul
def Vi:=@List.mem_or_eq_of_mem_set
def Vj:=@List.drop_eq_getElem_cons
def Vk:=@Option.some.inj
def Vl:=@PySem.W.mg_none_of
def Vm:=@Int.eq_ofNat_of_zero_le
def Vn:=@List.replicate_succ
def Vo:=@List.length_take
def Vp:=@List.mem_append_left
def Vq:=@Int.fmod_nonneg_of_pos
def Vr:=@Bool.false_ne_true
def Vs:=@Nat.mul_le_mul_right
def Vt:=@not_false_eq_true
def Vu:=@PyProof.Rows.slot_tuple_getitem
def Vv:=@List.length_append
def Vw:=@List.mem_singleton
def Vx:=@Int.fmod_lt_of_pos
def Vy:=@PySem.wpAny_field
def VA:=@List.drop_eq_nil_of_le
def VB:=@Nat.lt_irrefl
def VC:=@PySem.Heap.size_push
def VD:=@Nat.pow_succ
def VE:=@PySem.W.kia_one
def VF:=@PyProof.Rows.callWith_type1
def VG:=@PySem.wpAny_callSpecial?_slot
def VH:=@List.length_drop
def VI:=@Int.mul_assoc
def VJ:=@Int.fdiv_eq_ediv_of_nonneg
def VL:=@Nat.lt_trans
def VM:=@List.mem_range
def VN:=@Nat.le_of_lt
def VO:=@Int.zero_mul
def VP:=@Int.add_zero
def VQ:=@Int.sub_eq_add_neg
def VR:=@List.getElem_map
def VT:=@List.length_eq_zero_iff
def VU:=@congrArg
def VV:=@List.flatten_cons
def VW:=@List.append_nil
def VX:=@List.map_append
def VY:=@PySem.Heap.SameBut.update
def VZ:=@List.range_succ_eq_map
def V0:=@Int.one_mul
def V1:=@PySem.wpAny_mono
def V2:=@List.all_cons
def V3:=@Int.natAbs_neg
def V4:=@Classical.byContradiction
def V5:=@PySem.sizeLine_eq
def V6:=@Nat.pow_add
def V7:=@List.nodup_cons
def V8:=@Nat.lt_or_ge
def V9:=@Int.mul_ne_zero
def V_:=@PySem.wpAny_truthy_bool
def Wa:=@PySem.wpAny_newObj_type
def Wb:=@beq_eq_false_iff_ne
def Wc:=@List.map_congr_left
def Wd:=@Int.eq_zero_of_dvd_of_natAbs_lt_natAbs
def We:=@PySem.wpAny_call_entry
def Wi:=@PySem.wpAny_seqItems
def Wj:=@beq_iff_eq
def Wk:=@PySem.W.cellsFrom_some
def Wl:=@Nat.mul_comm
def Wm:=@PySem.wpAny_setField_rec
def Wn:=@Int.zero_add
def Wo:=@Int.mul_comm
def Wq:=@PySem.wpAny_passesOwn
def Wr:=@PySem.F.slot_tuple_iterator_next
def Ws:=@List.cons.inj
def Wt:=@List.append_assoc
def Wu:=@Nat.lt_trichotomy
def Wv:=@List.mem_of_mem_take
def Ww:=@Nat.mul_one
def Wx:=@Nat.one_mul
def Wy:=@Nat.ne_of_gt
def Wz:=@Option.isSome_iff_exists
def WA:=@List.getElem?_take_of_lt
def WB:=@Nat.le_of_not_lt
def WC:=@Array.length_toList
def WD:=@List.getElem?_range
def WE:=@Nat.mul_le_mul_left
def WG:=@PySem.wpAny_holding
def WH:=@PySem.wpAny_Call_Name_kw
def WI:=@Bool.false_eq_true
def WJ:=@Option.map_some
def WK:=@PySem.wpAny_pyIter_tuple
def WL:=@Int.natCast_nonneg
def WM:=@List.length_nil
def WN:=@Option.map_eq_some_iff
def WO:=@or_false
def WQ:=@and_true
def WR:=@Nat.sub_self
def WS:=@if_false
def WT:=@PySem.call_meets
def WU:=@PySem.F.slot_tuple_mul
def WV:=@Nat.mul_assoc
def WW:=@if_true
def WX:=@Int.neg_mul
def WY:=@List.filterMap_cons
def WZ:=@List.length_zipWith
def W0:=@List.cons.injEq
def W2:=@PyProof.Rows.get?_update_seq
def W3:=@List.range_succ
def W4:=@List.mem_filterMap
def W5:=@PySem.F.args_tuple_add_2
def W6:=@Nat.succ_mul
def W7:=@not_or
def W8:=@Nat.zero_add
def W9:=@Nat.one_le_two_pow
def W_:=@Int.ne_of_gt
def Xa:=@Nat.lt_or_gt_of_ne
def Xb:=@List.getElem?_replicate
def Xd:=@PySem.F.entry_tuple_add
def Xe:=@List.getElem?_cons_succ
def Xf:=@Nat.le_mul_of_pos_right
def Xg:=@PySem.W.kitx_list
def Xh:=@PySem.W.kitx_dict
def Xi:=@PySem.wpAny_pyIter_list
def Xj:=@Int.natAbs_add_le
def Xk:=@PySem.F.slot_tuple_add
def Xl:=@List.take_of_length_le
def Xm:=@Nat.add_mul
def Xn:=@PySem.wpAny_standAt
def Xo:=@Bool.true_and
def Xp:=@beq_self_eq_true
def Xq:=@List.length_singleton
def Xr:=@List.getElem?_eq_none
def Xs:=@List.lookup_cons_self
def Xu:=@Int.mul_fdiv_add_fmod
def Xv:=@PySem.wpAny_execs_nil
def Xw:=@PySem.wpAny_rule
def Xx:=@Bool.eq_iff_iff
def Xy:=@List.of_mem_zip
def Xz:=@PySem.F.slot_int_rmul
def XA:=@PySem.wpAny_ite_false
def XB:=@Bool.or_eq_true
def XC:=@PySem.wpAny_updateSeq_pair
def XD:=@PySem.F.slot_zip_next
def XE:=@Nat.le_antisymm
def XF:=@Int.le_of_lt
def XG:=@Nat.min_eq_left
def XH:=@Rat.intCast_inj
def XI:=@List.map_set
def XJ:=@List.getElem_zipWith
def XM:=@PySem.W.plainGet_of
def XN:=@List.mem_map_of_mem
def XO:=@Bool.false_and
def XQ:=@PySem.F.args_tuple_iterator_next_1
def XR:=@Nat.le_succ
def XS:=@Int.mul_add
def XT:=@PyProof.Rows.assignInOrder_cons
def XW:=@PySem.W.callWith_K
def XX:=@PySem.F.args_tuple_mul_2
def XY:=@PySem.F.entry_tuple_iterator_next
def XZ:=@List.pairwise_cons
def X_:=@PySem.Calls.Name_function_global
def Yb:=@Bool.and_true
def Yc:=@PySem.wpAny_onRaise
def Yd:=@PySem.wpAny_attempt
def Ye:=@PyProof.Rows.listUpdate_at
def Yg:=@Int.fmod_eq_emod_of_nonneg
def Yh:=@List.map_take
def Yi:=@Nat.le_of_succ_le
def Yj:=@PySem.F.entry_tuple_mul
def Yk:=@List.pairwise_map
def Yl:=@Nat.le_of_lt_succ
def Ym:=@Nat.mul_left_comm
def Yn:=@Int.natAbs_sub_le
def Yo:=@PySem.typeIs_int
def Yp:=@PySem.wpAny_binaryOp_repeat_ref
def Yq:=@bne_iff_ne
def Yr:=@List.getElem?_eq_none_iff
def Ys:=@Int.natAbs_ediv_le_natAbs
def Yt:=@Nat.le_of_eq
def Yu:=@PySem.codeAny_mono
def Yv:=@PySem.noFill_tuple_add
def Yw:=@PySem.wpAny_comprehension_free
def Yx:=@PyProof.noPylong_of_log2
def Yy:=@decide_eq_decide
def Yz:=@Nat.zero_mul
def YA:=@Int.sub_self
def YB:=@Nat.succ_lt_succ
def YC:=@Int.mul_fdiv_cancel_left
def YD:=@PySem.F.plainAttrs_list
def YE:=@List.forIn_cons
def YF:=@beq_false_of_ne
def YG:=@Rat.intCast_add
def YH:=@Rat.intCast_mul
def YI:=@PySem.wpAny_pyNext_range_end
def YJ:=@PySem.wpAny_pyIter_rangeiter
def YK:=@PySem.Heap.get?_update_other
def YL:=@Prod.mk.inj
def YM:=@PySem.wpAny_letGo
def YN:=@Nat.pow_pos
def YO:=@Int.ediv_eq_zero_of_lt
def YQ:=@List.zipWith_cons_cons
def YR:=@Nat.lt_of_succ_lt_succ
def YS:=@List.drop_of_length_le
def YT:=@List.forIn_nil
def YU:=@Bool.and_false
def YV:=@Nat.add_le_add
def YW:=@Int.eq_of_sub_eq_zero
def YX:=@Rat.divInt_mul_divInt
def YY:=@List.set_append_right
def YZ:=@List.filterMap_append
def Y0:=@PySem.seq_tuple_add
def Y1:=@PySem.wpAny_newList
def Y2:=@Prod.mk.injEq
def Y3:=@PySem.concat_meets
def Y4:=@PySem.wpAny_typeOf
def Y5:=@List.all_map
def Y6:=@Nat.min_self
def Y7:=@Int.sub_zero
def Y8:=@Nat.gcd_comm
namespace L2
open PySem PySem.Spec PyProof.Rows
abbrev Key:=Sum Int Str
def Li:Key->Value->Bool
 | .inl k,v=>Value.isInt k v
 | .inr x,v=>Value.isStrOf x v
def Sy(w:World):Key->Int
 | .inl k=>hashInt k
 | .inr x=>hashStr w x
def fH:∀ {k:Key} {v:Value},Li k v=true->(∃i t,k=Sum.inl i/\v=Value.int i t)\/(∃x t,k=Sum.inr x/\v=Value.str x t)
 | .inl i,v,h=>by
   obtain⟨t,e⟩:=Value.isInt_shape (k:=i) (v:=v) h;exact .inl ⟨i,t,rfl,e⟩
 | .inr x,v,h=>by
   obtain⟨t,e⟩:=Value.isStrOf_shape (x:=x) (v:=v) h;exact .inr ⟨x,t,rfl,e⟩
def O9(a b:Int):decide ((Sum.inl a:Key)=Sum.inl b)=(a==b):=by
 by_cases e:a=b
 . subst e;simp
 . have h:¬(Sum.inl a:Key)=Sum.inl b:=λ q=>e (Sum.inl.inj q);rw[UQ h];exact(Wb.mpr e).symm
def OV(a b:Str):decide ((Sum.inr a:Key)=Sum.inr b)=decide (a=b):=by
 by_cases e:a=b
 . subst e;simp
 . have h:¬(Sum.inr a:Key)=Sum.inr b:=λ q=>e (Sum.inr.inj q);rw[UQ h,UQ e]
def OO(a:Int)(b:Str):decide ((Sum.inl a:Key)=Sum.inr b)=false:=UQ (λ q=>nomatch q)
def NI(a:Str)(b:Int):decide ((Sum.inr a:Key)=Sum.inl b)=false:=UQ (λ q=>nomatch q)
def Ei(prog:Program)(w:World):PySem.KeyKind prog w Key where
 is:=Li
 hash:=Sy w
 inj:=λ v a b ha hb=>by
  rcases fH ha with⟨i,t,rfl,rfl⟩|⟨x,t,rfl,rfl⟩
  . rcases fH hb with⟨j,u,rfl,e⟩|⟨y,u,rfl,e⟩
    . injection e with e1 _;rw[e1]
    . exact nomatch e
  . rcases fH hb with⟨j,u,rfl,e⟩|⟨y,u,rfl,e⟩
    . exact nomatch e
    . injection e with e1 _;rw[e1]
 byValue:=λ k v h=>by
  rcases fH h with⟨i,t,rfl,rfl⟩|⟨x,t,rfl,rfl⟩<;>rfl
 pyHash:=λ hv h=>by
  rcases fH hv with⟨i,t,rfl,rfl⟩|⟨x,t,rfl,rfl⟩
  . exact wpAny_pyHash_int h
  . exact wpAny_pyHash_str h
 eqBool:=λ hu hv h=>by
  rcases fH hu with⟨i,t,rfl,rfl⟩|⟨x,t,rfl,rfl⟩
  . rcases fH hv with⟨j,u,rfl,rfl⟩|⟨y,u,rfl,rfl⟩
    . rw[O9]at h;exact wpAny_eqBool_int h
    . rw[OO]at h;exact SeqAt.EqAt.int_str i t y u _ _ _ _ h
  . rcases fH hv with⟨j,u,rfl,rfl⟩|⟨y,u,rfl,rfl⟩
    . rw[NI]at h;exact SeqAt.EqAt.str_int x t j u _ _ _ _ h
    . rw[OV]at h;exact wpAny_eqBool_str h
 «strs» :=λ k x t v h=>by
  rcases fH h with⟨i,u,rfl,e⟩|⟨y,u,rfl,e⟩
  . exact nomatch e
  . injection e with e1 _;subst e1;cases v<;>rfl
inductive V where
 |aD|bl (b:Bool)|int (i:Int)|str (x:Str)|wA (b:Array UInt8)|wy (b:UInt64)|ref (a:Addr)|ty (n:String)
 deriving DecidableEq
def RelV:V->Value->Prop
 | .aD,u=>u=Value.none
 | .bl b,u=>u=Value.bool b
 | .int i,u=>∃t,u=Value.int i t
 | .str x,u=>∃t,u=Value.str x t
 | .wA b,u=>∃t,u=Value.bytes b t
 | .wy b,u=>∃t,u=Value.float b t
 | .ref a,u=>u=Value.ref a
 | .ty n,u=>u=Value.type n
abbrev Vals:List V->List Value->Prop:=Paired RelV
def Vals.length{xs:List V}{us:List Value}(r:Vals xs us):xs.length=us.length:=Paired.length r
def Vals.get:∀ {xs:List V} {us:List Value} {i:Nat} {x:V},Vals xs us->xs[i]?=some x->∃u,us[i]?=some u/\RelV x u
 |_,_,_,_,.nil,e=>by simp at e
 |_,_,0,_,.cons r _,e=>by simp at e;subst e;exact⟨_,rfl,r⟩
 |_,_,i+1,x,.cons _ t,e=>by
  obtain⟨u,h1,h2⟩:=Vals.get (i:=i) (x:=x) t (by simpa using e);exact⟨u,by simpa using h1,h2⟩
def Vals.set{x:V}{u:Value}(r:RelV x u):∀ {xs:List V} {us:List Value} (i:Nat),Vals xs us->Vals (xs.set i x) (us.set i u)
 |_,_,_,.nil=> .nil
 |_,_,0,.cons _ t=> .cons r t
 |_,_,i+1,.cons q t=> .cons q (Vals.set r i t)
def Vals.append:∀ {xs ys:List V} {us ws:List Value},Vals xs us->Vals ys ws->Vals (xs++ys) (us++ws)
 |_,_,_,_,.nil,s=>s
 |_,_,_,_,.cons r t,s=> .cons r (Vals.append t s)
def Vals.take:∀ {xs:List V} {us:List Value} (n:Nat),Vals xs us->Vals (xs.take n) (us.take n)
 |_,_,0,_=> .nil
 |_,_,_+1,.nil=> .nil
 |_,_,n+1,.cons r t=> .cons r (Vals.take n t)
def Vals.drop:∀ {xs:List V} {us:List Value} (n:Nat),Vals xs us->Vals (xs.drop n) (us.drop n)
 |_,_,0,r=>r
 |_,_,_+1,.nil=> .nil
 |_,_,n+1,.cons _ t=>Vals.drop n t
def rN:Option V->Option Value->Prop
 |some v,some u=>RelV v u
 |none,none=>True
 |_,_=>False
def KV{κ:Type}:List (κ×V)->List (κ×Value)->Prop:=Paired λ(p:κ×V) (q:κ×Value)=>p.1=q.1/\RelV p.2 q.2
def kV:Key->V
 | .inl i=> .int i
 | .inr x=> .str x
inductive HO where
 |lst (xs:List V)
 |tup (xs:List V)
 |dK (kvs:List (Key×V))|dT (kvs:List (List Key×V))
 |set (S:Int->Bool) (n:Nat)
 |ins (C dx:Addr) (fs:List (Str×V))
 |own (x:Addr)
 |xd (fs:List (Str×V))
 |met (f x:Addr)
 |PL (lo hi:Int)
 |fe (o:Obj) (u:HO)
 |lX (ps:Array Value)
 |ext (φ:Heap->Prop)
abbrev Hp:=Addr->Option HO
def upd(H:Hp)(a:Addr)(o:HO):Hp:=λ b=>if b=a then some o else H b
def a8{H:Hp}{a:Addr}{o:HO}:upd H a o a=some o:=by unfold upd;rw[Ur rfl]
def aE{H:Hp}{a b:Addr}{o:HO}(h:b≠a):upd H a o b=H b:=by unfold upd;rw[Up h]
def Nz{H:Hp}{a:Addr}{o u:HO}:upd (upd H a o) a u=upd H a u:=by
 funext b;unfold upd;split<;>rfl
def eh{H:Hp}{a b:Addr}{o:HO}(h:H a=some o)(h':H b=none):a≠b:=by
 intro e;subst e;rw[h]at h';cases h'
section
variable (P:Program)(w:World)
def et(H:Hp)(h:Heap)(a:Addr):HO->Prop
 | .lst xs=>xs.length<=sizeLine/\∃(av:List Value) (n:Nat),Vals xs av/\h.get? a=some {cls:= .type "list",data:= .seq av.toArray n}
 | .tup xs=>xs.length<=sizeLine/\∃av:List Value,Vals xs av/\IsTup h a av.toArray
 | .dK kvs=>kvs.length<=sizeLine/\(a==sysModules)=false/\∃vs,KV kvs vs/\h.DictOf (Ei P w) a vs
 | .dT kvs=>kvs.length<=sizeLine/\(a==sysModules)=false/\∃xs:List (List Key×Addr×Value),
    Paired (λ(p:List Key×V) (q:List Key×Addr×Value)=>p.1=q.1/\H q.2.1=some (.tup (p.1.map kV))/\RelV p.2 q.2.2) kvs xs/\
    ∃o es ep,h.get? a=some o/\o.ExactDict/\o.data= .dict es ep/\es.toList=xs.map (entryOfKey (tupleKind (Ei P w)))/\(xs.map (·.1)).Nodup
 | .set S n=>h.SetOf (intKind P w) a S n
 | .ins C dx fs=>H dx=some (.own a)/\fs.length<=1000/\dx≠a/\h.get? a=some (PySem.W.instObj C dx)/\
    ∃mA,h.Ns1 dx mA/\(∀f,rN (fs.lookup f) (mA f))/\PySem.Within mA (fs.map (·.1))
 | .own _=>∃o,h.get? a=some o
 | .xd fs=>∃mA,h.Ns1 a mA/\∀f,rN (fs.lookup f) (mA f)
 | .PL lo hi=>∃t u v,h.get? a=some {cls:= .type "range",data:= .fields #[.int lo t,.int hi u,.int 1 v]}
 | .fe o u=>h.get? a=some o/\et H h a u
 | .lX ps=>h.get? a=some {cls:= .none,data:= .fields ps}
 | .met f x=>h.get? a=some (PySem.W.methodObj (.ref f) (.ref x))
 | .ext φ=>φ h/\(∃o,h.get? a=some o)/\∀h1 h2:Heap,φ h1->(∀o,h1.get? a=some o->h2.get? a=some o)->φ h2
def jt(H:Hp)(h:Heap):Prop:=∀a o,H a=some o->et P w H h a o
end
section
variable {P:Program}{w:World}{H H':Hp}{h h':Heap}{a:Addr}{o:HO}
def et.lt(x:et P w H h a o):a<h.objs.size:=by
 cases o with
 |lst xs=>obtain⟨_,_,_,_,e⟩:=x;exact UA e
 |tup xs=>obtain⟨_,_,_,p⟩:=x;exact p.lt
 |dK kvs=>obtain⟨_,_,_,_,o,_,_,e,_⟩:=x;exact UA e
 |dT kvs=>obtain⟨_,_,_,_,o,_,_,e,_⟩:=x;exact UA e
 |set S n=>obtain⟨o,_,_,_,e,_⟩:=x;exact UA e
 |ins C dx fs=>obtain⟨_,_,_,e,_⟩:=x;exact UA e
 |own y=>obtain⟨_,e⟩:=x;exact UA e
 |xd fs=>obtain⟨_,⟨_,_,_,e,_⟩,_⟩:=x;exact UA e
 |PL lo hi=>obtain⟨_,_,_,e⟩:=x;exact UA e
 |fe ob u=>obtain⟨e,_⟩:=x;exact UA e
 |lX ps=>exact UA (show h.get? a=some _ from x)
 |met f y=>exact UA (show h.get? a=some _ from x)
 |ext φ=>obtain⟨_,⟨_,e⟩,_⟩:=x;exact UA e
def Paired.Kp{α β:Type}{F G:α->β->Prop}:∀ {l₁:List α} {l₂:List β},Paired F l₁ l₂->(∀a b,F a b->G a b)->Paired G l₁ l₂
 |_,_,.nil,_=> .nil
 |_,_,.cons r t,f=> .cons (f _ _ r) (Paired.Kp t f)
def et.ng(x:et P w H h a o)(k:∀b u,(b=a\/H b=some (.own a))->h.get? b=some u->h'.get? b=some u)
 (ho:∀b,H b=some (.own a)->H' b=some (.own a)) (ht:∀b xs,H b=some (.tup xs)->H' b=some (.tup xs)):et P w H' h' a o:=by
 induction o with
 |lst xs=>obtain⟨z,av,n,r,e⟩:=x;exact⟨z,av,n,r,k _ _ (.inl rfl) e⟩
 |tup xs=>obtain⟨z,av,r,ob,e,c⟩:=x;exact⟨z,av,r,ob,k _ _ (.inl rfl) e,c⟩
 |dK kvs=>obtain⟨z,y,vs,r,ob,es,ep,e,c⟩:=x;exact⟨z,y,vs,r,ob,es,ep,k _ _ (.inl rfl) e,c⟩
 |dT kvs=>
  obtain⟨z,y,xs,r,ob,es,ep,e,c⟩:=x;exact⟨z,y,xs,Paired.Kp r λ p q z=>⟨z.1,ht _ _ z.2.1,z.2.2⟩,ob,es,ep,k _ _ (.inl rfl) e,c⟩
 |set S n=>obtain⟨ob,es,ep,t,e,c⟩:=x;exact⟨ob,es,ep,t,k _ _ (.inl rfl) e,c⟩
 |ins C dx fs=>
  obtain⟨d,z,ne,e,mA,⟨od,es,ep,e2,c⟩,r⟩:=x;exact⟨ho _ d,z,ne,k _ _ (.inl rfl) e,mA,⟨od,es,ep,k _ _ (.inr d) e2,c⟩,r⟩
 |own y=>obtain⟨ob,e⟩:=x;exact⟨ob,k _ _ (.inl rfl) e⟩
 |xd fs=>obtain⟨mA,⟨od,es,ep,e,c⟩,r⟩:=x;exact⟨mA,⟨od,es,ep,k _ _ (.inl rfl) e,c⟩,r⟩
 |PL lo hi=>obtain⟨t,u,v,e⟩:=x;exact⟨t,u,v,k _ _ (.inl rfl) e⟩
 |fe ob u ih=>obtain⟨e,q⟩:=x;exact⟨k _ _ (.inl rfl) e,ih q⟩
 |lX ps=>
  have e:h.get? a=some {cls:= .none,data:= .fields ps}:=x;show h'.get? a=some {cls:= .none,data:= .fields ps};exact k a _ (.inl rfl) e
 |met f y=>
  have e:h.get? a=some (PySem.W.methodObj (.ref f) (.ref y)):=x;show h'.get? a=some (PySem.W.methodObj (.ref f) (.ref y));exact k a _ (.inl rfl) e
 |ext φ=>obtain⟨p,⟨o,e⟩,st⟩:=x;exact⟨st _ _ p λ o q=>k _ _ (.inl rfl) q,⟨o,k _ _ (.inl rfl) e⟩,st⟩
def jt.lt(x:jt P w H h)(e:H a=some o):a<h.objs.size:=(x a o e).lt
def jt.fresh(x:jt P w H h)(e:h.objs.size<=a):H a=none:=by
 cases q:H a with
 |none=>rfl
 |some u=>exact absurd (UH (x.lt q) e) (VB _)
def jt.kept(x:jt P w H h)(k:∀b u,h.get? b=some u->h'.get? b=some u):jt P w H h':=λ a o e=>
 (x a o e).ng (λ b u _ q=>k b u q) (λ _ q=>q) λ _ _ q=>q
def jt.laid(x:jt P w H h)(k:∀b u,h.get? b=some u->h'.get? b=some u)(hp:h.objs.size<=a)(new:et P w (upd H a o) h' a o):jt P w (upd H a o) h':=λ b u e=>by
 have hn:=x.fresh hp;by_cases hb:b=a
 . subst hb;rw[a8]at e;cases e;exact new
 . rw[aE hb]at e;exact(x b u e).ng (λ c v _ q=>k c v q) (λ c q=>by rw[aE (eh q hn)];exact q) λ c xs q=>by rw[aE (eh q hn)];exact q
end
def Rd(H:Hp)(a:Addr)(u:HO):Prop:=H a=some u\/∃o,H a=some (.fe o u)
def Rd.of{H:Hp}{a:Addr}{u:HO}(h:H a=some u):Rd H a u:= .inl h
def Rd.ok{P:Program}{w:World}{H:Hp}{h:Heap}{a:Addr}{u:HO}(r:Rd H a u)(x:jt P w H h):et P w H h a u:=by
 rcases r with r|⟨o,r⟩
 . exact x a u r
 . obtain⟨_,q⟩:=x a _ r;exact q
def Lh:Option HO->Prop
 |some (.lst _)=>True
 |some (.dK _)=>True
 |some (.dT _)=>True
 |some (.set _ _)=>True
 |some (.ins _ _ _)=>True
 |some (.ext _)=>True
 |_=>False
section
variable {P:Program}{w:World}{H:Hp}{h h':Heap}{x e:Addr}{o':HO}
def jt.write(ok:jt P w H h)(mu:Lh (H x))(he:e=x\/H e=some (.own x))(k:∀b u,b≠e->h.get? b=some u->h'.get? b=some u)(heo:∃u,h'.get? e=some u)
 (new:et P w (upd H x o') h' x o'):jt P w (upd H x o') h':=λ b u q=>by
 have nown:∀c y,H c=some (.own y)->c≠x:=λ c y r z=>by subst z;rw[r]at mu;exact mu
 have ntup:∀c xs,H c=some (.tup xs)->c≠x:=λ c xs r z=>by subst z;rw[r]at mu;exact mu
 by_cases hb:b=x
 . subst hb;rw[a8]at q;cases q;exact new
 . rw[aE hb]at q;by_cases hbe:b=e
   . have q':H b=some (.own x):=by
      rcases he with z|z
      . exact absurd (hbe.trans z) hb
      . rw[hbe];exact z
     rw[q]at q';cases q';obtain⟨v,hv⟩:=heo;exact⟨v,by rw[hbe];exact hv⟩
   . refine(ok b u q).ng (λ c v hc r=>k c v ?_ r) (λ c r=>by rw[aE (nown c b r)];exact r) λ c xs r=>by rw[aE (ntup c xs r)];exact r
     rcases hc with rfl|hc
     . exact hbe
     . rintro rfl;rcases he with z|z
       . exact nown c b hc z
       . rw[hc]at z;cases z;exact hb rfl
end
structure Un(fs ex:List Addr)(H H':Hp)(h h':Heap):Prop where
 keep:∀b o,h.get? b=some o->H b=none->b∉fs->b∉ex->h'.get? b=some o
 slot:∀b o,h.get? b=some o->H b=none->b∈fs->b∉ex->∃sl,h'.get? b=some {o with slots:=sl}
 free:∀b o,h.get? b=some o->H b=none->b∉ex->H' b=none
 there:∀b o,h.get? b=some o->b∉ex->∃o',h'.get? b=some o'
 rD:∀b xs,H b=some (.tup xs)->H' b=some (.tup xs)
 qk:∀b o u,H b=some (.fe o u)->H' b=some (.fe o u)
 pQ:∀b ps,H b=some (.lX ps)->∃more,H' b=some (.lX (ps++more))
section
variable {fs fs' ex ex':List Addr}{H H1 H2:Hp}{h h1 h2 h':Heap}{a x e:Addr}{o:HO}
def Un.any(u:Un fs ex H H1 h h1){b:Addr}{ob:Obj}(q:h.get? b=some ob)(n:H b=none)(hx:b∉ex):∃sl,h1.get? b=some {ob with slots:=sl}:=by
 by_cases hb:b∈fs
 . exact u.slot b ob q n hb hx
 . exact⟨ob.slots,u.keep b ob q n hb hx⟩
def Un.kept(k:∀b u,h.get? b=some u->h'.get? b=some u):Un fs ex H H h h':=
 ⟨λ b ob q _ _ _=>k b ob q,λ b ob q _ _ _=>⟨ob.slots,k b ob q⟩,λ _ _ _ n _=>n,λ b ob q _=>⟨ob,k b ob q⟩,λ _ _ q=>q,λ _ _ _ q=>q,λ _ ps q=>⟨#[],by rw[q];simp⟩⟩
def Un.refl:Un fs ex H H h h:=Un.kept λ _ _ q=>q
def Un.laid(k:∀b u,h.get? b=some u->h'.get? b=some u)(hp:h.objs.size<=a)(hn:H a=none):Un fs ex H (upd H a o) h h' where
 keep:=λ b u q _ _ _=>k b u q
 slot:=λ b u q _ _ _=>⟨u.slots,k b u q⟩
 free:=λ b u q n _=>by rw[aE (UR (UH (UA q) hp))];exact n
 there:=λ b u q _=>⟨u,k b u q⟩
 rD:=λ b xs q=>by rw[aE (eh q hn)];exact q
 qk:=λ b u xs q=>by rw[aE (eh q hn)];exact q
 pQ:=λ b ps q=>⟨#[],by rw[aE (eh q hn),q];simp⟩
def Un.write(mu:Lh (H x))(he:e=x\/H e=some (.own x))(k:∀b u,b≠e->h.get? b=some u->h'.get? b=some u)(heo:∃u,h'.get? e=some u):Un fs ex H (upd H x o) h h':=by
 have hx:∀b,H b=none->b≠x:=λ b n z=>by subst z;rw[n]at mu;exact mu
 have hb:∀b,H b=none->b≠e:=λ b n z=>by
  subst z;rcases he with r|r
  . exact hx b n r
  . rw[n]at r;cases r
 have hm:∀b u,H b=some u->¬Lh (some u)->b≠x:=λ b u q nm z=>by subst z;rw[q]at mu;exact nm mu
 refine⟨λ b u q n _ _=>k b u (hb b n) q,λ b u q n _ _=>⟨u.slots,k b u (hb b n) q⟩,λ b u q n _=>by rw[aE (hx b n)];exact n,λ b u q _=>?_,
  λ b xs q=>by rw[aE (hm b _ q λ z=>z)];exact q,λ b u xs q=>by rw[aE (hm b _ q λ z=>z)];exact q,λ b ps q=>⟨#[],by rw[aE (hm b _ q λ z=>z),q];simp⟩⟩
 by_cases hbe:b=e
 . subst hbe;exact heo
 . exact⟨u,k b u hbe q⟩
end
def KO(h:Heap)(H:Hp):List Addr:=(List.range h.objs.size).filter λ a=>(H a).isSome
def rV(h:Heap)(H:Hp):Heap:=PySem.W.hideAll h (KO h H)
def HR(h:Heap)(H:Hp):(rV h H).objs.size=h.objs.size:=PySem.W.hideAll_size _ _
def ui{h:Heap}{H:Hp}{b:Addr}{o:Obj}(e:h.get? b=some o)(n:H b=none):(rV h H).get? b=some o:=
 PySem.W.hideAll_get _ e λ hm=>by
  have q:(H b).isSome=true:=(List.mem_filter.mp hm).2;rw[n]at q;simp at q
def MK{h:Heap}{H:Hp}{b:Addr}{o:Obj}(e:(rV h H).get? b=some o):h.get? b=some o/\H b=none:=by
 have e':h.get? b=some o:=PySem.W.of_hideAll (KO h H) e;refine⟨e',?_⟩;cases q:H b with
 |none=>rfl
 |some x=>
  have hm:b∈KO h H:=List.mem_filter.mpr ⟨VM.mpr (UA e'),by simp[q]⟩;have z:(rV h H).get? b=none:=PySem.W.hideAll_none (KO h H) hm;rw[z]at e;cases e
def Mp(g h:Heap)(L:Addr):List (Addr×Obj):=(List.range h.objs.size).filterMap λ a=>if a=L\/(g.get? a).isSome=true then none else(h.get? a).map λ o=>(a,o)
def rest(g h:Heap)(L d:Addr):List (Addr×Obj):=(Mp g h L).filter λ p=>decide (p.1≠d)
structure Mod(K:PySem.W.Frag)(mg:Str->Option Value)(base:Heap):Prop where
 Ib:K.In base
 glob:base.Ns mainGlobals mg
 blt:∃mb,base.Ns builtinsNs mb/\∀x:Str,x≠"__name__"->mb x=bootBuiltins x
 nolimit:base.NoLimit
 seer:base.NoSeer
 bmain:∃bm ob,mg "__builtins__"=some (.ref bm)/\bm≠builtinsNs/\base.get? bm=some ob/\ob.cls= .type "module"/\ob.dict=some builtinsNs/\ob.data= .plain
structure Cx where
 prog:Program
 w:World
 K:PySem.W.Frag
 mg:Str->Option Value
 base:Heap
 A:Around
 N:List Str
 s₀:Shared
 H₀:Hp
 env:Env
 outer:List Env
 stack:List Env
 ex:List Addr
 fn:Str->Bool
 calm:Bool
 pn:List (Addr×Obj)
 xe:Value->Shared->Prop
def sP(l:List Env):List Addr:=l.filterMap (·.frame)
abbrev Cx.fs(X:Cx):List Addr:=sP X.outer
def CO(sc:Scope)(x:Str):Prop:=sc.names.lookup x=some .local\/sc.names.lookup x=some .cell\/sc.names.lookup x=some .free
def Loc(sc:Scope)(x:Str):Prop:=sc.names.lookup x=some .local\/sc.names.lookup x=some .cell
def Look(env:Env)(h:Heap)(m:Str->Option Value)(x:Str)(u:Value):Prop:=
 (env.kindOf x=some .local/\m x=some u)\/((env.kindOf x=some .cell\/env.kindOf x=some .free)/\∃c,env.cells.lookup x=some c/\h.IsCell c (some u))
structure Cx.Ok(X:Cx):Prop where
 mod:Mod X.K X.mg X.base
 kind:X.env.scope.kind= .function
 glob:X.env.globals=mainGlobals
 blt:X.env.builtins=builtinsNs
 above:X.s₀.heap.objs.size<=X.env.locals
 inj:∀x y c,X.env.cells.lookup x=some c->X.env.cells.lookup y=some c->x=y
 has:∀x,(X.env.kindOf x=some .cell\/X.env.kindOf x=some .free)->∃c,X.env.cells.lookup x=some c
 Bx:∀x c,X.fn x=true->X.env.cells.lookup x=some c->X.s₀.heap.objs.size<=c
 hd:X.calm=true->X.A.handled=none
 frames:X.A.frames=some X.stack
 EW:X.stack=X.outer\/(X.stack=X.env::X.outer/\X.env.frame=some X.env.locals)
 Hz:∀b∈X.ex,b≠X.env.locals/\∀x c,X.env.cells.lookup x=some c->c≠b
 bs:∀b o,X.base.get? b=some o->X.s₀.heap.get? b=some o/\X.H₀ b=none
 uC:X.base.objs.size<=X.s₀.heap.objs.size
 xn:∀b o,X.base.get? b=some o->b∉X.ex
 xF:∀b∈X.ex,b∉X.fs
 mz:X.s₀.heap.FunFrames X.base X.outer
 yD:∀b∈X.fs,X.H₀ b=none
 gt:X.prog.given.tree=none
structure Inv(X:Cx)(pins:List (Addr×Obj))(σ:List (Option V))(H:Hp)(s:Shared):Prop where
 ok:X.Ok
 os:s.os=X.s₀.os
 bare:AllBare s.gens
 base:Un X.fs X.ex X.H₀ H X.s₀.heap s.heap
 loc:∃m,s.heap.Ns X.env.locals m/\∀(i:Nat) (x:Str) (v:V),X.N[i]?=some x->σ[i]?=some (some v)->CO X.env.scope x->∃u,RelV v u/\Look X.env s.heap m x u
 cell:∀x c,X.env.cells.lookup x=some c->∃v,s.heap.IsCell c v
 free:H X.env.locals=none
 jN:∀x c,X.env.cells.lookup x=some c->H c=none
 pin:∀p∈X.pn++pins,s.heap.get? p.1=some p.2/\H p.1=none/\p.1≠X.env.locals/\p.1∉X.fs/\∀v,p.2.data≠ .cell v
 aO:jt X.prog X.w H s.heap
 len:σ.length=X.N.length
section
variable {X:Cx}{pins:List (Addr×Obj)}{σ:List (Option V)}{H H':Hp}{s:Shared}{h':Heap}
def Cx.Ok.Tz(ok:X.Ok){b:Addr}{o:Obj}(e:X.base.get? b=some o):b∉X.fs:=λ hb=>by
 have:=(ok.mz.mem hb).1;rw[e]at this;cases this
def Inv.bs(I:Inv X pins σ H s):∀b o,X.base.get? b=some o->s.heap.get? b=some o/\H b=none:=λ b o e=>
 ⟨I.base.keep b o (I.ok.bs b o e).1 (I.ok.bs b o e).2 (I.ok.Tz e) (I.ok.xn b o e),I.base.free b o (I.ok.bs b o e).1 (I.ok.bs b o e).2 (I.ok.xn b o e)⟩
def Inv.bk(I:Inv X pins σ H s):∀b o,X.base.get? b=some o->s.heap.get? b=some o:=λ b o e=>(I.bs b o e).1
def Inv.mod(I:Inv X pins σ H s):Mod X.K X.mg X.base:=I.ok.mod
def Inv.i4(I:Inv X pins σ H s):X.K.In s.heap:=I.ok.mod.Ib.keeps I.bk
def Inv.nolimit(I:Inv X pins σ H s):s.heap.NoLimit:=I.ok.mod.nolimit.keeps I.bk
def Inv.lt(I:Inv X pins σ H s):X.env.locals<s.heap.objs.size:=let⟨_,hn,_⟩:=I.loc;hn.lt
def Inv.sz(I:Inv X pins σ H s):X.s₀.heap.objs.size<=s.heap.objs.size:=Um I.ok.above (VN I.lt)
def Inv.NO(I:Inv X pins σ H s){a:Addr}(h:s.heap.objs.size<=a):a∉X.fs:=λ hb=>by
 obtain⟨_,o,ho,_⟩:=I.ok.mz.mem hb;exact absurd (UH (UA ho) (Um I.sz h)) (VB _)
def Inv.CB(I:Inv X pins σ H s):∀x c,X.env.cells.lookup x=some c->c≠X.env.locals:=λ x c e z=>by
 obtain⟨v,o,ho,hd⟩:=I.cell x c e;obtain⟨m,⟨o',es,ep,ho',hd',_⟩,_⟩:=I.loc;rw[z,ho']at ho;cases ho;rw[hd']at hd;cases hd
def Inv.mz(I:Inv X pins σ H s):s.heap.FunFrames X.base X.outer:=by
 have all:∀(l:List Env),(∀b∈sP l,b∈X.fs)->X.s₀.heap.FunFrames X.base l->s.heap.FunFrames X.base l:=by
  intro l;induction l with
  |nil=>intro _ _;trivial
  |cons env r ih=>
   intro hs hl;obtain⟨hk,⟨L,o,hf,hn,ho,hd⟩,hr⟩:=hl;have hL:L∈X.fs:=hs L (by unfold sP;rw[WY,hf];exact UP);obtain⟨sl,e⟩:=I.base.slot L o ho (I.ok.yD L hL) hL λ z=>I.ok.xF L z hL;exact⟨hk,⟨L,_,hf,hn,e,hd⟩,ih (λ b hb=>hs b (by unfold sP;rw[WY,hf];exact UG _ hb)) hr⟩
 exact all X.outer (λ _ hb=>hb) I.ok.mz
def Inv.stack(I:Inv X pins σ H s):s.heap.FunFrames X.base X.stack:=by
 rcases I.ok.EW with e|⟨e,hf⟩
 . rw[e];exact I.mz
 . rw[e];obtain⟨m,hn,_⟩:=I.loc;refine .cons (by rw[I.ok.kind];decide) hf hn ?_ I.mz;exact Heap.get?_none_of_le (Um I.ok.uC I.ok.above)
def Inv.BY(I:Inv X pins σ H s):∀b∈sP X.stack,b∈X.env.locals::X.fs:=λ b hb=>by
 rcases I.ok.EW with e|⟨e,hf⟩
 . rw[e]at hb;exact UG _ hb
 . rw[e]at hb;unfold sP at hb;rw[WY,hf]at hb;exact hb
def Inv.zw(I:Inv X pins σ H s):∀b∈sP X.stack,H b=none:=λ b hb=>by
 rcases UK.mp (I.BY b hb)with e|hb
 . rw[e];exact I.free
 . obtain⟨_,o,ho,_⟩:=I.ok.mz.mem hb;exact I.base.free b o ho (I.ok.yD b hb) λ z=>I.ok.xF b z hb
def Inv.step{g':Array GenState}{t':Nat}{d':Drawn}{ch:List Addr}(I:Inv X pins σ H s)
 (hch:∀b∈ch,(b∈X.ex\/X.s₀.heap.objs.size<=b)/\b≠X.env.locals/\(∀x c,X.env.cells.lookup x=some c->c≠b)/\∀p∈X.pn++pins,p.1≠b)
 (keep:∀b o,b≠X.env.locals->b∉X.fs->b∉ch->s.heap.get? b=some o->H b=none->h'.get? b=some o)
 (slot:∀b o,b≠X.env.locals->b∈X.fs->b∉ch->s.heap.get? b=some o->H b=none->∃sl,h'.get? b=some {o with slots:=sl}) (free:∀b o,b∉ch->s.heap.get? b=some o->H b=none->H' b=none)
 (there:∀b o,b∉ch->s.heap.get? b=some o->∃o',h'.get? b=some o')
 (rD:∀b xs,H b=some (.tup xs)->H' b=some (.tup xs)) (qk:∀b o u,H b=some (.fe o u)->H' b=some (.fe o u)) (pQ:∀b ps,H b=some (.lX ps)->∃more,H' b=some (.lX (ps++more)))
 (ns:∀m,s.heap.Ns X.env.locals m->h'.Ns X.env.locals m) (aO:jt X.prog X.w H' h') (hg:AllBare g'):
 Inv X pins σ H' {s with heap:=h',gens:=g',drawn:=d',toks:=t'}:=by
 have neL:∀b o,X.s₀.heap.get? b=some o->b≠X.env.locals:=λ b o e=>UR (UH (UA e) I.ok.above)
 have neC:∀b o,X.s₀.heap.get? b=some o->b∉X.ex->b∉ch:=λ b o e hx hb=>by
  rcases(hch b hb).1 with z|z
  . exact hx z
  . exact absurd (UH (UA e) z) (VB _)
 have cellK:∀x c,X.env.cells.lookup x=some c->∀v,s.heap.IsCell c v->h'.IsCell c v:=λ x c e v ⟨o,ho,hd⟩=>by
  have nch:c∉ch:=λ z=>(hch c z).2.2.1 x c e rfl;by_cases hc:c∈X.fs
  . obtain⟨sl,q⟩:=slot c o (I.CB x c e) hc nch ho (I.jN x c e);exact⟨_,q,hd⟩
  . exact⟨o,keep c o (I.CB x c e) hc nch ho (I.jN x c e),hd⟩
 refine⟨I.ok,I.os,hg,⟨λ b o e n hb hx=>?_,λ b o e n hb hx=>?_,λ b o e n hx=>?_,λ b o e hx=>?_,λ b xs e=>rD b xs (I.base.rD b xs e),λ b o xs e=>qk b o xs (I.base.qk b o xs e),λ b ps e=>?_⟩,?_,λ x c e=>?_,?_,λ x c e=>?_,λ p hp=>?_,aO,I.len⟩
 . exact keep b o (neL b o e) hb (neC b o e hx) (I.base.keep b o e n hb hx) (I.base.free b o e n hx)
 . obtain⟨sl,e1⟩:=I.base.slot b o e n hb hx;obtain⟨sl',e2⟩:=slot b _ (neL b o e) hb (neC b o e hx) e1 (I.base.free b o e n hx);exact⟨sl',e2⟩
 . obtain⟨o',e1⟩:=I.base.there b o e hx;exact free b o' (neC b o e hx) e1 (I.base.free b o e n hx)
 . obtain⟨o',e1⟩:=I.base.there b o e hx;exact there b o' (neC b o e hx) e1
 . obtain⟨m1,e1⟩:=I.base.pQ b ps e;obtain⟨m2,e2⟩:=pQ b _ e1;exact⟨m1++m2,by rw[e2,Array.append_assoc]⟩
 . obtain⟨m,hn,hl⟩:=I.loc;refine⟨m,ns m hn,λ i x v e1 e2 e3=>?_⟩;obtain⟨u,r,l⟩:=hl i x v e1 e2 e3;refine⟨u,r,?_⟩;rcases l with l|⟨k,c,e,z⟩
   . exact .inl l
   . exact .inr ⟨k,c,e,cellK x c e _ z⟩
 . obtain⟨v,z⟩:=I.cell x c e;exact⟨v,cellK x c e v z⟩
 . obtain⟨m,⟨o,_,_,ho,_⟩,_⟩:=I.loc;exact free _ o (λ z=>(hch _ z).2.1 rfl) ho I.free
 . obtain⟨v,o,ho,hd⟩:=I.cell x c e;exact free c o (λ z=>(hch c z).2.2.1 x c e rfl) ho (I.jN x c e)
 . obtain⟨e,n,ne,nf,d⟩:=I.pin p hp;have nch:p.1∉ch:=λ z=>(hch p.1 z).2.2.2 p hp rfl;exact⟨keep p.1 p.2 ne nf nch e n,free p.1 p.2 nch e n,ne,nf,d⟩
def Inv.un{t':Nat}(I:Inv X pins σ H s)(u:Un X.fs [] H H' s.heap h')(aO:jt X.prog X.w H' h'):Inv X pins σ H' {s with heap:=h',toks:=t'}:=by
 obtain⟨m,⟨o,es,ep,ho,r⟩,_⟩:=id I.loc;obtain⟨sl,hL⟩:=u.any ho I.free (by simp)
 exact I.step (g':=s.gens) (d':=s.drawn) (ch:=[]) (λ _ z=>nomatch z) (λ b o _ hb _ e n=>u.keep b o e n hb (by simp)) (λ b o _ hb _ e n=>u.slot b o e n hb (by simp)) (λ b o _ e n=>u.free b o e n (by simp)) (λ b o _ e=>u.there b o e (by simp)) u.rD u.qk u.pQ (λ m' hm=>by
  obtain⟨o',es',ep',ho',r'⟩:=hm;rw[ho]at ho';cases ho';exact⟨_,es',ep',hL,r'⟩) aO I.bare
def Inv.call{g':Array GenState}{t':Nat}{d':Drawn}{ch:List Addr}(I:Inv X pins σ H s)(u:Un (sP X.stack) ch H H' s.heap h')(aO:jt X.prog X.w H' h')(hg:AllBare g')
 (hch:∀b∈ch,(b∈X.ex\/X.s₀.heap.objs.size<=b)/\b≠X.env.locals/\(∀x c,X.env.cells.lookup x=some c->c≠b)/\∀p∈X.pn++pins,p.1≠b):
 Inv X pins σ H' {s with heap:=h',gens:=g',drawn:=d',toks:=t'}:=by
 obtain⟨m,⟨o,es,ep,ho,r⟩,_⟩:=id I.loc;obtain⟨sl,hL⟩:=u.any ho I.free λ z=>(hch _ z).2.1 rfl
 exact I.step (ch:=ch) hch (λ b o hL hb hc e n=>u.keep b o e n (λ z=>(UK.mp (I.BY b z)).elim hL hb) hc) (λ b o _ _ hc e n=>u.any e n hc) (λ b o hc e n=>u.free b o e n hc) (λ b o hc e=>u.there b o e hc) u.rD u.qk u.pQ (λ m' hm=>by
  obtain⟨o',es',ep',ho',r'⟩:=hm;rw[ho]at ho';cases ho';exact⟨_,es',ep',hL,r'⟩) aO hg
def Inv.turned{t':Nat}{it:Addr}(I:Inv X pins σ H s)(k:∀b o,b≠it->s.heap.get? b=some o->h'.get? b=some o)(hn:H it=none)(hL:it≠X.env.locals)
 (h1:it∈X.ex\/X.s₀.heap.objs.size<=it) (h2:∀x c,X.env.cells.lookup x=some c->c≠it) (h3:∀p∈X.pn++pins,p.1≠it):Inv X pins σ H {s with heap:=h',toks:=t'}:=by
 have nit:∀b u,H b=some u->b≠it:=λ b u e z=>by rw[z,hn]at e;cases e
 refine I.step (g':=s.gens) (d':=s.drawn) (ch:=[it]) (λ b hb=>?_) (λ b o _ _ hc e _=>k b o (λ z=>hc (by simp[z])) e) (λ b o _ _ hc e _=>⟨o.slots,k b o (λ z=>hc (by simp[z])) e⟩) (λ _ _ _ _ n=>n)
  (λ b o hc e=>⟨o,k b o (λ z=>hc (by simp[z])) e⟩) (λ _ _ e=>e) (λ _ _ _ e=>e) (λ b ps e=>⟨#[],by rw[e];simp⟩) (λ m hm=>?_) (λ b u e=>?_) I.bare
 . have e:b=it:=by simpa using hb
   subst e;exact⟨h1,hL,h2,h3⟩
 . obtain⟨o,es,ep,ho,r⟩:=hm;exact⟨o,es,ep,k _ o (Uy hL) ho,r⟩
 . refine(I.aO b u e).ng (λ c v hc q=>k c v ?_ q) (λ _ q=>q) λ _ _ q=>q;rcases hc with z|z
   . rw[z];exact nit b u e
   . exact nit c _ z
def Inv.tok(I:Inv X pins σ H s)(t:Nat):Inv X pins σ H {s with toks:=t}:=I.un (h':=s.heap) (t':=t) Un.refl I.aO
def Inv.kept{t':Nat}(I:Inv X pins σ H s)(k:∀b u,s.heap.get? b=some u->h'.get? b=some u):Inv X pins σ H {s with heap:=h',toks:=t'}:=I.un (Un.kept k) (I.aO.kept k)
def Inv.laid{a:Addr}{o:HO}{t':Nat}(I:Inv X pins σ H s)(k:∀b u,s.heap.get? b=some u->h'.get? b=some u)(hp:s.heap.objs.size<=a)(new:et X.prog X.w (upd H a o) h' a o):
 Inv X pins σ (upd H a o) {s with heap:=h',toks:=t'}:=I.un (Un.laid k hp (I.aO.fresh hp)) (I.aO.laid k hp new)
def Inv.write{x e:Addr}{o:HO}{t':Nat}(I:Inv X pins σ H s)(mu:Lh (H x))(he:e=x\/H e=some (.own x))(k:∀b u,b≠e->s.heap.get? b=some u->h'.get? b=some u)(heo:∃u,h'.get? e=some u)
 (new:et X.prog X.w (upd H x o) h' x o):Inv X pins σ (upd H x o) {s with heap:=h',toks:=t'}:=I.un (Un.write mu he k heo) (I.aO.write mu he k heo new)
def Inv.vQ{pins':List (Addr×Obj)}(I:Inv X pins σ H s)(h:∀p∈pins',s.heap.get? p.1=some p.2/\H p.1=none/\p.1≠X.env.locals/\p.1∉X.fs/\∀v,p.2.data≠ .cell v):Inv X pins' σ H s:=
 ⟨I.ok,I.os,I.bare,I.base,I.loc,I.cell,I.free,I.jN,λ p hp=>(Vf.mp hp).elim (λ z=>I.pin p (Vp _ z)) (h p),I.aO,I.len⟩
def BH{N:List Str}(hN:N.Nodup){i j:Nat}{x:Str}(a:N[i]?=some x)(b:N[j]?=some x):i=j:=by
 obtain⟨h1,e1⟩:=Ui.mp a;obtain⟨h2,e2⟩:=Ui.mp b;exact(List.getElem_inj hN).mp (e1.trans e2.symm)
def Ad{M:Model}{A:Around}{E:Value->Shared->Prop}{i:Nat}{x:Str}{v:V}{u:Value}{Q:Unit->Shared->Prop}(I:Inv X pins σ H s)(hN:X.N.Nodup)(hi:X.N[i]?=some x)(hx:Loc X.env.scope x)(r:RelV v u)
 (h:∀s',Inv X pins (σ.set i (some v)) H s'->(∃a,Heap.SameBut a s.heap s'.heap/\(a=X.env.locals\/X.env.cells.lookup x=some a))->Q () s') (hf:X.fn x=true\/X.env.scope.names.lookup x=some .local:=by first|exact .inl rfl|exact .inr rfl|assumption):wpAny M A (storeName X.env x u) Q E s:=by
 obtain⟨m,hn,hl⟩:=id I.loc;have hcls:(X.env.scope.kind== .class||(X.env.scope.kind== .module&&X.env.locals != X.env.globals))=false:=by rw[I.ok.kind];rfl
 have hiσ:i<σ.length:=by rw[I.len];exact(Ui.mp hi).1
 have CB:=I.CB
 have tracked:∀ {a:Addr} {h':Heap},(∃o,s.heap.get? a=some o/\H a=none)->Heap.SameBut a s.heap h'->jt X.prog X.w H h':=λ{a h'} ha hs b ob e=>by
  obtain⟨_,_,hfree⟩:=ha;refine(I.aO b ob e).ng (λ c w' hc q=>(hs.2 c ?_).trans q) (λ _ q=>q) λ _ _ q=>q;rintro rfl;rcases hc with rfl|hc
  . rw[hfree]at e;cases e
  . rw[hfree]at hc;cases hc
 rcases hx with hk|hk
 . refine wpAny_storeName_local hk hn (λ h' hn' hs=>?_) hcls;obtain⟨oL,_,_,hoL,_⟩:=id hn;refine h _ ⟨I.ok,I.os,I.bare,⟨λ b o e n hb hx=>?_,λ b o e n hb hx=>?_,I.base.free,λ b o e hx=>?_,I.base.rD,I.base.qk,I.base.pQ⟩,⟨_,hn',λ j y v' e1 e2 e3=>?_⟩,λ y c e=>?_,I.free,I.jN,λ p hp=>?_,tracked ⟨oL,hoL,I.free⟩ hs,by simpa using I.len⟩ ⟨_,hs,.inl rfl⟩
   . exact(hs.2 b (UR (UH (UA e) I.ok.above))).trans (I.base.keep b o e n hb hx)
   . obtain⟨sl,e1⟩:=I.base.slot b o e n hb hx;exact⟨sl,(hs.2 b (UR (UH (UA e) I.ok.above))).trans e1⟩
   . obtain⟨o',e1⟩:=I.base.there b o e hx;exact⟨o',(hs.2 b (UR (UH (UA e) I.ok.above))).trans e1⟩
   . by_cases hj:j=i
     . subst hj;rw[hi]at e1;cases e1;rw[Uq hiσ]at e2;cases e2;exact⟨u,r,.inl ⟨hk,by simp⟩⟩
     . rw[Ul (Uy hj)]at e2;obtain⟨u',r',q⟩:=hl j y v' e1 e2 e3;refine⟨u',r',?_⟩;rcases q with⟨k,e⟩|⟨k,c,e,z⟩
       . refine .inl ⟨k,?_⟩;have:y≠x:=λ e=>hj (BH hN e1 (e▸hi));simp[this,e]
       . exact .inr ⟨k,c,e,z.sameBut hs (CB y c e)⟩
   . obtain⟨w',z⟩:=I.cell y c e;exact⟨w',z.sameBut hs (CB y c e)⟩
   . obtain⟨e,n,ne,nf,d⟩:=I.pin p hp;exact⟨(hs.2 p.1 ne).trans e,n,ne,nf,d⟩
 . have hfn:X.fn x=true:=by
    rcases hf with z|z
    . exact z
    . rw[z]at hk;cases hk
   obtain⟨c,hc⟩:=I.ok.has x (.inl hk);obtain⟨w',z⟩:=I.cell x c hc;refine wpAny_storeName_cell I.ok.kind hk hc z (λ h' hc' hs=>?_);obtain⟨oc,hoc,hocd⟩:=id z;refine h {s with heap:=h'} ⟨I.ok,I.os,I.bare,⟨λ b o e n hb hx=>?_,λ b o e n hb hx=>?_,I.base.free,λ b o e hx=>?_,I.base.rD,I.base.qk,I.base.pQ⟩,⟨m,hn.sameBut hs (Uy (CB x c hc)),λ j y v' e1 e2 e3=>?_⟩,λ y c' e=>?_,I.free,I.jN,λ p hp=>?_,tracked ⟨oc,hoc,I.jN x c hc⟩ hs,by simpa using I.len⟩ ⟨c,hs,.inr hc⟩
   . exact(hs.2 b (UR (UH (UA e) (I.ok.Bx x c hfn hc)))).trans (I.base.keep b o e n hb hx)
   . obtain⟨sl,e1⟩:=I.base.slot b o e n hb hx;exact⟨sl,(hs.2 b (UR (UH (UA e) (I.ok.Bx x c hfn hc)))).trans e1⟩
   . obtain⟨o',e1⟩:=I.base.there b o e hx;exact⟨o',(hs.2 b (UR (UH (UA e) (I.ok.Bx x c hfn hc)))).trans e1⟩
   . by_cases hj:j=i
     . subst hj;rw[hi]at e1;cases e1;rw[Uq hiσ]at e2;cases e2;exact⟨u,r,.inr ⟨.inl hk,c,hc,hc'⟩⟩
     . rw[Ul (Uy hj)]at e2;obtain⟨u',r',q⟩:=hl j y v' e1 e2 e3;refine⟨u',r',?_⟩;rcases q with q|⟨k,c',e,z'⟩
       . exact .inl q
       . refine .inr ⟨k,c',e,z'.sameBut hs ?_⟩;rintro rfl;exact hj (BH hN e1 (I.ok.inj _ _ _ e hc▸hi))
   . by_cases hcc:c'=c
     . subst hcc;exact⟨_,hc'⟩
     . obtain⟨w2,z2⟩:=I.cell y c' e;exact⟨w2,z2.sameBut hs hcc⟩
   . obtain⟨e,n,ne,nf,d⟩:=I.pin p hp;refine⟨(hs.2 p.1 ?_).trans e,n,ne,nf,d⟩;intro q;rw[q,hoc]at e;have q':oc=p.2:=Vk e;exact d w' (by rw[<-q'];exact hocd)
def qp{M:Model}{A:Around}{E:Value->Shared->Prop}{i:Nat}{x:Str}{v:V}{u:Value}{Q:Unit->Shared->Prop}(I:Inv X pins σ H s)(hN:X.N.Nodup)(hi:X.N[i]?=some x)(hx:Loc X.env.scope x)(r:RelV v u)
 (h:∀s',Inv X pins (σ.set i (some v)) H s'->Q () s') (hf:X.fn x=true\/X.env.scope.names.lookup x=some .local:=by first|exact .inl rfl|exact .inr rfl|assumption):wpAny M A (storeName X.env x u) Q E s:=
 Ad I hN hi hx r (λ s' I' _=>h s' I') hf
def Inv.Fi{s':Shared}{ch:List Addr}(I:Inv X pins σ H s)(ho:s'.os=s.os)(u:Un (sP X.stack) ch H H' s.heap s'.heap)(aO:jt X.prog X.w H' s'.heap)(hg:AllBare s'.gens)
 (hch:∀b∈ch,(b∈X.ex\/X.s₀.heap.objs.size<=b)/\b≠X.env.locals/\(∀x c,X.env.cells.lookup x=some c->c≠b)/\∀p∈X.pn++pins,p.1≠b):Inv X pins σ H' s':=by
 obtain⟨h',g',d',t',o'⟩:=s';have e:o'=s.os:=ho;subst e;exact I.call (g':=g') (t':=t') (d':=d') u aO hg hch
end
abbrev XK:=Value->Option Addr->Hp->Prop
abbrev St:=List (Option V)
abbrev VK:=V->Hp->Prop
abbrev TE:=St->Hp->VK->Prop
abbrev TT:=St->Hp->(Bool->Hp->Prop)->Prop
abbrev TA:=St->Hp->(List V->Hp->Prop)->Prop
structure Ends where
 nx:St->Hp->Prop
 rt:VK
 bk:St->Hp->Prop:=λ _ _=>False
 ct:St->Hp->Prop:=λ _ _=>False
abbrev TS:=Ends->St->Hp->Prop
def EP(X:Cx)(pins:List (Addr×Obj))(σ:St)(Q:VK)(u:Value)(s':Shared):Prop:=∃v H',Inv X pins σ H' s'/\RelV v u/\Q v H'
def TP(X:Cx)(pins:List (Addr×Obj))(σ:St)(Q:Bool->Hp->Prop)(b:Bool)(s':Shared):Prop:=∃H',Inv X pins σ H' s'/\Q b H'
def AP(X:Cx)(pins:List (Addr×Obj))(σ:St)(Q:List V->Hp->Prop)(us:List Value)(s':Shared):Prop:=∃vs H',Inv X pins σ H' s'/\Vals vs us/\Q vs H'
def SP(X:Cx)(pins:List (Addr×Obj))(D:Ends)(f:Flow)(s':Shared):Prop:=
 match f with
 | .next=>∃σ' H',Inv X pins σ' H' s'/\D.nx σ' H'
 | .brk=>∃σ' H',Inv X pins σ' H' s'/\D.bk σ' H'
 | .cont=>∃σ' H',Inv X pins σ' H' s'/\D.ct σ' H'
 | .ret u=>∃v σ' H',Inv X pins σ' H' s'/\RelV v u/\D.rt v H'
def PE(X:Cx)(e:Expr)(t:TE):Prop:=
 ∀(pins:List (Addr×Obj)) (s:Shared) (σ:St) (H:Hp) (Q:VK),Inv X pins σ H s->t σ H Q->wpAny (model X.prog X.w) X.A (eval e X.env) (EP X pins σ Q) X.xe s
def PT(X:Cx)(e:Expr)(t:TT):Prop:=
 ∀(pins:List (Addr×Obj)) (s:Shared) (σ:St) (H:Hp) (Q:Bool->Hp->Prop),Inv X pins σ H s->t σ H Q->wpAny (model X.prog X.w) X.A (isTrue e X.env (eval e X.env)) (TP X pins σ Q) X.xe s
def PW(X:Cx)(e:Expr)(t:TT):Prop:=
 ∀(whole:Sem Value) (pins:List (Addr×Obj)) (s:Shared) (σ:St) (H:Hp) (Q:Bool->Hp->Prop),Inv X pins σ H s->t σ H Q->wpAny (model X.prog X.w) X.A (isTrue e X.env whole) (TP X pins σ Q) X.xe s
def PW.pt{X:Cx}{e:Expr}{t:TT}(h:PW X e t):PT X e t:=h _
def PA(X:Cx)(es:List Expr)(t:TA):Prop:=
 ∀(pos:Pos) (pins:List (Addr×Obj)) (s:Shared) (σ:St) (H:Hp) (Q:List V->Hp->Prop),Inv X pins σ H s->t σ H Q->wpAny (model X.prog X.w) X.A (spliced (backTo pos (starEach es X.env))) (AP X pins σ Q) X.xe s
def PS(X:Cx)(st:Stmt)(t:TS):Prop:=
 ∀(pins:List (Addr×Obj)) (s:Shared) (σ:St) (H:Hp) (D:Ends),Inv X pins σ H s->t D σ H->wpAny (model X.prog X.w) X.A (exec st X.env) (SP X pins D) X.xe s
def i5(X:Cx)(st:List Stmt)(t:TS):Prop:=
 ∀(pins:List (Addr×Obj)) (s:Shared) (σ:St) (H:Hp) (D:Ends),Inv X pins σ H s->t D σ H->wpAny (model X.prog X.w) X.A (execs st X.env) (SP X pins D) X.xe s
def cw{α:Type}{t:Sem α}{Q Q':α->Shared->Prop}{M:Model}{A:Around}{E:Value->Shared->Prop}{s:Shared}(h:wpAny M A t Q E s)(hQ:∀a s,Q a s->Q' a s):wpAny M A t Q' E s:=V1 h hQ λ _ _ x=>x
section
variable {X:Cx}
def N3(i:Nat):TE:=λ σ H Q=>∃v,σ[i]?=some (some v)/\Q v H
def tC(v:V):TE:=λ _ H Q=>Q v H
def N5{i:Nat}{x:Str}{pos:Pos}(hN:X.N[i]?=some x)(hv:CO X.env.scope x)(hd:(x==("__debug__":Str))=false:=by decide)(hcd:(x==("__classdict__":Str))=false:=by decide):PE X (.Name x pos) (N3 i):=by
 intro pins s σ H Q I h;obtain⟨v,e,h⟩:=h;obtain⟨m,hn,hl⟩:=I.loc;obtain⟨u,r,l⟩:=hl i x v hN e hv;have fin:EP X pins σ Q u s:=⟨v,H,I,r,h⟩
 rcases l with⟨hk,hm⟩|⟨hk,c,hc,hcell⟩
 . exact wpAny_Name (wpAny_loadName_local I.ok.kind hk hn hm fin) hd
 . rcases hk with hk|hk
   . exact wpAny_Name (wpAny_loadName_cell I.ok.kind hk hc hcell fin) hd
   . exact wpAny_Name (wpAny_loadName_free I.ok.kind hk hc hcell fin hcd) hd
def OP{i j pos}:PE X (.Constant (.int i) j pos) (tC (.int i)):=λ _ _ _ H _ I h=>wpAny_Constant_int ⟨.int i,H,I.tok _,⟨_,rfl⟩,h⟩
def QB{b j pos}:PE X (.Constant (.bool b) j pos) (tC (.bl b)):=λ _ _ _ H _ I h=>Constant_bool ⟨.bl b,H,I,rfl,h⟩
def NX{j pos}:PE X (.Constant .none j pos) (tC .aD):=λ _ _ _ H _ I h=>Constant_none ⟨.aD,H,I,rfl,h⟩
def N2{x j pos}:PE X (.Constant (.str x) j pos) (tC (.str x)):=λ _ _ _ H _ I h=>Calls.Constant_str ⟨.str x,H,I.tok _,⟨_,rfl⟩,h⟩
def Gl(X:Cx)(x:Str):Prop:=X.env.kindOf x=some .globalImplicit
def EY{E:Value->Shared->Prop}{pins:List (Addr×Obj)}{s:Shared}{σ:St}{H:Hp}{x:Str}{u:Value}{pos:Pos}{Q:Value->Shared->Prop}(I:Inv X pins σ H s)(hg:Gl X x)(hm:X.mg x=some u)(h:Q u s)
 (hd:(x==("__debug__":Str))=false:=by decide):wpAny (model X.prog X.w) X.A (eval (.Name x pos) X.env) Q E s:=
 X_ I.ok.kind hg (Calls.loadGlobal_global (by rw[I.ok.glob];exact I.mod.glob.keeps I.bk) hm h) hd
def mn{E:Value->Shared->Prop}{pins:List (Addr×Obj)}{s:Shared}{σ:St}{H:Hp}{x:Str}{u:Value}{pos:Pos}{Q:Value->Shared->Prop}(I:Inv X pins σ H s)(hg:Gl X x)(hm:X.mg x=none)(hv:bootBuiltins x=some u)(h:Q u s)
 (hn:x≠"__name__":=by decide) (hd:(x==("__debug__":Str))=false:=by decide):wpAny (model X.prog X.w) X.A (eval (.Name x pos) X.env) Q E s:=by
 obtain⟨mb,h1,h2⟩:=I.mod.blt;exact X_ I.ok.kind hg (Calls.loadGlobal_builtin (by rw[I.ok.glob];exact I.mod.glob.keeps I.bk) hm (by rw[I.ok.blt];exact h1.keeps I.bk) ((h2 x hn).trans hv) h) hd
def L7{x:Str}{v:V}{u:Value}{pos:Pos}(hg:Gl X x)(hm:X.mg x=none)(hv:bootBuiltins x=some u)(r:RelV v u)(hn:x≠"__name__":=by decide)(hd:(x==("__debug__":Str))=false:=by decide):PE X (.Name x pos) (tC v):=
 λ _ _ _ H _ I h=>mn I hg hm hv ⟨v,H,I,r,h⟩ hn hd
variable {a b:Expr}{ta tb:TE}{pos:Pos}
def tB(t:TE):TT:=λ σ H Q=>t σ H λ x H1=>∃c,x= .bl c/\Q c H1
def OL{e:Expr}{t:TE}(h:PE X e t)(he:∀whole,isTrue e X.env whole=(do let v <-whole;standAt e.pos;holding [v] (truthy v)):=by intro _;rfl):PT X e (tB t):=by
 intro pins s σ H Q I hw;refine isTrue_plain (cw (h pins s σ H _ I hw) λ v s1 ⟨x,H1,I1,r1,q1⟩=>?_) (he _);obtain⟨d,rfl,q⟩:=q1;cases r1;exact V_ ⟨H1,I1,q⟩
variable {tA tB':TT}{rest:List Expr}
def Pt(t u:TT):TT:=λ σ H Q=>t σ H λ c H1=>if c=true then u σ H1 Q else Q false H1
def Sl(t u:TT):TT:=λ σ H Q=>t σ H λ c H1=>if c=true then Q true H1 else u σ H1 Q
def Tc(t:TT):TT:=λ σ H Q=>t σ H λ c H1=>Q (!c) H1
def pw_and1(ha:PT X a tA):PW X (.BoolOp .And [a] pos) tA:=by
 intro wh pins s σ H Q I h;refine isTrue_and (cw (ha pins s σ H Q I h) λ c s1 e=>?_);cases c with
 |true=>exact isTrue_and_nil e
 |false=>exact e
def pw_or1(ha:PT X a tA):PW X (.BoolOp .Or [a] pos) tA:=by
 intro wh pins s σ H Q I h;refine isTrue_or (cw (ha pins s σ H Q I h) λ c s1 e=>?_);cases c with
 |false=>exact isTrue_or_nil e
 |true=>exact e
def pw_and(ha:PT X a tA)(hb:PW X (.BoolOp .And (b::rest) pos) tB'):PW X (.BoolOp .And (a::b::rest) pos) (Pt tA tB'):=by
 intro wh pins s σ H Q I h;refine isTrue_and (cw (ha pins s σ H _ I h) λ c s1 ⟨H1,I1,q1⟩=>?_);cases c with
 |true=>exact hb wh pins s1 σ H1 Q I1 q1
 |false=>exact⟨H1,I1,q1⟩
def pw_or(ha:PT X a tA)(hb:PW X (.BoolOp .Or (b::rest) pos) tB'):PW X (.BoolOp .Or (a::b::rest) pos) (Sl tA tB'):=by
 intro wh pins s σ H Q I h;refine isTrue_or (cw (ha pins s σ H _ I h) λ c s1 ⟨H1,I1,q1⟩=>?_);cases c with
 |true=>exact⟨H1,I1,q1⟩
 |false=>exact hb wh pins s1 σ H1 Q I1 q1
def Po(ha:PT X a tA):PT X (.UnaryOp .Not a pos) (Tc tA):=by
 intro pins s σ H Q I h;exact isTrue_not (ha pins s σ H (λ c H1=>Q (!c) H1) I h)
def RB(ta tb:TE):TE:=λ σ H Q=>ta σ H λ x H1=>∃c,x= .bl c/\if c=true then tb σ H1 Q else Q (.bl false) H1
def TH(ta tb:TE):TE:=λ σ H Q=>ta σ H λ x H1=>∃c,x= .bl c/\if c=true then Q (.bl true) H1 else tb σ H1 Q
def Q6(ta:TE):TE:=λ σ H Q=>ta σ H λ x H1=>∃c,x= .bl c/\Q (.bl (!c)) H1
def OY{op}{t:TE}(h:PE X a t):PE X (.BoolOp op [a] pos) t:=λ pins s σ H Q I hw=>BoolOp_one (h pins s σ H Q I hw)
def P9(ha:PE X a ta)(hb:PE X (.BoolOp .And (b::rest) pos) tb):PE X (.BoolOp .And (a::b::rest) pos) (RB ta tb):=by
 intro pins s σ H Q I h;refine BoolOp_and (cw (ha pins s σ H _ I h) λ v s1 ⟨x,H1,I1,r1,q1⟩=>?_);obtain⟨c,rfl,q1⟩:=q1;cases r1;refine V_ ?_;cases c with
 |true=>exact hb pins s1 σ H1 Q I1 q1
 |false=>exact⟨.bl false,H1,I1,rfl,q1⟩
def RK(ha:PE X a ta)(hb:PE X (.BoolOp .Or (b::rest) pos) tb):PE X (.BoolOp .Or (a::b::rest) pos) (TH ta tb):=by
 intro pins s σ H Q I h;refine BoolOp_or (cw (ha pins s σ H _ I h) λ v s1 ⟨x,H1,I1,r1,q1⟩=>?_);obtain⟨c,rfl,q1⟩:=q1;cases r1;refine V_ ?_;cases c with
 |false=>exact hb pins s1 σ H1 Q I1 q1
 |true=>exact⟨.bl true,H1,I1,rfl,q1⟩
def Qa(ha:PE X a ta):PE X (.UnaryOp .Not a pos) (Q6 ta):=by
 intro pins s σ H Q I h;refine UnaryOp_ (cw (ha pins s σ H _ I h) λ v s1 ⟨x,H1,I1,r1,q1⟩=>?_);obtain⟨c,rfl,q1⟩:=q1;cases r1;exact not_of (V_ ⟨.bl (!c),H1,I1,rfl,q1⟩)
def TN(t:TT)(ta tb:TE):TE:=λ σ H Q=>t σ H λ c H1=>if c=true then ta σ H1 Q else tb σ H1 Q
def Kb{c:Expr}(hc:PT X c tA)(ha:PE X a ta)(hb:PE X b tb):PE X (.IfExp c a b pos) (TN tA ta tb):=by
 intro pins s σ H Q I h;refine wpAny_IfExp (cw (hc pins s σ H _ I h) λ d s1 ⟨H1,I1,q1⟩=>?_);cases d with
 |true=>exact ha pins s1 σ H1 Q I1 q1
 |false=>exact hb pins s1 σ H1 Q I1 q1
end
def oE(K:PySem.W.Frag)(H:Hp)(a:Addr)(xs:List V):Prop:=
 Rd H a (.lst xs)\/
  ∃(o:Obj) (av:Array Value) (n:Nat),K.lookup a=some o/\o.cls= .type "list"/\o.dict=none/\o.data= .seq av n/\av.size<=sizeLine/\Vals xs av.toList
def j7(K:PySem.W.Frag)(H:Hp)(a:Addr)(xs:List V):Prop:=
 Rd H a (.tup xs)\/
  ∃(o:Obj) (av:Array Value) (n:Nat),K.lookup a=some o/\o.cls= .type "tuple"/\o.data= .seq av n/\av.size<=sizeLine/\Vals xs av.toList
def Tp:Value->Option V
 | .none=>some .aD
 | .bool b=>some (.bl b)
 | .int i _=>some (.int i)
 | .str x _=>some (.str x)
 | .bytes b _=>some (.wA b)
 | .float b _=>some (.wy b)
 | .ref a=>some (.ref a)
 | .type n=>some (.ty n)
 |_=>none
def RelV.abs{x:V}{u:Value}(r:RelV x u):Tp u=some x:=by
 cases x with
 |aD=>cases r;rfl
 |bl _=>cases r;rfl
 |int _=>obtain⟨t,rfl⟩:=r;rfl
 |str _=>obtain⟨t,rfl⟩:=r;rfl
 |wA _=>obtain⟨t,rfl⟩:=r;rfl
 |wy _=>obtain⟨t,rfl⟩:=r;rfl
 |ref _=>cases r;rfl
 |ty _=>cases r;rfl
def RelV.inj{x y:V}{u:Value}(r:RelV x u)(q:RelV y u):x=y:=Vk (r.abs.symm.trans q.abs)
def Vals.inj:∀ {xs ys:List V} {us:List Value},Vals xs us->Vals ys us->xs=ys
 |_,_,_,.nil,.nil=>rfl
 |_,_,_,.cons r t,.cons r' t'=>by rw[r.inj r',Vals.inj t t']
section
variable {X:Cx}{pins:List (Addr×Obj)}{σ:St}{H:Hp}{s:Shared}{a:Addr}{xs ys:List V}
def oE.of{K:PySem.W.Frag}(h:H a=some (.lst xs)):oE K H a xs:= .inl (.inl h)
def j7.of{K:PySem.W.Frag}(h:H a=some (.tup xs)):j7 K H a xs:= .inl (.inl h)
def Inv.list(I:Inv X pins σ H s)(h:oE X.K H a xs):∃av:List Value,Vals xs av/\PlainL s.heap a av.toArray/\xs.length<=sizeLine:=by
 rcases h with h|⟨o,av,n,hk,hc,hd,hs,hz,r⟩
 . obtain⟨z,av,n,r,e⟩:=h.ok I.aO;exact⟨av,r,⟨_,n,e,rfl,rfl,rfl⟩,z⟩
 . refine⟨av.toList,r,⟨o,n,I.i4 a o hk,hc,hd,by simpa using hs⟩,?_⟩;have e:=r.length;simp only[WC]at e;omega
def Inv.tuple(I:Inv X pins σ H s)(h:j7 X.K H a xs):∃av:List Value,Vals xs av/\IsTup s.heap a av.toArray/\xs.length<=sizeLine:=by
 rcases h with h|⟨o,av,n,hk,hc,hs,hz,r⟩
 . obtain⟨z,av,r,p⟩:=h.ok I.aO;exact⟨av,r,p,z⟩
 . refine⟨av.toList,r,⟨o,I.i4 a o hk,hc,n,by simpa using hs⟩,?_⟩;have e:=r.length;simp only[WC]at e;omega
def Inv.Cg(I:Inv X pins σ H s)(h:oE X.K H a xs)(h':oE X.K H a ys):xs=ys:=by
 obtain⟨av,r,⟨o,n,e,_,_,d⟩,_⟩:=I.list h;obtain⟨its',r',⟨o',n',e',_,_,d'⟩,_⟩:=I.list h';rw[e]at e';cases e';rw[d]at d';injection d' with d1 _;have:av=its':=by simpa using VU Array.toList d1
 subst this;exact r.inj r'
def Inv.AK(I:Inv X pins σ H s)(h:j7 X.K H a xs)(h':j7 X.K H a ys):xs=ys:=by
 obtain⟨av,r,⟨o,e,_,n,d⟩,_⟩:=I.tuple h;obtain⟨its',r',⟨o',e',_,n',d'⟩,_⟩:=I.tuple h';rw[e]at e';cases e';rw[d]at d';injection d' with d1 _;have:av=its':=by simpa using VU Array.toList d1
 subst this;exact r.inj r'
end
abbrev Cx.rW(X:Cx)(E:Value->Shared->Prop):Cx:={X with xe:=E}
abbrev Cx.yf(X:Cx):Cx:=X.rW λ _ _=>False
def Cx.Ok.rW{X:Cx}(ok:X.Ok)(E:Value->Shared->Prop):(X.rW E).Ok:=
 ⟨ok.mod,ok.kind,ok.glob,ok.blt,ok.above,ok.inj,ok.has,ok.Bx,ok.hd,ok.frames,ok.EW,ok.Hz,ok.bs,ok.uC,ok.xn,ok.xF,ok.mz,ok.yD,ok.gt⟩
def Cx.Ok.oi{X:Cx}{E:Value->Shared->Prop}(ok:(X.rW E).Ok):X.Ok:=
 ⟨ok.mod,ok.kind,ok.glob,ok.blt,ok.above,ok.inj,ok.has,ok.Bx,ok.hd,ok.frames,ok.EW,ok.Hz,ok.bs,ok.uC,ok.xn,ok.xF,ok.mz,ok.yD,ok.gt⟩
section
variable {X:Cx}{pins:List (Addr×Obj)}{σ:St}{H:Hp}{s:Shared}{E:Value->Shared->Prop}
def Inv.rW(I:Inv X pins σ H s)(E:Value->Shared->Prop):Inv (X.rW E) pins σ H s:=⟨I.ok.rW E,I.os,I.bare,I.base,I.loc,I.cell,I.free,I.jN,I.pin,I.aO,I.len⟩
def Inv.oi(I:Inv (X.rW E) pins σ H s):Inv X pins σ H s:=⟨I.ok.oi,I.os,I.bare,I.base,I.loc,I.cell,I.free,I.jN,I.pin,I.aO,I.len⟩
def SP.oi{D:Ends}{f:Flow}{s':Shared}(h:SP (X.rW E) pins D f s'):SP X pins D f s':=by
 cases f with
 |next=>obtain⟨σ',H',I,q⟩:=h;exact⟨σ',H',I.oi,q⟩
 |brk=>obtain⟨σ',H',I,q⟩:=h;exact⟨σ',H',I.oi,q⟩
 |cont=>obtain⟨σ',H',I,q⟩:=h;exact⟨σ',H',I.oi,q⟩
 |ret u=>obtain⟨v,σ',H',I,r,q⟩:=h;exact⟨v,σ',H',I.oi,r,q⟩
def i5.yf{st:List Stmt}{t:TS}(h:i5 X.yf st t):i5 X st t:=λ pins s σ H D I hw=>
 V1 (h pins s σ H D (I.rW _) hw) (λ _ _ q=>q.oi) λ _ _ z=>False.elim z
end
section
variable {X:Cx}{st:Stmt}{rest:List Stmt}{t u:TS}{e:Expr}{te:TE}{pos:Pos}
def QN:TS:=λ D σ H=>D.nx σ H
def SE(t u:TS):TS:=λ D σ H=>t {D with nx:=u D} σ H
def M3:i5 X [] QN:=λ _ _ σ H _ I h=>Xv ⟨σ,H,I,h⟩
def Jc(h1:PS X st t)(h2:i5 X rest u):i5 X (st::rest) (SE t u):=by
 intro pins s σ H D I h;refine wpAny_execs_cons (cw (h1 pins s σ H {D with nx:=u D} I h) λ f s1 q=>?_);cases f with
 |next=>
  obtain⟨σ',H',I',q⟩:=q;exact h2 pins s1 σ' H' D I' q
 |ret v=>exact q
 |brk=>exact q
 |cont=>exact q
def Nn(h1:PS X st t):i5 X [st] t:=by
 intro pins s σ H D I h;refine wpAny_execs_cons (cw (h1 pins s σ H D I h) λ f s1 q=>?_);cases f with
 |next=>exact Xv q
 |ret v=>exact q
 |brk=>exact q
 |cont=>exact q
def Inv.quiet{pins:List (Addr×Obj)}{σ:St}{H:Hp}{s:Shared}(I:Inv X pins σ H s):interactive X.env=false:=by simp[interactive,I.ok.kind]
def Ra(te:TE):TS:=λ D σ H=>te σ H λ _ H1=>D.nx σ H1
def Nm(he:PE X e te)(hs:swapsWith e none pos.line X.env=pure false:=by rfl):PS X (.Expr e pos) (Ra te):=by
 intro pins s σ H D I h;exact wpAny_Expr_any (cw (he pins s σ H _ I h) λ v s1 ⟨x,H1,I1,r1,q1⟩=>⟨σ,H1,I1,q1⟩) I.quiet hs
def Tb(te:TE):TS:=λ D σ H=>te σ H D.rt
def Ql(he:PE X e te):PS X (.Return (some e) pos) (Tb te):=by
 intro pins s σ H D I h;exact wpAny_Return_some (cw (he pins s σ H _ I h) λ v s1 ⟨x,H1,I1,r1,q1⟩=>⟨x,σ,H1,I1,r1,q1⟩)
def Tj(c:TT)(t u:TS):TS:=λ D σ H=>c σ H λ b H1=>if b=true then t D σ H1 else u D σ H1
def Rg{c:Expr}{a b:List Stmt}{tc:TT}(hc:PT X c tc)(ha:i5 X a t)(hb:i5 X b u):PS X (.If c a b pos) (Tj tc t u):=by
 intro pins s σ H D I h;refine wpAny_If (cw (hc pins s σ H _ I h) λ d s1 ⟨H1,I1,q1⟩=>?_);cases d with
 |true=>exact ha pins s1 σ H1 D I1 q1
 |false=>exact hb pins s1 σ H1 D I1 q1
end
abbrev TG:=V->St->Hp->(St->Hp->Prop)->Prop
abbrev Dm:=List V->St->Hp->(St->Hp->Prop)->Prop
def PG(X:Cx)(target:Expr)(t:TG):Prop:=
 ∀(pins:List (Addr×Obj)) (s:Shared) (σ:St) (H:Hp) (v:V) (u:Value) (Q:St->Hp->Prop),Inv X pins σ H s->RelV v u->t v σ H Q->
  wpAny (model X.prog X.w) X.A (assign target X.env u) (λ _ s'=>∃σ' H',Inv X pins σ' H' s'/\Q σ' H') X.xe s
def Lm(X:Cx)(ts:List Expr)(t:Dm):Prop:=
 ∀(pins:List (Addr×Obj)) (s:Shared) (σ:St) (H:Hp) (vs:List V) (us:List Value) (Q:St->Hp->Prop),Inv X pins σ H s->Vals vs us->t vs σ H Q->
  wpAny (model X.prog X.w) X.A (assignInOrder ((assignEach ts X.env).map (·.2)) us) (λ _ s'=>∃σ' H',Inv X pins σ' H' s'/\Q σ' H') X.xe s
abbrev Kv:=V->V->V->Hp->(Hp->Prop)->Prop
def Ox(X:Cx)(t:Kv):Prop:=
 ∀(pins:List (Addr×Obj)) (s:Shared) (σ:St) (H:Hp) (o i v:V) (ov iv u:Value) (Q:Hp->Prop),Inv X pins σ H s->RelV o ov->RelV i iv->RelV v u->t o i v H Q->
  wpAny (model X.prog X.w) X.A (setItem ov iv u) (λ _ s'=>∃H',Inv X pins σ H' s'/\Q H') X.xe s
abbrev Ly:=V->V->Hp->VK->Prop
def OQ(X:Cx)(op:Operator)(t:Ly):Prop:=
 ∀(pins:List (Addr×Obj)) (s:Shared) (σ:St) (H:Hp) (x y:V) (v u:Value) (Q:VK),Inv X pins σ H s->RelV x v->RelV y u->t x y H Q->
  wpAny (model X.prog X.w) X.A (inplaceOp op v u) (EP X pins σ Q) X.xe s
section
variable {X:Cx}{pos:Pos}
def nB(i:Nat):TG:=λ v σ H Q=>Q (σ.set i (some v)) H
def zB{i:Nat}{x:Str}(hN:X.N.Nodup)(hi:X.N[i]?=some x)(hx:Loc X.env.scope x)(hf:X.fn x=true\/X.env.scope.names.lookup x=some .local:=by first|exact .inl rfl|exact .inr rfl|assumption):PG X (.Name x pos) (nB i):=by
 intro pins s σ H v u Q I r h;exact wpAny_assign_Name (qp I hN hi hx r (λ s' I'=>⟨_,H,I',h⟩) hf)
def Qo:Dm:=λ vs σ H Q=>vs=[]/\Q σ H
def Fm(t:TG)(u:Dm):Dm:=λ vs σ H Q=>∃v r,vs=v::r/\t v σ H λ σ' H'=>u r σ' H' Q
def LU:Lm X [] Qo:=by
 intro pins s σ H vs us Q I r h;obtain⟨e,h⟩:=h;subst e;cases r;exact assignInOrder_nil ⟨σ,H,I,h⟩
def BS{e:Expr}{es:List Expr}{t:TG}{u:Dm}(h1:PG X e t)(h2:Lm X es u)
 (hs:(assignEach (e::es) X.env).map (·.2)=assign e X.env::(assignEach es X.env).map (·.2):=by rfl):Lm X (e::es) (Fm t u):=by
 intro pins s σ H vs us Q I r h;obtain⟨v,vr,e1,h⟩:=h;subst e1;cases r with
 |cons r rr=>
  rw[hs];refine XT (cw (h1 pins s σ H _ _ _ I r h) λ _ s1 ⟨σ1,H1,I1,q1⟩=>?_);exact h2 pins s1 σ1 H1 _ _ Q I1 rr q1
def ON(K:PySem.W.Frag)(n:Nat)(t:Dm):TG:=λ v σ H Q=>∃a xs,v= .ref a/\j7 K H a xs/\xs.length=n/\t xs σ H Q
def P7{es:List Expr}{k:Nat}{t:Dm}{n:Nat}(hc:X.calm=true)(h:Lm X es t)
 (hn:(assignEach es X.env).length=n:=by rfl) (hst:(assignEach es X.env).findIdx? (·.1)=none:=by rfl):PG X (.Tuple es k pos) (ON X.K n t):=by
 intro pins s σ H v u Q I r hw;obtain⟨a,xs,e1,hq,hl,hw⟩:=hw;subst e1;cases r;obtain⟨av,rv,ht,hz⟩:=I.tuple hq;refine assign_Tuple_tuple (I.ok.hd hc) ht (by simp[hn,<-hl,rv.length]) hst λ h' hx=>?_;have I1:Inv X pins σ H {s with heap:=h'}:=I.kept (t':=s.toks) λ b o e=>hx b o (UR (UA e)) e;exact h pins _ σ H xs _ Q I1 (by simpa using rv) hw
def Cs(to ti:TE)(t:Kv):TG:=λ v σ H Q=>to σ H λ o H1=>ti σ H1 λ i H2=>t o i v H2 λ H3=>Q σ H3
def GH{o i:Expr}{to ti:TE}{t:Kv}(ho:PE X o to)(hi:PE X i ti)(hs:Ox X t)
 (ha:∀v,assign (.Subscript o i pos) X.env v=(do
   let ov <-holding [v] (eval o X.env)
   let iv <-holding [v,ov] (eval i X.env)
   standAt pos
   holding [v,ov,iv] (setItem ov iv v)
   release [v,ov,iv] []):=by intro _;rfl):PG X (.Subscript o i pos) (Cs to ti t):=by
 intro pins s σ H v u Q I r h;rw[ha];refine Uj (WG (cw (ho pins s σ H _ I h) λ ov s1 ⟨x,H1,I1,r1,q1⟩=>?_));refine Uj (WG (cw (hi pins s1 σ H1 _ I1 q1) λ iv s2 ⟨y,H2,I2,r2,q2⟩=>?_));refine Uj (Xn (Uj (WG (cw (hs pins s2 σ H2 x y v ov iv u _ I2 r1 r2 r q2) λ _ s3 ⟨H3,I3,q3⟩=>?_))));exact wpAny_release ⟨σ,H3,I3,q3⟩
def oG(te:TE)(g:TG):TS:=λ D σ H=>te σ H λ x H1=>g x σ H1 D.nx
def C5{tg e:Expr}{te:TE}{g:TG}(he:PE X e te)(hg:PG X tg g)(hs:swapsWithSole [tg] e pos.line X.env=pure false:=by rfl)(hw:swappedStores [tg] e X.env=pure none:=by rfl)
 (h1:(assignEach [tg] X.env).map (·.2)=[assign tg X.env]:=by rfl):PS X (.Assign [tg] e pos) (oG te g):=by
 intro pins s σ H D I h;refine wpAny_Assign_stores (cw (he pins s σ H _ I h) λ v s1 ⟨x,H1,I1,r1,q1⟩=>?_) hs hw;rw[h1];exact cw (hg pins s1 σ H1 x v _ I1 r1 q1) λ _ s2 q=>q
def GR{i:Nat}{x:Str}{e:Expr}{te:TE}{pos':Pos}(hN:X.N.Nodup)(hi:X.N[i]?=some x)(hx:Loc X.env.scope x)(he:PE X e te)(hs:swapsWith e (some (.Name x pos')) pos.line X.env=pure false:=by rfl)(hf:X.fn x=true\/X.env.scope.names.lookup x=some .local:=by first|exact .inl rfl|exact .inr rfl|assumption):
 PS X (.Assign [.Name x pos'] e pos) (oG te (nB i)):=by
 intro pins s σ H D I h;refine wpAny_Assign_Name (cw (he pins s σ H _ I h) λ v s1 ⟨y,H1,I1,r1,q1⟩=>?_) hs;exact qp I1 hN hi hx r1 (λ s2 I2=>⟨_,H1,I2,q1⟩) hf
def NS(i j:Nat)(ta:TA):TS:=λ D σ H=>ta σ H λ vs H1=>∃v w,vs=[v,w]/\D.nx ((σ.set i (some v)).set j (some w)) H1
def Om{i j:Nat}{x y:Str}{a b:Expr}{ta:TA}{px py pt:Pos}{kt k2 pt2}(hc:X.calm=true)(hN:X.N.Nodup)(hi:X.N[i]?=some x)(hj:X.N[j]?=some y)(hij:i≠j)
 (hx:X.env.scope.names.lookup x=some .local) (hy:X.env.scope.names.lookup y=some .local) (ha:PA X [a,b] ta)
 (hw:swappedStores [.Tuple [.Name x px,.Name y py] kt pt] (.Tuple [a,b] k2 pt2) X.env=pure (some [x,y]))
 (hs:swapsWithSole [.Tuple [.Name x px,.Name y py] kt pt] (.Tuple [a,b] k2 pt2) pos.line X.env=pure false:=by rfl):
 PS X (.Assign [.Tuple [.Name x px,.Name y py] kt pt] (.Tuple [a,b] k2 pt2) pos) (NS i j ta):=by
 intro pins s σ H D I h;rw[exec_Assign_arm];refine Uj (Xn ?_);rw[hs];refine Uj (Uw ?_);rw[Up (by decide)];refine Uj (Tuple_ (cw (ha _ pins s σ H _ I h) λ us s1 ⟨vs,H1,I1,r1,q1⟩=>?_));obtain⟨v,w,e1,q1⟩:=q1;subst e1
 obtain⟨u1,u2,rfl,rv,rw'⟩:∃u1 u2,us=[u1,u2]/\RelV v u1/\RelV w u2:=by
  cases r1 with
  |cons p q=>
   cases q with
   |cons p' q'=>
    cases q';exact⟨_,_,rfl,p,p'⟩
 refine Wa ?_ (by show 2<=sizeLine;decide);have I2:Inv X pins σ H1 {s1 with heap:=s1.heap.push {cls:= .type "tuple",data:= .seq [u1,u2].toArray}}:=I1.kept (t':=s1.toks) λ b o e=>Uo _ e;rw[hw];refine Uj (Uw ?_);show wpAny (model X.prog X.w) X.A (do rule "assign.swapped-stores";let items <-unpackItems (.ref s1.heap.objs.size) 2 none;assignInOrder [λ v=>bindName X.env y v,λ v=>bindName X.env x v] items.reverse;pure Flow.next) _ _ _;refine Uj (Xw (Uj (unpackItems_tuple (items:= #[u1,u2]) (I.ok.hd hc) (IsTup.new s1.heap _) λ h' hx'=>?_)));have I3:=I2.kept (h':=h') (t':=s1.toks) λ b o e=>hx' b o (UR (UA e)) e;show wpAny _ _ (assignInOrder [λ v=>bindName X.env y v,λ v=>bindName X.env x v] [u2,u1] >>= λ _=>pure Flow.next) _ _ _;refine Uj (XT (wpAny_bindName (qp I3 hN hj (.inl hy) rw' (λ s2 I4=>?_) (.inr hy))));refine XT (wpAny_bindName (qp I4 hN hi (.inl hx) rv (λ s3 I5=>assignInOrder_nil (Uw ?_)) (.inr hx)));rw[List.set_comm _ _ (Uy hij)]at I5;exact⟨_,H1,I5,q1⟩
def PF(i:Nat)(te:TE)(ti:Ly):TS:=λ D σ H=>∃x,σ[i]?=some (some x)/\te σ H λ y H1=>ti x y H1 λ z H2=>D.nx (σ.set i (some z)) H2
def NW{i:Nat}{x:Str}{e:Expr}{te:TE}{op:Operator}{ti:Ly}{pos':Pos}(hN:X.N.Nodup)(hi:X.N[i]?=some x)(hx:Loc X.env.scope x)(he:PE X e te)(ho:OQ X op ti)(hf:X.fn x=true\/X.env.scope.names.lookup x=some .local:=by first|exact .inl rfl|exact .inr rfl|assumption):
 PS X (.AugAssign (.Name x pos') op e pos) (PF i te ti):=by
 intro pins s σ H D I h;obtain⟨v,e1,h⟩:=h;obtain⟨m,hn,hl⟩:=I.loc;have vis:CO X.env.scope x:=by rcases hx with k|k;exact .inl k;exact .inr (.inl k)
 obtain⟨u,r,l⟩:=hl i x v hi e1 vis;refine wpAny_AugAssign_Name ?_
 have go:wpAny (model X.prog X.w) X.A (eval e X.env) (λ w s₂=>wpAny (model X.prog X.w) X.A (inplaceOp op u w) (λ r s₃=>wpAny (model X.prog X.w) X.A (storeName X.env x r) (λ _=>SP X pins D .next) X.xe s₃) X.xe s₂) X.xe s:=by
  refine cw (he pins s σ H _ I h) λ w s1 ⟨y,H1,I1,r1,q1⟩=>?_;refine cw (ho pins s1 σ H1 v y u w _ I1 r r1 q1) λ z s2 ⟨zv,H2,I2,r2,q2⟩=>?_;exact qp I2 hN hi hx r2 (λ s3 I3=>⟨_,H2,I3,q2⟩) hf
 rcases l with⟨hk,hm⟩|⟨hk,c,hc,hcell⟩
 . exact wpAny_loadName_local I.ok.kind hk hn hm go
 . rcases hk with hk|hk
   . exact wpAny_loadName_cell I.ok.kind hk hc hcell go
   . rcases hx with k|k
     . have:X.env.scope.names.lookup x=some .free:=hk;rw[k]at this;cases this
     . have:X.env.scope.names.lookup x=some .free:=hk;rw[k]at this;cases this
def Qf(f:Int->Int->Int):Ly:=λ x y H Q=>∃i j,x= .int i/\y= .int j/\Q (.int (f i j)) H
def O7:OQ X .Add (Qf λ i j=>i+j):=by
 intro pins s σ H x y v u Q I r1 r2 h;obtain⟨i,j,e1,e2,q⟩:=h;subst e1;subst e2;obtain⟨t,rfl⟩:=r1;obtain⟨t',rfl⟩:=r2;exact iadd_int ⟨.int _,H,I.tok _,⟨_,rfl⟩,q⟩
def Hr(c:TT)(tb:TS):TS:=λ D σ H=>∃W:Nat->St->Hp->Prop,(∃m,W m σ H)/\∀m σ H,W m σ H->
 c σ H λ b H1=>if b=true then∃N:St->Hp->Prop,(∀σ' H',N σ' H'->∃m',m'<m/\W m' σ' H')/\tb {D with nx:=N,ct:=N,bk:=D.nx} σ H1 else D.nx σ H1
def JJ{c:Expr}{body:List Stmt}{tc:TT}{tb:TS}(hp:PassesOwn (model X.prog X.w) X.A X.env X.xe)(hc:PT X c tc)(hb:i5 X body tb):PS X (.While c body [] pos) (Hr tc tb):=by
 intro pins s σ H D I h;obtain⟨W,⟨m0,w0⟩,turn⟩:=h;refine wpAny_While (codeAny_whileLoop (λ n s'=>∃σ' H',Inv X pins σ' H' s'/\W n σ' H') ?_ m0 ⟨σ,H,I,w0⟩);rintro n s1 ⟨σ1,H1,I1,w1⟩;refine Wq hp (cw (hc pins s1 σ1 H1 _ I1 (turn n σ1 H1 w1)) λ b s2 ⟨H2,I2,q2⟩=>?_);cases b with
 |true=>
  obtain⟨N,hN,q2⟩:=q2;rw[Ur rfl];refine Wq hp (cw (hb pins s2 σ1 H2 _ I2 q2) λ f s3 q3=>?_);cases f with
  |next=>
   obtain⟨σ3,H3,I3,n3⟩:=q3;obtain⟨m',hm,w3⟩:=hN σ3 H3 n3;exact⟨m',hm,σ3,H3,I3,w3⟩
  |cont=>
   obtain⟨σ3,H3,I3,n3⟩:=q3;obtain⟨m',hm,w3⟩:=hN σ3 H3 n3;exact⟨m',hm,σ3,H3,I3,w3⟩
  |brk=>exact q3
  |ret v=>exact q3
 |false=>
  rw[Up Vr];exact Xv ⟨σ1,H2,I2,q2⟩
end
structure It where
 go:Nat->Hp->Prop
 qJ:Nat->Hp->V->Hp->Prop
 stop:Nat->Hp->Prop
def mY(X:Cx)(pins:List (Addr×Obj))(H:Hp)(b:Addr):Prop:=
 H b=none/\b≠X.env.locals/\b∉X.fs/\(b∈X.ex\/X.s₀.heap.objs.size<=b)/\(∀x c,X.env.cells.lookup x=some c->c≠b)/\∀p∈X.pn++pins,p.1≠b
def Inv.w4{X:Cx}{pins:List (Addr×Obj)}{σ:St}{H H':Hp}{s:Shared}{b:Addr}(I:Inv X pins σ H s)(hb:s.heap.objs.size<=b)(hn:H' b=none):mY X pins H' b:=by
 refine⟨hn,Wy (UH I.lt hb),I.NO hb,.inr (Um I.sz hb),λ x c e z=>?_,λ p hp z=>?_⟩
 . obtain⟨v,q⟩:=I.cell x c e;exact absurd (UH q.lt (by rw[z];exact hb)) (VB _)
 . exact absurd (UH (UA (I.pin p hp).1) (by rw[z];exact hb)) (VB _)
structure Turn(P:Program)(w:World)(K:PySem.W.Frag)(tg:Expr)(J:It)(fp:List Addr)(it:Addr)(tn:Nat->Heap->Prop):Prop where
 mem:it∈fp
 obj:∀i h,tn i h->∀b∈fp,∃o,h.get? b=some o/\∀v,o.data≠ .cell v
 keep:∀i h h',tn i h->(∀b∈fp,∀o,h.get? b=some o->h'.get? b=some o)->tn i h'
 item:∀(X:Cx),X.prog=P->X.w=w->X.K=K->X.calm=true->∀(i:Nat) (pins:List (Addr×Obj)) (s:Shared) (σ:St) (H:Hp) (E:Value->Shared->Prop),Inv X pins σ H s->(∀b∈fp,mY X pins H b)->tn i s.heap->J.go i H->
  wpAny (model P w) X.A (pyNext (.ref it)) (λ r s1=>∃u,r=some u/\
   wpAny (model P w) X.A (letOwnedTupleGo tg (.ref it) u) (λ _ s2=>∃x H',Inv X pins σ H' s2/\RelV x u/\J.qJ i H x H'/\tn (i+1) s2.heap/\∀b∈fp,H' b=none) E s1) E s
 done:∀(X:Cx),X.prog=P->X.w=w->X.K=K->X.calm=true->∀(i:Nat) (pins:List (Addr×Obj)) (s:Shared) (σ:St) (H:Hp) (E:Value->Shared->Prop),Inv X pins σ H s->(∀b∈fp,mY X pins H b)->tn i s.heap->J.stop i H->
  wpAny (model P w) X.A (pyNext (.ref it)) (λ r s1=>r=none/\Inv X pins σ H s1) E s
 self:∀(A:Around) (i:Nat) (s:Shared) (Q:Value->Shared->Prop) (E:Value->Shared->Prop),tn i s.heap->Q (.ref it) s->wpAny (model P w) A (pyIter (.ref it)) Q E s
abbrev TI:=St->Hp->(It->Hp->Prop)->Prop
def LD(X:Cx)(pins:List (Addr×Obj))(σ:St)(tg:Expr)(R:It->Hp->Prop)(itv:Value)(s2:Shared):Prop:=
 ∃(it:Addr) (fp:List Addr) (tn:Nat->Heap->Prop) (J:It) (H':Hp),itv= .ref it/\Inv X pins σ H' s2/\Turn X.prog X.w X.K tg J fp it tn/\tn 0 s2.heap/\(∀b∈fp,mY X pins H' b)/\R J H'
def PI(X:Cx)(tg iter:Expr)(wi:TI):Prop:=
 ∀(pins:List (Addr×Obj)) (s:Shared) (σ:St) (H:Hp) (R:It->Hp->Prop),Inv X pins σ H s->wi σ H R->
  wpAny (model X.prog X.w) X.A (eval iter X.env) (λ v s1=>wpAny (model X.prog X.w) X.A (pyIter v) (LD X pins σ tg R) X.xe s1) X.xe s
def Bb{M:Model}{A:Around}{E:Value->Shared->Prop}{s:Shared}{tg:Expr}{it:Addr}{u:Value}{o:Obj}{n:String}{vs:Array Value}{Q:Unit->Shared->Prop}(ho:s.heap.get? it=some o)(hc:o.cls= .type n)(hd:o.data= .fields vs)
 (hn: ["enumerate","zip","dict_itemiterator","dict_reverseitemiterator","odict_iterator","itertools.zip_longest","itertools.pairwise"].contains n=false) (hQ:Q () s):wpAny M A (letOwnedTupleGo tg (.ref it) u) Q E s:=by
 unfold letOwnedTupleGo
 cases tg<;>first
  |exact Uw hQ
  |(cases u<;>first
     |exact Uw hQ
     |(refine Uj (wpAny_load ho ?_)
       rw[hc,hd];show wpAny M A (if(["enumerate","zip","dict_itemiterator","dict_reverseitemiterator","odict_iterator","itertools.zip_longest","itertools.pairwise"].contains n&&vs[0]?==some (rawInt _))=true then _ else _) Q E s;rw[Up (by intro h;rw[hn,XO]at h;cases h)];exact Uw hQ))
def PJ(K:PySem.W.Frag)(a:Addr):It:=
 ⟨λ i H=>∃xs x,oE K H a xs/\xs[i]?=some x,λ i H x H'=>H'=H/\∀xs,oE K H a xs->xs[i]?=some x,λ i H=>∃xs,oE K H a xs/\xs.length<=i⟩
def OB(K:PySem.W.Frag)(a:Addr):It:=
 ⟨λ i H=>∃xs x,j7 K H a xs/\xs[i]?=some x,λ i H x H'=>H'=H/\∀xs,j7 K H a xs->xs[i]?=some x,λ i H=>∃xs,j7 K H a xs/\xs.length<=i⟩
def z9(lo:Int)(n:Nat):It:=⟨λ i _=>i<n,λ i H x H'=>H'=H/\x= .int (lo+i),λ i _=>n<=i⟩
def ID{P:Program}{w:World}{K:PySem.W.Frag}{tg:Expr}(a it:Addr):Turn P w K tg (PJ K a) [it] it (λ i h=>h.IsListIter it a i) where
 mem:=by simp
 obj:=λ i h st b hb=>by
  have e:b=it:=by simpa using hb
  subst e;obtain⟨o,e,c,d⟩:=st;exact⟨o,e,λ v z=>by rw[d]at z;cases z⟩
 keep:=λ i h h' st k=>st.at λ o e=>k it (by simp) o e
 item:=by
  intro X hP hw hK hc i pins s σ H E I hf st hg;subst hP hw hK;obtain⟨xs,x,hq,hx⟩:=hg;obtain⟨av,rv,p,hz⟩:=I.list hq;obtain⟨u,hu,ru⟩:=rv.get hx;obtain⟨f0,f1,f2,f3,f4,f5⟩:=hf it (by simp);refine wpAny_pyNext_list_item st p.isList (x:=u) (by simpa using hu) λ h' st' sb=>?_;have I1:Inv X pins σ H {s with heap:=h'}:=I.turned (t':=s.toks) (λ b o hb e=>(sb.2 b hb).trans e) f0 f1 f3 f4 f5;obtain⟨o,e,c,d⟩:=id st';exact⟨u,rfl,Bb (s:={s with heap:=h'}) e c d (by decide) ⟨x,H,I1,ru,⟨rfl,λ ys hy=>by rw[I.Cg hy hq];exact hx⟩,st',λ b hb=>(hf b hb).1⟩⟩
 done:=by
  intro X hP hw hK hc i pins s σ H E I hf st hg;subst hP hw hK;obtain⟨xs,hq,hx⟩:=hg;obtain⟨av,rv,p,hz⟩:=I.list hq;obtain⟨f0,f1,f2,f3,f4,f5⟩:=hf it (by simp);have hl:=rv.length;exact wpAny_pyNext_list_end (I.ok.hd hc) st p.isList (by simp;omega) λ h' eb=>⟨rfl,I.turned (t':=s.toks) (λ b o hb e=>eb b o hb e) f0 f1 f3 f4 f5⟩
 self:=λ _ _ _ _ _ st h=>wpAny_pyIter_listiter st h
def Fo{P:Program}{w:World}{K:PySem.W.Frag}{tg:Expr}(a it:Addr):Turn P w K tg (OB K a) [it] it (λ i h=>h.IsTupleIter it a i) where
 mem:=by simp
 obj:=λ i h st b hb=>by
  have e:b=it:=by simpa using hb
  subst e;obtain⟨o,e,c,d⟩:=st;exact⟨o,e,λ v z=>by rw[d]at z;cases z⟩
 keep:=λ i h h' st k=>st.at λ o e=>k it (by simp) o e
 item:=by
  intro X hP hw hK hc i pins s σ H E I hf st hg;subst hP hw hK;obtain⟨xs,x,hq,hx⟩:=hg;obtain⟨av,rv,p,hz⟩:=I.tuple hq;obtain⟨u,hu,ru⟩:=rv.get hx;obtain⟨f0,f1,f2,f3,f4,f5⟩:=hf it (by simp);refine wpAny_pyNext_tuple_item st (show s.heap.IsTuple a av.toArray from p) (x:=u) (by simpa using hu) λ h' st' sb=>?_;have I1:Inv X pins σ H {s with heap:=h'}:=I.turned (t':=s.toks) (λ b o hb e=>(sb.2 b hb).trans e) f0 f1 f3 f4 f5;obtain⟨o,e,c,d⟩:=id st';exact⟨u,rfl,Bb (s:={s with heap:=h'}) e c d (by decide) ⟨x,H,I1,ru,⟨rfl,λ ys hy=>by rw[I.AK hy hq];exact hx⟩,st',λ b hb=>(hf b hb).1⟩⟩
 done:=by
  intro X hP hw hK hc i pins s σ H E I hf st hg;subst hP hw hK;obtain⟨xs,hq,hx⟩:=hg;obtain⟨av,rv,p,hz⟩:=I.tuple hq;obtain⟨f0,f1,f2,f3,f4,f5⟩:=hf it (by simp);have hl:=rv.length;exact wpAny_pyNext_tuple_end (I.ok.hd hc) st (show s.heap.IsTuple a av.toArray from p) (by simp;omega) λ h' eb=>⟨rfl,I.turned (t':=s.toks) (λ b o hb e=>eb b o hb e) f0 f1 f3 f4 f5⟩
 self:=λ _ _ _ _ _ st h=>wpAny_pyIter_tupleiter st h
def Gx{P:Program}{w:World}{K:PySem.W.Frag}{tg:Expr}(it:Addr)(lo:Int)(n:Nat):Turn P w K tg (z9 lo n) [it] it (λ i h=>IsRangeIter h it (lo+(i:Nat)*1) ((n:Int)-(i:Nat)) 1) where
 mem:=by simp
 obj:=λ i h st b hb=>by
  have e:b=it:=by simpa using hb
  subst e
  exact⟨_,st,λ v z=>by
   have z':Data.fields _=Data.cell v:=z;cases z'⟩
 keep:=λ i h h' st k=>k it (by simp) _ st
 item:=by
  intro X hP hw hK hc i pins s σ H E I hf st hg;subst hP hw hK;obtain⟨f0,f1,f2,f3,f4,f5⟩:=hf it (by simp);have W:=Walks.range (prog:=X.prog) (w:=X.w) (I.ok.hd hc) it lo 1 n;refine W.item i s _ _ hg st λ v h' tk hv st' kk=>?_;obtain⟨t,rfl⟩:=hv;have I1:Inv X pins σ H {s with heap:=h',toks:=tk}:=I.turned (λ b o hb e=>kk b o (by simpa using hb) e) f0 f1 f3 f4 f5;refine⟨_,rfl,Bb (s:={s with heap:=h',toks:=tk}) (n:="range_iterator") st' rfl rfl (by decide) ⟨.int (lo+i),H,I1,⟨t,?_⟩,⟨rfl,rfl⟩,st',λ b hb=>(hf b hb).1⟩⟩;rw[Int.mul_one]
 done:=by
  intro X hP hw hK hc i pins s σ H E I hf st hg;subst hP hw hK;obtain⟨f0,f1,f2,f3,f4,f5⟩:=hf it (by simp);exact YI (I.ok.hd hc) st (by have:n<=i:=hg;omega) λ h' eb=>⟨rfl,I.turned (t':=s.toks) (λ b o hb e=>eb b o hb e) f0 f1 f3 f4 f5⟩
 self:=λ _ _ _ _ _ st h=>YJ st h
section
variable {X:Cx}{tg:Expr}
def Du{pins:List (Addr×Obj)}{σ:St}{H:Hp}{s:Shared}{R:It->Hp->Prop}{E:Value->Shared->Prop}{lo hi:Int}{t u v:Tok}{tk:Nat}(I:Inv X pins σ H s)(h1: -(2^62)<=lo)(h2:lo<2^62)(h3: -(2^62)<=hi)(h4:hi<2^62)
 (q:R (z9 lo (hi-lo).toNat) H):wpAny (model X.prog X.w) X.A (pyIter (.ref s.heap.objs.size)) (LD X pins σ tg R) E {s with heap:=s.heap.push {cls:= .type "range",data:= .fields #[.int lo t,.int hi u,.int 1 v]},toks:=tk}:=by
 refine wpAny_pyIter_range (IsRange.new ..) (small_one h1 h2 h3 h4) ?_;have I1:Inv X pins σ H {s with heap:=s.heap.push {cls:= .type "range",data:= .fields #[.int lo t,.int hi u,.int 1 v]},toks:=tk}:=I.kept λ b o e=>Uo _ e
 refine⟨(s.heap.push {cls:= .type "range",data:= .fields #[.int lo t,.int hi u,.int 1 v]}).objs.size,[(s.heap.push {cls:= .type "range",data:= .fields #[.int lo t,.int hi u,.int 1 v]}).objs.size],_,_,H,rfl,
  I1.kept (t':=tk) λ b o e=>Uo _ e,Gx _ lo (hi-lo).toNat,?_,λ b hb=>?_,q⟩
 . have e1:lo+((0:Nat):Int)*1=lo:=by simp
   have e2:(((hi-lo).toNat:Nat):Int)-((0:Nat):Int)=Builtin.Range.rangeSize lo hi 1:=by rw[rangeSize_one];split<;>omega
   show IsRangeIter _ _ (lo+((0:Nat):Int)*1) ((((hi-lo).toNat:Nat):Int)-((0:Nat):Int)) 1;rw[e1,e2];exact UN _ rfl
 . have e:b=(s.heap.push {cls:= .type "range",data:= .fields #[.int lo t,.int hi u,.int 1 v]}).objs.size:=by simpa using hb
   subst e;exact I1.w4 (Uk _) (I1.aO.fresh (Uk _))
def Fj(ta:TA):TI:=λ σ H R=>ta σ H λ vs H1=>∃j:Int,vs=[.int j]/\ -(2^62)<=j/\j<2^62/\R (z9 0 j.toNat) H1
def FU(ta:TA):TI:=λ σ H R=>ta σ H λ vs H1=>∃i j:Int,vs=[.int i,.int j]/\(-(2^62)<=i/\i<2^62/\ -(2^62)<=j/\j<2^62)/\R (z9 i (j-i).toNat) H1
def Hq{a:Expr}{ta:TA}{p pos:Pos}(hg:Gl X "range")(hm:X.mg "range"=none)(ha:PA X [a] ta)(hs:starEach [a] X.env=[(false,eval a X.env)]:=by rfl):PI X tg (.Call (.Name "range" p) [a] [] pos) (Fj ta):=by
 intro pins s σ H R I h;refine Call_ (mn I hg hm boot_range (VF (cw (ha pos pins s σ H _ I h) λ us s1 ⟨vs,H1,I1,r1,q1⟩=>?_) hs rfl));obtain⟨j,e,q1,q2,q⟩:=q1;subst e;cases r1 with
 |cons r rr=>
  cases rr;obtain⟨t,rfl⟩:=r;exact call_range_1 (Du I1 (by omega) (by omega) q1 q2 (by simpa using q))
def GC{a b:Expr}{ta:TA}{p pos:Pos}(hg:Gl X "range")(hm:X.mg "range"=none)(ha:PA X [a,b] ta)(hs:starEach [a,b] X.env=[(false,eval a X.env),(false,eval b X.env)]:=by rfl)(hs2:starEach [b] X.env=[(false,eval b X.env)]:=by rfl):
 PI X tg (.Call (.Name "range" p) [a,b] [] pos) (FU ta):=by
 intro pins s σ H R I h;refine Call_ (mn I hg hm boot_range (VF (cw (ha pos pins s σ H _ I h) λ us s1 ⟨vs,H1,I1,r1,q1⟩=>?_) (by rw[hs,hs2]) (by rw[hs2];rfl)));obtain⟨i,j,e,⟨q1,q2,q3,q4⟩,q⟩:=q1;subst e;cases r1 with
 |cons r rr=>
  cases rr with
  |cons r' rr=>
   cases rr;obtain⟨t,rfl⟩:=r;obtain⟨t',rfl⟩:=r';exact call_range_2 (Du I1 q1 q2 q3 q4 q)
def OM(wi:TI)(g:TG)(tb:TS):TS:=λ D σ H=>wi σ H λ J H1=>∃W:Nat->Nat->St->Hp->Prop,(∃m,W 0 m σ H1)/\∀i m σ H,W i m σ H->
 (J.stop i H/\D.nx σ H)\/(J.go i H/\∃N:St->Hp->Prop,(∀σ' H',N σ' H'->∃m',m'<m/\W (i+1) m' σ' H')/\∀x H',J.qJ i H x H'->g x σ H' λ σ2 H2=>tb {D with nx:=N,ct:=N,bk:=D.nx} σ2 H2)
def vw(fp:List Addr)(h:Heap):List (Addr×Obj):=fp.filterMap λ b=>(h.get? b).map λ o=>(b,o)
def o5{fp:List Addr}{h:Heap}{b:Addr}{o:Obj}(hb:b∈fp)(e:h.get? b=some o):(b,o)∈vw fp h:=W4.mpr ⟨b,hb,by rw[e];rfl⟩
def HX{fp:List Addr}{h:Heap}{p:Addr×Obj}(hp:p∈vw fp h):p.1∈fp/\h.get? p.1=some p.2:=by
 obtain⟨b,hb,e⟩:=W4.mp hp;cases q:h.get? b with
 |none=>rw[q]at e;cases e
 |some o=>
  rw[q]at e;have e':(b,o)=p:=Vk e;subst e';exact⟨hb,q⟩
def Inv.pinned{pins:List (Addr×Obj)}{σ:St}{H:Hp}{s:Shared}{fp:List Addr}(I:Inv X pins σ H s)(hf:∀b∈fp,mY X pins H b)(ho:∀b∈fp,∃o,s.heap.get? b=some o/\∀v,o.data≠ .cell v):Inv X (pins++vw fp s.heap) σ H s:=
 I.vQ λ p hp=>(Vf.mp hp).elim (λ z=>I.pin p (UM _ z)) λ z=>by
  obtain⟨hb,e⟩:=HX z;obtain⟨f0,f1,f2,_⟩:=hf p.1 hb;obtain⟨o,e',d⟩:=ho p.1 hb;rw[e]at e';cases e';exact⟨e,f0,f1,f2,d⟩
def Inv.i9{pins pl:List (Addr×Obj)}{σ:St}{H:Hp}{s:Shared}(I:Inv X (pins++pl) σ H s):Inv X pins σ H s:=I.vQ λ p hp=>I.pin p (UM _ (Vp _ hp))
def Oi{iter:Expr}{body:List Stmt}{wi:TI}{g:TG}{tb:TS}{pos:Pos}(hp:PassesOwn (model X.prog X.w) X.A X.env X.xe)(hc:X.calm=true)(hi:PI X tg iter wi)(hg:PG X tg g)(hb:i5 X body tb)
 (hs:∀x,foldedSetIterable iter X.env x=pure x:=by intro _;rfl):PS X (.For tg iter body [] pos) (OM wi g tb):=by
 intro pins s σ H D I h;refine wpAny_For (cw (hi pins s σ H _ I h) λ v s1 h1=>cw h1 λ itv s2 h2=>?_) hs;obtain⟨it,fp,tn,J,H2,e,I2,T,st2,f2,W,⟨m0,w0⟩,turn⟩:=h2;subst e;have stat:∀ {H':Hp},(∀b∈fp,H' b=none)->∀b∈fp,mY X pins H' b:=λ hn b hb=>⟨hn b hb,(f2 b hb).2⟩
 refine codeAny_forLoop_any (λ n s'=>∃i σ' H',Inv X pins σ' H' s'/\tn i s'.heap/\(∀b∈fp,H' b=none)/\W i n σ' H') ?_ m0 ⟨0,σ,H2,I2,st2,λ b hb=>(f2 b hb).1,w0⟩;rintro n s3 ⟨i,σ3,H3,I3,st3,fr3,w3⟩;rcases turn i n σ3 H3 w3 with⟨stop,qn⟩|⟨go,N,hN,step⟩
 . refine Wq hp (cw (T.done X rfl rfl rfl hc i pins s3 σ3 H3 X.xe I3 (stat fr3) st3 stop) λ r s4 ⟨hr,I4⟩=>?_);subst hr;exact Xv ⟨σ3,H3,I4,qn⟩
 . refine Wq hp (cw (T.item X rfl rfl rfl hc i pins s3 σ3 H3 X.xe I3 (stat fr3) st3 go) λ r s4 ⟨u,hr,h4⟩=>?_);subst hr;refine Wq hp (cw h4 λ _ s5 ⟨x,H5,I5,r5,y5,st5,fr5⟩=>?_);have I5':=I5.pinned (stat fr5) (T.obj _ _ st5);refine Wq hp (cw (hg _ s5 σ3 H5 x u _ I5' r5 (step x H5 y5)) λ _ s6 ⟨σ6,H6,I6,q6⟩=>?_);refine Wq hp (cw (hb _ s6 σ6 H6 _ I6 q6) λ f s7 q7=>?_)
   have again:∀ {σ7:St} {H7:Hp},Inv X (pins++vw fp s5.heap) σ7 H7 s7->N σ7 H7->∃m,m<n/\∃i σ' H',Inv X pins σ' H' s7/\tn i s7.heap/\(∀b∈fp,H' b=none)/\W i m σ' H':=λ{σ7 H7} I7 n7=>by
    obtain⟨m',hm,w7⟩:=hN σ7 H7 n7;refine⟨m',hm,i+1,σ7,H7,I7.i9,T.keep _ _ _ st5 λ b hb o e=>(I7.pin (b,o) (UM _ (UM _ (o5 hb e)))).1,λ b hb=>?_,w7⟩;obtain⟨o,e,d⟩:=T.obj _ _ st5 b hb;exact(I7.pin (b,o) (UM _ (UM _ (o5 hb e)))).2.1
   cases f with
   |next=>obtain⟨σ7,H7,I7,n7⟩:=q7;exact again I7 n7
   |cont=>obtain⟨σ7,H7,I7,n7⟩:=q7;exact again I7 n7
   |brk=>obtain⟨σ7,H7,I7,q7⟩:=q7;exact⟨σ7,H7,I7.i9,q7⟩
   |ret v=>obtain⟨x7,σ7,H7,I7,r7,q7⟩:=q7;exact⟨x7,σ7,H7,I7.i9,r7,q7⟩
end
def lQ{lo:Int}{n:Nat}{g:TG}{tb:TS}{D:Ends}{σ:St}{H:Hp}(Pv:Nat->St->Hp->Prop)(h0:Pv 0 σ H)
 (hs:∀i σ H,i<n->Pv i σ H->g (.int (lo+i)) σ H λ σ2 H2=>tb {D with nx:=Pv (i+1),ct:=Pv (i+1),bk:=D.nx} σ2 H2) (hd:∀σ H,Pv n σ H->D.nx σ H):
 ∃W:Nat->Nat->St->Hp->Prop,(∃m,W 0 m σ H)/\∀i m σ H,W i m σ H->
  ((z9 lo n).stop i H/\D.nx σ H)\/((z9 lo n).go i H/\∃N:St->Hp->Prop,(∀σ' H',N σ' H'->∃m',m'<m/\W (i+1) m' σ' H')/\∀x H',(z9 lo n).qJ i H x H'->g x σ H' λ σ2 H2=>tb {D with nx:=N,ct:=N,bk:=D.nx} σ2 H2):=by
 refine⟨λ i m σ H=>m=n-i/\i<=n/\Pv i σ H,⟨n,by simp,US _,h0⟩,?_⟩;rintro i m σ H ⟨rfl,hi,p⟩;by_cases hlt:i<n
 . refine .inr ⟨hlt,Pv (i+1),λ σ' H' p'=>⟨n-(i+1),by omega,rfl,hlt,p'⟩,λ x H' y=>?_⟩;obtain⟨e,y⟩:=y;subst e y;exact hs i σ _ hlt p
 . have e:i=n:=by omega
   subst e;exact .inl ⟨Uk _,hd σ H p⟩
abbrev R2:=V->V->Hp->VK->Prop
def ck(X:Cx)(f:Value->Value->Sem Value)(r:R2):Prop:=
 ∀(pins:List (Addr×Obj)) (s:Shared) (σ:St) (H:Hp) (x y:V) (v u:Value) (Q:VK),Inv X pins σ H s->RelV x v->RelV y u->r x y H Q->
  wpAny (model X.prog X.w) X.A (f v u) (EP X pins σ Q) X.xe s
def El(X:Cx)(f:Value->Sem Value)(r:V->Hp->VK->Prop):Prop:=
 ∀(pins:List (Addr×Obj)) (s:Shared) (σ:St) (H:Hp) (x:V) (v:Value) (Q:VK),Inv X pins σ H s->RelV x v->r x H Q->
  wpAny (model X.prog X.w) X.A (f v) (EP X pins σ Q) X.xe s
def cM(X:Cx)(f:Value)(r:List V->Hp->VK->Prop):Prop:=
 ∀(pins:List (Addr×Obj)) (s:Shared) (σ:St) (H:Hp) (xs:List V) (us:List Value) (Q:VK),Inv X pins σ H s->Vals xs us->r xs H Q->
  wpAny (model X.prog X.w) X.A (call f us) (EP X pins σ Q) X.xe s
def Ho(r:R2)(ta tb:TE):TE:=λ σ H Q=>ta σ H λ x H1=>tb σ H1 λ y H2=>r x y H2 Q
def Sj(r:V->Hp->VK->Prop)(ta:TE):TE:=λ σ H Q=>ta σ H λ x H1=>r x H1 Q
def rI(C:Int->Int->Prop)(g:Int->Int->V):R2:=λ x y H Q=>∃i j,x= .int i/\y= .int j/\C i j/\Q (g i j) H
def yC(g:Int->Int->V):R2:=λ x y H Q=>∃i j,x= .int i/\y= .int j/\Q (g i j) H
def rU(g:Int->V):V->Hp->VK->Prop:=λ x H Q=>∃i,x= .int i/\Q (g i) H
section
variable {X:Cx}{a b c:Expr}{ta tb tc:TE}{pos:Pos}
def Jz(ha:PE X a ta)(hb:PE X b tb){pins:List (Addr×Obj)}{s:Shared}{σ:St}{H:Hp}{R:V->V->Hp->Prop}(I:Inv X pins σ H s)
 (h:ta σ H λ x H1=>tb σ H1 λ y H2=>R x y H2) {Q:Value->Shared->Prop} {f:Value->Value->Sem Value}
 (hf:∀v u s2 x y H2,Inv X pins σ H2 s2->RelV x v->RelV y u->R x y H2->wpAny (model X.prog X.w) X.A (f v u) Q X.xe s2):
 wpAny (model X.prog X.w) X.A (eval a X.env) (λ v s₁=>wpAny (model X.prog X.w) X.A (eval b X.env) (λ u s₂=>wpAny (model X.prog X.w) X.A (f v u) Q X.xe s₂) X.xe s₁) X.xe s:=by
 refine cw (ha pins s σ H _ I h) λ v s1 ⟨x,H1,I1,r1,q1⟩=>?_;refine cw (hb pins s1 σ H1 _ I1 q1) λ u s2 ⟨y,H2,I2,r2,q2⟩=>?_;exact hf v u s2 x y H2 I2 r1 r2 q2
def RJ{op:Operator}{r:R2}(ho:ck X (binaryOp op) r)(ha:PE X a ta)(hb:PE X b tb):PE X (.BinOp a op b pos) (Ho r ta tb):=by
 intro pins s σ H Q I h;exact wpAny_BinOp (Jz ha hb I h λ v u s2 x y H2 I2 rx ry q=>ho pins s2 σ H2 x y v u Q I2 rx ry q)
def Rq{op:UnaryOp}{r:V->Hp->VK->Prop}(ho:El X (unaryOp op) r)(ha:PE X a ta):PE X (.UnaryOp op a pos) (Sj r ta):=by
 intro pins s σ H Q I h;exact UnaryOp_ (cw (ha pins s σ H _ I h) λ v s1 ⟨x,H1,I1,r1,q1⟩=>ho pins s1 σ H1 x v Q I1 r1 q1)
def Lz{f:Value->Value->Sem Value}{C:Int->Int->Prop}{g:Int->Int->Int}
 (rule:∀(i j:Int) (t u:Tok) (s:Shared) (Q:Value->Shared->Prop) (E:Value->Shared->Prop),C i j->Q (.int (g i j) s.toks) {s with toks:=s.toks+1}->wpAny (model X.prog X.w) X.A (f (.int i t) (.int j u)) Q E s):
 ck X f (rI C λ i j=> .int (g i j)):=by
 intro pins s σ H x y v u Q I rx ry h;obtain⟨i,j,rfl,rfl,hc,q⟩:=h;obtain⟨t,rfl⟩:=rx;obtain⟨t',rfl⟩:=ry;exact rule i j t t' s _ _ hc ⟨.int (g i j),H,I.tok _,⟨_,rfl⟩,q⟩
def P8{f:Value->Value->Sem Value}{g:Int->Int->Int}
 (rule:∀(i j:Int) (t u:Tok) (s:Shared) (Q:Value->Shared->Prop) (E:Value->Shared->Prop),Q (.int (g i j) s.toks) {s with toks:=s.toks+1}->wpAny (model X.prog X.w) X.A (f (.int i t) (.int j u)) Q E s):
 ck X f (yC λ i j=> .int (g i j)):=by
 intro pins s σ H x y v u Q I rx ry h;obtain⟨i,j,rfl,rfl,q⟩:=h;obtain⟨t,rfl⟩:=rx;obtain⟨t',rfl⟩:=ry;exact rule i j t t' s _ _ ⟨.int (g i j),H,I.tok _,⟨_,rfl⟩,q⟩
def FP{f:Value->Value->Sem Value}{g:Int->Int->Bool}
 (rule:∀(i j:Int) (t u:Tok) (s:Shared) (Q:Value->Shared->Prop) (E:Value->Shared->Prop),Q (.bool (g i j)) s->wpAny (model X.prog X.w) X.A (f (.int i t) (.int j u)) Q E s):
 ck X f (yC λ i j=> .bl (g i j)):=by
 intro pins s σ H x y v u Q I rx ry h;obtain⟨i,j,rfl,rfl,q⟩:=h;obtain⟨t,rfl⟩:=rx;obtain⟨t',rfl⟩:=ry;exact rule i j t t' s _ _ ⟨.bl (g i j),H,I,rfl,q⟩
def JU(i j:Int):Prop:=0<=j/\j<=1000000/\i.natAbs<2^64
def OJ:ck X (binaryOp .Add) (yC λ i j=> .int (i+j)):=P8 λ _ _ _ _ _ _ _ q=>add_int q
def Ol:ck X (binaryOp .Sub) (yC λ i j=> .int (i-j)):=P8 λ _ _ _ _ _ _ _ q=>sub_int q
def LY:ck X (binaryOp .Mod) (rI (λ _ j=>j≠0) λ i j=> .int (i.fmod j)):=Lz λ _ _ _ _ _ _ _ hc q=>mod_int' hc q
def NG:ck X (binaryOp .Pow) (rI JU λ i j=> .int (i^j.toNat)):=Lz λ _ _ _ _ _ _ _ hc q=>pow_int_small hc.1 hc.2.1 hc.2.2 q
def TK{f:Value->Sem Value}{g:Int->Int}
 (rule:∀(i:Int) (t:Tok) (s:Shared) (Q:Value->Shared->Prop) (E:Value->Shared->Prop),Q (.int (g i) s.toks) {s with toks:=s.toks+1}->wpAny (model X.prog X.w) X.A (f (.int i t)) Q E s):
 El X f (rU λ i=> .int (g i)):=by
 intro pins s σ H x v Q I rx h;obtain⟨i,rfl,q⟩:=h;obtain⟨t,rfl⟩:=rx;exact rule i t s _ _ ⟨.int (g i),H,I.tok _,⟨_,rfl⟩,q⟩
def OG:El X (unaryOp .USub) (rU λ i=> .int (-i)):=TK λ _ _ _ _ _ q=>neg_int q
end
def Tq:V->V->Bool
 | .aD,.aD=>true| .aD,.int _=>true| .int _,.aD=>true| .aD,.bl _=>true| .bl _,.aD=>true| .aD,.str _=>true| .str _,.aD=>true
 | .int _,.int _=>true| .bl _,.bl _=>true| .str _,.str _=>true| .wA _,.wA _=>true
 | .int _,.str _=>true| .str _,.int _=>true| .bl _,.str _=>true| .str _,.bl _=>true
 |_,_=>false
def TL:R2:=λ x y H Q=>Tq x y=true/\Q (.bl (!decide (x=y))) H
def Mo{i j:Int}:decide (V.int i=V.int j)=(i==j):=by
 rw[Xx];simp
def Qc{i j:Bool}:decide (V.bl i=V.bl j)=(i==j):=by
 rw[Xx];simp
def MX{i j:Str}:decide (V.str i=V.str j)=(i==j):=by
 rw[Xx];simp
def Nf{i j:Array UInt8}:decide (V.wA i=V.wA j)=(i.toList==j.toList):=by
 rw[Xx];cases i;cases j;simp
section
variable {X:Cx}{a b c:Expr}{ta tb tc:TE}{pos:Pos}
def fL{pins:List (Addr×Obj)}{σ:St}{H:Hp}{s:Shared}{Q:VK}{k k':Bool}(I:Inv X pins σ H s)(q:Q (.bl k) H)(e:k=k'):EP X pins σ Q (.bool k') s:=by
 subst e;exact⟨.bl k,H,I,rfl,q⟩
def Rp:ck X (compareOp .NotEq) TL:=by
 intro pins s σ H x y v u Q I rx ry h;obtain⟨hs,q⟩:=h;cases x with
 |aD=>
  cases rx;cases y with
  |aD=>cases ry;exact PySem.EqNone.ne_none_none (fL I q (by simp))
  |bl j=>cases ry;exact PySem.EqNone.ne_none_bool (fL I q (by simp))
  |int j=>obtain⟨t',rfl⟩:=ry;exact PySem.EqNone.ne_none_int (fL I q (by simp))
  |str j=>obtain⟨t',rfl⟩:=ry;exact PySem.EqNone.ne_none_str (fL I q (by simp))
  |_=>exact absurd (show false=true from hs) Vr
 |bl i=>
  cases rx;cases y with
  |aD=>cases ry;exact PySem.EqNone.ne_bool_none (fL I q (by simp))
  |bl j=>cases ry;exact ne_bool (fL I q (VU not Qc))
  |str j=>obtain⟨t',rfl⟩:=ry;exact PySem.EqMixed.ne_bool_str (fL I q (by simp))
  |_=>exact absurd (show false=true from hs) Vr
 |int i=>
  obtain⟨t,rfl⟩:=rx;cases y with
  |aD=>cases ry;exact PySem.EqNone.ne_int_none (fL I q (by simp))
  |int j=>obtain⟨t',rfl⟩:=ry;exact ne_int (fL I q (VU not Mo))
  |str j=>obtain⟨t',rfl⟩:=ry;exact PySem.EqMixed.ne_int_str (fL I q (by simp))
  |_=>exact absurd (show false=true from hs) Vr
 |str i=>
  obtain⟨t,rfl⟩:=rx;cases y with
  |aD=>cases ry;exact PySem.EqNone.ne_str_none (fL I q (by simp))
  |bl j=>cases ry;exact PySem.EqMixed.ne_str_bool (fL I q (by simp))
  |int j=>obtain⟨t',rfl⟩:=ry;exact PySem.EqMixed.ne_str_int (fL I q (by simp))
  |str j=>obtain⟨t',rfl⟩:=ry;exact ne_str (fL I q (VU not MX))
  |_=>exact absurd (show false=true from hs) Vr
 |wA i=>
  obtain⟨t,rfl⟩:=rx;cases y with
  |wA j=>obtain⟨t',rfl⟩:=ry;exact PySem.W.ne_bytes (fL I q (VU not Nf))
  |_=>exact absurd (show false=true from hs) Vr
 |_=>cases y<;>exact absurd (show false=true from hs) Vr
def Qs:ck X (compareOp .Lt) (yC λ i j=> .bl (decide (i<j))):=FP λ _ _ _ _ _ _ _ q=>lt_int q
def Q7:ck X (compareOp .LtE) (yC λ i j=> .bl (decide (i<=j))):=FP λ _ _ _ _ _ _ _ q=>le_int q
def Qv:ck X (compareOp .Gt) (yC λ i j=> .bl (decide (j<i))):=FP λ _ _ _ _ _ _ _ q=>gt_int q
def QZ:ck X (compareOp .GtE) (yC λ i j=> .bl (decide (j<=i))):=FP λ _ _ _ _ _ _ _ q=>ge_int q
def PV:ck X (compareOp .Is) (λ x y H Q=>y= .aD/\Q (.bl (decide (x= .aD))) H):=by
 intro pins s σ H x y v u Q I rx ry h;obtain⟨rfl,q⟩:=h;cases ry;refine is_none_gen (fL I q ?_)
 cases x<;>first
  |(cases rx;rfl)
  |(obtain⟨t,rfl⟩:=rx;rfl)
def L4:ck X (compareOp .IsNot) (λ x y H Q=>y= .aD/\Q (.bl (!decide (x= .aD))) H):=by
 intro pins s σ H x y v u Q I rx ry h;obtain⟨rfl,q⟩:=h;cases ry;refine isnot_none_gen (fL I q ?_)
 cases x<;>first
  |(cases rx;rfl)
  |(obtain⟨t,rfl⟩:=rx;rfl)
def bH(b:Expr){op:CmpOp}(h:op≠ .In:=by decide)(h2:op≠ .NotIn:=by decide):behindInMarks op b=false:=by
 have e1:(op==CmpOp.In)=false:=by cases op<;>first|rfl|exact absurd rfl h
 have e2:(op==CmpOp.NotIn)=false:=by cases op<;>first|rfl|exact absurd rfl h2
 cases b<;>simp[behindInMarks,e1,e2]
def M6{op:CmpOp}{r:R2}(ho:ck X (compareOp op) r)(ha:PE X a ta)(hb:PE X b tb)(hm:behindInMarks op b=false):PE X (.Compare a [op] [b] pos) (Ho r ta tb):=by
 intro pins s σ H Q I h;exact wpAny_Compare1 (Jz ha hb I h λ v u s2 x y H2 I2 rx ry q=>ho pins s2 σ H2 x y v u Q I2 rx ry q) hm
def Q1(t:TE):TT:=λ σ H Q=>t σ H λ x H'=>∃k,x= .bl k/\Q k H'
def NC{op:CmpOp}{r:R2}(ho:ck X (compareOp op) r)(ha:PE X a ta)(hb:PE X b tb)(hm:behindInMarks op b=false):PT X (.Compare a [op] [b] pos) (Q1 (Ho r ta tb)):=by
 intro pins s σ H Q I h
 refine wpAny_isTrue_Compare1 (cw (ha pins s σ H _ I h) λ v s1 ⟨x,H1,I1,r1,q1⟩=>cw (hb pins s1 σ H1 _ I1 q1) λ u s2 ⟨y,H2,I2,r2,q2⟩=>
  cw (ho pins s2 σ H2 x y v u _ I2 r1 r2 q2) λ c s3 ⟨z,H3,I3,r3,k,e,q3⟩=>?_) hm
 subst e;cases r3;exact V_ ⟨H3,I3,q3⟩
def IC(r r':R2)(ta tb tc:TE):TE:=λ σ H Q=>ta σ H λ x H1=>tb σ H1 λ y H2=>r x y H2 λ z H3=>∃k,z= .bl k/\
 (if k=true then tc σ H3 λ w' H4=>r' y w' H4 Q else Q (.bl false) H3)
def JY{op op':CmpOp}{r r':R2}(ho:ck X (compareOp op) r)(ho':ck X (compareOp op') r')(ha:PE X a ta)(hb:PE X b tb)(hc:PE X c tc)
 (hm:lastMarks [op,op'] [b,c]=false:=by with_unfolding_all rfl):PE X (.Compare a [op,op'] [b,c] pos) (IC r r' ta tb tc):=by
 intro pins s σ H Q I h
 refine Compare_chain (cw (ha pins s σ H _ I h) λ v s1 ⟨x,H1,I1,r1,q1⟩=>chain_link (cw (hb pins s1 σ H1 _ I1 q1) λ u s2 ⟨y,H2,I2,r2,q2⟩=>
  cw (ho pins s2 σ H2 x y v u _ I2 r1 r2 q2) λ d s3 ⟨z,H3,I3,r3,k,e,q3⟩=>?_)) hm
 subst e;cases r3;refine V_ ?_;cases k with
 |false=>exact ite_ff ⟨.bl false,H3,I3,rfl,q3⟩
 |true=>exact ite_tt (chain_last (cw (hc pins s3 σ H3 _ I3 q3) λ w' s4 ⟨z',H4,I4,r4,q4⟩=>ho' pins s4 σ H4 y z' u w' Q I4 r2 r4 q4))
def uY:(sizeLine:Nat)<2^63:=by rw[V5];decide
def Gh:ck X (binaryOp .Add) (λ x y H Q=>∃i j,x= .str i/\y= .str j/\i.length+j.length<=sizeLine/\Q (.str (i++j)) H):=by
 intro pins s σ H x y v u Q I rx ry h;obtain⟨i,j,rfl,rfl,hz,q⟩:=h;obtain⟨t,rfl⟩:=rx;obtain⟨t',rfl⟩:=ry;exact add_str (λ t' tk=>⟨.str (i++j),H,I.tok _,⟨_,rfl⟩,q⟩) hz
def vals1{x:V}{us:List Value}(r:Vals [x] us):∃u,us=[u]/\RelV x u:=by
 cases r with
 |cons r1 r2=>cases r2;exact⟨_,rfl,r1⟩
def vals2{x y:V}{us:List Value}(r:Vals [x,y] us):∃u w',us=[u,w']/\RelV x u/\RelV y w':=by
 cases r with
 |cons r1 r2=>
  cases r2 with
  |cons r3 r4=>cases r4;exact⟨_,_,rfl,r1,r3⟩
def Jn:cM X (.builtin "abs") (λ xs H Q=>∃i,xs=[.int i]/\Q (.int (if i<0 then-i else i)) H):=by
 intro pins s σ H xs us Q I r h;obtain⟨i,rfl,q⟩:=h;obtain⟨u,rfl,t,rfl⟩:=vals1 r;exact call_abs_int λ u tk=>⟨.int (if i<0 then-i else i),H,I.tok _,⟨_,rfl⟩,q⟩
def GL:cM X (.type "int") (λ xs H Q=>(∃i,xs=[.int i]/\Q (.int i) H)\/∃k,xs=[.bl k]/\Q (.int (if k then 1 else 0)) H):=by
 intro pins s σ H xs us Q I r h;rcases h with⟨i,rfl,q⟩|⟨k,rfl,q⟩
 . obtain⟨u,rfl,t,rfl⟩:=vals1 r;exact call_int_int ⟨.int i,H,I,⟨_,rfl⟩,q⟩
 . obtain⟨u,rfl,r1⟩:=vals1 r;cases r1;exact call_int_bool ⟨.int (if k then 1 else 0),H,I.tok _,⟨_,rfl⟩,q⟩
end
structure xt(h:Heap)(x dx C:Addr)(mA:Str->Option Value):Prop where
 obj:h.get? x=some (PySem.W.instObj C dx)
 ns:h.Ns1 dx mA
 ne:dx≠x
def IM{h:Heap}{dx:Addr}{mA:Str->Option Value}(n:h.Ns1 dx mA):∃od,h.get? dx=some od/\∀name,PySem.W.lookIn name od=some (mA name):=by
 obtain⟨o,es,ep,ho,hd,hk,_,hm⟩:=n;refine⟨o,ho,λ name=>?_⟩;have e:=hm name;unfold nsFind findBy at e;rw[<-Array.find?_toList]at e;unfold PySem.W.lookIn;rw[hd];dsimp only;split
 . rename_i y q;rw[q]at e;exact VU some e
 . rename_i q;rw[q]at e
   have a:es.toList.any (·.refKey)=false:=by
    rw[List.any_eq_false];intro y hy;obtain⟨z,t,hkey⟩:=hk y (Array.mem_toList_iff.mp hy);simp[DictEntry.refKey,hkey]
   have a':¬es.toList.any (·.refKey)=true:=by rw[a];exact Vr
   rw[Up a'];exact VU some e
def xt.look{h:Heap}{x dx C:Addr}{mA:Str->Option Value}(I:xt h x dx C mA):∃od,PySem.W.InstAt h x (PySem.W.instObj C dx) C (some od)/\∀name,PySem.W.lookIn name od=some (mA name):=
 let⟨od,ho,hl⟩:=IM I.ns
 ⟨od,⟨I.obj,rfl,rfl,ho⟩,hl⟩
section
variable {prog:Program}{w:World}{A:Around}{E:Value->Shared->Prop}{s:Shared}{K:PySem.W.Frag}{x dx C f:Addr}{mA:Str->Option Value}{name:Str}{v:Value}
def get_map{expr:Bool}{Q:Value->Shared->Prop}(X:K.In s.heap)(I:xt s.heap x dx C mA)(hg:PySem.W.plainGet K C name=true)(hh:PySem.W.hasDictIn K C=true)
 (ha:PySem.W.findIn K (.ref C) name=some none) (hv:mA name=some v) (hv':PySem.W.handedIn v=true) (h:Q v {s with toks:=s.toks+1}):
 wpAny (model prog w) A (getAttr (.ref x) name expr) Q E s:=by
 obtain⟨od,J,hl⟩:=I.look;exact PySem.W.get_value X J (XM hg).1 (PySem.W.findObj_own hh ha rfl (by rw[hl,hv])) hv' h
def Jr{pl:Sem Bool}{Q:Value×List Value->Shared->Prop}(X:K.In s.heap)(I:xt s.heap x dx C mA)(hg:PySem.W.plainGet K C name=true)
 (hf:PySem.W.findIn K (.ref C) name=some (some (.ref f))) (ht:PySem.W.isFn K (.ref f)=true) (hv:mA name=none) (h:Q (.ref f,[.ref x]) s):
 wpAny (model prog w) A (getMethod (.ref x) name pl) Q E s:=by
 obtain⟨od,J,hl⟩:=I.look;exact PySem.W.method_fn X J (XM hg).1 (XM hg).2 hf (Wj.mp ht) (by show(PySem.W.lookIn name od).map (·.isSome)=some false;rw[hl,hv];rfl) h
def jz{ns:List Str}{Q:Unit->Shared->Prop}(X:K.In s.heap)(I:xt s.heap x dx C mA)
 (hs:PySem.W.findIn K (.ref C) "__setattr__"=some (some (.builtin "object.__setattr__"))) (hp:PySem.W.plainOver K C=true) (ht:PySem.W.takerIn K C name=some none) (hh:PySem.W.hasDictIn K C=true)
 (hw:PySem.Within mA ns) (hsz:ns.length<=sizeLine)
 (h:∀h',xt h' x dx C (λ y=>if y=name then some v else mA y)->Heap.SameBut dx s.heap h'->Q () {s with heap:=h',toks:=s.toks+2}):
 wpAny (model prog w) A (setAttr (.ref x) name v) Q E s:=by
 obtain⟨od,J,hl⟩:=I.look;refine PySem.W.set_plain X J hs (PySem.W.osa_open (s:={s with toks:=s.toks+1}) (r:=none) X J hp ht λ b=>?_);obtain⟨cd,hc,hd'⟩:=PySem.W.any_some hh;have hx:s.heap.get? x=some ⟨.ref C,some dx,.plain,#[]⟩:=I.obj;refine Uj (Uw (Uj (Uj (wpAny_loadPart hx (Uj (PySem.W.Looks.here (s:={s with toks:=s.toks+1}) (PySem.W.looks_clsIn X hc) ?_))))));rw[hd'];refine Uw (a:=some dx) (Uj (Uw (Uj ?_)));refine wpAny_nsSet1 (s:={s with toks:=s.toks+1}) I.ns λ h' hn2 hs2=>?_;obtain⟨oD,esD,epD,hoD,hdD,hcD⟩:=hn2.count (PySem.Within.cons name v hw);refine Uj (wpAny_lookBehind hoD (by rw[hdD];exact pastItsLine_dict (Um hcD (by rw[UT];omega))) ?_);exact Uw (h _ ⟨(hs2.2 _ (Uy I.ne)).trans I.obj,hn2,I.ne⟩ hs2)
def Jk{R:Result->Shared->Prop}{vs:List Value}{kw:List (Str×Value)}(X:K.In s.heap)(hm:PySem.W.makesIn K C=true)
 (hi:PySem.W.findIn K (.ref C) "__init__"=some (some (.ref f))) (hf:PySem.W.typeIn K (.ref f)=some (.type "function"))
 (h:codeAny (model prog w) (A.under (.builtin "type.__call__" ⟨.ref C::vs,kw⟩)) (.call (.ref f) ⟨.ref (s.heap.objs.size+1)::vs,kw⟩) (PySem.W.InitBack (s.heap.objs.size+1) R)
   {s with heap:=(s.heap.push PySem.W.emptyDict).push (PySem.W.instObj C s.heap.objs.size)}):
 codeAny (model prog w) A (.call (.ref C) ⟨vs,kw⟩) R s:=by
 obtain⟨hh,g,d,t,os⟩:=s;exact PySem.W.make_core (PySem.W.makes_of X hm) (PySem.W.looks_findIn X hi) (λ self=>PySem.W.bind_fn X self hf) (.inl rfl) h
end
def iX(f:Str)(v:V):List (Str×V)->List (Str×V)
 | []=>[(f,v)]
 |(g,x)::r=>if g=f then(g,v)::r else(g,x)::iX f v r
def wO(f g:Str)(v:V):∀fs:List (Str×V),(iX f v fs).lookup g=if g=f then some v else fs.lookup g
 | []=>by
   show List.lookup g [(f,v)]=_;by_cases h:g=f
   . have hb:(g==f)=true:=Wj.mpr h;simp only[List.lookup,hb,Ur h]
   . have hb:(g==f)=false:=Wb.mpr h;simp only[List.lookup,hb,Up h]
 |(k,x)::r=>by
  have ih:=wO f g v r;rw[show iX f v ((k,x)::r)=(if k=f then(k,v)::r else(k,x)::iX f v r)from rfl];by_cases hk:k=f
  . rw[Ur hk];by_cases h:g=k
    . have hb:(g==k)=true:=Wj.mpr h;simp only[List.lookup,hb,Ur (h.trans hk)]
    . have hb:(g==k)=false:=Wb.mpr h;simp only[List.lookup,hb,Up (λ e:g=f=>h (e.trans hk.symm))]
  . rw[Up hk];by_cases h:g=k
    . have hb:(g==k)=true:=Wj.mpr h;simp only[List.lookup,hb,Up (λ e:g=f=>hk (h.symm.trans e))]
    . have hb:(g==k)=false:=Wb.mpr h;simp only[List.lookup,hb];exact ih
def ve(f:Str)(v:V):∀fs:List (Str×V),f∈(iX f v fs).map (·.1)/\∀g,g∈fs.map (·.1)->g∈(iX f v fs).map (·.1)
 | []=>⟨by simp[iX],λ g h=>by simp at h⟩
 |(k,x)::r=>by
  obtain⟨i1,i2⟩:=ve f v r;rw[show iX f v ((k,x)::r)=(if k=f then(k,v)::r else(k,x)::iX f v r)from rfl];by_cases hk:k=f
  . rw[Ur hk];subst hk;exact⟨by simp,λ g h=>by simpa using h⟩
  . rw[Up hk];refine⟨?_,λ g h=>?_⟩
    . rw[UY];exact UG _ i1
    . rw[UY]at h⊢;rcases UK.mp h with e|e
      . exact UK.mpr (.inl e)
      . exact UG _ (i2 g e)
def wQ(f:Str)(v:V):∀fs:List (Str×V),(iX f v fs).length<=fs.length+1
 | []=>by simp[iX]
 |(k,x)::r=>by
  have ih:=wQ f v r;rw[show iX f v ((k,x)::r)=(if k=f then(k,v)::r else(k,x)::iX f v r)from rfl];by_cases hk:k=f
  . rw[Ur hk,UT,UT];omega
  . rw[Up hk,UT,UT];omega
def rN.some_of{v:V}{o:Option Value}(r:rN (some v) o):∃u,o=some u/\RelV v u:=by
 cases o with
 |none=>exact(show False from r).elim
 |some u=>exact⟨u,rfl,r⟩
def rN.none_of{o:Option Value}(r:rN none o):o=none:=by
 cases o with
 |none=>rfl
 |some u=>exact(show False from r).elim
def GI{v:V}{u:Value}(r:RelV v u):PySem.W.handedIn u=true:=by
 cases v with
 |aD=>cases (show u=Value.none from r);rfl
 |bl b=>cases (show u=Value.bool b from r);rfl
 |int i=>obtain⟨t,e⟩:=(show∃t,u=Value.int i t from r);cases e;rfl
 |str x=>obtain⟨t,e⟩:=(show∃t,u=Value.str x t from r);cases e;rfl
 |wA b=>obtain⟨t,e⟩:=(show∃t,u=Value.bytes b t from r);cases e;rfl
 |wy b=>obtain⟨t,e⟩:=(show∃t,u=Value.float b t from r);cases e;rfl
 |ref a=>cases (show u=Value.ref a from r);rfl
 |ty n=>cases (show u=Value.type n from r);rfl
section
variable {P:Program}{w:World}{H H':Hp}{h h':Heap}{a C dx:Addr}{fs fs':List (Str×V)}
def sA(aO:jt P w H h)(e:H a=some (.ins C dx fs)):∃mA,xt h a dx C mA/\(∀f,rN (fs.lookup f) (mA f))/\PySem.Within mA (fs.map (·.1))/\fs.length<=1000/\H dx=some (.own a):=by
 obtain⟨d,z,ne,ob,mA,n,r,q⟩:=(show et P w H h a (.ins C dx fs)from aO a _ e)
 exact⟨mA,⟨ob,n,ne⟩,r,q,z,d⟩
end
structure pU(K:PySem.W.Frag)(C:Addr):Prop where
 pg:PySem.W.plainGet K C Str.empty=true
 hd:PySem.W.hasDictIn K C=true
 po:PySem.W.plainOver K C=true
 sa:PySem.W.findIn K (.ref C) "__setattr__"=some (some (.builtin "object.__setattr__"))
def pU.get{K:PySem.W.Frag}{C:Addr}(c:pU K C)(f:Str):PySem.W.plainGet K C f=true:=c.pg
def g0(K:PySem.W.Frag)(C:Addr)(f:Str):Prop:=PySem.W.findIn K (.ref C) f=some none
def g0.Rf{K:PySem.W.Frag}{C:Addr}{f:Str}(n:g0 K C f):PySem.W.takerIn K C f=some none:=by
 unfold PySem.W.takerIn;rw[show PySem.W.findIn K (.ref C) f=some none from n];rfl
structure Meth(K:PySem.W.Frag)(C:Addr)(m:Str)(f:Addr):Prop where
 at_:PySem.W.findIn K (.ref C) m=some (some (.ref f))
 fn:PySem.W.isFn K (.ref f)=true
 kp:PySem.W.keepIn K (.ref f)=true
section
variable {X:Cx}{pins:List (Addr×Obj)}{σ:St}{H:Hp}{s:Shared}{a C dx:Addr}{fs:List (Str×V)}{f:Str}{v:V}{A:Around}{E:Value->Shared->Prop}
def F8{b:Bool}{Q:Value->Shared->Prop}(I:Inv X pins σ H s)(e:H a=some (.ins C dx fs))(c:pU X.K C)(n:g0 X.K C f)(l:fs.lookup f=some v)
 (h:∀u s',Inv X pins σ H s'->RelV v u->Q u s'):wpAny (model X.prog X.w) A (getAttr (.ref a) f b) Q E s:=by
 obtain⟨mA,O,r,_,_,_⟩:=sA I.aO e;obtain⟨u,hu,ru⟩:=rN.some_of (v:=v) (o:=mA f) (by rw[<-l];exact r f);exact get_map I.i4 O (c.get f) c.hd n hu (GI ru) (h u _ (I.tok _) ru)
def F3{m:Str}{g:Addr}{pl:Sem Bool}{Q:Value×List Value->Shared->Prop}(I:Inv X pins σ H s)(e:H a=some (.ins C dx fs))(c:pU X.K C)(k:Meth X.K C m g)(l:fs.lookup m=none)
 (h:Q (.ref g,[.ref a]) s):wpAny (model X.prog X.w) A (getMethod (.ref a) m pl) Q E s:=by
 obtain⟨mA,O,r,_,_,_⟩:=sA I.aO e;have hn:mA m=none:=rN.none_of (by rw[<-l];exact r m);exact Jr I.i4 O (c.get m) k.at_ k.fn hn h
def Gj{y:V}{u:Value}{Q:Unit->Shared->Prop}(I:Inv X pins σ H s)(e:H a=some (.ins C dx fs))(c:pU X.K C)(n:g0 X.K C f)(hl:fs.length<1000)(ry:RelV y u)
 (h:∀s',Inv X pins σ (upd H a (.ins C dx (iX f y fs))) s'->Q () s'):wpAny (model X.prog X.w) A (setAttr (.ref a) f u) Q E s:=by
 obtain⟨mA,O,r,wi,_,ho⟩:=sA I.aO e;have hz:(fs.map (·.1)).length<=sizeLine:=by rw[Uh,V5];omega
 refine jz I.i4 O c.sa c.po n.Rf c.hd wi hz λ h' O' sb=>h _ ?_;have hd:∃o,h'.get? dx=some o:=let⟨o,_,_,e',_⟩:=O'.ns;⟨o,e'⟩
 refine I.write (x:=a) (e:=dx) (by rw[e];exact True.intro) (.inr ho) (λ b q hb z=>(sb.2 b hb).trans z) hd ?_;refine⟨by rw[aE O.ne];exact ho,?_,O.ne,O'.obj,_,O'.ns,λ g=>?_,λ g hg=>?_⟩
 . have:=wQ f y fs;omega
 . show rN ((iX f y fs).lookup g) (if g=f then some u else mA g);rw[wO];by_cases q:g=f
   . rw[Ur q,Ur q];exact ry
   . rw[Up q,Up q];exact r g
 . by_cases q:g=f
   . rw[q];exact(ve f y fs).1
   . refine(ve f y fs).2 g (wi g λ z=>hg ?_);show(if g=f then some u else mA g)=none;rw[Up q];exact z
def Inv.made(I:Inv X pins σ H s):Inv X pins σ (upd (upd H s.heap.objs.size (.own (s.heap.objs.size+1))) (s.heap.objs.size+1) (.ins C s.heap.objs.size []))
 {s with heap:=(s.heap.push PySem.W.emptyDict).push (PySem.W.instObj C s.heap.objs.size)}:=by
 have e1:(s.heap.push PySem.W.emptyDict).get? s.heap.objs.size=some PySem.W.emptyDict:=UN s.heap rfl
 have e2:((s.heap.push PySem.W.emptyDict).push (PySem.W.instObj C s.heap.objs.size)).get? (s.heap.objs.size+1)=some (PySem.W.instObj C s.heap.objs.size):=by
  have:=UN (s.heap.push PySem.W.emptyDict) (o:=PySem.W.instObj C s.heap.objs.size) rfl;rwa [VC]at this
 have e3:(s.heap.push PySem.W.emptyDict).Ns s.heap.objs.size (λ _=>none):=⟨PySem.W.emptyDict,#[],_,e1,rfl,(λ e he=>absurd he (by simp)),λ _=>rfl⟩
 have I1:=I.laid (a:=s.heap.objs.size) (o:= .own (s.heap.objs.size+1)) (h':=s.heap.push PySem.W.emptyDict) (t':=s.toks) (λ b u q=>Uo _ q) (Uk _) ⟨_,e1⟩;refine I1.laid (a:=s.heap.objs.size+1) (o:= .ins C s.heap.objs.size []) (t':=s.toks) (λ b u q=>Uo _ q) (Yt (VC _ _)) ?_;have ne:s.heap.objs.size≠s.heap.objs.size+1:=UR (UZ _);refine⟨by rw[aE ne,a8],US _,ne,e2,λ _=>none,(Heap.Ns1.of_empty e3).at λ o q=>Uo _ q,λ _=>True.intro,λ y hy=>absurd rfl hy⟩
def M8{prog:Program}{w:World}{env:Env}{e:Expr}{f:Str}{pos:Pos}{s:Shared}{Q:Value->Shared->Prop}(hb:attributeBase e f env (eval e env)=eval e env)
 (h:wpAny (model prog w) A (eval e env) (λ o s₁=>wpAny (model prog w) A (getAttr o f true) Q E s₁) E s):wpAny (model prog w) A (eval (.Attribute e f pos) env) Q E s:=
 Attribute_any_ h (by rw[arm_eval_Attribute,hb])
end
def TB(K:PySem.W.Frag)(ta:TE)(f:Str):TE:=λ σ H Q=>ta σ H λ x H1=>∃a C dx fs v,x= .ref a/\H1 a=some (.ins C dx fs)/\pU K C/\g0 K C f/\fs.lookup f=some v/\Q v H1
def SW(K:PySem.W.Frag)(ta tv:TE)(f:Str):TS:=λ D σ H=>tv σ H λ y H1=>ta σ H1 λ x H2=>∃a C dx fs,x= .ref a/\H2 a=some (.ins C dx fs)/\pU K C/\g0 K C f/\fs.length<1000/\
 D.nx σ (upd H2 a (.ins C dx (iX f y fs)))
section
variable {X:Cx}{o e value:Expr}{f:Str}{pos pos' tpos:Pos}{ta tv:TE}
def NZ(he:PE X e ta)(hb:attributeBase e f X.env (eval e X.env)=eval e X.env):PE X (.Attribute e f pos) (TB X.K ta f):=by
 intro pins s σ H Q I h;refine M8 hb (cw (he pins s σ H _ I h) λ u s1 ⟨x,H1,I1,rx,a,C,dx,fs,v,ex,ea,c,n,l,q⟩=>?_);subst ex;obtain rfl:u=Value.ref a:=rx;exact F8 I1 ea c n l λ u' s2 I2 ru=>⟨v,H1,I2,ru,q⟩
def NJ(ha:PE X o ta)(hv:PE X value tv)(hs:swapsWith value (some (.Attribute o f pos')) pos.line X.env=pure false):PS X (.Assign [.Attribute o f pos'] value pos) (SW X.K ta tv f):=by
 intro pins s σ H D I h;refine plainObj_wpAny_Assign_Attribute (cw (hv pins s σ H _ I h) λ u s1 ⟨y,H1,I1,ry,q⟩=>cw (ha pins s1 σ H1 _ I1 q) λ ov s2 ⟨x,H2,I2,rx,a,C,dx,fs,ex,ea,c,n,l,q2⟩=>?_) hs;subst ex;obtain rfl:ov=Value.ref a:=rx;exact Gj I2 ea c n l ry λ s3 I3=>⟨σ,_,I3,q2⟩
end
section
variable {X:Cx}{pins:List (Addr×Obj)}{σ:St}{H:Hp}{s:Shared}{A:Around}{E:Value->Shared->Prop}{Q:Value->Shared->Prop}{c:Value}{b:Bool}
inductive kF(K:PySem.W.Frag)(H:Hp):V->Value->Prop where
 |aD:kF K H .aD (.type "NoneType")
 |bl (x:Bool):kF K H (.bl x) (.type "bool")
 |int (i:Int):kF K H (.int i) (.type "int")
 |str (x:Str):kF K H (.str x) (.type "str")
 |wy (x:UInt64):kF K H (.wy x) (.type "float")
 |lst {a:Addr} {xs:List V} (e:H a=some (.lst xs)):kF K H (.ref a) (.type "list")
 |fe {a:Addr} {o:Obj} {xs:List V} (e:H a=some (.fe o (.lst xs))):kF K H (.ref a) (.type "list")
 |tup {a:Addr} {xs:List V} (e:H a=some (.tup xs)):kF K H (.ref a) (.type "tuple")
 |dK {a:Addr} {kvs:List (Key×V)} (e:H a=some (.dK kvs)):kF K H (.ref a) (.type "dict")
 |dT {a:Addr} {kvs:List (List Key×V)} (e:H a=some (.dT kvs)):kF K H (.ref a) (.type "dict")
 |ins {a C dx:Addr} {fs:List (Str×V)} (e:H a=some (.ins C dx fs)) (cl:pU K C) (ha:PySem.W.findIn K (.ref C) "__class__"=some (some (.builtin "object.__class__")))
   (hn:PySem.W.specialIn K (.builtin "object.__class__") "__get__"=some (some (.builtin "getset_descriptor.__get__"))) (htk:PySem.W.takesIn K (.builtin "object.__class__")=some true)
   (hm:PySem.W.mroIn K C (.type "object")=some true):kF K H (.ref a) (.ref C)
def GW{x:V}{u t:Value}(I:Inv X pins σ H s)(rx:RelV x u)(ty:kF X.K H x t)(e:PySem.W.kitOne X.K t c=some b)(h:∀tk,Q (.bool b) {s with toks:=tk}):
 wpAny (model X.prog X.w) A (call (.builtin "isinstance") [u,c]) Q E s:=by
 cases ty with
 |aD=>cases (show u=Value.none from rx);exact VE PySem.W.kitx_none I.i4 True.intro e (λ z=>nomatch z) h
 |bl y=>cases (show u=Value.bool y from rx);exact VE PySem.W.kitx_bool I.i4 True.intro e (λ z=>nomatch z) h
 |int i=>obtain⟨t,q⟩:=(show∃t,u=Value.int i t from rx);cases q;exact VE PySem.W.kitx_int I.i4 True.intro e (λ z=>nomatch z) h
 |str y=>obtain⟨t,q⟩:=(show∃t,u=Value.str y t from rx);cases q;exact VE PySem.W.kitx_str I.i4 True.intro e (λ z=>nomatch z) h
 |wy y=>obtain⟨t,q⟩:=(show∃t,u=Value.float y t from rx);cases q;exact VE PySem.W.kitx_float I.i4 True.intro e (λ z=>nomatch z) h
 | @lst a xs ea=>
   cases (show u=Value.ref a from rx);obtain⟨_,_,n,_,h1⟩:=(show et X.prog X.w H s.heap a (.lst xs)from I.aO a _ ea)
   exact VE Xg I.i4 ⟨_,h1,rfl⟩ e (λ z=>nomatch z) h
 | @fe a ob xs ea=>
   cases (show u=Value.ref a from rx);obtain⟨_,_,_,n,_,h1⟩:=(show et X.prog X.w H s.heap a (.fe ob (.lst xs))from I.aO a _ ea)
   exact VE Xg I.i4 ⟨_,h1,rfl⟩ e (λ z=>nomatch z) h
 | @tup a xs ea=>
   cases (show u=Value.ref a from rx);obtain⟨_,_,_,p⟩:=(show et X.prog X.w H s.heap a (.tup xs)from I.aO a _ ea)
   obtain⟨o,h1,h2,_⟩:=p;exact VE PySem.W.kitx_tuple I.i4 ⟨o,h1,h2⟩ e (λ z=>nomatch z) h
 | @dK a kvs ea=>
   cases (show u=Value.ref a from rx);obtain⟨_,_,vs,_,p⟩:=(show et X.prog X.w H s.heap a (.dK kvs)from I.aO a _ ea)
   obtain⟨o,es,ep,h1,h2,_⟩:=p;exact VE Xh I.i4 ⟨o,h1,h2.1⟩ e (λ z=>nomatch z) h
 | @dT a kvs ea=>
   cases (show u=Value.ref a from rx);obtain⟨_,_,xs,_,o,es,ep,h1,h2,_⟩:=(show et X.prog X.w H s.heap a (.dT kvs)from I.aO a _ ea)
   exact VE Xh I.i4 ⟨o,h1,h2.1⟩ e (λ z=>nomatch z) h
 | @ins a C dx fs ea cl ha hn htk hm=>
   cases (show u=Value.ref a from rx);obtain⟨mA,O,_⟩:=sA I.aO ea;obtain⟨od,J,_⟩:=O.look;exact VE (PySem.W.kitx_own (cl.get _) cl.hd ha hn htk hm) I.i4 J e (λ z=>nomatch z) h
end
structure dy(k:Nat)(A:Around):Prop where
 hd:A.handled=none
 dp:A.depth+3*k+105<recursionLimit
 un:A.units+16*k+200<cLine
def dy.mono{j k:Nat}{A:Around}(r:dy k A)(h:j<=k):dy j A:=⟨r.hd,by have:=r.dp;omega,by have:=r.un;omega⟩
def dy.deeper{k:Nat}{A:Around}(r:dy (k+1) A)(env:Env):dy k (A.deeper env):=
 ⟨r.hd,by have:=r.dp;show A.depth+1+3*k+105<_;omega,by have:=r.un;show A.units+3+16*k+200<_;omega⟩
def Gv{A:Around}{C:Addr}{us:List Value}{kw:List (Str×Value)}:(A.under (.builtin "type.__call__" ⟨.ref C::us,kw⟩)).depth=A.depth+1:=by
 first|rfl|simp[Around.under,Code.weight,Code.isCreation,Code.isGuard,Code.isCaller,Code.frames,Code.isFrame,guardIds]
def F2{A:Around}{C:Addr}{us:List Value}{kw:List (Str×Value)}:(A.under (.builtin "type.__call__" ⟨.ref C::us,kw⟩)).units=A.units+1:=by
 first|rfl|simp[Around.under,Code.cUnits,Code.frames,Code.isFrame]
def dy.make{k:Nat}{A:Around}(r:dy (k+1) A)(C:Addr)(us:List Value)(kw:List (Str×Value)):dy k (A.under (.builtin "type.__call__" ⟨.ref C::us,kw⟩)):=
 ⟨r.hd,by have:=r.dp;rw[Gv];omega,by have:=r.un;rw[F2];omega⟩
def dy.depth{k:Nat}{A:Around}(r:dy k A):A.depth<recursionLimit:=by have:=r.dp;omega
def dy.units{k:Nat}{A:Around}(r:dy k A):A.units+64<cLine:=by have:=r.un;omega
def S7:TA:=λ _ H Q=>Q [] H
def QQ(ta:TE)(tr:TA):TA:=λ σ H Q=>ta σ H λ x H1=>tr σ H1 λ xs H2=>Q (x::xs) H2
section
variable {X:Cx}{e:Expr}{es:List Expr}{te:TE}{t:TA}{pos:Pos}
def O8:PA X [] S7:=λ _ _ _ _ H Q I h=>Calls.spliced_nil ⟨[],H,I,.nil,h⟩
def M_(ha:PE X e te)(hr:PA X es t)(hs:starEach (e::es) X.env=(false,eval e X.env)::starEach es X.env:=by rfl):PA X (e::es) (QQ te t):=by
 intro pos pins s σ H Q I h;rw[hs];show wpAny _ _ (spliced ((false,eval e X.env)::backTo pos (starEach es X.env))) _ _ s;refine Calls.spliced_cons (cw (ha pins s σ H _ I h) λ u s1 ⟨x,H1,I1,r1,q1⟩=>?_);exact cw (hr pos pins s1 σ H1 _ I1 q1) λ us s2 ⟨xs,H2,I2,r2,q2⟩=>⟨x::xs,H2,I2,.cons r1 r2,q2⟩
def SF(t:TA):TE:=λ σ H Q=>t σ H λ xs H1=>xs.length<=sizeLine/\∀p,H1 p=none->Q (.ref p) (upd H1 p (.tup xs))
def Tx(t:TA):TE:=λ σ H Q=>t σ H λ xs H1=>xs.length<=sizeLine/\∀p,H1 p=none->Q (.ref p) (upd H1 p (.lst xs))
def Qp{x1}(h:PA X es t):PE X (.Tuple es x1 pos) (SF t):=by
 intro pins s σ H Q I hq;refine wpAny_Tuple_spliced (cw (h pos pins s σ H _ I hq) λ us s1 ⟨xs,H1,I1,r,z,q⟩=>⟨by rw[<-r.length];exact z,?_⟩);have hf:H1 s1.heap.objs.size=none:=I1.aO.fresh (Uk _);refine⟨.ref s1.heap.objs.size,upd H1 s1.heap.objs.size (.tup xs),I1.laid (t':=s1.toks) (λ b u e=>Uo _ e) (Uk _) ?_,rfl,q _ hf⟩;exact⟨z,us,r,⟨_,UN _ rfl,rfl,_,rfl⟩⟩
def IJ(h:PA X es t):PE X (.List es pos) (Tx t):=by
 intro pins s σ H Q I hq;refine wpAny_List_spliced (cw (h pos pins s σ H _ I hq) λ us s1 ⟨xs,H1,I1,r,z,q⟩=>⟨by rw[<-r.length];exact z,?_⟩);have hf:H1 s1.heap.objs.size=none:=I1.aO.fresh (Uk _);refine⟨.ref s1.heap.objs.size,upd H1 s1.heap.objs.size (.lst xs),I1.laid (t':=s1.toks) (λ b u e=>Uo _ e) (Uk _) ?_,rfl,q _ hf⟩;exact⟨z,us,0,r,UN _ rfl⟩
end
abbrev Sp:=List V->Hp->VK->XK->Prop
abbrev wG:=List Env->Hp->Shared->XK->Value->Shared->Prop
structure xr(P:Program)(w:World)(K:PySem.W.Frag)(mg:Str->Option Value)(base:Heap)(A:Around)(outer:List Env)(s:Shared)(H:Hp):Prop where
 frames:A.frames=some outer
 mod:Mod K mg base
 bs:∀b o,base.get? b=some o->s.heap.get? b=some o/\H b=none
 uC:base.objs.size<=s.heap.objs.size
 mz:s.heap.FunFrames base outer
 yD:∀b∈sP outer,H b=none
 aO:jt P w H s.heap
 bare:AllBare s.gens
 gt:P.given.tree=none
def CE(outer:List Env)(P:Program)(w:World)(H:Hp)(s:Shared)(Q:VK)(u:Value)(s':Shared):Prop:=
 ∃v H',s'.os=s.os/\AllBare s'.gens/\Un (sP outer) [] H H' s.heap s'.heap/\jt P w H' s'.heap/\RelV v u/\Q v H'
def CR(CX:wG)(outer:List Env)(P:Program)(w:World)(H:Hp)(s:Shared)(Q:VK)(E:XK)(r:Result)(s':Shared):Prop:=
 match r with
 | .ok (.ret u)=>CE outer P w H s Q u s'
 | .ok _=>False
 | .error e=>CX outer H s E e s'
structure a_(P:Program)(w:World)(K:PySem.W.Frag)(mg:Str->Option Value)(base:Heap)(CX:wG)(k:Nat)(f:Addr)(fd:FuncData)(ps:List Str)(sp:Sp):Prop where
 len:∀vs H Q E,sp vs H Q E->vs.length=ps.length
 run:∀(A:Around) (outer:List Env) (s:Shared) (H:Hp) (args:Args) (us:List Value) (vs:List V) (Q:VK) (E:XK),dy k A->xr P w K mg base A outer s H->BindsTo s fd args (ps.zip us)->Vals vs us->sp vs H Q E->
  codeAny (model P w) A (.call (.ref f) args) (CR CX outer P w H s Q E) s
def a_.imp{P:Program}{w:World}{K:PySem.W.Frag}{mg:Str->Option Value}{base:Heap}{CX:wG}{k:Nat}{f:Addr}{fd:FuncData}{ps:List Str}{sp sp':Sp}(F:a_ P w K mg base CX k f fd ps sp)
 (h:∀vs H Q E,sp' vs H Q E->sp vs H Q E):a_ P w K mg base CX k f fd ps sp':=
 ⟨λ vs H Q E q=>F.len vs H Q E (h _ _ _ _ q),λ A outer s H args us vs Q E hr he hb hv hs=>F.run A outer s H args us vs Q E hr he hb hv (h _ _ _ _ hs)⟩
def xr.make{P:Program}{w:World}{K:PySem.W.Frag}{mg:Str->Option Value}{base:Heap}{A:Around}{outer:List Env}{s:Shared}{H:Hp}(e:xr P w K mg base A outer s H)(C:Addr)(us:List Value)(kw:List (Str×Value)):
 xr P w K mg base (A.under (.builtin "type.__call__" ⟨.ref C::us,kw⟩)) outer s H:=⟨by first|exact e.frames|(simpa[Around.under,Code.envs,Code.isFrame,pushEnvs]using e.frames),e.mod,e.bs,e.uC,e.mz,e.yD,e.aO,e.bare,e.gt⟩
section
variable {X:Cx}{pins:List (Addr×Obj)}{σ:St}{H:Hp}{s s':Shared}
def Inv.Py(I:Inv X pins σ H s):xr X.prog X.w X.K X.mg X.base X.A X.stack s H:=
 ⟨I.ok.frames,I.ok.mod,I.bs,Um I.ok.uC I.sz,I.stack,I.zw,I.aO,I.bare,I.ok.gt⟩
def Inv.after{Q:VK}{u:Value}(I:Inv X pins σ H s)(h:CE X.stack X.prog X.w H s Q u s'):EP X pins σ Q u s':=by
 obtain⟨v,H',os,bare,un,aO,r,q⟩:=h;obtain⟨hh,g,d,t,os'⟩:=s';obtain rfl:os'=s.os:=os;exact⟨v,H',I.call (h':=hh) (g':=g) (d':=d) (t':=t) (ch:=[]) un aO bare (λ b z=>absurd z (by simp)),r,q⟩
end
def KQ(sp:Sp)(dvs:List V)(E:XK)(t:TA):TE:=λ σ H Q=>t σ H λ vs H1=>sp (vs++dvs) H1 Q E
def LB(C:Addr)(m:Str)(sp:Sp)(dvs:List V)(E:XK)(ta:TE)(t:TA):TE:=λ σ H Q=>ta σ H λ x H1=>∃a dx fs,x= .ref a/\H1 a=some (.ins C dx fs)/\fs.lookup m=none/\
 t σ H1 λ vs H2=>sp (x::(vs++dvs)) H2 Q E
def K6(C:Addr)(sp:Sp)(dvs:List V)(E:XK)(t:TA):TE:=λ σ H Q=>t σ H λ vs H1=>∀x dx,H1 x=none->H1 dx=none->dx≠x->
 sp (.ref x::(vs++dvs)) (upd (upd H1 dx (.own x)) x (.ins C dx [])) (λ v H2=>v= .aD/\Q (.ref x) H2) E
def Binds(K:PySem.W.Frag)(fd:FuncData)(ps:List Str)(ds:List Value):Prop:=
 ∀(s:Shared) (us:List Value),K.In s.heap->(us++ds).length=ps.length->BindsTo s fd ⟨us,[]⟩ (ps.zip (us++ds))
def Binds.all{K:PySem.W.Frag}{fd:FuncData}{ps:List Str}(h:∀us:List Value,us.length=ps.length->bindArgs fd ⟨us,[]⟩=pure (ps.zip us)):Binds K fd ps []:=λ s us _ hl=>by
 rw[VW]at hl⊢;exact .of_eq (h us hl)
def Passes(CX:wG)(X:Cx)(E:XK):Prop:=∀(pins:List (Addr×Obj)) (σ:St) (H:Hp) (s:Shared) (e:Value) (s':Shared),Inv X pins σ H s->CX X.stack H s E e s'->X.xe e s'
section
variable {X:Cx}{CX:wG}{k:Nat}{f C:Addr}{fd:FuncData}{ps:List Str}{sp:Sp}{dvs:List V}{ds:List Value}{E:XK}{x m:Str}{p pos apos:Pos}{e o:Expr}{es:List Expr}{ta:TE}{t:TA}
def Iu{pins:List (Addr×Obj)}{σ:St}{H:Hp}{s:Shared}{Q:VK}{us:List Value}{vs:List V}(F:a_ X.prog X.w X.K X.mg X.base CX k f fd ps sp)(hr:dy k X.A)(hb:Binds X.K fd ps ds)(hd:Vals dvs ds)(hx:Passes CX X E)
 (I:Inv X pins σ H s) (r:Vals vs us) (h:sp (vs++dvs) H Q E):wpAny (model X.prog X.w) X.A (call (.ref f) us) (EP X pins σ Q) X.xe s:=by
 have r2:Vals (vs++dvs) (us++ds):=r.append hd;have hl:(us++ds).length=ps.length:=by rw[<-r2.length];exact F.len _ _ _ _ h
 refine wpAny_call (Yu (F.run X.A X.stack s H ⟨us,[]⟩ (us++ds) (vs++dvs) Q E hr I.Py (hb s us I.i4 hl) r2 h) λ r s' hq=>?_);cases r with
 |error e=>exact hx pins σ H s e s' I hq
 |ok fl=>
  cases fl with
  |ret u=>exact I.after hq
  |next=>exact False.elim hq
  |brk=>exact False.elim hq
  |cont=>exact False.elim hq
def LW(F:a_ X.prog X.w X.K X.mg X.base CX k f fd ps sp)(hr:dy k X.A)(hg:Gl X x)(hm:X.mg x=some (.ref f))(hk:PySem.W.keepIn X.K (.ref f)=true)(hb:Binds X.K fd ps ds)(hd:Vals dvs ds)(hx:Passes CX X E)
 (ha:PA X (e::es) t) (hdb:(x==("__debug__":Str))=false:=by decide) (he:starEach (e::es) X.env=(false,eval e X.env)::starEach es X.env:=by rfl) (hpl:(backTo pos (starEach es X.env)).any (·.1)=false:=by rfl):
 PE X (.Call (.Name x p) (e::es) [] pos) (KQ sp dvs E t):=by
 intro pins s σ H Q I h;refine WH (EY I hg hm ?_ hdb);refine XW (h₀:=X.base) I.ok.mod.Ib hk (cw (ha pos pins s σ H _ I h) λ us s1 ⟨vs,H1,I1,r,q⟩=>⟨I1.i4,?_⟩) he hpl;exact Iu F hr hb hd hx I1 r q
def MS{pl:Sem Bool}(he:PE X o ta)(c:pU X.K C)(hm:Meth X.K C m f)(F:a_ X.prog X.w X.K X.mg X.base CX k f fd ps sp)(hr:dy k X.A)(hb:Binds X.K fd ps ds)(hd:Vals dvs ds)(hx:Passes CX X E)(ha:PA X (e::es) t)
 (hst:starEach (e::es) X.env=(false,eval e X.env)::starEach es X.env:=by rfl) (hpl:(backTo pos (starEach es X.env)).any (·.1)=false:=by rfl)
 (ht:eval (.Call (.Attribute o m apos) (e::es) [] pos) X.env=(do
   let ov <-eval o X.env
   standAt apos.atName
   let(f,first) <-holding [ov] (getMethod ov m pl)
   callWith pos f first (backTo pos (starEach (e::es) X.env)) (backToKw pos (keywordEach [] X.env))):=by rfl):
 PE X (.Call (.Attribute o m apos) (e::es) [] pos) (LB C m sp dvs E ta t):=by
 intro pins s σ H Q I h;refine PySem.W.methodCall_KW (pl:=pl) (cw (he pins s σ H _ I h) λ u s1 ⟨x,H1,I1,rx,a,dx,fs,ex,ea,l,q⟩=>?_) ht;subst ex;obtain rfl:u=Value.ref a:=rx;refine F3 I1 ea c hm l ?_;refine XW (first:=[.ref a]) (h₀:=X.base) I.ok.mod.Ib hm.kp (cw (ha pos pins s1 σ H1 _ I1 q) λ us s2 ⟨vs,H2,I2,r,q2⟩=>⟨I2.i4,?_⟩) hst hpl;exact Iu (us:= .ref a::us) (vs:= .ref a::vs) F hr hb hd hx I2 (.cons rfl r) q2
structure Mk(K:PySem.W.Frag)(C f:Addr):Prop where
 makes:PySem.W.makesIn K C=true
 init:PySem.W.findIn K (.ref C) "__init__"=some (some (.ref f))
 fn:PySem.W.isFn K (.ref f)=true
 kp:PySem.W.keepIn K (.ref C)=true
def IY{pins:List (Addr×Obj)}{σ:St}{H:Hp}{s:Shared}{Q:VK}{us:List Value}{vs:List V}(M:Mk X.K C f)(F:a_ X.prog X.w X.K X.mg X.base CX k f fd ps sp)(hr:dy (k+1) X.A)(hb:Binds X.K fd ps ds)(hd:Vals dvs ds)
 (hx:Passes CX X E) (I:Inv X pins σ H s) (r:Vals vs us)
 (h:∀x dx,H x=none->H dx=none->dx≠x->sp (.ref x::(vs++dvs)) (upd (upd H dx (.own x)) x (.ins C dx [])) (λ v H2=>v= .aD/\Q (.ref x) H2) E):
 wpAny (model X.prog X.w) X.A (call (.ref C) us) (EP X pins σ Q) X.xe s:=by
 have hq:=h (s.heap.objs.size+1) s.heap.objs.size (I.aO.fresh (XR _)) (I.aO.fresh (Uk _)) (UR (UZ _));have I2:=Inv.made (C:=C) I;have r2:Vals (V.ref (s.heap.objs.size+1)::(vs++dvs)) (Value.ref (s.heap.objs.size+1)::(us++ds)):= .cons rfl (r.append hd)
 have hl:(Value.ref (s.heap.objs.size+1)::us++ds).length=ps.length:=by
  have e:=r2.length;rw[F.len _ _ _ _ hq]at e;exact e.symm
 refine wpAny_call (Jk (f:=f) I.i4 M.makes M.init (Wj.mp M.fn) (Yu (F.run _ X.stack _ _ ⟨Value.ref (s.heap.objs.size+1)::us,[]⟩ (Value.ref (s.heap.objs.size+1)::(us++ds)) _ _ E (hr.make C us [])
  (I2.Py.make C us []) (hb _ (Value.ref (s.heap.objs.size+1)::us) I2.i4 hl) r2 hq) λ r s' hq'=>?_))
 cases r with
 |error e=>exact hx pins σ _ _ e s' I2 hq'
 |ok fl=>
  cases fl with
  |ret u=>
   obtain⟨v,H',I3,rv,ev,q3⟩:=I2.after hq';subst ev;exact⟨rv,⟨V.ref (s.heap.objs.size+1),H',I3,rfl,q3⟩⟩
  |next=>exact False.elim hq'
  |brk=>exact False.elim hq'
  |cont=>exact False.elim hq'
def Nr(M:Mk X.K C f)(F:a_ X.prog X.w X.K X.mg X.base CX k f fd ps sp)(hr:dy (k+1) X.A)(hg:Gl X x)(hm:X.mg x=some (.ref C))(hb:Binds X.K fd ps ds)(hd:Vals dvs ds)(hx:Passes CX X E)
 (ha:PA X (e::es) t) (hdb:(x==("__debug__":Str))=false:=by decide) (he:starEach (e::es) X.env=(false,eval e X.env)::starEach es X.env:=by rfl) (hpl:(backTo pos (starEach es X.env)).any (·.1)=false:=by rfl):
 PE X (.Call (.Name x p) (e::es) [] pos) (K6 C sp dvs E t):=by
 intro pins s σ H Q I h;refine WH (EY I hg hm ?_ hdb);refine XW (h₀:=X.base) I.ok.mod.Ib M.kp (cw (ha pos pins s σ H _ I h) λ us s1 ⟨vs,H1,I1,r,q⟩=>⟨I1.i4,?_⟩) he hpl;exact IY M F hr hb hd hx I1 r q
end
section
variable {X:Cx}{CX:wG}{k:Nat}{f C:Addr}{fd:FuncData}{ps ks:List Str}{sp:Sp}{E:XK}{x m:Str}{p pos apos kpos:Pos}{e o:Expr}{es:List Expr}{kws:List Keyword}{te ta:TE}{t tk:TA}{nm:Option Str}
variable {g:List Value->List Value->List Value}{gV:List V->List V->List V}
end
structure aQ(N P:List Str)(sc:Scope):Prop where
 kind:sc.kind= .function
 co:sc.isCoroutine=false
 gen:sc.isGenerator=false
 nd:N.Nodup
 pre:N.take P.length=P
 par:∀x∈P,sc.names.lookup x=some .local\/sc.names.lookup x=some .cell
 NU:∀y∈sc.names,y.2≠ .free
def AJ{kindOf:Str->Option NameKind}{x:Str}:∀ {binds:List (Str×Value)} {m:Str->Option Value},(∀v,(x,v)∉binds)->bindL kindOf binds m x=m x
 | [],_,_=>rfl
 |(n,v)::r,m,h=>by
  unfold bindL;rw[AJ λ w hw=>h w (UG _ hw)];split
  . have:x≠n:=by rintro rfl;exact h v UP
    simp[this]
  . rfl
def Au{kindOf:Str->Option NameKind}{x:Str}:∀ {binds:List (Str×Value)} {m:Str->Option Value},(∀v,(x,v)∉binds)->bindC kindOf binds m x=m x
 | [],_,_=>rfl
 |(n,v)::r,m,h=>by
  unfold bindC;rw[Au λ w hw=>h w (UG _ hw)];split
  . rfl
  . have:x≠n:=by rintro rfl;exact h v UP
    simp[this]
def AM{kindOf:Str->Option NameKind}{x:Str}{v:Value}:∀ {P:List Str} {vs:List Value} {i:Nat} {m:Str->Option Value},P.Nodup->P[i]?=some x->vs[i]?=some v->kindOf x=some .local->
 bindL kindOf (P.zip vs) m x=some v
 | [],_,_,_,_,h,_,_=>by simp at h
 |_::_,[],_,_,_,_,h,_=>by simp at h
 |p::P,w::vs,0,m,nd,h1,h2,hk=>by
  simp at h1 h2;subst h1;subst h2;show bindL kindOf ((p,w)::P.zip vs) m p=_;unfold bindL;rw[AJ λ v hv=>(V7.mp nd).1 (Xy hv).1,Ur hk];simp
 |p::P,w::vs,i+1,m,nd,h1,h2,hk=>by
  show bindL kindOf ((p,w)::P.zip vs) m x=_;unfold bindL;exact AM (i:=i) (V7.mp nd).2 (by simpa using h1) (by simpa using h2) hk
def AB{kindOf:Str->Option NameKind}{x:Str}{v:Value}:∀ {P:List Str} {vs:List Value} {i:Nat} {m:Str->Option Value},P.Nodup->P[i]?=some x->vs[i]?=some v->kindOf x≠some .local->
 bindC kindOf (P.zip vs) m x=some v
 | [],_,_,_,_,h,_,_=>by simp at h
 |_::_,[],_,_,_,_,h,_=>by simp at h
 |p::P,w::vs,0,m,nd,h1,h2,hk=>by
  simp at h1 h2;subst h1;subst h2;show bindC kindOf ((p,w)::P.zip vs) m p=_;unfold bindC;rw[Au λ v hv=>(V7.mp nd).1 (Xy hv).1,Up hk];simp
 |p::P,w::vs,i+1,m,nd,h1,h2,hk=>by
  show bindC kindOf ((p,w)::P.zip vs) m x=_;unfold bindC;exact AB (i:=i) (V7.mp nd).2 (by simpa using h1) (by simpa using h2) hk
def start(N:List Str)(vs:List V):St:=vs.map some++List.replicate (N.length-vs.length) none
def sT(CX:wG)(P:Program)(w:World)(K:PySem.W.Frag)(mg:Str->Option Value)(base:Heap)(N:List Str)(qual:Str)(scope:Scope)(f:Addr)(cd:Value)(A:Around)(outer:List Env)(s:Shared)(H:Hp)(E:XK):Cx where
 prog:=P
 w:=w
 K:=K
 mg:=mg
 base:=base
 A:=A.deeper (envOfC qual scope s.heap.objs.size f cd)
 N:=N
 s₀:=s
 H₀:=H
 env:=envOfC qual scope s.heap.objs.size f cd
 outer:=outer
 stack:=envOfC qual scope s.heap.objs.size f cd::outer
 ex:=[]
 calm:=true
 fn:=λ _=>true
 pn:=[]
 xe:=λ e s'=>wpAny (model P w) (A.deeper (envOfC qual scope s.heap.objs.size f cd)) (leaving (envOfC qual scope s.heap.objs.size f cd) e) (λ _ s''=>CX outer H s E e s'') (λ e' s''=>CX outer H s E e' s'') s'
def Dw{sc:Scope}{n:Nat}{x:Str}(h:sc.names.lookup x=some .cell):∃c,(cellsFrom n sc.names []).lookup x=some c:=by
 have q:=Wk sc.names n [] (.inl h);exact Wz.mp q
def Hc{CX:wG}{P:Program}{w:World}{K:PySem.W.Frag}{mg:Str->Option Value}{base:Heap}{N ps:List Str}{qual:Str}{scope:Scope}{f:Addr}{cd:Value}{A:Around}{outer:List Env}{s s1:Shared}{H:Hp}{E:XK}{us:List Value}{vs:List V}
 (S:aQ N ps scope) (hd:A.handled=none) (e0:xr P w K mg base A outer s H) (hl:vs.length=ps.length) (r:Vals vs us)
 (x:InCallC s s.heap.objs.size (bindL (envOfC qual scope s.heap.objs.size f cd).kindOf (ps.zip us) λ _=>none) (cellsFrom (s.heap.objs.size+1) scope.names []) (bindC (envOfC qual scope s.heap.objs.size f cd).kindOf (ps.zip us) λ _=>none) s1):
 Inv (sT CX P w K mg base N qual scope f cd A outer s H E) [] (start N vs) H s1:=by
 have hpl:ps.length<=N.length:=by have:=VU List.length S.pre;rw[Vo]at this;omega
 obtain⟨h1,tk,rfl,hk⟩:=x.done;have noA:∀b:Addr,b∉(sT CX P w K mg base N qual scope f cd A outer s H E).ex:=λ b z=>absurd (show b∈([]:List Addr)from z) (by simp)
 refine⟨⟨e0.mod,S.kind,rfl,rfl,Uk _,λ y z c h1 h2=>?_,λ y hy=>?_,λ y c _ h=>?_,λ _=>hd,Around.frames_deeper e0.frames,.inr ⟨rfl,rfl⟩,λ b z=>absurd z (noA b),e0.bs,e0.uC,λ b _ _=>noA b,λ b z=>absurd z (noA b),e0.mz,e0.yD,e0.gt⟩,
  rfl,e0.bare,Un.kept hk,⟨_,x.toInCall.ns,λ i y v h1 h2 h3=>?_⟩,λ y c h=>⟨_,x.cell y c h⟩,e0.aO.fresh (Uk _),λ y c h=>?_,λ p hp=>absurd (show p∈([]:List (Addr×Obj))from hp) (by simp),e0.aO.kept hk,?_⟩
 . exact name_of_addr x.apart (Vg h1) (Vg h2)
 . have hy:scope.names.lookup y=some .cell\/scope.names.lookup y=some .free:=hy;rcases hy with hy|hy
   . exact Dw hy
   . exact absurd rfl (S.NU _ (Vg hy))
 . exact VN (x.above y c (Vg h))
 . have hi:i<vs.length:=by
    unfold start at h2;by_cases hi:i<vs.length
    . exact hi
    . rw[Vc (by simpa using hi)]at h2;rw[Xb]at h2;split at h2<;>cases h2
   have ha:vs[i]?=some v:=by
    unfold start at h2;rw[Us (by simpa using hi),UB]at h2;cases e:vs[i]? with
    |none=>rw[e]at h2;cases h2
    |some a=>rw[e]at h2;cases h2;rfl
   obtain⟨u,hu,rv⟩:=r.get ha
   have hp:ps[i]?=some y:=by
    rw[<-S.pre,WA (by omega)];exact h1
   have ndP:ps.Nodup:=by rw[<-S.pre];exact S.nd.sublist (List.take_sublist _ _)
   refine⟨u,rv,?_⟩;rcases S.par y (UO hp)with k|k
   . exact .inl ⟨k,AM ndP hp hu k⟩
   . obtain⟨c,e⟩:=Dw (n:=s.heap.objs.size+1) k;refine .inr ⟨.inl k,c,e,?_⟩;have q:=x.cell y c e;rw[AB ndP hp hu (by show scope.names.lookup y≠_;rw[k];decide)]at q;exact q
 . exact e0.aO.fresh (VN (x.above y c (Vg h)))
 . unfold start;show _=N.length;rw[Vv,Uh,List.length_replicate];omega
def KZ{CX:wG}{P:Program}{w:World}{K:PySem.W.Frag}{mg:Str->Option Value}{base:Heap}{k:Nat}{f:Addr}{name qual:Str}{params:Arguments}{body:List Stmt}{scope:Scope}{dV kV doc pm cdv ct oc:Value}{an od:Option Addr}
 {osl:Array (Option Value)} {N ps:List Str} {sp:Sp} (lk:K.lookup f=some ⟨oc,od,.func (PySem.W.fnOf name qual params body scope dV kV doc pm an cdv ct),osl⟩) (hcd:PySem.W.codeIn K cdv qual=true) (S:aQ N ps scope)
 (len:∀vs H Q E,sp vs H Q E->vs.length=ps.length)
 (hbody:∀(A:Around) (outer:List Env) (s:Shared) (H:Hp) (vs:List V) (Q:VK) (E:XK),dy k (A.deeper (envOfC qual scope s.heap.objs.size f cdv))->sp vs H Q E->
   ∃t,i5 (sT CX P w K mg base N qual scope f cdv A outer s H E) body t/\t {nx:=λ _ H'=>Q .aD H',rt:=Q} (start N vs) H):
 a_ P w K mg base CX (k+1) f (PySem.W.fnOf name qual params body scope dV kV doc pm an cdv ct) ps sp:=by
 refine⟨len,λ A outer s H args us vs Q E hr e0 hb r hsp=>?_⟩;have hl:=len _ _ _ _ hsp;have KX:K.In s.heap:=e0.mod.Ib.keeps λ b o e=>(e0.bs b o e).1;have lim:s.heap.NoLimit:=e0.mod.nolimit.keeps λ b o e=>(e0.bs b o e).1
 have hkind:∀y∈ps.zip us,scope.names.lookup y.1=some .local\/(scope.names.lookup y.1=some .cell/\((cellsFrom (s.heap.objs.size+1) scope.names []).lookup y.1).isSome=true):=λ⟨n,v⟩ hy=>by
  rcases S.par n (Xy hy).1 with q|q
  . exact .inl q
  . exact .inr ⟨q,Wk _ _ _ (.inl q)⟩
 refine codeAny_call_function hr.depth (KX _ _ lk) rfl S.co S.gen rfl (PySem.W.codeRec_of KX hcd) (hb _ _ _ _ ?_);refine wpAny_newFunctionEnv_cells S.kind hkind λ env he s1 x=>?_;subst he;refine⟨lim.keeps x.toInCall.keep,codeAny_func ?_⟩;obtain⟨t,ht,hq⟩:=hbody A outer s H vs Q E (hr.deeper _) hsp;have I:Inv (sT CX P w K mg base N qual scope f cdv A outer s H E) [] (start N vs) H s1:=Hc S hr.hd e0 hl r x;refine V1 (ht [] s1 (start N vs) H _ I hq) (λ fl s' hs=>?_) λ e s' hs=>hs
 have fin:∀ {σ':St} {H':Hp} {v:V} {u:Value},Inv (sT CX P w K mg base N qual scope f cdv A outer s H E) [] σ' H' s'->RelV v u->Q v H'->CE outer P w H s Q u s':=
  λ{σ' H' v u} J rv q=>⟨v,H',J.os,J.bare,J.base,J.aO,rv,q⟩
 cases fl with
 |ret u=>
  obtain⟨v,σ',H',J,rv,q⟩:=hs;exact fin J rv q
 |next=>
  obtain⟨σ',H',J,q⟩:=hs;exact fin (v:=V.aD) (u:=Value.none) J rfl q
 |brk=>
  obtain⟨_,_,_,q⟩:=hs;exact False.elim q
 |cont=>
  obtain⟨_,_,_,q⟩:=hs;exact False.elim q
section
variable {X:Cx}{x:Str}{p pos:Pos}{e:Expr}{es:List Expr}{t:TA}{id T:String}{r:List V->Hp->VK->Prop}
def PU(r:List V->Hp->VK->Prop)(t:TA):TE:=λ σ H Q=>t σ H λ vs H1=>r vs H1 Q
def JQ(hc:cM X (.builtin id) r)(hg:Gl X x)(hm:X.mg x=none)(hv:bootBuiltins x=some (.builtin id))(ha:PA X (e::es) t)(hn:x≠"__name__":=by decide)(hdb:(x==("__debug__":Str))=false:=by decide)
 (he:starEach (e::es) X.env=(false,eval e X.env)::starEach es X.env:=by rfl) (hpl:(backTo pos (starEach es X.env)).any (·.1)=false:=by rfl):PE X (.Call (.Name x p) (e::es) [] pos) (PU r t):=by
 intro pins s σ H Q I h;refine WH (mn I hg hm hv ?_ hn hdb);exact PyProof.Rows.callWith_builtin1 (cw (ha pos pins s σ H _ I h) λ us s1 ⟨vs,H1,I1,r1,q1⟩=>hc pins s1 σ H1 vs us Q I1 r1 q1) he hpl
def Hf(hc:cM X (.type T) r)(hg:Gl X x)(hm:X.mg x=none)(hv:bootBuiltins x=some (.type T))(ha:PA X (e::es) t)(hn:x≠"__name__":=by decide)(hdb:(x==("__debug__":Str))=false:=by decide)
 (he:starEach (e::es) X.env=(false,eval e X.env)::starEach es X.env:=by rfl) (hpl:(backTo pos (starEach es X.env)).any (·.1)=false:=by rfl):PE X (.Call (.Name x p) (e::es) [] pos) (PU r t):=by
 intro pins s σ H Q I h;refine WH (mn I hg hm hv ?_ hn hdb);exact VF (cw (ha pos pins s σ H _ I h) λ us s1 ⟨vs,H1,I1,r1,q1⟩=>hc pins s1 σ H1 vs us Q I1 r1 q1) he hpl
end
end L2
namespace HT
open PySem PyProof.Rows
section
open PySem.SeqAt
open PySem.AutoSeq1 (wpAny_loadPart')
open PySem.MeetsSeq PySem.MeetsSeq2 PySem.MeetsSeq3
end
section
variable {prog:Program}{w:World}{A:Around}{E:Value->Shared->Prop}{s:Shared}
def Mh{t b:Addr}{vs ws:List Value}{Q:Value->Shared->Prop}(ht:IsTup s.heap t vs.toArray)(hb:IsTup s.heap b ws.toArray)(hv:vs≠ [])
 (h1:ws=[]->Q (.ref t) s) (h2:ws≠ []->Q (.ref s.heap.objs.size) {s with heap:=s.heap.push {cls:= .type "tuple",data:= .seq (vs++ws).toArray}})
 (hsz:vs.length+ws.length<=sizeLine):wpAny (model prog w) A (binaryOp .Add (.ref t) (.ref b)) Q E s:=by
 obtain⟨⟨cls,dd,data,sl⟩,ho,hc,n,hd⟩:=id ht;obtain⟨⟨cls2,dd2,data2,sl2⟩,ho2,hc2,n2,hd2⟩:=id hb;simp only at hc hd hc2 hd2;subst hc hd hc2 hd2;have e:vs.toArray++ws.toArray=(vs++ws).toArray:=by simp
 by_cases hw:ws=[]
 . exact Y3 ⟨_,ho,rfl⟩ ⟨_,ho2,rfl⟩ Yv Y0 Xk Xd (W5 _ _)
    (tuple_addW1 t b vs.toArray ws.toArray n n2 dd dd2 sl sl2 (by simpa using hv) (by simp[hw])) ⟨ho,ho2,h1 hw⟩
 . refine Y3 ⟨_,ho,rfl⟩ ⟨_,ho2,rfl⟩ Yv Y0 Xk Xd (W5 _ _)
    (tuple_addW2 t b vs.toArray ws.toArray n n2 dd dd2 sl sl2 (by simpa using hv) (by simpa using hw) (by rw[Ut,Ut];exact hsz)) ⟨ho,ho2,?_⟩
   rw[e];exact h2 hw
def cF(n d:Nat):Option Int->Nat
 |none=>d
 |some v=>if v<0 then(v+(n:Int)).toNat else min v.toNat n
def xj(n d:Nat):cF n d none=d:=rfl
def zK(n d k:Nat):cF n d (some (k:Int))=min k n:=by
 show(if(k:Int)<0 then((k:Int)+(n:Int)).toNat else min (k:Int).toNat n)=min k n;rw[Up (by omega),UJ]
def Ot(n d:Nat)(hd:d<=n)(o:Option Int):cF n d o<=n:=by
 cases o with
 |none=>exact hd
 |some v=>
  show(if v<0 then(v+(n:Int)).toNat else min v.toNat n)<=n;by_cases hv:v<0
  . rw[Ur hv];omega
  . rw[Up hv];exact Nat.min_le_right _ _
def EK(v:Int)(n d:Nat):(if v<0 then max (v+(n:Int)) 0 else min v (n:Int))=((cF n d (some v):Nat):Int):=by
 show(if v<0 then max (v+(n:Int)) 0 else min v (n:Int))=(((if v<0 then(v+(n:Int)).toNat else min v.toNat n):Nat):Int)
 by_cases hv:v<0
 . simp only[Ur hv];omega
 . simp only[Up hv];omega
def F9(lo hi:Option Int)(n:Nat):Builtin.Slice.sliceAdjust lo hi 1 (n:Int)=(((cF n 0 lo:Nat):Int),((cF n n hi:Nat):Int)):=by
 have h1:¬((1:Int)<0):=by omega
 unfold Builtin.Slice.sliceAdjust;simp only[h1,WS];refine Prod.ext ?_ ?_
 . cases lo with
   |none=>rfl
   |some v=>exact EK v n 0
 . cases hi with
   |none=>rfl
   |some v=>exact EK v n n
def FC(i j:Nat):Builtin.Slice.slicePlaces (i:Int) (j:Int) 1=j-i:=by
 unfold Builtin.Slice.slicePlaces;have h1:(1:Int)>0:=by omega
 simp only[h1,WW,Int.ediv_one];split<;>omega
def yp{v:Value}{o:Option Int}{Q:Option Int->Shared->Prop}(p:IsPart v o)(h:Q o s):wpAny (model prog w) A (Builtin.Slice.slicePartIndex v) Q E s:=by
 cases p with
 |none=>exact slicePart_none h
 |int i t=>exact slicePart_int h
def p7{sl:Addr}{vl vu:Value}{lo hi:Option Int}{n:Nat}{Q:Int×Int×Nat->Shared->Prop}(hs:s.heap.IsSliceOf sl vl vu .none)(pl:IsPart vl lo)(pu:IsPart vu hi)
 (h:Q (((cF n 0 lo:Nat):Int),1,cF n n hi-cF n 0 lo) s):wpAny (model prog w) A (Builtin.Slice.sliceApplied (.ref sl) (pure (n:Int))) Q E s:=by
 obtain⟨os,hos,hcs,hds⟩:=id hs;unfold Builtin.Slice.sliceApplied Builtin.Slice.sliceFields;refine Uj (Uj (Vy hos hds (x:=vl) rfl (Uj (Vy hos hds (x:=vu) rfl (Uj (Vy hos hds (x:= .none) rfl (Uw ?_)))))));refine Uj (slicePart_none ?_);show wpAny _ _ (if((1:Int)==0)=true then _ else _) _ _ s;rw[Up (by decide)];refine Uj (yp pl (Uj (yp pu (Uj (Uw ?_)))));show wpAny _ _ (match Builtin.Slice.sliceAdjust lo hi 1 (n:Int)with|(lo,hi)=>pure (lo,(1:Int),Builtin.Slice.slicePlaces lo hi 1)) _ _ s;rw[F9 lo hi n];show wpAny _ _ (pure (((cF n 0 lo:Nat):Int),(1:Int),Builtin.Slice.slicePlaces ((cF n 0 lo:Nat):Int) ((cF n n hi:Nat):Int) 1)) _ _ s;rw[FC];exact Uw h
def J8(xs:Array Value)(i k:Nat):((List.range k).filterMap λ(m:Nat)=>xs[((i:Int)+(m:Int)*1).toNat]?).toArray=((xs.toList.drop i).take k).toArray:=by
 have e:(λ(m:Nat)=>xs[((i:Int)+(m:Int)*1).toNat]?)=λ m=>xs[i+m]?:=by
  funext m;have:((i:Int)+(m:Int)*1).toNat=i+m:=by omega
  rw[this]
 rw[e];have:=pick_run xs i k;rw[List.filterMap_map]at this;have e2:((λ x=>xs[x]?)∘λ x=>i+x)=λ m=>xs[i+m]?:=rfl;rw[e2]at this;rw[this]
def wq{t sl:Addr}{items:Array Value}{vl vu:Value}{lo hi:Option Int}{Q:Value->Shared->Prop}(ht:IsTup s.heap t items)(hs:s.heap.IsSliceOf sl vl vu .none)(pl:IsPart vl lo)(pu:IsPart vu hi)
 (hw:¬(cF items.size 0 lo=0/\cF items.size items.size hi=items.size))
 (h:Q (.ref s.heap.objs.size) {s with heap:=s.heap.push {cls:= .type "tuple",data:= .seq ((items.toList.drop (cF items.size 0 lo)).take (cF items.size items.size hi-cF items.size 0 lo)).toArray}})
 (hsz:items.size<=sizeLine):wpAny (model prog w) A (getItem (.ref t) (.ref sl)) Q E s:=by
 have htake:sizeOk (.seq ((items.toList.drop (cF items.size 0 lo)).take (cF items.size items.size hi-cF items.size 0 lo)).toArray):=by
  show((items.toList.drop (cF items.size 0 lo)).take (cF items.size items.size hi-cF items.size 0 lo)).toArray.size<=sizeLine;rw[Ut,Vo,VH,WC];omega
 have hj:cF items.size items.size hi<=items.size:=Ot _ _ (Uk _) hi;obtain⟨os,hos,hcs,hds⟩:=id hs;have hTs:s.TypeIs (.ref sl) "slice":=⟨os,hos,hcs⟩
 unfold getItem;try with_reducible refine WG ?_
 first|refine Uj (Uw ?_)|skip
 refine Uj (wpAny_sequenceKey ht.typeIs (by decide) ?_)
 refine Uj (VG (name:=Str.ofString "__getitem__") ht.typeIs Vu
  (We Vu ht.typeIs entry_tuple_getitem ?_ (args_tuple_getitem _ _)))
 show wpAny _ _ (Builtin.Tuple.tupleItemsOf (.ref t) >>= _) _ _ s;refine Uj (tupleItemsOf_ ht ?_);refine Uj (Y4 hTs ?_);rw[Ur (by decide)];refine Uj (p7 hs pl pu ?_)
 have hno:¬((((cF items.size 0 lo:Nat):Int)==0&&(1:Int)==1&&(cF items.size items.size hi-cF items.size 0 lo)==items.size)=true):=by
  intro q;rw[U0,U0]at q;have q1:((cF items.size 0 lo:Nat):Int)=0:=eq_of_beq q.1.1;have q2:cF items.size items.size hi-cF items.size 0 lo=items.size:=eq_of_beq q.2;exact hw ⟨by omega,by omega⟩
 show wpAny _ _ (if(((cF items.size 0 lo:Nat):Int)==0&&(1:Int)==1&&(cF items.size items.size hi-cF items.size 0 lo)==items.size)=true then _ else _) _ _ s;rw[Up hno,J8]
 first
  |exact Uj (m:=Builtin.Tuple.tupleExact _) (Wa (Uw ⟨_,rfl,Uw h⟩) htake)
  |exact Uj (m:=Builtin.Tuple.tupleExact _) (Wa (Uj (Uw (Uw ⟨_,rfl,Uw h⟩))) htake)
  |exact Uj (Uj (m:=Builtin.Tuple.tupleExact _) (Wa (Uw (Uw ⟨_,rfl,Uw h⟩)) htake))
  |exact Uj (Uj (m:=Builtin.Tuple.tupleExact _) (Wa (Uw ⟨_,rfl,Uw h⟩) htake))
end
end HT
namespace L2
open PySem PySem.Spec PyProof.Rows
abbrev TO:=St->Hp->(Option Int->Hp->Prop)->Prop
def PO(X:Cx)(e:Option Expr)(t:TO):Prop:=
 ∀(pins:List (Addr×Obj)) (s:Shared) (σ:St) (H:Hp) (Q:Option Int->Hp->Prop),Inv X pins σ H s->t σ H Q->
  wpAny (model X.prog X.w) X.A (evalPart e X.env) (λ u s'=>∃o H',Inv X pins σ H' s'/\IsPart u o/\Q o H') X.xe s
def NB:TO:=λ _ H Q=>Q none H
def Rk(t:TE):TO:=λ σ H Q=>t σ H λ x H1=>∃i,x= .int i/\Q (some i) H1
section
variable {X:Cx}{e:Expr}{te:TE}{lo hi:Option Expr}{tl th:TO}{pos p2:Pos}
def L_:PO X none NB:=by
 intro pins s σ H Q I h;rw[evalPart_none];exact Uw ⟨none,H,I,.none,h⟩
def Mm(h:PE X e te):PO X (some e) (Rk te):=by
 intro pins s σ H Q I hw;rw[evalPart_some];refine cw (h pins s σ H _ I hw) λ u s1 ⟨x,H1,I1,r1,q1⟩=>?_;obtain⟨i,rfl,q⟩:=q1;obtain⟨t,rfl⟩:=r1;exact⟨some i,H1,I1,.int i t,q⟩
def GA(X:Cx)(r:V->Option Int->Option Int->Hp->VK->Prop):Prop:=
 ∀(pins:List (Addr×Obj)) (s:Shared) (σ:St) (H:Hp) (x:V) (v vl vu:Value) (lo hi:Option Int) (sl:Addr) (Q:VK),Inv X pins σ H s->RelV x v->s.heap.IsSliceOf sl vl vu .none->IsPart vl lo->IsPart vu hi->r x lo hi H Q->
  ∃T id,typeLookup (.type T) "__getitem__"=pure (some (.builtin id))/\s.TypeIs v T/\wpAny (model X.prog X.w) X.A (getItem v (.ref sl)) (EP X pins σ Q) X.xe s
def T7(r:V->Option Int->Option Int->Hp->VK->Prop)(te:TE)(tl th:TO):TE:=λ σ H Q=>te σ H λ x H1=>tl σ H1 λ l H2=>th σ H2 λ u H3=>r x l u H3 Q
def Ke{r:V->Option Int->Option Int->Hp->VK->Prop}(hr:GA X r)(he:PE X e te)(hl:PO X lo tl)(hu:PO X hi th):PE X (.Subscript e (.Slice lo hi none p2) pos) (T7 r te tl th):=by
 intro pins s σ H Q I h;refine Subscript_ (cw (he pins s σ H _ I h) λ v s1 ⟨x,H1,I1,r1,q1⟩=>?_);refine wpAny_Slice (cw (hl pins s1 σ H1 _ I1 q1) λ vl s2 ⟨l,H2,I2,pl,q2⟩=>cw (hu pins s2 σ H2 _ I2 q2) λ vu s3 ⟨u,H3,I3,pu,q3⟩=>?_);rw[evalPart_none];refine Uw ?_;have I4:Inv X pins σ H3 {s3 with heap:=s3.heap.push {cls:= .type "slice",data:= .fields #[vl,vu,.none]}}:=I3.kept (t':=s3.toks) λ b ob q=>Uo _ q;obtain⟨T,id,hT,ht,hg⟩:=hr pins {s3 with heap:=s3.heap.push {cls:= .type "slice",data:= .fields #[vl,vu,.none]}} σ H3 x v vl vu l u s3.heap.objs.size Q I4 r1 (Heap.IsSliceOf.new ..) pl pu q3;show wpAny (model X.prog X.w) X.A (subscriptTail e (.Slice lo hi none p2) v (.ref s3.heap.objs.size)) (EP X pins σ Q) X.xe {s3 with heap:=s3.heap.push {cls:= .type "slice",data:= .fields #[vl,vu,.none]}};exact tail_any (ops:=[.ref s3.heap.objs.size,v]) ht hT hg (by with_unfolding_all rfl)
def uj(xs:List V)(lo hi:Option Int):List V:=(xs.drop (HT.cF xs.length 0 lo)).take (HT.cF xs.length xs.length hi-HT.cF xs.length 0 lo)
def wK(xs:List V)(lo hi:Option Int):(uj xs lo hi).length<=xs.length:=by
 unfold uj;rw[Vo,VH];omega
def SH(K:PySem.W.Frag):V->Option Int->Option Int->Hp->VK->Prop:=λ x lo hi H Q=>∃a xs,x= .ref a/\j7 K H a xs/\
 ¬(HT.cF xs.length 0 lo=0/\HT.cF xs.length xs.length hi=xs.length)/\∀p,H p=none->Q (.ref p) (upd H p (.tup (uj xs lo hi)))
def PM:GA X (SH X.K):=by
 intro pins s σ H x v vl vu lo hi sl Q I rx hs pl pu h;obtain⟨a,xs,rfl,hx,hw,q⟩:=h;cases rx;obtain⟨av,r,ht,hz⟩:=I.tuple hx;have hlen:av.toArray.size=xs.length:=by rw[Ut];exact r.length.symm
 refine⟨"tuple",_,Vu.lookup,ht.typeIs,?_⟩;refine HT.wq ht hs pl pu (by rw[hlen];exact hw) ?_ (by rw[hlen];exact hz);rw[hlen];refine⟨.ref s.heap.objs.size,_,I.laid (t':=s.toks) (o:= .tup (uj xs lo hi)) (λ b ob q=>Uo _ q) (Uk _) ?_,rfl,q _ (I.aO.fresh (Uk _))⟩;exact⟨Um (wK xs lo hi) hz,_,(r.drop (HT.cF xs.length 0 lo)).take (HT.cF xs.length xs.length hi-HT.cF xs.length 0 lo),IsTup.new _ _⟩
def QG(K:PySem.W.Frag):R2:=λ x y H Q=>∃a b xs ys,x= .ref a/\y= .ref b/\j7 K H a xs/\j7 K H b ys/\xs≠ []/\xs.length+ys.length<=sizeLine/\
 (ys=[]->Q (.ref a) H)/\(ys≠ []->∀p,H p=none->Q (.ref p) (upd H p (.tup (xs++ys))))
def Vals.vU{xs:List V}{us:List Value}(r:Vals xs us):us=[]↔xs=[]:=by
 cases r with
 |nil=>simp
 |cons _ _=>simp
def MT:ck X (binaryOp .Add) (QG X.K):=by
 intro pins s σ H x y v u Q I rx ry h;obtain⟨a,b,xs,ys,rfl,rfl,ha,hb,hx,hz,q1,q2⟩:=h;cases rx;cases ry;obtain⟨av,r1,p1,_⟩:=I.tuple ha;obtain⟨its2,r2,p2,_⟩:=I.tuple hb;refine HT.Mh p1 p2 (λ z=>hx (r1.vU.mp z)) (λ z=>⟨.ref a,H,I,rfl,q1 (r2.vU.mp z)⟩) (λ z=>?_) (by rw[<-r1.length,<-r2.length];exact hz);refine⟨.ref s.heap.objs.size,_,I.laid (t':=s.toks) (o:= .tup (xs++ys)) (λ b ob q=>Uo _ q) (Uk _) ?_,rfl,q2 (λ w=>z (r2.vU.mpr w)) _ (I.aO.fresh (Uk _))⟩;exact⟨by rw[Vv];exact hz,_,r1.append r2,IsTup.new _ _⟩
end
def jV(n:Nat)(i:Int):Option Nat:=if 0<=i then(if i<n then some i.toNat else none)else if-(n:Int)<=i then some (i+n).toNat else none
def d_{α:Type}(xs:List α)(i:Int):Option α:=(jV xs.length i).bind λ j=>xs[j]?
def zL{n:Nat}{i:Int}{j:Nat}(h:jV n i=some j):seqIndex? i n=some j/\j<n/\ -(n:Int)<=i/\i<n:=by
 unfold jV at h;by_cases h0:0<=i
 . rw[Ur h0]at h;by_cases h1:i<n
   . rw[Ur h1]at h;have e:i.toNat=j:=Vk h;exact⟨by rw[seqIndex_of h0 h1,e],by omega,by omega,h1⟩
   . rw[Up h1]at h;cases h
 . rw[Up h0]at h;by_cases h1: -(n:Int)<=i
   . rw[Ur h1]at h;have e:(i+n).toNat=j:=Vk h;exact⟨by rw[seqIndex_neg (by omega) h1,e],by omega,h1,by omega⟩
   . rw[Up h1]at h;cases h
def zh{α:Type}{xs:List α}{i:Int}{v:α}(h:d_ xs i=some v):∃j,seqIndex? i xs.length=some j/\xs[j]?=some v/\j<xs.length/\ -(xs.length:Int)<=i/\i<xs.length:=by
 unfold d_ at h;cases e:jV xs.length i with
 |none=>rw[e]at h;cases h
 |some j=>
  rw[e]at h;obtain⟨h1,h2,h3,h4⟩:=zL e;exact⟨j,h1,h,h2,h3,h4⟩
def iS{α:Type}{xs:List α}{j:Nat}{v:α}(h:xs[j]?=some v):d_ xs (j:Int)=some v:=by
 have hj:j<xs.length:=(Ui.mp h).1
 have e:jV xs.length (j:Int)=some j:=by
  unfold jV;rw[Ur (by omega),Ur (by omega)];simp
 unfold d_;rw[e];exact h
def vA(b:Expr):Prop:=∀o i,subscripted b false o i=operate [o,i] (getItem o i)
def KY(X:Cx)(r:R2):Prop:=
 ∀(value slice:Expr) (pins:List (Addr×Obj)) (s:Shared) (σ:St) (H:Hp) (x y:V) (v u:Value) (Q:VK),Inv X pins σ H s->RelV x v->RelV y u->r x y H Q->
  subscripted slice false v u=operate [v,u] (getItem v u)->wpAny (model X.prog X.w) X.A (subscriptTail value slice v u) (EP X pins σ Q) X.xe s
def OC(X:Cx)(id:String)(r:V->List V->Hp->VK->Prop):Prop:=
 ∀(pins:List (Addr×Obj)) (s:Shared) (σ:St) (H:Hp) (x:V) (xs:List V) (v:Value) (us:List Value) (Q:VK),Inv X pins σ H s->RelV x v->Vals xs us->r x xs H Q->
  wpAny (model X.prog X.w) X.A (call (.builtin id) (v::us)) (EP X pins σ Q) X.xe s
section
variable {X:Cx}{a b:Expr}{ta tb:TE}{pos:Pos}
def Rr{r:R2}(hr:KY X r)(ha:PE X a ta)(hb:PE X b tb)(hs:vA b):PE X (.Subscript a b pos) (Ho r ta tb):=by
 intro pins s σ H Q I h;exact Subscript_ (Jz ha hb I h λ v u s2 x y H2 I2 rx ry q=>hr a b pins s2 σ H2 x y v u Q I2 rx ry q (hs _ _))
def To(K:PySem.W.Frag):R2:=λ x y H Q=>∃p xs i v,x= .ref p/\y= .int i/\oE K H p xs/\d_ xs i=some v/\Q v H
def S8(K:PySem.W.Frag):R2:=λ x y H Q=>∃p xs i v,x= .ref p/\y= .int i/\j7 K H p xs/\d_ xs i=some v/\Q v H
def Eh:KY X (To X.K):=by
 intro value slice pins s σ H x y v u Q I rx ry h hs;obtain⟨p,xs,i,z,rfl,rfl,hq,he,q⟩:=h;cases rx;obtain⟨t,rfl⟩:=ry;obtain⟨av,r,pl,hz⟩:=I.list hq;obtain⟨j,h1,h2,h3,h4,h5⟩:=zh he;obtain⟨w,ew,rw'⟩:=r.get h2;have hl:=r.length;have hn:=uY;have fin:EP X pins σ Q w s:=⟨z,H,I,rw',q⟩
 by_cases h0:0<=i
 . have hj:i.toNat=j:=by
    rw[seqIndex_of h0 h5]at h1;exact Vk h1
   exact item_listR pl.isList h0 (by omega) (by rw[hj];simpa using ew) fin hs
 . have hj:(i+(av.toArray.size:Int)).toNat=j:=by
    rw[seqIndex_neg (by omega) h4]at h1;rw[Ut,<-hl];exact Vk h1
   exact subscriptTail_builtinR (x:=w) pl.isList.typeIs slot_list_getitem.lookup
    (wpAny_getItem_list_neg (Q:=λ r s'=>r=w/\EP X pins σ Q r s') pl.isList (by omega) (by rw[Ut]<;>omega) (by omega) (by rw[hj];simpa using ew) ⟨rfl,fin⟩) hs
def Pl:KY X (S8 X.K):=by
 intro value slice pins s σ H x y v u Q I rx ry h hs;obtain⟨p,xs,i,z,rfl,rfl,hq,he,q⟩:=h;cases rx;obtain⟨t,rfl⟩:=ry;obtain⟨av,r,pl,hz⟩:=I.tuple hq;obtain⟨j,h1,h2,h3,h4,h5⟩:=zh he;obtain⟨w,ew,rw'⟩:=r.get h2;have hl:=r.length;have hn:=uY;have fin:EP X pins σ Q w s:=⟨z,H,I,rw',q⟩
 exact subscriptTail_builtinR (x:=w) pl.typeIs slot_tuple_getitem.lookup
  (getItem_tuple (j:=j) (Q:=λ r s'=>r=w/\EP X pins σ Q r s') pl (by omega) (by omega) (by rw[Ut,<-hl];exact h1) (by simpa using ew) ⟨rfl,fin⟩) hs
def Gn(av:List Value)(n j:Nat)(u:Value):Obj.mapSeq (·.setIfInBounds j u) {cls:= .type "list",data:= .seq av.toArray n}= {cls:= .type "list",data:= .seq (av.set j u).toArray n}:=by
 simp[Obj.mapSeq]
def Inv.lst{pins:List (Addr×Obj)}{σ:St}{H:Hp}{s:Shared}{p:Addr}{xs:List V}(I:Inv X pins σ H s)(h:H p=some (.lst xs)):
 ∃(av:List Value) (n:Nat),Vals xs av/\s.heap.get? p=some {cls:= .type "list",data:= .seq av.toArray n}/\xs.length<=sizeLine:=by
 obtain⟨z,av,n,r,e⟩:=I.aO p _ h;exact⟨av,n,r,e,z⟩
def Inv.PZ{pins:List (Addr×Obj)}{σ:St}{H:Hp}{s:Shared}{p:Addr}{xs ys:List V}{av its':List Value}{n n':Nat}{f:Obj->Obj}(I:Inv X pins σ H s)(h:H p=some (.lst xs))
 (ho:s.heap.get? p=some {cls:= .type "list",data:= .seq av.toArray n}) (hf:f {cls:= .type "list",data:= .seq av.toArray n}= {cls:= .type "list",data:= .seq its'.toArray n'}) (r:Vals ys its') (hz:ys.length<=sizeLine) (t:Nat):
 Inv X pins σ (upd H p (.lst ys)) {s with heap:=s.heap.update p f,toks:=t}:=by
 have e:(s.heap.update p f).get? p=some {cls:= .type "list",data:= .seq its'.toArray n'}:=by
  rw[Heap.get?_update_self f ho (by rw[hf]<;>rfl),hf]
 refine I.write (x:=p) (e:=p) (by rw[h];trivial) (.inl rfl) (λ b u hb q=>(YK _ _ (Uy hb)).trans q) ⟨_,e⟩ ?_;exact⟨hz,its',n',r,e⟩
def x8:V->V->V->Hp->(Hp->Prop)->Prop:=λ o i v H Q=>∃p xs k j,o= .ref p/\i= .int k/\H p=some (.lst xs)/\jV xs.length k=some j/\Q (upd H p (.lst (xs.set j v)))
def set_list:Ox X x8:=by
 intro pins s σ H o i v ov iv u Q I ro ri rv h;obtain⟨p,xs,k,j,rfl,rfl,hp,hj,q⟩:=h;cases ro;obtain⟨t,rfl⟩:=ri;obtain⟨av,n,r,ho,hz⟩:=I.lst hp;obtain⟨h1,h2,h3,h4⟩:=zL hj;have hl:=r.length;have hn:=uY
 have I':Inv X pins σ (upd H p (.lst (xs.set j v))) {s with heap:=s.heap.update p (Obj.mapSeq (·.setIfInBounds j u))}:=
  I.PZ hp ho (Gn av n j u) (r.set rv j) (by rw[UC];exact hz) s.toks
 by_cases h0:0<=k
 . have hk:k.toNat=j:=by
    rw[seqIndex_of h0 h4]at h1;exact Vk h1
   exact PySem.W.ki_setAt ho h0 (by omega) (by rw[Ut,<-hl];exact h4) (by rw[hk];exact⟨_,I',q⟩)
 . have hk:(k+(av.toArray.size:Int)).toNat=j:=by
    rw[seqIndex_neg (by omega) h3]at h1;rw[Ut,<-hl];exact Vk h1
   exact PySem.W.ki_setBack ho (by omega) (by rw[Ut,<-hl];exact h3) (by omega) (by rw[hk];exact⟨_,I',q⟩)
def CZ(lo hi:Option Int)(n:Nat):(sliceBounds lo hi none n).1=((HT.cF n 0 lo:Nat):Int)/\(sliceBounds lo hi none n).2.1=((HT.cF n n hi:Nat):Int)/\(sliceBounds lo hi none n).2.2=1:=by
 refine⟨?_,?_,rfl⟩
 . cases lo with
   |none=>simp[sliceBounds,HT.cF]
   |some i=>
    simp only[sliceBounds,HT.cF,Option.getD_none,show(1:Int)>0 by decide,WW];by_cases h:i<0
    . simp only[h,WW]<;>omega
    . simp only[h,WS]<;>omega
 . cases hi with
   |none=>simp[sliceBounds,HT.cF]
   |some i=>
    simp only[sliceBounds,HT.cF,Option.getD_none,show(1:Int)>0 by decide,WW];by_cases h:i<0
    . simp only[h,WW]<;>omega
    . simp only[h,WS]<;>omega
def AZ(av:List Value)(lo hi:Option Int):slicePick av.toArray lo hi none=((av.drop (HT.cF av.length 0 lo)).take (HT.cF av.length av.length hi-HT.cF av.length 0 lo)).toArray:=by
 obtain⟨h1,h2,h3⟩:=CZ lo hi av.toArray.size;unfold slicePick;rw[h1,h2,h3];simp only[sliceRange_one,pick_run,Ut]<;>rfl
def Ta(K:PySem.W.Frag):V->Option Int->Option Int->Hp->VK->Prop:=λ x lo hi H Q=>∃a xs,x= .ref a/\oE K H a xs/\∀p,H p=none->Q (.ref p) (upd H p (.lst (uj xs lo hi)))
def EI:GA X (Ta X.K):=by
 intro pins s σ H x v vl vu lo hi sl Q I rx hs pl pu h;obtain⟨a,xs,rfl,hx,q⟩:=h;cases rx;obtain⟨av,r,ht,hz⟩:=I.list hx;have hlen:=r.length;refine⟨"list",_,slot_list_getitem.lookup,ht.isList.typeIs,?_⟩;refine wpAny_getItem_list_slice ht.isList hs pl pu .none (by simp) ?_ (by rw[Ut]<;>omega);rw[AZ,<-hlen];refine⟨.ref s.heap.objs.size,_,I.laid (t':=s.toks) (o:= .lst (uj xs lo hi)) (λ b ob q=>Uo _ q) (Uk _) ?_,rfl,q _ (I.aO.fresh (Uk _))⟩;exact⟨Um (wK xs lo hi) hz,_,0,(r.drop (HT.cF xs.length 0 lo)).take (HT.cF xs.length xs.length hi-HT.cF xs.length 0 lo),UN _ rfl⟩
def Ca:cM X (.builtin "len") (λ xs H Q=>∃p ys,xs=[.ref p]/\(oE X.K H p ys\/j7 X.K H p ys)/\Q (.int ys.length) H):=by
 intro pins s σ H xs us Q I r h;obtain⟨p,ys,rfl,hq,q⟩:=h;obtain⟨u,rfl,rx⟩:=vals1 r;cases rx;have hn:=uY;rcases hq with hq|hq
 . obtain⟨av,r',pl,hz⟩:=I.list hq;have hlen:=r'.length;exact Calls.call_len_list pl.isList (by simp only[Ut]<;>omega) ⟨.int ys.length,H,I.tok _,⟨s.toks+1,by rw[Ut,hlen]⟩,q⟩
 . obtain⟨av,r',pl,hz⟩:=I.tuple hq;have hlen:=r'.length;exact len_tuple pl (by simp only[Ut]<;>omega) ⟨.int ys.length,H,I.tok _,⟨s.toks+1,by rw[Ut,hlen]⟩,q⟩
def Dk:cM X (.builtin "len") (λ xs H Q=>∃z,xs=[.str z]/\z.length<=sizeLine/\Q (.int z.length) H):=by
 intro pins s σ H xs us Q I r h;obtain⟨z,rfl,hz,q⟩:=h;obtain⟨u,rfl,t,rfl⟩:=vals1 r;have hn:=uY;exact len_str (by omega) ⟨.int z.length,H,I.tok _,⟨_,rfl⟩,q⟩
def vq:cM X (.type "list") (λ xs H Q=>∃p ys,xs=[.ref p]/\(oE X.K H p ys\/j7 X.K H p ys)/\∀l,H l=none->Q (.ref l) (upd H l (.lst ys))):=by
 intro pins s σ H xs us Q I r h;obtain⟨p,ys,rfl,hq,q⟩:=h;obtain⟨u,rfl,rx⟩:=vals1 r;cases rx
 have fin:∀(av:List Value),Vals ys av->ys.length<=sizeLine->∀(h':Heap) (c':Nat),(∀b o',s.heap.get? b=some o'->h'.get? b=some o')->
  h'.get? s.heap.objs.size=some {cls:= .type "list",dict:=none,data:= .seq av.toArray c',slots:= #[]}->EP X pins σ Q (.ref s.heap.objs.size) {s with heap:=h'}:=λ av r' hz h' c' kp e=>
  ⟨.ref s.heap.objs.size,_,I.laid (t':=s.toks) kp (Uk _) (show et X.prog X.w _ h' _ (.lst ys)from⟨hz,av,c',r',e⟩),rfl,q _ (I.aO.fresh (Uk _))⟩
 rcases hq with hq|hq
 . obtain⟨av,r',pl,hz⟩:=I.list hq;have hlen:=r'.length;obtain⟨o,ho,hc,n,hd⟩:=pl.isList;exact call_list_seq p (.inl rfl) ho hc hd (λ h' c' kp e=>fin av r' hz h' c' kp e) (by simp only[Ut]<;>omega)
 . obtain⟨av,r',pl,hz⟩:=I.tuple hq;have hlen:=r'.length;obtain⟨o,ho,hc,n,hd⟩:=pl;exact call_list_seq p (.inr rfl) ho hc hd (λ h' c' kp e=>fin av r' hz h' c' kp e) (by simp only[Ut]<;>omega)
def AX:cM X (.type "tuple") (λ xs H Q=>∃p ys,xs=[.ref p]/\((oE X.K H p ys/\∀l,H l=none->Q (.ref l) (upd H l (.tup ys)))\/(j7 X.K H p ys/\Q (.ref p) H))):=by
 intro pins s σ H xs us Q I r h;obtain⟨p,ys,rfl,h⟩:=h;obtain⟨u,rfl,rx⟩:=vals1 r;cases rx;rcases h with⟨hq,q⟩|⟨hq,q⟩
 . obtain⟨av,r',pl,hz⟩:=I.list hq;have hlen:=r'.length;refine call_tuple_list pl.isList (λ h' kp=>?_) (by simp only[Ut]<;>omega);have I1:Inv X pins σ H {s with heap:=h'}:=I.kept (t':=s.toks) kp
   have I2:Inv X pins σ (upd H h'.objs.size (.tup ys)) {s with heap:=h'.push {cls:= .type "tuple",data:= .seq av.toArray}}:=
    I1.laid (t':=s.toks) (λ b o e=>Uo _ e) (Uk _) (show et X.prog X.w _ _ _ (.tup ys)from⟨hz,av,r',IsTup.new _ _⟩)
   exact⟨.ref h'.objs.size,_,I2,rfl,q _ (I1.aO.fresh (Uk _))⟩
 . obtain⟨av,r',pl,hz⟩:=I.tuple hq;exact call_tuple_same pl ⟨.ref p,H,I,rfl,q⟩
def Sb(K:PySem.W.Frag)(T:String)(x:V)(H:Hp):Prop:=match x with
 | .str _=>T="str"
 | .int _=>T="int"
 | .ref p=>(T="list"/\∃xs,oE K H p xs)\/(T="tuple"/\∃o,K.lookup p=some o/\o.cls= .type "tuple"/\o.dict=none)\/
    (T="dict"/\((∃kvs,H p=some (.dK kvs))\/∃kvs,H p=some (.dT kvs)))\/(T="set"/\∃S n,H p=some (.set S n))
 |_=>False
def PB{pins:List (Addr×Obj)}{σ:St}{H:Hp}{s:Shared}{T:String}{x:V}{v:Value}(I:Inv X pins σ H s)(r:RelV x v)(ty:Sb X.K T x H):
 s.TypeIs v T/\∀a,v= .ref a->∃ob,s.heap.get? a=some ob/\ob.dict=none:=by
 cases x with
 |str z=>
  obtain⟨t,rfl⟩:=r;cases (show T="str" from ty);exact⟨typeIs_str s z t,λ _ e=>nomatch e⟩
 |int i=>
  obtain⟨t,rfl⟩:=r;cases (show T="int" from ty);exact⟨Yo s i t,λ _ e=>nomatch e⟩
 |ref p=>
  cases r;rcases ty with⟨rfl,xs,hq⟩|⟨rfl,o,hk,hc,hd⟩|⟨rfl,hk⟩|⟨rfl,S,n,hk⟩
  . obtain⟨av,_,pl,_⟩:=I.list hq;refine⟨pl.isList.typeIs,λ a e=>?_⟩;cases e;obtain⟨o,n,e,c,hd,_⟩:=pl;exact⟨o,e,hd⟩
  . refine⟨⟨o,I.i4 p o hk,hc⟩,λ a e=>?_⟩;cases e;exact⟨o,I.i4 _ o hk,hd⟩
  . have z:∃o,s.heap.get? p=some o/\o.ExactDict:=by
     rcases hk with⟨kvs,hk⟩|⟨kvs,hk⟩
     . obtain⟨_,_,_,_,o,_,_,e,ex,_⟩:=I.aO p _ hk;exact⟨o,e,ex⟩
     . obtain⟨_,_,_,_,o,_,_,e,ex,_⟩:=I.aO p _ hk;exact⟨o,e,ex⟩
    obtain⟨o,e,ex⟩:=z;refine⟨⟨o,e,ex.1⟩,λ a e2=>?_⟩;cases e2;exact⟨o,e,ex.2.1⟩
  . obtain⟨o,_,_,_,e,ex,_⟩:=I.aO p _ hk;refine⟨⟨o,e,ex.1⟩,λ a e2=>?_⟩;cases e2;exact⟨o,e,ex.2.1⟩
 |_=>exact False.elim ty
def OZ(K:PySem.W.Frag)(T:String)(r:V->List V->Hp->VK->Prop)(to:TE)(t:TA):TE:=λ σ H Q=>to σ H λ x H1=>Sb K T x H1/\t σ H1 λ xs H2=>r x xs H2 Q
variable {o e:Expr}{es:List Expr}{to:TE}{t:TA}{name:Str}{apos cpos:Pos}{T id:String}{r:V->List V->Hp->VK->Prop}
def K9(pa:PlainAttrs T)(slot:Slot T name id)(hty:typeOf (.builtin id)=pure (.type "method_descriptor"))(hm:OC X id r)(ho:PE X o to)(ha:PA X (e::es) t)
 (hbase:attributeBase o name X.env (eval o X.env)=eval o X.env:=by rfl)
 (hfew:((backTo cpos (starEach (e::es) X.env)).all (λ x=> !x.1)&&(backToKw cpos (keywordEach [] X.env)).all (λ x=>x.1.isSome)
   &&decide ((e::es).length+([]:List Keyword).length+(if([]:List Keyword).isEmpty then 0 else 1)<30))=true:=by rfl)
 (hline:(apos.endLine==cpos.line)=true:=by rfl) (hs:starEach (e::es) X.env=(false,eval e X.env)::starEach es X.env:=by rfl) (hplain:(backTo cpos (starEach es X.env)).any (·.1)=false:=by rfl):
 PE X (.Call (.Attribute o name apos) (e::es) [] cpos) (OZ X.K T r to t):=by
 intro pins s σ H Q I h;refine wpAny_Call_method_late hbase hfew hline rfl (cw (ho pins s σ H _ I h) λ v s1 ⟨x,H1,I1,r1,ty,q1⟩=>?_);obtain⟨h1,h2⟩:=PB I1 r1 ty;refine⟨T,id,pa,slot,hty,h1,h2,?_⟩;have hA:=ha cpos pins s1 σ H1 _ I1 q1;rw[hs]at hA⊢;refine Calls.callWith_builtin (by show(false||(backTo cpos (starEach es X.env)).any (·.1))=false;rw[hplain]<;>rfl) (Calls.evalArgs_plain ?_);exact cw hA λ us s2 ⟨vs,H2,I2,r2,q2⟩=>hm pins s2 σ H2 x vs v us Q I2 r1 r2 q2
/-xs.append(e),list.index on a module's tuple .. are OC facts of 06m-/
end
def Su(X:Cx)(id:String)(r:V->List V->Hp->VK->Prop):Prop:=
 ∀(pins:List (Addr×Obj)) (s:Shared) (σ:St) (H:Hp) (x:V) (xs:List V) (v:Value) (us:List Value) (Q:VK),Inv X pins σ H s->RelV x v->Vals xs us->r x xs H Q->
  wpAny (model X.prog X.w) X.A (call (.builtin id) (v::us)) (EP X pins σ Q) X.xe s
def Vals.one:∀ {x:V} {us:List Value},Vals [x] us->∃u,us=[u]/\RelV x u
 |_,_,.cons r .nil=>⟨_,rfl,r⟩
def Vals.eraseIdx:∀ {xs:List V} {us:List Value} (i:Nat),Vals xs us->Vals (xs.eraseIdx i) (us.eraseIdx i)
 |_,_,_,.nil=> .nil
 |_,_,0,.cons _ t=>t
 |_,_,i+1,.cons r t=> .cons r (Vals.eraseIdx i t)
def Vals.rep{xs:List V}{us:List Value}(h:Vals xs us):∀k:Nat,Vals (List.replicate k xs).flatten (List.replicate k us).flatten
 |0=> .nil
 |k+1=>by
  rw[Vn,Vn,VV,VV];exact Vals.append h (Vals.rep h k)
def Af{α:Type}:∀(l:List α) (i:Nat),(l.eraseIdx i).length<=l.length
 | [],_=>Uk _
 |_::_,0=>XR _
 |_::r,i+1=>Nat.succ_le_succ (Af r i)
def foldl_rep(av:List Value):∀(k:Nat) (acc:List Value),
 List.foldl (λ x1 x2=>x1++x2) acc.toArray (List.replicate k av.toArray)=(acc++(List.replicate k av).flatten).toArray
 |0,acc=>by simp
 |k+1,acc=>by
  have e:acc.toArray++av.toArray=(acc++av).toArray:=by simp
  have e2:(acc++av)++(List.replicate k av).flatten=acc++(List.replicate (k+1) av).flatten:=by
   rw[Vn,VV,Wt]
  rw[<-e2,<-foldl_rep av k (acc++av),<-e,Vn,List.foldl_cons]
section
variable {X:Cx}{pins:List (Addr×Obj)}{σ:St}{H:Hp}{s:Shared}{l b:Addr}{xs ys zs:List V}
def Inv.Ow{av its':List Value}{n:Nat}{f:Array Value->Array Value}{t':Nat}(I:Inv X pins σ H s)(hH:H l=some (.lst xs))
 (e:s.heap.get? l=some {cls:= .type "list",data:= .seq av.toArray n}) (hf:f av.toArray=its'.toArray) (hv:Vals ys its') (hz:ys.length<=sizeLine):
 Inv X pins σ (upd H l (.lst ys)) {s with heap:=s.heap.update l (Obj.mapSeq f),toks:=t'}:=by
 have q:=PySem.IsL.update e f;rw[hf]at q;refine I.write (x:=l) (e:=l) (by rw[hH];exact trivial) (.inl rfl) (λ b' u hb hu=>(YK s.heap (Obj.mapSeq f) (Uy hb)).trans hu) ⟨_,q⟩ ?_;exact⟨hz,its',_,hv,q⟩
def Inv.J0{av:List Value}{t':Nat}(I:Inv X pins σ H s)(hv:Vals ys av)(hz:ys.length<=sizeLine):
 Inv X pins σ (upd H s.heap.objs.size (.lst ys)) {s with heap:=s.heap.push {cls:= .type "list",data:= .seq av.toArray},toks:=t'}:=
 I.laid (λ _ _ q=>Uo _ q) (Uk _) ⟨hz,av,0,hv,UN _ rfl⟩
def Inv.fresh(I:Inv X pins σ H s):H s.heap.objs.size=none:=I.aO.fresh (Uk _)
def Inv.Pj(I:Inv X pins σ H s)(hH:H l=some (.lst xs)):xs.length<=sizeLine/\∃(av:List Value) (n:Nat),Vals xs av/\xs.length=av.length/\s.heap.get? l=some {cls:= .type "list",data:= .seq av.toArray n}:=by
 obtain⟨z,av,n,r,e⟩:=I.aO l _ hH;exact⟨z,av,n,r,r.length,e⟩
def Kx{n:Nat}(h:n<=sizeLine):Builtin.List.listTooLong n=false:=by
 unfold Builtin.List.listTooLong;exact UQ (by omega)
end
section
variable {X:Cx}
def ED:V->List V->Hp->VK->Prop:=λ x vs H Q=>∃l xs y,x= .ref l/\vs=[y]/\H l=some (.lst xs)/\xs.length<sizeLine/\Q .aD (upd H l (.lst (xs++[y])))
def Aa:Su X "list.append" ED:=by
 intro pins s σ H x vs v us Q I rx rv h;obtain⟨l,xs,y,rfl,rfl,hH,hz,q⟩:=h;cases rx;obtain⟨u,rfl,ru⟩:=rv.one;obtain⟨z,av,n,r,hl,e⟩:=I.Pj hH;refine WT F.slot_list_append ⟨_,e,rfl⟩ F.entry_list_append (F.args_list_append_2 _ _) (PySem.list_append l av.toArray n u (by rw[Ut];omega)) ⟨e,?_⟩;refine⟨.aD,_,I.Ow (its':=av++[u]) hH e (by simp) (r.append (.cons ru .nil)) ?_,rfl,q⟩;rw[Vv,Xq];omega
def HN:V->List V->Hp->VK->Prop:=λ x vs H Q=>∃l xs i k y,x= .ref l/\vs=[.int i]/\H l=some (.lst xs)/\ -(2^63)<=i/\i<2^63/\seqIndex? i xs.length=some k/\xs[k]?=some y/\Q y (upd H l (.lst (xs.eraseIdx k)))
def Ks:Su X "list.pop" HN:=by
 intro pins s σ H x vs v us Q I rx rv h;obtain⟨l,xs,i,k,y,rfl,rfl,hH,h1,h2,hk,hy,q⟩:=h;cases rx;obtain⟨u,rfl,ru⟩:=rv.one;obtain⟨t,rfl⟩:=ru;obtain⟨z,av,n,r,hl,e⟩:=I.Pj hH;obtain⟨w,hw,rw'⟩:=r.get hy
 refine WT F.slot_list_pop ⟨_,e,rfl⟩ F.entry_list_pop (F.args_list_pop_2 _ _)
  (MeetsSeq.list_pop_at l av.toArray n i t k w (fitsIndex_both h1 h2) (by rw[Ut,<-hl];exact hk) (by rw[<-Array.getElem?_toList];exact hw) (by rw[Ut];omega)) ⟨e,?_⟩
 refine⟨y,_,I.Ow (its':=av.eraseIdx k) hH e ?_ (r.eraseIdx k) ?_,rw',q⟩
 . show av.toArray.eraseIdxIfInBounds k=(av.eraseIdx k).toArray;rw[List.eraseIdxIfInBounds_toArray]
 . have:=Af xs k;omega
def len_rep{α:Type}(xs:List α)(k:Nat):(List.replicate k xs).flatten.length=k*xs.length:=by
 induction k with
 |zero=>simp
 |succ k ih=>rw[Vn,VV,Vv,ih,W6,Nat.add_comm]
end
section
variable {prog:Program}{w:World}{A:Around}{E:Value->Shared->Prop}{s:Shared}
set_option maxRecDepth 100000 in
end
section
variable {X:Cx}
end
end L2
namespace Att
open PySem PySem.W PySem.Calls PyProof.Rows
def yw{P:Params}{h:Heap}:∀(ns:List Int) (vs:List Value),WellAll P h vs (ns.map WData.int)->IntsAre vs ns:=by
 intro ns;induction ns with
 |nil=>
  intro vs w;rw[List.map_nil]at w;cases w;exact .nil
 |cons n ns ih=>
  intro vs w;rw[UY]at w;cases w with
  |cons a b=>
   cases a;exact .cons _ _ (ih _ b)
def HH{l:OpenLaw}{n:Nat}(hn:l.most=some n){P:Params}{h:Heap}{args:List WData}{vals:List Value}
 (hpre:l.row.toRowW.claim.pre args=true) (hwl:WellAll P h vals args):
 ∃a vs ns,vals=[Value.ref a]/\args=[WData.list (ns.map WData.int)]/\h.get? a=some {cls:= .type "list",data:= .seq vs.toArray}/\IntsAre vs ns/\ns.length<=n:=by
 have hsh:WShape.hasAll [] args [.list .int]=true:=(pre_splitW hpre).1;have hc:l.pre.holds [] {args:=args}=true:=(pre_splitW hpre).2;obtain⟨d,r,rfl,h1,h2⟩:=hasAllW_cons hsh;obtain rfl:=hasAllW_nil h2;obtain⟨xs,rfl,h3⟩:=hasW_list h1;obtain⟨ns,rfl⟩:=items_int h3
 have hlen:ns.length<=n:=by
  unfold OpenLaw.pre at hc
  have h4:(WTm.not (.lt (.lit (.int (n:Int))) (.len (.arg 0)))).holds [] {args:=[.list (ns.map .int)]}=true:=by
   have h4:=(holds_andW hc).1;rw[hn]at h4;exact h4
  have h5:=condW_of h4 (w_not (w_lt w_lit (w_len_list (w_arg rfl))));rw[Uh]at h5;refine WB λ q=>?_;have q':(n:Int)<((ns.length:Nat):Int):=by omega
  first
   |(rw[U9 q']at h5;exact absurd h5 (by decide))
   |(simp at h5;omega)
 cases hwl with
 |cons w1 w2=>
  cases w2;cases w1 with
  |list ho hall=>exact⟨_,_,ns,rfl,rfl,ho,yw ns _ hall,hlen⟩
def Im(l:OpenLaw)(args:List WData):l.row.toRowW.claim.post args (.bool true) args=true:=
 postW_of (r:=l.row.toRowW) (X:=(true==true))
  (show WShape.has [] (.bool true) .bool=true by first|rfl|decide|simp[WShape.has,WShape.arms,WShape.armsAll])
  (show(WTm.eq .res (.lit (.bool true))).value [] {args:=args,res:=some (.bool true),after:=args}=some (.bool (true==true))from w_eq_bool (w_res rfl) w_lit) rfl
def D3{l:OpenLaw}{n:Nat}{q:Program}{loose:List Str}{XP:(Str->Option Value)->Heap->Prop}{YP:World->Heap->Prop}{d:DefRec}
 (hn:l.most=some n) (hdf:d.params.defaults=[])
 (call:∀(w:World) (s₀ s₁:Shared) (mg mb:Str->Option Value) (fa:Addr) (o:Obj) (pm cd doc:Value) (a:Addr) (vs:List Value) (ns:List Int),
   Ground q loose [] XP w s₀ mg mb s₁.heap->YP w s₁.heap->
   s₁.heap.get? fa=some o->o.data= .func (docDef d.name d.params d.body d.scope pm cd doc)->s₁.heap.CodeRec cd d.name->mg d.name=some (.ref fa)->
   s₁.heap.get? a=some {cls:= .type "list",data:= .seq vs.toArray}->IntsAre vs ns->ns.length<=n->s₁.gens= #[]->
   codeAny (model l.prog w) callerA (.call (.ref fa) ⟨[.ref a],[]⟩) (λ r s'=>r= .ok (.ret (.bool true))/\OldK s₁.heap s'.heap/\s'.os=s₁.os/\AllBare s'.gens) s₁):
 WalkO q loose XP YP l.row.toRowW d [] (λ f vs=>PySem.call f vs):=by
 intro w s₀ s₁ mg mb G Y fa o pm cd doc dV kV ho hd hcd hD hmg hg args vals as hpre hlay hrd hwl hlo;obtain rfl:dV= .none:=Dflts.none hD hdf;obtain rfl:kV= .none:=Dflts.noKw hD;obtain⟨a,vs,ns,rfl,rfl,hobj,hints,hlen⟩:=HH hn hpre hwl;refine enter_call (Yu (call w s₀ s₁ mg mb fa o pm cd doc a vs ns G Y ho (fd_plain hd) hcd hmg hobj hints hlen hg) λ r s' hq=>?_);obtain⟨rfl,h2,h3,h4⟩:=hq;exact⟨.inl ⟨.bool true,.bool true,[],rfl,λ _=>rfl,.bool true,Im l _,λ _=>⟨List.Pairwise.nil,λ _ hm=>(nomatch hm)⟩⟩,h2,h3,h4⟩
section
variable {prog:Program}{w:World}{A:Around}{E:Value->Shared->Prop}{s:Shared}{K:Frag}
end
end Att
namespace L2
open PySem PySem.Spec PyProof.Rows
def rg:∀ {vs:List Value} {ns:List Int},IntsAre vs ns->Vals (ns.map V.int) vs
 |_,_,.nil=> .nil
 |_,_,.cons n t h=> .cons ⟨t,rfl⟩ (rg h)
end L2
/-THE LAST THEOREM (shape;LID,My.*are yours):
 My.Adr:a structure of the addresses that your layer names (classes,functions);My.Txt K t:a structure (Prop) of the equations over K;
 My.txt_mk:{K} {implicit addresses ..} (e1:nsIn K mainGlobals "law"=some (some (.ref f))) (e2:K.lookup f=some ⟨oc,od,.func (fnOf "law" "law" params body scope dV kV doc pm an cdv ct),sl⟩) (e3:codeIn K cdv "law"=true) .. :∃t,My.Txt K t
set_option maxRecDepth 100000 in
set_option maxHeartbeats 0 in
(the tactic k_is has no namespace:write k_is)-/
namespace L2
open PySem PySem.Spec PyProof.Rows
def inClass(s:Stmt)(j:Nat):Stmt:=match s with
 | .ClassDef _ _ _ body _ _ _ _ _ _ _=>body.getD j (.Pass ⟨0,0,0,0⟩)
 |_=> .Pass ⟨0,0,0,0⟩
def lO(s:Stmt):Arguments:=match s with
 | .FunctionDef _ a _ _ _ _ _ _ _ _=>a
 |_=>{posonlyargs:=[],args:=[],vararg:=none,kwonlyargs:=[],kw_defaults:=[],kwarg:=none,defaults:=[]}
def iI(s:Stmt):List Stmt:=match s with
 | .FunctionDef _ _ b _ _ _ _ _ _ _=>b
 |_=>[]
def ai(s:Stmt):Scope:=match s with
 | .FunctionDef _ _ _ _ _ _ sc _ _ _=>sc
 |_=>{kind:= .function,names:=[],isGenerator:=false,isCoroutine:=false}
abbrev cz:wG:=λ _ _ _ _ _ _=>False
abbrev E0:XK:=λ _ _ _=>False
def E7{X:Cx}:Passes cz X E0:=λ _ _ _ _ _ _ _ h=>h.elim
structure p8(K:PySem.W.Frag)(x qual:Str)(st:Stmt)(f:Addr)(fd:FuncData):Prop where
 ex:∃(oc:Value) (od:Option Addr) (kV doc pm:Value) (an:Option Addr) (cdv ct:Value) (osl:Array (Option Value)),
  fd=PySem.W.fnOf x qual (lO st) (iI st) (ai st) .none kV doc pm an cdv ct/\K.lookup f=some ⟨oc,od,.func fd,osl⟩/\PySem.W.codeIn K cdv qual=true
 kp:PySem.W.keepIn K (.ref f)=true
section
variable {P:Program}{w:World}{K:PySem.W.Frag}{mg:Str->Option Value}{base:Heap}
def p8.ok{x qual:Str}{st:Stmt}{f:Addr}{fd:FuncData}{N ps:List Str}{k:Nat}{sp:Sp}(F:p8 K x qual st f fd)(S:aQ N ps (ai st))(len:∀vs H Q E,sp vs H Q E->vs.length=ps.length)
 (hbody:∀(cdv:Value) (A:Around) (outer:List Env) (s:Shared) (H:Hp) (vs:List V) (Q:VK) (E:XK),dy k (A.deeper (envOfC qual (ai st) s.heap.objs.size f cdv))->sp vs H Q E->
   ∃t,i5 (sT cz P w K mg base N qual (ai st) f cdv A outer s H E).yf (iI st) t/\t {nx:=λ _ H'=>Q .aD H',rt:=Q} (start N vs) H):a_ P w K mg base cz (k+1) f fd ps sp:=by
 obtain⟨oc,od,kV,doc,pm,an,cdv,ct,osl,rfl,lk,hcd⟩:=F.ex;refine KZ lk hcd S len λ A outer s H vs Q E hr hsp=>?_;obtain⟨t,h,q⟩:=hbody cdv A outer s H vs Q E hr hsp;exact⟨t,h.yf,q⟩
def p8.binds{x qual:Str}{st:Stmt}{f:Addr}{fd:FuncData}{ps:List Str}(F:p8 K x qual st f fd)
 (h:∀(kV doc pm:Value) (an:Option Addr) (cdv ct:Value) (us:List Value),us.length=ps.length->bindArgs (PySem.W.fnOf x qual (lO st) (iI st) (ai st) .none kV doc pm an cdv ct) ⟨us,[]⟩=pure (ps.zip us)):Binds K fd ps []:=by
 obtain⟨oc,od,kV,doc,pm,an,cdv,ct,osl,rfl,lk,hcd⟩:=F.ex;exact .all (h kV doc pm an cdv ct)
def GF{x qual:Str}{st:Stmt}{f:Addr}{oc:Value}{od an:Option Addr}{osl:Array (Option Value)}{kV doc pm cdv ct:Value}(l:K.lookup f=some ⟨oc,od,.func (PySem.W.fnOf x qual (lO st) (iI st) (ai st) .none kV doc pm an cdv ct),osl⟩)
 (c:PySem.W.codeIn K cdv qual=true) (k:PySem.W.keepIn K (.ref f)=true):p8 K x qual st f (PySem.W.fnOf x qual (lO st) (iI st) (ai st) .none kV doc pm an cdv ct):=⟨⟨oc,od,kV,doc,pm,an,cdv,ct,osl,rfl,l,c⟩,k⟩
end
section
variable {X:Cx}
end
def fb{A B:Prop}(h:A):if true=true then A else B:=by
 rw[Ur rfl];exact h
def Kj(H H':Hp):Prop:=∀b o,H b=some o->H' b=some o
end L2
set_option maxHeartbeats 4000000
namespace Hd
open PySem PySem.W PySem.Calls PyProof.Rows
noncomputable def bt (P:Params):BT:=(.node (boot_o_0 P) (.node (boot_o_1 P) (.node (boot_o_3 P) (.node (boot_o_7 P) .nil .nil) .nil) (.node (boot_o_5 P) (.node (boot_o_9 P) .nil .nil) .nil)) (.node (boot_o_2 P) (.node (boot_o_4 P) (.node (boot_o_8 P) .nil .nil) .nil) (.node (boot_o_6 P) (.node (boot_o_10 P) .nil .nil) .nil)))
def N_(P:Params):absHeap (bt P) 11 (boot_heap P).life=boot_heap P:=by kernel_rfl
noncomputable def run (p:Program) (w:World) (n:Nat) (ann:Option Value):Nat->SharedT->Thread->Option SharedT
 |0,_,_=>none
 |k+1,s,t=>match through t with
  |true=>some s
  |false=>match Fast.tw6613529449190102663 n ann t with
   |false=>none
   |true=>match Fast.tw10156331382660048174 (Fast.tw11892475500146522536 Fast.tw14364793385576792824) p w s t with
    |some (s',t')=>run p w n ann k s' t'
    |none=>none
def GJ{p:Program}{w:World}{n:Nat}{ann:Option Value}:∀ {k:Nat} {s s':SharedT} {t:Thread},run p w n ann k s t=some s'->topRun treeTable p w n ann k s.abs t=some s'.abs
 |0,_,_,_,h=>by cases h
 |k+1,s,s',t,h=>by
  unfold run at h;unfold topRun;cases he:through t with
  |true=>rw[he]at h;cases h;rfl
  |false=>
   rw[he]at h;rw[<-Fast.te6613529449190102663,<-Fast.te10156331382660048174,<-Fast.te11892475500146522536,<-Fast.te14364793385576792824]at h;cases hk:stepOk n ann t with
   |false=>simp only[hk]at h;cases h
   |true=>
    simp only[hk]at h;cases hs:stepT (denote treeTable) p w s t with
    |none=>rw[hs]at h;cases h
    |some r=>obtain⟨s2,t2⟩:=r;rw[hs]at h;rw[stepT_spec hs];exact GJ h
noncomputable def b0 (w:World) (os:OsState):SharedT:=⟨bt w.params,11,(boot_heap w.params).life,⟨[]⟩,boot_drawn,boot_toks,os⟩
def Oj(w:World)(os:OsState):(b0 w os).abs=⟨boot_heap w.params,⟨[]⟩,boot_drawn,boot_toks,os⟩:=by
 unfold b0 SharedT.abs;dsimp only;rw[N_]
def left{p q:Program}{loose:List Str}{α:Type}{Yf:Shared->α}{Ya:World->α}{N:Nat}
 (e:opening p=plainProg p.main.scope.names) (f:∀s,fenceModules? p s=some s) (hN:Nat.ble 600 N=true)
 (h:∀(w:World) (os:OsState),(run p w 11 (some (.ref 6)) N (b0 w os) (topStub p)).bind (λ s=>match staticsOk (importedModules p.main.body) (boot_heap w.params) s.abs.heap&&namesBound p s.abs.heap&&gensDone s.abs&&laidKept (boot_heap w.params) s.abs.heap with
   |true=>some (Fast.tw4187177175401517315 q loose (importedModules p.main.body) (λ _=>true) true s.abs,Yf s.abs)
   |false=>none)=some (openGood q loose,Ya w)):LeftO p q loose (λ _=>true) Yf Ya N:=λ w=>by
 obtain⟨⟨hp,gs,d,k,os⟩,e1,e2⟩:=WN.mp (boot_open e hN f w);obtain⟨rfl,rfl,rfl,rfl⟩:hp=boot_heap w.params/\gs=⟨[]⟩/\d=boot_drawn/\k=boot_toks:=by simpa using e2
 obtain⟨s,r1,r2⟩:=Option.bind_eq_some_iff.mp (h w os);have r3:=GJ r1;rw[Oj]at r3;rw[<-Fast.te4187177175401517315]at r2;unfold openEnds;rw[e1];show(topFrom treeTable p w N _).map _=_;unfold topFrom;rw[show((boot_heap w.params).isNs mainGlobals&&(⟨[]⟩:Array GenState).size==0)=true from by kernel_rfl];dsimp only;rw[show(boot_heap w.params).objs.size=11 from by kernel_rfl,show(boot_heap w.params).nsMap mainGlobals "__annotations__"=some (.ref 6)from by kernel_rfl,r3];show((match staticsOk (importedModules p.main.body) (boot_heap w.params) s.abs.heap&&namesBound p s.abs.heap&&gensDone s.abs&&laidKept (boot_heap w.params) s.abs.heap with|true=>some s.abs|false=>none):Option Shared).map _=_;cases z:(staticsOk (importedModules p.main.body) (boot_heap w.params) s.abs.heap&&namesBound p s.abs.heap&&gensDone s.abs&&laidKept (boot_heap w.params) s.abs.heap)with
 |false=>rw[z]at r2;cases r2
 |true=>rw[z]at r2;exact r2
abbrev e(x:Str)(t:Nat)(v:Value):Str×Nat×Value:=(x,t,v)
abbrev k(a:Addr)(o:Obj):Addr×Obj:=(a,o)
def no(P:Params)(n:Nat)(l:List (Str×Nat×Value)):Obj:=⟨.type "dict",none,.dict (l.map λ e=>⟨PyData.keyHash P e.1,.str e.1 e.2.1,e.2.2⟩).toArray n,#[]⟩
def fd(st:Stmt)(x q:Str)(pm:Value)(c:Addr):FuncData:=fnOf x q (L2.lO st) (L2.iI st) (L2.ai st) .none .none .none pm none (.ref c) .none
def fq(st:Stmt)(x q:Str)(pm:Value)(c:Addr):Obj:=⟨.type "function",none,.func (fd st x q pm c),#[]⟩
def co(x q:Str)(t:Nat)(line argc:Int)(a b:Addr)(u v:Value)(d:Addr)(i:Int)(z:Nat):Obj:=⟨.type "code",none,.fields #[.str x t,.str q (t+1),.str "/claim/cut.py" (t+2),.int line 0,.int argc 0,.int 0 0,.int 0 0,.int 3 0,.ref a,.bool true,.int 181 0,.ref b,.none,u,v,.ref d,.int i 0,.int line 0,.str "/claim/cut.py" z],#[]⟩
end Hd
namespace Row
open PySem L2
open PySem.Spec hiding items?
open PyProof.Rows hiding St
def top(i:Nat):Stmt:=PySem.Challenge.pw_latticeworks_k58_whole_equations_put_oth.main.body.getD i (.Pass ⟨0,0,0,0⟩)
abbrev PW:Program:=PySem.Challenge.pw_latticeworks_k58_whole_equations_put_oth
abbrev jB:Stmt:=top 1
abbrev jw:Stmt:=top 2
abbrev gp:Stmt:=top 3
abbrev fV:Stmt:=top 4
abbrev mZ:Stmt:=top 6
abbrev sM:Stmt:=top 7
abbrev sq:Stmt:=top 8
abbrev pA:Stmt:=top 9
abbrev pP:Stmt:=top 10
abbrev r9:Stmt:=top 11
abbrev pC:Stmt:=top 12
abbrev lJ:Stmt:=top 13
abbrev jW:Stmt:=top 15
abbrev mV:Stmt:=top 16
abbrev nj:Stmt:=top 17
abbrev j6:Stmt:=top 18
abbrev ly:Stmt:=top 19
abbrev fW:Stmt:=top 20
abbrev jc:Stmt:=top 21
abbrev ik:Stmt:=top 22
abbrev tx:Stmt:=top 23
abbrev ke:Stmt:=top 24
abbrev kD:Stmt:=top 25
abbrev iL:Stmt:=top 26
abbrev l8:Stmt:=top 28
abbrev fU:Stmt:=top 29
abbrev fk:Stmt:=top 30
abbrev eY:Stmt:=top 31
abbrev jv:Stmt:=top 32
abbrev kb:Stmt:=top 33
abbrev dG:Stmt:=inClass (top 34) 0
abbrev iE:Stmt:=inClass (top 34) 1
abbrev fC:Stmt:=inClass (top 34) 2
abbrev eJ:Stmt:=inClass (top 34) 3
abbrev dN:Stmt:=inClass (top 34) 4
abbrev gn:Stmt:=inClass (top 34) 5
abbrev eH:Stmt:=inClass (top 34) 6
abbrev kj:Stmt:=top 35
abbrev l_:Stmt:=top 36
abbrev pG:Stmt:=top 37
abbrev jA:Stmt:=top 39
abbrev jy:Stmt:=top 40
abbrev fR:Stmt:=top 41
abbrev ij:Stmt:=top 42
abbrev kh:Stmt:=top 43
abbrev gv:Stmt:=top 44
abbrev gq:Stmt:=top 46
abbrev ma:Stmt:=top 47
abbrev h8:Stmt:=top 49
abbrev gz:Stmt:=top 50
abbrev gj:Stmt:=top 51
abbrev gy:Stmt:=top 52
abbrev fP:Stmt:=top 53
abbrev ky:Stmt:=top 55
abbrev kE:Stmt:=top 56
abbrev j5:Stmt:=top 57
abbrev jb:Stmt:=top 59
abbrev gc:Stmt:=top 60
abbrev d8:Stmt:=top 61
abbrev cX:Stmt:=top 62
abbrev qI:Stmt:=top 63
def uq:Value:=(.str "latticeworks.kinds" 187)
def jL:Value:=(.str "latticeworks.fractions" 217)
def fF:Value:=(.str "latticeworks.rows" 285)
def dX:Value:=(.str "latticeworks.standing" 371)
def mO:Value:=(.str "latticeworks.inside" 534)
def Eo:Value:=(.str "latticeworks.answers" 589)
def qc:Value:=(.str "latticeworks.answercheck" 614)
def jn:Value:=(.str "law_latticeworks_k58_whole_equations_put_oth" 653)
def KX(P:Params):PySem.W.Frag:=[Hd.k 3 (Hd.no P 65 [Hd.e "__name__" 165 (.str "law_latticeworks_k58_whole_equations_put_oth" 653),Hd.e "__doc__" 166 .none,Hd.e "__package__" 167 .none,Hd.e "__loader__" 168 (.builtin "__main__.__loader__#opaque"),Hd.e "__spec__" 169 .none,Hd.e "__annotations__" 170 (.ref 6),Hd.e "__builtins__" 171 (.ref 4),Hd.e "__file__" 173 (.str "/claim/cut.py" 172),Hd.e "__cached__" 174 .none,Hd.e "is_number" 195 (.ref 21),Hd.e "is_listed" 202 (.ref 28),Hd.e "is_listed_of" 210 (.ref 35),Hd.e "are_numbers" 216 (.ref 40),Hd.e "common" 229 (.ref 47),Hd.e "part" 238 (.ref 54),Hd.e "plus" 246 (.ref 61),Hd.e "minus" 254 (.ref 68),Hd.e "times" 262 (.ref 75),Hd.e "over" 270 (.ref 82),Hd.e "whole" 277 (.ref 89),Hd.e "is_part" 284 (.ref 96),Hd.e "as_rows" 292 (.ref 101),Hd.e "added" 298 (.ref 106),Hd.e "sum_by" 310 (.ref 113),Hd.e "product" 316 (.ref 118),Hd.e "column" 322 (.ref 123),Hd.e "turned_over" 328 (.ref 128),Hd.e "unit_row" 334 (.ref 133),Hd.e "unit_rows" 340 (.ref 138),Hd.e "dot" 346 (.ref 143),Hd.e "is_rows" 352 (.ref 148),Hd.e "are_back" 361 (.ref 155),Hd.e "is_turn_of" 370 (.ref 162),Hd.e "lead_of" 381 (.ref 169),Hd.e "is_standing" 387 (.ref 174),Hd.e "standing_head" 393 (.ref 179),Hd.e "nearest_quotient" 401 (.ref 186),Hd.e "exchanged" 411 (.ref 193),Hd.e "negated" 417 (.ref 198),Hd.e "Bench" 501 (.ref 253),Hd.e "standing" 512 (.ref 264),Hd.e "weighed" 525 (.ref 271),Hd.e "falls" 533 (.ref 278),Hd.e "parts_dot" 546 (.ref 285),Hd.e "bottom_at" 556 (.ref 292),Hd.e "parts_against" 569 (.ref 299),Hd.e "are_parts" 575 (.ref 304),Hd.e "is_whole" 582 (.ref 311),Hd.e "parts_show" 588 (.ref 316),Hd.e "steps_behind" 598 (.ref 323),Hd.e "answers" 613 (.ref 330),Hd.e "is_answer" 621 (.ref 335),Hd.e "steps_show" 627 (.ref 340),Hd.e "answer_shows" 637 (.ref 347),Hd.e "turn_shows" 643 (.ref 352),Hd.e "shows_answers" 652 (.ref 359),Hd.e "_law_hand" 663 (.ref 366),Hd.e "_law_take" 674 (.ref 373),Hd.e "_law_dot" 680 (.ref 378),Hd.e "_law_less" 686 (.ref 383),Hd.e "_law_over" 692 (.ref 388),Hd.e "_law_turn" 698 (.ref 393),Hd.e "_law_any" 704 (.ref 398),Hd.e "_law_otherwise" 710 (.ref 403),Hd.e "law" 725 (.ref 410)]),
 Hd.k 20 (Hd.co "is_number" "is_number" 189 2 1 15 16 (.ref 17) (.ref 18) 19 193 194),
 Hd.k 21 (Hd.fq jB "is_number" "is_number" uq 20),
 Hd.k 27 (Hd.co "is_listed" "is_listed" 196 4 1 22 23 (.ref 24) (.ref 25) 26 200 201),
 Hd.k 28 (Hd.fq jw "is_listed" "is_listed" uq 27),
 Hd.k 34 (Hd.co "is_listed_of" "is_listed_of" 203 6 2 29 30 (.ref 31) (.ref 32) 33 208 209),
 Hd.k 35 (Hd.fq gp "is_listed_of" "is_listed_of" uq 34),
 Hd.k 39 (Hd.co "are_numbers" "are_numbers" 211 8 2 36 37 .none .none 38 214 215),
 Hd.k 40 (Hd.fq fV "are_numbers" "are_numbers" uq 39),
 Hd.k 46 (Hd.co "common" "common" 219 11 2 41 42 (.ref 43) (.ref 44) 45 227 228),
 Hd.k 47 (Hd.fq mZ "common" "common" jL 46),
 Hd.k 53 (Hd.co "part" "part" 230 19 2 48 49 (.ref 50) (.ref 51) 52 236 237),
 Hd.k 54 (Hd.fq sM "part" "part" jL 53),
 Hd.k 60 (Hd.co "plus" "plus" 239 24 2 55 56 (.ref 57) (.ref 58) 59 244 245),
 Hd.k 61 (Hd.fq sq "plus" "plus" jL 60),
 Hd.k 67 (Hd.co "minus" "minus" 247 26 2 62 63 (.ref 64) (.ref 65) 66 252 253),
 Hd.k 68 (Hd.fq pA "minus" "minus" jL 67),
 Hd.k 74 (Hd.co "times" "times" 255 28 2 69 70 (.ref 71) (.ref 72) 73 260 261),
 Hd.k 75 (Hd.fq pP "times" "times" jL 74),
 Hd.k 81 (Hd.co "over" "over" 263 30 2 76 77 (.ref 78) (.ref 79) 80 268 269),
 Hd.k 82 (Hd.fq r9 "over" "over" jL 81),
 Hd.k 88 (Hd.co "whole" "whole" 271 32 1 83 84 (.ref 85) (.ref 86) 87 275 276),
 Hd.k 89 (Hd.fq pC "whole" "whole" jL 88),
 Hd.k 95 (Hd.co "is_part" "is_part" 278 34 1 90 91 (.ref 92) (.ref 93) 94 282 283),
 Hd.k 96 (Hd.fq lJ "is_part" "is_part" jL 95),
 Hd.k 100 (Hd.co "as_rows" "as_rows" 287 37 1 97 98 .none .none 99 290 291),
 Hd.k 101 (Hd.fq jW "as_rows" "as_rows" fF 100),
 Hd.k 105 (Hd.co "added" "added" 293 39 3 102 103 .none .none 104 296 297),
 Hd.k 106 (Hd.fq mV "added" "added" fF 105),
 Hd.k 112 (Hd.co "sum_by" "sum_by" 299 41 3 107 108 (.ref 109) (.ref 110) 111 308 309),
 Hd.k 113 (Hd.fq nj "sum_by" "sum_by" fF 112),
 Hd.k 117 (Hd.co "product" "product" 311 46 2 114 115 .none .none 116 314 315),
 Hd.k 118 (Hd.fq j6 "product" "product" fF 117),
 Hd.k 122 (Hd.co "column" "column" 317 49 2 119 120 .none .none 121 320 321),
 Hd.k 123 (Hd.fq ly "column" "column" fF 122),
 Hd.k 127 (Hd.co "turned_over" "turned_over" 323 51 2 124 125 .none .none 126 326 327),
 Hd.k 128 (Hd.fq fW "turned_over" "turned_over" fF 127),
 Hd.k 132 (Hd.co "unit_row" "unit_row" 329 53 2 129 130 .none .none 131 332 333),
 Hd.k 133 (Hd.fq jc "unit_row" "unit_row" fF 132),
 Hd.k 137 (Hd.co "unit_rows" "unit_rows" 335 55 1 134 135 .none .none 136 338 339),
 Hd.k 138 (Hd.fq ik "unit_rows" "unit_rows" fF 137),
 Hd.k 142 (Hd.co "dot" "dot" 341 57 2 139 140 .none .none 141 344 345),
 Hd.k 143 (Hd.fq tx "dot" "dot" fF 142),
 Hd.k 147 (Hd.co "is_rows" "is_rows" 347 59 3 144 145 .none .none 146 350 351),
 Hd.k 148 (Hd.fq ke "is_rows" "is_rows" fF 147),
 Hd.k 154 (Hd.co "are_back" "are_back" 353 65 2 149 150 (.ref 151) (.ref 152) 153 359 360),
 Hd.k 155 (Hd.fq kD "are_back" "are_back" fF 154),
 Hd.k 161 (Hd.co "is_turn_of" "is_turn_of" 362 72 3 156 157 (.ref 158) (.ref 159) 160 368 369),
 Hd.k 162 (Hd.fq iL "is_turn_of" "is_turn_of" fF 161),
 Hd.k 168 (Hd.co "lead_of" "lead_of" 373 75 1 163 164 (.ref 165) (.ref 166) 167 379 380),
 Hd.k 169 (Hd.fq l8 "lead_of" "lead_of" dX 168),
 Hd.k 173 (Hd.co "is_standing" "is_standing" 382 80 1 170 171 .none .none 172 385 386),
 Hd.k 174 (Hd.fq fU "is_standing" "is_standing" dX 173),
 Hd.k 178 (Hd.co "standing_head" "standing_head" 388 90 1 175 176 .none .none 177 391 392),
 Hd.k 179 (Hd.fq fk "standing_head" "standing_head" dX 178),
 Hd.k 185 (Hd.co "nearest_quotient" "nearest_quotient" 394 93 2 180 181 (.ref 182) (.ref 183) 184 399 400),
 Hd.k 186 (Hd.fq eY "nearest_quotient" "nearest_quotient" dX 185),
 Hd.k 192 (Hd.co "exchanged" "exchanged" 402 95 3 187 188 (.ref 189) (.ref 190) 191 409 410),
 Hd.k 193 (Hd.fq jv "exchanged" "exchanged" dX 192),
 Hd.k 197 (Hd.co "negated" "negated" 412 100 1 194 195 .none .none 196 415 416),
 Hd.k 198 (Hd.fq kb "negated" "negated" dX 197),
 Hd.k 209 (Hd.co "__init__" "Bench.__init__" 430 104 2 206 207 .none .none 208 433 434),
 Hd.k 210 (Hd.fq dG "__init__" "Bench.__init__" dX 209),
 Hd.k 216 (Hd.co "take" "Bench.take" 436 109 4 211 212 (.ref 213) (.ref 214) 215 443 444),
 Hd.k 217 (Hd.fq iE "take" "Bench.take" dX 216),
 Hd.k 223 (Hd.co "exchange" "Bench.exchange" 446 114 3 218 219 (.ref 220) (.ref 221) 222 452 453),
 Hd.k 224 (Hd.fq fC "exchange" "Bench.exchange" dX 223),
 Hd.k 230 (Hd.co "change_sign" "Bench.change_sign" 455 119 2 225 226 (.ref 227) (.ref 228) 229 460 461),
 Hd.k 231 (Hd.fq eJ "change_sign" "Bench.change_sign" dX 230),
 Hd.k 235 (Hd.co "live_rows" "Bench.live_rows" 463 124 3 232 233 .none .none 234 466 467),
 Hd.k 236 (Hd.fq dN "live_rows" "Bench.live_rows" dX 235),
 Hd.k 242 (Hd.co "gather" "Bench.gather" 469 128 3 237 238 (.ref 239) (.ref 240) 241 478 479),
 Hd.k 243 (Hd.fq gn "gather" "Bench.gather" dX 242),
 Hd.k 249 (Hd.co "lower_above" "Bench.lower_above" 481 142 3 244 245 (.ref 246) (.ref 247) 248 488 489),
 Hd.k 250 (Hd.fq eH "lower_above" "Bench.lower_above" dX 249),
 Hd.k 252 (Hd.no P 4 [Hd.e "__module__" 425 (.str "latticeworks.standing" 371),Hd.e "__firstlineno__" 429 (.int (102) 428),Hd.e "__init__" 435 (.ref 210),Hd.e "take" 445 (.ref 217),Hd.e "exchange" 454 (.ref 224),Hd.e "change_sign" 462 (.ref 231),Hd.e "live_rows" 468 (.ref 236),Hd.e "gather" 480 (.ref 243),Hd.e "lower_above" 490 (.ref 250),Hd.e "__static_attributes__" 494 (.ref 251),Hd.e "__dict__" 496 (.ref 254),Hd.e "__weakref__" 498 (.ref 255),Hd.e "__doc__" 499 .none]),
 Hd.k 253 (⟨(.type "type"),none,.cls {name:="Bench",bases:=[(.type "object")],mro:=[(.ref 253),(.type "object")],ns:=252,qualname:="Bench",hasDict:=true,subclasses:=[],abstract:=false,hasDel:=false},#[none,none,(some (.str "Bench" 418)),(some (.str "Bench" 426)),(some (.builtin "object.__new__")),(some (.bool true))]⟩),
 Hd.k 263 (Hd.co "standing" "standing" 502 145 1 258 259 (.ref 260) (.ref 261) 262 510 511),
 Hd.k 264 (Hd.fq kj "standing" "standing" dX 263),
 Hd.k 270 (Hd.co "weighed" "weighed" 513 154 2 265 266 (.ref 267) (.ref 268) 269 523 524),
 Hd.k 271 (Hd.fq l_ "weighed" "weighed" dX 270),
 Hd.k 277 (Hd.co "falls" "falls" 526 163 2 272 273 (.ref 274) (.ref 275) 276 531 532),
 Hd.k 278 (Hd.fq pG "falls" "falls" dX 277),
 Hd.k 284 (Hd.co "parts_dot" "parts_dot" 536 166 2 279 280 (.ref 281) (.ref 282) 283 544 545),
 Hd.k 285 (Hd.fq jA "parts_dot" "parts_dot" mO 284),
 Hd.k 291 (Hd.co "bottom_at" "bottom_at" 547 171 3 286 287 (.ref 288) (.ref 289) 290 554 555),
 Hd.k 292 (Hd.fq jy "bottom_at" "bottom_at" mO 291),
 Hd.k 298 (Hd.co "parts_against" "parts_against" 557 176 2 293 294 (.ref 295) (.ref 296) 297 567 568),
 Hd.k 299 (Hd.fq fR "parts_against" "parts_against" mO 298),
 Hd.k 303 (Hd.co "are_parts" "are_parts" 570 186 2 300 301 .none .none 302 573 574),
 Hd.k 304 (Hd.fq ij "are_parts" "are_parts" mO 303),
 Hd.k 310 (Hd.co "is_whole" "is_whole" 576 188 1 305 306 (.ref 307) (.ref 308) 309 580 581),
 Hd.k 311 (Hd.fq kh "is_whole" "is_whole" mO 310),
 Hd.k 315 (Hd.co "parts_show" "parts_show" 583 190 3 312 313 .none .none 314 586 587),
 Hd.k 316 (Hd.fq gv "parts_show" "parts_show" mO 315),
 Hd.k 322 (Hd.co "steps_behind" "steps_behind" 591 195 2 317 318 (.ref 319) (.ref 320) 321 596 597),
 Hd.k 323 (Hd.fq gq "steps_behind" "steps_behind" Eo 322),
 Hd.k 329 (Hd.co "answers" "answers" 599 197 2 324 325 (.ref 326) (.ref 327) 328 611 612),
 Hd.k 330 (Hd.fq ma "answers" "answers" Eo 329),
 Hd.k 334 (Hd.co "is_answer" "is_answer" 616 209 3 331 332 .none .none 333 619 620),
 Hd.k 335 (Hd.fq h8 "is_answer" "is_answer" qc 334),
 Hd.k 339 (Hd.co "steps_show" "steps_show" 622 211 2 336 337 .none .none 338 625 626),
 Hd.k 340 (Hd.fq gz "steps_show" "steps_show" qc 339),
 Hd.k 346 (Hd.co "answer_shows" "answer_shows" 628 216 4 341 342 (.ref 343) (.ref 344) 345 635 636),
 Hd.k 347 (Hd.fq gj "answer_shows" "answer_shows" qc 346),
 Hd.k 351 (Hd.co "turn_shows" "turn_shows" 638 220 4 348 349 .none .none 350 641 642),
 Hd.k 352 (Hd.fq gy "turn_shows" "turn_shows" qc 351),
 Hd.k 358 (Hd.co "shows_answers" "shows_answers" 644 228 3 353 354 (.ref 355) (.ref 356) 357 650 651),
 Hd.k 359 (Hd.fq fP "shows_answers" "shows_answers" qc 358),
 Hd.k 365 (Hd.co "_law_hand" "_law_hand" 655 237 1 360 361 (.ref 362) (.ref 363) 364 661 662),
 Hd.k 366 (Hd.fq ky "_law_hand" "_law_hand" jn 365),
 Hd.k 372 (Hd.co "_law_take" "_law_take" 664 241 2 367 368 (.ref 369) (.ref 370) 371 672 673),
 Hd.k 373 (Hd.fq kE "_law_take" "_law_take" jn 372),
 Hd.k 377 (Hd.co "_law_dot" "_law_dot" 675 250 2 374 375 .none .none 376 678 679),
 Hd.k 378 (Hd.fq j5 "_law_dot" "_law_dot" jn 377),
 Hd.k 387 (Hd.co "_law_over" "_law_over" 687 254 1 384 385 .none .none 386 690 691),
 Hd.k 388 (Hd.fq jb "_law_over" "_law_over" jn 387),
 Hd.k 392 (Hd.co "_law_turn" "_law_turn" 693 256 2 389 390 .none .none 391 696 697),
 Hd.k 393 (Hd.fq gc "_law_turn" "_law_turn" jn 392),
 Hd.k 397 (Hd.co "_law_any" "_law_any" 699 267 1 394 395 .none .none 396 702 703),
 Hd.k 398 (Hd.fq d8 "_law_any" "_law_any" jn 397),
 Hd.k 402 (Hd.co "_law_otherwise" "_law_otherwise" 705 283 3 399 400 .none .none 401 708 709),
 Hd.k 403 (Hd.fq cX "_law_otherwise" "_law_otherwise" jn 402),
 Hd.k 409 (Hd.co "law" "law" 711 301 1 404 405 (.ref 406) (.ref 407) 408 723 724),
 Hd.k 410 (Hd.fq qI "law" "law" jn 409)]
def KA:List Addr:=[3,20,21,27,28,34,35,39,40,46,47,53,54,60,61,67,68,74,75,81,82,88,89,95,96,100,101,105,106,112,113,117,118,122,123,127,128,132,133,137,138,142,143,147,148,154,155,161,162,168,169,173,174,178,179,185,186,192,193,197,198,209,210,216,217,223,224,230,231,235,236,242,243,249,250,252,253,263,264,270,271,277,278,284,285,291,292,298,299,303,304,310,311,315,316,322,323,329,330,334,335,339,340,346,347,351,352,358,359,365,366,372,373,377,378,387,388,392,393,397,398,402,403,409,410]
set_option maxHeartbeats 0 in
def left:PySem.W.LeftO PW (PySem.W.view PW [1,2,3,4,6,7,8,9,10,11,12,13,15,16,17,18,19,20,21,22,23,24,25,26,28,29,30,31,32,33,34,35,36,37,39,40,41,42,43,44,46,47,49,50,51,52,53,55,56,57,58,59,60,61,62,63]) [] (λ _=>true) (PySem.W.kmHook Row.KX Row.KA (λ _=>rfl) [233]).obs (PySem.W.kmHook Row.KX Row.KA (λ _=>rfl) [233]).val 4306:=
 Hd.left (by kernel_rfl) (λ s=>by kernel_rfl) rfl λ w os=>by kernel_rfl
end Row
namespace L3
open PySem PySem.Spec PyProof.Rows L2
section
variable {prog:Program}{w:World}{A:Around}{R:Result->Shared->Prop}{s:Shared}
def D5{elt target iter:Expr}{ifs:List Expr}{scope:Scope}{pos:Pos}{it acc:Value}{env:Env}(I:Nat->Shared->Prop)
 (turn:∀n s,I n s->wpAny (model prog w) A (pyNext it) (λ r s₁=>match r with
   |none=>R (.ok .next) s₁
   |some v=>wpAny (model prog w) A (letOwnedTupleGo target it v) (λ _ s₀=>wpAny (model prog w) A (assign target env v) (λ _ s₂=>
     wpAny (model prog w) A (forIn ifs true λ c r=>if r=true then do let ok <-isTrue c env (eval c env);pure (ForInStep.yield ok)else pure (ForInStep.yield r)) (λ ok s₃=>
      if ok=true then wpAny (model prog w) A (eval elt env) (λ x s₄=>
       wpAny (model prog w) A (call (.builtin "list.append") [acc,x]) (λ _ s₅=>∃m,m<n/\I m s₅) (λ _ _=>False) s₄) (λ _ _=>False) s₃
      else∃m,m<n/\I m s₃) (λ _ _=>False) s₂) (λ _ _=>False) s₀) (λ _ _=>False) s₁) (λ _ _=>False) s)
 (n:Nat) (h:I n s):
 codeAny (model prog w) A (.compLoop (.ListComp elt [⟨target,iter,ifs,0⟩] scope pos) 0 it acc env) R s:=by
 refine codeAny_loop rfl I (λ n s hI=>?_) n h;show wpAny _ A ((compTurn (.ListComp elt [⟨target,iter,ifs,0⟩] scope pos) 0 it acc env).onRaise (λ x=>do noteFrame x env;theTreesLotGoes x)) _ _ s;refine wpAny_noted ?_;rw[compTurn_list];refine Uj (Xn (Uj (V1 (turn n s hI) (λ r s₁ h₁=>?_) λ _ _ h'=>h'.elim)));cases r with
 |none=>exact Uw h₁
 |some v=>
  refine Uj (V1 h₁ (λ _ s₀ h₀=>?_) λ _ _ h'=>h'.elim);refine Uj (V1 h₀ (λ _ s₂ h₂=>Uj (V1 h₂ (λ ok s₃ h₃=>?_) λ _ _ h'=>h'.elim)) λ _ _ h'=>h'.elim);cases ok with
  |false=>exact Uw ⟨rfl,h₃⟩
  |true=>
   exact Uj (Uj (V1 h₃ (λ x s₄ h₄=>Uj (V1 h₄ (λ _ s₅ h₅=>Uw (Uw ⟨rfl,h₅⟩)) λ _ _ h'=>h'.elim)) λ _ _ h'=>h'.elim))
end
def dY(cells:List (Str×Addr)):List (Str×NameKind)->List (Str×Addr)->List (Str×Addr)
 | [],acc=>acc
 |(n,k)::r,acc=>if k== .free then(match cells.lookup n with|some c=>dY cells r ((n,c)::acc)|none=>dY cells r acc)else dY cells r acc
def dE{cells:List (Str×Addr)}:∀(names:List (Str×NameKind)) (acc:List (Str×Addr)),(∀x c,acc.lookup x=some c->cells.lookup x=some c)->
 ∀x c,(dY cells names acc).lookup x=some c->cells.lookup x=some c
 | [],acc,h,x,c,e=>h x c e
 |(n,k)::r,acc,h,x,c,e=>by
  unfold dY at e;split at e
  . split at e
    . rename_i d q;refine dE r _ (λ y b e'=>?_) x c e;rw[Ve]at e';split at e'
      . rename_i z;cases e';have z':y=n:=by simpa using z
        rw[z'];exact q
      . exact h y b e'
    . exact dE r _ h x c e
  . exact dE r _ h x c e
def jX{cells:List (Str×Addr)}{x:Str}:∀(names:List (Str×NameKind)) (acc:List (Str×Addr)),(∃c,cells.lookup x=some c)->((x,NameKind.free)∈names\/∃c,acc.lookup x=some c)->
 ∃c,(dY cells names acc).lookup x=some c
 | [],acc,_,h=>by
   rcases h with h|h
   . simp at h
   . exact h
 |(n,k)::r,acc,hc,h=>by
  unfold dY;split
  . rename_i hk;split
    . rename_i d q;refine jX r _ hc ?_;rcases h with h|⟨c,h⟩
      . rcases UK.mp h with e|e
        . cases e;exact .inr ⟨d,by simp[Ve]⟩
        . exact .inl e
      . refine .inr ?_;rw[Ve];split
        . exact⟨_,rfl⟩
        . exact⟨c,h⟩
    . rename_i q;refine jX r _ hc ?_;rcases h with h|h
      . rcases UK.mp h with e|e
        . cases e;obtain⟨c,hc⟩:=hc;rw[hc]at q;cases q
        . exact .inl e
      . exact .inr h
  . rename_i hk;refine jX r _ hc ?_;rcases h with h|h
    . rcases UK.mp h with e|e
      . cases e;exact absurd rfl hk
      . exact .inl e
    . exact .inr h
def oM{scope:Scope}{env:Env}(h:∀x∈scope.names,x.2= .free->∃c,env.cells.lookup x.1=some c):closureFor scope env=pure (dY env.cells scope.names []):=by
 have key:∀(names:List (Str×NameKind)) (acc:List (Str×Addr)),(∀x∈names,x.2= .free->∃c,env.cells.lookup x.1=some c)->
  (forIn names acc (λ(x:Str×NameKind) (cs:List (Str×Addr))=>if(x.2==NameKind.free)=true then(do let a <-cellOf env x.1;pure (ForInStep.yield ((x.1,a)::cs)):Sem (ForInStep (List (Str×Addr))))else pure (ForInStep.yield cs)))=(pure (dY env.cells names acc):Sem (List (Str×Addr))):=by
  intro names;induction names with
  |nil=>intro acc _;rfl
  |cons p r ih=>
   intro acc hh;obtain⟨n,k⟩:=p;rw[YE];have ih':=ih;by_cases hk:(k==NameKind.free)=true
   . obtain⟨c,e⟩:=hh (n,k) UP (by simpa using hk);simp only[hk,WW]
     have e1:cellOf env n=pure c:=by
      unfold cellOf;rw[e]
     rw[e1];simp only[pure_bind];rw[ih _ λ x hx=>hh x (UG _ hx)];conv=>rhs;unfold dY
     simp only[hk,WW];rw[show env.cells.lookup n=some c from e]
   . have hk':(k==NameKind.free)=false:=by simpa using hk
     simp only[hk',WI,WS,pure_bind];rw[ih _ λ x hx=>hh x (UG _ hx)];conv=>rhs;unfold dY
     simp only[hk',WI,WS]
 unfold closureFor;have:=key scope.names [] h;rw[bind_pure]
 first
  |exact this
  |(simp only[bind_pure]at this⊢;exact this)
end L3
namespace L3
open PySem PySem.Spec L2
open PyProof.Rows hiding St
def kv(env:Env):∀(names:List (Str×NameKind)) (x:Str),
 (names.map λ(n,k)=>if(k==NameKind.free&&env.scope.kind== .function&&env.kindOf n==some .cell)then(n,NameKind.cell)else(n,k)).lookup x=
   (names.lookup x).map λ k=>if(k==NameKind.free&&env.scope.kind== .function&&env.kindOf x==some .cell)then NameKind.cell else k
 | [],_=>rfl
 |(n,k)::r,x=>by
  show List.lookup x ((if(k==NameKind.free&&env.scope.kind== .function&&env.kindOf n==some .cell)=true then(n,NameKind.cell)else(n,k))::_)=_;cases hx:x==n with
  |true=>
   have e:x=n:=by simpa using hx
   subst e;by_cases hc:(k==NameKind.free&&env.scope.kind== .function&&env.kindOf x==some .cell)=true
   . rw[Ur hc];simp only[Ve,Xp,WJ];rw[Ur hc]
   . rw[Up hc];simp only[Ve,Xp,WJ];rw[Up hc]
  |false=>
   by_cases hc:(k==NameKind.free&&env.scope.kind== .function&&env.kindOf n==some .cell)=true
   . rw[Ur hc];simp only[Ve,hx];exact kv env r x
   . rw[Up hc];simp only[Ve,hx];exact kv env r x
def C_{env:Env}{scope:Scope}{x:Str}(h:scope.names.lookup x=some .free):(relabel scope env).names.lookup x=some .cell\/(relabel scope env).names.lookup x=some .free:=by
 have e:(relabel scope env).names.lookup x=_:=kv env scope.names x;rw[e,h];simp only[WJ];split
 . exact .inl rfl
 . exact .inr rfl
def Di{env:Env}{scope:Scope}{x:Str}(h:(relabel scope env).names.lookup x=some .cell\/(relabel scope env).names.lookup x=some .free):(x,NameKind.free)∈scope.names\/scope.names.lookup x=some .cell:=by
 have e:(relabel scope env).names.lookup x=_:=kv env scope.names x;rw[e]at h;cases q:scope.names.lookup x with
 |none=>rw[q]at h;rcases h with h|h<;>cases h
 |some k=>
  rw[q]at h;simp only[WJ]at h;have m:=Vg q;by_cases hc:(k==NameKind.free&&env.scope.kind== .function&&env.kindOf x==some .cell)=true
  . have:k= .free:=by
     simp only[U0]at hc;simpa using hc.1.1
    subst this;exact .inl m
  . rw[Up hc]at h;rcases h with h|h
    . cases h;exact .inr rfl
    . cases h;exact .inl m
def hJ:∀(names:List (Str×NameKind)) (L:Nat) (acc:List (Str×Addr)),cellsFrom L names acc=cellsFrom L names []++acc
 | [],_,_=>rfl
 |(n,k)::r,L,acc=>by
  unfold cellsFrom;by_cases hk:(k==NameKind.cell)=true
  . rw[Ur hk,Ur hk,hJ r (L+1) ((n,L)::acc),hJ r (L+1) [(n,L)],Wt];rfl
  . rw[Up hk,Up hk];exact hJ r L acc
def vt:∀ {names:List (Str×NameKind)} {L:Nat} {x:Str} {c:Addr},(x,c)∈cellsFrom L names []->(x,NameKind.cell)∈names
 | [],_,_,_,h=>by unfold cellsFrom at h;cases h
 |(n,k)::r,L,x,c,h=>by
  unfold cellsFrom at h;by_cases hk:(k==NameKind.cell)=true
  . rw[Ur hk,hJ]at h;have hk':k= .cell:=by simpa using hk
    subst hk';rcases Vf.mp h with h|h
    . exact UG _ (vt h)
    . have:(x,c)=(n,L):=by simpa using h
      cases this;exact UP
  . rw[Up hk]at h;exact UG _ (vt h)
def t_:∀ {l1 l2:List (Str×Addr)} {x:Str} {c:Addr},(l1++l2).lookup x=some c->l1.lookup x=some c\/(l1.lookup x=none/\l2.lookup x=some c)
 | [],_,_,_,h=> .inr ⟨rfl,h⟩
 |(n,d)::l1,l2,x,c,h=>by
  rw[List.cons_append,Ve]at h;rw[Ve];cases hx:x==n with
  |true=>rw[hx]at h;exact .inl h
  |false=>rw[hx]at h;exact t_ h
def wY:∀ {l1 l2:List (Str×Addr)} {x:Str},l1.lookup x=none->(l1++l2).lookup x=l2.lookup x
 | [],_,_,_=>rfl
 |(n,d)::l1,l2,x,h=>by
  rw[Ve]at h;rw[List.cons_append,Ve];cases hx:x==n with
  |true=>rw[hx]at h;cases h
  |false=>rw[hx]at h;exact wY h
def ox(scope:Scope)(C:Addr)(cl:List (Str×Addr)):List (Str×Addr):=cellsFrom (C+1) scope.names cl
def j8{scope:Scope}{C:Addr}{cl:List (Str×Addr)}{x:Str}{c:Addr}(h:(ox scope C cl).lookup x=some c):(x,c)∈cellsFrom (C+1) scope.names []\/cl.lookup x=some c:=by
 unfold ox at h;rw[hJ]at h;rcases t_ h with h|h
 . exact .inl (Vg h)
 . exact .inr h.2
def OH(names:List (Str×NameKind))(h:Heap){C:Addr}(e:h.objs.size=C+1):CellsOk (pushCells h names) (C+1) (cellsFrom (C+1) names []):=by
 have:=cellsFrom_ok names h (C+1) [] ⟨λ _ _ hm=>(nomatch hm),List.Pairwise.nil⟩ (by rw[e];exact Uk _);rw[e]at this;exact this
def qt{names:List (Str×NameKind)}{C:Addr}{x:Str}{c:Addr}:∀ {L:Nat},C<=L->(x,c)∈cellsFrom L names []->C<=c:=by
 induction names with
 |nil=>intro L _ h;unfold cellsFrom at h;cases h
 |cons p r ih=>
  obtain⟨n,k⟩:=p;intro L hL h;unfold cellsFrom at h;by_cases hk:(k==NameKind.cell)=true
  . rw[Ur hk,hJ]at h;rcases Vf.mp h with h|h
    . exact ih (Um hL (XR L)) h
    . have:(x,c)=(n,L):=by simpa using h
      cases this;exact hL
  . rw[Up hk]at h;exact ih hL h
def own_apart{names:List (Str×NameKind)}{x y:Str}{c:Addr}:∀ {L:Nat},(x,c)∈cellsFrom L names []->(y,c)∈cellsFrom L names []->x=y:=by
 induction names with
 |nil=>intro L h;unfold cellsFrom at h;cases h
 |cons p r ih=>
  obtain⟨n,k⟩:=p;intro L h1 h2;unfold cellsFrom at h1 h2;by_cases hk:(k==NameKind.cell)=true
  . rw[Ur hk,hJ]at h1 h2;rcases Vf.mp h1 with g1|g1<;>rcases Vf.mp h2 with g2|g2
    . exact ih g1 g2
    . have e2:(y,c)=(n,L):=by simpa using g2
      have ec:c=L:=(YL e2).2;have:=qt (C:=L+1) (Uk _) g1;rw[ec]at this;exact absurd this (Nat.not_succ_le_self _)
    . have e1:(x,c)=(n,L):=by simpa using g1
      have ec:c=L:=(YL e1).2;have:=qt (C:=L+1) (Uk _) g2;rw[ec]at this;exact absurd this (Nat.not_succ_le_self _)
    . have e1:(x,c)=(n,L):=by simpa using g1
      have e2:(y,c)=(n,L):=by simpa using g2
      exact(YL e1).1.trans (YL e2).1.symm
  . rw[Up hk]at h1 h2;exact ih h1 h2
def xC{M:Model}{A:Around}{E:Value->Shared->Prop}{s:Shared}{scope:Scope}{globals:Addr}{cl:List (Str×Addr)}{qual:Str}{env:Env}{Q:Env->Shared->Prop}
 (hQ:Q (newEnv scope s.heap.objs.size globals (ox scope s.heap.objs.size cl) qual none .none (some env) builtinsNs) {s with heap:=pushCells (s.heap.push {cls:= .type "dict",data:= .dict #[]}) scope.names}):
 wpAny M A (newFunctionEnv scope globals cl [] qual none .none (some env)) Q E s:=by
 simp only[newFunctionEnv,Option.isSome_some,WW];refine Uj (wpAny_alloc ?_);refine Uj (wpAny_layCells _ (λ name kind cells=>by cases hkc:kind==NameKind.cell<;>simp[hkc]) _ _ _ _ ?_);rw[show({s with heap:=s.heap.push {cls:= .type "dict",data:= .dict #[]}}:Shared).heap.objs.size=s.heap.objs.size+1 from VC ..];rw[YT];exact Uj (Uw (Uw hQ))
structure a7(X:Cx)(scope:Scope)(Nc:List Str)(fr:List (Option Nat)):Prop where
 kind:scope.kind= .function
 cells:∀x∈scope.names,x.2= .cell->scope.names.lookup x.1=some .cell
 names:∀x∈scope.names,x.2= .local->scope.names.lookup x.1=some .local
 free:∀x∈scope.names,x.2= .free->X.env.kindOf x.1=some .cell\/X.env.kindOf x.1=some .free
 len:fr.length=Nc.length
 map:∀(i j:Nat) (x:Str),Nc[i]?=some x->fr[i]?=some (some j)->X.N[j]?=some x/\scope.names.lookup x=some .free/\(X.env.kindOf x=some .cell\/X.env.kindOf x=some .free)
def σC(fr:List (Option Nat))(σ:St):St:=fr.map λ o=>o.bind λ j=>(σ[j]?).join
def fN(X:Cx)(scope:Scope)(Nc:List Str)(C:Addr)(s:Shared)(H:Hp)(ex:List Addr):Cx:=
 {X with N:=Nc,s₀:=s,H₀:=H,env:=compEnvC scope (ox scope C (dY X.env.cells scope.names [])) C X.env,outer:=X.stack,stack:=X.stack,ex:=ex,fn:=λ x=>scope.names.lookup x==some .cell,pn:=[],xe:=λ _ _=>False}
def vL(wi:TI)(fr:List (Option Nat))(g:TG)(c:TT)(te:TE):TE:=λ σ H Q=>wi σ H λ J H1=>∀l,H1 l=none->
 ∃W:Nat->Nat->L2.St->Hp->Prop,(∃m,W 0 m (σC fr σ) (upd H1 l (.lst [])))/\∀i m σ H,W i m σ H->
  (J.stop i H/\Q (.ref l) H)\/(J.go i H/\∃N:L2.St->Hp->Prop,(∀σ' H',N σ' H'->∃m',m'<m/\W (i+1) m' σ' H')/\∀x H',J.qJ i H x H'->
    g x σ H' λ σ2 H2=>c σ2 H2 λ b H3=>if b=true then te σ2 H3 λ y H4=>∃ys,H4 l=some (.lst ys)/\ys.length<sizeLine/\N σ2 (upd H4 l (.lst (ys++[y])))else N σ2 H3)
def vk(X:Cx)(ifs:List Expr)(t:TT):Prop:=
 ∀(pins:List (Addr×Obj)) (s:Shared) (σ:St) (H:Hp) (Q:Bool->Hp->Prop),Inv X pins σ H s->t σ H Q->
  wpAny (model X.prog X.w) X.A (forIn ifs true λ c r=>if r=true then do let ok <-isTrue c X.env (eval c X.env);pure (ForInStep.yield ok)else pure (ForInStep.yield r)) (TP X pins σ Q) X.xe s
def RQ:TT:=λ _ H Q=>Q true H
def Nl{X:Cx}:vk X [] RQ:=λ _ _ _ H _ I h=>wpAny_tests_nil ⟨H,I,h⟩
def Mc{X:Cx}{c:Expr}{t:TT}(h:PT X c t):vk X [c] t:=λ pins s σ H Q I q=>wpAny_tests_one (h pins s σ H Q I q)
section
variable {X:Cx}{scope:Scope}{Nc:List Str}{fr:List (Option Nat)}{pins:List (Addr×Obj)}{σ:St}{H:Hp}{s:Shared}
def OT{C:Addr}{fp:List Addr}(S:a7 X scope Nc fr)(I:Inv X pins σ H s)(hC:C=s.heap.objs.size)(hf:∀b∈fp,mY X pins H b)(hlt:∀b∈fp,b<s.heap.objs.size)(hnc:∀b∈fp,∀x c,X.env.cells.lookup x=some c->c≠b):
 (fN X scope Nc C s H fp).Ok where
 mod:=I.ok.mod
 kind:=S.kind
 glob:=I.ok.glob
 blt:=I.ok.blt
 above:=Yt hC.symm
 inj:=λ x y c h1 h2=>by
  have low:∀ {z},(dY X.env.cells scope.names []).lookup z=some c->c<s.heap.objs.size:=λ{z} hz=>by
   obtain⟨v,q⟩:=I.cell z c (dE _ [] (λ _ _ e=>by cases e) z c hz);exact q.lt
  rcases j8 h1 with h1|h1<;>rcases j8 h2 with h2|h2
  . exact own_apart h1 h2
  . have a:=qt (C:=C+1) (Uk _) h1;have b:c<C:=by rw[hC];exact low h2
    exact absurd a (Nat.not_le_of_gt (Va b))
  . have a:=qt (C:=C+1) (Uk _) h2;have b:c<C:=by rw[hC];exact low h1
    exact absurd a (Nat.not_le_of_gt (Va b))
  . exact I.ok.inj x y c (dE _ [] (λ _ _ e=>by cases e) x c h1) (dE _ [] (λ _ _ e=>by cases e) y c h2)
 has:=λ x hx=>by
  rcases Di hx with m|m
  . obtain⟨c,e⟩:=jX scope.names [] (I.ok.has x (S.free _ m rfl)) (.inl m);exact Wz.mp (Wk _ _ _ (.inr (by rw[e];rfl)))
  . exact Wz.mp (Wk _ _ _ (.inl m))
 Bx:=λ x c hf h=>by
  have hl:scope.names.lookup x=some .cell:=by
   have:(scope.names.lookup x==some .cell)=true:=hf;simpa using this
  obtain⟨c',e⟩:=Wz.mp (Wk (x:=x) scope.names (C+1) [] (.inl hl))
  have h':(cellsFrom (C+1) scope.names []++dY X.env.cells scope.names []).lookup x=some c:=by
   rw[<-hJ];exact h
  rcases t_ h' with q|q
  . have:=qt (C:=C+1) (Uk _) (Vg q);show s.heap.objs.size<=c;rw[<-hC];exact Yi this
  . rw[q.1]at e;cases e
 hd:=I.ok.hd
 frames:=I.ok.frames
 EW:= .inl rfl
 Hz:=λ b hb=>⟨by rw[show(fN X scope Nc C s H fp).env.locals=s.heap.objs.size from hC];exact UR (hlt b hb),λ x c h=>by
  rcases j8 h with h|h
  . have a:=qt (C:=C+1) (Uk _) h;have b':b<C:=by rw[hC];exact hlt b hb
    exact Wy (UH b' (Yi a))
  . exact hnc b hb x c (dE _ [] (λ _ _ e=>by cases e) x c h)⟩
 bs:=I.bs
 uC:=Um I.ok.uC I.sz
 xn:=λ b o e hb=>by
  have hn:=(hf b hb).2.2.2.1;rcases hn with hn|hn
  . exact I.ok.xn b o e hn
  . exact absurd (UA (I.ok.bs b o e).1) (Nat.not_lt.mpr hn)
 xF:=λ b hb z=>by
  have q:=I.BY b z;rcases UK.mp q with q|q
  . exact(hf b hb).2.1 q
  . exact(hf b hb).2.2.1 q
 mz:=I.stack
 yD:=λ b hb=>I.zw b hb
 gt:=I.ok.gt
def ER{i:Nat}{v:V}(h:(σC fr σ)[i]?=some (some v)):∃j,fr[i]?=some (some j)/\σ[j]?=some (some v):=by
 unfold σC at h;rw[UB]at h;cases q:fr[i]? with
 |none=>rw[q]at h;cases h
 |some o=>
  rw[q]at h;cases o with
  |none=>simp at h
  |some j=>
   simp only[WJ,Option.some.injEq,Option.bind_some]at h;refine⟨j,rfl,?_⟩;cases r:σ[j]? with
   |none=>rw[r]at h;cases h
   |some u=>rw[r]at h;simp at h;rw[h]
def Kr{s':Shared}{h':Heap}{C:Addr}{fp:List Addr}{t':Nat}(S:a7 X scope Nc fr)(I:Inv X pins σ H s)(hC:C=s.heap.objs.size)(ok:(fN X scope Nc C s H fp).Ok)(hfr:∀b∈fp,H b=none)
 (k:∀b o,s.heap.get? b=some o->h'.get? b=some o) (hn:h'.Ns C (λ _=>none)) (hcs:∀x c,(x,c)∈cellsFrom (C+1) scope.names []->h'.IsCell c none):Inv (fN X scope Nc C s H fp) [] (σC fr σ) H {s with heap:=h',toks:=t'} where
 ok:=ok
 os:=rfl
 bare:=I.bare
 base:=Un.kept k
 loc:=⟨_,hn,λ i x v h1 h2 h3=>by
  obtain⟨j,q1,q2⟩:=ER h2;obtain⟨n1,n2,n3⟩:=S.map i j x h1 q1;obtain⟨m,hm,hl⟩:=I.loc
  have vis:CO X.env.scope x:=by
   rcases n3 with z|z
   . exact .inr (.inl z)
   . exact .inr (.inr z)
  obtain⟨u,r,lk⟩:=hl j x v n1 q2 vis;refine⟨u,r,?_⟩;rcases lk with⟨z,_⟩|⟨z,c,e,ic⟩
  . rcases n3 with y|y
    . rw[y]at z;cases z
    . rw[y]at z;cases z
  . refine .inr ⟨C_ n2,?_⟩;obtain⟨c',e'⟩:=jX scope.names [] ⟨c,e⟩ (.inl (Vg n2));have e2:=dE _ [] (λ _ _ e=>by cases e) x c' e';rw[e]at e2;cases e2;refine⟨c,?_,ic.keeps k⟩;show(ox scope C (dY X.env.cells scope.names [])).lookup x=some c;unfold ox;rw[hJ,wY ?_]
    . exact e'
    . cases q:(cellsFrom (C+1) scope.names []).lookup x with
      |none=>rfl
      |some c2=>
       have:=S.cells _ (vt (Vg q)) rfl;rw[n2]at this;cases this⟩
 cell:=λ x c h=>by
  rcases j8 h with h|h
  . exact⟨_,hcs x c h⟩
  obtain⟨v,q⟩:=I.cell x c (dE _ [] (λ _ _ e=>by cases e) x c h);exact⟨v,q.keeps k⟩
 free:=by show H C=none;rw[hC];exact I.aO.fresh (Uk _)
 jN:=λ x c h=>by
  rcases j8 h with h|h
  . have a:=qt (C:=C+1) (Uk _) h;exact I.aO.fresh (by rw[<-hC];exact Yi a)
  . exact I.jN x c (dE _ [] (λ _ _ e=>by cases e) x c h)
 pin:=λ p hp=>by cases hp
 aO:=I.aO.kept k
 len:=by unfold σC;rw[Uh];exact S.len
def Inv.forget{C:Addr}{h':Heap}(I:Inv X pins σ H s)(f:mY X pins H C)(hs:Heap.SameBut C s.heap h'):Inv X pins σ H {s with heap:=h'}:=by
 refine I.Fi (s':={s with heap:=h'}) (ch:=[C]) rfl ?_ ?_ I.bare λ b hb=>?_
 . have ne:∀b,b∉[C]->b≠C:=λ b hb z=>hb (by simp[z]);exact{keep:=λ b o q _ _ hx=>(hs.2 b (ne b hx)).trans q,slot:=λ b o q _ _ hx=>⟨o.slots,(hs.2 b (ne b hx)).trans q⟩,free:=λ b o q n _=>n,there:=λ b o q hx=>⟨o,(hs.2 b (ne b hx)).trans q⟩,rD:=λ _ _ e=>e,qk:=λ _ _ _ e=>e,pQ:=λ b ps e=>⟨#[],by rw[e];simp⟩}
 . intro a o q;have na:∀b u,H b=some u->b≠C:=λ b u q z=>by rw[z,f.1]at q;cases q
   refine(I.aO a o q).ng (λ b u hb e=>?_) (λ _ q=>q) λ _ _ q=>q;rw[hs.2 b ?_]
   . exact e
   . rcases hb with rfl|hb
     . exact na _ _ q
     . exact na _ _ hb
 . have:b=C:=by simpa using hb
   subst this;exact⟨f.2.2.2.1,f.2.1,f.2.2.2.2.1,f.2.2.2.2.2⟩
def yM{elt tg iter:Expr}{ifs:List Expr}{wi:TI}{g:TG}{c:TT}{te:TE}{pos:Pos}{Q:VK}{RR:Value->Addr->Result->Shared->Prop}(hx:X.xe=λ _ _=>False)(hc:X.calm=true)(S:a7 X scope Nc fr)(hi:PI X tg iter wi)
 (hg:∀C s H ex,PG (fN X scope Nc C s H ex) tg g) (ht:∀C s H ex,vk (fN X scope Nc C s H ex) ifs c) (he:∀C s H ex,PE (fN X scope Nc C s H ex) elt te) (I:Inv X pins σ H s) (h:vL wi fr g c te σ H Q)
 (fin:∀(l C:Addr) (s6:Shared) (H5:Hp) (m:Str->Option Value),s6.heap.Ns C m->mY X pins H5 C->Inv X pins σ H5 s6->Q (.ref l) H5->RR (.ref l) C (.ok .next) s6):
 wpAny (model X.prog X.w) X.A (eval iter X.env) (λ x s₁=>wpAny (model X.prog X.w) X.A (pyIter x) (λ it s₂=>wpAny (model X.prog X.w) X.A (newList []) (λ acc s₃=>
  wpAny (model X.prog X.w) X.A (newFunctionEnv scope X.env.globals (dY X.env.cells scope.names []) [] X.env.qual none .none (some X.env)) (λ cenv s₄=>
   codeAny (model X.prog X.w) X.A (.compStart (.ListComp elt [⟨tg,iter,ifs,0⟩] scope pos) 0 it acc {cenv with scope:=relabel scope X.env}) (RR acc cenv.locals) s₄) X.xe s₃) X.xe s₂) X.xe s₁) X.xe s:=by
 refine cw (hi pins s σ H _ I h) λ v s1 h1=>cw h1 λ itv s2 h2=>?_;obtain⟨it,fp,tn,J,H2,e,I2,T,st2,f2,hR⟩:=h2;subst e;refine Y1 ?_ (US _);have I3:=I2.J0 (t':=s2.toks) (av:=[]) (ys:=[]) .nil (US _);generalize e3:({s2 with heap:=s2.heap.push {cls:= .type "list",data:= .seq ([]:List Value).toArray}}:Shared)=s3;have I3:Inv X pins σ (upd H2 s2.heap.objs.size (.lst [])) s3:=by rw[<-e3];exact I3
 have ml:s2.heap.objs.size<s3.heap.objs.size:=by rw[<-e3];show _<(s2.heap.push _).objs.size;rw[VC];omega
 have k3:∀b o,s2.heap.get? b=some o->s3.heap.get? b=some o:=λ b o q=>by rw[<-e3];exact Uo _ q
 obtain⟨W,⟨m0,w0⟩,turn⟩:=hR s2.heap.objs.size (I2.aO.fresh (Uk _));refine xC ?_;have hn:(pushCells (s3.heap.push {cls:= .type "dict",data:= .dict #[]}) scope.names).Ns s3.heap.objs.size (λ _=>none):=(Heap.Ns.new s3.heap (.type "dict")).keeps (pushCells_keeps _ _);have hcs:∀x c,(x,c)∈cellsFrom (s3.heap.objs.size+1) scope.names []->(pushCells (s3.heap.push {cls:= .type "dict",data:= .dict #[]}) scope.names).IsCell c none:=λ x c h=>((OH scope.names _ (VC ..)).empty x c h).1;have k4:∀b o,s3.heap.get? b=some o->(pushCells (s3.heap.push {cls:= .type "dict",data:= .dict #[]}) scope.names).get? b=some o:=λ b o q=>pushCells_keeps _ _ b o (Uo _ q);generalize(pushCells (s3.heap.push {cls:= .type "dict",data:= .dict #[]}) scope.names)=h' at hn hcs k4⊢;have hobj:∀b∈fp,∃o,s2.heap.get? b=some o/\∀v,o.data≠ .cell v:=T.obj _ _ st2;have hlt2:∀b∈fp,b<s3.heap.objs.size:=λ b hb=>let⟨o,q,_⟩:=hobj b hb;UA (k3 b o q)
 have hnl:∀b∈fp,b≠s2.heap.objs.size:=λ b hb=>by
  obtain⟨o,q,_⟩:=hobj b hb;exact UR (UA q)
 have f3:∀b∈fp,mY X pins (upd H2 s2.heap.objs.size (.lst [])) b:=λ b hb=>⟨by rw[aE (hnl b hb)];exact(f2 b hb).1,(f2 b hb).2⟩
 have ok:=OT (C:=s3.heap.objs.size) (fp:=fp) S I3 rfl f3 hlt2 λ b hb=>(f2 b hb).2.2.2.2.1
 have I4:Inv (fN X scope Nc s3.heap.objs.size s3 (upd H2 s2.heap.objs.size (.lst [])) fp) [] (σC fr σ) (upd H2 s2.heap.objs.size (.lst [])) {s3 with heap:=h',toks:=s3.toks}:=
  Kr (s':=s3) S I3 rfl ok (λ b hb=>(f3 b hb).1) k4 hn hcs
 have st4:tn 0 h':=T.keep _ _ _ st2 λ b _ o q=>k4 b o (k3 b o q);generalize hXc:fN X scope Nc s3.heap.objs.size s3 (upd H2 s2.heap.objs.size (.lst [])) fp=Xc at I4;have hgc:PG Xc tg g:=by rw[<-hXc];exact hg _ _ _ _
 have htc:vk Xc ifs c:=by rw[<-hXc];exact ht _ _ _ _
 have hec:PE Xc elt te:=by rw[<-hXc];exact he _ _ _ _
 have xP:Xc.prog=X.prog:=by rw[<-hXc];rfl
 have xW:Xc.w=X.w:=by rw[<-hXc];rfl
 have xK:Xc.K=X.K:=by rw[<-hXc];rfl
 have xc:Xc.calm=true:=by rw[<-hXc];exact hc
 have xA:Xc.A=X.A:=by rw[<-hXc];rfl
 have xE:Xc.env=compEnvC scope (ox scope s3.heap.objs.size (dY X.env.cells scope.names [])) s3.heap.objs.size X.env:=by rw[<-hXc];rfl
 have xx:Xc.xe=λ _ _=>False:=by rw[<-hXc];rfl
 have fpc:∀ {H':Hp},(∀b∈fp,H' b=none)->∀b∈fp,mY Xc [] H' b:=λ{H'} hn b hb=>by
  rw[<-hXc];refine⟨hn b hb,UR (hlt2 b hb),ok.xF b hb,.inl hb,(ok.Hz b hb).2,λ p hp=>by cases hp⟩
 have loop:codeAny (model X.prog X.w) X.A (.compLoop (.ListComp elt [⟨tg,iter,ifs,0⟩] scope pos) 0 (.ref it) (.ref s2.heap.objs.size) (compEnvC scope (ox scope s3.heap.objs.size (dY X.env.cells scope.names [])) s3.heap.objs.size X.env))
  (RR (.ref s2.heap.objs.size) s3.heap.objs.size) {s3 with heap:=h',toks:=s3.toks}:=by
  refine D5 (λ n s'=>∃i σ' H',Inv Xc [] σ' H' s'/\tn i s'.heap/\(∀b∈fp,H' b=none)/\W i n σ' H') ?_ m0 ⟨0,_,_,I4,st4,λ b hb=>(f3 b hb).1,w0⟩;rintro n s5 ⟨i,σ5,H5,I5,st5,fr5,w5⟩;rcases turn i n σ5 H5 w5 with⟨stop,qn⟩|⟨go,N,hN,step⟩
  . have q:=T.done Xc xP xW xK xc i [] s5 σ5 H5 (λ _ _=>False) I5 (fpc fr5) st5 stop;rw[xA]at q;refine cw q λ r s6 ⟨hr,I6⟩=>?_;subst hr;obtain⟨m,hm,_⟩:=I6.loc;rw[xE]at hm;have free6:H5 s3.heap.objs.size=none:=by have:=I6.free;rw[xE]at this;exact this
    have un6:Un (sP X.stack) fp (upd H2 s2.heap.objs.size (.lst [])) H5 s3.heap s6.heap:=by have:=I6.base;rw[<-hXc]at this;exact this
    have os6:s6.os=s3.os:=by have:=I6.os;rw[<-hXc]at this;exact this
    have hok6:jt X.prog X.w H5 s6.heap:=by have:=I6.aO;rw[xP,xW]at this;exact this
    have J:=I3.Fi (s':=s6) (ch:=fp) os6 un6 hok6 I6.bare λ b hb=>⟨(f3 b hb).2.2.2.1,(f3 b hb).2.1,(f3 b hb).2.2.2.2.1,(f3 b hb).2.2.2.2.2⟩
    exact fin _ _ s6 H5 m hm (I3.w4 (Uk _) free6) J qn
  . have q:=T.item Xc xP xW xK xc i [] s5 σ5 H5 (λ _ _=>False) I5 (fpc fr5) st5 go;rw[xA]at q;refine cw q λ r s6 ⟨u,hr,h6⟩=>?_;subst hr;refine cw h6 λ _ s7 ⟨x,H7,I7,r7,y7,st7,fr7⟩=>?_;have I7':=I7.pinned (fpc fr7) (T.obj _ _ st7);have q8:=hgc _ s7 σ5 H7 x u _ I7' r7 (step x H7 y7);rw[xP,xW,xA,xE,xx]at q8;refine cw q8 λ _ s8 ⟨σ8,H8,I8,q8⟩=>?_;have q9:=htc _ s8 σ8 H8 _ I8 q8;rw[xP,xW,xA,xE,xx]at q9;refine cw q9 λ b s9 ⟨H9,I9,q9⟩=>?_
    have again:∀ {H':Hp} {s':Shared},Inv Xc ([]++vw fp s7.heap) σ8 H' s'->N σ8 H'->∃m,m<n/\∃i σ' H',Inv Xc [] σ' H' s'/\tn i s'.heap/\(∀b∈fp,H' b=none)/\W i m σ' H':=λ{H' s'} J nn=>by
     obtain⟨m',hm,w7⟩:=hN σ8 H' nn;refine⟨m',hm,i+1,σ8,H',J.i9,T.keep _ _ _ st7 λ b hb o e=>(J.pin (b,o) (UM _ (UM _ (o5 hb e)))).1,λ b hb=>?_,w7⟩;obtain⟨o,e,d⟩:=T.obj _ _ st7 b hb;exact(J.pin (b,o) (UM _ (UM _ (o5 hb e)))).2.1
    cases b with
    |false=>exact again I9 q9
    |true=>
     have qe:=hec _ s9 σ8 H9 _ I9 q9;rw[xP,xW,xA,xE,xx]at qe;refine cw qe λ y s10 ⟨vy,H10,I10,ry,ys,hy,hlt,qN⟩=>?_;have qa:=Aa (X:=Xc) _ s10 σ8 H10 (.ref s2.heap.objs.size) [vy] (.ref s2.heap.objs.size) [y] (λ _ H'=>N σ8 H') I10 rfl (.cons ry .nil) ⟨_,ys,vy,rfl,rfl,hy,hlt,qN⟩;rw[xP,xW,xA,xx]at qa;exact cw qa λ _ s11 ⟨_,H11,I11,_,q11⟩=>again I11 q11
 refine codeAny_compStart_list ?_ ?_
 . exact loop
 . exact T.self _ 0 _ _ _ st4 loop
def EM{elt tg iter:Expr}{ifs:List Expr}{wi:TI}{g:TG}{c:TT}{te:TE}{pos:Pos}(hx:X.xe=λ _ _=>False)(hc:X.calm=true)(S:a7 X scope Nc fr)(hi:PI X tg iter wi)
 (hg:∀C s H ex,PG (fN X scope Nc C s H ex) tg g) (ht:∀C s H ex,vk (fN X scope Nc C s H ex) ifs c) (he:∀C s H ex,PE (fN X scope Nc C s H ex) elt te)
 (hs:∀x,foldedSetIterable iter X.env x=pure x:=by intro _;rfl):PE X (.ListComp elt [⟨tg,iter,ifs,0⟩] scope pos) (vL wi fr g c te):=by
 intro pins s σ H Q I h;rw[eval_ListComp];have hcl:closureFor scope X.env=pure (dY X.env.cells scope.names []):=oM λ x hx hk=>I.ok.has x.1 (S.free x hx hk);refine Yw rfl hs hcl S.kind S.names ?_;exact yM (RR:=λ acc C=>compPost (model X.prog X.w) X.A X.xe none (EP X pins σ Q) acc C) hx hc S hi hg ht he I h λ l C s6 H5 m hm f J q=>⟨m,hm,λ h'' hs''=>⟨.ref l,H5,Inv.forget J f hs'',rfl,q⟩⟩
def EH{elt tg iter:Expr}{ifs:List Expr}{wi:TI}{g:TG}{c:TT}{te:TE}{pos pos' spos:Pos}{i:Nat}{x:Str}(hx:X.xe=λ _ _=>False)(hc:X.calm=true)(S:a7 X scope Nc fr)(hi:PI X tg iter wi)
 (hg:∀C s H ex,PG (fN X scope Nc C s H ex) tg g) (ht:∀C s H ex,vk (fN X scope Nc C s H ex) ifs c) (he:∀C s H ex,PE (fN X scope Nc C s H ex) elt te) (hN:X.N.Nodup) (hni:X.N[i]?=some x) (hl:Loc X.env.scope x) (hf:X.fn x=true\/X.env.scope.names.lookup x=some .local)
 (hsw:swapsWith (.ListComp elt [⟨tg,iter,ifs,0⟩] scope pos) (some (.Name x pos')) spos.line X.env=pure true)
 (hs:∀x,foldedSetIterable iter X.env x=pure x:=by intro _;rfl):PS X (.Assign [.Name x pos'] (.ListComp elt [⟨tg,iter,ifs,0⟩] scope pos) spos) (oG (vL wi fr g c te) (nB i)):=by
 intro pins s σ H D I h;have hcl:closureFor scope X.env=pure (dY X.env.cells scope.names []):=oM λ x hx hk=>I.ok.has x.1 (S.free x hx hk);rw[exec_Assign_Name_used _ _ _ _ hsw];refine Uj (Xn (Uj ?_));show wpAny _ X.A (do let _ <-comprehension (.ListComp elt [⟨tg,iter,ifs,0⟩] scope pos) scope X.env _ (newList []) false (eval iter X.env) (some (assign (.Name x pos') X.env))) _ _ s
 refine Uj (V1 (Yw (use:=some (assign (.Name x pos') X.env)) (Q:=λ _ s'=>SP X pins D .next s') rfl hs hcl S.kind S.names
  (yM (RR:=λ acc C=>compPost (model X.prog X.w) X.A X.xe (some (assign (.Name x pos') X.env)) (λ _ s'=>SP X pins D .next s') acc C) hx hc S hi hg ht he I h λ l C s6 H5 m hm f J q=>?_)) (λ _ s' hq=>Uw (Uw hq)) λ _ _ e=>e)
 show wpAny _ X.A (assign (.Name x pos') X.env (.ref l)) _ _ _;refine wpAny_assign_Name (Ad J hN hni hl (show RelV (.ref l) (.ref l)from rfl) (λ s7 J7 hch=>?_) hf);obtain⟨a,hsame,ha⟩:=hch
 have hCa:C≠a:=by
  rcases ha with rfl|ha
  . exact f.2.1
  . exact λ z=>f.2.2.2.2.1 x a ha z.symm
 refine⟨m,hm.sameBut hsame hCa,λ h'' hs''=>⟨σ.set i (some (.ref l)),H5,Inv.forget J7 f hs'',q⟩⟩
end
inductive D where
 |aD|bl (b:Bool)|int (i:Int)|str (x:Str)|ty (n:String)|ref (n:Nat)|lst (xs:List D)|tup (xs:List D)
inductive Cell where
 |lst (xs:List D)|ins (C:Addr) (fs:List (Str×D))|dead
  |tab (P:Addr) (pos:Pos) (qual:Str) (b:Bool)
abbrev ag:=List Cell
abbrev cf:=List (Option D)
mutual
def Rep(α:List (Option Addr))(H:Hp):D->V->Prop
 | .aD,v=>v= .aD
 | .bl b,v=>v= .bl b
 | .int i,v=>v= .int i
 | .str x,v=>v= .str x
 | .ty n,v=>v= .ty n
 | .ref n,v=>α[n]?=some none\/∃a,α[n]?=some (some a)/\v= .ref a
 | .lst xs,v=>∃a vs,v= .ref a/\some a∉α/\Rd H a (.lst vs)/\aS α H xs vs
 | .tup xs,v=>∃a vs,v= .ref a/\some a∉α/\H a=some (.tup vs)/\aS α H xs vs
def aS(α:List (Option Addr))(H:Hp):List D->List V->Prop
 | [],vs=>vs=[]
 |d::ds,vs=>∃v r,vs=v::r/\Rep α H d v/\aS α H ds r
end
def bJ{α:List (Option Addr)}{H:Hp}:∀ {ds:List D} {vs:List V},aS α H ds vs↔Paired (Rep α H) ds vs
 | [],vs=>by
   unfold aS;constructor
   . rintro rfl;exact .nil
   . intro h;cases h;rfl
 |d::ds,vs=>by
  unfold aS;constructor
  . rintro⟨v,r,rfl,h1,h2⟩;exact .cons h1 (bJ.mp h2)
  . intro h;cases h with|cons h1 h2=>exact⟨_,_,rfl,h1,bJ.mpr h2⟩
section
variable {α:List (Option Addr)}{H:Hp}
def aS.length{ds:List D}{vs:List V}(h:aS α H ds vs):ds.length=vs.length:=Paired.length (bJ.mp h)
def x_{A B:Type}{F:A->B->Prop}:∀ {xs:List A} {ys:List B} {i:Nat} {x:A},Paired F xs ys->xs[i]?=some x->∃y,ys[i]?=some y/\F x y
 |_,_,_,_,.nil,e=>by simp at e
 |_,_,0,_,.cons r _,e=>by simp at e;subst e;exact⟨_,rfl,r⟩
 |_,_,i+1,x,.cons _ t,e=>by
  obtain⟨u,h1,h2⟩:=x_ (i:=i) (x:=x) t (by simpa using e);exact⟨u,by simpa using h1,h2⟩
def gI{A B:Type}{F:A->B->Prop}:∀ {xs xs':List A} {ys ys':List B},Paired F xs ys->Paired F xs' ys'->Paired F (xs++xs') (ys++ys')
 |_,_,_,_,.nil,s=>s
 |_,_,_,_,.cons r t,s=> .cons r (gI t s)
def wV{A B:Type}{F:A->B->Prop}:∀ {xs:List A} {ys:List B} (n:Nat),Paired F xs ys->Paired F (xs.take n) (ys.take n)
 |_,_,0,_=> .nil
 |_,_,_+1,.nil=> .nil
 |_,_,n+1,.cons r t=> .cons r (wV n t)
def wH{A B:Type}{F:A->B->Prop}:∀ {xs:List A} {ys:List B} (n:Nat),Paired F xs ys->Paired F (xs.drop n) (ys.drop n)
 |_,_,0,r=>r
 |_,_,_+1,.nil=> .nil
 |_,_,n+1,.cons _ t=>wH n t
def x6{A B:Type}{F:A->B->Prop}{x:A}{y:B}(r:F x y):∀ {xs:List A} {ys:List B} (i:Nat),Paired F xs ys->Paired F (xs.set i x) (ys.set i y)
 |_,_,_,.nil=> .nil
 |_,_,0,.cons _ t=> .cons r t
 |_,_,i+1,.cons q t=> .cons q (x6 r i t)
def nD{A B:Type}{F:A->B->Prop}{xs:List A}{ys:List B}(h:Paired F xs ys):∀k:Nat,Paired F (List.replicate k xs).flatten (List.replicate k ys).flatten
 |0=> .nil
 |k+1=>by
  rw[Vn,Vn,VV,VV];exact gI h (nD h k)
def aS.get{ds:List D}{vs:List V}{i:Nat}{d:D}(h:aS α H ds vs)(e:ds[i]?=some d):∃v,vs[i]?=some v/\Rep α H d v:=x_ (bJ.mp h) e
end
structure Step(α:List (Option Addr))(H:Hp)(α':List (Option Addr))(H':Hp):Prop where
 ext:∀b o,some b∉α->H b=some o->H' b=some o
 pre:∀(n:Nat) (x:Option Addr),α[n]?=some x->α'[n]?=some x\/α'[n]?=some none
 new:∀b,some b∈α'->some b∉α->H b=none
def Step.refl{α:List (Option Addr)}{H:Hp}:Step α H α H:=⟨λ _ _ _ h=>h,λ _ _ h=> .inl h,λ _ h n=>absurd h n⟩
def Step.trans{α α1 α2:List (Option Addr)}{H H1 H2:Hp}(a:Step α H α1 H1)(b:Step α1 H1 α2 H2):Step α H α2 H2 where
 ext:=λ c o hc e=>b.ext c o (λ z=>by rw[a.new c z hc]at e;cases e) (a.ext c o hc e)
 pre:=λ n x e=>by
  rcases a.pre n x e with h|h
  . exact b.pre n x h
  . rcases b.pre n none h with h'|h'
    . exact .inr h'
    . exact .inr h'
 new:=λ c hc n=>by
  by_cases h1:some c∈α1
  . exact a.new c h1 n
  . have:=b.new c hc h1;cases q:H c with
    |none=>rfl
    |some o=>rw[a.ext c o n q]at this;cases this
def Step.laid{α:List (Option Addr)}{H:Hp}{p:Addr}{o:HO}(h:H p=none):Step α H α (upd H p o):=
 ⟨λ b u _ e=>by rw[aE (eh e h)];exact e,λ _ _ h=> .inl h,λ _ h n=>absurd h n⟩
def Step.cell{α:List (Option Addr)}{H:Hp}{p:Addr}{o:HO}(h:H p=none):Step α H (α++[some p]) (upd H p o):=
 ⟨λ b u _ e=>by rw[aE (eh e h)];exact e,λ n x e=> .inl (by rw[Us (Ui.mp e).1];exact e),λ b hb n=>by
  rcases Vf.mp hb with z|z
  . exact absurd z n
  . have:b=p:=by simpa using z
    subst this;exact h⟩
def Step.write{α:List (Option Addr)}{H:Hp}{p:Addr}{o:HO}(h:some p∈α):Step α H α (upd H p o):=
 ⟨λ b u n e=>by rw[aE (λ z=>by subst z;exact n h)];exact e,λ _ _ h=> .inl h,λ _ h n=>absurd h n⟩
def Step.fe{α:List (Option Addr)}{H:Hp}{n:Nat}:Step α H (α.set n none) H:=
 ⟨λ _ _ _ h=>h,λ m x e=>by
  by_cases hm:n=m
  . subst hm;exact .inr (Uq (Ui.mp e).1)
  . exact .inl (by rw[Ul hm];exact e),λ b hb hn=>by
  rcases Vi hb with z|z
  . exact absurd z hn
  . cases z⟩
mutual
def Rep.step{α α':List (Option Addr)}{H H':Hp}(s:Step α H α' H'):∀ {d:D} {v:V},Rep α H d v->Rep α' H' d v
 | .aD,_,h=>by unfold Rep at h⊢;exact h
 | .bl _,_,h=>by unfold Rep at h⊢;exact h
 | .int _,_,h=>by unfold Rep at h⊢;exact h
 | .str _,_,h=>by unfold Rep at h⊢;exact h
 | .ty _,_,h=>by unfold Rep at h⊢;exact h
 | .ref n,_,h=>by
   unfold Rep at h⊢;rcases h with h|⟨a,e,r⟩
   . rcases s.pre _ _ h with z|z<;>exact .inl z
   . rcases s.pre _ _ e with z|z
     . exact .inr ⟨a,z,r⟩
     . exact .inl z
 | .lst xs,_,h=>by
   unfold Rep at h⊢;obtain⟨a,vs,e,n,r,q⟩:=h;refine⟨a,vs,e,λ z=>?_,?_,aS.step s q⟩
   . have:=s.new a z n;rcases r with r|⟨o,r⟩<;>(rw[this]at r;cases r)
   . rcases r with r|⟨o,r⟩
     . exact .inl (s.ext _ _ n r)
     . exact .inr ⟨o,s.ext _ _ n r⟩
 | .tup xs,_,h=>by
   unfold Rep at h⊢;obtain⟨a,vs,e,n,r,q⟩:=h;exact⟨a,vs,e,(λ z=>by rw[s.new a z n]at r;exact nomatch r),s.ext _ _ n r,aS.step s q⟩
def aS.step{α α':List (Option Addr)}{H H':Hp}(s:Step α H α' H'):∀ {ds:List D} {vs:List V},aS α H ds vs->aS α' H' ds vs
 | [],_,h=>by unfold aS at h⊢;exact h
 |d::ds,_,h=>by
  unfold aS at h⊢;obtain⟨v,r,e,h1,h2⟩:=h;exact⟨v,r,e,Rep.step s h1,aS.step s h2⟩
end
structure cG(G F H:Hp):Prop where
 eq:∀b,H b=(G b).or (F b)
 BL:∀b o,G b=some o->F b=none
section
variable {G F H:Hp}
def cG.get(P:cG G F H){b:Addr}{o:HO}(h:G b=some o):H b=some o:=by rw[P.eq b,h];rfl
def cG.same(P:cG G F H):Kj G H:=λ _ _ h=>P.get h
def cG.none(P:cG G F H){b:Addr}(h:H b=none):G b=none/\F b=none:=by
 have e:=P.eq b;rw[h]at e;cases q:G b with
 |none=>rw[q]at e;exact⟨rfl,e.symm⟩
 |some o=>rw[q]at e;cases e
def cG.frame(P:cG G F H){b:Addr}{o:HO}(h:F b=some o):H b=some o/\G b=Option.none:=by
 have hn:G b=Option.none:=by
  cases q:G b with
  |none=>rfl
  |some u=>rw[P.BL b u q]at h;cases h
 exact⟨by rw[P.eq b,hn,h];rfl,hn⟩
def cG.laid(P:cG G F H){p:Addr}{o:HO}(h:H p=Option.none):cG (upd G p o) F (upd H p o):=by
 obtain⟨h1,h2⟩:=P.none h;refine⟨λ b=>?_,λ b u e=>?_⟩
 . by_cases hb:b=p
   . subst hb;rw[a8,a8];rfl
   . rw[aE hb,aE hb];exact P.eq b
 . by_cases hb:b=p
   . subst hb;exact h2
   . rw[aE hb]at e;exact P.BL b u e
def cG.write(P:cG G F H){p:Addr}{o o':HO}(h:G p=some o):cG (upd G p o') F (upd H p o'):=by
 refine⟨λ b=>?_,λ b u e=>?_⟩
 . by_cases hb:b=p
   . subst hb;rw[a8,a8];rfl
   . rw[aE hb,aE hb];exact P.eq b
 . by_cases hb:b=p
   . subst hb;exact P.BL b o h
   . rw[aE hb]at e;exact P.BL b u e
def cG.hide(P:cG G F H){p:Addr}{o:HO}(h:H p=Option.none):cG G (upd F p o) (upd H p o):=by
 obtain⟨h1,h2⟩:=P.none h;refine⟨λ b=>?_,λ b u e=>?_⟩
 . by_cases hb:b=p
   . subst hb;rw[a8,a8,h1];rfl
   . rw[aE hb,aE hb];exact P.eq b
 . by_cases hb:b=p
   . subst hb;rw[h1]at e;cases e
   . rw[aE hb];exact P.BL b u e
def cG.T9(P:cG G F H){p:Addr}{o o':HO}(h:F p=some o):cG G (upd F p o') (upd H p o'):=by
 have h1:=(P.frame h).2;refine⟨λ b=>?_,λ b u e=>?_⟩
 . by_cases hb:b=p
   . subst hb;rw[a8,a8,h1];rfl
   . rw[aE hb,aE hb];exact P.eq b
 . by_cases hb:b=p
   . subst hb;rw[h1]at e;cases e
   . rw[aE hb];exact P.BL b u e
def cG.show{p:Addr}{o:HO}(P:cG G (upd F p o) H)(h:F p=Option.none):cG (upd G p o) F H:=by
 have h1:=(P.frame (b:=p) a8)
 refine⟨λ b=>?_,λ b u e=>?_⟩
 . by_cases hb:b=p
   . subst hb;rw[a8,h1.1];rfl
   . rw[aE hb,P.eq b,aE hb]
 . by_cases hb:b=p
   . subst hb;exact h
   . rw[aE hb]at e;have:=P.BL b u e;rw[aE hb]at this;exact this
end
mutual
def Rep.mono{α:List (Option Addr)}{G H:Hp}(s:Kj G H):∀ {d:D} {v:V},Rep α G d v->Rep α H d v
 | .aD,_,h=>by unfold Rep at h⊢;exact h
 | .bl _,_,h=>by unfold Rep at h⊢;exact h
 | .int _,_,h=>by unfold Rep at h⊢;exact h
 | .str _,_,h=>by unfold Rep at h⊢;exact h
 | .ty _,_,h=>by unfold Rep at h⊢;exact h
 | .ref n,_,h=>by unfold Rep at h⊢;exact h
 | .lst xs,_,h=>by
   unfold Rep at h⊢;obtain⟨a,vs,e,n,r,q⟩:=h;refine⟨a,vs,e,n,?_,aS.mono s q⟩;rcases r with r|⟨o,r⟩
   . exact .inl (s _ _ r)
   . exact .inr ⟨o,s _ _ r⟩
 | .tup xs,_,h=>by
   unfold Rep at h⊢;obtain⟨a,vs,e,n,r,q⟩:=h;exact⟨a,vs,e,n,s _ _ r,aS.mono s q⟩
def aS.mono{α:List (Option Addr)}{G H:Hp}(s:Kj G H):∀ {ds:List D} {vs:List V},aS α G ds vs->aS α H ds vs
 | [],_,h=>by unfold aS at h⊢;exact h
 |d::ds,_,h=>by
  unfold aS at h⊢;obtain⟨v,r,e,h1,h2⟩:=h;exact⟨v,r,e,Rep.mono s h1,aS.mono s h2⟩
end
def lj(α:List (Option Addr))(H:Hp):List (Str×D)->List (Str×V)->Prop:=Paired λ p q=>p.1=q.1/\Rep α H p.2 q.2
def mN(α:List (Option Addr))(H:Hp)(a:Addr):Cell->Prop
 | .lst xs=>∃vs,H a=some (.lst vs)/\aS α H xs vs
 | .ins C fs=>∃dx vs,H a=some (.ins C dx vs)/\lj α H fs vs
 | .dead=>False
 | .tab P pos qual b=>a=P/\∃ps:Array Value,H a=some (.lX ps)/\TriplesOk ps.toList/\
    ((b=false/\codeAmong pos ps.toList=none)\/(b=true/\∃c o vs t,codeAmong pos ps.toList=some (.ref c)/\some c∉α/\H c=some (.fe o (.own c))/\o.data= .fields vs/\vs[1]?=some (.str qual t)))
structure aX(α:List (Option Addr))(st:ag)(H:Hp):Prop where
 len:α.length=st.length
 nd:∀(i j:Nat) (a:Addr),α[i]?=some (some a)->α[j]?=some (some a)->i=j
 at':∀(n:Nat) (c:Cell),st[n]?=some c->(c= .dead/\α[n]?=some none)\/∃a,α[n]?=some (some a)/\mN α H a c
def lj.step{α α':List (Option Addr)}{H H':Hp}(s:Step α H α' H'){ds:List (Str×D)}{vs:List (Str×V)}(h:lj α H ds vs):lj α' H' ds vs:=Paired.Kp h λ _ _ z=>⟨z.1,z.2.step s⟩
def mN.same{α α':List (Option Addr)}{H H':Hp}{a:Addr}{c:Cell}(s:Step α H α' H')(e:H' a=H a)(h:mN α H a c):mN α' H' a c:=by
 cases c with
 |lst xs=>obtain⟨vs,h1,h2⟩:=h;exact⟨vs,e.trans h1,h2.step s⟩
 |ins C fs=>obtain⟨dx,vs,h1,h2⟩:=h;exact⟨dx,vs,e.trans h1,h2.step s⟩
 |dead=>exact h.elim
 |tab P pos qual b=>
  obtain⟨z,ps,h1,h2,h3⟩:=h;refine⟨z,ps,e.trans h1,h2,?_⟩;rcases h3 with h3|⟨hb,c,o,vs,t,q1,q2,q3,q4⟩
  . exact .inl h3
  . exact .inr ⟨hb,c,o,vs,t,q1,(λ y=>by rw[s.new c y q2]at q3;cases q3),s.ext c _ q2 q3,q4⟩
def mN.some{α:List (Option Addr)}{H:Hp}{a:Addr}{c:Cell}(h:mN α H a c):∃o,H a=some o:=by
 cases c with
 |lst xs=>obtain⟨vs,h1,h2⟩:=h;exact⟨_,h1⟩
 |ins C fs=>obtain⟨dx,vs,h1,h2⟩:=h;exact⟨_,h1⟩
 |dead=>exact h.elim
 |tab P pos qual b=>obtain⟨_,ps,h1,_⟩:=h;exact⟨_,h1⟩
def d5{α:List (Option Addr)}{H:Hp}{n:Nat}{v:V}{a:Addr}(e:α[n]?=Option.some (Option.some a))(r:Rep α H (.ref n) v):v= .ref a:=by
 unfold Rep at r;rcases r with r|⟨b,eb,rfl⟩
 . rw[e]at r;cases r
 . rw[e]at eb;cases eb;rfl
section
variable {α:List (Option Addr)}{st:ag}{H:Hp}
def aX.gO(S:aX α st H){n:Nat}{xs:List D}(e:st[n]?=Option.some (.lst xs)):∃a,α[n]?=Option.some (Option.some a)/\∃vs,H a=Option.some (.lst vs)/\aS α H xs vs:=by
 rcases S.at' n _ e with⟨z,_⟩|z
 . cases z
 . exact z
def aX.Bw(S:aX α st H){n:Nat}{C:Addr}{fs:List (Str×D)}(e:st[n]?=Option.some (.ins C fs)):∃a,α[n]?=Option.some (Option.some a)/\∃dx vs,H a=Option.some (.ins C dx vs)/\lj α H fs vs:=by
 rcases S.at' n _ e with⟨z,_⟩|z
 . cases z
 . exact z
def aX.mem(S:aX α st H){a:Addr}(h:Option.some a∈α):∃(n:Nat) (c:Cell),α[n]?=Option.some (Option.some a)/\st[n]?=Option.some c/\mN α H a c:=by
 obtain⟨n,hn,e⟩:=UD.mp h;have hl:n<st.length:=by rw[<-S.len];exact hn
 have e':α[n]?=Option.some (Option.some a):=by rw[Uv hn,e]
 rcases S.at' n st[n] (by simp[hl])with⟨_,q⟩|⟨a',q,ca⟩
 . rw[e']at q;cases q
 . rw[e']at q;cases q;exact⟨n,_,e',by simp[hl],ca⟩
def aX.mI(S:aX α st H){p:Addr}(h:H p=none):Option.some p∉α:=λ z=>by
 obtain⟨n,c,_,_,ca⟩:=S.mem z;obtain⟨o,e⟩:=ca.some;rw[h]at e;cases e
def aX.laid(S:aX α st H){p:Addr}{o:HO}(h:H p=none):aX α st (upd H p o):=
 ⟨S.len,S.nd,λ n c e=>by
  rcases S.at' n c e with z|⟨a,q,ca⟩
  . exact .inl z
  . exact .inr ⟨a,q,ca.same (Step.laid h) (aE (by obtain⟨u,z⟩:=ca.some;exact eh z h))⟩⟩
def aX.cell(S:aX α st H){p:Addr}{o:HO}{c:Cell}(h:H p=none)(hc:mN (α++[Option.some p]) (upd H p o) p c):aX (α++[Option.some p]) (st++[c]) (upd H p o) where
 len:=by rw[Vv,Vv,S.len];rfl
 nd:=λ i j a ei ej=>by
  have key:∀(i:Nat) (a:Addr),(α++[Option.some p])[i]?=Option.some (Option.some a)->(i<α.length/\α[i]?=Option.some (Option.some a))\/(i=α.length/\a=p):=by
   intro i a e;by_cases hi:i<α.length
   . rw[Us hi]at e;exact .inl ⟨hi,e⟩
   . rw[Vc (WB hi)]at e
     have h0:i-α.length=0:=by
      cases q:i-α.length with
      |zero=>rfl
      |succ k=>rw[q]at e;simp at e
     rw[h0]at e;have:p=a:=by simpa using e
     exact .inr ⟨by omega,this.symm⟩
  rcases key i a ei with⟨h1,e1⟩|⟨h1,e1⟩<;>rcases key j a ej with⟨h2,e2⟩|⟨h2,e2⟩
  . exact S.nd i j a e1 e2
  . subst e2;exact absurd (UO e1) (S.mI h)
  . subst e1;exact absurd (UO e2) (S.mI h)
  . omega
 at':=λ n d e=>by
  by_cases hn:n<st.length
  . rw[Us hn]at e;have hl:n<α.length:=by rw[S.len];exact hn
    rcases S.at' n d e with⟨z,q⟩|⟨a,q,ca⟩
    . exact .inl ⟨z,by rw[Us hl];exact q⟩
    . exact .inr ⟨a,by rw[Us hl];exact q,ca.same (Step.cell h) (aE (by obtain⟨u,z⟩:=ca.some;exact eh z h))⟩
  . rw[Vc (WB hn)]at e
    have h0:n-st.length=0:=by
     cases q:n-st.length with
     |zero=>rfl
     |succ k=>rw[q]at e;simp at e
    rw[h0]at e;have hd:c=d:=by simpa using e
    subst hd;refine .inr ⟨p,?_,hc⟩;rw[Vc (by rw[S.len];exact WB hn),S.len,h0];rfl
def aX.write(S:aX α st H){p:Addr}{o:HO}{c:Cell}{n:Nat}(e:α[n]?=Option.some (Option.some p))(hc:mN α (upd H p o) p c):aX α (st.set n c) (upd H p o) where
 len:=by rw[UC];exact S.len
 nd:=S.nd
 at':=λ m d q=>by
  have hp:Option.some p∈α:=UO e;by_cases hm:m=n
  . subst hm
    have hl:m<st.length:=by
     have:=(Ui.mp q).1;rw[UC]at this;exact this
    rw[Uq hl]at q;cases q;exact .inr ⟨p,e,hc⟩
  . rw[Ul (Uy hm)]at q;rcases S.at' m d q with z|⟨a,r,ca⟩
    . exact .inl z
    . refine .inr ⟨a,r,ca.same (Step.write hp) (aE λ z=>?_)⟩;subst z;exact hm (S.nd m n _ r e)
def aX.fe(S:aX α st H){n:Nat}(hn:n<st.length):aX (α.set n none) (st.set n .dead) H where
 len:=by rw[UC,UC];exact S.len
 nd:=λ i j a ei ej=>by
  have key:∀(i:Nat),(α.set n none)[i]?=Option.some (Option.some a)->α[i]?=Option.some (Option.some a):=by
   intro i e;by_cases hi:n=i
   . subst hi;rw[Uq (by rw[S.len];exact hn)]at e;cases e
   . rw[Ul hi]at e;exact e
  exact S.nd i j a (key i ei) (key j ej)
 at':=λ m d q=>by
  by_cases hm:n=m
  . subst hm;rw[Uq hn]at q;cases q;exact .inl ⟨rfl,Uq (by rw[S.len];exact hn)⟩
  . rw[Ul hm]at q;rcases S.at' m d q with⟨z,r⟩|⟨a,r,ca⟩
    . exact .inl ⟨z,by rw[Ul hm];exact r⟩
    . exact .inr ⟨a,by rw[Ul hm];exact r,ca.same Step.fe rfl⟩
def aX.zR(S:aX α st H){n:Nat}{xs:List D}{v:V}(e:st[n]?=Option.some (.lst xs))(r:Rep α H (.ref n) v):Rep (α.set n none) H (.lst xs) v:=by
 obtain⟨a,ea,vs,h1,h2⟩:=S.gO e;have:=d5 ea r;subst this;unfold Rep;refine⟨a,vs,rfl,λ z=>?_,.inl h1,h2.step Step.fe⟩;obtain⟨m,hm,em⟩:=UD.mp z;have em':(α.set n none)[m]?=Option.some (Option.some a):=by rw[Uv hm,em]
 by_cases hx:n=m
 . subst hx;rw[Uq (Ui.mp ea).1]at em';cases em'
 . rw[Ul hx]at em';exact hx (S.nd n m a ea em')
end
abbrev DK:=D->ag->Prop
abbrev DE:=cf->ag->DK->Prop
abbrev DT:=cf->ag->(Bool->ag->Prop)->Prop
abbrev DA:=cf->ag->(List D->ag->Prop)->Prop
structure kq where
 nx:cf->ag->Prop
 rt:DK
 bk:cf->ag->Prop:=λ _ _=>False
 ct:cf->ag->Prop:=λ _ _=>False
abbrev DS:=kq->cf->ag->Prop
structure eN(α:List (Option Addr))(H:Hp)(σd:cf)(σ:L2.St):Prop where
 len:σd.length=σ.length
 at':∀(i:Nat) (d:D),σd[i]?=some (some d)->∃v,σ[i]?=some (some v)/\Rep α H d v
def eN.step{α α':List (Option Addr)}{H H':Hp}{σd:cf}{σ:L2.St}(s:Step α H α' H')(h:eN α H σd σ):eN α' H' σd σ:=
 ⟨h.len,λ i d e=>let⟨v,q,r⟩:=h.at' i d e;⟨v,q,r.step s⟩⟩
def eN.set{α:List (Option Addr)}{H:Hp}{σd:cf}{σ:L2.St}(h:eN α H σd σ)(i:Nat){d:D}{v:V}(r:Rep α H d v):eN α H (σd.set i (some d)) (σ.set i (some v)):=by
 refine⟨by rw[UC,UC,h.len],λ j e q=>?_⟩;have hl:=h.len;by_cases hj:j=i
 . subst hj
   have hlt:j<σd.length:=by
    have:=(Ui.mp q).1;rw[UC]at this;exact this
   rw[Uq hlt]at q;cases q;exact⟨v,Uq (by omega),r⟩
 . rw[Ul (Uy hj)]at q;rw[Ul (Uy hj)];exact h.at' j e q
def LK(α:List (Option Addr))(G F:Hp)(K:DK)(Q:VK):Prop:=∀d st',K d st'->∀α' G' H' v,Step α G α' G'->cG G' F H'->aX α' st' G'->Rep α' G' d v->Q v H'
def KL(α:List (Option Addr))(G F:Hp)(K:Bool->ag->Prop)(Q:Bool->Hp->Prop):Prop:=∀b st',K b st'->∀α' G' H',Step α G α' G'->cG G' F H'->aX α' st' G'->Q b H'
def Ua(α:List (Option Addr))(G F:Hp)(K:List D->ag->Prop)(Q:List V->Hp->Prop):Prop:=∀ds st',K ds st'->∀α' G' H' vs,Step α G α' G'->cG G' F H'->aX α' st' G'->aS α' G' ds vs->Q vs H'
inductive RX(t:DE)(σ:L2.St)(H:Hp)(Q:VK):Prop
 |mk (α:List (Option Addr)) (σd:cf) (st:ag) (K:DK) (G F:Hp) (P:cG G F H) (R:eN α G σd σ) (S:aX α st G) (h:t σd st K) (k:LK α G F K Q):RX t σ H Q
def LE(t:DE):TE:=RX t
inductive R8(t:DT)(σ:L2.St)(H:Hp)(Q:Bool->Hp->Prop):Prop
 |mk (α:List (Option Addr)) (σd:cf) (st:ag) (K:Bool->ag->Prop) (G F:Hp) (P:cG G F H) (R:eN α G σd σ) (S:aX α st G) (h:t σd st K) (k:KL α G F K Q):R8 t σ H Q
def LT(t:DT):TT:=R8 t
inductive RW(t:DA)(σ:L2.St)(H:Hp)(Q:List V->Hp->Prop):Prop
 |mk (α:List (Option Addr)) (σd:cf) (st:ag) (K:List D->ag->Prop) (G F:Hp) (P:cG G F H) (R:eN α G σd σ) (S:aX α st G) (h:t σd st K) (k:Ua α G F K Q):RW t σ H Q
def LA(t:DA):TA:=RW t
def LK.here{α:List (Option Addr)}{G F H:Hp}{K:DK}{Q:VK}(h:LK α G F K Q)(P:cG G F H){d:D}{st:ag}{v:V}(k:K d st)(S:aX α st G)(r:Rep α G d v):Q v H:=h d st k α G H v Step.refl P S r
def LK.at{α α1:List (Option Addr)}{G F G1:Hp}{K:DK}{Q:VK}(h:LK α G F K Q)(s:Step α G α1 G1):LK α1 G1 F K Q:=λ d st' k α' G' H' v s' P S r=>h d st' k α' G' H' v (s.trans s') P S r
def KL.at{α α1:List (Option Addr)}{G F G1:Hp}{K:Bool->ag->Prop}{Q:Bool->Hp->Prop}(h:KL α G F K Q)(s:Step α G α1 G1):KL α1 G1 F K Q:=λ d st' k α' G' H' s' P S=>h d st' k α' G' H' (s.trans s') P S
section
variable {X:Cx}{a b c e:Expr}{es:List Expr}{ta tb tc te:DE}{pos:Pos}
def PE.imp{t t':TE}(h:PE X e t)(f:∀σ H Q,t' σ H Q->t σ H Q):PE X e t':=λ pins s σ H Q I q=>h pins s σ H Q I (f σ H Q q)
def PT.imp{t t':TT}(h:PT X e t)(f:∀σ H Q,t' σ H Q->t σ H Q):PT X e t':=λ pins s σ H Q I q=>h pins s σ H Q I (f σ H Q q)
def PW.imp{t t':TT}(h:PW X e t)(f:∀σ H Q,t' σ H Q->t σ H Q):PW X e t':=λ w pins s σ H Q I q=>h w pins s σ H Q I (f σ H Q q)
def PA.imp{t t':TA}(h:PA X es t)(f:∀σ H Q,t' σ H Q->t σ H Q):PA X es t':=λ p pins s σ H Q I q=>h p pins s σ H Q I (f σ H Q q)
def ae(i:Nat):DE:=λ σ st K=>match σ[i]? with|some (some d)=>K d st|_=>False
def dC(d:D):DE:=λ _ st K=>K d st
def Rm{i:Nat}{x:Str}(h:PE X (.Name x pos) (N3 i)):PE X (.Name x pos) (LE (ae i)):=PE.imp h λ σ H Q ⟨α,σd,st,K,G,F,P,R,S,t,k⟩=>by
 unfold ae at t;split at t
 . rename_i d q;obtain⟨v,e,r⟩:=R.at' i d q;exact⟨v,e,k.here P t S r⟩
 . exact t.elim
def sS{v:V}{d:D}(h:PE X e (tC v))(r:∀α H,Rep α H d v):PE X e (LE (dC d)):=PE.imp h λ σ H Q ⟨α,σd,st,K,G,F,P,R,S,t,k⟩=>k.here P t S (r α G)
def QA{i:Int}{j:Nat}:PE X (.Constant (.int i) j pos) (LE (dC (.int i))):=sS OP λ _ _=>by unfold Rep;rfl
def SI{i:Bool}{j:Nat}:PE X (.Constant (.bool i) j pos) (LE (dC (.bl i))):=sS QB λ _ _=>by unfold Rep;rfl
def Rl{i:Str}{j:Nat}:PE X (.Constant (.str i) j pos) (LE (dC (.str i))):=sS N2 λ _ _=>by unfold Rep;rfl
def Q9{j:Nat}:PE X (.Constant .none j pos) (LE (dC .aD)):=sS NX λ _ _=>by unfold Rep;rfl
abbrev du:=D->D->ag->DK->Prop
abbrev Df:=D->ag->DK->Prop
abbrev gQ:=List D->ag->DK->Prop
inductive Sd(r:du)(x y:V)(H:Hp)(Q:VK):Prop
 |mk (α:List (Option Addr)) (d e:D) (st:ag) (K:DK) (G F:Hp) (P:cG G F H) (rx:Rep α G d x) (ry:Rep α G e y) (S:aX α st G) (h:r d e st K) (k:LK α G F K Q):Sd r x y H Q
def LR(r:du):R2:=Sd r
inductive O5(r:Df)(x:V)(H:Hp)(Q:VK):Prop
 |mk (α:List (Option Addr)) (d:D) (st:ag) (K:DK) (G F:Hp) (P:cG G F H) (rx:Rep α G d x) (S:aX α st G) (h:r d st K) (k:LK α G F K Q):O5 r x H Q
def KH(r:Df):V->Hp->VK->Prop:=O5 r
inductive OD(r:gQ)(xs:List V)(H:Hp)(Q:VK):Prop
 |mk (α:List (Option Addr)) (ds:List D) (st:ag) (K:DK) (G F:Hp) (P:cG G F H) (rx:aS α G ds xs) (S:aX α st G) (h:r ds st K) (k:LK α G F K Q):OD r xs H Q
def jr(r:gQ):List V->Hp->VK->Prop:=OD r
def aw(r:du)(ta tb:DE):DE:=λ σ st K=>ta σ st λ x st1=>tb σ st1 λ y st2=>r x y st2 K
def oS(r:Df)(ta:DE):DE:=λ σ st K=>ta σ st λ x st1=>r x st1 K
def LE.op{r:du}{σ:L2.St}{H:Hp}{Q:VK}(h:LE (aw r ta tb) σ H Q):Ho (LR r) (LE ta) (LE tb) σ H Q:=by
 obtain⟨α,σd,st,K,G,F,P,R,S,t,k⟩:=h;refine⟨α,σd,st,_,G,F,P,R,S,t,λ d st1 q α1 G1 H1 v s1 P1 S1 r1=>?_⟩;refine⟨α1,σd,st1,_,G1,F,P1,R.step s1,S1,q,λ d2 st2 q2 α2 G2 H2 v2 s2 P2 S2 r2=>?_⟩;exact⟨α2,d,d2,st2,K,G2,F,P2,r1.step s2,r2,S2,q2,(k.at s1).at s2⟩
def LE.un{r:Df}{σ:L2.St}{H:Hp}{Q:VK}(h:LE (oS r ta) σ H Q):Sj (KH r) (LE ta) σ H Q:=by
 obtain⟨α,σd,st,K,G,F,P,R,S,t,k⟩:=h;refine⟨α,σd,st,_,G,F,P,R,S,t,λ d st1 q α1 G1 H1 v s1 P1 S1 r1=>?_⟩;exact⟨α1,d,st1,K,G1,F,P1,r1,S1,q,k.at s1⟩
def Th{op:Operator}{r:du}(ho:ck X (binaryOp op) (LR r))(ha:PE X a (LE ta))(hb:PE X b (LE tb)):PE X (.BinOp a op b pos) (LE (aw r ta tb)):=PE.imp (RJ ho ha hb) λ _ _ _ h=>LE.op h
def SA{op:UnaryOp}{r:Df}(ho:El X (unaryOp op) (KH r))(ha:PE X a (LE ta)):PE X (.UnaryOp op a pos) (LE (oS r ta)):=PE.imp (Rq ho ha) λ _ _ _ h=>LE.un h
def Rt{op:CmpOp}{r:du}(ho:ck X (compareOp op) (LR r))(ha:PE X a (LE ta))(hb:PE X b (LE tb))(hm:behindInMarks op b=false:=by first|exact bH _|rfl):PE X (.Compare a [op] [b] pos) (LE (aw r ta tb)):=PE.imp (M6 ho ha hb hm) λ _ _ _ h=>LE.op h
def bh(t:DE):DT:=λ σ st K=>t σ st λ d st1=>match d with| .bl b=>K b st1|_=>False
def LT.test{σ:L2.St}{H:Hp}{Q:Bool->Hp->Prop}(h:LT (bh te) σ H Q):LE te σ H λ x H'=>∃k,x= .bl k/\Q k H':=by
 obtain⟨α,σd,st,K,G,F,P,R,S,t,k⟩:=h;refine⟨α,σd,st,_,G,F,P,R,S,t,λ d st1 q α1 G1 H1 v s1 P1 S1 r1=>?_⟩;cases d with
 |bl b=>
  unfold Rep at r1;exact⟨b,r1,k b st1 q α1 G1 H1 s1 P1 S1⟩
 |_=>exact q.elim
def PK{op:CmpOp}{r:du}(ho:ck X (compareOp op) (LR r))(ha:PE X a (LE ta))(hb:PE X b (LE tb))(hm:behindInMarks op b=false:=by first|exact bH _|rfl):PT X (.Compare a [op] [b] pos) (LT (bh (aw r ta tb))):=PT.imp (NC ho ha hb hm) λ σ H Q h=>by
 have q:=LT.test h;exact LE.op (Q:=λ x H'=>∃k,x= .bl k/\Q k H') q
def Pk(he:PE X e (LE te))(hv:∀whole,isTrue e X.env whole=(do let v <-whole;standAt e.pos;holding [v] (truthy v)):=by intro _;rfl):PT X e (LT (bh te)):=PT.imp (OL he hv) λ σ H Q h=>LT.test h
def f7(t:DT):DT:=λ σ st K=>t σ st λ b st1=>K (!b) st1
def uc(t u:DT):DT:=λ σ st K=>t σ st λ b st1=>if b=true then u σ st1 K else K false st1
def mW(t u:DT):DT:=λ σ st K=>t σ st λ b st1=>if b=true then K true st1 else u σ st1 K
def P_{t:DT}(ha:PT X a (LT t)):PT X (.UnaryOp .Not a pos) (LT (f7 t)):=PT.imp (Po ha) λ σ H Q ⟨α,σd,st,K,G,F,P,R,S,t,k⟩=>
 ⟨α,σd,st,_,G,F,P,R,S,t,λ b st1 q α1 G1 H1 s1 P1 S1=>k _ st1 q α1 G1 H1 s1 P1 S1⟩
def LT.and{t u:DT}{σ:L2.St}{H:Hp}{Q:Bool->Hp->Prop}(h:LT (uc t u) σ H Q):Pt (LT t) (LT u) σ H Q:=by
 obtain⟨α,σd,st,K,G,F,P,R,S,t,k⟩:=h;refine⟨α,σd,st,_,G,F,P,R,S,t,λ b st1 q α1 G1 H1 s1 P1 S1=>?_⟩;cases b with
 |true=>exact⟨α1,σd,st1,K,G1,F,P1,R.step s1,S1,q,k.at s1⟩
 |false=>exact k _ st1 q α1 G1 H1 s1 P1 S1
def LT.or{t u:DT}{σ:L2.St}{H:Hp}{Q:Bool->Hp->Prop}(h:LT (mW t u) σ H Q):Sl (LT t) (LT u) σ H Q:=by
 obtain⟨α,σd,st,K,G,F,P,R,S,t,k⟩:=h;refine⟨α,σd,st,_,G,F,P,R,S,t,λ b st1 q α1 G1 H1 s1 P1 S1=>?_⟩;cases b with
 |false=>exact⟨α1,σd,st1,K,G1,F,P1,R.step s1,S1,q,k.at s1⟩
 |true=>exact k _ st1 q α1 G1 H1 s1 P1 S1
def MD{t:DT}(ha:PT X a (LT t)):PW X (.BoolOp .And [a] pos) (LT t):=pw_and1 ha
def Qm{t:DT}(ha:PT X a (LT t)):PW X (.BoolOp .Or [a] pos) (LT t):=pw_or1 ha
def NL{t u:DT}(ha:PT X a (LT t))(hb:PW X (.BoolOp .And (b::es) pos) (LT u)):PW X (.BoolOp .And (a::b::es) pos) (LT (uc t u)):=PW.imp (pw_and ha hb) λ _ _ _ h=>LT.and h
def Q4{t u:DT}(ha:PT X a (LT t))(hb:PW X (.BoolOp .Or (b::es) pos) (LT u)):PW X (.BoolOp .Or (a::b::es) pos) (LT (mW t u)):=PW.imp (pw_or ha hb) λ _ _ _ h=>LT.or h
def nM(ta tb:DE):DE:=λ σ st K=>ta σ st λ d st1=>match d with| .bl b=>if b=true then tb σ st1 K else K (.bl false) st1|_=>False
def Ko(ta tb:DE):DE:=λ σ st K=>ta σ st λ d st1=>match d with| .bl b=>if b=true then K (.bl true) st1 else tb σ st1 K|_=>False
def FG(t:DT):DE:=λ σ st K=>t σ st λ b st1=>K (.bl (!b)) st1
def QR{op:BoolOp}(ha:PE X a (LE ta)):PE X (.BoolOp op [a] pos) (LE ta):=OY ha
def QW(ha:PE X a (LE ta))(hb:PE X (.BoolOp .And (b::es) pos) (LE tb)):PE X (.BoolOp .And (a::b::es) pos) (LE (nM ta tb)):=PE.imp (P9 ha hb) λ σ H Q ⟨α,σd,st,K,G,F,P,R,S,t,k⟩=>by
 refine⟨α,σd,st,_,G,F,P,R,S,t,λ d st1 q α1 G1 H1 v s1 P1 S1 r1=>?_⟩;cases d with
 |bl b=>
  unfold Rep at r1;refine⟨b,r1,?_⟩;cases b with
  |true=>exact⟨α1,σd,st1,K,G1,F,P1,R.step s1,S1,q,k.at s1⟩
  |false=>exact k _ st1 q α1 G1 H1 _ s1 P1 S1 (by unfold Rep;rfl)
 |_=>exact q.elim
def S0(ha:PE X a (LE ta))(hb:PE X (.BoolOp .Or (b::es) pos) (LE tb)):PE X (.BoolOp .Or (a::b::es) pos) (LE (Ko ta tb)):=PE.imp (RK ha hb) λ σ H Q ⟨α,σd,st,K,G,F,P,R,S,t,k⟩=>by
 refine⟨α,σd,st,_,G,F,P,R,S,t,λ d st1 q α1 G1 H1 v s1 P1 S1 r1=>?_⟩;cases d with
 |bl b=>
  unfold Rep at r1;refine⟨b,r1,?_⟩;cases b with
  |false=>exact⟨α1,σd,st1,K,G1,F,P1,R.step s1,S1,q,k.at s1⟩
  |true=>exact k _ st1 q α1 G1 H1 _ s1 P1 S1 (by unfold Rep;rfl)
 |_=>exact q.elim
def Ro(ha:PE X a (LE ta)):PE X (.UnaryOp .Not a pos) (LE (FG (bh ta))):=PE.imp (Qa ha) λ σ H Q ⟨α,σd,st,K,G,F,P,R,S,t,k⟩=>by
 refine⟨α,σd,st,_,G,F,P,R,S,t,λ d st1 q α1 G1 H1 v s1 P1 S1 r1=>?_⟩;cases d with
 |bl b=>
  unfold Rep at r1;exact⟨b,r1,k _ st1 q α1 G1 H1 _ s1 P1 S1 (by unfold Rep;rfl)⟩
 |_=>exact q.elim
def Iv(t:DT)(ta tb:DE):DE:=λ σ st K=>t σ st λ b st1=>if b=true then ta σ st1 K else tb σ st1 K
def QX{t:DT}(hc:PT X c (LT t))(ha:PE X a (LE ta))(hb:PE X b (LE tb)):PE X (.IfExp c a b pos) (LE (Iv t ta tb)):=PE.imp (Kb hc ha hb) λ σ H Q ⟨α,σd,st,K,G,F,P,R,S,t,k⟩=>by
 refine⟨α,σd,st,_,G,F,P,R,S,t,λ b st1 q α1 G1 H1 s1 P1 S1=>?_⟩;cases b with
 |true=>exact⟨α1,σd,st1,K,G1,F,P1,R.step s1,S1,q,k.at s1⟩
 |false=>exact⟨α1,σd,st1,K,G1,F,P1,R.step s1,S1,q,k.at s1⟩
def ao:DA:=λ _ st K=>K [] st
def af(ta:DE)(tr:DA):DA:=λ σ st K=>ta σ st λ x st1=>tr σ st1 λ xs st2=>K (x::xs) st2
def yi:PA X [] (LA ao):=PA.imp O8 λ σ H Q ⟨α,σd,st,K,G,F,P,R,S,t,k⟩=>k [] st t α G H [] Step.refl P S (by unfold aS;rfl)
def vF{tr:DA}(ha:PE X e (LE te))(hr:PA X es (LA tr))(hs:starEach (e::es) X.env=(false,eval e X.env)::starEach es X.env:=by rfl):PA X (e::es) (LA (af te tr)):=PA.imp (M_ ha hr hs) λ σ H Q ⟨α,σd,st,K,G,F,P,R,S,t,k⟩=>by
 refine⟨α,σd,st,_,G,F,P,R,S,t,λ d st1 q α1 G1 H1 v s1 P1 S1 r1=>?_⟩;refine⟨α1,σd,st1,_,G1,F,P1,R.step s1,S1,q,λ ds st2 q2 α2 G2 H2 vs s2 P2 S2 r2=>?_⟩;exact k _ st2 q2 α2 G2 H2 (v::vs) (s1.trans s2) P2 S2 (by unfold aS;exact⟨v,vs,rfl,r1.step s2,r2⟩)
def jC(t:DA):DE:=λ σ st K=>t σ st λ ds st1=>ds.length<=sizeLine/\K (.tup ds) st1
def uD(t:DA):DE:=λ σ st K=>t σ st λ ds st1=>ds.length<=sizeLine/\K (.lst ds) st1
def xH(t:DA):DE:=λ σ st K=>t σ st λ ds st1=>ds.length<=sizeLine/\K (.ref st1.length) (st1++[.lst ds])
def LK.tup{α:List (Option Addr)}{G F H:Hp}{K:DK}{Q:VK}{ds:List D}{vs:List V}{st:ag}{p:Addr}(k:LK α G F K Q)(P:cG G F H)(q:K (.tup ds) st)(S:aX α st G)(r:aS α G ds vs)(hp:H p=none):Q (.ref p) (upd H p (.tup vs)):=
 have hg:=(P.none hp).1
 k _ st q α _ _ _ (Step.laid hg) (P.laid hp) (S.laid hg) (by unfold Rep;exact⟨p,vs,rfl,S.mI hg,a8,r.step (Step.laid hg)⟩)
def LK.lst{α:List (Option Addr)}{G F H:Hp}{K:DK}{Q:VK}{ds:List D}{vs:List V}{st:ag}{p:Addr}(k:LK α G F K Q)(P:cG G F H)(q:K (.lst ds) st)(S:aX α st G)(r:aS α G ds vs)(hp:H p=none):Q (.ref p) (upd H p (.lst vs)):=
 have hg:=(P.none hp).1
 k _ st q α _ _ _ (Step.laid hg) (P.laid hp) (S.laid hg) (by unfold Rep;exact⟨p,vs,rfl,S.mI hg,.of a8,r.step (Step.laid hg)⟩)
def LK.new{α:List (Option Addr)}{G F H:Hp}{K:DK}{Q:VK}{ds:List D}{vs:List V}{st:ag}{p:Addr}(k:LK α G F K Q)(P:cG G F H)(q:K (.ref st.length) (st++[.lst ds]))(S:aX α st G)(r:aS α G ds vs)(hp:H p=none):Q (.ref p) (upd H p (.lst vs)):=
 have hg:=(P.none hp).1
 k _ _ q (α++[some p]) _ _ _ (Step.cell hg) (P.laid hp) (S.cell hg ⟨vs,a8,r.step (Step.cell hg)⟩) (by
  unfold Rep;refine .inr ⟨p,?_,rfl⟩;rw[Vc (by rw[S.len];exact Uk _),S.len,WR];rfl)
def Q_{n:Nat}{t:DA}(h:PA X es (LA t)):PE X (.Tuple es n pos) (LE (jC t)):=PE.imp (Qp h) λ σ H Q ⟨α,σd,st,K,G,F,P,R,S,t,k⟩=>
 ⟨α,σd,st,_,G,F,P,R,S,t,λ ds st1 q α1 G1 H1 vs s1 P1 S1 r1=>⟨by rw[<-r1.length];exact q.1,λ p hp=>(k.at s1).tup P1 q.2 S1 r1 hp⟩⟩
def QJ{t:DA}(h:PA X es (LA t)):PE X (.List es pos) (LE (uD t)):=PE.imp (IJ h) λ σ H Q ⟨α,σd,st,K,G,F,P,R,S,t,k⟩=>
 ⟨α,σd,st,_,G,F,P,R,S,t,λ ds st1 q α1 G1 H1 vs s1 P1 S1 r1=>⟨by rw[<-r1.length];exact q.1,λ p hp=>(k.at s1).lst P1 q.2 S1 r1 hp⟩⟩
def RI{t:DA}(h:PA X es (LA t)):PE X (.List es pos) (LE (xH t)):=PE.imp (IJ h) λ σ H Q ⟨α,σd,st,K,G,F,P,R,S,t,k⟩=>
 ⟨α,σd,st,_,G,F,P,R,S,t,λ ds st1 q α1 G1 H1 vs s1 P1 S1 r1=>⟨by rw[<-r1.length];exact q.1,λ p hp=>(k.at s1).new P1 q.2 S1 r1 hp⟩⟩
abbrev cy:=List D->ag->DK->Prop
inductive NV(T:cy)(vs:List V)(H:Hp)(Q:VK):Prop
 |mk (α:List (Option Addr)) (ds:List D) (st:ag) (K:DK) (G F:Hp) (P:cG G F H) (rx:aS α G ds vs) (S:aX α st G) (h:T ds st K) (k:LK α G F K Q):NV T vs H Q
def cD(S:cy):Sp:=λ vs H Q _=>NV S vs H Q
def ay(S:cy)(t:DA):DE:=λ σ st K=>t σ st λ ds st1=>S ds st1 K
def LE.call{S:cy}{t:DA}{σ:L2.St}{H:Hp}{Q:VK}(h:LE (ay S t) σ H Q):KQ (cD S) [] E0 (LA t) σ H Q:=by
 obtain⟨α,σd,st,K,G,F,P,R,S,t,k⟩:=h;refine⟨α,σd,st,_,G,F,P,R,S,t,λ ds st1 q α1 G1 H1 vs s1 P1 S1 r1=>?_⟩;try dsimp only
 rw[VW];exact⟨α1,ds,st1,K,G1,F,P1,r1,S1,q,k.at s1⟩
def NK{S:cy}{k:Nat}{f:Addr}{fd:FuncData}{ps:List Str}{x:Str}{p:Pos}{t:DA}(F:a_ X.prog X.w X.K X.mg X.base cz k f fd ps (cD S))(hr:dy k X.A)(hg:Gl X x)(hm:X.mg x=some (.ref f))(hk:PySem.W.keepIn X.K (.ref f)=true)(hb:Binds X.K fd ps [])
 (ha:PA X (e::es) (LA t)) (hdb:(x==("__debug__":Str))=false:=by decide) (he:starEach (e::es) X.env=(false,eval e X.env)::starEach es X.env:=by rfl) (hpl:(backTo pos (starEach es X.env)).any (·.1)=false:=by rfl):
 PE X (.Call (.Name x p) (e::es) [] pos) (LE (ay S t)):=PE.imp (LW F hr hg hm hk hb .nil E7 ha hdb he hpl) λ _ _ _ h=>LE.call h
def bO(r:gQ)(t:DA):DE:=λ σ st K=>t σ st λ ds st1=>r ds st1 K
def LE.cb{r:gQ}{t:DA}{σ:L2.St}{H:Hp}{Q:VK}(h:LE (bO r t) σ H Q):PU (jr r) (LA t) σ H Q:=by
 obtain⟨α,σd,st,K,G,F,P,R,S,t,k⟩:=h;refine⟨α,σd,st,_,G,F,P,R,S,t,λ ds st1 q α1 G1 H1 vs s1 P1 S1 r1=>?_⟩;exact⟨α1,ds,st1,K,G1,F,P1,r1,S1,q,k.at s1⟩
end
section
variable {X:Cx}
def ck.imp{f:Value->Value->Sem Value}{r r':R2}(h:ck X f r)(k:∀x y H Q,r' x y H Q->r x y H Q):ck X f r':=λ pins s σ H x y v u Q I rx ry q=>h pins s σ H x y v u Q I rx ry (k x y H Q q)
def cM.imp{f:Value}{r r':List V->Hp->VK->Prop}(h:cM X f r)(k:∀xs H Q,r' xs H Q->r xs H Q):cM X f r':=λ pins s σ H xs us Q I rs q=>h pins s σ H xs us Q I rs (k xs H Q q)
def wL(C:Int->Int->Prop)(g:Int->Int->D):du:=λ x y st K=>match x,y with| .int i,.int j=>C i j/\K (g i j) st|_,_=>False
def mj{f:Value->Value->Sem Value}{C:Int->Int->Prop}{g:Int->Int->D}{g':Int->Int->V}(hg:∀i j α H,Rep α H (g i j) (g' i j))(h:ck X f (rI C g')):ck X f (LR (wL C g)):=ck.imp h λ x y H Q ⟨α,d,e,st,K,G,F',P,r1,r2,S,q,k⟩=>by
 cases d<;>cases e<;>first
  |exact q.elim
  |(unfold Rep at r1 r2;exact⟨_,_,r1,r2,q.1,k.here P q.2 S (hg _ _ _ _)⟩)
abbrev T2:Int->Int->Prop:=λ _ _=>True
def yL{g:Int->Int->V}{f:Value->Value->Sem Value}(h:ck X f (yC g)):ck X f (rI T2 g):=ck.imp h λ x y H Q ⟨i,j,e1,e2,_,q⟩=>⟨i,j,e1,e2,q⟩
abbrev Lq:du:=wL T2 λ i j=> .int (i-j)
abbrev GZ:du:=wL (λ _ j=>j≠0/\j.natAbs.log2<9000) λ i j=> .int (i.fdiv j)
abbrev Lw:du:=wL (λ _ j=>j≠0) λ i j=> .int (i.fmod j)
abbrev K4:du:=wL JU λ i j=> .int (i^j.toNat)
abbrev OR:du:=wL T2 λ i j=> .bl (decide (i<j))
abbrev OK:du:=wL T2 λ i j=> .bl (decide (i<=j))
abbrev Of:du:=wL T2 λ i j=> .bl (decide (j<i))
abbrev NQ:du:=wL T2 λ i j=> .bl (decide (j<=i))
def QT:ck X (binaryOp .Sub) (LR Lq):=mj (λ _ _ _ _=>by unfold Rep;rfl) (yL Ol)
def Qh:ck X (binaryOp .FloorDiv) (LR GZ):=mj (λ _ _ _ _=>by unfold Rep;rfl) (Lz λ i j _ _ _ _ _ hc q=>floordiv_int hc.1 q (.inl (Yx hc.2)))
def QK:ck X (binaryOp .Mod) (LR Lw):=mj (λ _ _ _ _=>by unfold Rep;rfl) LY
def RN:ck X (binaryOp .Pow) (LR K4):=mj (λ _ _ _ _=>by unfold Rep;rfl) NG
def Ti:ck X (compareOp .Lt) (LR OR):=mj (λ _ _ _ _=>by unfold Rep;rfl) (yL Qs)
def TF:ck X (compareOp .LtE) (LR OK):=mj (λ _ _ _ _=>by unfold Rep;rfl) (yL Q7)
def SN:ck X (compareOp .Gt) (LR Of):=mj (λ _ _ _ _=>by unfold Rep;rfl) (yL Qv)
def Tg:ck X (compareOp .GtE) (LR NQ):=mj (λ _ _ _ _=>by unfold Rep;rfl) (yL QZ)
def K5:Df:=λ x st K=>match x with| .int i=>K (.int (-i)) st|_=>False
def Qy:El X (unaryOp .USub) (KH K5):=λ pins s σ H x v Q I rx ⟨α,d,st,K,G,F',P,r,S,q,k⟩=>by
 cases d<;>first
  |exact q.elim
  |(unfold Rep at r;exact OG pins s σ H x v Q I rx ⟨_,r,k.here P q S (by unfold Rep;rfl)⟩)
def Inv.zy{pins:List (Addr×Obj)}{σ:L2.St}{H:Hp}{s:Shared}{l:Addr}{xs:List V}(I:Inv X pins σ H s)(h:Rd H l (.lst xs)):
 xs.length<=sizeLine/\∃(av:List Value) (n:Nat),Vals xs av/\xs.length=av.length/\s.heap.get? l=some {cls:= .type "list",data:= .seq av.toArray n}:=by
 obtain⟨z,av,n,r,e⟩:=h.ok I.aO;exact⟨z,av,n,r,r.length,e⟩
def iy{G F H:Hp}(P:cG G F H){a:Addr}{u:HO}(h:Rd G a u):Rd H a u:=by
 rcases h with h|⟨o,h⟩
 . exact .inl (P.get h)
 . exact .inr ⟨o,P.get h⟩
def MA:ck X (binaryOp .Add) (λ x y H Q=>∃l b xs zs,x= .ref l/\y= .ref b/\Rd H l (.lst xs)/\Rd H b (.lst zs)/\xs.length+zs.length<=sizeLine/\∀p,H p=none->Q (.ref p) (upd H p (.lst (xs++zs)))):=by
 intro pins s σ H x y v u Q I rx ry h;obtain⟨l,b,xs,zs,rfl,rfl,hH,hB,hz,q⟩:=h;cases rx;cases ry;obtain⟨z,av,n,r,hl,e⟩:=Inv.zy I hH;obtain⟨z2,its2,n2,r2,hl2,e2⟩:=Inv.zy I hB;refine PySem.P.add_list e e2 ?_ (by rw[Ut,Ut];omega);have ea:av.toArray++its2.toArray=(av++its2).toArray:=by simp
 rw[ea];exact⟨.ref _,_,I.J0 (t':=s.toks) (r.append r2) (by rw[Vv];omega),rfl,q _ I.fresh⟩
def Eu:ck X (binaryOp .Mult) (λ x y H Q=>∃l k xs,x= .ref l/\y= .int k/\Rd H l (.lst xs)/\ -(2^63)<=k/\k<2^63/\xs.length*k.toNat<=sizeLine/\
 ∀p,H p=none->Q (.ref p) (upd H p (.lst (List.replicate k.toNat xs).flatten))):=by
 intro pins s σ H x y v u Q I rx ry h;obtain⟨l,k,xs,rfl,rfl,hH,h1,h2,hz,q⟩:=h;cases rx;obtain⟨t,rfl⟩:=ry;obtain⟨z,av,n,r,hl,e⟩:=Inv.zy I hH;have hlen:av.toArray.size*k.toNat<=sizeLine:=by rw[Ut,<-hl];exact hz
 have hcap:¬av.toArray.size*k.toNat>(2^63-1)/8:=by
  have:(sizeLine:Nat)<=(2^63-1)/8:=by decide
  omega
 have hfit:¬(!Builtin.List.listFitsIndex k)=true:=by
  rw[fitsIndex_both h1 h2];exact Vr
 have hlong:¬Builtin.List.listTooLong (av.toArray.size*k.toNat)=true:=by
  rw[Kx hlen];exact Vr
 have hnew:List.foldl (λ x1 x2=>x1++x2) #[] (List.replicate (if av.toArray.isEmpty=true then 0 else k.toNat) av.toArray)=(List.replicate k.toNat av).flatten.toArray:=by
  have f0:∀m:Nat,List.foldl (λ x1 x2=>x1++x2) #[] (List.replicate m av.toArray)=(List.replicate m av).flatten.toArray:=λ m=>by
   have:=foldl_rep av m [];rw[List.nil_append]at this;exact this
  rw[f0];cases av with
  |nil=>simp
  |cons a r'=>rw[Up (by simp)]
 refine Yp (T:="list") (U:="int") (by decide) ⟨_,e,rfl⟩ (λ s'=>Yo s' k t) noFill_list_mul F.fills_int_mul Xz repeat_list F.slot_int_index.lookup
  (WT Xz (Yo s k t) F.entry_int_rmul (F.args_int_rmul_2 _ _) (int___rmul___int_list k t l av.toArray n)
    ⟨e,rfl,⟨_,e,rfl⟩,WT F.slot_list_mul ⟨_,e,rfl⟩ F.entry_list_mul (F.args_list_mul_2 _ _) (AutoListH.list___mul___list_int_3 l av.toArray n k t hfit hcap hlong) ⟨e,?_⟩⟩)
 rw[hnew];exact⟨.ref _,_,I.J0 (t':=s.toks) (r.rep k.toNat) (by rw[len_rep,Wl];exact hz),rfl,q _ I.fresh⟩
def Kn:ck X (binaryOp .Add) (λ x y H Q=>∃a b xs ys,x= .ref a/\y= .ref b/\H a=some (.tup xs)/\H b=some (.tup ys)/\xs.length+ys.length<=sizeLine/\
 (xs=[]->Q (.ref b) H)/\(xs≠ []->ys=[]->Q (.ref a) H)/\(xs≠ []->ys≠ []->∀p,H p=none->Q (.ref p) (upd H p (.tup (xs++ys))))):=by
 intro pins s σ H x y v u Q I rx ry h;obtain⟨a,b,xs,ys,rfl,rfl,ha,hb,hz,q0,q1,q2⟩:=h;by_cases hx:xs=[]
 . cases rx;cases ry;obtain⟨av,r1,p1,_⟩:=I.tuple (.of ha);obtain⟨its2,r2,p2,_⟩:=I.tuple (.of hb);obtain⟨⟨cls,dd,data,sl⟩,ho,hc,n,hd⟩:=id p1;obtain⟨⟨cls2,dd2,data2,sl2⟩,ho2,hc2,n2,hd2⟩:=id p2;simp only at hc hd hc2 hd2;subst hc hd hc2 hd2;have hi:av=[]:=(L2.Vals.vU r1).mpr hx
   exact Y3 ⟨_,ho,rfl⟩ ⟨_,ho2,rfl⟩ Yv Y0 Xk Xd (W5 _ _)
    (tuple_addW0 a b av.toArray its2.toArray n n2 dd dd2 sl sl2 (by simp[hi])) ⟨ho,ho2,⟨.ref b,H,I,rfl,q0 hx⟩⟩
 . exact MT pins s σ H _ _ v u Q I rx ry ⟨a,b,xs,ys,rfl,rfl,.of ha,.of hb,hx,hz,q1 hx,q2 hx⟩
def zd:fillsNumberSlot (.type "tuple") "mul"=pure false:=
 PySem.fillsNumberSlot_seq (id:="tuple.__mul__") (r:=some (.builtin "tuple.__rmul__")) WU.lookup (by decide+kernel) F.slot_tuple_rmul.lookup (by decide+kernel)
def Gu:seqRepeat? (.type "tuple")=pure (some (.builtin "tuple.__mul__")):=by
 unfold seqRepeat?;rw[PySem.seqSlot_of (T:="tuple") (name:="__mul__") (id:="tuple.__mul__") WU.lookup (by decide+kernel),PySem.seqSlot_of (T:="tuple") (name:="__rmul__") (id:="tuple.__rmul__") F.slot_tuple_rmul.lookup (by decide+kernel)];rfl
def Cp(a:Int)(t:Tok)(l:Addr)(av:Array Value)(n:Nat)(dd:Option Addr)(sl:Array (Option Value)):Meets (Builtin.«int.__rmul__» ⟨[.int a t,.ref l],[]⟩) (λ _ R s=>s.heap.get? l=some {cls:= .type "tuple",dict:=dd,data:= .seq av n,slots:=sl}/\R (.ok (.ret Value.notImplemented)) s):=
 .of_wp λ P w A R s h=>by
  obtain⟨hp,g,d,tk,os⟩:=s;obtain⟨hl,h⟩:=h
  wp_walk
  exact⟨_,rfl,h⟩
def BZ(l:Addr)(av:Array Value)(n:Nat)(dd:Option Addr)(sl:Array (Option Value))(x:Int)(u:Tok)(h0:(decide (x< -(2^63))||decide (x>=2^63))=false)(h1:(av.isEmpty||x==1)=true):
 Meets (Builtin.«tuple.__mul__» ⟨[.ref l,.int x u],[]⟩) (λ _ R s=>s.heap.get? l=some {cls:= .type "tuple",dict:=dd,data:= .seq av n,slots:=sl}/\R (.ok (.ret (.ref l))) s):=
 .of_wp λ P w A R s h=>by
  obtain⟨hp,g,d,tk,os⟩:=s;obtain⟨hl,h⟩:=h
  wp_walk
  refine XA (by rw[h0];rfl) ?_
  wp_walk
  exact⟨_,rfl,h⟩
def Cw(l:Addr)(av:Array Value)(n:Nat)(dd:Option Addr)(sl:Array (Option Value))(x:Int)(u:Tok)(h0:(decide (x< -(2^63))||decide (x>=2^63))=false)(h1:(av.isEmpty||x==1)=false)(h2:(decide (x<=0)||av.isEmpty)=true):
 Meets (Builtin.«tuple.__mul__» ⟨[.ref l,.int x u],[]⟩) (λ _ R s=>s.heap.get? l=some {cls:= .type "tuple",dict:=dd,data:= .seq av n,slots:=sl}/\R (.ok (.ret (.ref s.heap.objs.size))) {s with heap:=s.heap.push {cls:= .type "tuple",data:= .seq #[]}}):=
 .of_wp λ P w A R s h=>by
  obtain⟨hp,g,d,tk,os⟩:=s;obtain⟨hl,h⟩:=h
  wp_walk
  refine XA (by rw[h0];rfl) ?_
  wp_walk
  exact⟨_,rfl,h⟩
def Dj(l:Addr)(av:Array Value)(n:Nat)(dd:Option Addr)(sl:Array (Option Value))(x:Int)(u:Tok)(h0:(decide (x< -(2^63))||decide (x>=2^63))=false)(h1:(av.isEmpty||x==1)=false)(h2:(decide (x<=0)||av.isEmpty)=false)(h3:¬((av.size:Int)*x>(2^63-1)/8))(h4:Builtin.Tuple.tupleTooMany (av.size*x)=false)
 (hz:(List.foldl (λ x1 x2=>x1++x2) #[] (List.replicate x.toNat av)).size<=sizeLine):
 Meets (Builtin.«tuple.__mul__» ⟨[.ref l,.int x u],[]⟩) (λ _ R s=>s.heap.get? l=some {cls:= .type "tuple",dict:=dd,data:= .seq av n,slots:=sl}/\R (.ok (.ret (.ref s.heap.objs.size))) {s with heap:=s.heap.push {cls:= .type "tuple",data:= .seq (List.foldl (λ x1 x2=>x1++x2) #[] (List.replicate x.toNat av))}}):=
 .of_wp λ P w A R s h=>by
  obtain⟨hp,g,d,tk,os⟩:=s;obtain⟨hl,h⟩:=h
  wp_walk
  refine XA (by rw[h0];rfl) ?_
  wp_walk
  refine XA (UQ h3) ?_
  wp_walk
  exact⟨_,rfl,h⟩
def L5:ck X (binaryOp .Mult) (λ x y H Q=>∃l k xs,x= .ref l/\y= .int k/\H l=some (.tup xs)/\ -(2^63)<=k/\k<2^63/\xs.length*k.toNat<=sizeLine/\
 ((xs=[]\/k=1)->Q (.ref l) H)/\(¬(xs=[]\/k=1)->∀p,H p=none->Q (.ref p) (upd H p (.tup (List.replicate k.toNat xs).flatten)))):=by
 intro pins s σ H x y v u Q I rx ry h;obtain⟨l,k,xs,rfl,rfl,hH,h1,h2,hz,q1,q2⟩:=h;cases rx;obtain⟨t,rfl⟩:=ry;obtain⟨av,r,p1,_⟩:=I.tuple (.of hH);obtain⟨⟨cls,dd,data,sl⟩,ho,hc,n,hd⟩:=id p1;simp only at hc hd;subst hc hd;have hl:xs.length=av.length:=r.length
 have f0:(decide (k< -(2^63))||decide (k>=2^63))=false:=by
  rw[UQ (by omega),UQ (by omega)];rfl
 refine Yp (T:="tuple") (U:="int") (by decide) ⟨_,ho,rfl⟩ (λ s'=>Yo s' k t) zd F.fills_int_mul Xz Gu F.slot_int_index.lookup
  (WT Xz (Yo s k t) F.entry_int_rmul (F.args_int_rmul_2 _ _) (Cp k t l av.toArray n dd sl) ⟨ho,rfl,⟨_,ho,rfl⟩,?_⟩)
 by_cases hs:xs=[]\/k=1
 . have f1:(av.toArray.isEmpty||k==1)=true:=by
    rcases hs with z|z
    . have:av=[]:=VT.mp (by rw[<-hl,z];rfl);rw[this];rfl
    . rw[z];simp
   exact WT WU ⟨_,ho,rfl⟩ Yj (XX _ _) (BZ l av.toArray n dd sl k t f0 f1) ⟨ho,⟨.ref l,H,I,rfl,q1 hs⟩⟩
 . have hne:av≠ []:=λ z=>hs (.inl (VT.mp (by rw[hl,z];rfl)));have hk1:k≠1:=λ z=>hs (.inr z);have e1:av.toArray.isEmpty=false:=by simpa using hne
   have f1:(av.toArray.isEmpty||k==1)=false:=by rw[e1];simpa using hk1
   have new:∀(us:List Value) (ys:List V),Vals ys us->ys.length<=sizeLine->Inv X pins σ (upd H s.heap.objs.size (.tup ys)) {s with heap:=s.heap.push {cls:= .type "tuple",data:= .seq us.toArray}}:=λ us ys hv hy=>
    I.laid (t':=s.toks) (λ _ _ q=>Uo _ q) (Uk _) ⟨hy,us,hv,⟨_,UN _ rfl,rfl,_,rfl⟩⟩
   by_cases h0:k<=0
   . have f2:(decide (k<=0)||av.toArray.isEmpty)=true:=by rw[U9 h0];rfl
     refine WT WU ⟨_,ho,rfl⟩ Yj (XX _ _) (Cw l av.toArray n dd sl k t f0 f1 f2) ⟨ho,?_⟩;have ez:k.toNat=0:=by omega
     rw[ez]at q2;exact⟨.ref _,_,new [] [] .nil (US _),rfl,q2 hs _ I.fresh⟩
   . have f2:(decide (k<=0)||av.toArray.isEmpty)=false:=by rw[UQ h0,e1];rfl
     have hk:(k.toNat:Int)=k:=by omega
     have hlen:av.toArray.size*k.toNat<=sizeLine:=by rw[Ut,<-hl];exact hz
     have hsz:((av.toArray.size:Nat):Int)*k<=(sizeLine:Int):=by
      rw[<-hk]
      exact_mod_cast hlen
     have f3:¬(((av.toArray.size:Nat):Int)*k>(2^63-1)/8):=by
      have:((sizeLine:Nat):Int)<=(2^63-1)/8:=by decide
      omega
     have f4:Builtin.Tuple.tupleTooMany (((av.toArray.size:Nat):Int)*k)=false:=by
      unfold Builtin.Tuple.tupleTooMany;exact UQ (by omega)
     have hnew:List.foldl (λ x1 x2=>x1++x2) #[] (List.replicate k.toNat av.toArray)=(List.replicate k.toNat av).flatten.toArray:=by
      have:=foldl_rep av k.toNat [];rw[List.nil_append]at this;exact this
     have hfl:(List.replicate k.toNat av).flatten.length=av.length*k.toNat:=by rw[len_rep,Wl]
     refine WT WU ⟨_,ho,rfl⟩ Yj (XX _ _) (Dj l av.toArray n dd sl k t f0 f1 f2 f3 f4 (by rw[hnew,Ut,hfl];exact hlen)) ⟨ho,?_⟩;rw[hnew];exact⟨.ref _,_,new _ _ (r.rep k.toNat) (by rw[len_rep,Wl];exact hz),rfl,q2 hs _ I.fresh⟩
def KR:du:=λ x y st K=>match x,y with
 | .int i,.int j=>K (.int (i+j)) st
 | .tup xs,.tup ys=>xs.length+ys.length<=sizeLine/\K (.tup (xs++ys)) st
 | .lst xs,.lst ys=>xs.length+ys.length<=sizeLine/\K (.lst (xs++ys)) st
 | .str x,.str y=>x.length+y.length<=sizeLine/\K (.str (x++y)) st
 |_,_=>False
def Rj:ck X (binaryOp .Add) (LR KR):=λ pins s σ H x y v u Q I rx ry ⟨α,d,e,st,K,G,F',P,r1,r2,S,q,k⟩=>by
 cases d<;>cases e<;>try exact q.elim
 . unfold Rep at r1 r2;exact OJ pins s σ H x y v u Q I rx ry ⟨_,_,r1,r2,k.here P q S (by unfold Rep;rfl)⟩
 . unfold Rep at r1 r2;exact Gh pins s σ H x y v u Q I rx ry ⟨_,_,r1,r2,q.1,k.here P q.2 S (by unfold Rep;rfl)⟩
 . unfold Rep at r1 r2;obtain⟨a,vs,rfl,na,ha,ra⟩:=r1;obtain⟨b,ws,rfl,nb,hb,rb⟩:=r2;refine MA pins s σ H _ _ v u Q I rx ry ⟨a,b,vs,ws,rfl,rfl,iy P ha,iy P hb,by rw[<-ra.length,<-rb.length];exact q.1,λ p hp=>?_⟩;exact k.lst P q.2 S (bJ.mpr (gI (bJ.mp ra) (bJ.mp rb))) hp
 . rename_i xs ys;unfold Rep at r1 r2;obtain⟨a,vs,rfl,na,ha,ra⟩:=r1;obtain⟨b,ws,rfl,nb,hb,rb⟩:=r2;have hl1:=ra.length;have hl2:=rb.length;refine Kn pins s σ H _ _ v u Q I rx ry ⟨a,b,vs,ws,rfl,rfl,P.get ha,P.get hb,by rw[<-hl1,<-hl2];exact q.1,λ z=>?_,λ _ z=>?_,λ _ _ p hp=>?_⟩
   . refine k.here P q.2 S ?_;unfold Rep;have:xs=[]:=by rw[z]at hl1;exact VT.mp hl1
     subst this;exact⟨b,ws,rfl,nb,hb,rb⟩
   . refine k.here P q.2 S ?_;unfold Rep;have:ys=[]:=by rw[z]at hl2;exact VT.mp hl2
     subst this;rw[VW];exact⟨a,vs,rfl,na,ha,ra⟩
   . exact k.tup P q.2 S (bJ.mpr (gI (bJ.mp ra) (bJ.mp rb))) hp
def Lp:du:=λ x y st K=>match x,y with
 | .int i,.int j=>IntMulOk i j/\K (.int (i*j)) st
 | .lst xs,.int k=>(-(2^63)<=k/\k<2^63/\xs.length*k.toNat<=sizeLine)/\K (.lst (List.replicate k.toNat xs).flatten) st
 | .tup xs,.int k=>(-(2^63)<=k/\k<2^63/\xs.length*k.toNat<=sizeLine)/\K (.tup (List.replicate k.toNat xs).flatten) st
 |_,_=>False
def QE:ck X (binaryOp .Mult) (LR Lp):=λ pins s σ H x y v u Q I rx ry ⟨α,d,e,st,K,G,F',P,r1,r2,S,q,k⟩=>by
 cases d<;>cases e<;>try exact q.elim
 . unfold Rep at r1 r2;have h:ck X (binaryOp .Mult) (rI IntMulOk λ i j=> .int (i*j)):=Lz λ _ _ _ _ _ _ _ hc q=>mul_int q hc;exact h pins s σ H x y v u Q I rx ry ⟨_,_,r1,r2,q.1,k.here P q.2 S (by unfold Rep;rfl)⟩
 . unfold Rep at r1 r2;obtain⟨a,vs,rfl,na,ha,ra⟩:=r1;refine Eu pins s σ H _ _ v u Q I rx ry ⟨a,_,vs,rfl,r2,iy P ha,q.1.1,q.1.2.1,by rw[<-ra.length];exact q.1.2.2,λ p hp=>?_⟩;exact k.lst P q.2 S (bJ.mpr (nD (bJ.mp ra) _)) hp
 . rename_i xs m;have r1':=r1;unfold Rep at r1 r2;obtain⟨a,vs,rfl,na,ha,ra⟩:=r1;refine L5 pins s σ H _ _ v u Q I rx ry ⟨a,_,vs,rfl,r2,P.get ha,q.1.1,q.1.2.1,by rw[<-ra.length];exact q.1.2.2,λ hs=>?_,λ _ p hp=>k.tup P q.2 S (bJ.mpr (nD (bJ.mp ra) _)) hp⟩
   have e:(List.replicate m.toNat xs).flatten=xs:=by
    rcases hs with z|z
    . have:xs=[]:=VT.mp (by rw[ra.length,z];rfl);rw[this];simp
    . rw[z];simp
   have q2:=q.2;rw[e]at q2;exact k.here P q2 S r1'
def live(st:ag):D->Bool
 | .ref n=>(match st[n]? with|some (.lst _)=>true|some (.ins _ _)=>true|_=>false)
 |_=>true
def xw{α:List (Option Addr)}{H:Hp}{st:ag}{n:Nat}{v:V}(S:aX α st H)(h:live st (.ref n)=true)(r:Rep α H (.ref n) v):∃a,v= .ref a:=by
 unfold live at h;simp only at h;split at h
 . rename_i e;obtain⟨a,ea,_⟩:=S.gO e;exact⟨a,d5 ea r⟩
 . rename_i e;obtain⟨a,ea,_⟩:=S.Bw e;exact⟨a,d5 ea r⟩
 . cases h
def Nj:du:=λ x y st K=>match y with| .aD=>live st x=true/\K (.bl (match x with| .aD=>false|_=>true)) st|_=>False
def Na:ck X (compareOp .IsNot) (LR Nj):=ck.imp L4 λ x y H Q ⟨α,d,e,st,K,G,F',P,r1,r2,S,q,k⟩=>by
 cases e<;>try exact q.elim
 unfold Rep at r2;refine⟨r2,k.here P q.2 S ?_⟩;unfold Rep;cases d
 case ref n=>
  obtain⟨a,rfl⟩:=xw S q.1 r1;rfl
 all_goals(unfold Rep at r1;first|(rw[r1];rfl)|(obtain⟨a,vs,rfl,_⟩:=r1;rfl))
def tK:du:=λ x y st K=>match y with
 | .int i=>(match x with
   | .lst xs=>(match d_ xs i with|some d=>K d st|none=>False)
   | .tup xs=>(match d_ xs i with|some d=>K d st|none=>False)
   | .ref n=>(match st[n]? with|some (.lst xs)=>(match d_ xs i with|some d=>K d st|none=>False)|_=>False)
   |_=>False)
 |_=>False
def aS.d_{α:List (Option Addr)}{H:Hp}{ds:List D}{vs:List V}{i:Int}{d:D}(h:aS α H ds vs)(e:L2.d_ ds i=some d):∃v,L2.d_ vs i=some v/\Rep α H d v:=by
 unfold L2.d_ at e⊢;rw[<-h.length];cases q:jV ds.length i with
 |none=>rw[q]at e;cases e
 |some j=>rw[q]at e;exact h.get e
def Tw:KY X (LR tK):=λ value slice pins s σ H x y v u Q I rx ry ⟨α,d,e,st,K,G,F',P,r1,r2,S,q,k⟩ hs=>by
 cases e<;>try exact q.elim
 unfold Rep at r2;cases d<;>try exact q.elim
 . rename_i i n;unfold tK at q;simp only at q;split at q
   . split at q
     . rename_i xs e1 _ d' e2;obtain⟨a,ea,vs,hv,rv⟩:=S.gO e1;have r1':=d5 ea r1;subst r1';obtain⟨z,ez,rz⟩:=rv.d_ e2;exact Eh value slice pins s σ H _ _ v u Q I rx ry ⟨a,vs,_,z,rfl,r2,.of (P.get hv),ez,k.here P q S rz⟩ hs
     . exact q.elim
   . exact q.elim
 . unfold tK at q;simp only at q;split at q
   . rename_i xs d' e2;unfold Rep at r1;obtain⟨a,vs,rfl,na,ha,ra⟩:=r1;obtain⟨z,ez,rz⟩:=ra.d_ e2;exact Eh value slice pins s σ H _ _ v u Q I rx ry ⟨a,vs,_,z,rfl,r2,.inl (iy P ha),ez,k.here P q S rz⟩ hs
   . exact q.elim
 . unfold tK at q;simp only at q;split at q
   . rename_i xs d' e2;unfold Rep at r1;obtain⟨a,vs,rfl,na,ha,ra⟩:=r1;obtain⟨z,ez,rz⟩:=ra.d_ e2;exact Pl value slice pins s σ H _ _ v u Q I rx ry ⟨a,vs,_,z,rfl,r2,.of (P.get ha),ez,k.here P q S rz⟩ hs
   . exact q.elim
def Te{a b:Expr}{ta tb:DE}{pos:Pos}(ha:PE X a (LE ta))(hb:PE X b (LE tb))(hs:vA b:=by intro _ _;rfl):PE X (.Subscript a b pos) (LE (aw tK ta tb)):=PE.imp (Rr Tw ha hb hs) λ _ _ _ h=>LE.op h
def items?(st:ag):D->Option (List D)
 | .lst xs=>some xs
 | .tup xs=>some xs
 | .ref n=>(match st[n]? with|some (.lst xs)=>some xs|_=>none)
 |_=>none
@[simp] theorem Sk(st:ag)(xs:List D):items? st (.lst xs)=some xs:=rfl
@[simp] theorem Sm(st:ag)(xs:List D):items? st (.tup xs)=some xs:=rfl
@[simp] theorem items_int(st:ag)(i:Int):items? st (.int i)=none:=rfl
@[simp] theorem S_(st:ag)(i:Bool):items? st (.bl i)=none:=rfl
@[simp] theorem items_str(st:ag)(i:Str):items? st (.str i)=none:=rfl
@[simp] theorem Ss(st:ag):items? st .aD=none:=rfl
def aH{st:ag}{n:Nat}{xs:List D}(h:st[n]?=some (.lst xs)):items? st (.ref n)=some xs:=by unfold items?;simp only[h]
def qG{α:List (Option Addr)}{H:Hp}{st:ag}{d:D}{v:V}{xs:List D}(S:aX α st H)(r:Rep α H d v)(e:items? st d=some xs):
 ∃p vs,v= .ref p/\aS α H xs vs/\(Rd H p (.lst vs)\/H p=some (.tup vs)):=by
 cases d<;>try(cases e;done)
 . unfold items? at e;simp only at e;split at e
   . rename_i ys q;cases e;obtain⟨a,ea,vs,h1,h2⟩:=S.gO q;have r':=d5 ea r;subst r';exact⟨a,vs,rfl,h2,.inl (.of h1)⟩
   . cases e
 . cases e;unfold Rep at r;obtain⟨a,vs,rfl,_,h1,h2⟩:=r;exact⟨a,vs,rfl,h2,.inl h1⟩
 . cases e;unfold Rep at r;obtain⟨a,vs,rfl,_,h1,h2⟩:=r;exact⟨a,vs,rfl,h2,.inr h1⟩
def FK{K:PySem.W.Frag}{G F H:Hp}(P:cG G F H){p:Addr}{vs:List V}(h:Rd G p (.lst vs)\/G p=some (.tup vs)):oE K H p vs\/j7 K H p vs:=h.elim (λ z=> .inl (.inl (iy P z))) λ z=> .inr (.of (P.get z))
def jf{α:List (Option Addr)}{H:Hp}{ds:List D}{xs:List V}{d:D}(r:aS α H ds xs)(e:ds=[d]):∃v,xs=[v]/\Rep α H d v:=by
 subst e;unfold aS at r;obtain⟨v,q,rfl,h1,h2⟩:=r;unfold aS at h2;subst h2;exact⟨v,rfl,h1⟩
def tP{α:List (Option Addr)}{H:Hp}{ds:List D}{xs:List V}{d e:D}(r:aS α H ds xs)(q:ds=[d,e]):∃v u,xs=[v,u]/\Rep α H d v/\Rep α H e u:=by
 subst q;unfold aS at r;obtain⟨v,q,rfl,h1,h2⟩:=r;obtain⟨u,rfl,h3⟩:=jf h2 rfl;exact⟨v,u,rfl,h1,h3⟩
def Bc:gQ:=λ ds st K=>match ds with
 | [.str x]=>x.length<=sizeLine/\K (.int x.length) st
 | [d]=>(match items? st d with|some xs=>K (.int xs.length) st|none=>False)
 |_=>False
def RO:cM X (.builtin "len") (jr Bc):=λ pins s σ H xs us Q I rs ⟨α,ds,st,K,G,F',P,r,S,q,k⟩=>by
 unfold Bc at q;split at q
 . rename_i x;obtain⟨v,rfl,r1⟩:=jf r rfl;unfold Rep at r1;subst r1;exact Dk pins s σ H _ us Q I rs ⟨x,rfl,q.1,k.here P q.2 S (by unfold Rep;rfl)⟩
 . rename_i d _;split at q
   . rename_i ys e;obtain⟨v,rfl,r1⟩:=jf r rfl;obtain⟨p,vs,rfl,r2,h⟩:=qG S r1 e;refine Ca pins s σ H _ us Q I rs ⟨p,vs,rfl,FK P h,k.here P q S (by unfold Rep;rw[r2.length])⟩
   . exact q.elim
 . exact q.elim
def Sf(g:Int->Int):gQ:=λ ds st K=>match ds with| [.int i]=>K (.int (g i)) st|_=>False
abbrev F7:gQ:=Sf λ i=>if i<0 then-i else i
def Rb:cM X (.builtin "abs") (jr F7):=cM.imp Jn λ xs H Q ⟨α,ds,st,K,G,F',P,r,S,q,k⟩=>by
 unfold F7 Sf at q;split at q
 . obtain⟨v,rfl,r1⟩:=jf r rfl;unfold Rep at r1;subst r1;exact⟨_,rfl,k.here P q S (by unfold Rep;rfl)⟩
 . exact q.elim
def Gd:gQ:=λ ds st K=>match ds with| [.int i]=>K (.int i) st| [.bl b]=>K (.int (if b then 1 else 0)) st|_=>False
def QC:cM X (.type "int") (jr Gd):=cM.imp GL λ xs H Q ⟨α,ds,st,K,G,F',P,r,S,q,k⟩=>by
 unfold Gd at q;split at q
 . obtain⟨v,rfl,r1⟩:=jf r rfl;unfold Rep at r1;subst r1;exact .inl ⟨_,rfl,k.here P q S (by unfold Rep;rfl)⟩
 . obtain⟨v,rfl,r1⟩:=jf r rfl;unfold Rep at r1;subst r1;exact .inr ⟨_,rfl,k.here P q S (by unfold Rep;rfl)⟩
 . exact q.elim
def vK:gQ:=λ ds st K=>match ds with| [d]=>(match items? st d with|some xs=>K (.tup xs) st|none=>False)|_=>False
def MF:cM X (.type "tuple") (jr vK):=cM.imp AX λ xs H Q ⟨α,ds,st,K,G,F',P,r,S,q,k⟩=>by
 unfold vK at q;split at q
 . rename_i d;split at q
   . rename_i ys e;obtain⟨v,rfl,r1⟩:=jf r rfl;cases d with
     |tup zs=>
      cases e;have r0:=r1;unfold Rep at r1;obtain⟨a,vs,rfl,na,h1,h2⟩:=r1;exact⟨a,vs,rfl,.inr ⟨.of (P.get h1),k.here P q S r0⟩⟩
     |_=>
      obtain⟨p,vs,rfl,r2,h⟩:=qG S r1 e;refine⟨p,vs,rfl,?_⟩;rcases h with h|h
      . exact .inl ⟨.inl (iy P h),λ l hl=>k.tup P q S r2 hl⟩
      . first
         |(cases e;done)
         |(exfalso
           unfold items? at e;simp only at e
           first
            |(split at e
              . rename_i z;obtain⟨a,ea,vs',h1,h2⟩:=S.gO z;have e':=d5 ea r1;cases e';rw[h]at h1;cases h1
              . cases e)
            |(unfold Rep at r1
              obtain⟨a,vs',e',_,h1,_⟩:=r1;cases e';rcases h1 with h1|⟨o,h1⟩<;>(rw[h]at h1;cases h1)))
   . exact q.elim
 . exact q.elim
def yH:gQ:=λ ds st K=>match ds with| [d]=>(match items? st d with|some xs=>K (.lst xs) st|none=>False)|_=>False
def Pp:cM X (.type "list") (jr yH):=cM.imp vq λ xs H Q ⟨α,ds,st,K,G,F',P,r,S,q,k⟩=>by
 unfold yH at q;split at q
 . split at q
   . rename_i ys e;obtain⟨v,rfl,r1⟩:=jf r rfl;obtain⟨p,vs,rfl,r2,h⟩:=qG S r1 e;exact⟨p,vs,rfl,FK P h,λ l hl=>k.lst P q S r2 hl⟩
   . exact q.elim
 . exact q.elim
def vB:gQ:=λ ds st K=>match ds with| [d]=>(match items? st d with|some xs=>K (.ref st.length) (st++[.lst xs])|none=>False)|_=>False
def MR:cM X (.type "list") (jr vB):=cM.imp vq λ xs H Q ⟨α,ds,st,K,G,F',P,r,S,q,k⟩=>by
 unfold vB at q;split at q
 . split at q
   . rename_i ys e;obtain⟨v,rfl,r1⟩:=jf r rfl;obtain⟨p,vs,rfl,r2,h⟩:=qG S r1 e;exact⟨p,vs,rfl,FK P h,λ l hl=>k.new P q S r2 hl⟩
   . exact q.elim
 . exact q.elim
def gS:List D->Option (List Bool)
 | []=>some []
 | .bl b::r=>(gS r).map (b:: ·)
 |_::_=>none
def qA:List D->Option (List Int)
 | []=>some []
 | .int b::r=>(qA r).map (b:: ·)
 |_::_=>none
def yj{α:List (Option Addr)}{H:Hp}:∀ {ds:List D} {vs:List V} {bs:List Bool},aS α H ds vs->gS ds=some bs->vs=bs.map V.bl
 | [],vs,bs,r,e=>by
   unfold aS at r;cases e;exact r
 |d::ds,vs,bs,r,e=>by
  unfold aS at r;obtain⟨v,q,rfl,h1,h2⟩:=r;cases d<;>try(cases e;done)
  unfold gS at e;cases z:gS ds with
  |none=>rw[z]at e;cases e
  |some cs=>
   rw[z]at e;cases e;unfold Rep at h1;rw[h1,yj h2 z];rfl
def Ab{α:List (Option Addr)}{H:Hp}:∀ {ds:List D} {vs:List V} {bs:List Int},aS α H ds vs->qA ds=some bs->vs=bs.map V.int
 | [],vs,bs,r,e=>by
   unfold aS at r;cases e;exact r
 |d::ds,vs,bs,r,e=>by
  unfold aS at r;obtain⟨v,q,rfl,h1,h2⟩:=r;cases d<;>try(cases e;done)
  unfold qA at e;cases z:qA ds with
  |none=>rw[z]at e;cases e
  |some cs=>
   rw[z]at e;cases e;unfold Rep at h1;rw[h1,Ab h2 z];rfl
def ya:∀ {bs:List Bool} {us:List Value},Vals (bs.map V.bl) us->us=bs.map Value.bool
 | [],_,.nil=>rfl
 |b::bs,_,.cons h t=>by
  have h:_=Value.bool b:=h;rw[h,ya t];rfl
def Bj:gQ:=λ ds st K=>match ds with| [.lst xs]=>(match gS xs with|some bs=>K (.bl (bs.all id)) st|none=>False)|_=>False
def range_all{α:Type}(l:List α)(f:α->Bool)(tr:Nat->Bool)(h:∀i x,l[i]?=some x->tr i=f x):(List.range l.length).all tr=l.all f:=by
 induction l generalizing tr with
 |nil=>rfl
 |cons a l ih=>
  rw[UT,VZ,V2,V2,Y5,h 0 a rfl];congr 1;exact ih (tr∘Nat.succ) λ i x e=>h (i+1) x (by simpa using e)
def QM(hc:X.calm=true):cM X (.builtin "all") (jr Bj):=λ pins s σ H xs us Q I rs ⟨α,ds,st,K,G,F',P,r,S,q,k⟩=>by
 unfold Bj at q;split at q
 . rename_i ys;split at q
   . rename_i bs e;obtain⟨v,rfl,r1⟩:=jf r rfl;unfold Rep at r1;obtain⟨a,vs,rfl,na,h1,h2⟩:=r1;obtain⟨u,rfl,ru⟩:=vals1 rs;cases ru;have hv:=yj h2 e;subst hv;obtain⟨z,av,n,rv,hl,eo⟩:=Inv.zy I (iy P h1);have hits:=ya rv;subst hits;have isL:s.heap.IsList a (bs.map Value.bool).toArray:=⟨_,eo,rfl,n,rfl⟩
     refine call_all_walk (Xi isL ?_);have hne:a≠s.heap.objs.size:=UR (UA eo);refine⟨s.heap.objs.size,_,_,_,_,_,λ i=>(bs[i]?).getD true,rfl,Walks.list (A:=X.A.in1) (I.ok.hd hc) _ a hne (bs.map Value.bool).toArray,⟨⟨_,UN _ rfl,rfl,rfl⟩,⟨_,Uo _ eo,rfl,n,rfl⟩⟩,?_,?_⟩
     . intro i w s' Q' E' hP hQ;rw[List.getElem?_toArray,UB]at hP;cases zb:bs[i]? with
       |none=>rw[zb]at hP;cases hP
       |some b=>
        rw[zb]at hP;cases hP;simp only[zb]at hQ;exact V_ hQ
     . intro h' tk hk
       have kp:∀b o,s.heap.get? b=some o->h'.get? b=some o:=λ b o q=>hk b o (by
        intro hb;have:b=s.heap.objs.size:=by simpa using hb
        exact absurd (UA q) (by rw[this];exact VB _)) (Uo _ q)
       have ea:(List.range (bs.map Value.bool).toArray.size).all (λ i=>(bs[i]?).getD true)=bs.all id:=by
        rw[Ut,Uh];exact range_all bs id _ λ i x e=>by rw[e];rfl
       rw[ea];exact⟨.bl (bs.all id),H,I.kept (t':=tk) kp,rfl,k.here P q S (by unfold Rep;rfl)⟩
   . exact q.elim
 . exact q.elim
def fI(st:ag):D->Option String
 | .aD=>some "NoneType"
 | .bl _=>some "bool"
 | .int _=>some "int"
 | .str _=>some "str"
 | .lst _=>some "list"
 | .tup _=>some "tuple"
 | .ref n=>(match st[n]? with|some (.lst _)=>some "list"|_=>none)
 | .ty _=>none
@[simp] theorem T4(st:ag)(xs:List D):fI st (.lst xs)=some "list":=rfl
@[simp] theorem TM(st:ag)(xs:List D):fI st (.tup xs)=some "tuple":=rfl
@[simp] theorem ty_int(st:ag)(i:Int):fI st (.int i)=some "int":=rfl
@[simp] theorem Ue(st:ag)(i:Bool):fI st (.bl i)=some "bool":=rfl
@[simp] theorem ty_str(st:ag)(i:Str):fI st (.str i)=some "str":=rfl
@[simp] theorem TQ(st:ag):fI st .aD=some "NoneType":=rfl
def OX{st:ag}{n:Nat}{xs:List D}(h:st[n]?=some (.lst xs)):fI st (.ref n)=some "list":=by unfold fI;simp only[h]
def vn(t c:String):Bool:=t==c||(t=="bool"&&c=="int")
def CT{α:List (Option Addr)}{H:Hp}{st:ag}{K:PySem.W.Frag}{d:D}{v:V}{t:String}(S:aX α st H)(r:Rep α H d v)(e:fI st d=some t):kF K H v (.type t):=by
 cases d<;>unfold fI at e<;>try(cases e;done)
 . unfold Rep at r;cases e;subst r;exact .aD
 . unfold Rep at r;cases e;subst r;exact .bl _
 . unfold Rep at r;cases e;subst r;exact .int _
 . unfold Rep at r;cases e;subst r;exact .str _
 . simp only at e;split at e
   . rename_i z;cases e;obtain⟨a,ea,vs',h1,h2⟩:=S.gO z;have r':=d5 ea r;subst r';exact .lst h1
   . cases e
 . cases e;unfold Rep at r;obtain⟨a,vs,rfl,na,h1,h2⟩:=r;rcases h1 with h1|⟨o,h1⟩
   . exact .lst h1
   . exact .fe h1
 . cases e;unfold Rep at r;obtain⟨a,vs,rfl,na,h1,h2⟩:=r;exact .tup h1
def Ek{G F H:Hp}{K:PySem.W.Frag}(P:cG G F H){x:V}{t:Value}(h:kF K G x t):kF K H x t:=by
 cases h with
 |aD=>exact .aD
 |bl x=>exact .bl x
 |int x=>exact .int x
 |str x=>exact .str x
 |wy x=>exact .wy x
 |lst e=>exact .lst (P.get e)
 |fe e=>exact .fe (P.get e)
 |tup e=>exact .tup (P.get e)
 |dK e=>exact .dK (P.get e)
 |dT e=>exact .dT (P.get e)
 |ins e a b c d f=>exact .ins (P.get e) a b c d f
def pL:List String:=["NoneType","bool","int","str","list","tuple"]
def m5:List String:=["bool","int","str","list","tuple"]
def Ej(K:PySem.W.Frag){t c:String}(ht:t∈pL)(hc:c∈m5):PySem.W.kitOne K (.type t) (.type c)=some (vn t c):=by
 simp only[pL,m5,UK,UU,WO]at ht hc;rcases ht with rfl|rfl|rfl|rfl|rfl|rfl<;>rcases hc with rfl|rfl|rfl|rfl|rfl<;>with_unfolding_all rfl
def sW{st:ag}{d:D}{t:String}(e:fI st d=some t):t∈pL:=by
 cases d<;>unfold fI at e<;>first
  |(cases e;done)
  |(cases e;decide)
  |(simp only at e;split at e<;>cases e;decide)
def kitx_of{pins:List (Addr×Obj)}{σ:L2.St}{H:Hp}{s:Shared}{x:V}{u:Value}{t:String}(I:Inv X pins σ H s)(rx:RelV x u)(ty:kF X.K H x (.type t)):
 ∃Hh:Heap->Prop,PySem.W.KitX X.K u (.type t) Hh/\Hh s.heap/\u≠ .builtin "__main__.__loader__#opaque":=by
 cases ty with
 |aD=>cases (show u=Value.none from rx);exact⟨_,PySem.W.kitx_none,True.intro,λ z=>nomatch z⟩
 |bl y=>cases (show u=Value.bool y from rx);exact⟨_,PySem.W.kitx_bool,True.intro,λ z=>nomatch z⟩
 |int i=>obtain⟨t,q⟩:=(show∃t,u=Value.int i t from rx);cases q;exact⟨_,PySem.W.kitx_int,True.intro,λ z=>nomatch z⟩
 |str y=>obtain⟨t,q⟩:=(show∃t,u=Value.str y t from rx);cases q;exact⟨_,PySem.W.kitx_str,True.intro,λ z=>nomatch z⟩
 |wy y=>obtain⟨t,q⟩:=(show∃t,u=Value.float y t from rx);cases q;exact⟨_,PySem.W.kitx_float,True.intro,λ z=>nomatch z⟩
 | @lst a xs ea=>
   cases (show u=Value.ref a from rx);obtain⟨_,_,n,_,h1⟩:=(show et X.prog X.w H s.heap a (.lst xs)from I.aO a _ ea)
   exact⟨_,Xg,⟨_,h1,rfl⟩,λ z=>nomatch z⟩
 | @fe a ob xs ea=>
   cases (show u=Value.ref a from rx);obtain⟨_,_,_,n,_,h1⟩:=(show et X.prog X.w H s.heap a (.fe ob (.lst xs))from I.aO a _ ea)
   exact⟨_,Xg,⟨_,h1,rfl⟩,λ z=>nomatch z⟩
 | @tup a xs ea=>
   cases (show u=Value.ref a from rx);obtain⟨_,_,_,p⟩:=(show et X.prog X.w H s.heap a (.tup xs)from I.aO a _ ea)
   obtain⟨o,h1,h2,_⟩:=p;exact⟨_,PySem.W.kitx_tuple,⟨o,h1,h2⟩,λ z=>nomatch z⟩
 | @dK a kvs ea=>
   cases (show u=Value.ref a from rx);obtain⟨_,_,vs,_,p⟩:=(show et X.prog X.w H s.heap a (.dK kvs)from I.aO a _ ea)
   obtain⟨o,es,ep,h1,h2,_⟩:=p;exact⟨_,Xh,⟨o,h1,h2.1⟩,λ z=>nomatch z⟩
 | @dT a kvs ea=>
   cases (show u=Value.ref a from rx);obtain⟨_,_,xs,_,o,es,ep,h1,h2,_⟩:=(show et X.prog X.w H s.heap a (.dT kvs)from I.aO a _ ea)
   exact⟨_,Xh,⟨o,h1,h2.1⟩,λ z=>nomatch z⟩
def pE:List D->Option (List String)
 | []=>some []
 | .ty b::r=>(pE r).map (b:: ·)
 |_::_=>none
def Dn{α:List (Option Addr)}{H:Hp}:∀ {ds:List D} {vs:List V} {bs:List String},aS α H ds vs->pE ds=some bs->vs=bs.map V.ty
 | [],vs,bs,r,e=>by
   unfold aS at r;cases e;exact r
 |d::ds,vs,bs,r,e=>by
  unfold aS at r;obtain⟨v,q,rfl,h1,h2⟩:=r;cases d<;>try(cases e;done)
  unfold pE at e;cases z:pE ds with
  |none=>rw[z]at e;cases e
  |some cs=>
   rw[z]at e;cases e;unfold Rep at h1;rw[h1,Dn h2 z];rfl
def C0:∀ {bs:List String} {us:List Value},Vals (bs.map V.ty) us->us=bs.map Value.type
 | [],_,.nil=>rfl
 |b::bs,_,.cons h t=>by
  have h:_=Value.type b:=h;rw[h,C0 t];rfl
def Ef(K:PySem.W.Frag){t:String}(ht:t∈pL):∀cs:List String,(∀c∈cs,c∈m5)->PySem.W.kitAny K (.type t) (cs.map Value.type)=some (cs.any (vn t))
 | [],_=>rfl
 |c::cs,h=>by
  show(match PySem.W.kitOne K (.type t) (.type c)with|some true=>some true|some false=>PySem.W.kitAny K (.type t) (cs.map Value.type)|none=>none)=_;rw[Ej K ht (h c UP),List.any_cons];cases vn t c with
  |true=>rfl
  |false=>exact Ef K ht cs λ c hc=>h c (UG _ hc)
def ym:gQ:=λ ds st K=>match ds with
 | [d,.ty c]=>(match fI st d with|some t=>c∈m5/\K (.bl (vn t c)) st|none=>False)
 | [d,.tup cs]=>(match fI st d,pE cs with|some t,some cl=>(∀c∈cl,c∈m5)/\K (.bl (cl.any (vn t))) st|_,_=>False)
 |_=>False
def Qr:cM X (.builtin "isinstance") (jr ym):=λ pins s σ H xs us Q I rs ⟨α,ds,st,K,G,F',P,r,S,q,k⟩=>by
 unfold ym at q;split at q
 . rename_i d c;split at q
   . rename_i t e;obtain⟨v,v2,rfl,r1,r2⟩:=tP r rfl;obtain⟨u,u2,rfl,ru,ru2⟩:=vals2 rs;unfold Rep at r2;subst r2;cases (show u2=Value.type c from ru2);exact GW I ru (Ek P (CT S r1 e)) (Ej _ (sW e) q.1) λ tk=>⟨.bl (vn t c),H,I.tok tk,rfl,k.here P q.2 S (by unfold Rep;rfl)⟩
   . exact q.elim
 . rename_i d cs;split at q
   . rename_i t cl e ec;obtain⟨v,v2,rfl,r1,r2⟩:=tP r rfl;obtain⟨u,u2,rfl,ru,ru2⟩:=vals2 rs;unfold Rep at r2;obtain⟨a,vs,rfl,na,h1,h2⟩:=r2;cases (show u2=Value.ref a from ru2);have hv:=Dn h2 ec;subst hv;obtain⟨Hh,Z,hh,hne⟩:=kitx_of I ru (Ek P (CT S r1 e));obtain⟨av,r',pl,hz⟩:=I.tuple (j7.of (P.get h1));have hi:=C0 r';subst hi;obtain⟨⟨cls,dd,data,sl⟩,ho,hc,n,hd⟩:=pl;simp only at hc hd;subst hc hd;exact PySem.W.kia_tup Z I.i4 hh ho (Ef _ (sW e) cl q.1) hne λ tk=>⟨.bl _,H,I.tok tk,rfl,k.here P q.2 S (by unfold Rep;rfl)⟩
   . exact q.elim
 . exact q.elim
end
end L3
namespace L3
open PySem PySem.Spec L2 PySem.SeqAt
open PyProof.Rows hiding St
mutual
def cZ:D->D->Bool
 | .aD,.aD=>true
 | .bl a,.bl b=>a==b
 | .bl a,.int b=>(if a then 1 else 0)==b
 | .int a,.bl b=>a==(if b then 1 else 0)
 | .int a,.int b=>a==b
 | .str a,.str b=>a==b
 | .lst xs,.lst ys=>fX xs ys
 | .tup xs,.tup ys=>fX xs ys
 |_,_=>false
def fX:List D->List D->Bool
 | [],[]=>true
 |x::xs,y::ys=>cZ x y&&fX xs ys
 |_,_=>false
end
def pl:Nat->D->Bool
 |_,.aD=>true
 |_,.bl _=>true
 |_,.int _=>true
 |_,.str _=>true
 |n+1,.lst xs=>xs.all (pl n)
 |n+1,.tup xs=>xs.all (pl n)
 |_,_=>false
mutual
def sU:∀(n:Nat) (d:D),pl n d=true->cZ d d=true
 |_,.aD,_=>rfl
 |_,.bl _,_=>by simp[cZ]
 |_,.int _,_=>by simp[cZ]
 |_,.str _,_=>by simp[cZ]
 |n+1,.lst xs,h=>by unfold cZ;exact vz n xs (by unfold pl at h;exact h)
 |n+1,.tup xs,h=>by unfold cZ;exact vz n xs (by unfold pl at h;exact h)
 |0,.lst xs,h=>by cases h
 |0,.tup xs,h=>by cases h
 |_,.ref _,h=>by unfold pl at h;cases h
 |_,.ty _,h=>by unfold pl at h;cases h
def vz:∀(n:Nat) (xs:List D),xs.all (pl n)=true->fX xs xs=true
 |_,[],_=>by unfold fX;rfl
 |n,x::xs,h=>by
  rw[V2,U0]at h;unfold fX;rw[sU n x h.1,vz n xs h.2];rfl
end
mutual
def Rep.inj{α:List (Option Addr)}{H:Hp}:∀ {d e:D} {v:V} (n:Nat),pl n d=true->pl n e=true->Rep α H d v->Rep α H e v->d=e
 | .aD,e,v,n,_,he,h1,h2=>by
   unfold Rep at h1;subst h1;cases e<;>first|(unfold pl at he;cases he;done)|(unfold Rep at h2;cases h2;rfl)|(unfold Rep at h2;cases h2;done)|(unfold Rep at h2;obtain⟨_,_,h2,_⟩:=h2;cases h2)|rfl|(cases h2;done)|(obtain⟨_,_,h2,_⟩:=h2;cases h2)|(obtain⟨_,_,h2⟩:=h2;cases h2)
 | .bl b,e,v,n,_,he,h1,h2=>by
   unfold Rep at h1;subst h1;cases e<;>first|(unfold pl at he;cases he;done)|(unfold Rep at h2;cases h2;rfl)|(unfold Rep at h2;cases h2;done)|(unfold Rep at h2;obtain⟨_,_,h2,_⟩:=h2;cases h2)|(cases h2;rfl)|(cases h2;done)|(obtain⟨_,_,h2,_⟩:=h2;cases h2)|(obtain⟨_,_,h2⟩:=h2;cases h2)
 | .int b,e,v,n,_,he,h1,h2=>by
   unfold Rep at h1;subst h1;cases e<;>first|(unfold pl at he;cases he;done)|(unfold Rep at h2;cases h2;rfl)|(unfold Rep at h2;cases h2;done)|(unfold Rep at h2;obtain⟨_,_,h2,_⟩:=h2;cases h2)|(cases h2;rfl)|(cases h2;done)|(obtain⟨_,_,h2,_⟩:=h2;cases h2)|(obtain⟨_,_,h2⟩:=h2;cases h2)
 | .str b,e,v,n,_,he,h1,h2=>by
   unfold Rep at h1;subst h1;cases e<;>first|(unfold pl at he;cases he;done)|(unfold Rep at h2;cases h2;rfl)|(unfold Rep at h2;cases h2;done)|(unfold Rep at h2;obtain⟨_,_,h2,_⟩:=h2;cases h2)|(cases h2;rfl)|(cases h2;done)|(obtain⟨_,_,h2,_⟩:=h2;cases h2)|(obtain⟨_,_,h2⟩:=h2;cases h2)
 | .ty b,e,v,n,hd,he,h1,h2=>by unfold pl at hd;cases hd
 | .ref b,e,v,n,hd,he,h1,h2=>by unfold pl at hd;cases hd
 | .lst xs,e,v,0,hd,he,h1,h2=>by cases hd
 | .tup xs,e,v,0,hd,he,h1,h2=>by cases hd
 | .lst xs,e,v,n+1,hd,he,h1,h2=>by
   unfold Rep at h1;obtain⟨a,vs,rfl,na,ha,ra⟩:=h1;cases e<;>unfold Rep at h2<;>try(cases h2;done)
   . unfold pl at he;cases he
   . obtain⟨a',vs',e',na',ha',ra'⟩:=h2;cases e'
     have:vs=vs':=by
      rcases ha with ha|⟨o,ha⟩<;>rcases ha' with ha'|⟨o',ha'⟩<;>(rw[ha]at ha';first|(cases ha';rfl)|(cases ha';done))
     subst this;rw[aS.inj n (by unfold pl at hd;exact hd) (by unfold pl at he;exact he) ra ra']
   . obtain⟨a',vs',e',na',ha',ra'⟩:=h2;cases e';rcases ha with ha|⟨o,ha⟩<;>(rw[ha]at ha';cases ha')
 | .tup xs,e,v,n+1,hd,he,h1,h2=>by
   unfold Rep at h1;obtain⟨a,vs,rfl,na,ha,ra⟩:=h1;cases e<;>unfold Rep at h2<;>try(cases h2;done)
   . unfold pl at he;cases he
   . obtain⟨a',vs',e',na',ha',ra'⟩:=h2;cases e';rcases ha' with ha'|⟨o,ha'⟩<;>(rw[ha]at ha';cases ha')
   . obtain⟨a',vs',e',na',ha',ra'⟩:=h2;cases e';rw[ha]at ha';cases ha';rw[aS.inj n (by unfold pl at hd;exact hd) (by unfold pl at he;exact he) ra ra']
def aS.inj{α:List (Option Addr)}{H:Hp}:∀ {ds es:List D} {vs:List V} (n:Nat),ds.all (pl n)=true->es.all (pl n)=true->aS α H ds vs->aS α H es vs->ds=es
 | [],es,vs,n,_,_,h1,h2=>by
   unfold aS at h1;subst h1;cases es with
   |nil=>rfl
   |cons e es=>unfold aS at h2;obtain⟨_,_,h,_⟩:=h2;cases h
 |d::ds,es,vs,n,hd,he,h1,h2=>by
  unfold aS at h1;obtain⟨v,r,rfl,r1,r2⟩:=h1;cases es with
  |nil=>unfold aS at h2;cases h2
  |cons e es=>
   unfold aS at h2;obtain⟨v',r',h,q1,q2⟩:=h2;cases h;rw[V2,U0]at hd he;rw[Rep.inj n hd.1 he.1 r1 q1,aS.inj n hd.2 he.2 r2 q2]
end
def qm:∀ {xs ys:List D},xs.length≠ys.length->fX xs ys=false
 | [],[],h=>absurd rfl h
 | [],_::_,_=>by unfold fX;rfl
 |_::_,[],_=>by unfold fX;rfl
 |x::xs,y::ys,h=>by
  unfold fX;rw[qm (by simpa using h),YU]
def qw:∀ {xs ys:List D},xs.length=ys.length->fX xs ys=(List.range xs.length).all λ j=>cZ (xs.getD j .aD) (ys.getD j .aD)
 | [],[],_=>by unfold fX;rfl
 | [],_::_,h=>by cases h
 |_::_,[],h=>by cases h
 |x::xs,y::ys,h=>by
  unfold fX;rw[UT,VZ,V2,Y5,qw (by simpa using h)];rfl
section
variable {X:Cx}{pins:List (Addr×Obj)}{σ:L2.St}{H:Hp}{s:Shared}{α:List (Option Addr)}
def lV{xs:List D}{vs:List V}{av:List Value}(r:aS α H xs vs)(v:Vals vs av)(j:Nat)(hj:j<av.length):∃x,xs[j]?=some (xs.getD j .aD)/\Rep α H (xs.getD j .aD) x/\RelV x av[j]:=by
 have h1:=r.length;have h2:=v.length;have hx:j<xs.length:=by omega
 have e:xs[j]?=some (xs.getD j .aD):=by rw[Uv hx,Uu,Uv hx];rfl
 obtain⟨x,q,rr⟩:=r.get e;obtain⟨u,q2,rv⟩:=v.get q;rw[Uv hj]at q2;cases q2;exact⟨x,e,rr,rv⟩
def kg{xs:List D}{n:Nat}(h:xs.all (pl n)=true)(j:Nat):pl n (xs.getD j .aD)=true:=by
 rw[Uu];cases e:xs[j]? with
 |none=>cases n<;>rfl
 |some d=>exact UW.mp h d (UO e)
def Aw:D->Bool
 | .aD=>true
 | .bl _=>true
 | .int _=>true
 | .str _=>true
 |_=>false
def EA{A:Around}{d e:D}{x y:V}{u v:Value}(hd:Aw d=true)(he:Aw e=true)(rd:Rep α H d x)(re:Rep α H e y)(rx:RelV x u)(ry:RelV y v):RcAt A s u v (cZ d e)/\EqAt A s u v (cZ d e):=by
 cases d<;>cases e<;>try(first|(cases hd;done)|(cases he;done))
 all_goals(unfold Rep at rd re;subst rd re)
 all_goals(first|(obtain⟨t,rfl⟩:=rx;obtain⟨t',rfl⟩:=ry)|(obtain⟨t,rfl⟩:=rx;cases ry)|(cases rx;obtain⟨t,rfl⟩:=ry)|(cases rx;cases ry))
 all_goals unfold cZ
 . exact⟨RcAt.none_none,EqAt.same _⟩
 . exact⟨RcAt.none_bool _,EqAt.none_bool _⟩
 . exact⟨RcAt.none_int _ _,EqAt.none_int _ _⟩
 . exact⟨RcAt.none_str _ _,EqAt.none_str _ _⟩
 . exact⟨RcAt.bool_none _,EqAt.bool_none _⟩
 . exact⟨RcAt.bool_bool _ _,EqAt.bool_bool _ _⟩
 . exact⟨RcAt.bool_int _ _ _,EqAt.bool_int _ _ _⟩
 . exact⟨RcAt.bool_str _ _ _,EqAt.bool_str _ _ _⟩
 . exact⟨RcAt.int_none _ _,EqAt.int_none _ _⟩
 . exact⟨RcAt.int_bool _ _ _,EqAt.int_bool _ _ _⟩
 . exact⟨RcAt.int_int _ _ _ _,EqAt.int_int _ _ _ _⟩
 . exact⟨RcAt.int_str _ _ _ _,EqAt.int_str _ _ _ _⟩
 . exact⟨RcAt.str_none _ _,EqAt.str_none _ _⟩
 . exact⟨RcAt.str_bool _ _ _,EqAt.str_bool _ _ _⟩
 . exact⟨RcAt.str_int _ _ _ _,EqAt.str_int _ _ _ _⟩
 . exact⟨RcAt.str_str _ _ _ _,EqAt.str_str _ _ _ _⟩
def lst_is(I:Inv X pins σ H s){xs:List D}{x:V}{u:Value}(r:Rep α H (.lst xs) x)(rx:RelV x u):∃a vs av,u= .ref a/\aS α H xs vs/\Vals vs av/\s.heap.IsList a av.toArray:=by
 unfold Rep at r;obtain⟨a,vs,rfl,na,ha,ra⟩:=r;cases rx;obtain⟨z,av,n,rv,hl,eo⟩:=Inv.zy I ha;exact⟨a,vs,av,rfl,ra,rv,⟨_,eo,rfl,n,rfl⟩⟩
def tup_is(I:Inv X pins σ H s){xs:List D}{x:V}{u:Value}(r:Rep α H (.tup xs) x)(rx:RelV x u):∃a vs av,u= .ref a/\aS α H xs vs/\Vals vs av/\s.heap.IsTuple a av.toArray:=by
 unfold Rep at r;obtain⟨a,vs,rfl,na,ha,ra⟩:=r;cases rx;obtain⟨av,r',p,hz⟩:=I.tuple (j7.of ha);exact⟨a,vs,av,rfl,ra,r',p⟩
def Av(I:Inv X pins σ H s){A:Around}{xs:List D}{e:D}{x y:V}{u v:Value}(he:Aw e=true)(rd:Rep α H (.lst xs) x)(re:Rep α H e y)(rx:RelV x u)(ry:RelV y v)(hu:A.units<cLine):
 (RcAt A s u v (cZ (.lst xs) e)/\EqAt A s u v (cZ (.lst xs) e))/\RcAt A s v u (cZ e (.lst xs))/\EqAt A s v u (cZ e (.lst xs)):=by
 obtain⟨a,vs,av,rfl,_,_,hl⟩:=lst_is I rd rx;cases e<;>try(cases he;done)
 all_goals(unfold Rep at re;subst re)
 all_goals(first|(obtain⟨t,rfl⟩:=ry)|(cases ry))
 all_goals unfold cZ
 . exact⟨⟨RcAt.list_none hl hu,EqAt.list_none hl hu⟩,RcAt.none_list hl hu,EqAt.none_list hl hu⟩
 . exact⟨⟨RcAt.list_bool _ hl hu,EqAt.list_bool _ hl hu⟩,RcAt.bool_list _ hl hu,EqAt.bool_list _ hl hu⟩
 . exact⟨⟨RcAt.list_int _ _ hl hu,EqAt.list_int _ _ hl hu⟩,RcAt.int_list _ _ hl hu,EqAt.int_list _ _ hl hu⟩
 . exact⟨⟨RcAt.list_str _ _ hl hu,EqAt.list_str _ _ hl hu⟩,RcAt.str_list _ _ hl hu,EqAt.str_list _ _ hl hu⟩
def AI(I:Inv X pins σ H s){A:Around}{xs:List D}{e:D}{x y:V}{u v:Value}(he:Aw e=true)(rd:Rep α H (.tup xs) x)(re:Rep α H e y)(rx:RelV x u)(ry:RelV y v)(hu:A.units<cLine):
 (RcAt A s u v (cZ (.tup xs) e)/\EqAt A s u v (cZ (.tup xs) e))/\RcAt A s v u (cZ e (.tup xs))/\EqAt A s v u (cZ e (.tup xs)):=by
 obtain⟨a,vs,av,rfl,_,_,hl⟩:=tup_is I rd rx;cases e<;>try(cases he;done)
 all_goals(unfold Rep at re;subst re)
 all_goals(first|(obtain⟨t,rfl⟩:=ry)|(cases ry))
 all_goals unfold cZ
 . exact⟨⟨RcAt.tuple_none hl hu,EqAt.tuple_none hl hu⟩,RcAt.none_tuple hl hu,EqAt.none_tuple hl hu⟩
 . exact⟨⟨RcAt.tuple_bool _ hl hu,EqAt.tuple_bool _ hl hu⟩,RcAt.bool_tuple _ hl hu,EqAt.bool_tuple _ hl hu⟩
 . exact⟨⟨RcAt.tuple_int _ _ hl hu,EqAt.tuple_int _ _ hl hu⟩,RcAt.int_tuple _ _ hl hu,EqAt.int_tuple _ _ hl hu⟩
 . exact⟨⟨RcAt.tuple_str _ _ hl hu,EqAt.tuple_str _ _ hl hu⟩,RcAt.str_tuple _ _ hl hu,EqAt.str_tuple _ _ hl hu⟩
def Eb{A:Around}{n:Nat}{d e:D}{x y:V}{a b:Addr}(hd:pl n d=true)(he:pl n e=true)(rd:Rep α H d x)(re:Rep α H e y)(rx:RelV x (.ref a))(ry:RelV y (.ref b))(h:RcAt A s (.ref a) (.ref b) (cZ d e)):
 RcAt A s (.ref a) (.ref b) (cZ d e)/\EqAt A s (.ref a) (.ref b) (cZ d e):=by
 refine⟨h,?_⟩;by_cases hab:a=b
 . subst hab;have hx:x=y:=RelV.inj rx ry;subst hx;have:=Rep.inj n hd he rd re;subst this;rw[sU n d hd];exact EqAt.same _
 . exact EqAt.of_refs hab h
def FD(I:Inv X pins σ H s):∀(n:Nat) (A:Around) (d e:D) (x y:V) (u v:Value),pl n d=true->pl n e=true->Rep α H d x->Rep α H e y->RelV x u->RelV y v->A.units+n<cLine->
 RcAt A s u v (cZ d e)/\EqAt A s u v (cZ d e):=by
 intro n;induction n with
 |zero=>
  intro A d e x y u v hd he rd re rx ry hu;refine EA ?_ ?_ rd re rx ry
  . cases d<;>first|rfl|(cases hd)
  . cases e<;>first|rfl|(cases he)
 |succ n ih=>
  intro A d e x y u v hd he rd re rx ry hu;have hu0:A.units<cLine:=by omega
  have hin:A.in1.units+n<cLine:=by rw[Around.in1_units];omega
  cases d<;>try(cases hd;done)
  case lst xs=>
   cases e<;>try(cases he;done)
   case lst ys=>
    have rd0:=rd;have re0:=re;have rx0:=rx;have ry0:=ry;obtain⟨a,vs,av,rfl,r1,v1,l1⟩:=lst_is I rd rx;obtain⟨b,ws,jts,rfl,r2,v2,l2⟩:=lst_is I re ry;have e1:=r1.length;have e2:=v1.length;have e3:=r2.length;have e4:=v2.length;refine Eb hd he rd0 re0 rx0 ry0 ?_;unfold cZ;by_cases hlen:xs.length=ys.length
    . rw[qw hlen];have hsz:av.toArray.size=jts.toArray.size:=by simp only[Ut];omega
      have hx:xs.length=av.toArray.size:=by simp only[Ut];omega
      rw[hx];refine RcAt.lists l1 l2 hsz hu0 λ j h1 h2=>?_;have h1':j<av.length:=by simpa using h1
      have h2':j<jts.length:=by simpa using h2
      obtain⟨p,_,q1,q2⟩:=lV r1 v1 j h1';obtain⟨p',_,q1',q2'⟩:=lV r2 v2 j h2';exact(ih A.in1 _ _ p p' _ _ (kg (by unfold pl at hd;exact hd) j) (kg (by unfold pl at he;exact he) j) q1 q1' (by simpa using q2) (by simpa using q2') hin).2
    . rw[qm hlen];exact RcAt.lists_lengths l1 l2 (by simp only[Ut,Yq,ne_eq];omega) hu0
   case tup ys=>
    obtain⟨a,vs,av,rfl,r1,v1,l1⟩:=lst_is I rd rx;obtain⟨b,ws,jts,rfl,r2,v2,l2⟩:=tup_is I re ry;unfold cZ;exact⟨RcAt.list_tuple l1 l2 hu0,EqAt.list_tuple l1 l2 hu0⟩
   all_goals exact(Av I rfl rd re rx ry hu0).1
  case tup xs=>
   cases e<;>try(cases he;done)
   case tup ys=>
    have rd0:=rd;have re0:=re;have rx0:=rx;have ry0:=ry;obtain⟨a,vs,av,rfl,r1,v1,l1⟩:=tup_is I rd rx;obtain⟨b,ws,jts,rfl,r2,v2,l2⟩:=tup_is I re ry;have e1:=r1.length;have e2:=v1.length;have e3:=r2.length;have e4:=v2.length;refine Eb hd he rd0 re0 rx0 ry0 ?_;unfold cZ
    have key:=RcAt.tuples (e:=λ j=>cZ (xs.getD j .aD) (ys.getD j .aD)) l1 l2 hu0 λ j h1 h2=>by
     have h1':j<av.length:=by simpa using h1
     have h2':j<jts.length:=by simpa using h2
     obtain⟨p,_,q1,q2⟩:=lV r1 v1 j h1';obtain⟨p',_,q1',q2'⟩:=lV r2 v2 j h2';exact(ih A.in1 _ _ p p' _ _ (kg (by unfold pl at hd;exact hd) j) (kg (by unfold pl at he;exact he) j) q1 q1' (by simpa using q2) (by simpa using q2') hin).2
    by_cases hlen:xs.length=ys.length
    . rw[qw hlen];have hsz:av.toArray.size=jts.toArray.size:=by simp only[Ut];omega
      have hx:xs.length=av.toArray.size:=by simp only[Ut];omega
      rw[hsz,Y6,Xp,Yb,<-hsz,<-hx]at key;exact key
    . rw[qm hlen];have hne:(av.toArray.size==jts.toArray.size)=false:=by simp only[Ut,Wb,ne_eq];omega
      rw[hne,YU]at key;exact key
   case lst ys=>
    obtain⟨a,vs,av,rfl,r1,v1,l1⟩:=tup_is I rd rx;obtain⟨b,ws,jts,rfl,r2,v2,l2⟩:=lst_is I re ry;unfold cZ;exact⟨RcAt.tuple_list l1 l2 hu0,EqAt.tuple_list l1 l2 hu0⟩
   all_goals exact(AI I rfl rd re rx ry hu0).1
  all_goals
   cases e<;>try(cases he;done)
   case lst ys=>exact(Av I rfl re rd ry rx hu0).2
   case tup ys=>exact(AI I rfl re rd ry rx hu0).2
   all_goals exact EA rfl rfl rd re rx ry
def NY:du:=λ x y st K=>pl 40 x=true/\pl 40 y=true/\K (.bl (cZ x y)) st
def SG{k:Nat}(hr:dy k X.A):ck X (compareOp .Eq) (LR NY):=λ pins s σ H x y v u Q I rx ry ⟨α,d,e,st,K,G,F',P,r1,r2,S,q,k⟩=>by
 have hu:=hr.units;exact(FD I 40 X.A d e x y v u q.1 q.2.1 (r1.mono P.same) (r2.mono P.same) rx ry (by omega)).1 _ _ _ _ ⟨.bl (cZ d e),H,I,rfl,k.here P q.2.2 S (by unfold Rep;rfl)⟩
def Pf:du:=λ x y st K=>match x,y with
 | .int i,.int j=>K (.bl (!decide (i=j))) st
 | .bl i,.bl j=>K (.bl (!decide (i=j))) st
 | .str i,.str j=>K (.bl (!decide (i=j))) st
 |_,_=>False
def Tt:ck X (compareOp .NotEq) (LR Pf):=ck.imp Rp λ x y H Q ⟨α,d,e,st,K,G,F',P,r1,r2,S,q,k⟩=>by
 cases d<;>cases e<;>try exact q.elim
 all_goals(unfold Rep at r1 r2;subst r1 r2)
 . exact⟨rfl,k.here P q S (by unfold Rep;congr 2;exact Yy.mpr ⟨λ h=>by cases h;rfl,λ h=>by rw[h]⟩)⟩
 . exact⟨rfl,k.here P q S (by unfold Rep;congr 2;exact Yy.mpr ⟨λ h=>by cases h;rfl,λ h=>by rw[h]⟩)⟩
 . exact⟨rfl,k.here P q S (by unfold Rep;congr 2;exact Yy.mpr ⟨λ h=>by cases h;rfl,λ h=>by rw[h]⟩)⟩
end
end L3
namespace L3
open PySem PySem.Spec L2
open PyProof.Rows hiding St
def LC(α:List (Option Addr))(G F:Hp)(K:cf->ag->Prop)(Q:L2.St->Hp->Prop):Prop:=∀σd' st',K σd' st'->∀α' G' H' σ',Step α G α' G'->cG G' F H'->eN α' G' σd' σ'->aX α' st' G'->Q σ' H'
structure Bd(α:List (Option Addr))(G F:Hp)(DD:kq)(D:Ends):Prop where
 nx:LC α G F DD.nx D.nx
 rt:LK α G F DD.rt D.rt
 bk:LC α G F DD.bk D.bk
 ct:LC α G F DD.ct D.ct
inductive Sa(t:DS)(D:Ends)(σ:L2.St)(H:Hp):Prop
 |mk (α:List (Option Addr)) (σd:cf) (st:ag) (DD:kq) (G F:Hp) (P:cG G F H) (R:eN α G σd σ) (S:aX α st G) (h:t DD σd st) (k:Bd α G F DD D):Sa t D σ H
def LS(t:DS):TS:=Sa t
def LC.at{α α1:List (Option Addr)}{G F G1:Hp}{K:cf->ag->Prop}{Q:L2.St->Hp->Prop}(h:LC α G F K Q)(s:Step α G α1 G1):LC α1 G1 F K Q:=λ d st' k α' G' H' v s' P R S=>h d st' k α' G' H' v (s.trans s') P R S
def LC.here{α:List (Option Addr)}{G F H:Hp}{K:cf->ag->Prop}{Q:L2.St->Hp->Prop}(h:LC α G F K Q)(P:cG G F H){σd:cf}{st:ag}{σ:L2.St}(k:K σd st)(R:eN α G σd σ)(S:aX α st G):Q σ H:=h σd st k α G H σ Step.refl P R S
def Bd.at{α α1:List (Option Addr)}{G F G1:Hp}{DD:kq}{D:Ends}(h:Bd α G F DD D)(s:Step α G α1 G1):Bd α1 G1 F DD D:=⟨h.nx.at s,h.rt.at s,h.bk.at s,h.ct.at s⟩
section
variable {X:Cx}{a b c e o i:Expr}{es:List Expr}{ta tb tc te:DE}{pos:Pos}{st:Stmt}{sts:List Stmt}{t u:DS}
def PS.imp{t t':TS}(h:PS X st t)(f:∀D σ H,t' D σ H->t D σ H):PS X st t':=λ pins s σ H D I q=>h pins s σ H D I (f D σ H q)
def i5.imp{t t':TS}(h:i5 X sts t)(f:∀D σ H,t' D σ H->t D σ H):i5 X sts t':=λ pins s σ H D I q=>h pins s σ H D I (f D σ H q)
def de:DS:=λ D σ st=>D.nx σ st
def aJ(t u:DS):DS:=λ D σ st=>t {D with nx:=u D} σ st
def MZ:i5 X [] (LS de):=i5.imp M3 λ D σ H ⟨α,σd,st,DD,G,F,P,R,S,t,k⟩=>k.nx.here P t R S
def MI(h:PS X st (LS t)):i5 X [st] (LS t):=Nn h
def J4(h:PS X st (LS t))(h2:i5 X sts (LS u)):i5 X (st::sts) (LS (aJ t u)):=i5.imp (Jc h h2) λ D σ H ⟨α,σd,st,DD,G,F,P,R,S,t,k⟩=>
 ⟨α,σd,st,_,G,F,P,R,S,t,λ σd' st' q α' G' H' σ' s' P' R' S'=>⟨α',σd',st',DD,G',F,P',R',S',q,k.at s'⟩,k.rt,k.bk,k.ct⟩
def bc(te:DE):DS:=λ D σ st=>te σ st D.rt
def NF(h:PE X e (LE te)):PS X (.Return (some e) pos) (LS (bc te)):=PS.imp (Ql h) λ D σ H ⟨α,σd,st,DD,G,F,P,R,S,t,k⟩=>⟨α,σd,st,_,G,F,P,R,S,t,k.rt⟩
def ji(te:DE):DS:=λ D σ st=>te σ st λ _ st1=>D.nx σ st1
def Mz(h:PE X e (LE te))(hs:swapsWith e none pos.line X.env=pure false:=by rfl):PS X (.Expr e pos) (LS (ji te)):=PS.imp (Nm h hs) λ D σ H ⟨α,σd,st,DD,G,F,P,R,S,t,k⟩=>
 ⟨α,σd,st,_,G,F,P,R,S,t,λ d st1 q α1 G1 H1 v s1 P1 S1 r1=>(k.nx.at s1).here P1 q (R.step s1) S1⟩
def dz(c:DT)(t u:DS):DS:=λ D σ st=>c σ st λ b st1=>if b=true then t D σ st1 else u D σ st1
def QU{x y:List Stmt}{tc:DT}(hc:PT X c (LT tc))(ha:i5 X x (LS t))(hb:i5 X y (LS u)):PS X (.If c x y pos) (LS (dz tc t u)):=PS.imp (Rg hc ha hb) λ D σ H ⟨α,σd,st,DD,G,F,P,R,S,t,k⟩=>by
 refine⟨α,σd,st,_,G,F,P,R,S,t,λ b st1 q α1 G1 H1 s1 P1 S1=>?_⟩;cases b with
 |true=>exact⟨α1,σd,st1,DD,G1,F,P1,R.step s1,S1,q,k.at s1⟩
 |false=>exact⟨α1,σd,st1,DD,G1,F,P1,R.step s1,S1,q,k.at s1⟩
abbrev fS:=D->cf->Option cf
def bI(i:Nat):fS:=λ d σ=>some (σ.set i (some d))
def f_(i j:Nat):fS:=λ d σ=>match d with| .tup [x,y]=>some ((σ.set i (some x)).set j (some y))|_=>none
inductive Si(t:fS)(v:V)(σ:L2.St)(H:Hp)(Q:L2.St->Hp->Prop):Prop
 |mk (α:List (Option Addr)) (σd:cf) (st:ag) (d:D) (K:cf->ag->Prop) (G F:Hp) (P:cG G F H) (R:eN α G σd σ) (S:aX α st G) (r:Rep α G d v) (h:∃σ',t d σd=some σ'/\K σ' st) (k:LC α G F K Q):Si t v σ H Q
def LG(t:fS):TG:=Si t
def PG.imp{tg:Expr}{t t':TG}(h:PG X tg t)(f:∀v σ H Q,t' v σ H Q->t v σ H Q):PG X tg t':=λ pins s σ H v u Q I r q=>h pins s σ H v u Q I r (f v σ H Q q)
def M9{tg:Expr}{i:Nat}(h:PG X tg (nB i)):PG X tg (LG (bI i)):=PG.imp h λ v σ H Q ⟨α,σd,st,d,K,G,F,P,R,S,r,⟨σ',e,q⟩,k⟩=>by
 cases e;exact k.here P q (R.set i r) S
def PC{tg:Expr}{i j:Nat}(h:PG X tg (ON X.K 2 (Fm (nB i) (Fm (nB j) Qo)))):PG X tg (LG (f_ i j)):=PG.imp h λ v σ H Q ⟨α,σd,st,d,K,G,F,P,R,S,r,⟨σ',e,q⟩,k⟩=>by
 unfold f_ at e;split at e
 . rename_i x y;cases e;unfold Rep at r;obtain⟨a,vs,rfl,na,h1,h2⟩:=r;obtain⟨v1,v2,rfl,r1,r2⟩:=tP h2 rfl;exact⟨a,_,rfl,.of (P.get h1),rfl,v1,_,rfl,v2,_,rfl,rfl,k.here P q ((R.set i r1).set j r2) S⟩
 . cases e
def bo(i:Nat)(te:DE):DS:=λ D σ st=>te σ st λ d st1=>D.nx (σ.set i (some d)) st1
def II{i:Nat}(h:PS X st (oG (LE te) (nB i))):PS X st (LS (bo i te)):=PS.imp h λ D σ H ⟨α,σd,st,DD,G,F,P,R,S,t,k⟩=>
 ⟨α,σd,st,_,G,F,P,R,S,t,λ d st1 q α1 G1 H1 v s1 P1 S1 r1=>(k.nx.at s1).here P1 q ((R.step s1).set i r1) S1⟩
def CM(tg:fS)(te:DE):DS:=λ D σ st=>te σ st λ d st1=>∃σ',tg d σ=some σ'/\D.nx σ' st1
def OS{tg:fS}(h:PS X st (oG (LE te) (LG tg))):PS X st (LS (CM tg te)):=PS.imp h λ D σ H ⟨α,σd,st,DD,G,F,P,R,S,t,k⟩=>
 ⟨α,σd,st,_,G,F,P,R,S,t,λ d st1 q α1 G1 H1 v s1 P1 S1 r1=>⟨α1,σd,st1,d,DD.nx,G1,F,P1,R.step s1,S1,r1,q,k.nx.at s1⟩⟩
def Ce(i j:Nat)(ta:DA):DS:=λ D σ st=>ta σ st λ ds st1=>match ds with| [x,y]=>D.nx ((σ.set i (some x)).set j (some y)) st1|_=>False
def Px{i j:Nat}{ta:DA}(h:PS X st (NS i j (LA ta))):PS X st (LS (Ce i j ta)):=PS.imp h λ D σ H ⟨α,σd,st,DD,G,F,P,R,S,t,k⟩=>by
 refine⟨α,σd,st,_,G,F,P,R,S,t,λ ds st1 q α1 G1 H1 vs s1 P1 S1 r1=>?_⟩;match ds,q,r1 with
 | [x,y],q,r1=>
   obtain⟨v1,v2,rfl,q1,q2⟩:=tP r1 rfl;exact⟨v1,v2,rfl,(k.nx.at s1).here P1 q (((R.step s1).set i q1).set j q2) S1⟩
def Fh(i:Nat)(r:du)(te:DE):DS:=λ D σ st=>match σ[i]? with|some (some x)=>te σ st λ y st1=>r x y st1 λ z st2=>D.nx (σ.set i (some z)) st2|_=>False
def Dp(f:Int->Int->Int):du:=λ x y st K=>match x,y with| .int i,.int j=>K (.int (f i j)) st|_,_=>False
def Pz{i:Nat}{f:Int->Int->Int}(h:PS X st (PF i (LE te) (Qf f))):PS X st (LS (Fh i (Dp f) te)):=PS.imp h λ D σ H ⟨α,σd,st,DD,G,F,P,R,S,t,k⟩=>by
 unfold Fh at t;split at t
 . rename_i x e;obtain⟨v,ev,rv⟩:=R.at' i x e;refine⟨v,ev,α,σd,st,_,G,F,P,R,S,t,λ y st1 q α1 G1 H1 w s1 P1 S1 r1=>?_⟩;cases x<;>cases y<;>try exact q.elim
   have rv':=rv;unfold Rep at rv r1;exact⟨_,_,rv,r1,(k.nx.at s1).here P1 q ((R.step s1).set i (by unfold Rep;rfl)) S1⟩
 . exact t.elim
def E6(x y d:D)(st:ag)(K:ag->Prop):Prop:=match x,y with
 | .ref n,.int k=>(match st[n]? with
   |some (.lst xs)=>(match jV xs.length k with|some j=>K (st.set n (.lst (xs.set j d)))|none=>False)
   |_=>False)
 |_,_=>False
def N4(to ti te:DE):DS:=λ D σ st=>te σ st λ d st1=>to σ st1 λ x st2=>ti σ st2 λ y st3=>E6 x y d st3 λ st4=>D.nx σ st4
def Jj{to ti:DE}(h:PS X st (oG (LE te) (Cs (LE to) (LE ti) x8))):PS X st (LS (N4 to ti te)):=PS.imp h λ D σ H ⟨α,σd,st,DD,G,F,P,R,S,t,k⟩=>by
 refine⟨α,σd,st,_,G,F,P,R,S,t,λ d st1 q α1 G1 H1 v s1 P1 S1 r1=>?_⟩;refine⟨α1,σd,st1,_,G1,F,P1,R.step s1,S1,q,λ x st2 q2 α2 G2 H2 v2 s2 P2 S2 r2=>?_⟩;refine⟨α2,σd,st2,_,G2,F,P2,(R.step s1).step s2,S2,q2,λ y st3 q3 α3 G3 H3 v3 s3 P3 S3 r3=>?_⟩;cases x<;>cases y<;>try exact q3.elim
 rename_i n kk;unfold E6 at q3;simp only at q3;split at q3
 . rename_i xs e;split at q3
   . rename_i j ej;obtain⟨p,ep,vs,hv,rv⟩:=S3.gO e;have r2':=d5 ep (r2.step s3);subst r2';unfold Rep at r3;have hm:some p∈α3:=UO ep;have rd:=(r1.step s2).step s3;refine⟨p,vs,kk,j,rfl,r3,P3.get hv,by rw[<-rv.length];exact ej,?_⟩;refine(((k.nx.at s1).at s2).at s3) σd _ q3 α3 (upd G3 p (.lst (vs.set j v))) _ σ (Step.write hm) (P3.write hv) ((((R.step s1).step s2).step s3).step (Step.write hm)) ?_;exact S3.write ep ⟨vs.set j v,a8,(bJ.mpr (x6 rd j (bJ.mp rv))).step (Step.write hm)⟩
   . exact q3.elim
 . exact q3.elim
def va(c:DT)(tb:DS):DS:=λ D σ st=>∃W:Nat->cf->ag->Prop,(∃m,W m σ st)/\∀m σ st,W m σ st->
 c σ st λ b st1=>if b=true then tb {D with nx:=λ σ' st'=>∃m',m'<m/\W m' σ' st',ct:=λ σ' st'=>∃m',m'<m/\W m' σ' st',bk:=D.nx} σ st1 else D.nx σ st1
def Kd{tc:DT}(h:PS X st (Hr (LT tc) (LS t))):PS X st (LS (va tc t)):=PS.imp h λ D σ H ⟨α,σd,st,DD,G,F,P,R,S,⟨W,⟨m0,w0⟩,turn⟩,k⟩=>by
 refine⟨λ m σ' H'=>∃α' σd' st' G',Step α G α' G'/\cG G' F H'/\eN α' G' σd' σ'/\aX α' st' G'/\W m σd' st',⟨m0,α,σd,st,G,Step.refl,P,R,S,w0⟩,?_⟩;rintro m σ1 H1 ⟨α1,σd1,st1,G1,s1,P1,R1,S1,w1⟩;refine⟨α1,σd1,st1,_,G1,F,P1,R1,S1,turn m σd1 st1 w1,λ b st2 q α2 G2 H2 s2 P2 S2=>?_⟩;cases b with
 |false=>exact((k.nx.at s1).at s2).here P2 q (R1.step s2) S2
 |true=>
  refine⟨λ σ' H'=>∃m',m'<m/\∃α' σd' st' G',Step α G α' G'/\cG G' F H'/\eN α' G' σd' σ'/\aX α' st' G'/\W m' σd' st',λ σ' H' z=>z,?_⟩;refine⟨α2,σd1,st2,_,G2,F,P2,R1.step s2,S2,q,?_⟩;refine⟨?_,(k.rt.at s1).at s2,(k.nx.at s1).at s2,?_⟩
  . rintro σd3 st3 ⟨m',hm,w3⟩ α3 G3 H3 σ3 s3 P3 R3 S3;exact⟨m',hm,α3,σd3,st3,G3,(s1.trans s2).trans s3,P3,R3,S3,w3⟩
  . rintro σd3 st3 ⟨m',hm,w3⟩ α3 G3 H3 σ3 s3 P3 R3 S3;exact⟨m',hm,α3,σd3,st3,G3,(s1.trans s2).trans s3,P3,R3,S3,w3⟩
abbrev DI:=cf->ag->(List D->(ag->Prop)->ag->Prop)->Prop
structure xq(J:It)(α:List (Option Addr))(G:Hp)(ok:ag->Prop)(xs:List D):Prop where
 stop:∀(n:Nat) α' G' F' H' st',Step α G α' G'->cG G' F' H'->aX α' st' G'->ok st'->xs.length<=n->J.stop n H'
 go:∀(n:Nat) d α' G' F' H' st',Step α G α' G'->cG G' F' H'->aX α' st' G'->ok st'->xs[n]?=some d->J.go n H'
 qJ:∀(n:Nat) d α' G' F' H' st' x H'',Step α G α' G'->cG G' F' H'->aX α' st' G'->ok st'->xs[n]?=some d->J.qJ n H' x H''->∃G'',Step α' G' α' G''/\cG G'' F' H''/\aX α' st' G''/\Rep α' G'' d x
def LI(t:DI):TI:=λ σ H R=>∃α σd st K G F,cG G F H/\eN α G σd σ/\aX α st G/\t σd st K/\∀xs ok st1,K xs ok st1->∀J α1 G1 H1,Step α G α1 G1->cG G1 F H1->aX α1 st1 G1->xq J α1 G1 ok xs->R J H1
def zN(d:D)(st1:ag)(K:List D->(ag->Prop)->ag->Prop):Prop:=match d with
 | .lst xs=>K xs (λ _=>True) st1
 | .tup xs=>K xs (λ _=>True) st1
 | .ref n=>(match st1[n]? with|some (.lst xs)=>K xs (λ st'=>st'[n]?=some (.lst xs)) st1|_=>False)
 |_=>False
def RE(t:DE):DI:=λ σ st K=>t σ st λ d st1=>zN d st1 K
def EL{K:PySem.W.Frag}{a:Addr}{α:List (Option Addr)}{G:Hp}{ok:ag->Prop}{xs:List D}
 (h:∀α' G' st',Step α G α' G'->aX α' st' G'->ok st'->∃vs,Rd G' a (.lst vs)/\aS α' G' xs vs):xq (PJ K a) α G ok xs where
 stop:=λ n α' G' F' H' st' s P S o hn=>by
  obtain⟨vs,h1,h2⟩:=h α' G' st' s S o;exact⟨vs,.inl (iy P h1),by rw[<-h2.length];exact hn⟩
 go:=λ n d α' G' F' H' st' s P S o hn=>by
  obtain⟨vs,h1,h2⟩:=h α' G' st' s S o;obtain⟨v,e,_⟩:=h2.get hn;exact⟨vs,v,.inl (iy P h1),e⟩
 qJ:=λ n d α' G' F' H' st' x H'' s P S o hn y=>by
  obtain⟨vs,h1,h2⟩:=h α' G' st' s S o;obtain⟨v,e,r⟩:=h2.get hn;obtain⟨rfl,y⟩:=y;have:=y vs (.inl (iy P h1));rw[e]at this;cases this;exact⟨G',Step.refl,P,S,r⟩
def Qn{K:PySem.W.Frag}{a:Addr}{α:List (Option Addr)}{G:Hp}{ok:ag->Prop}{xs:List D}
 (h:∀α' G' st',Step α G α' G'->aX α' st' G'->ok st'->∃vs,G' a=some (.tup vs)/\aS α' G' xs vs):xq (OB K a) α G ok xs where
 stop:=λ n α' G' F' H' st' s P S o hn=>by
  obtain⟨vs,h1,h2⟩:=h α' G' st' s S o;exact⟨vs,.of (P.get h1),by rw[<-h2.length];exact hn⟩
 go:=λ n d α' G' F' H' st' s P S o hn=>by
  obtain⟨vs,h1,h2⟩:=h α' G' st' s S o;obtain⟨v,e,_⟩:=h2.get hn;exact⟨vs,v,.of (P.get h1),e⟩
 qJ:=λ n d α' G' F' H' st' x H'' s P S o hn y=>by
  obtain⟨vs,h1,h2⟩:=h α' G' st' s S o;obtain⟨v,e,r⟩:=h2.get hn;obtain⟨rfl,y⟩:=y;have:=y vs (.of (P.get h1));rw[e]at this;cases this;exact⟨G',Step.refl,P,S,r⟩
def Kg{α α':List (Option Addr)}{G G':Hp}{a:Addr}{vs:List V}{xs:List D}(s:Step α G α' G')(na:some a∉α)(h1:Rd G a (.lst vs))(h2:aS α G xs vs):Rd G' a (.lst vs)/\aS α' G' xs vs:=by
 refine⟨?_,h2.step s⟩;rcases h1 with h|⟨o,h⟩
 . exact .inl (s.ext _ _ na h)
 . exact .inr ⟨o,s.ext _ _ na h⟩
def Oq{l tg:Expr}{tl:DE}(hl:PE X l (LE tl)):PI X tg l (LI (RE tl)):=by
 intro pins s σ H R I h;obtain⟨α,σd,st,K,G,F,P,RS,S,t,k⟩:=h;refine cw (hl pins s σ H (λ x H1=>∃d α1 G1 st1,Step α G α1 G1/\cG G1 F H1/\aX α1 st1 G1/\Rep α1 G1 d x/\zN d st1 K) I ⟨α,σd,st,_,G,F,P,RS,S,t,λ d st1 q α1 G1 H1 v s1 P1 S1 r1=>⟨d,α1,G1,st1,s1,P1,S1,r1,q⟩⟩) λ v s1 ⟨x,H1,I1,rx,d,α1,G1,st1,s1',P1,S1,r1,q⟩=>?_;unfold zN at q
 have viaL:∀ {a:Addr} {vs:List V},x= .ref a->Rd H1 a (.lst vs)->R (PJ X.K a) H1->wpAny (model X.prog X.w) X.A (pyIter v) (LD X pins σ tg R) X.xe s1:=by
  intro a vs ex hr hR;subst ex;cases rx;obtain⟨av,rv,p,hz⟩:=I1.list (.inl hr);refine Xi p.isList ?_;refine⟨s1.heap.objs.size,[s1.heap.objs.size],_,_,H1,rfl,I1.kept (t':=s1.toks) λ b o e=>Uo _ e,ID a _,⟨_,UN _ rfl,rfl,rfl⟩,λ b hb=>?_,hR⟩;have e:b=s1.heap.objs.size:=by simpa using hb
  subst e;exact I1.w4 (Uk _) (I1.aO.fresh (Uk _))
 have viaT:∀ {a:Addr} {vs:List V},x= .ref a->H1 a=some (.tup vs)->R (OB X.K a) H1->wpAny (model X.prog X.w) X.A (pyIter v) (LD X pins σ tg R) X.xe s1:=by
  intro a vs ex hr hR;subst ex;cases rx;obtain⟨av,rv,p,hz⟩:=I1.tuple (j7.of hr);refine WK (show s1.heap.IsTuple a av.toArray from p) ?_;refine⟨s1.heap.objs.size,[s1.heap.objs.size],_,_,H1,rfl,I1.kept (t':=s1.toks) λ b o e=>Uo _ e,Fo a _,⟨_,UN _ rfl,rfl,rfl⟩,λ b hb=>?_,hR⟩;have e:b=s1.heap.objs.size:=by simpa using hb
  subst e;exact I1.w4 (Uk _) (I1.aO.fresh (Uk _))
 cases d<;>try exact q.elim
 . rename_i n;simp only at q;split at q
   . rename_i xs e;obtain⟨a,ea,vs,h1,h2⟩:=S1.gO e;have r1':=d5 ea r1;subst r1';refine viaL rfl (iy P1 (.of h1)) (k _ _ st1 q _ α1 G1 H1 s1' P1 S1 (EL λ α' G' st' s S o=>?_));obtain⟨b,eb,ws,g1,g2⟩:=S.gO o
     have hb:b=a:=by
      rcases s.pre _ _ ea with z|z<;>(rw[z]at eb;cases eb)
      rfl
     subst hb;exact⟨ws,.of g1,g2⟩
   . exact q.elim
 . unfold Rep at r1;obtain⟨a,vs,rfl,na,ha,ra⟩:=r1;exact viaL rfl (iy P1 ha) (k _ _ st1 q _ α1 G1 H1 s1' P1 S1 (EL λ α' G' st' s S o=>⟨vs,Kg s na ha ra⟩))
 . unfold Rep at r1;obtain⟨a,vs,rfl,na,ha,ra⟩:=r1;exact viaT rfl (P1.get ha) (k _ _ st1 q _ α1 G1 H1 s1' P1 S1 (Qn λ α' G' st' s S o=>⟨vs,s.ext _ _ na ha,ra.step s⟩))
def d6(lo:Int)(n:Nat):List D:=(List.range n).map λ(k:Nat)=>D.int (lo+(k:Int))
def tE{lo:Int}{n k:Nat}:(d6 lo n)[k]?=if k<n then some (.int (lo+(k:Int)))else none:=by
 unfold d6;rw[UB];by_cases h:k<n
 . rw[WD h,Ur h];rfl
 . rw[Xr (by simpa using h),Up h];rfl
def cE{lo:Int}{n:Nat}:(d6 lo n).length=n:=by unfold d6;simp
def CG{α:List (Option Addr)}{G:Hp}{lo:Int}{n:Nat}:xq (z9 lo n) α G (λ _=>True) (d6 lo n) where
 stop:=λ m α' G' F' H' st' s P S o hn=>by rw[cE]at hn;exact hn
 go:=λ m d α' G' F' H' st' s P S o hn=>by
  rw[tE]at hn;split at hn
  . assumption
  . cases hn
 qJ:=λ m d α' G' F' H' st' x H'' s P S o hn y=>by
  obtain⟨rfl,rfl⟩:=y;rw[tE]at hn;split at hn
  . cases hn;exact⟨G',Step.refl,P,S,by unfold Rep;rfl⟩
  . cases hn
def PI.imp{tg iter:Expr}{t t':TI}(h:PI X tg iter t)(f:∀σ H R,t' σ H R->t σ H R):PI X tg iter t':=λ pins s σ H R I q=>h pins s σ H R I (f σ H R q)
def K0(ds:List D)(st1:ag)(K:List D->(ag->Prop)->ag->Prop):Prop:=match ds with
 | [.int j]=>(-(2^62)<=j/\j<2^62)/\K (d6 0 j.toNat) (λ _=>True) st1
 |_=>False
def LH(ds:List D)(st1:ag)(K:List D->(ag->Prop)->ag->Prop):Prop:=match ds with
 | [.int i,.int j]=>(-(2^62)<=i/\i<2^62/\ -(2^62)<=j/\j<2^62)/\K (d6 i (j-i).toNat) (λ _=>True) st1
 |_=>False
def Md(t:DA):DI:=λ σ st K=>t σ st λ ds st1=>K0 ds st1 K
def LV(t:DA):DI:=λ σ st K=>t σ st λ ds st1=>LH ds st1 K
def HJ{tg iter:Expr}{t:DA}(h:PI X tg iter (Fj (LA t))):PI X tg iter (LI (Md t)):=PI.imp h λ σ H R ⟨α,σd,st,K,G,F,P,RS,S,t,k⟩=>by
 refine⟨α,σd,st,_,G,F,P,RS,S,t,λ ds st1 q α1 G1 H1 vs s1 P1 S1 r1=>?_⟩;match ds,q,r1 with
 | [.int j],q,r1=>
   obtain⟨v,rfl,r2⟩:=jf r1 rfl;unfold Rep at r2;subst r2;exact⟨j,rfl,q.1.1,q.1.2,k _ _ st1 q.2 _ α1 G1 H1 s1 P1 S1 CG⟩
def IE{tg iter:Expr}{t:DA}(h:PI X tg iter (FU (LA t))):PI X tg iter (LI (LV t)):=PI.imp h λ σ H R ⟨α,σd,st,K,G,F,P,RS,S,t,k⟩=>by
 refine⟨α,σd,st,_,G,F,P,RS,S,t,λ ds st1 q α1 G1 H1 vs s1 P1 S1 r1=>?_⟩;match ds,q,r1 with
 | [.int i,.int j],q,r1=>
   obtain⟨v,u,rfl,r2,r3⟩:=tP r1 rfl;unfold Rep at r2 r3;subst r2 r3;exact⟨i,j,rfl,q.1,k _ _ st1 q.2 _ α1 G1 H1 s1 P1 S1 CG⟩
def j_(tg:fS)(body:DS)(ok:ag->Prop)(E:kq):List D->cf->ag->Prop
 | [],σ,st=>ok st/\E.nx σ st
 |x::xs,σ,st=>ok st/\∃σ1,tg x σ=some σ1/\body {E with nx:=j_ tg body ok E xs,ct:=j_ tg body ok E xs,bk:=E.nx} σ1 st
def jd(src:DI)(tg:fS)(body:DS):DS:=λ D σ st=>src σ st λ xs ok st1=>j_ tg body ok D xs σ st1
def Pg{src:DI}{tg:fS}(h:PS X st (OM (LI src) (LG tg) (LS t))):PS X st (LS (jd src tg t)):=PS.imp h λ D σ H ⟨α,σd,st,DD,G,F,P,R,S,tt,k⟩=>by
 refine⟨α,σd,st,_,G,F,P,R,S,tt,λ xs ok st1 q J α1 G1 H1 s1 P1 S1 it=>?_⟩;refine⟨λ i m σ' H'=>∃α' σd' st' G',Step α1 G1 α' G'/\cG G' F H'/\eN α' G' σd' σ'/\aX α' st' G'/\j_ tg t ok DD (xs.drop i) σd' st'/\m=xs.length-i,⟨xs.length,α1,σd,st1,G1,Step.refl,P1,R.step s1,S1,q,rfl⟩,?_⟩;rintro i m σ2 H2 ⟨α2,σd2,st2,G2,s2,P2,R2,S2,q2,rfl⟩;cases e:xs[i]? with
 |none=>
  have hl:xs.length<=i:=Yr.mp e;rw[VA hl]at q2;unfold j_ at q2;exact .inl ⟨it.stop i α2 G2 F H2 st2 s2 P2 S2 q2.1 hl,((k.nx.at s1).at s2).here P2 q2.2 R2 S2⟩
 |some d=>
  have hl:i<xs.length:=(Ui.mp e).1
  have ed:xs.drop i=d::xs.drop (i+1):=by
   rw[Vj hl];congr 1;rw[Uv hl]at e;exact Vk e
  rw[ed]at q2;unfold j_ at q2;obtain⟨aO,σ3,e3,q3⟩:=q2;refine .inr ⟨it.go i d α2 G2 F H2 st2 s2 P2 S2 aO e,λ σ' H'=>∃α' σd' st' G',Step α1 G1 α' G'/\cG G' F H'/\eN α' G' σd' σ'/\aX α' st' G'/\j_ tg t ok DD (xs.drop (i+1)) σd' st',?_,?_⟩
  . rintro σ' H' ⟨α',σd',st',G',z1,z2,z3,z4,z5⟩;exact⟨xs.length-(i+1),by omega,α',σd',st',G',z1,z2,z3,z4,z5,rfl⟩
  . intro x H' y;obtain⟨G3,s3,P3,S3,r3⟩:=it.qJ i d α2 G2 F H2 st2 x H' s2 P2 S2 aO e y;refine⟨α2,σd2,st2,d,λ σ' st'=>σ'=σ3/\st'=st2,G3,F,P3,R2.step s3,S3,r3,⟨σ3,e3,rfl,rfl⟩,?_⟩;rintro σ' st' ⟨rfl,rfl⟩ α4 G4 H4 σ4 s4 P4 R4 S4;have s24:=(s2.trans s3).trans s4;refine⟨α4,σ',st',_,G4,F,P4,R4,S4,q3,?_,((k.rt.at s1).at s24),(k.nx.at s1).at s24,?_⟩
    . intro σd5 st5 q5 α5 G5 H5 σ5 s5 P5 R5 S5;exact⟨α5,σd5,st5,G5,s24.trans s5,P5,R5,S5,q5⟩
    . intro σd5 st5 q5 α5 G5 H5 σ5 s5 P5 R5 S5;exact⟨α5,σd5,st5,G5,s24.trans s5,P5,R5,S5,q5⟩
end
def iZ(fr:List (Option Nat))(σ:cf):cf:=fr.map λ o=>o.bind λ j=>(σ[j]?).join
def eN.comp{α:List (Option Addr)}{G:Hp}{σd:cf}{σ:L2.St}{fr:List (Option Nat)}(h:eN α G σd σ):eN α G (iZ fr σd) (σC fr σ):=by
 refine⟨by unfold iZ σC;simp,λ i d e=>?_⟩;unfold iZ at e;rw[UB]at e;cases q:fr[i]? with
 |none=>rw[q]at e;cases e
 |some o=>
  rw[q]at e;cases o with
  |none=>simp at e
  |some j=>
   simp only[WJ,Option.some.injEq,Option.bind_some]at e
   have ej:σd[j]?=some (some d):=by
    cases r:σd[j]? with
    |none=>rw[r]at e;cases e
    |some u=>rw[r]at e;simp at e;rw[e]
   obtain⟨v,ev,rv⟩:=h.at' j d ej;refine⟨v,?_,rv⟩;unfold σC;rw[UB,q];simp[ev]
def dv(tg:fS)(c:DT)(te:DE)(ok:ag->Prop)(σc:cf):List D->List D->ag->(List D->ag->Prop)->Prop
 | [],acc,st,K=>ok st/\K acc st
 |x::xs,acc,st,K=>ok st/\∃σ2,tg x σc=some σ2/\c σ2 st λ b st1=>if b=true then te σ2 st1 λ y st2=>dv tg c te ok σc xs (acc++[y]) st2 K else dv tg c te ok σc xs acc st1 K
def cY(src:DI)(fr:List (Option Nat))(tg:fS)(c:DT)(te:DE):DE:=λ σ st K=>src σ st λ xs ok st1=>xs.length<=sizeLine/\dv tg c te ok (iZ fr σ) xs [] st1 λ ys st2=>K (.lst ys) st2
def kG(src:DI)(fr:List (Option Nat))(tg:fS)(c:DT)(te:DE):DE:=λ σ st K=>src σ st λ xs ok st1=>xs.length<=sizeLine/\dv tg c te ok (iZ fr σ) xs [] st1 λ ys st2=>K (.ref st2.length) (st2++[.lst ys])
def bV:DT:=λ _ st K=>K true st
def um(fr:List (Option Nat))(tg:fS):Prop:=∀(σ:cf) (d:D) (σ2:cf),tg d (iZ fr σ)=some σ2->σ2.length=(iZ fr σ).length/\∀(i:Nat) (e:D),(iZ fr σ)[i]?=some (some e)->σ2[i]?=some (some e)
def uT{fr:List (Option Nat)}{σ:cf}{k:Nat}(h:fr[k]?=some none){e:D}(q:(iZ fr σ)[k]?=some (some e)):False:=by
 unfold iZ at q;rw[UB,h]at q;simp at q
def bZ{fr:List (Option Nat)}{k:Nat}(h:fr[k]?=some none:=by rfl):um fr (bI k):=λ σ d σ2 e=>by
 cases e;refine⟨UC,λ i x q=>?_⟩;by_cases hi:i=k
 . subst hi;exact(uT h q).elim
 . rw[Ul (Uy hi)];exact q
def ni{fr:List (Option Nat)}{k j:Nat}(h:fr[k]?=some none:=by rfl)(h':fr[j]?=some none:=by rfl):um fr (f_ k j):=λ σ d σ2 e=>by
 unfold f_ at e;split at e
 . cases e;refine⟨by rw[UC,UC],λ i x q=>?_⟩;by_cases hi:i=k
   . subst hi;exact(uT h q).elim
   . by_cases hj:i=j
     . subst hj;exact(uT h' q).elim
     . rw[Ul (Uy hj),Ul (Uy hi)];exact q
 . cases e
section
variable {X:Cx}
def Pe{c:Expr}{t:DT}(h:PT X c (LT t)):vk X [c] (LT t):=Mc h
def JM:vk X [] (LT bV):=λ pins s σ H Q I ⟨α,σd,st,K,G,F,P,R,S,t,k⟩=>Nl pins s σ H Q I (k true st t α G H Step.refl P S)
def LE.comp{src:DI}{fr:List (Option Nat)}{tg:fS}{c:DT}{te:DE}(fit:um fr tg){σ:L2.St}{H:Hp}{Q:VK}{α:List (Option Addr)}{σd:cf}{st:ag}{KE:List D->ag->Prop}{G F:Hp}(P:cG G F H)(R:eN α G σd σ)(S:aX α st G)
 (t:src σd st λ xs ok st1=>xs.length<=sizeLine/\dv tg c te ok (iZ fr σd) xs [] st1 KE)
 (fin:∀ys st2 α2 G2 H2 l vs,KE ys st2->Step α G α2 G2->cG G2 (upd F l (.lst vs)) H2->F l=none->aX α2 st2 G2->aS α2 G2 ys vs->Q (.ref l) H2):
 vL (LI src) fr (LG tg) (LT c) (LE te) σ H Q:=by
 refine⟨α,σd,st,_,G,F,P,R,S,t,λ xs ok st1 q J α1 G1 H1 s1 P1 S1 it l hl=>?_⟩;obtain⟨hsz,q⟩:=q;obtain⟨hG,hF⟩:=P1.none hl
 refine⟨λ i m σ' H'=>∃α' st' G' acc vs,Step α1 G1 α' G'/\cG G' (upd F l (.lst vs)) H'/\eN α' G' (iZ fr σd) σ'/\aX α' st' G'/\aS α' G' acc vs/\acc.length<=i/\i<=xs.length/\dv tg c te ok (iZ fr σd) (xs.drop i) acc st' KE/\m=xs.length-i,
  ⟨xs.length,α1,st1,G1,[],[],Step.refl,P1.hide hl,(R.step s1).comp,S1,by unfold aS;rfl,Uk _,US _,q,rfl⟩,?_⟩
 rintro i m σ2 H2 ⟨α2,st2,G2,acc,vs,s2,P2,R2,S2,ra,hacc,hi,q2,rfl⟩;cases e:xs[i]? with
 |none=>
  have hl2:xs.length<=i:=Yr.mp e;rw[VA hl2]at q2;unfold dv at q2;exact .inl ⟨it.stop i α2 G2 _ H2 st2 s2 P2 S2 q2.1 hl2,fin acc st2 α2 G2 H2 l vs q2.2 (s1.trans s2) P2 hF S2 ra⟩
 |some d=>
  have hl2:i<xs.length:=(Ui.mp e).1
  have ed:xs.drop i=d::xs.drop (i+1):=by
   rw[Vj hl2];congr 1;rw[Uv hl2]at e;exact Vk e
  rw[ed]at q2;unfold dv at q2;obtain⟨aO,σ3,e3,q3⟩:=q2;refine .inr ⟨it.go i d α2 G2 _ H2 st2 s2 P2 S2 aO e,λ σ' H'=>∃α' st' G' acc vs,Step α1 G1 α' G'/\cG G' (upd F l (.lst vs)) H'/\eN α' G' (iZ fr σd) σ'/\aX α' st' G'/\aS α' G' acc vs/\acc.length<=i+1/\dv tg c te ok (iZ fr σd) (xs.drop (i+1)) acc st' KE,?_,?_⟩
  . rintro σ' H' ⟨α',st',G',acc',vs',z1,z2,z3,z4,z5,z6,z7⟩;exact⟨xs.length-(i+1),by omega,α',st',G',acc',vs',z1,z2,z3,z4,z5,z6,hl2,z7,rfl⟩
  . intro x H' y;obtain⟨G3,s3,P3,S3,r3⟩:=it.qJ i d α2 G2 _ H2 st2 x H' s2 P2 S2 aO e y;refine⟨α2,iZ fr σd,st2,d,λ σ' st'=>σ'=σ3/\st'=st2,G3,_,P3,R2.step s3,S3,r3,⟨σ3,e3,rfl,rfl⟩,?_⟩;rintro σ' st' ⟨rfl,rfl⟩ α4 G4 H4 σ4 s4 P4 R4 S4;have s24:=(s2.trans s3).trans s4;have Rc:eN α4 G4 (iZ fr σd) σ4:=⟨by rw[<-(fit σd d σ' e3).1];exact R4.len,λ j z hz=>R4.at' j z ((fit σd d σ' e3).2 j z hz)⟩
    refine⟨α4,σ',st',_,G4,_,P4,R4,S4,q3,λ b st5 q5 α5 G5 H5 s5 P5 S5=>?_⟩;cases b with
    |false=>exact⟨α5,st5,G5,acc,vs,s24.trans s5,P5,Rc.step s5,S5,((ra.step s3).step s4).step s5,by omega,q5⟩
    |true=>
     refine⟨α5,σ',st5,_,G5,_,P5,R4.step s5,S5,q5,λ z st6 q6 α6 G6 H6 v6 s6 P6 S6 r6=>?_⟩;have hr:=(((ra.step s3).step s4).step s5).step s6;refine⟨vs,(P6.frame a8).1,by rw[<-hr.length];omega,α6,st6,G6,acc++[z],vs++[v6],(s24.trans s5).trans s6,?_,(Rc.step s5).step s6,S6,bJ.mpr (gI (bJ.mp hr) (.cons r6 .nil)),by rw[Vv,Xq];omega,q6⟩;have:=P6.T9 (p:=l) (o':= .lst (vs++[v6])) a8;rw[Nz]at this;exact this
def Pu{scope:Scope}{Nc:List Str}{elt tg iter:Expr}{ifs:List Expr}{pos:Pos}{src:DI}{fr:List (Option Nat)}{dtg:fS}{c:DT}{te:DE}(S:a7 X scope Nc fr)(hi:PI X tg iter (LI src))
 (hg:∀C s H ex,PG (fN X scope Nc C s H ex) tg (LG dtg)) (ht:∀C s H ex,vk (fN X scope Nc C s H ex) ifs (LT c)) (he:∀C s H ex,PE (fN X scope Nc C s H ex) elt (LE te)) (fit:um fr dtg)
 (hx:X.xe=λ _ _=>False:=by rfl) (hc:X.calm=true:=by rfl) (hs:∀x,foldedSetIterable iter X.env x=pure x:=by intro _;rfl):PE X (.ListComp elt [⟨tg,iter,ifs,0⟩] scope pos) (LE (cY src fr dtg c te)):=
 PE.imp (EM hx hc S hi hg ht he hs) λ σ H Q ⟨α,σd,st,K,G,F,P,R,S,t,k⟩=>LE.comp fit P R S t λ ys st2 α2 G2 H2 l vs q s2 P2 hl S2 r=>by
  have hg:G2 l=none:=(P2.frame a8).2;refine k _ st2 q α2 (upd G2 l (.lst vs)) H2 (.ref l) (s2.trans (Step.laid hg)) (P2.show hl) (S2.laid hg) ?_;unfold Rep;exact⟨l,vs,rfl,S2.mI hg,.of a8,r.step (Step.laid hg)⟩
def LZ{scope:Scope}{Nc:List Str}{elt tg iter:Expr}{ifs:List Expr}{pos:Pos}{src:DI}{fr:List (Option Nat)}{dtg:fS}{c:DT}{te:DE}(S:a7 X scope Nc fr)(hi:PI X tg iter (LI src))
 (hg:∀C s H ex,PG (fN X scope Nc C s H ex) tg (LG dtg)) (ht:∀C s H ex,vk (fN X scope Nc C s H ex) ifs (LT c)) (he:∀C s H ex,PE (fN X scope Nc C s H ex) elt (LE te)) (fit:um fr dtg)
 (hx:X.xe=λ _ _=>False:=by rfl) (hc:X.calm=true:=by rfl) (hs:∀x,foldedSetIterable iter X.env x=pure x:=by intro _;rfl):PE X (.ListComp elt [⟨tg,iter,ifs,0⟩] scope pos) (LE (kG src fr dtg c te)):=
 PE.imp (EM hx hc S hi hg ht he hs) λ σ H Q ⟨α,σd,st,K,G,F,P,R,S,t,k⟩=>LE.comp fit P R S t λ ys st2 α2 G2 H2 l vs q s2 P2 hl S2 r=>by
  have hg:G2 l=none:=(P2.frame a8).2;refine k _ _ q (α2++[some l]) (upd G2 l (.lst vs)) H2 (.ref l) (s2.trans (Step.cell hg)) (P2.show hl) (S2.cell hg ⟨vs,a8,r.step (Step.cell hg)⟩) ?_;unfold Rep;refine .inr ⟨l,?_,rfl⟩;rw[Vc (by rw[S2.len];exact Uk _),S2.len,WR];rfl
def ND{st:Stmt}{k:Nat}{src:DI}{fr:List (Option Nat)}{dtg:fS}{c:DT}{te:DE}(fit:um fr dtg)(h:PS X st (oG (vL (LI src) fr (LG dtg) (LT c) (LE te)) (nB k))):PS X st (LS (bo k (cY src fr dtg c te))):=
 PS.imp h λ D σ H ⟨α,σd,st,DD,G,F,P,R,S,t,q⟩=>LE.comp fit P R S t λ ys st2 α2 G2 H2 l vs qq s2 P2 hl S2 r=>by
  have hg:G2 l=none:=(P2.frame a8).2;have s3:=s2.trans (Step.laid (o:= .lst vs) hg);refine q.nx _ st2 qq α2 (upd G2 l (.lst vs)) H2 _ s3 (P2.show hl) ((R.step s3).set k ?_) (S2.laid hg);unfold Rep;exact⟨l,vs,rfl,S2.mI hg,.of a8,r.step (Step.laid hg)⟩
def J6{st:Stmt}{k:Nat}{src:DI}{fr:List (Option Nat)}{dtg:fS}{c:DT}{te:DE}(fit:um fr dtg)(h:PS X st (oG (vL (LI src) fr (LG dtg) (LT c) (LE te)) (nB k))):PS X st (LS (bo k (kG src fr dtg c te))):=
 PS.imp h λ D σ H ⟨α,σd,st,DD,G,F,P,R,S,t,q⟩=>LE.comp fit P R S t λ ys st2 α2 G2 H2 l vs qq s2 P2 hl S2 r=>by
  have hg:G2 l=none:=(P2.frame a8).2;have s3:=s2.trans (Step.cell (o:= .lst vs) hg);refine q.nx _ _ qq (α2++[some l]) (upd G2 l (.lst vs)) H2 _ s3 (P2.show hl) ((R.step s3).set k ?_) (S2.cell hg ⟨vs,a8,r.step (Step.cell hg)⟩);unfold Rep;refine .inr ⟨l,?_,rfl⟩;rw[Vc (by rw[S2.len];exact Uk _),S2.len,WR];rfl
def aU(N:List Str)(ds:List D):cf:=ds.map some++List.replicate (N.length-ds.length) none
def eN.start{α:List (Option Addr)}{G:Hp}{N:List Str}{ds:List D}{vs:List V}(r:aS α G ds vs):eN α G (aU N ds) (L2.start N vs):=by
 have hl:=r.length;refine⟨by unfold aU L2.start;simp[hl],λ i d e=>?_⟩;unfold aU at e;by_cases hi:i<ds.length
 . rw[Us (by simpa using hi),UB]at e;cases q:ds[i]? with
   |none=>rw[q]at e;cases e
   |some x=>
    rw[q]at e;cases e;obtain⟨v,ev,rv⟩:=r.get q;refine⟨v,?_,rv⟩;unfold L2.start;rw[Us (by rw[Uh];omega),UB,ev];rfl
 . rw[Vc (by simpa using hi),Xb]at e;split at e<;>cases e
def Qz{P:Program}{w:World}{K:PySem.W.Frag}{mg:Str->Option Value}{base:Heap}{x qual:Str}{st:Stmt}{f:Addr}{fd:FuncData}{N ps:List Str}{k:Nat}{sp:cy}{t:DS}(F:p8 K x qual st f fd)(S:aQ N ps (ai st))
 (hbody:∀(cdv:Value) (A:Around) (outer:List Env) (s:Shared) (H:Hp) (E:XK),dy k (A.deeper (envOfC qual (ai st) s.heap.objs.size f cdv))->i5 (sT cz P w K mg base N qual (ai st) f cdv A outer s H E).yf (iI st) (LS t))
 (hsp:∀ds st K,sp ds st K->ds.length=ps.length/\t {nx:=λ _ st'=>K .aD st',rt:=K} (aU N ds) st):a_ P w K mg base cz (k+1) f fd ps (cD sp):=by
 refine F.ok S (λ vs H Q E h=>?_) λ cdv A outer s H vs Q E hr h=>⟨_,hbody cdv A outer s H E hr,?_⟩
 . obtain⟨α,ds,st,K,G,F,P,r,S,q,k⟩:=h;rw[<-r.length];exact(hsp ds st K q).1
 . obtain⟨α,ds,st,K,G,F,P,r,S,q,k⟩:=h;refine⟨α,aU N ds,st,_,G,F,P,eN.start r,S,(hsp ds st K q).2,?_,k,?_,?_⟩
   . intro σd' st' kk α' G' H' σ' s' P' R' S';exact k .aD st' kk α' G' H' .aD s' P' S' (by unfold Rep;rfl)
   . intro σd' st' kk;exact kk.elim
   . intro σd' st' kk;exact kk.elim
def se(to te:DE):DE:=λ σ st K=>to σ st λ x st1=>match x with
 | .ref n=>(match st1[n]? with
   |some (.lst _)=>te σ st1 λ y st2=>∃y',[y]=[y']/\(match st2[n]? with|some (.lst xs)=>xs.length<sizeLine/\K .aD (st2.set n (.lst (xs++[y'])))|_=>False)
   |_=>False)
 |_=>False
end
structure bD(K:PySem.W.Frag)(mg:Str->Option Value)(x qual:Str)(st:Stmt)(ps:List Str)(f:Addr)(fd:FuncData):Prop where
 fn:p8 K x qual st f fd
 mg:mg x=some (.ref f)
 bd:Binds K fd ps []
def yt(sc:Scope)(N:List Str)(scope:Scope)(Nc:List Str)(fr:List (Option Nat)):Bool:=
 (scope.kind== .function)&&scope.names.all (λ x=>x.2 != .cell||scope.names.lookup x.1==some .cell)&&scope.names.all (λ x=>x.2 != .local||scope.names.lookup x.1==some .local)&&
 scope.names.all (λ x=>x.2 != .free||sc.names.lookup x.1==some .cell||sc.names.lookup x.1==some .free)&&(fr.length==Nc.length)&&
 (List.range fr.length).all λ i=>match fr[i]?,Nc[i]? with
   |some (some j),some x=>(N[j]?==some x)&&(scope.names.lookup x==some .free)&&(sc.names.lookup x==some .cell||sc.names.lookup x==some .free)
   |_,_=>true
def a7.look{X:Cx}{scope:Scope}{Nc:List Str}{fr:List (Option Nat)}(sc:Scope)(N:List Str)(h:yt sc N scope Nc fr=true)(hsc:X.env.scope=sc:=by rfl)(hN:X.N=N:=by rfl):a7 X scope Nc fr:=by
 unfold yt at h;simp only[U0]at h;obtain⟨⟨⟨⟨⟨h1,h2⟩,h3⟩,h4⟩,h5⟩,h6⟩:=h;subst hsc hN;refine⟨by simpa using h1,λ x hx hk=>?_,λ x hx hk=>?_,λ x hx hk=>?_,by simpa using h5,λ i j x e1 e2=>?_⟩
 . have:=UW.mp h2 x hx;rw[hk]at this;simpa using this
 . have:=UW.mp h3 x hx;rw[hk]at this;simpa using this
 . have:=UW.mp h4 x hx;rw[hk]at this;have z:X.env.scope.names.lookup x.1=some .cell\/X.env.scope.names.lookup x.1=some .free:=by simpa using this
   exact z
 . have hi:i<fr.length:=(Ui.mp e2).1;have:=UW.mp h6 i (VM.mpr hi);rw[e1,e2]at this;simp only[U0,XB,Wj]at this;exact⟨this.1.1,this.1.2,this.2⟩
section
variable {X:Cx}
def S9{e:Expr}{es:List Expr}{pos p:Pos}{x:Str}{id:String}{r:gQ}{t:DA}(hc:cM X (.builtin id) (jr r))(ha:PA X (e::es) (LA t))(hm:X.mg x=none)(hv:bootBuiltins x=some (.builtin id))(hg:Gl X x:=by rfl)(hn:x≠"__name__":=by decide)(hdb:(x==("__debug__":Str))=false:=by decide)
 (he:starEach (e::es) X.env=(false,eval e X.env)::starEach es X.env:=by rfl) (hpl:(backTo pos (starEach es X.env)).any (·.1)=false:=by rfl):PE X (.Call (.Name x p) (e::es) [] pos) (LE (bO r t)):=PE.imp (JQ hc hg hm hv ha hn hdb he hpl) λ _ _ _ h=>LE.cb h
def Td{e:Expr}{es:List Expr}{pos p:Pos}{x:Str}{T:String}{r:gQ}{t:DA}(hc:cM X (.type T) (jr r))(ha:PA X (e::es) (LA t))(hm:X.mg x=none)(hv:bootBuiltins x=some (.type T))(hg:Gl X x:=by rfl)(hn:x≠"__name__":=by decide)(hdb:(x==("__debug__":Str))=false:=by decide)
 (he:starEach (e::es) X.env=(false,eval e X.env)::starEach es X.env:=by rfl) (hpl:(backTo pos (starEach es X.env)).any (·.1)=false:=by rfl):PE X (.Call (.Name x p) (e::es) [] pos) (LE (bO r t)):=PE.imp (Hf hc hg hm hv ha hn hdb he hpl) λ _ _ _ h=>LE.cb h
def SV{pos:Pos}{x:Str}{T:String}(hm:X.mg x=none)(hv:bootBuiltins x=some (.type T))(hg:Gl X x:=by rfl)(hn:x≠"__name__":=by decide)(hdb:(x==("__debug__":Str))=false:=by decide):PE X (.Name x pos) (LE (dC (.ty T))):=
 sS (v:= .ty T) (L7 hg hm hv rfl hn hdb) λ _ _=>by unfold Rep;rfl
def Tv{e:Expr}{es:List Expr}{pos p:Pos}{x qual:Str}{st:Stmt}{ps:List Str}{f:Addr}{fd:FuncData}{k:Nat}{S:cy}{t:DA}(A:bD X.K X.mg x qual st ps f fd)(F:a_ X.prog X.w X.K X.mg X.base cz k f fd ps (cD S))(hr:dy k X.A)
 (ha:PA X (e::es) (LA t)) (hg:Gl X x:=by rfl) (hdb:(x==("__debug__":Str))=false:=by decide) (he:starEach (e::es) X.env=(false,eval e X.env)::starEach es X.env:=by rfl) (hpl:(backTo pos (starEach es X.env)).any (·.1)=false:=by rfl):
 PE X (.Call (.Name x p) (e::es) [] pos) (LE (ay S t)):=NK F hr hg A.mg A.fn.kp A.bd ha hdb he hpl
def DG{M:Model}{A:Around}{E:Value->Shared->Prop}{s:Shared}{Q:Value->Shared->Prop}{x:V}{v:Value}{b:Bool}(r:RelV x v)(h:Q (.bool (v== .bool b)) s):wpAny M A (compareOp .Is v (.bool b)) Q E s:=by
 cases x
 case bl c=>
  cases r;have e:(Value.bool c==Value.bool b)=(c==b):=by cases c<;>cases b<;>rfl
  rw[e]at h;exact is_bool h
 all_goals first
  |(cases r;exact Uw h)
  |(obtain⟨t,rfl⟩:=r;exact Uw h)
def IQ(d:D)(b:Bool):Bool:=match d with| .bl c=>c==b|_=>false
def KS(d:D):Bool:=match d with| .aD=>true|_=>false
def Lu:du:=λ x y st K=>match y with| .aD=>live st x=true/\K (.bl (KS x)) st| .bl b=>live st x=true/\K (.bl (IQ x b)) st|_=>False
def EE{α:List (Option Addr)}{H:Hp}{st:ag}{d:D}{v:V}{u:Value}{b:Bool}(S:aX α st H)(hl:live st d=true)(r:Rep α H d v)(ru:RelV v u):(u==Value.bool b)=IQ d b:=by
 cases d
 case ref n=>
  obtain⟨a,rfl⟩:=xw S hl r;cases ru;rfl
 all_goals unfold Rep at r
 case bl c=>
  subst r;cases ru;cases c<;>cases b<;>rfl
 all_goals first
  |(subst r;first|(cases ru;rfl)|(obtain⟨t,rfl⟩:=ru;rfl))
  |(obtain⟨a,vs,rfl,_⟩:=r;cases ru;rfl)
def RH:ck X (compareOp .Is) (LR Lu):=λ pins s σ H x y v u Q I rx ry ⟨α,d,e,st,K,G,F',P,r1,r2,S,q,k⟩=>by
 cases e<;>try exact q.elim
 . unfold Rep at r2;refine PV pins s σ H x y v u Q I rx ry ⟨r2,k.here P q.2 S ?_⟩;unfold Rep;cases d
   case ref n=>
    obtain⟨a,rfl⟩:=xw S q.1 r1;rfl
   all_goals(unfold Rep at r1;first|(rw[r1];rfl)|(obtain⟨a,vs,rfl,_⟩:=r1;rfl))
 . rename_i b;unfold Rep at r2;subst r2;cases ry;refine DG rx ?_;rw[EE S q.1 r1 rx];exact⟨.bl (IQ d b),H,I,rfl,k.here P q.2 S (by unfold Rep;rfl)⟩
def yv(r r':du)(ta tb tc:DE):DE:=λ σ st K=>ta σ st λ x st1=>tb σ st1 λ y st2=>r x y st2 λ z st3=>match z with
 | .bl b=>if b=true then tc σ st3 λ w st4=>r' y w st4 K else K (.bl false) st3
 |_=>False
def LE.chain{r r':du}{ta tb tc:DE}{σ:L2.St}{H:Hp}{Q:VK}(h:LE (yv r r' ta tb tc) σ H Q):IC (LR r) (LR r') (LE ta) (LE tb) (LE tc) σ H Q:=by
 obtain⟨α,σd,st,K,G,F,P,R,S,t,k⟩:=h;refine⟨α,σd,st,_,G,F,P,R,S,t,λ d st1 q α1 G1 H1 v s1 P1 S1 r1=>?_⟩;refine⟨α1,σd,st1,_,G1,F,P1,R.step s1,S1,q,λ d2 st2 q2 α2 G2 H2 v2 s2 P2 S2 r2=>?_⟩;refine⟨α2,d,d2,st2,_,G2,F,P2,r1.step s2,r2,S2,q2,λ z st3 q3 α3 G3 H3 v3 s3 P3 S3 r3=>?_⟩;cases z<;>try exact q3.elim
 rename_i b;unfold Rep at r3;refine⟨b,r3,?_⟩;cases b with
 |false=>exact((k.at s1).at s2).at s3 _ st3 q3 α3 G3 H3 _ Step.refl P3 S3 (by unfold Rep;rfl)
 |true=>exact⟨α3,σd,st3,_,G3,F,P3,((R.step s1).step s2).step s3,S3,q3,λ d4 st4 q4 α4 G4 H4 v4 s4 P4 S4 r4=>⟨α4,d2,d4,st4,K,G4,F,P4,(r2.step s3).step s4,r4,S4,q4,(((k.at s1).at s2).at s3).at s4⟩⟩
def Nt{a b c:Expr}{ta tb tc:DE}{pos:Pos}{op op':CmpOp}{r r':du}(ho:ck X (compareOp op) (LR r))(ho':ck X (compareOp op') (LR r'))(ha:PE X a (LE ta))(hb:PE X b (LE tb))(hc:PE X c (LE tc))
 (hm:lastMarks [op,op'] [b,c]=false:=by with_unfolding_all rfl):PE X (.Compare a [op,op'] [b,c] pos) (LE (yv r r' ta tb tc)):=PE.imp (JY ho ho' ha hb hc hm) λ _ _ _ h=>LE.chain h
def LE.append{to te:DE}{σ:L2.St}{H:Hp}{Q:VK}(h:LE (se to te) σ H Q):OZ X.K "list" ED (LE to) (LA (af te ao)) σ H Q:=by
 obtain⟨α,σd,st,K,G,F,P,R,S,t,k⟩:=h;refine⟨α,σd,st,_,G,F,P,R,S,t,λ x st1 q α1 G1 H1 v s1 P1 S1 r1=>?_⟩;cases x<;>try exact q.elim
 rename_i n;simp only at q;split at q
 . rename_i ys e;obtain⟨p,ep,vs,h1,h2⟩:=S1.gO e;have r1':=d5 ep r1;subst r1';refine⟨.inl ⟨rfl,vs,.inl (.of (P1.get h1))⟩,α1,σd,st1,λ ds st2=>∃y,ds=[y]/\(match st2[n]? with|some (.lst xs)=>xs.length<sizeLine/\K .aD (st2.set n (.lst (xs++[y])))|_=>False),G1,F,P1,R.step s1,S1,?_,?_⟩
   . refine Eq.mp ?_ q;rfl
   . rintro ds st2 ⟨y,rfl,q2⟩ α2 G2 H2 ws s2 P2 S2 r2;obtain⟨w,rfl,rw'⟩:=jf r2 rfl;split at q2
     . rename_i xs e2;obtain⟨p2,ep2,us,g1,g2⟩:=S2.gO e2
       have:p2=p:=by
        rcases s2.pre _ _ ep with z|z<;>(rw[z]at ep2;cases ep2)
        rfl
       subst this;have hm:some p2∈α2:=UO ep2;refine⟨p2,us,w,rfl,rfl,P2.get g1,by rw[<-g2.length];exact q2.1,?_⟩;refine((k.at s1).at s2) _ _ q2.2 α2 (upd G2 p2 (.lst (us++[w]))) _ .aD (Step.write hm) (P2.write g1) ?_ (by unfold Rep;rfl);exact S2.write ep2 ⟨us++[w],a8,(bJ.mpr (gI (bJ.mp g2) (.cons rw' .nil))).step (Step.write hm)⟩
     . exact q2.elim
 . exact q.elim
def Ky{o e:Expr}{to te:DE}{apos cpos:Pos}(ho:PE X o (LE to))(he:PE X e (LE te))(hbase:attributeBase o "append" X.env (eval o X.env)=eval o X.env:=by rfl)
 (hfew:((backTo cpos (starEach [e] X.env)).all (λ x=> !x.1)&&(backToKw cpos (keywordEach [] X.env)).all (λ x=>x.1.isSome)
   &&decide (([e]:List Expr).length+([]:List Keyword).length+(if([]:List Keyword).isEmpty then 0 else 1)<30))=true:=by rfl)
 (hline:(apos.endLine==cpos.line)=true:=by rfl) (hs:starEach [e] X.env=(false,eval e X.env)::starEach [] X.env:=by rfl) (hplain:(backTo cpos (starEach [] X.env)).any (·.1)=false:=by rfl):PE X (.Call (.Attribute o "append" apos) [e] [] cpos) (LE (se to te)):=
 PE.imp (K9 YD PySem.F.slot_list_append PySem.F.type_list_append Aa ho (vF he yi hs) hbase hfew hline hs hplain) λ _ _ _ h=>LE.append h
end
end L3
namespace L3
open PySem L2
open PySem.Spec hiding items?
open PyProof.Rows hiding St
section
variable {X:Cx}
@[irreducible] def dD:du:=KR
def fw:ck X (binaryOp .Add) (LR dD):=by unfold dD;exact Rj
@[irreducible] def m9:du:=Lq
def rk:ck X (binaryOp .Sub) (LR m9):=by unfold m9;exact QT
@[irreducible] def dh:du:=Lp
def dR:ck X (binaryOp .Mult) (LR dh):=by unfold dh;exact QE
@[irreducible] def vM:du:=GZ
def HC:ck X (binaryOp .FloorDiv) (LR vM):=by unfold vM;exact Qh
@[irreducible] def iC:du:=Lw
def pk:ck X (binaryOp .Mod) (LR iC):=by unfold iC;exact QK
@[irreducible] def Dl:du:=K4
def RP:ck X (binaryOp .Pow) (LR Dl):=by unfold Dl;exact RN
@[irreducible] def oR:du:=OR
def tZ:ck X (compareOp .Lt) (LR oR):=by unfold oR;exact Ti
@[irreducible] def E1:du:=OK
def Ob:ck X (compareOp .LtE) (LR E1):=by unfold E1;exact TF
@[irreducible] def uu:du:=Of
def Ci:ck X (compareOp .Gt) (LR uu):=by unfold uu;exact SN
@[irreducible] def BQ:du:=NQ
def SD:ck X (compareOp .GtE) (LR BQ):=by unfold BQ;exact Tg
@[irreducible] def vb:du:=Pf
def Fe:ck X (compareOp .NotEq) (LR vb):=by unfold vb;exact Tt
@[irreducible] def CI:du:=Lu
def Kk:ck X (compareOp .Is) (LR CI):=by unfold CI;exact RH
@[irreducible] def iW:du:=NY
def jD{k:Nat}(hr:dy k X.A):ck X (compareOp .Eq) (LR iW):=by unfold iW;exact SG hr
@[irreducible] def jJ:Df:=K5
def Ry:El X (unaryOp .USub) (KH jJ):=by unfold jJ;exact Qy
@[irreducible] def aW:du:=tK
def Ts{a b:Expr}{ta tb:DE}{pos:Pos}(ha:PE X a (LE ta))(hb:PE X b (LE tb))(hs:vA b:=by intro _ _;rfl):PE X (.Subscript a b pos) (LE (aw aW ta tb)):=by unfold aW;exact Te ha hb hs
@[irreducible] def dF:gQ:=Bc
def dc:cM X (.builtin "len") (jr dF):=by unfold dF;exact RO
@[irreducible] def sV:gQ:=F7
def yr:cM X (.builtin "abs") (jr sV):=by unfold sV;exact Rb
@[irreducible] def tF:gQ:=Gd
def Bv:cM X (.type "int") (jr tF):=by unfold tF;exact QC
@[irreducible] def dA:gQ:=vK
def dB:cM X (.type "tuple") (jr dA):=by unfold dA;exact MF
@[irreducible] def qH:gQ:=yH
def yG:cM X (.type "list") (jr qH):=by unfold qH;exact Pp
@[irreducible] def sE:gQ:=vB
def EU:cM X (.type "list") (jr sE):=by unfold sE;exact MR
@[irreducible] def nz:gQ:=Bj
def rp(hc:X.calm=true):cM X (.builtin "all") (jr nz):=by unfold nz;exact QM hc
@[irreducible] def uf:gQ:=ym
def Gw:cM X (.builtin "isinstance") (jr uf):=by unfold uf;exact Qr
@[irreducible] def rQ:D->ag->(List D->(ag->Prop)->ag->Prop)->Prop:=zN
def dZ(t:DE):DI:=λ σ st K=>t σ st λ d st1=>rQ d st1 K
def NP{l tg:Expr}{tl:DE}(hl:PE X l (LE tl)):PI X tg l (LI (dZ tl)):=by unfold dZ rQ;exact Oq hl
@[irreducible] def Bp:List D->ag->(List D->(ag->Prop)->ag->Prop)->Prop:=K0
@[irreducible] def Ba:List D->ag->(List D->(ag->Prop)->ag->Prop)->Prop:=LH
def eg(t:DA):DI:=λ σ st K=>t σ st λ ds st1=>Bp ds st1 K
def vN(t:DA):DI:=λ σ st K=>t σ st λ ds st1=>Ba ds st1 K
def IP{tg iter:Expr}{t:DA}(h:PI X tg iter (Fj (LA t))):PI X tg iter (LI (eg t)):=by unfold eg Bp;exact HJ h
def Iz{tg iter:Expr}{t:DA}(h:PI X tg iter (FU (LA t))):PI X tg iter (LI (vN t)):=by unfold vN Ba;exact IE h
@[irreducible] def CN:D->D->D->ag->(ag->Prop)->Prop:=E6
def fy(to ti te:DE):DS:=λ D σ st=>te σ st λ d st1=>to σ st1 λ x st2=>ti σ st2 λ y st3=>CN x y d st3 λ st4=>D.nx σ st4
def CW{st:Stmt}{to ti te:DE}(h:PS X st (oG (LE te) (Cs (LE to) (LE ti) x8))):PS X st (LS (fy to ti te)):=by unfold fy CN;exact Jj h
end
section
variable {st:ag}{K:DK}{i j:Int}{b c:Bool}{xs ys:List D}{d e:D}{n:Nat}
def fz(k:K (.int (i+j)) st):dD (.int i) (.int j) st K:=by unfold dD;exact k
def EO(h:xs.length+ys.length<=sizeLine)(k:K (.tup (xs++ys)) st):dD (.tup xs) (.tup ys) st K:=by unfold dD;exact⟨h,k⟩
def L6(h:xs.length+ys.length<=sizeLine)(k:K (.lst (xs++ys)) st):dD (.lst xs) (.lst ys) st K:=by unfold dD;exact⟨h,k⟩
def qu(k:K (.int (i-j)) st):m9 (.int i) (.int j) st K:=by unfold m9;exact⟨trivial,k⟩
def dH(h:IntMulOk i j)(k:K (.int (i*j)) st):dh (.int i) (.int j) st K:=by unfold dh;exact⟨h,k⟩
def Nv(h: -(2^63)<=i/\i<2^63/\xs.length*i.toNat<=sizeLine)(k:K (.lst (List.replicate i.toNat xs).flatten) st):dh (.lst xs) (.int i) st K:=by unfold dh;exact⟨h,k⟩
def EC(h: -(2^63)<=i/\i<2^63/\xs.length*i.toNat<=sizeLine)(k:K (.tup (List.replicate i.toNat xs).flatten) st):dh (.tup xs) (.int i) st K:=by unfold dh;exact⟨h,k⟩
def EV(h0:j≠0)(h:j.natAbs.log2<9000)(k:K (.int (i.fdiv j)) st):vM (.int i) (.int j) st K:=by unfold vM;exact⟨⟨h0,h⟩,k⟩
def md(h0:j≠0)(k:K (.int (i.fmod j)) st):iC (.int i) (.int j) st K:=by unfold iC;exact⟨h0,k⟩
def PD(h:JU i j)(k:K (.int (i^j.toNat)) st):Dl (.int i) (.int j) st K:=by unfold Dl;exact⟨h,k⟩
def A_(k:K (.bl (decide (i<j))) st):oR (.int i) (.int j) st K:=by unfold oR;exact⟨trivial,k⟩
def KJ(k:K (.bl (decide (i<=j))) st):E1 (.int i) (.int j) st K:=by unfold E1;exact⟨trivial,k⟩
def FJ(k:K (.bl (decide (j<i))) st):uu (.int i) (.int j) st K:=by unfold uu;exact⟨trivial,k⟩
def KI(k:K (.bl (decide (j<=i))) st):BQ (.int i) (.int j) st K:=by unfold BQ;exact⟨trivial,k⟩
def Ll(k:K (.bl (!decide (i=j))) st):vb (.int i) (.int j) st K:=by unfold vb;exact k
def yU(h:live st d=true)(k:K (.bl (KS d)) st):CI d .aD st K:=by unfold CI;exact⟨h,k⟩
def qF(h1:pl 40 d=true)(h2:pl 40 e=true)(k:K (.bl (cZ d e)) st):iW d e st K:=by unfold iW;exact⟨h1,h2,k⟩
def L9(a b:Int):(a==b)=decide (a=b):=by
 by_cases h:a=b
 . subst h;simp
 . simp[h]
def CP(k:K (.bl (decide (i=j))) st):iW (.int i) (.int j) st K:=by
 refine qF rfl rfl ?_;have:cZ (.int i) (.int j)=decide (i=j):=by unfold cZ;exact L9 i j
 rw[this];exact k
def iP(k:K (.int (-i)) st):jJ (.int i) st K:=by unfold jJ;exact k
def IZ(h:items? st d=some xs)(a:d_ xs i=some e)(k:K e st):tK d (.int i) st K:=by
 cases d<;>unfold items? at h<;>first
  |(cases h;done)
  |(cases h;simp only[tK,a];exact k)
  |(simp only at h
    split at h
    . rename_i q;cases h;simp only[tK,q,a];exact k
    . cases h)
def aA(h:items? st d=some xs)(a:d_ xs i=some e)(k:K e st):aW d (.int i) st K:=by unfold aW;exact IZ h a k
def cJ(h:items? st d=some xs)(k:K (.int xs.length) st):dF [d] st K:=by
 unfold dF Bc;split
 . rename_i z;cases z;cases h
 . rename_i z;cases z;rw[h];exact k
 . rename_i z1 z2;exact absurd rfl (z2 d)
def Mn(i:Int):(if i<0 then-i else i)=((i.natAbs:Nat):Int):=by split<;>omega
def u9(k:K (.int ((i.natAbs:Nat):Int)) st):sV [.int i] st K:=by unfold sV;show K (.int (if i<0 then-i else i)) st;rw[Mn];exact k
def sD(k:K (.int (if b then 1 else 0)) st):tF [.bl b] st K:=by unfold tF;exact k
def c8(h:items? st d=some xs)(k:K (.tup xs) st):dA [d] st K:=by unfold dA vK;simp only[h];exact k
def wc(h:items? st d=some xs)(k:K (.lst xs) st):qH [d] st K:=by unfold qH yH;simp only[h];exact k
def Cn(h:items? st d=some xs)(k:K (.ref st.length) (st++[.lst xs])):sE [d] st K:=by unfold sE vB;simp only[h];exact k
def oA{bs:List Bool}(h:gS xs=some bs)(k:K (.bl (bs.all id)) st):nz [.lst xs] st K:=by unfold nz Bj;simp only[h];exact k
def Dv{t c:String}(h:fI st d=some t)(hc:c∈m5)(k:K (.bl (vn t c)) st):uf [d,.ty c] st K:=by unfold uf ym;simp only[h];exact⟨hc,k⟩
def MP{t:String}{cs:List D}{cl:List String}(h:fI st d=some t)(h2:pE cs=some cl)(hc:∀c∈cl,c∈m5)(k:K (.bl (cl.any (vn t))) st):uf [d,.tup cs] st K:=by unfold uf ym;simp only[h,h2];exact⟨hc,k⟩
def jo{K:List D->(ag->Prop)->ag->Prop}(h:items? st d=some xs)(k:∀ok:ag->Prop,ok st->K xs ok st):rQ d st K:=by
 unfold rQ zN
 cases d<;>unfold items? at h<;>first
  |(cases h;done)
  |(cases h;exact k _ trivial)
  |(simp only at h
    split at h
    . rename_i q;cases h;simp only[q];exact k _ q
    . cases h)
def zo{K:List D->(ag->Prop)->ag->Prop}(k:K xs (λ _=>True) st):rQ (.lst xs) st K:=by unfold rQ;exact k
def jx{K:List D->(ag->Prop)->ag->Prop}(k:K xs (λ _=>True) st):rQ (.tup xs) st K:=by unfold rQ;exact k
def ft{K:List D->(ag->Prop)->ag->Prop}(h: -(2^62)<=j/\j<2^62)(k:K (d6 0 j.toNat) (λ _=>True) st):Bp [.int j] st K:=by unfold Bp;exact⟨h,k⟩
def MG{K:List D->(ag->Prop)->ag->Prop}(h: -(2^62)<=i/\i<2^62/\ -(2^62)<=j/\j<2^62)(k:K (d6 i (j-i).toNat) (λ _=>True) st):Ba [.int i,.int j] st K:=by unfold Ba;exact⟨h,k⟩
def iD{K:ag->Prop}{m:Nat}(h:st[n]?=some (.lst xs))(e:jV xs.length i=some m)(k:K (st.set n (.lst (xs.set m d)))):CN (.ref n) (.int i) d st K:=by unfold CN E6;simp only[h,e];exact k
end
def Iw(K:PySem.W.Frag):Bool:=K.all λ p=>p.2.cls != .type "list"
def wD{a:Addr}{o:Obj}:∀ {l:List (Addr×Obj)},l.lookup a=some o->(a,o)∈l
 | [],h=>by cases h
 |(b,u)::r,h=>by
  rw[Ve]at h;split at h
  . rename_i z;cases h;have:a=b:=by simpa using z
    subst this;exact UP
  . exact UG _ (wD h)
def AR{K:PySem.W.Frag}(h:Iw K=true){a:Addr}{o:Obj}(e:K.lookup a=some o):o.cls≠ .type "list":=by
 have:=UW.mp h (a,o) (wD e);simpa using this
def AF{α:List (Option Addr)}{G:Hp}:∀ns:List Int,aS α G (ns.map D.int) (ns.map V.int)
 | []=>by unfold aS;rfl
 |n::ns=>by
  rw[UY,UY];unfold aS;exact⟨_,_,rfl,by unfold Rep;rfl,AF ns⟩
def notStar:Expr->Bool
 | .Starred .. =>false
 |_=>true
def cT{e:Expr}{es:List Expr}{env:Env}(h:notStar e=true):starEach (e::es) env=(false,eval e env)::starEach es env:=by
 cases e<;>first|rfl|cases h
def gJ:List Expr->Bool
 | []=>true
 |e::es=>notStar e&&gJ es
def lG{pos:Pos}{env:Env}:∀ {es:List Expr},gJ es=true->(backTo pos (starEach es env)).any (·.1)=false
 | [],_=>rfl
 |e::es,h=>by
  unfold gJ at h;rw[U0]at h;rw[cT h.1];have ih:=lG (pos:=pos) (env:=env) h.2;unfold backTo at ih⊢;rw[UY,List.any_cons,ih];rfl
def lg:Expr->Bool
 | .Slice .. =>false
 |_=>true
def uX:Expr->Bool
 | .Name .. =>true
 | .Call .. =>true
 | .Subscript .. =>true
 | .Attribute .. =>true
 |_=>false
def m4:Expr->Bool
 | .ListComp .. =>false
 | .SetComp .. =>false
 | .DictComp .. =>false
 |_=>true
section
variable {X:Cx}
def J_{b:Expr}(h:lg b=true):vA b:=by
 intro o i;cases b<;>first|rfl|cases h
def FT{e:Expr}(h:uX e=true):∀whole,isTrue e X.env whole=(do let v <-whole;standAt e.pos;holding [v] (truthy v)):=by
 intro whole;cases e<;>first|(cases h;done)|rfl
def zF{e:Expr}{tg:Option Expr}{n:Nat}{env:Env}(h:m4 e=true):swapsWith e tg n env=pure false:=by
 cases e<;>first|(cases h;done)|rfl
def JL{e:Expr}{es:List Expr}{te:DE}{tr:DA}(ha:PE X e (LE te))(hr:PA X es (LA tr))(hs:notStar e=true:=by rfl):PA X (e::es) (LA (af te tr)):=vF ha hr (cT hs)
def Q8{e:Expr}{es:List Expr}{pos p:Pos}{x:Str}{id:String}{r:gQ}{t:DA}(hc:cM X (.builtin id) (jr r))(ha:PA X (e::es) (LA t))(hm:X.mg x=none)(hv:bootBuiltins x=some (.builtin id))(hn:x≠"__name__")(hdb:(x==("__debug__":Str))=false)(hg:Gl X x:=by rfl)(hs:notStar e=true:=by rfl)(hs2:gJ es=true:=by rfl):
 PE X (.Call (.Name x p) (e::es) [] pos) (LE (bO r t)):=S9 hc ha hm hv hg hn hdb (cT hs) (lG hs2)
def Q2{e:Expr}{es:List Expr}{pos p:Pos}{x:Str}{T:String}{r:gQ}{t:DA}(hc:cM X (.type T) (jr r))(ha:PA X (e::es) (LA t))(hm:X.mg x=none)(hv:bootBuiltins x=some (.type T))(hn:x≠"__name__")(hdb:(x==("__debug__":Str))=false)(hg:Gl X x:=by rfl)(hs:notStar e=true:=by rfl)(hs2:gJ es=true:=by rfl):
 PE X (.Call (.Name x p) (e::es) [] pos) (LE (bO r t)):=Td hc ha hm hv hg hn hdb (cT hs) (lG hs2)
def QY{e:Expr}{es:List Expr}{pos p:Pos}{x qual:Str}{st:Stmt}{ps:List Str}{f:Addr}{fd:FuncData}{k:Nat}{S:cy}{t:DA}(A:bD X.K X.mg x qual st ps f fd)(F:a_ X.prog X.w X.K X.mg X.base cz k f fd ps (cD S))(hr:dy k X.A)
 (ha:PA X (e::es) (LA t)) (hdb:(x==("__debug__":Str))=false) (hg:Gl X x:=by rfl) (hs:notStar e=true:=by rfl) (hs2:gJ es=true:=by rfl):
 PE X (.Call (.Name x p) (e::es) [] pos) (LE (ay S t)):=Tv A F hr ha hg hdb (cT hs) (lG hs2)
def Q3{a b:Expr}{ta tb:DE}{pos:Pos}(ha:PE X a (LE ta))(hb:PE X b (LE tb))(hs:lg b=true:=by rfl):PE X (.Subscript a b pos) (LE (aw aW ta tb)):=Ts ha hb (J_ hs)
def Ml{e:Expr}{te:DE}(he:PE X e (LE te))(h:uX e=true:=by rfl):PT X e (LT (bh te)):=Pk he (FT h)
def Kc{e:Expr}{te:DE}{pos:Pos}(he:PE X e (LE te))(h:m4 e=true:=by rfl):PS X (.Expr e pos) (LS (ji te)):=Mz he (zF h)
def Ng{i:Nat}{x:Str}{e:Expr}{te:TE}{pos pos':Pos}(hN:X.N.Nodup)(hi:X.N[i]?=some x)(hx:Loc X.env.scope x)(he:PE X e te)(hf:X.fn x=true\/X.env.scope.names.lookup x=some .local:=by first|exact .inl rfl|exact .inr rfl)(h:m4 e=true:=by rfl):
 PS X (.Assign [.Name x pos'] e pos) (oG te (nB i)):=GR hN hi hx he (zF h) hf
def Ni{i:Nat}{x:Str}{pos:Pos}(hd:(x==("__debug__":Str))=false)(hcd:(x==("__classdict__":Str))=false)(hv:CO X.env.scope x)(hN:X.N[i]?=some x:=by rfl):PE X (.Name x pos) (LE (ae i)):=Rm (N5 hN hv hd hcd)
def O3{o i e:Expr}{to ti te:TE}{pos pos':Pos}(he:PE X e te)(ho:PE X o to)(hi:PE X i ti)(h1:m4 e=true:=by rfl)(h2:lg i=true:=by rfl):PS X (.Assign [.Subscript o i pos'] e pos) (oG te (Cs to ti x8)):=
 C5 he (GH ho hi set_list (by intro v;cases i<;>first|rfl|cases h2)) (by unfold swapsWithSole;exact zF h1) (by cases e<;>rfl) rfl
end
@[irreducible] def JE(X:Cx)(e:Expr)(t:DE):Prop:=PE X e (LE t)
@[irreducible] def JT(X:Cx)(e:Expr)(t:DT):Prop:=PT X e (LT t)
@[irreducible] def JW(X:Cx)(e:Expr)(t:DT):Prop:=PW X e (LT t)
@[irreducible] def JA(X:Cx)(es:List Expr)(t:DA):Prop:=PA X es (LA t)
@[irreducible] def JS(X:Cx)(s:Stmt)(t:DS):Prop:=PS X s (LS t)
@[irreducible] def JB(X:Cx)(s:List Stmt)(t:DS):Prop:=i5 X s (LS t)
@[irreducible] def JG(X:Cx)(e:Expr)(t:fS):Prop:=PG X e (LG t)
@[irreducible] def JI(X:Cx)(tg e:Expr)(t:DI):Prop:=PI X tg e (LI t)
@[irreducible] def JC(X:Cx)(es:List Expr)(t:DT):Prop:=vk X es (LT t)
section
variable {X:Cx}{a b c e o i:Expr}{es:List Expr}{ta tb tc te to ti:DE}{t u:DT}{ar:DA}{pos p pos':Pos}{s:Stmt}{ss:List Stmt}{T U:DS}
def Hm{n:Nat}{x:Str}(hd:(x==("__debug__":Str))=false)(hcd:(x==("__classdict__":Str))=false)(hv:CO X.env.scope x)(hN:X.N[n]?=some x:=by rfl):JE X (.Name x pos) (ae n):=by unfold JE;exact Ni hd hcd hv hN
def FN{x:Str}{T:String}(hm:X.mg x=none)(hv:bootBuiltins x=some (.type T))(hn:x≠"__name__")(hdb:(x==("__debug__":Str))=false)(hg:Gl X x):JE X (.Name x pos) (dC (.ty T)):=by unfold JE;exact SV hm hv hg hn hdb
def aq{k:Int}{j:Nat}:JE X (.Constant (.int k) j pos) (dC (.int k)):=by unfold JE;exact QA
def iH{k:Bool}{j:Nat}:JE X (.Constant (.bool k) j pos) (dC (.bl k)):=by unfold JE;exact SI
def vW{k:Str}{j:Nat}:JE X (.Constant (.str k) j pos) (dC (.str k)):=by unfold JE;exact Rl
def oU{j:Nat}:JE X (.Constant .none j pos) (dC .aD):=by unfold JE;exact Q9
def bz{op:Operator}{r:du}(ho:ck X (binaryOp op) (LR r))(ha:JE X a ta)(hb:JE X b tb):JE X (.BinOp a op b pos) (aw r ta tb):=by unfold JE at*;exact Th ho ha hb
def kn(ha:JE X a ta):JE X (.UnaryOp .USub a pos) (oS jJ ta):=by unfold JE at*;exact SA Ry ha
def RL(ha:JE X a ta):JE X (.UnaryOp .Not a pos) (FG (bh ta)):=by unfold JE at*;exact Ro ha
def qW{op:BoolOp}(ha:JE X a ta):JE X (.BoolOp op [a] pos) ta:=by unfold JE at*;exact QR ha
def rj(ha:JE X a ta)(hb:JE X (.BoolOp .And (b::es) pos) tb):JE X (.BoolOp .And (a::b::es) pos) (nM ta tb):=by unfold JE at*;exact QW ha hb
def Sw(ha:JE X a ta)(hb:JE X (.BoolOp .Or (b::es) pos) tb):JE X (.BoolOp .Or (a::b::es) pos) (Ko ta tb):=by unfold JE at*;exact S0 ha hb
def jS{op:CmpOp}{r:du}(ho:ck X (compareOp op) (LR r))(hm:behindInMarks op b=false)(ha:JE X a ta)(hb:JE X b tb):JE X (.Compare a [op] [b] pos) (aw r ta tb):=by unfold JE at*;exact Rt ho ha hb hm
def Mi{op op':CmpOp}{r r':du}(ho:ck X (compareOp op) (LR r))(ho':ck X (compareOp op') (LR r'))(ha:JE X a ta)(hb:JE X b tb)(hc:JE X c tc)(hm:lastMarks [op,op'] [b,c]=false:=by with_unfolding_all rfl):JE X (.Compare a [op,op'] [b,c] pos) (yv r r' ta tb tc):=by unfold JE at*;exact Nt ho ho' ha hb hc hm
def Fv(hc:JT X c t)(ha:JE X a ta)(hb:JE X b tb):JE X (.IfExp c a b pos) (Iv t ta tb):=by unfold JE at*;unfold JT at hc;exact QX hc ha hb
def ix{n:Nat}(h:JA X es ar):JE X (.Tuple es n pos) (jC ar):=by unfold JE;unfold JA at h;exact Q_ h
def vZ(h:JA X es ar):JE X (.List es pos) (uD ar):=by unfold JE;unfold JA at h;exact QJ h
def yy(h:JA X es ar):JE X (.List es pos) (xH ar):=by unfold JE;unfold JA at h;exact RI h
def aj:JA X [] ao:=by unfold JA;exact yi
def aa(ha:JE X e te)(hr:JA X es ar)(hs:notStar e=true:=by rfl):JA X (e::es) (af te ar):=by unfold JA at*;unfold JE at ha;exact JL ha hr hs
def aN(ha:JE X a ta)(hb:JE X b tb)(hs:lg b=true:=by rfl):JE X (.Subscript a b pos) (aw aW ta tb):=by unfold JE at*;exact Q3 ha hb hs
def cK{x:Str}{id:String}{r:gQ}(hc:cM X (.builtin id) (jr r))(ha:JA X (e::es) ar)(hm:X.mg x=none)(hv:bootBuiltins x=some (.builtin id))(hn:x≠"__name__")(hdb:(x==("__debug__":Str))=false)(hg:Gl X x)(hs:notStar e=true:=by rfl)(hs2:gJ es=true:=by rfl):JE X (.Call (.Name x p) (e::es) [] pos) (bO r ar):=by
 unfold JE;unfold JA at ha;exact Q8 hc ha hm hv hn hdb hg hs hs2
def eQ{x:Str}{T:String}{r:gQ}(hc:cM X (.type T) (jr r))(ha:JA X (e::es) ar)(hm:X.mg x=none)(hv:bootBuiltins x=some (.type T))(hn:x≠"__name__")(hdb:(x==("__debug__":Str))=false)(hg:Gl X x)(hs:notStar e=true:=by rfl)(hs2:gJ es=true:=by rfl):JE X (.Call (.Name x p) (e::es) [] pos) (bO r ar):=by
 unfold JE;unfold JA at ha;exact Q2 hc ha hm hv hn hdb hg hs hs2
def aM{x qual:Str}{st:Stmt}{ps:List Str}{f:Addr}{fd:FuncData}{k:Nat}{S:cy}(A:bD X.K X.mg x qual st ps f fd)(F:a_ X.prog X.w X.K X.mg X.base cz k f fd ps (cD S))(hr:dy k X.A)(ha:JA X (e::es) ar)(hdb:(x==("__debug__":Str))=false)(hg:Gl X x)(hs:notStar e=true:=by rfl)(hs2:gJ es=true:=by rfl):
 JE X (.Call (.Name x p) (e::es) [] pos) (ay S ar):=by unfold JE;unfold JA at ha;exact QY A F hr ha hdb hg hs hs2
def Kq{apos cpos:Pos}(ho:JE X o to)(he:JE X e te)(hbase:attributeBase o "append" X.env (eval o X.env)=eval o X.env:=by rfl)(hline:(apos.endLine==cpos.line)=true:=by rfl)(hs:notStar e=true:=by rfl):JE X (.Call (.Attribute o "append" apos) [e] [] cpos) (se to te):=by
 unfold JE at*;refine Ky ho he hbase ?_ hline (cT hs) rfl;rw[cT hs];rfl
def cN{op:CmpOp}{r:du}(ho:ck X (compareOp op) (LR r))(hm:behindInMarks op b=false)(ha:JE X a ta)(hb:JE X b tb):JT X (.Compare a [op] [b] pos) (bh (aw r ta tb)):=by unfold JE at*;unfold JT;exact PK ho ha hb hm
def fK(ha:JT X a t):JT X (.UnaryOp .Not a pos) (f7 t):=by unfold JT at*;exact P_ ha
def eO(he:JE X e te)(h:uX e=true:=by rfl):JT X e (bh te):=by unfold JT;unfold JE at he;exact Ml he h
def vO(ha:JT X a t):JW X (.BoolOp .And [a] pos) t:=by unfold JW;unfold JT at ha;exact MD ha
def oz(ha:JT X a t):JW X (.BoolOp .Or [a] pos) t:=by unfold JW;unfold JT at ha;exact Qm ha
def yc(ha:JT X a t)(hb:JW X (.BoolOp .And (b::es) pos) u):JW X (.BoolOp .And (a::b::es) pos) (uc t u):=by unfold JW at*;unfold JT at ha;exact NL ha hb
def nN(ha:JT X a t)(hb:JW X (.BoolOp .Or (b::es) pos) u):JW X (.BoolOp .Or (a::b::es) pos) (mW t u):=by unfold JW at*;unfold JT at ha;exact Q4 ha hb
def k9(h:JW X e t):JT X e t:=by unfold JT;unfold JW at h;exact PW.pt h
def e9{l tg:Expr}(hl:JE X l ta):JI X tg l (dZ ta):=by unfold JI;unfold JE at hl;exact NP hl
def eC{tg:Expr}(hg:Gl X "range")(hm:X.mg "range"=none)(ha:JA X [a] ar)(hs:notStar a=true:=by rfl):JI X tg (.Call (.Name "range" p) [a] [] pos) (eg ar):=by unfold JI;unfold JA at ha;exact IP (Hq hg hm ha (cT hs))
def Je{tg:Expr}(hg:Gl X "range")(hm:X.mg "range"=none)(ha:JA X [a,b] ar)(hs:notStar a=true:=by rfl)(hs2:notStar b=true:=by rfl):JI X tg (.Call (.Name "range" p) [a,b] [] pos) (vN ar):=by unfold JI;unfold JA at ha;exact Iz (GC hg hm ha (by rw[cT hs,cT hs2];rfl) (cT hs2))
def df{k:Nat}{x:Str}(hN:X.N.Nodup)(hx:Loc X.env.scope x:=by first|exact Or.inl rfl|exact Or.inr rfl)(hf:X.fn x=true\/X.env.scope.names.lookup x=some .local:=by first|exact .inl rfl|exact .inr rfl)(hi:X.N[k]?=some x:=by rfl):JG X (.Name x pos) (bI k):=by unfold JG;exact M9 (zB hN hi hx hf)
def jO{k j n:Nat}{x y:Str}{px py:Pos}(hc:X.calm=true)(hN:X.N.Nodup)(hx:Loc X.env.scope x:=by first|exact Or.inl rfl|exact Or.inr rfl)(hf:X.fn x=true\/X.env.scope.names.lookup x=some .local:=by first|exact .inl rfl|exact .inr rfl)(hy:Loc X.env.scope y:=by first|exact Or.inl rfl|exact Or.inr rfl)(hg:X.fn y=true\/X.env.scope.names.lookup y=some .local:=by first|exact .inl rfl|exact .inr rfl)(hi:X.N[k]?=some x:=by rfl)(hj:X.N[j]?=some y:=by rfl):
 JG X (.Tuple [.Name x px,.Name y py] n pos) (f_ k j):=by unfold JG;exact PC (P7 hc (BS (zB hN hi hx hf) (BS (zB hN hj hy hg) LU)))
def bY:JC X [] bV:=by unfold JC;exact JM
def HD(h:JT X c t):JC X [c] t:=by unfold JC;unfold JT at h;exact Pe h
def cV{scope:Scope}{Nc:List Str}{elt tg iter:Expr}{ifs:List Expr}{src:DI}{fr:List (Option Nat)}{dtg:fS}(S:a7 X scope Nc fr)(hi:JI X tg iter src)(hg:∀C s H ex,JG (fN X scope Nc C s H ex) tg dtg)(ht:∀C s H ex,JC (fN X scope Nc C s H ex) ifs t)(he:∀C s H ex,JE (fN X scope Nc C s H ex) elt te)(fit:um fr dtg)
 (hx:X.xe=λ _ _=>False:=by rfl) (hc:X.calm=true:=by rfl) (hs:∀x,foldedSetIterable iter X.env x=pure x:=by intro _;rfl):JE X (.ListComp elt [⟨tg,iter,ifs,0⟩] scope pos) (cY src fr dtg t te):=by
 unfold JE JI JG JC at*;exact Pu S hi hg ht he fit hx hc hs
def v_{scope:Scope}{Nc:List Str}{elt tg iter:Expr}{ifs:List Expr}{src:DI}{fr:List (Option Nat)}{dtg:fS}(S:a7 X scope Nc fr)(hi:JI X tg iter src)(hg:∀C s H ex,JG (fN X scope Nc C s H ex) tg dtg)(ht:∀C s H ex,JC (fN X scope Nc C s H ex) ifs t)(he:∀C s H ex,JE (fN X scope Nc C s H ex) elt te)(fit:um fr dtg)
 (hx:X.xe=λ _ _=>False:=by rfl) (hc:X.calm=true:=by rfl) (hs:∀x,foldedSetIterable iter X.env x=pure x:=by intro _;rfl):JE X (.ListComp elt [⟨tg,iter,ifs,0⟩] scope pos) (kG src fr dtg t te):=by
 unfold JE JI JG JC at*;exact LZ S hi hg ht he fit hx hc hs
def cU:JB X [] de:=by unfold JB;exact MZ
def az(h:JS X s T):JB X [s] T:=by unfold JB;unfold JS at h;exact MI h
def au(h:JS X s T)(h2:JB X ss U):JB X (s::ss) (aJ T U):=by unfold JB at*;unfold JS at h;exact J4 h h2
def aR(h:JE X e te):JS X (.Return (some e) pos) (bc te):=by unfold JS;unfold JE at h;exact NF h
def gM(h:JE X e te)(hc:m4 e=true:=by rfl):JS X (.Expr e pos) (ji te):=by unfold JS;unfold JE at h;exact Kc h hc
def dw{x y:List Stmt}(hc:JT X c t)(ha:JB X x T)(hb:JB X y U):JS X (.If c x y pos) (dz t T U):=by unfold JS;unfold JB at*;unfold JT at hc;exact QU hc ha hb
def w9{x:List Stmt}(hc:JT X c t)(hb:JB X x T)(hx:X.xe=λ _ _=>False:=by rfl):JS X (.While c x [] pos) (va t T):=by unfold JS;unfold JB at hb;unfold JT at hc;exact Kd (JJ (by rw[hx];exact PassesOwn.never) hc hb)
def g6{tg iter:Expr}{x:List Stmt}{src:DI}{dtg:fS}(hi:JI X tg iter src)(hg:JG X tg dtg)(hb:JB X x T)(hx:X.xe=λ _ _=>False:=by rfl)(hc:X.calm=true:=by rfl)(hs:∀x,foldedSetIterable iter X.env x=pure x:=by intro _;rfl):JS X (.For tg iter x [] pos) (jd src dtg T):=by
 unfold JS;unfold JI at hi;unfold JG at hg;unfold JB at hb;exact Pg (Oi (by rw[hx];exact PassesOwn.never) hc hi hg hb hs)
def aV{k:Nat}{x:Str}(hN:X.N.Nodup)(hx:Loc X.env.scope x)(he:JE X e te)(hf:X.fn x=true\/X.env.scope.names.lookup x=some .local:=by first|exact .inl rfl|exact .inr rfl)(h:m4 e=true:=by rfl)(hi:X.N[k]?=some x:=by rfl):JS X (.Assign [.Name x pos'] e pos) (bo k te):=by
 unfold JS;unfold JE at he;exact II (Ng hN hi hx he hf h)
def MY{scope:Scope}{Nc:List Str}{elt tg iter:Expr}{ifs:List Expr}{src:DI}{fr:List (Option Nat)}{dtg:fS}{k:Nat}{x:Str}(hN:X.N.Nodup)(hl:Loc X.env.scope x)(S:a7 X scope Nc fr)(hi:JI X tg iter src)(hg:∀C s H ex,JG (fN X scope Nc C s H ex) tg dtg)(ht:∀C s H ex,JC (fN X scope Nc C s H ex) ifs t)(he:∀C s H ex,JE (fN X scope Nc C s H ex) elt te)(fit:um fr dtg)
 (hf:X.fn x=true\/X.env.scope.names.lookup x=some .local:=by first|exact .inl rfl|exact .inr rfl) (hsw:swapsWith (.ListComp elt [⟨tg,iter,ifs,0⟩] scope p) (some (.Name x pos')) pos.line X.env=pure true:=by rfl) (hni:X.N[k]?=some x:=by rfl) (hx:X.xe=λ _ _=>False:=by rfl) (hc:X.calm=true:=by rfl) (hs:∀x,foldedSetIterable iter X.env x=pure x:=by intro _;rfl):
 JS X (.Assign [.Name x pos'] (.ListComp elt [⟨tg,iter,ifs,0⟩] scope p) pos) (bo k (cY src fr dtg t te)):=by
 unfold JS;unfold JE JI JG JC at*;exact ND fit (EH hx hc S hi hg ht he hN hni hl hf hsw hs)
def CD{scope:Scope}{Nc:List Str}{elt tg iter:Expr}{ifs:List Expr}{src:DI}{fr:List (Option Nat)}{dtg:fS}{k:Nat}{x:Str}(hN:X.N.Nodup)(hl:Loc X.env.scope x)(S:a7 X scope Nc fr)(hi:JI X tg iter src)(hg:∀C s H ex,JG (fN X scope Nc C s H ex) tg dtg)(ht:∀C s H ex,JC (fN X scope Nc C s H ex) ifs t)(he:∀C s H ex,JE (fN X scope Nc C s H ex) elt te)(fit:um fr dtg)
 (hf:X.fn x=true\/X.env.scope.names.lookup x=some .local:=by first|exact .inl rfl|exact .inr rfl) (hsw:swapsWith (.ListComp elt [⟨tg,iter,ifs,0⟩] scope p) (some (.Name x pos')) pos.line X.env=pure true:=by rfl) (hni:X.N[k]?=some x:=by rfl) (hx:X.xe=λ _ _=>False:=by rfl) (hc:X.calm=true:=by rfl) (hs:∀x,foldedSetIterable iter X.env x=pure x:=by intro _;rfl):
 JS X (.Assign [.Name x pos'] (.ListComp elt [⟨tg,iter,ifs,0⟩] scope p) pos) (bo k (kG src fr dtg t te)):=by
 unfold JS;unfold JE JI JG JC at*;exact J6 fit (EH hx hc S hi hg ht he hN hni hl hf hsw hs)
def fB(he:JE X e te)(ho:JE X o to)(hi:JE X i ti)(h1:m4 e=true:=by rfl)(h2:lg i=true:=by rfl):JS X (.Assign [.Subscript o i pos'] e pos) (fy to ti te):=by unfold JS;unfold JE at*;exact CW (O3 he ho hi h1 h2)
def PX{k:Nat}{x:Str}{op:Operator}{f:Int->Int->Int}(hN:X.N.Nodup)(hx:Loc X.env.scope x)(he:JE X e te)(ho:OQ X op (Qf f))(hf:X.fn x=true\/X.env.scope.names.lookup x=some .local:=by first|exact .inl rfl|exact .inr rfl)(hi:X.N[k]?=some x:=by rfl):JS X (.AugAssign (.Name x pos') op e pos) (Fh k (Dp f) te):=by
 unfold JS;unfold JE at he;exact Pz (NW hN hi hx he ho hf)
def BJ{k j kt k2:Nat}{x y:Str}{px py pt pt2:Pos}(hN:X.N.Nodup)(hij:k≠j)(hx:X.env.scope.names.lookup x=some .local)(hy:X.env.scope.names.lookup y=some .local)(ha:JA X [a,b] ar)
 (hw:swappedStores [.Tuple [.Name x px,.Name y py] kt pt] (.Tuple [a,b] k2 pt2) X.env=pure (some [x,y]):=by rfl) (hc:X.calm=true:=by rfl) (hi:X.N[k]?=some x:=by rfl) (hj:X.N[j]?=some y:=by rfl) (hs:swapsWithSole [.Tuple [.Name x px,.Name y py] kt pt] (.Tuple [a,b] k2 pt2) pos.line X.env=pure false:=by rfl):
 JS X (.Assign [.Tuple [.Name x px,.Name y py] kt pt] (.Tuple [a,b] k2 pt2) pos) (Ce k j ar):=by unfold JS;unfold JA at ha;exact Px (Om hc hN hi hj hij hx hy ha hw hs)
def BR{tg:Expr}{dtg:fS}(he:JE X e te)(hg:JG X tg dtg)(hs:swapsWithSole [tg] e pos.line X.env=pure false:=by rfl)(hw:swappedStores [tg] e X.env=pure none:=by rfl)(h1:(assignEach [tg] X.env).map (·.2)=[assign tg X.env]:=by rfl):JS X (.Assign [tg] e pos) (CM dtg te):=by
 unfold JS;unfold JE at he;unfold JG at hg;exact OS (C5 he hg hs hw h1)
end
def bE{P:Program}{w:World}{K:PySem.W.Frag}{mg:Str->Option Value}{base:Heap}{x qual:Str}{st:Stmt}{f:Addr}{fd:FuncData}{N ps:List Str}{k:Nat}{sp:cy}{t:DS}(F:p8 K x qual st f fd)(S:aQ N ps (ai st))
 (hbody:∀(cdv:Value) (A:Around) (outer:List Env) (s:Shared) (H:Hp) (E:XK),dy k (A.deeper (envOfC qual (ai st) s.heap.objs.size f cdv))->JB (sT cz P w K mg base N qual (ai st) f cdv A outer s H E).yf (iI st) t)
 (hsp:∀ds st K,sp ds st K->ds.length=ps.length/\t {nx:=λ _ st'=>K .aD st',rt:=K} (aU N ds) st):a_ P w K mg base cz (k+1) f fd ps (cD sp):=by
 unfold JB at hbody;exact Qz F S hbody hsp
end L3
namespace HT
open PySem PyProof.Rows
section
variable {prog:Program}{w:World}{A:Around}{E:Value->Shared->Prop}{s:Shared}
def uv{t sl:Addr}{items:Array Value}{vl vu:Value}{lo hi:Option Int}{Q:Value->Shared->Prop}(ht:IsTup s.heap t items)(hs:s.heap.IsSliceOf sl vl vu .none)(pl:IsPart vl lo)(pu:IsPart vu hi)
 (hw:cF items.size 0 lo=0/\cF items.size items.size hi=items.size) (h:Q (.ref t) s):wpAny (model prog w) A (getItem (.ref t) (.ref sl)) Q E s:=by
 obtain⟨os,hos,hcs,hds⟩:=id hs;have hTs:s.TypeIs (.ref sl) "slice":=⟨os,hos,hcs⟩
 unfold getItem;try with_reducible refine WG ?_
 first|refine Uj (Uw ?_)|skip
 refine Uj (wpAny_sequenceKey ht.typeIs (by decide) ?_)
 refine Uj (VG (name:=Str.ofString "__getitem__") ht.typeIs Vu
  (We Vu ht.typeIs entry_tuple_getitem ?_ (args_tuple_getitem _ _)))
 show wpAny _ _ (Builtin.Tuple.tupleItemsOf (.ref t) >>= _) _ _ s;refine Uj (tupleItemsOf_ ht ?_);refine Uj (Y4 hTs ?_);rw[Ur (by decide)];refine Uj (p7 hs pl pu ?_)
 have hyes:(((cF items.size 0 lo:Nat):Int)==0&&(1:Int)==1&&(cF items.size items.size hi-cF items.size 0 lo)==items.size)=true:=by
  rw[hw.1,hw.2];simp
 show wpAny _ _ (if(((cF items.size 0 lo:Nat):Int)==0&&(1:Int)==1&&(cF items.size items.size hi-cF items.size 0 lo)==items.size)=true then _ else _) _ _ s;rw[Ur hyes];refine Uj ?_;unfold Builtin.Tuple.tupleIsExact;exact Uj (Y4 ht.typeIs (Uw (Uj (Xw (Uw ⟨_,rfl,Uw h⟩)))))
end
end HT
namespace L3
open PySem L2
open PySem.Spec hiding items?
open PyProof.Rows hiding St
abbrev DO:=cf->ag->(Option Int->ag->Prop)->Prop
def iJ:DO:=λ _ st K=>K none st
def gT(t:DE):DO:=λ σ st K=>t σ st λ d st1=>match d with| .int i=>K (some i) st1|_=>False
def cutD(xs:List D)(lo hi:Option Int):List D:=(xs.drop (HT.cF xs.length 0 lo)).take (HT.cF xs.length xs.length hi-HT.cF xs.length 0 lo)
def CS(d:D)(lo hi:Option Int)(st:ag)(K:DK):Prop:=match d with
 | .lst xs=>K (.lst (cutD xs lo hi)) st
 | .tup xs=>K (.tup (cutD xs lo hi)) st
 | .ref n=>(match st[n]? with|some (.lst xs)=>K (.lst (cutD xs lo hi)) st|_=>False)
 |_=>False
@[irreducible] def kH:D->Option Int->Option Int->ag->DK->Prop:=CS
def hO(t:DE)(lo hi:DO):DE:=λ σ st K=>t σ st λ d st1=>lo σ st1 λ l st2=>hi σ st2 λ u st3=>kH d l u st3 K
def xM{α:List (Option Addr)}{G:Hp}{xs:List D}{vs:List V}{lo hi:Option Int}(r:aS α G xs vs):aS α G (cutD xs lo hi) (uj vs lo hi):=by
 unfold cutD uj;rw[<-r.length];exact bJ.mpr (wV _ (wH _ (bJ.mp r)))
def T_(α:List (Option Addr))(G F:Hp)(K:Option Int->ag->Prop)(Q:Option Int->Hp->Prop):Prop:=∀o st',K o st'->∀α' G' H',Step α G α' G'->cG G' F H'->aX α' st' G'->Q o H'
inductive Se(t:DO)(σ:L2.St)(H:Hp)(Q:Option Int->Hp->Prop):Prop
 |mk (α:List (Option Addr)) (σd:cf) (st:ag) (K:Option Int->ag->Prop) (G F:Hp) (P:cG G F H) (R:eN α G σd σ) (S:aX α st G) (h:t σd st K) (k:T_ α G F K Q):Se t σ H Q
def LO(t:DO):TO:=Se t
section
variable {X:Cx}
def PO.imp{e:Option Expr}{t t':TO}(h:PO X e t)(f:∀σ H Q,t' σ H Q->t σ H Q):PO X e t':=λ pins s σ H Q I q=>h pins s σ H Q I (f σ H Q q)
def Mq:PO X none (LO iJ):=PO.imp L_ λ σ H Q ⟨α,σd,st,K,G,F,P,R,S,t,k⟩=>k none st t α G H Step.refl P S
def M4{e:Expr}{te:DE}(h:PE X e (LE te)):PO X (some e) (LO (gT te)):=PO.imp (Mm h) λ σ H Q ⟨α,σd,st,K,G,F,P,R,S,t,k⟩=>by
 refine⟨α,σd,st,_,G,F,P,R,S,t,λ d st1 q α1 G1 H1 v s1 P1 S1 r1=>?_⟩;cases d<;>try exact q.elim
 unfold Rep at r1;exact⟨_,r1,k _ st1 q α1 G1 H1 s1 P1 S1⟩
def T8(x:V)(lo hi:Option Int)(H:Hp)(Q:VK):Prop:=∃α d st K G F,cG G F H/\Rep α G d x/\aX α st G/\kH d lo hi st K/\LK α G F K Q
def L8:GA X (λ x lo hi H Q=>∃a xs,x= .ref a/\H a=some (.tup xs)/\((HT.cF xs.length 0 lo=0/\HT.cF xs.length xs.length hi=xs.length)->Q (.ref a) H)/\(¬(HT.cF xs.length 0 lo=0/\HT.cF xs.length xs.length hi=xs.length)->∀p,H p=none->Q (.ref p) (upd H p (.tup (uj xs lo hi))))):=by
 intro pins s σ H x v vl vu lo hi sl Q I rx hs pl pu h;obtain⟨a,xs,rfl,hx,q1,q2⟩:=h;by_cases hw:HT.cF xs.length 0 lo=0/\HT.cF xs.length xs.length hi=xs.length
 . cases rx;obtain⟨av,r,ht,hz⟩:=I.tuple (j7.of hx);have hlen:av.toArray.size=xs.length:=by rw[Ut];exact r.length.symm
   exact⟨"tuple",_,Vu.lookup,ht.typeIs,HT.uv ht hs pl pu (by rw[hlen];exact hw) ⟨.ref a,H,I,rfl,q1 hw⟩⟩
 . exact PM pins s σ H _ v vl vu lo hi sl Q I rx hs pl pu ⟨a,xs,rfl,.of hx,hw,q2 hw⟩
def IA{xs:List D}{lo hi:Option Int}(hw:HT.cF xs.length 0 lo=0/\HT.cF xs.length xs.length hi=xs.length):cutD xs lo hi=xs:=by
 unfold cutD;rw[hw.1,hw.2];simp
def Ou:GA X T8:=by
 intro pins s σ H x v vl vu lo hi sl Q I rx hs pl pu ⟨α,d,st,K,G,F',P,r1,S,q,k⟩;unfold kH CS at q;cases d<;>try exact q.elim
 . rename_i n;simp only at q;split at q
   . rename_i xs e;obtain⟨a,ea,vs,h1,h2⟩:=S.gO e;have r1':=d5 ea r1;subst r1';exact EI pins s σ H _ v vl vu lo hi sl Q I rx hs pl pu ⟨a,vs,rfl,.inl (.of (P.get h1)),λ p hp=>k.lst P q S (xM h2) hp⟩
   . exact q.elim
 . unfold Rep at r1;obtain⟨a,vs,rfl,na,ha,ra⟩:=r1;exact EI pins s σ H _ v vl vu lo hi sl Q I rx hs pl pu ⟨a,vs,rfl,.inl (iy P ha),λ p hp=>k.lst P q S (xM ra) hp⟩
 . rename_i xs;have r0:=r1;unfold Rep at r1;obtain⟨a,vs,rfl,na,ha,ra⟩:=r1;refine L8 pins s σ H _ v vl vu lo hi sl Q I rx hs pl pu ⟨a,vs,rfl,P.get ha,λ hw=>?_,λ _ p hp=>k.tup P q S (xM ra) hp⟩;rw[<-ra.length]at hw;simp only at q;rw[IA hw]at q;exact k.here P q S r0
def M5{e:Expr}{lo hi:Option Expr}{te:DE}{tl th:DO}{p2 pos:Pos}(he:PE X e (LE te))(hl:PO X lo (LO tl))(hh:PO X hi (LO th)):PE X (.Subscript e (.Slice lo hi none p2) pos) (LE (hO te tl th)):=PE.imp (Ke Ou he hl hh) λ σ H Q ⟨α,σd,st,K,G,F,P,R,S,t,k⟩=>by
 refine⟨α,σd,st,_,G,F,P,R,S,t,λ d st1 q α1 G1 H1 v s1 P1 S1 r1=>?_⟩;refine⟨α1,σd,st1,_,G1,F,P1,R.step s1,S1,q,λ l st2 q2 α2 G2 H2 s2 P2 S2=>?_⟩;refine⟨α2,σd,st2,_,G2,F,P2,(R.step s1).step s2,S2,q2,λ u st3 q3 α3 G3 H3 s3 P3 S3=>?_⟩;exact⟨α3,d,st3,K,G3,F,P3,(r1.step s2).step s3,S3,q3,((k.at s1).at s2).at s3⟩
@[irreducible] def JO(X:Cx)(e:Option Expr)(t:DO):Prop:=PO X e (LO t)
def kB:JO X none iJ:=by unfold JO;exact Mq
def fE{e:Expr}{te:DE}(h:JE X e te):JO X (some e) (gT te):=by unfold JO;unfold JE at h;exact M4 h
def gK{e:Expr}{lo hi:Option Expr}{te:DE}{tl th:DO}{p2 pos:Pos}(he:JE X e te)(hl:JO X lo tl)(hh:JO X hi th):JE X (.Subscript e (.Slice lo hi none p2) pos) (hO te tl th):=by unfold JE at*;unfold JO at*;exact M5 he hl hh
end
def Ax{st:ag}{K:DK}{xs:List D}{lo hi:Option Int}(k:K (.lst (cutD xs lo hi)) st):kH (.lst xs) lo hi st K:=by unfold kH;exact k
def gf{st:ag}{K:DK}{xs:List D}{lo hi:Option Int}(k:K (.tup (cutD xs lo hi)) st):kH (.tup xs) lo hi st K:=by unfold kH;exact k
def z8{st:ag}{K:DK}{xs:List D}{lo hi:Option Int}{n:Nat}(h:st[n]?=some (.lst xs))(k:K (.lst (cutD xs lo hi)) st):kH (.ref n) lo hi st K:=by unfold kH CS;simp only[h];exact k
section
variable {prog:Program}{w:World}{A:Around}{E:Value->Shared->Prop}{s:Shared}
def FH{iT tp:Addr}{n:Nat}{av:Array Value}{v:Value}{Q:Value->Shared->Prop}(hI:s.heap.IsTupleIter iT tp n)(hT:s.heap.IsTuple tp av)(hv:av[n]?=some v)
 (q:∀g,g.IsTupleIter iT tp (n+1)->Heap.SameBut iT s.heap g->Q v {s with heap:=g}):wpAny (model prog w) A (Builtin.SmallTypes.nextOf (.ref iT)) Q E s:=by
 obtain⟨oI,eI,cI,dI⟩:=id hI;obtain⟨oT,eT,_,nT,dT⟩:=hT;unfold Builtin.SmallTypes.nextOf;refine Uj (VG (name:=Str.ofString "__next__") hI.typeIs Wr (We Wr hI.typeIs XY ?_ (XQ _)));show wpAny _ _ (field (.ref iT) 0 >>= _) _ _ s;refine Uj (Vy eI dI (x:= .ref tp) rfl ?_);show wpAny _ _ (if(Value.ref tp==Value.none)=true then _ else _) _ _ s;rw[Up (show¬((Value.ref tp==Value.none)=true)from Vr)];show wpAny _ _ (field (.ref iT) 1 >>= _) _ _ s;refine Uj (Vy eI dI (x:= .int n 0) rfl ?_);show wpAny _ _ (seqItems? (.ref tp) >>= _) _ _ s;refine Uj (Wi eT dT ?_);simp only[UJ,hv];refine Uj (wpAny_setField eI dI (by simp) (Uw ⟨v,rfl,Uw (q _ ?_ (VY ..))⟩));refine⟨_,Heap.get?_update_self _ eI (Obj.isFreed_of_fields (Obj.data_mapFields dI _)),(Obj.cls_mapFields ..).trans cI,?_⟩;rw[Obj.data_mapFields dI];simp[rawInt]
def HZ{iT tp:Addr}{n:Nat}{av:Array Value}{Q:Value->Shared->Prop}(hh:A.handled=none)(hI:s.heap.IsTupleIter iT tp n)(hT:s.heap.IsTuple tp av)(hv:av[n]?=none)
 (q:∀g e,Heap.ExtBut iT s.heap g->(∃o,g.get? e=some o/\o.cls= .type "StopIteration")->E (.ref e) {s with heap:=g}):wpAny (model prog w) A (Builtin.SmallTypes.nextOf (.ref iT)) Q E s:=by
 obtain⟨oI,eI,cI,dI⟩:=id hI;obtain⟨oT,eT,_,nT,dT⟩:=hT;unfold Builtin.SmallTypes.nextOf;refine Uj (VG (name:=Str.ofString "__next__") hI.typeIs Wr (We Wr hI.typeIs XY ?_ (XQ _)));show wpAny _ _ (field (.ref iT) 0 >>= _) _ _ s;refine Uj (Vy eI dI (x:= .ref tp) rfl ?_);show wpAny _ _ (if(Value.ref tp==Value.none)=true then _ else _) _ _ s;rw[Up (show¬((Value.ref tp==Value.none)=true)from Vr)];show wpAny _ _ (field (.ref iT) 1 >>= _) _ _ s;refine Uj (Vy eI dI (x:= .int n 0) rfl ?_);show wpAny _ _ (seqItems? (.ref tp) >>= _) _ _ s;refine Uj (Wi eT dT ?_);simp only[UJ,hv];refine Uj (Xw (Uj (wpAny_setField eI dI (by simp) ?_)));show wpAny _ _ (newExc (.type "StopIteration") [] >>= _) _ _ _;refine Uj ?_;simp only[newExc,newTuple];refine Uj (Wa ?_ (by size_fits));refine Uj (m:=firstArgMember _ _) (wpAny_of_eq (a:=Value.none) (by first|rfl|(simp only[firstArgMember];rfl)) ?_);refine Wa ?_ (by size_fits);simp only[raiseNew];refine Uj (wpAny_handled ?_);first|rw[show A.in1.handled=none from hh]|rw[hh]
 refine Uj (Uw (wpAny_throw ?_));exact q _ _ (((VY ..).extBut.push _).push _) ⟨_,UN _ rfl,rfl⟩
end
section
variable {st:ag}{K:DK}{i j:Int}{b c:Bool}{xs ys:List D}{d e:D}{n:Nat}
def eqT(h:i=j)(k:K (.bl true) st):iW (.int i) (.int j) st K:=CP (by rw[U9 h];exact k)
def Sq(h:i≠j)(k:K (.bl false) st):iW (.int i) (.int j) st K:=CP (by rw[UQ h];exact k)
def eq2(h1:i=j->K (.bl true) st)(h2:i≠j->K (.bl false) st):iW (.int i) (.int j) st K:=by
 by_cases h:i=j
 . exact eqT h (h1 h)
 . exact Sq h (h2 h)
def neT(h:i≠j)(k:K (.bl true) st):vb (.int i) (.int j) st K:=Ll (by rw[UQ h];exact k)
def TR(h:i=j)(k:K (.bl false) st):vb (.int i) (.int j) st K:=Ll (by rw[U9 h];exact k)
def ne2(h1:i≠j->K (.bl true) st)(h2:i=j->K (.bl false) st):vb (.int i) (.int j) st K:=by
 by_cases h:i=j
 . exact TR h (h2 h)
 . exact neT h (h1 h)
def TZ(h:i<j)(k:K (.bl true) st):oR (.int i) (.int j) st K:=A_ (by rw[U9 h];exact k)
def TY(h:j<=i)(k:K (.bl false) st):oR (.int i) (.int j) st K:=A_ (by rw[UQ (by omega)];exact k)
def zY(h1:i<j->K (.bl true) st)(h2:j<=i->K (.bl false) st):oR (.int i) (.int j) st K:=by
 by_cases h:i<j
 . exact TZ h (h1 h)
 . exact TY (by omega) (h2 (by omega))
def RY(h:j<i)(k:K (.bl true) st):uu (.int i) (.int j) st K:=FJ (by rw[U9 h];exact k)
def T6(h:i<=j)(k:K (.bl false) st):uu (.int i) (.int j) st K:=FJ (by rw[UQ (by omega)];exact k)
def Oy(h1:j<i->K (.bl true) st)(h2:i<=j->K (.bl false) st):uu (.int i) (.int j) st K:=by
 by_cases h:j<i
 . exact RY h (h1 h)
 . exact T6 (by omega) (h2 (by omega))
def TV(h:j<=i)(k:K (.bl true) st):BQ (.int i) (.int j) st K:=KI (by rw[U9 h];exact k)
def TX(h:i<j)(k:K (.bl false) st):BQ (.int i) (.int j) st K:=KI (by rw[UQ (by omega)];exact k)
def OE{P:Prop}(h:xs.length<=1000)(k:P):xs.length<=sizeLine/\P:=⟨by rw[V5];omega,k⟩
def bL{m:Nat}(h:m<=1000):m<=sizeLine:=by rw[V5];omega
def zh(h0:0<=i)(e:xs[i.toNat]?=some d):d_ xs i=some d:=by
 have:=iS e;rw[Int.toNat_of_nonneg h0]at this;exact this
def Pa{m:Nat}(h0:0<=i)(h:i.toNat<m):jV m i=some i.toNat:=by
 unfold jV;have:i<(m:Int):=by omega
 simp[h0,this]
end
def iF{tg:fS}{body:DS}{ok:ag->Prop}{E:kq}(I:List D->cf->ag->Prop)(hend:∀σ st,I [] σ st->ok st/\E.nx σ st)
 (hstep:∀x xs σ st,I (x::xs) σ st->(∀σ' st',I xs σ' st'->j_ tg body ok E xs σ' st')->ok st/\∃σ1,tg x σ=some σ1/\body {E with nx:=j_ tg body ok E xs,ct:=j_ tg body ok E xs,bk:=E.nx} σ1 st):
 ∀xs σ st,I xs σ st->j_ tg body ok E xs σ st
 | [],σ,st,h=>by unfold j_;exact hend σ st h
 |x::xs,σ,st,h=>by unfold j_;exact hstep x xs σ st h λ σ' st' h'=>iF I hend hstep xs σ' st' h'
def ib{tg:fS}{c:DT}{te:DE}{ok:ag->Prop}{σc:cf}{K:List D->ag->Prop}(I:List D->List D->ag->Prop)(hend:∀acc st,I [] acc st->ok st/\K acc st)
 (hstep:∀x xs acc st,I (x::xs) acc st->(∀acc' st',I xs acc' st'->dv tg c te ok σc xs acc' st' K)->ok st/\∃σ2,tg x σc=some σ2/\c σ2 st λ b st1=>if b=true then te σ2 st1 λ y st2=>dv tg c te ok σc xs (acc++[y]) st2 K else dv tg c te ok σc xs acc st1 K):
 ∀xs acc st,I xs acc st->dv tg c te ok σc xs acc st K
 | [],acc,st,h=>by unfold dv;exact hend acc st h
 |x::xs,acc,st,h=>by unfold dv;exact hstep x xs acc st h λ acc' st' h'=>ib I hend hstep xs acc' st' h'
def comp_map{tg:fS}{te:DE}{ok:ag->Prop}{σc:cf}{st:ag}{K:List D->ag->Prop}{g:D->D}(aO:ok st)(xs:List D)(hx:∀x∈xs,∀K',K' (g x) st->∃σ2,tg x σc=some σ2/\te σ2 st K')(k:K (xs.map g) st):dv tg bV te ok σc xs [] st K:=by
 refine ib (λ r acc st'=>st'=st/\(∀x∈r,x∈xs)/\acc++r.map g=xs.map g) (λ acc st' h=>?_) (λ x r acc st' h next=>?_) xs [] st ⟨rfl,λ _ h=>h,rfl⟩
 . obtain⟨rfl,_,e⟩:=h;rw[List.map_nil,VW]at e;rw[e];exact⟨aO,k⟩
 . obtain⟨rfl,hm,e⟩:=h;obtain⟨σ2,e2,q⟩:=hx x (hm x UP) (λ y st2=>dv tg bV te ok σc r (acc++[y]) st2 K) (next _ _ ⟨rfl,λ z hz=>hm z (UG _ hz),by rw[<-e];simp⟩);exact⟨aO,σ2,e2,q⟩
def iQ{A B:DS}{E:kq}{σ:cf}{st:ag}(J:cf->ag->Prop)(h:∀nx,(∀σ' st',J σ' st'->nx σ' st')->A {E with nx:=nx} σ st)(k:∀σ' st',J σ' st'->B E σ' st'):aJ A B E σ st:=h (B E) k
def N7(n:Nat)(K:DK)(y:D)(st2:ag):Prop:=∃y',[y]=[y']/\(match st2[n]? with|some (.lst xs)=>xs.length<sizeLine/\K .aD (st2.set n (.lst (xs++[y'])))|_=>False)
def nt{n:Nat}{K:DK}{y:D}{st:ag}{xs:List D}(e:st[n]?=some (.lst xs))(h:xs.length<sizeLine)(k:K .aD (st.set n (.lst (xs++[y])))):N7 n K y st:=by
 refine⟨y,rfl,?_⟩;simp only[e];exact⟨h,k⟩
@[irreducible] def iY(to te:DE):DE:=se to te
def ql{σ:cf}{st:ag}{K:DK}{i n:Nat}{xs:List D}{te:DE}(ei:σ[i]?=some (some (.ref n)))(e:st[n]?=some (.lst xs))(h:te σ st (N7 n K)):iY (ae i) te σ st K:=by
 unfold iY se ae;simp only[ei,e];exact h
def jZ{X:Cx}{o e:Expr}{to te:DE}{apos cpos:Pos}(ho:JE X o to)(he:JE X e te)(hbase:attributeBase o "append" X.env (eval o X.env)=eval o X.env:=by rfl)(hline:(apos.endLine==cpos.line)=true:=by rfl)(hs:notStar e=true:=by rfl):JE X (.Call (.Attribute o "append" apos) [e] [] cpos) (iY to te):=by
 unfold iY;exact Kq ho he hbase hline hs
@[irreducible] def vG(i:Nat)(t:DS):DS:=λ D σ st=>match σ[i]? with
 |some (some (.ref n))=>(match st[n]? with|some (.lst xs)=>t D (σ.set i (some (.lst xs))) (st.set n .dead)|_=>False)
 |_=>False
section
variable {X:Cx}
def Qi{s:Stmt}{i:Nat}{t:DS}(h:PS X s (LS t)):PS X s (LS (vG i t)):=PS.imp h λ D σ H ⟨α,σd,st,DD,G,F,P,R,S,q,k⟩=>by
 unfold vG at q;split at q
 . rename_i n e;split at q
   . rename_i xs e2;have hn:n<st.length:=(Ui.mp e2).1;obtain⟨v,ev,rv⟩:=R.at' i _ e;have R2:eN (α.set n none) G (σd.set i (some (.lst xs))) (σ.set i (some v)):=(R.step Step.fe).set i (S.zR e2 rv)
     have es:σ.set i (some v)=σ:=by
      refine List.ext_getElem? λ j=>?_;by_cases hj:i=j
      . subst hj;rw[Uq (Ui.mp ev).1,ev]
      . rw[Ul hj]
     rw[es]at R2;exact⟨α.set n none,_,_,DD,G,F,P,R2,S.fe hn,q,k.at Step.fe⟩
   . exact q.elim
 . exact q.elim
def Ov{s:Stmt}{i:Nat}{t:DS}(h:JS X s t):JS X s (vG i t):=by unfold JS at*;exact Qi h
end
def Qd{σ:cf}{st:ag}{E:kq}{i n:Nat}{t:DS}{xs:List L3.D}(e:σ[i]?=some (some (.ref n)))(e2:st[n]?=some (.lst xs))(k:t E (σ.set i (some (.lst xs))) (st.set n .dead)):vG i t E σ st:=by
 unfold vG;simp only[e,e2];exact k
structure Src(P:Program)(w:World)(t a:Addr)(J:Nat->Heap->Prop)(us:Array Value):Prop where
 fr:∀n g k,J n g->(∀b,b=t\/b=a->∀o,g.get? b=some o->k.get? b=some o)->J n k
 lv:∀n g,J n g->(∃o,g.get? t=some o)/\∃o,g.get? a=some o
 nx:∀n (A:Around) (s:Shared) (Q:Value->Shared->Prop) (E:Value->Shared->Prop) v,J n s.heap->us[n]?=some v->(∀k,J (n+1) k->Heap.SameBut t s.heap k->Q v {s with heap:=k})->wpAny (model P w) A (Builtin.SmallTypes.nextOf (.ref t)) Q E s
 en:∀n (A:Around) (s:Shared) (Q:Value->Shared->Prop) (E:Value->Shared->Prop),A.handled=none->J n s.heap->us[n]?=none->(∀k e,Heap.ExtBut t s.heap k->(∃o,k.get? e=some o/\o.cls= .type "StopIteration")->E (.ref e) {s with heap:=k})->wpAny (model P w) A (Builtin.SmallTypes.nextOf (.ref t)) Q E s
section
variable {P:Program}{w:World}
def src_list(t a:Addr)(hne:a≠t)(us:Array Value):Src P w t a (λ n g=>g.IsListIter t a n/\g.IsList a us) us where
 fr:=λ n g k j kp=>⟨j.1.at λ o e=>kp t (.inl rfl) o e,j.2.at λ o e=>kp a (.inr rfl) o e⟩
 lv:=λ n g j=>⟨let⟨o,e,_⟩:=j.1;⟨o,e⟩,let⟨o,e,_⟩:=j.2;⟨o,e⟩⟩
 nx:=λ n A s Q E v j hv q=>wpAny_nextOf_list_item j.1 j.2 hv λ k jk sb=>q k ⟨jk,j.2.extBut sb.extBut hne⟩ sb
 en:=λ n A s Q E hh j hv q=>wpAny_nextOf_list_end hh j.1 j.2 hv q
def Ma(t a:Addr)(hne:a≠t)(us:Array Value):Src P w t a (λ n g=>g.IsTupleIter t a n/\g.IsTuple a us) us where
 fr:=λ n g k j kp=>by
  obtain⟨⟨o,e,r⟩,⟨o2,e2,r2⟩⟩:=j;exact⟨⟨o,kp t (.inl rfl) o e,r⟩,⟨o2,kp a (.inr rfl) o2 e2,r2⟩⟩
 lv:=λ n g j=>⟨let⟨o,e,_⟩:=j.1;⟨o,e⟩,let⟨o,e,_⟩:=j.2;⟨o,e⟩⟩
 nx:=λ n A s Q E v j hv q=>FH j.1 j.2 hv λ k jk sb=>q k ⟨jk,j.2.extBut sb.extBut hne⟩ sb
 en:=λ n A s Q E hh j hv q=>HZ hh j.1 j.2 hv q
def Src.ext{t a c:Addr}{J:Nat->Heap->Prop}{us:Array Value}(S:Src P w t a J us){n:Nat}{g k:Heap}(j:J n g)(x:Heap.ExtBut c g k)(h1:c≠t)(h2:c≠a):J n k:=
 S.fr n g k j λ b hb o e=>x b o (by rcases hb with rfl|rfl;exact Uy h1;exact Uy h2) e
structure Ep(z ti to t1 t2 a1 a2:Addr):Prop where
 nd: [z,ti,to,t1,t2].Nodup
 a1:a1∉[z,ti,to,t1,t2]
 a2:a2∉[z,ti,to,t1,t2]
section
variable {z ti to t1 t2 a1 a2:Addr}
def Ep.n(D:Ep z ti to t1 t2 a1 a2):(ti≠z/\to≠z/\t1≠z/\t2≠z)/\(ti≠to/\ti≠t1/\ti≠t2)/\(to≠t1/\to≠t2)/\t1≠t2:=by
 have:=D.nd;simp only[V7,UK,W7,UU,Vt,WQ,List.nodup_nil]at this;obtain⟨⟨b1,b2,b3,b4⟩,⟨b5,b6,b7⟩,⟨b8,b9⟩,b10⟩:=this;exact⟨⟨Uy b1,Uy b2,Uy b3,Uy b4⟩,⟨b5,b6,b7⟩,⟨b8,b9⟩,b10⟩
def G_{A:Around}{s:Shared}{E:Value->Shared->Prop}{J1 J2:Nat->Heap->Prop}{us vs:Array Value}{n:Nat}{x y a b:Value}{Q:Value->Shared->Prop}(D:Ep z ti to t1 t2 a1 a2)(S1:Src P w t1 a1 J1 us)(S2:Src P w t2 a2 J2 vs)
 (Z:IsZip s.heap z ti to .none) (pI:IsPair s.heap ti (.ref t1) (.ref t2)) (pO:IsPair s.heap to a b) (j1:J1 n s.heap) (j2:J2 n s.heap) (ex:us[n]?=some x) (ey:vs[n]?=some y)
 (q:∀k,IsZip k z ti to (rawInt s.heap.objs.size)->IsPair k to x y->J1 (n+1) k->J2 (n+1) k->IsPair k s.heap.objs.size x y->k.objs.size=s.heap.objs.size+1->
   (∀c o,c≠z->c≠to->c≠t1->c≠t2->s.heap.get? c=some o->k.get? c=some o)->Q (.ref s.heap.objs.size) {s with heap:=k}):
 wpAny (model P w) A (Builtin.«zip.__next__» ⟨[.ref z],[]⟩) (λ fin s'=>∃v,fin= .done (.ret v)/\Q v s') E s:=by
 obtain⟨⟨n1,n2,n3,n4⟩,⟨n5,n6,n7⟩,⟨n8,n9⟩,n10⟩:=D.n;have m1:=D.a1;have m2:=D.a2;simp only[UK,W7,UU,Vt,WQ]at m1 m2;show wpAny _ _ (field (.ref z) 2 >>= _) _ _ _;refine Uj (Vy Z rfl (x:= .bool false) rfl ?_);show wpAny _ _ (field (.ref z) 3 >>= _) _ _ _;refine Uj (Vy Z rfl (x:= .ref ti) rfl ?_);refine Uj (Wi pI rfl ?_);show wpAny _ _ (Builtin.SmallTypes.ownedTupleIsFree (.ref z) >>= _) _ _ _;refine Uj ?_;unfold Builtin.SmallTypes.ownedTupleIsFree;refine Uj (Vy Z rfl (x:= .none) rfl (Uw ?_));simp only[WW];refine Uj (Xw ?_);refine Uj (Vy Z rfl (x:= .ref to) rfl ?_);refine Uj (Wm Z (by simp) λ k1 Z1 b1=>?_);replace Z1:IsZip k1 z ti to .ellipsis:=Z1;refine Uj ?_;simp only[List.zipIdx_cons,List.zipIdx_nil,YE,YT];refine Uj (Uj (Yc ?_));show wpAny _ _ (Builtin.SmallTypes.nextOf (.ref t1) >>= _) _ _ _;refine Uj (S1.nx n _ _ _ _ x (S1.ext j1 b1.extBut (Uy n3) (Uy m1.1)) ex λ k2 j1b b2=>Uw ?_);have pO2:IsPair k2 to a b:=b2.extBut _ _ n8 (b1.extBut _ _ n2 pO);refine Uj (Wi pO2 rfl ?_);refine Uj (XC pO2 λ k3 pO3 b3=>?_);replace pO3:IsPair k3 to x b:=pO3;refine Uj (YM (Uw ?_));refine Uj (Uj (Yc ?_));show wpAny _ _ (Builtin.SmallTypes.nextOf (.ref t2) >>= _) _ _ _;have j2c:J2 n k3:=S2.ext (S2.ext (S2.ext j2 b1.extBut (Uy n4) (Uy m2.1)) b2.extBut n10 (Uy m2.2.2.2.1)) b3.extBut n9 (Uy m2.2.2.1);refine Uj (S2.nx n _ _ _ _ y j2c ey λ k4 j2d b4=>Uw ?_);have pO4:IsPair k4 to x b:=b4.extBut _ _ n9 pO3;refine Uj (Wi pO4 rfl ?_);refine Uj (XC pO4 λ k5 pO5 b5=>?_);replace pO5:IsPair k5 to x y:=pO5;refine Uj (YM (Uw (Uw ?_)));refine Uj (Wi pO5 rfl ?_);refine Uj (wpAny_newTuple ?_);have sz:k5.objs.size=s.heap.objs.size:=by rw[b5.1,b4.1,b3.1,b2.1,b1.1]
 have Z5:IsZip k5 z ti to .ellipsis:=b5.extBut _ _ (Uy n2) (b4.extBut _ _ (Uy n4) (b3.extBut _ _ (Uy n2) (b2.extBut _ _ (Uy n3) Z1)));have kp5:∀c o,c≠z->c≠to->c≠t1->c≠t2->s.heap.get? c=some o->k5.get? c=some o:=λ c o c1 c2 c3 c4 e=>b5.extBut _ _ c2 (b4.extBut _ _ c4 (b3.extBut _ _ c2 (b2.extBut _ _ c3 (b1.extBut _ _ c1 e))));have j1e:J1 (n+1) k5:=S1.ext (S1.ext (S1.ext j1b b3.extBut n8 (Uy m1.2.2.1)) b4.extBut (Uy n10) (Uy m1.2.2.2.2)) b5.extBut n8 (Uy m1.2.2.1);have j2e:J2 (n+1) k5:=S2.ext j2d b5.extBut n9 (Uy m2.2.2.1);have ltz:z<k5.objs.size:=UA Z5;show wpAny _ _ (Builtin.SmallTypes.ownedTupleHandOut (.ref z) (.ref k5.objs.size) >>= _) _ _ _;refine Uj ?_;unfold Builtin.SmallTypes.ownedTupleHandOut;have Z6:IsZip (k5.push {cls:= .type "tuple",data:= .seq #[x,y]}) z ti to .ellipsis:=Uo _ Z5;refine Uj (Wm Z6 (by simp) λ k7 Z7 b7=>?_);replace Z7:IsZip k7 z ti to (rawInt k5.objs.size):=Z7;refine Wm Z7 (by simp) λ k8 Z8 b8=>?_;replace Z8:IsZip k8 z ti to (rawInt k5.objs.size):=Z8;have up:∀c o,c≠z->k5.get? c=some o->k8.get? c=some o:=λ c o c1 e=>b8.extBut _ _ c1 (b7.extBut _ _ c1 (Uo _ e));have pT:IsPair k8 k5.objs.size x y:=b8.extBut _ _ (Wy ltz) (b7.extBut _ _ (Wy ltz) (UN _ rfl));have sz8:k8.objs.size=k5.objs.size+1:=by rw[b8.1,b7.1,VC]
 rw[sz]at Z8 pT sz8;refine Uw ⟨_,rfl,?_⟩;show Q (.ref k5.objs.size) _;rw[sz];refine q k8 Z8 (up _ _ n2 pO5) (S1.fr _ _ _ j1e λ b hb o e=>up b o ?_ e) (S2.fr _ _ _ j2e λ b hb o e=>up b o ?_ e) pT sz8 λ c o c1 c2 c3 c4 e=>up c o c1 (kp5 c o c1 c2 c3 c4 e)
 . rcases hb with rfl|rfl
   . exact n3
   . exact m1.1
 . rcases hb with rfl|rfl
   . exact n4
   . exact m2.1
def Jb{A:Around}{s:Shared}{E:Value->Shared->Prop}{J1 J2:Nat->Heap->Prop}{us vs:Array Value}{n:Nat}{a b:Value}{Q:Fin->Shared->Prop}(hh:A.handled=none)(D:Ep z ti to t1 t2 a1 a2)(S1:Src P w t1 a1 J1 us)(S2:Src P w t2 a2 J2 vs)
 (Z:IsZip s.heap z ti to .none) (pI:IsPair s.heap ti (.ref t1) (.ref t2)) (pO:IsPair s.heap to a b) (j1:J1 n s.heap) (j2:J2 n s.heap) (he:us[n]?=none\/vs[n]?=none)
 (q:∀k e,(∀c o,c≠z->c≠to->c≠t1->c≠t2->s.heap.get? c=some o->k.get? c=some o)->(∃o,k.get? e=some o/\o.cls= .type "StopIteration")->E (.ref e) {s with heap:=k}):
 wpAny (model P w) A (Builtin.«zip.__next__» ⟨[.ref z],[]⟩) Q E s:=by
 obtain⟨⟨n1,n2,n3,n4⟩,⟨n5,n6,n7⟩,⟨n8,n9⟩,n10⟩:=D.n;have m1:=D.a1;have m2:=D.a2;simp only[UK,W7,UU,Vt,WQ]at m1 m2;show wpAny _ _ (field (.ref z) 2 >>= _) _ _ _;refine Uj (Vy Z rfl (x:= .bool false) rfl ?_);show wpAny _ _ (field (.ref z) 3 >>= _) _ _ _;refine Uj (Vy Z rfl (x:= .ref ti) rfl ?_);refine Uj (Wi pI rfl ?_);show wpAny _ _ (Builtin.SmallTypes.ownedTupleIsFree (.ref z) >>= _) _ _ _;refine Uj ?_;unfold Builtin.SmallTypes.ownedTupleIsFree;refine Uj (Vy Z rfl (x:= .none) rfl (Uw ?_));simp only[WW];refine Uj (Xw ?_);refine Uj (Vy Z rfl (x:= .ref to) rfl ?_);refine Uj (Wm Z (by simp) λ k1 Z1 b1=>?_);replace Z1:IsZip k1 z ti to .ellipsis:=Z1;refine Uj ?_;simp only[List.zipIdx_cons,List.zipIdx_nil,YE,YT];refine Uj (Uj (Yc ?_));show wpAny _ _ (Builtin.SmallTypes.nextOf (.ref t1) >>= _) _ _ _;have j1a:J1 n k1:=S1.ext j1 b1.extBut (Uy n3) (Uy m1.1);cases ex:us[n]? with
 |none=>
  refine Uj (S1.en n _ _ _ _ hh j1a ex λ k2 e b2 hx=>?_);obtain⟨oe,he1,he2⟩:=hx;have Z2:IsZip k2 z ti to .ellipsis:=b2 _ _ (Uy n3) Z1;have hez:e≠z:=λ c=>by subst c;rw[Z2]at he1;cases he1;simp at he2
  refine Wm Z2 (by simp) λ k3 _ b3=>q k3 e (λ c o c1 _ c3 _ f=>b3.extBut _ _ c1 (b2 _ _ c3 (b1.extBut _ _ c1 f))) ⟨oe,b3.extBut _ _ hez he1,he2⟩
 |some x=>
  have ey:vs[n]?=none:=by
   rcases he with h|h
   . rw[ex]at h;cases h
   . exact h
  refine Uj (S1.nx n _ _ _ _ x j1a ex λ k2 j1b b2=>Uw ?_);have pO2:IsPair k2 to a b:=b2.extBut _ _ n8 (b1.extBut _ _ n2 pO);refine Uj (Wi pO2 rfl ?_);refine Uj (XC pO2 λ k3 pO3 b3=>?_);refine Uj (YM (Uw ?_));refine Uj (Uj (Yc ?_));show wpAny _ _ (Builtin.SmallTypes.nextOf (.ref t2) >>= _) _ _ _;have j2c:J2 n k3:=S2.ext (S2.ext (S2.ext j2 b1.extBut (Uy n4) (Uy m2.1)) b2.extBut n10 (Uy m2.2.2.2.1)) b3.extBut n9 (Uy m2.2.2.1);refine Uj (S2.en n _ _ _ _ hh j2c ey λ k4 e b4 hx=>?_);obtain⟨oe,he1,he2⟩:=hx;have Z4:IsZip k4 z ti to .ellipsis:=b4 _ _ (Uy n4) (b3.extBut _ _ (Uy n2) (b2.extBut _ _ (Uy n3) Z1));have hez:e≠z:=λ c=>by subst c;rw[Z4]at he1;cases he1;simp at he2
  refine Wm Z4 (by simp) λ k5 _ b5=>q k5 e (λ c o c1 c2 c3 c4 f=>b5.extBut _ _ c1 (b4 _ _ c4 (b3.extBut _ _ c2 (b2.extBut _ _ c3 (b1.extBut _ _ c1 f))))) ⟨oe,b5.extBut _ _ hez he1,he2⟩
end
end
def Ld{X:Cx}{pins:List (Addr×Obj)}{σ:L2.St}{H:Hp}{s:Shared}{g:Heap}{tk:Nat}{fp:List Addr}{T:Addr}{xs:List V}(I:Inv X pins σ H s)(hf:∀b∈fp,mY X pins H b)
 (k:∀b o,b∉fp->s.heap.get? b=some o->g.get? b=some o) (hT:s.heap.objs.size<=T) (new:et X.prog X.w (upd H T (.tup xs)) g T (.tup xs)):Inv X pins σ (upd H T (.tup xs)) {s with heap:=g,toks:=tk}:=by
 have hn:H T=none:=I.aO.fresh hT;have nfp:∀b u,H b=some u->b∉fp:=λ b u e z=>by rw[(hf b z).1]at e;cases e
 have nT:∀b u,H b=some u->b≠T:=λ b u e=>eh e hn
 refine I.step (g':=s.gens) (d':=s.drawn) (ch:=fp) (λ b hb=>?_) (λ b o _ _ hc e _=>k b o hc e) (λ b o _ _ hc e _=>⟨o.slots,k b o hc e⟩) (λ b o _ e n=>?_) (λ b o hc e=>⟨o,k b o hc e⟩)
  (λ b ys e=>by rw[aE (nT b _ e)];exact e) (λ b o u e=>by rw[aE (nT b _ e)];exact e) (λ b ps e=>⟨#[],by rw[aE (nT b _ e),e];simp⟩) (λ m hm=>?_) (λ b u e=>?_) I.bare
 . obtain⟨f0,f1,f2,f3,f4,f5⟩:=hf b hb;exact⟨f3,f1,f4,f5⟩
 . rw[aE (UR (UH (UA e) hT))];exact n
 . obtain⟨o,es,ep,ho,r⟩:=hm;exact⟨o,es,ep,k _ o (λ z=>(hf _ z).2.1 rfl) ho,r⟩
 . by_cases hb:b=T
   . subst hb;rw[a8]at e;cases e;exact new
   . rw[aE hb]at e;refine(I.aO b u e).ng (λ c v hc q=>k c v ?_ q) (λ c q=>by rw[aE (nT c _ q)];exact q) λ c ys q=>by rw[aE (nT c _ q)];exact q
     rcases hc with z|z
     . rw[z];exact nfp b u e
     . exact nfp c _ z
def K3{X:Cx}{pins:List (Addr×Obj)}{σ:L2.St}{H:Hp}{s:Shared}{g:Heap}{tk:Nat}{fp:List Addr}(I:Inv X pins σ H s)(hf:∀b∈fp,mY X pins H b)
 (k:∀b o,b∉fp->s.heap.get? b=some o->g.get? b=some o):Inv X pins σ H {s with heap:=g,toks:=tk}:=by
 have nfp:∀b u,H b=some u->b∉fp:=λ b u e z=>by rw[(hf b z).1]at e;cases e
 refine I.step (g':=s.gens) (d':=s.drawn) (ch:=fp) (λ b hb=>?_) (λ b o _ _ hc e _=>k b o hc e) (λ b o _ _ hc e _=>⟨o.slots,k b o hc e⟩) (λ b o _ e n=>n) (λ b o hc e=>⟨o,k b o hc e⟩)
  (λ b ys e=>e) (λ b o u e=>e) (λ b ps e=>⟨#[],by rw[e];simp⟩) (λ m hm=>?_) (λ b u e=>?_) I.bare
 . obtain⟨f0,f1,f2,f3,f4,f5⟩:=hf b hb;exact⟨f3,f1,f4,f5⟩
 . obtain⟨o,es,ep,ho,r⟩:=hm;exact⟨o,es,ep,k _ o (λ z=>(hf _ z).2.1 rfl) ho,r⟩
 . refine(I.aO b u e).ng (λ c v hc q=>k c v ?_ q) (λ c q=>q) λ c ys q=>q;rcases hc with z|z
   . rw[z];exact nfp b u e
   . exact nfp c _ z
inductive SK where
 |l|t
def sr(k:SK)(K:PySem.W.Frag)(H:Hp)(a:Addr)(xs:List V):Prop:=match k with
 | .l=>oE K H a xs
 | .t=>j7 K H a xs
def uo(k:SK)(t a:Addr)(n:Nat)(g:Heap):Prop:=match k with
 | .l=>g.IsListIter t a n
 | .t=>g.IsTupleIter t a n
def oh(k:SK)(g:Heap)(a:Addr)(us:Array Value):Prop:=match k with
 | .l=>g.IsList a us
 | .t=>g.IsTuple a us
def B_(k:SK)(a:Addr):Obj:=match k with
 | .l=>{cls:= .type "list_iterator",data:= .fields #[.ref a,.int 0 0]}
 | .t=>{cls:= .type "tuple_iterator",data:= .fields #[.ref a,.int 0 0]}
def o6{P:Program}{w:World}(k:SK)(t a:Addr)(hne:a≠t)(us:Array Value):Src P w t a (λ n g=>uo k t a n g/\oh k g a us) us:=by
 cases k
 . exact src_list t a hne us
 . exact Ma t a hne us
def mJ{X:Cx}{pins:List (Addr×Obj)}{σ:L2.St}{H:Hp}{s:Shared}{k:SK}{a:Addr}{xs:List V}(I:Inv X pins σ H s)(h:sr k X.K H a xs):∃av:List Value,Vals xs av/\oh k s.heap a av.toArray:=by
 cases k
 . obtain⟨av,rv,p,_⟩:=I.list h;exact⟨av,rv,p.isList⟩
 . obtain⟨av,rv,p,_⟩:=I.tuple h;exact⟨av,rv,p⟩
def zt{X:Cx}{pins:List (Addr×Obj)}{σ:L2.St}{H:Hp}{s:Shared}{k:SK}{a:Addr}{xs ys:List V}(I:Inv X pins σ H s)(h:sr k X.K H a xs)(h':sr k X.K H a ys):xs=ys:=by
 cases k
 . exact I.Cg h h'
 . exact I.AK h h'
def Hj{P:Program}{w:World}{A:Around}{s:Shared}{E:Value->Shared->Prop}{k:SK}{a:Addr}{us:Array Value}{Q:Value->Shared->Prop}(h:oh k s.heap a us)(q:Q (.ref s.heap.objs.size) {s with heap:=s.heap.push (B_ k a)}):wpAny (model P w) A (pyIter (.ref a)) Q E s:=by
 cases k
 . exact Xi h q
 . exact WK h q
def oh.push{k:SK}{g:Heap}{a:Addr}{us:Array Value}(h:oh k g a us)(o:Obj):oh k (g.push o) a us:=by
 cases k
 . obtain⟨o',e,r⟩:=h;exact⟨o',Uo _ e,r⟩
 . obtain⟨o',e,r⟩:=h;exact⟨o',Uo _ e,r⟩
def oh.some{k:SK}{g:Heap}{a:Addr}{us:Array Value}(h:oh k g a us):∃o,g.get? a=Option.some o:=by
 cases k
 . obtain⟨o',e,r⟩:=h;exact⟨o',e⟩
 . obtain⟨o',e,r⟩:=h;exact⟨o',e⟩
def EF{k:SK}{g h:Heap}{t a:Addr}(e:g.get? t=Option.some (B_ k a)):uo k t a 0 g:=by
 cases k
 . exact⟨_,e,rfl,rfl⟩
 . exact⟨_,e,rfl,rfl⟩
def sG{k:SK}{t a:Addr}{n:Nat}{g g':Heap}(h:uo k t a n g)(kp:∀o,g.get? t=Option.some o->g'.get? t=Option.some o):uo k t a n g':=by
 cases k
 . obtain⟨o,e,r⟩:=h;exact⟨o,kp o e,r⟩
 . obtain⟨o,e,r⟩:=h;exact⟨o,kp o e,r⟩
def pM{k:SK}{t a:Addr}{n:Nat}{g:Heap}(h:uo k t a n g):∃o,g.get? t=Option.some o/\∀v,o.data≠ .cell v:=by
 cases k
 . obtain⟨o,e,c,d⟩:=h;exact⟨o,e,λ v z=>by rw[d]at z;cases z⟩
 . obtain⟨o,e,c,d⟩:=h;exact⟨o,e,λ v z=>by rw[d]at z;cases z⟩
def Sg(K:PySem.W.Frag)(k1 k2:SK)(a1 a2:Addr):It:=
 ⟨λ i H=>∃xs ys x y,sr k1 K H a1 xs/\sr k2 K H a2 ys/\xs[i]?=some x/\ys[i]?=some y,
  λ i H v H'=>∃T x y,H T=none/\v= .ref T/\H'=upd H T (.tup [x,y])/\(∀xs,sr k1 K H a1 xs->xs[i]?=some x)/\∀ys,sr k2 K H a2 ys->ys[i]?=some y,
  λ i H=>∃xs ys,sr k1 K H a1 xs/\sr k2 K H a2 ys/\(xs.length<=i\/ys.length<=i)⟩
def QD(z ti to t1 t2 a1 a2:Addr)(k1 k2:SK)(i:Nat)(h:Heap):Prop:=IsZip h z ti to .none/\IsPair h ti (.ref t1) (.ref t2)/\(∃a b,IsPair h to a b)/\uo k1 t1 a1 i h/\uo k2 t2 a2 i h
def JF{P:Program}{w:World}{K:PySem.W.Frag}{elts:List Expr}{kx:Nat}{pos:Pos}{z ti to t1 t2 a1 a2:Addr}(k1 k2:SK)(D:Ep z ti to t1 t2 a1 a2):
 Turn P w K (.Tuple elts kx pos) (Sg K k1 k2 a1 a2) [z,ti,to,t1,t2] z (QD z ti to t1 t2 a1 a2 k1 k2) where
 mem:=by simp
 obj:=λ i h st b hb=>by
  obtain⟨Z,pI,⟨a,b',pO⟩,i1,i2⟩:=st;simp only[UK,UU,WO]at hb;rcases hb with rfl|rfl|rfl|rfl|rfl
  . exact⟨_,Z,λ v e=>by cases e⟩
  . exact⟨_,pI,λ v e=>by cases e⟩
  . exact⟨_,pO,λ v e=>by cases e⟩
  . exact pM i1
  . exact pM i2
 keep:=λ i h h' st k=>by
  obtain⟨Z,pI,⟨a,b',pO⟩,i1,i2⟩:=st;exact⟨k z (by simp) _ Z,k ti (by simp) _ pI,⟨a,b',k to (by simp) _ pO⟩,sG i1 (k t1 (by simp)),sG i2 (k t2 (by simp))⟩
 item:=by
  intro X hP hw hK hc i pins s σ H E I hf st hg;subst hP hw hK;obtain⟨Z,pI,⟨a,b',pO⟩,i1,i2⟩:=st;obtain⟨xs,ys,x,y,q1,q2,ex,ey⟩:=hg;obtain⟨us,r1,l1⟩:=mJ I q1;obtain⟨vs,r2,l2⟩:=mJ I q2;obtain⟨u,eu,ru⟩:=r1.get ex;obtain⟨v,ev,rv⟩:=r2.get ey;have m1:=D.a1;have m2:=D.a2;simp only[UK,W7,UU,Vt,WQ]at m1 m2;obtain⟨⟨n1,n2,n3,n4⟩,⟨n5,n6,n7⟩,⟨n8,n9⟩,n10⟩:=D.n;have tz:s.TypeIs (.ref z) "zip":=⟨_,Z,rfl⟩
  unfold pyNext;refine Uj (Yd (VG (name:=Str.ofString "__next__") tz XD (We XD tz F.entry_zip_next (G_ D (o6 k1 t1 a1 m1.2.2.2.1 us.toArray) (o6 k2 t2 a2 m2.2.2.2.2 vs.toArray) Z pI pO ⟨i1,l1⟩ ⟨i2,l2⟩ (x:=u) (y:=v) (by simpa using eu) (by simpa using ev) λ k Z2 pO2 j1 j2 pT szk kp=>Uw ⟨_,rfl,?_⟩) (F.args_zip_next_1 _))));refine wpAny_letOwnedTupleGo_zip (s:={s with heap:=k}) Z2 λ k' Z3 b3=>?_;have hT:s.heap.objs.size≠z:=Wy (UA Z)
  have kp3:∀b o,b∉[z,ti,to,t1,t2]->s.heap.get? b=some o->k'.get? b=some o:=λ b o hb e=>by
   simp only[UK,W7,UU,Vt,WQ]at hb;exact b3.extBut _ _ hb.1 (kp b o hb.1 hb.2.2.1 hb.2.2.2.1 hb.2.2.2.2 e)
  refine⟨.ref s.heap.objs.size,upd H s.heap.objs.size (.tup [x,y]),Ld (s:=s) (tk:=s.toks) I hf kp3 (Uk _) ?_,rfl,⟨s.heap.objs.size,x,y,I.aO.fresh (Uk _),rfl,rfl,?_,?_⟩,?_,?_⟩
  . refine⟨Ux rfl,[u,v],.cons ru (.cons rv .nil),?_⟩;exact⟨_,b3.extBut _ _ hT pT,rfl,_,rfl⟩
  . intro xs' q';rw[zt I q' q1];exact ex
  . intro ys' q';rw[zt I q' q2];exact ey
  . refine⟨Z3,b3.extBut _ _ n1 (kp _ _ n1 n5 n6 n7 pI),⟨_,_,b3.extBut _ _ n2 pO2⟩,sG j1.1 λ o e=>b3.extBut _ _ n3 e,sG j2.1 λ o e=>b3.extBut _ _ n4 e⟩
  . intro b hb
    have:b≠s.heap.objs.size:=by
     obtain⟨o,e,_⟩:∃o,s.heap.get? b=some o/\True:=by
      simp only[UK,UU,WO]at hb;rcases hb with rfl|rfl|rfl|rfl|rfl
      . exact⟨_,Z,trivial⟩
      . exact⟨_,pI,trivial⟩
      . exact⟨_,pO,trivial⟩
      . obtain⟨o,e,_⟩:=pM i1;exact⟨o,e,trivial⟩
      . obtain⟨o,e,_⟩:=pM i2;exact⟨o,e,trivial⟩
     exact UR (UA e)
    rw[aE this];exact(hf b hb).1
 done:=by
  intro X hP hw hK hc i pins s σ H E I hf st hg;subst hP hw hK;obtain⟨Z,pI,⟨a,b',pO⟩,i1,i2⟩:=st;obtain⟨xs,ys,q1,q2,he⟩:=hg;obtain⟨us,r1,l1⟩:=mJ I q1;obtain⟨vs,r2,l2⟩:=mJ I q2;have e1:=r1.length;have e2:=r2.length;have m1:=D.a1;have m2:=D.a2;simp only[UK,W7,UU,Vt,WQ]at m1 m2;have tz:s.TypeIs (.ref z) "zip":=⟨_,Z,rfl⟩
  unfold pyNext;refine Uj (Yd (VG (name:=Str.ofString "__next__") tz XD (We XD tz F.entry_zip_next (Jb (I.ok.hd hc) D (o6 k1 t1 a1 m1.2.2.2.1 us.toArray) (o6 k2 t2 a2 m2.2.2.2.2 vs.toArray) Z pI pO ⟨i1,l1⟩ ⟨i2,l2⟩ ?_ λ k e kp hx=>?_) (F.args_zip_next_1 _))))
  . rcases he with h|h
    . left;simp;omega
    . right;simp;omega
  . obtain⟨o,ho,hc2⟩:=hx;refine Uj (wpAny_isInstance (T:="StopIteration") (b:=true) ⟨o,ho,hc2⟩ isSubtype_stop ?_);refine Uw ⟨rfl,K3 (s:=s) (tk:=s.toks) I hf λ b o hb e=>?_⟩;simp only[UK,W7,UU,Vt,WQ]at hb;exact kp b o hb.1 hb.2.2.1 hb.2.2.2.1 hb.2.2.2.2 e
 self:=λ _ _ _ _ _ st h=>wpAny_pyIter_zip st.1 h
abbrev LF(h:Heap)(k1:SK)(a1:Addr):Heap:=h.push (B_ k1 a1)
abbrev K8(h:Heap)(k1 k2:SK)(a1 a2:Addr):Heap:=(LF h k1 a1).push (B_ k2 a2)
abbrev Le(h:Heap)(k1 k2:SK)(a1 a2:Addr):Heap:=(K8 h k1 k2 a1 a2).push {cls:= .type "tuple",data:= .seq #[.ref h.objs.size,.ref (LF h k1 a1).objs.size]}
abbrev Lx(h:Heap)(k1 k2:SK)(a1 a2:Addr):Heap:=(Le h k1 k2 a1 a2).push {cls:= .type "tuple",data:= .seq #[.none,.none]}
abbrev Et(h:Heap)(k1 k2:SK)(a1 a2:Addr):Heap:=(Lx h k1 k2 a1 a2).push {cls:= .type "zip",data:= .fields #[.none,.bool false,.bool false,.ref (K8 h k1 k2 a1 a2).objs.size,.ref (Le h k1 k2 a1 a2).objs.size]}
def IT(k1 k2:SK)(a1 a2:Addr)(us vs:Array Value):Meets (Builtin.«zip.__new__» ⟨[.type "zip",.ref a1,.ref a2],[]⟩) (λ _ R s=>oh k1 s.heap a1 us/\oh k2 s.heap a2 vs/\
 R (.ok (.ret (.ref (Lx s.heap k1 k2 a1 a2).objs.size))) {s with heap:=Et s.heap k1 k2 a1 a2}):=
 .of_wp λ P w A R s h=>by
  obtain⟨hp,g,d,tk,os⟩:=s;obtain⟨c1,c2,h⟩:=h;have hsub:=sub_zip;have L1:oh k1 (Shared.heap ⟨hp,g,d,tk,os⟩) a1 us:=c1;have L2:oh k2 (Shared.heap ⟨hp.push (B_ k1 a1),g,d,tk,os⟩) a2 vs:=oh.push c2 _
  wp_walk using Hj L1,Hj L2
  exact⟨_,rfl,h⟩
def Jy{P:Program}{w:World}{A:Around}{s:Shared}{E:Value->Shared->Prop}{k1 k2:SK}{a1 a2:Addr}{us vs:Array Value}{Q:Value->Shared->Prop}(c1:oh k1 s.heap a1 us)(c2:oh k2 s.heap a2 vs)
 (q:∀g n,n=s.heap.objs.size->IsZip g (n+4) (n+2) (n+3) .none->IsPair g (n+2) (.ref n) (.ref (n+1))->IsPair g (n+3) .none .none->uo k1 n a1 0 g->uo k2 (n+1) a2 0 g->(∀c o,s.heap.get? c=some o->g.get? c=some o)->Q (.ref (n+4)) {s with heap:=g}):
 wpAny (model P w) A (call (.type "zip") [.ref a1,.ref a2]) Q E s:=by
 refine callType_new F.called_zip (by decide) (F.typeCall_zip_2 _ _) (F.newCall_zip_2 _ _) (λ ob=>F.args_object_init_3 ob _ _) F.entry_zip_new (IT k1 k2 a1 a2 us vs) ⟨c1,c2,?_⟩;have y1:(LF s.heap k1 a1).objs.size=s.heap.objs.size+1:=VC ..;have y2:(K8 s.heap k1 k2 a1 a2).objs.size=s.heap.objs.size+2:=by rw[VC,y1]
 have y3:(Le s.heap k1 k2 a1 a2).objs.size=s.heap.objs.size+3:=by rw[VC,y2]
 have y4:(Lx s.heap k1 k2 a1 a2).objs.size=s.heap.objs.size+4:=by rw[VC,y3]
 have e5:(Et s.heap k1 k2 a1 a2).get? (Lx s.heap k1 k2 a1 a2).objs.size=some _:=UN _ rfl;have e4:(Et s.heap k1 k2 a1 a2).get? (Le s.heap k1 k2 a1 a2).objs.size=some _:=Uo _ (UN _ rfl);have e3:(Et s.heap k1 k2 a1 a2).get? (K8 s.heap k1 k2 a1 a2).objs.size=some _:=Uo _ (Uo _ (UN _ rfl));have e2:(Et s.heap k1 k2 a1 a2).get? (LF s.heap k1 a1).objs.size=some (B_ k2 a2):=Uo _ (Uo _ (Uo _ (UN _ (by cases k2<;>rfl))));have e1:(Et s.heap k1 k2 a1 a2).get? s.heap.objs.size=some (B_ k1 a1):=Uo _ (Uo _ (Uo _ (Uo _ (UN _ (by cases k1<;>rfl)))));show _/\_;rw[y2,y3,y4]at e5;rw[y1,y2]at e3;rw[y3]at e4;rw[y1]at e2;rw[y4];exact⟨⟨_,e5,rfl⟩,q _ _ rfl e5 e3 e4 (EF (h:=s.heap) e1) (EF (h:=s.heap) e2) λ c o x=>Uo _ (Uo _ (Uo _ (Uo _ (Uo _ x))))⟩
def LJ:D->SK
 | .tup _=> .t
 |_=> .l
def HQ(k:SK)(G:Hp)(a:Addr)(vs:List V):Prop:=match k with
 | .l=>Rd G a (.lst vs)
 | .t=>G a=some (.tup vs)
def kX{K:PySem.W.Frag}{k:SK}{G F H:Hp}(P:cG G F H){a:Addr}{vs:List V}(h:HQ k G a vs):sr k K H a vs:=by
 cases k
 . exact .inl (iy P h)
 . exact j7.of (P.get h)
def pK{α:List (Option Addr)}{H:Hp}{st:ag}{d:D}{v:V}{xs:List D}(S:aX α st H)(r:Rep α H d v)(e:items? st d=some xs):∃p vs,v= .ref p/\aS α H xs vs/\HQ (LJ d) H p vs:=by
 cases d<;>try(cases e;done)
 . unfold items? at e;simp only at e;split at e
   . rename_i ys q;cases e;obtain⟨a,ea,vs,h1,h2⟩:=S.gO q;exact⟨a,vs,d5 ea r,h2,Rd.of h1⟩
   . cases e
 . cases e;unfold Rep at r;obtain⟨a,vs,rfl,_,h1,h2⟩:=r;exact⟨a,vs,rfl,h2,h1⟩
 . cases e;unfold Rep at r;obtain⟨a,vs,rfl,_,h1,h2⟩:=r;exact⟨a,vs,rfl,h2,h1⟩
def gd(xs ys:List D):List D:=(xs.zip ys).map λ p=> .tup [p.1,p.2]
def ll{xs ys:List D}:(gd xs ys).length=min xs.length ys.length:=by unfold gd;simp
def tW{xs ys:List D}{n:Nat}{d:D}(e:(gd xs ys)[n]?=some d):∃x y,xs[n]?=some x/\ys[n]?=some y/\d= .tup [x,y]:=by
 unfold gd at e;rw[UB]at e;cases q:(xs.zip ys)[n]? with
 |none=>rw[q]at e;cases e
 |some p=>
  rw[q]at e;cases e;rw[List.getElem?_zip_eq_some]at q;exact⟨p.1,p.2,q.1,q.2,rfl⟩
def Oo{K:PySem.W.Frag}{k1 k2:SK}{a1 a2:Addr}{α:List (Option Addr)}{G:Hp}{ok:ag->Prop}{xs ys:List D}
 (h:∀α' G' st',Step α G α' G'->aX α' st' G'->ok st'->∃vs ws,HQ k1 G' a1 vs/\HQ k2 G' a2 ws/\aS α' G' xs vs/\aS α' G' ys ws):xq (Sg K k1 k2 a1 a2) α G ok (gd xs ys) where
 stop:=λ n α' G' F' H' st' s P S o hn=>by
  obtain⟨vs,ws,h1,h2,r1,r2⟩:=h α' G' st' s S o;rw[ll]at hn;refine⟨vs,ws,kX P h1,kX P h2,?_⟩;have:=r1.length;have:=r2.length;omega
 go:=λ n d α' G' F' H' st' s P S o hn=>by
  obtain⟨vs,ws,h1,h2,r1,r2⟩:=h α' G' st' s S o;obtain⟨x,y,ex,ey,rfl⟩:=tW hn;obtain⟨v,ev,_⟩:=r1.get ex;obtain⟨u,eu,_⟩:=r2.get ey;exact⟨vs,ws,v,u,kX P h1,kX P h2,ev,eu⟩
 qJ:=λ n d α' G' F' H' st' x H'' s P S o hn y=>by
  obtain⟨vs,ws,h1,h2,r1,r2⟩:=h α' G' st' s S o;obtain⟨c,e,ec,ee,rfl⟩:=tW hn;obtain⟨T,v,u,hT,rfl,rfl,y1,y2⟩:=y;obtain⟨v',ev,rv⟩:=r1.get ec;obtain⟨u',eu,ru⟩:=r2.get ee;rw[y1 vs (kX P h1)]at ev;rw[y2 ws (kX P h2)]at eu;cases ev;cases eu;have hg:=(P.none hT).1;refine⟨upd G' T (.tup [v,u]),Step.laid hg,P.laid hT,S.laid hg,?_⟩;unfold Rep;refine⟨T,[v,u],rfl,S.mI hg,a8,?_⟩;unfold aS;refine⟨v,[u],rfl,rv.step (Step.laid hg),?_⟩;unfold aS;exact⟨u,[],rfl,ru.step (Step.laid hg),by unfold aS;rfl⟩
def Jd(ds:List D)(st1:ag)(K:List D->(ag->Prop)->ag->Prop):Prop:=match ds with
 | [x,y]=>(match items? st1 x,items? st1 y with
   |some xs,some ys=>K (gd xs ys) (λ st'=>items? st' x=some xs/\items? st' y=some ys) st1
   |_,_=>False)
 |_=>False
@[irreducible] def yW:List D->ag->(List D->(ag->Prop)->ag->Prop)->Prop:=Jd
def qi(t:DA):DI:=λ σ st K=>t σ st λ ds st1=>yW ds st1 K
def Nx{n a1 a2:Nat}(h1:a1<n)(h2:a2<n):Ep (n+4) (n+2) (n+3) n (n+1) a1 a2:=by
 have e0:([n+4,n+2,n+3,n,n+1]:List Nat).Nodup:=by
  simp only[V7,UK,W7,UU,Vt,WQ,List.nodup_nil];omega
 have e1:∀a:Nat,a<n->a∉([n+4,n+2,n+3,n,n+1]:List Nat):=λ a ha=>by
  simp only[UK,W7,UU,Vt,WQ];omega
 exact⟨e0,e1 a1 h1,e1 a2 h2⟩
def OI{X:Cx}{a b:Expr}{elts:List Expr}{kx:Nat}{tpos p pos:Pos}{t:DA}(hg:Gl X "zip")(hm:X.mg "zip"=none)(ha:PA X [a,b] (LA t))(hs:starEach [a,b] X.env=[(false,eval a X.env),(false,eval b X.env)])(hs2:starEach [b] X.env=[(false,eval b X.env)]):
 PI X (.Tuple elts kx tpos) (.Call (.Name "zip" p) [a,b] [] pos) (LI (qi t)):=by
 intro pins s σ H R I h;obtain⟨α,σd,st,K,G,F,P,RS,S,t,k⟩:=h;refine Call_ (mn I hg hm boot_zip (VF (cw (ha pos pins s σ H (λ vs H1=>∃ds α1 G1 st1,Step α G α1 G1/\cG G1 F H1/\aX α1 st1 G1/\aS α1 G1 ds vs/\yW ds st1 K) I ⟨α,σd,st,_,G,F,P,RS,S,t,λ ds st1 q α1 G1 H1 vs s1 P1 S1 r1=>⟨ds,α1,G1,st1,s1,P1,S1,r1,q⟩⟩) λ us s1 ⟨vs,H1,I1,rv,ds,α1,G1,st1,w1,P1,S1,r1,q⟩=>?_) (by rw[hs,hs2]) (by rw[hs2];rfl)));unfold yW Jd at q;split at q
 . rename_i x y;split at q
   . rename_i xs ys ex ey;obtain⟨v1,v2,rfl,q1,q2⟩:=tP r1 rfl;obtain⟨p1,vs1,rfl,g1,c1⟩:=pK S1 q1 ex;obtain⟨p2,vs2,rfl,g2,c2⟩:=pK S1 q2 ey;obtain⟨u1,u2,rfl,ru1,ru2⟩:=vals2 rv;cases ru1;cases ru2;obtain⟨its1,_,l1⟩:=mJ I1 (kX P1 c1);obtain⟨its2,_,l2⟩:=mJ I1 (kX P1 c2);refine Jy l1 l2 λ g n hn Z pI pO i1 i2 kp=>?_;obtain⟨o1,eo1⟩:=l1.some;obtain⟨o2,eo2⟩:=l2.some;refine wpAny_pyIter_zip (s:={s1 with heap:=g}) Z ?_;refine⟨n+4,[n+4,n+2,n+3,n,n+1],_,_,H1,rfl,I1.kept (t':=s1.toks) kp,JF (LJ x) (LJ y) (Nx (by rw[hn];exact UA eo1) (by rw[hn];exact UA eo2)),⟨Z,pI,⟨_,_,pO⟩,i1,i2⟩,λ b hb=>?_,?_⟩
     . have hb':s1.heap.objs.size<=b:=by
        simp only[UK,UU,WO]at hb;rcases hb with rfl|rfl|rfl|rfl|rfl<;>(rw[<-hn];first|exact Uk _|exact Nat.le_add_right _ _)
       exact I1.w4 hb' (I1.aO.fresh hb')
     . refine k _ _ st1 q _ α1 G1 H1 w1 P1 S1 (Oo λ α' G' st' s' S' o=>?_);obtain⟨p1',ws1,e1,f1,d1⟩:=pK S' (q1.step s') o.1;obtain⟨p2',ws2,e2,f2,d2⟩:=pK S' (q2.step s') o.2;cases e1;cases e2;exact⟨ws1,ws2,d1,d2,f1,f2⟩
   . exact q.elim
 . exact q.elim
def oC{st:ag}{x y:D}{xs ys:List D}{K:List D->(ag->Prop)->ag->Prop}(ex:items? st x=some xs)(ey:items? st y=some ys)(k:∀ok:ag->Prop,(∀st',items? st' x=some xs->items? st' y=some ys->ok st')->K (gd xs ys) ok st):yW [x,y] st K:=by
 unfold yW Jd;simp only[ex,ey];exact k _ λ st' h1 h2=>⟨h1,h2⟩
def oX{X:Cx}{a b:Expr}{elts:List Expr}{kx:Nat}{tpos p pos:Pos}{ar:DA}(hg:Gl X "zip")(hm:X.mg "zip"=none)(ha:JA X [a,b] ar)(hs:notStar a=true:=by rfl)(hs2:notStar b=true:=by rfl):JI X (.Tuple elts kx tpos) (.Call (.Name "zip" p) [a,b] [] pos) (qi ar):=by
 unfold JI;unfold JA at ha;exact OI hg hm ha (by rw[cT hs,cT hs2];rfl) (cT hs2)
def CL(f:Nat->Int):∀n,preSum f (n+1)=f 0+preSum (λ i=>f (i+1)) n
 |0=>by show preSum f 0+f 0=f 0+0;show(0:Int)+f 0=f 0+0;omega
 |n+1=>by
  have h:=CL f n;show preSum f (n+1)+f (n+1)=f 0+(preSum (λ i=>f (i+1)) n+f (n+1));rw[h];omega
def Ec:∀ns:List Int,preSum (λ i=>ns.getD i 0) ns.length=ns.sum
 | []=>rfl
 |n::ns=>by
  rw[UT,CL];have:(λ i=>(n::ns).getD (i+1) 0)=λ i=>ns.getD i 0:=by funext i;simp
  rw[this,Ec ns,List.sum_cons];rfl
section
variable {X:Cx}
def Bg:gQ:=λ ds st K=>match ds with| [.lst xs]=>(match qA xs with|some ns=>K (.int ns.sum) st|none=>False)|_=>False
def rg:∀ {ns:List Int} {us:List Value},Vals (ns.map V.int) us->∀(i:Nat) (u:Value),us[i]?=some u->∃t,u=Value.int (ns.getD i 0) t
 | [],_,.nil,i,u,e=>by simp at e
 |n::ns,_,.cons h t,0,u,e=>by
  obtain⟨tk,rfl⟩:=h;simp at e;exact⟨tk,by rw[<-e];rfl⟩
 |n::ns,_,.cons h t,i+1,u,e=>by
  obtain⟨tk,q⟩:=rg t i u (by simpa using e);exact⟨tk,by rw[q];simp⟩
def RG(hc:X.calm=true):cM X (.builtin "sum") (jr Bg):=λ pins s σ H xs us Q I rs ⟨α,ds,st,K,G,F',P,r,S,q,k⟩=>by
 unfold Bg at q;split at q
 . rename_i ys;split at q
   . rename_i ns e;obtain⟨v,rfl,r1⟩:=jf r rfl;unfold Rep at r1;obtain⟨a,vs,rfl,na,h1,h2⟩:=r1;obtain⟨u,rfl,ru⟩:=vals1 rs;cases ru;have hv:=Ab h2 e;subst hv;obtain⟨z,av,n,rv,hl,eo⟩:=Inv.zy I (iy P h1);have isL:s.heap.IsList a av.toArray:=⟨_,eo,rfl,n,rfl⟩
     refine call_sum_walkAnyB (Xi isL ?_);have hne:a≠s.heap.objs.size:=UR (UA eo);refine⟨s.heap.objs.size,_,_,_,_,_,_,λ i=>ns.getD i 0,rfl,(Walks.list (A:=X.A.in1) (I.ok.hd hc) _ a hne av.toArray).toS,⟨⟨_,UN _ rfl,rfl,rfl⟩,⟨_,Uo _ eo,rfl,n,rfl⟩⟩,?_,?_,?_⟩
     . intro b hb;rw[VC];simp only[UK,UU,WO]at hb;rcases hb with rfl|rfl
       . exact UZ _
       . exact Va (UA eo)
     . intro i w hw;obtain⟨t,e⟩:=rg rv i w (by simpa using hw);exact .inl ⟨t,e⟩
     . intro s' t' hm
       have kp:∀b o,s.heap.get? b=some o->s'.heap.get? b=some o:=λ b o q=>hm.heap b o (by
        intro hb;have:b=s.heap.objs.size:=by simpa using hb
        exact absurd (UA q) (by rw[this];exact VB _)) (Uo _ q)
       have es:s'= {s with heap:=s'.heap,toks:=s'.toks}:=by
        have g:=hm.gens;have d:=hm.drawn;have o:=hm.os;cases s';cases s
        simp_all
       have en:preSum (λ i=>ns.getD i 0) av.toArray.size=ns.sum:=by
        have:av.toArray.size=ns.length:=by rw[Ut,<-hl,Uh]
        rw[this];exact Ec ns
       rw[en,es];exact⟨.int ns.sum,H,I.kept (t':=s'.toks) kp,⟨t',rfl⟩,k.here P q S (by unfold Rep;rfl)⟩
   . exact q.elim
 . exact q.elim
@[irreducible] def zM:gQ:=Bg
def Lr(hc:X.calm=true):cM X (.builtin "sum") (jr zM):=by unfold zM;exact RG hc
end
def ints_map:∀ns:List Int,qA (ns.map D.int)=some ns
 | []=>rfl
 |n::ns=>by simp[qA,ints_map ns]
def Oz{st:ag}{K:DK}{xs:List D}{ns:List Int}(h:qA xs=some ns)(k:K (.int ns.sum) st):zM [.lst xs] st K:=by unfold zM Bg;simp only[h];exact k
section
variable {X:Cx}{pos:Pos}
def Qq{α:List (Option Addr)}{H:Hp}{ds:List D}{xs:List V}{d e f:D}(r:aS α H ds xs)(q:ds=[d,e,f]):∃v u t,xs=[v,u,t]/\Rep α H d v/\Rep α H e u/\Rep α H f t:=by
 subst q;unfold aS at r;obtain⟨v,q,rfl,h1,h2⟩:=r;obtain⟨u,t,rfl,h3,h4⟩:=tP h2 rfl;exact⟨v,u,t,rfl,h1,h3,h4⟩
end
end L3
namespace L3
open PySem L2 PySem.SeqAt
open PySem.Spec hiding items?
open PyProof.Rows hiding St
section
variable {X:Cx}{pins:List (Addr×Obj)}{σ:L2.St}{H:Hp}{s:Shared}{α:List (Option Addr)}
def Ey{A:Around}{d e:D}{x y:V}{u v:Value}(hd:Aw d=true)(he:Aw e=true)(rd:Rep α H d x)(re:Rep α H e y)(rx:RelV x u)(ry:RelV y v):RcNeAt A s u v (!cZ d e):=by
 cases d<;>cases e<;>try(first|(cases hd;done)|(cases he;done))
 all_goals(unfold Rep at rd re;subst rd re)
 all_goals(first|(obtain⟨t,rfl⟩:=rx;obtain⟨t',rfl⟩:=ry)|(obtain⟨t,rfl⟩:=rx;cases ry)|(cases rx;obtain⟨t,rfl⟩:=ry)|(cases rx;cases ry))
 all_goals unfold cZ
 . exact RcNeAt.none_none
 . exact RcNeAt.none_bool _
 . exact RcNeAt.none_int _ _
 . exact RcNeAt.none_str _ _
 . exact RcNeAt.bool_none _
 . exact RcNeAt.bool_bool _ _
 . exact RcNeAt.bool_int _ _ _
 . exact RcNeAt.bool_str _ _ _
 . exact RcNeAt.int_none _ _
 . exact RcNeAt.int_bool _ _ _
 . exact RcNeAt.int_int _ _ _ _
 . exact RcNeAt.int_str _ _ _ _
 . exact RcNeAt.str_none _ _
 . exact RcNeAt.str_bool _ _ _
 . exact RcNeAt.str_int _ _ _ _
 . exact RcNeAt.str_str _ _ _ _
def Ar(I:Inv X pins σ H s){A:Around}{xs:List D}{e:D}{x y:V}{u v:Value}(he:Aw e=true)(rd:Rep α H (.lst xs) x)(re:Rep α H e y)(rx:RelV x u)(ry:RelV y v)(hu:A.units<cLine):
 RcNeAt A s u v (!cZ (.lst xs) e)/\RcNeAt A s v u (!cZ e (.lst xs)):=by
 obtain⟨a,vs,av,rfl,_,_,hl⟩:=lst_is I rd rx;cases e<;>try(cases he;done)
 all_goals(unfold Rep at re;subst re)
 all_goals(first|(obtain⟨t,rfl⟩:=ry)|(cases ry))
 all_goals unfold cZ
 . exact⟨RcNeAt.list_none hl hu,RcNeAt.none_list hl hu⟩
 . exact⟨RcNeAt.list_bool _ hl hu,RcNeAt.bool_list _ hl hu⟩
 . exact⟨RcNeAt.list_int _ _ hl hu,RcNeAt.int_list _ _ hl hu⟩
 . exact⟨RcNeAt.list_str _ _ hl hu,RcNeAt.str_list _ _ hl hu⟩
def zX(I:Inv X pins σ H s){A:Around}{xs:List D}{e:D}{x y:V}{u v:Value}(he:Aw e=true)(rd:Rep α H (.tup xs) x)(re:Rep α H e y)(rx:RelV x u)(ry:RelV y v)(hu:A.units<cLine):
 RcNeAt A s u v (!cZ (.tup xs) e)/\RcNeAt A s v u (!cZ e (.tup xs)):=by
 obtain⟨a,vs,av,rfl,_,_,hl⟩:=tup_is I rd rx;cases e<;>try(cases he;done)
 all_goals(unfold Rep at re;subst re)
 all_goals(first|(obtain⟨t,rfl⟩:=ry)|(cases ry))
 all_goals unfold cZ
 . exact⟨RcNeAt.tuple_none hl hu,RcNeAt.none_tuple hl hu⟩
 . exact⟨RcNeAt.tuple_bool _ hl hu,RcNeAt.bool_tuple _ hl hu⟩
 . exact⟨RcNeAt.tuple_int _ _ hl hu,RcNeAt.int_tuple _ _ hl hu⟩
 . exact⟨RcNeAt.tuple_str _ _ hl hu,RcNeAt.str_tuple _ _ hl hu⟩
def Lc(I:Inv X pins σ H s)(n:Nat)(A:Around)(d e:D)(x y:V)(u v:Value)(hd:pl n d=true)(he:pl n e=true)(rd:Rep α H d x)(re:Rep α H e y)(rx:RelV x u)(ry:RelV y v)(hu:A.units+n<cLine):RcNeAt A s u v (!cZ d e):=by
 cases n with
 |zero=>
  refine Ey ?_ ?_ rd re rx ry
  . cases d<;>first|rfl|(cases hd)
  . cases e<;>first|rfl|(cases he)
 |succ n=>
  have hu0:A.units<cLine:=by omega
  have hin:A.in1.units+n<cLine:=by rw[Around.in1_units];omega
  cases d<;>try(cases hd;done)
  case lst xs=>
   cases e<;>try(cases he;done)
   case lst ys=>
    obtain⟨a,vs,av,rfl,r1,v1,l1⟩:=lst_is I rd rx;obtain⟨b,ws,jts,rfl,r2,v2,l2⟩:=lst_is I re ry;have e1:=r1.length;have e2:=v1.length;have e3:=r2.length;have e4:=v2.length;unfold cZ;by_cases hlen:xs.length=ys.length
    . rw[qw hlen];have hsz:av.toArray.size=jts.toArray.size:=by simp only[Ut];omega
      have hx:xs.length=av.toArray.size:=by simp only[Ut];omega
      rw[hx];refine RcNeAt.lists l1 l2 hsz hu0 λ j h1 h2=>?_;obtain⟨p,_,q1,q2⟩:=lV r1 v1 j (by simpa using h1);obtain⟨p',_,q1',q2'⟩:=lV r2 v2 j (by simpa using h2);exact(FD I n A.in1 _ _ p p' _ _ (kg (by unfold pl at hd;exact hd) j) (kg (by unfold pl at he;exact he) j) q1 q1' (by simpa using q2) (by simpa using q2') hin).2
    . rw[qm hlen];exact RcNeAt.lists_lengths l1 l2 (by simp only[Ut,Yq,ne_eq];omega) hu0
   case tup ys=>
    obtain⟨a,vs,av,rfl,r1,v1,l1⟩:=lst_is I rd rx;obtain⟨b,ws,jts,rfl,r2,v2,l2⟩:=tup_is I re ry;unfold cZ;exact RcNeAt.list_tuple l1 l2 hu0
   all_goals exact(Ar I rfl rd re rx ry hu0).1
  case tup xs=>
   cases e<;>try(cases he;done)
   case tup ys=>
    obtain⟨a,vs,av,rfl,r1,v1,l1⟩:=tup_is I rd rx;obtain⟨b,ws,jts,rfl,r2,v2,l2⟩:=tup_is I re ry;have e1:=r1.length;have e2:=v1.length;have e3:=r2.length;have e4:=v2.length;unfold cZ
    have key:=RcNeAt.tuples (e:=λ j=>cZ (xs.getD j .aD) (ys.getD j .aD)) l1 l2 hu0 λ j h1 h2=>by
     obtain⟨p,_,q1,q2⟩:=lV r1 v1 j (by simpa using h1);obtain⟨p',_,q1',q2'⟩:=lV r2 v2 j (by simpa using h2);exact(FD I n A.in1 _ _ p p' _ _ (kg (by unfold pl at hd;exact hd) j) (kg (by unfold pl at he;exact he) j) q1 q1' (by simpa using q2) (by simpa using q2') hin).2
    by_cases hlen:xs.length=ys.length
    . rw[qw hlen];have hsz:av.toArray.size=jts.toArray.size:=by simp only[Ut];omega
      have hx:xs.length=av.toArray.size:=by simp only[Ut];omega
      rw[hsz,Y6,Xp,Yb,<-hsz,<-hx]at key;exact key
    . rw[qm hlen];have hne:(av.toArray.size==jts.toArray.size)=false:=by simp only[Ut,Wb,ne_eq];omega
      rw[hne,YU]at key;exact key
   case lst ys=>
    obtain⟨a,vs,av,rfl,r1,v1,l1⟩:=tup_is I rd rx;obtain⟨b,ws,jts,rfl,r2,v2,l2⟩:=lst_is I re ry;unfold cZ;exact RcNeAt.tuple_list l1 l2 hu0
   all_goals exact(zX I rfl rd re rx ry hu0).1
  all_goals
   cases e<;>try(cases he;done)
   case lst ys=>exact(Ar I rfl re rd ry rx hu0).2
   case tup ys=>exact(zX I rfl re rd ry rx hu0).2
   all_goals exact Ey rfl rfl rd re rx ry
def Qk:du:=λ x y st K=>pl 40 x=true/\pl 40 y=true/\K (.bl (!cZ x y)) st
def QV{k:Nat}(hr:dy k X.A):ck X (compareOp .NotEq) (LR Qk):=λ pins s σ H x y v u Q I rx ry ⟨α,d,e,st,K,G,F',P,r1,r2,S,q,k⟩=>by
 have hu:=hr.units;exact Lc I 40 X.A d e x y v u q.1 q.2.1 (r1.mono P.same) (r2.mono P.same) rx ry (by omega) _ _ _ _ ⟨.bl (!cZ d e),H,I,rfl,k.here P q.2.2 S (by unfold Rep;rfl)⟩
@[irreducible] def uJ:du:=Qk
def FQ{k:Nat}(hr:dy k X.A):ck X (compareOp .NotEq) (LR uJ):=by unfold uJ;exact QV hr
end
def Pm{st:ag}{K:DK}{d e:D}(h1:pl 40 d=true)(h2:pl 40 e=true)(k:K (.bl (!cZ d e)) st):uJ d e st K:=by unfold uJ;exact⟨h1,h2,k⟩
def tj{st:ag}{K:DK}{d:D}(h:pl 40 d=true)(k:K (.bl false) st):uJ d d st K:=Pm h h (by rw[sU 40 d h];exact k)
def oj{st:ag}{n:Nat}{xs:List D}(h:items? st (.ref n)=some xs):st[n]?=some (.lst xs):=by
 unfold items? at h;simp only at h;split at h
 . rename_i q;cases h;exact q
 . cases h
def LP{st:ag}{d:D}{xs:List D}{K:List D->(ag->Prop)->ag->Prop}(h:items? st d=some xs)(k:∀ok:ag->Prop,(∀st',items? st' d=some xs->ok st')->K xs ok st):rQ d st K:=by
 cases d with
 |lst ys=>cases h;exact zo (k _ λ _ _=>trivial)
 |tup ys=>cases h;exact jx (k _ λ _ _=>trivial)
 |ref n=>
  have e:=oj h;unfold rQ zN;simp only[e];exact k _ λ st' h'=>oj h'
 |_=>cases h
def tU{env:Env}:∀(l:List (Str×NameKind)) (x:Str),(l.lookup x=some .cell\/l.lookup x=some .free)->
 ((l.map λ(n,k)=>if(k== .free&&env.scope.kind== .function&&env.kindOf n==some .cell)then(n,.cell)else(n,k)).lookup x=some .cell\/(l.map λ(n,k)=>if(k== .free&&env.scope.kind== .function&&env.kindOf n==some .cell)then(n,.cell)else(n,k)).lookup x=some .free)
 | [],x,h=>by simp at h
 |(n,k)::l,x,h=>by
  rw[UY];dsimp only;by_cases hx:x=n
  . subst hx;rw[Xs]at h;split
    . rw[Xs];exact .inl rfl
    . rw[Xs];exact h
  . have hb:(x==n)=false:=by simpa using hx
    have e1:List.lookup x ((n,k)::l)=List.lookup x l:=by rw[Ve,hb]
    rw[e1]at h;have ih:=tU (env:=env) l x h;split
    . rw[Ve,hb];exact ih
    . rw[Ve,hb];exact ih
def a7.Fp{X0:Cx}{scope0 scope:Scope}{Nc0 Nc:List Str}{C:Addr}{s:Shared}{H:Hp}{ex:List Addr}{fr:List (Option Nat)}(h:yt scope0 Nc0 scope Nc fr=true):a7 (fN X0 scope0 Nc0 C s H ex) scope Nc fr:=by
 unfold yt at h;simp only[U0]at h;obtain⟨⟨⟨⟨⟨h1,h2⟩,h3⟩,h4⟩,h5⟩,h6⟩:=h;refine⟨by simpa using h1,λ x hx hk=>?_,λ x hx hk=>?_,λ x hx hk=>?_,by simpa using h5,λ i j x e1 e2=>?_⟩
 . have:=UW.mp h2 x hx;rw[hk]at this;simpa using this
 . have:=UW.mp h3 x hx;rw[hk]at this;simpa using this
 . have:=UW.mp h4 x hx;rw[hk]at this;have z:scope0.names.lookup x.1=some .cell\/scope0.names.lookup x.1=some .free:=by simpa using this
   exact tU _ _ z
 . have hi:i<fr.length:=(Ui.mp e2).1;have:=UW.mp h6 i (VM.mpr hi);rw[e1,e2]at this;simp only[U0,XB,Wj]at this;exact⟨this.1.1,this.1.2,tU _ _ this.2⟩
end L3
namespace L3
open PySem L2
open PySem.Spec hiding items?
open PyProof.Rows hiding St
section
variable {X:Cx}
def Lv:du:=λ x y st K=>match x,y with
 | .lst xs,.int k=>(-(2^63)<=k/\k<2^63/\xs.length*k.toNat<=sizeLine)/\K (.ref st.length) (st++[.lst (List.replicate k.toNat xs).flatten])
 |_,_=>False
def O6:ck X (binaryOp .Mult) (LR Lv):=λ pins s σ H x y v u Q I rx ry ⟨α,d,e,st,K,G,F',P,r1,r2,S,q,k⟩=>by
 cases d<;>cases e<;>try exact q.elim
 unfold Rep at r1 r2;obtain⟨a,vs,rfl,na,ha,ra⟩:=r1;refine Eu pins s σ H _ _ v u Q I rx ry ⟨a,_,vs,rfl,r2,iy P ha,q.1.1,q.1.2.1,by rw[<-ra.length];exact q.1.2.2,λ p hp=>?_⟩;exact k.new P q.2 S (bJ.mpr (nD (bJ.mp ra) _)) hp
@[irreducible] def yh:du:=Lv
def PN:ck X (binaryOp .Mult) (LR yh):=by unfold yh;exact O6
end
def Np{st:ag}{K:DK}{xs:List D}{i:Int}(h: -(2^63)<=i/\i<2^63/\xs.length*i.toNat<=sizeLine)(k:K (.ref st.length) (st++[.lst (List.replicate i.toNat xs).flatten])):yh (.lst xs) (.int i) st K:=by unfold yh;exact⟨h,k⟩
def HL{n:Nat}{d:D}(h:d∈d6 0 n):∃i:Nat,i<n/\d= .int (i:Int):=by
 unfold d6 at h;obtain⟨i,hi,rfl⟩:=UI.mp h;rw[VM]at hi;exact⟨i,hi,by rw[Wn]⟩
def HA{f:Nat->D}(n:Nat):(d6 0 n).map (λ d=>match d with| .int i=>f i.toNat|_=> .aD)=(List.range n).map f:=by
 unfold d6;rw[Vb];refine Wc λ i _=>?_;show f ((0:Int)+(i:Int)).toNat=f i;have:((0:Int)+(i:Int)).toNat=i:=by omega
 rw[this]
def kr{tg:fS}{te:DE}{σc:cf}{st:ag}{K:List D->ag->Prop}(f:Nat->D)(n:Nat)(hx:∀i:Nat,i<n->∀K',K' (f i) st->∃σ2,tg (.int (i:Int)) σc=some σ2/\te σ2 st K')(k:K ((List.range n).map f) st):dv tg bV te (λ _=>True) σc (d6 0 n) [] st K:=by
 refine comp_map (g:=λ d=>match d with| .int i=>f i.toNat|_=> .aD) trivial _ (λ d hd K' q=>?_) (by rw[HA];exact k);obtain⟨i,hi,rfl⟩:=HL hd;exact hx i hi K' q
def lQ{tg:fS}{body:DS}{E:kq}(n:Nat)(I:Nat->cf->ag->Prop)(hend:∀σ st,I n σ st->E.nx σ st)
 (hstep:∀(j:Nat) σ st (rest:List D),j<n->I j σ st->(∀σ' st',I (j+1) σ' st'->j_ tg body (λ _=>True) E rest σ' st')->∃σ1,tg (.int (j:Int)) σ=some σ1/\body {E with nx:=j_ tg body (λ _=>True) E rest,ct:=j_ tg body (λ _=>True) E rest,bk:=E.nx} σ1 st)
 {σ:cf} {st:ag} (h0:I 0 σ st):j_ tg body (λ _=>True) E (d6 0 n) σ st:=by
 refine iF (λ rest σ st=>∃j:Nat,j<=n/\rest=(List.range (n-j)).map (λ i=>D.int (((j+i:Nat):Int)))/\I j σ st) ?_ ?_ _ _ _ ⟨0,US _,by unfold d6;simp,h0⟩
 . rintro σ st ⟨j,hj,hr,hI⟩
   have:n-j=0:=by
    cases q:n-j with
    |zero=>rfl
    |succ m=>rw[q,VZ]at hr;cases hr
   have hjn:j=n:=by omega
   subst hjn;exact⟨trivial,hend σ st hI⟩
 . rintro d rest σ st ⟨j,hj,hr,hI⟩ next
   cases q:n-j with
   |zero=>rw[q]at hr;cases hr
   |succ m=>
    rw[q,VZ,UY,Vb]at hr;simp only[W0]at hr;obtain⟨rfl,hrest⟩:=hr;refine⟨trivial,hstep j σ st rest (by omega) hI λ σ' st' h'=>next σ' st' ⟨j+1,by omega,?_,h'⟩⟩;have:n-(j+1)=m:=by omega
    rw[this,hrest];refine Wc λ i _=>?_;show D.int (((j+(i+1):Nat):Int))=D.int (((j+1+i:Nat):Int));congr 2;omega
abbrev DM:=Nat->List D->ag->DK->Prop
def LiftM(r:DM)(rM:V->List V->Hp->VK->Prop):Prop:=∀(α:List (Option Addr)) (G F H:Hp) (st:ag) (K:DK) (Q:VK) (n:Nat) (a:Addr) (ds:List D) (ws:List V),cG G F H->aX α st G->α[n]?=some (some a)->aS α G ds ws->r n ds st K->LK α G F K Q->rM (.ref a) ws H Q
@[irreducible] def tJ(r:DM)(to:DE)(ta:DA):DE:=λ σ st K=>to σ st λ x st1=>match x with
 | .ref n=>(match st1[n]? with|some (.lst _)=>ta σ st1 λ ds st2=>(∃xs,st2[n]?=some (.lst xs))/\r n ds st2 K|_=>False)
 |_=>False
section
variable {X:Cx}
def LE.Tu{r:DM}{rM:V->List V->Hp->VK->Prop}(L:LiftM r rM){to:DE}{ta:DA}{σ:L2.St}{H:Hp}{Q:VK}(h:LE (tJ r to ta) σ H Q):OZ X.K "list" rM (LE to) (LA ta) σ H Q:=by
 obtain⟨α,σd,st,K,G,F,P,R,S,t,k⟩:=h;unfold tJ at t;refine⟨α,σd,st,_,G,F,P,R,S,t,λ x st1 q α1 G1 H1 v s1 P1 S1 r1=>?_⟩;cases x<;>try exact q.elim
 rename_i n;simp only at q;split at q
 . rename_i ys e;obtain⟨p,ep,vs,h1,h2⟩:=S1.gO e;have r1':=d5 ep r1;subst r1';refine⟨.inl ⟨rfl,vs,.inl (.of (P1.get h1))⟩,α1,σd,st1,_,G1,F,P1,R.step s1,S1,q,?_⟩;rintro ds st2 ⟨⟨xs,e2⟩,q2⟩ α2 G2 H2 ws s2 P2 S2 r2;obtain⟨p2,ep2,_⟩:=S2.gO e2
   have:p2=p:=by
    rcases s2.pre _ _ ep with z|z<;>(rw[z]at ep2;cases ep2)
    rfl
   subst this;exact L α2 G2 F H2 st2 K Q n p2 ds ws P2 S2 ep2 r2 q2 ((k.at s1).at s2)
 . exact q.elim
def Qg{r:DM}{rM:V->List V->Hp->VK->Prop}{name:Str}{id:String}(L:LiftM r rM)(slot:Slot "list" name id)(hty:typeOf (.builtin id)=pure (.type "method_descriptor"))(hm:OC X id rM){o e:Expr}{es:List Expr}{to:DE}{ta:DA}{apos cpos:Pos}(ho:PE X o (LE to))(ha:PA X (e::es) (LA ta))
 (hbase:attributeBase o name X.env (eval o X.env)=eval o X.env) (hfew:((backTo cpos (starEach (e::es) X.env)).all (λ x=> !x.1)&&(backToKw cpos (keywordEach [] X.env)).all (λ x=>x.1.isSome)
   &&decide ((e::es).length+([]:List Keyword).length+(if([]:List Keyword).isEmpty then 0 else 1)<30))=true)
 (hline:(apos.endLine==cpos.line)=true) (hs:starEach (e::es) X.env=(false,eval e X.env)::starEach es X.env) (hplain:(backTo cpos (starEach es X.env)).any (·.1)=false):PE X (.Call (.Attribute o name apos) (e::es) [] cpos) (LE (tJ r to ta)):=
 PE.imp (K9 YD slot hty hm ho ha hbase hfew hline hs hplain) λ _ _ _ h=>LE.Tu L h
def qz:DM:=λ n ds st K=>match ds with
 | [.int i]=>(match st[n]? with|some (.lst xs)=>(-(2^63)<=i/\i<2^63)/\(match jV xs.length i with|some j=>(match xs[j]? with|some d=>K d (st.set n (.lst (xs.eraseIdx j)))|none=>False)|none=>False)|_=>False)
 |_=>False
def u7{A B:Type}{F:A->B->Prop}:∀ {xs:List A} {ys:List B} (i:Nat),Paired F xs ys->Paired F (xs.eraseIdx i) (ys.eraseIdx i)
 |_,_,_,.nil=> .nil
 |_,_,0,.cons _ t=>t
 |_,_,i+1,.cons r t=> .cons r (u7 i t)
def Ik:LiftM qz HN:=by
 intro α G F H st K Q n a ds ws P S ea rs q k;unfold qz at q;split at q
 . rename_i i;split at q
   . rename_i xs e;obtain⟨h63,q⟩:=q;split at q
     . rename_i j ej;split at q
       . rename_i d ed;obtain⟨v,rfl,r1⟩:=jf rs rfl;unfold Rep at r1;subst r1;obtain⟨a',ea',vs,h1,h2⟩:=S.gO e;rw[ea]at ea';cases ea';obtain⟨y,ey,ry⟩:=h2.get ed;have hm:some a∈α:=UO ea;refine⟨a,vs,i,j,y,rfl,rfl,P.get h1,h63.1,h63.2,by rw[<-h2.length];exact(zL ej).1,ey,?_⟩;refine k d _ q α (upd G a (.lst (vs.eraseIdx j))) _ y (Step.write hm) (P.write h1) ?_ (ry.step (Step.write hm));exact S.write ea ⟨vs.eraseIdx j,a8,(bJ.mpr (u7 j (bJ.mp h2))).step (Step.write hm)⟩
       . exact q.elim
     . exact q.elim
   . exact q.elim
 . exact q.elim
def N0{o e:Expr}{to te:DE}{apos cpos:Pos}(ho:JE X o to)(he:JE X e te)(hbase:attributeBase o "pop" X.env (eval o X.env)=eval o X.env:=by rfl)(hline:(apos.endLine==cpos.line)=true:=by rfl)(hs:notStar e=true:=by rfl):JE X (.Call (.Attribute o "pop" apos) [e] [] cpos) (tJ qz to (af te ao)):=by
 unfold JE at*;refine Qg Ik PySem.F.slot_list_pop PySem.F.type_list_pop Ks ho (vF he yi (cT hs)) hbase ?_ hline (cT hs) rfl;rw[cT hs];rfl
end
section
variable {X:Cx}{pos:Pos}
end
section
variable {X:Cx}
def zC{M:Model}{A:Around}{E:Value->Shared->Prop}{s:Shared}{Q:Value->Shared->Prop}{x:V}{v:Value}{b:Bool}(r:RelV x v)(h:Q (.bool (!(v== .bool b))) s):wpAny M A (compareOp .IsNot v (.bool b)) Q E s:=by
 cases x
 case bl c=>
  cases r;cases c<;>cases b<;>exact Uw h
 all_goals first
  |(cases r;exact Uw h)
  |(obtain⟨t,rfl⟩:=r;exact Uw h)
def BA:du:=λ x y st K=>match y with| .aD=>live st x=true/\K (.bl (!KS x)) st| .bl b=>live st x=true/\K (.bl (!IQ x b)) st|_=>False
def Ku:ck X (compareOp .IsNot) (LR BA):=λ pins s σ H x y v u Q I rx ry ⟨α,d,e,st,K,G,F',P,r1,r2,S,q,k⟩=>by
 cases e<;>try exact q.elim
 . refine Na pins s σ H x y v u Q I rx ry ⟨α,d,.aD,st,K,G,F',P,r1,r2,S,⟨q.1,?_⟩,k⟩;have q2:=q.2;cases d<;>exact q2
 . rename_i b;unfold Rep at r2;subst r2;cases ry;refine zC rx ?_;rw[EE S q.1 r1 rx];exact⟨.bl (!IQ d b),H,I,rfl,k.here P q.2 S (by unfold Rep;rfl)⟩
@[irreducible] def tN:du:=BA
def C3:ck X (compareOp .IsNot) (LR tN):=by unfold tN;exact Ku
end
section
variable {st:ag}{K:DK}{d:D}{b:Bool}
def sJ(h:live st d=true)(k:K (.bl (!KS d)) st):tN d .aD st K:=by unfold tN;exact⟨h,k⟩
end
section
variable {X:Cx}
def Nd{o i elt:Expr}{gs:List Comprehension}{sc:Scope}{p:Pos}{to ti te:TE}{pos pos':Pos}(he:PE X (.ListComp elt gs sc p) te)(ho:PE X o to)(hi:PE X i ti)(h2:lg i=true:=by rfl):PS X (.Assign [.Subscript o i pos'] (.ListComp elt gs sc p) pos) (oG te (Cs to ti x8)):=
 C5 he (GH ho hi set_list (by intro v;cases i<;>first|rfl|cases h2)) (by unfold swapsWithSole swapsWith;rfl) rfl rfl
def Ie{o i elt:Expr}{gs:List Comprehension}{sc:Scope}{p pos pos':Pos}{te to ti:DE}(he:JE X (.ListComp elt gs sc p) te)(ho:JE X o to)(hi:JE X i ti)(h2:lg i=true:=by rfl):JS X (.Assign [.Subscript o i pos'] (.ListComp elt gs sc p) pos) (fy to ti te):=by
 unfold JS;unfold JE at*;exact CW (Nd he ho hi h2)
end
end L3
namespace L3
open PySem L2
open PySem.Spec hiding items?
open PyProof.Rows hiding St
open AutoSeq1 (wpAny_loadPart')
def Nw{P:Program}{w:World}{A:Around}(hh:A.handled=none)(k:SK)(t a:Addr)(hne:a≠t)(us:Array Value):Draws P w A t [t,a] us.size (λ i v=>us[i]?=some v) (λ n g=>uo k t a n g/\oh k g a us) where
 live:=λ i h z=>((o6 (P:=P) (w:=w) k t a hne us).lv i h z).1
 frame:=λ i h h' z kp=>(o6 (P:=P) (w:=w) k t a hne us).fr i h h' z λ b hb o e=>kp b (by rcases hb with rfl|rfl<;>simp) o e
 item:=λ i s Q E hi z q=>(o6 (P:=P) (w:=w) k t a hne us).nx i A s Q E us[i] z (by simp[hi]) λ g j sb=>q _ g s.toks (by simp[hi]) j sb
 done:=λ s Q E z q=>(o6 (P:=P) (w:=w) k t a hne us).en us.size A s Q E hh z (by simp) q
def ue(l:Addr)(items:Array Value)(n:Nat)(dct:Option Addr)(sl:Array (Option Value)):
 Meets (Builtin.«enumerate.__new__» ⟨[.type "enumerate",.ref l],[]⟩) (λ _ R s=>s.heap.get? l=some {cls:= .type "tuple",dict:=dct,data:= .seq items n,slots:=sl}/\
  R (.ok (.ret (.ref (s.heap.push {cls:= .type "tuple_iterator",data:= .fields #[.ref l,.int 0 0]}).objs.size)))
   {s with heap:=(s.heap.push {cls:= .type "tuple_iterator",data:= .fields #[.ref l,.int 0 0]}).push {cls:= .type "enumerate",data:= .fields #[.none,.bool false,.ref s.heap.objs.size,rawInt 0,.none,.none]}}):=
 .of_wp λ prog w A R s h=>by
  obtain⟨hp,g,d,tk,os⟩:=s;obtain⟨hl,h⟩:=h;have hsub:=sub_enumerate;have hL:Heap.IsTuple (Shared.heap ⟨hp,g,d,tk,os⟩) l items:=⟨_,hl,rfl,n,rfl⟩
  wp_walk using wpAny_loadPart' hl
  refine wpAny_stack_any λ st=>Uw ?_;split
  . rename_i c _ _ _ _ _;cases (c==Value.type "enumerate")
    . wp_walk using wpAny_loadPart' hl,WK hL
      exact⟨_,rfl,h⟩
    . wp_walk using wpAny_loadPart' hl,WK hL
      exact⟨_,rfl,h⟩
  . wp_walk using wpAny_loadPart' hl,WK hL
    exact⟨_,rfl,h⟩
def IS{P:Program}{w:World}{A:Around}{s:Shared}{E:Value->Shared->Prop}{k:SK}{a:Addr}{us:Array Value}{Q:Value->Shared->Prop}(c:oh k s.heap a us)
 (q:∀g,IsEnum g (s.heap.objs.size+1) s.heap.objs.size 0 .none->uo k s.heap.objs.size a 0 g->(∀b o,s.heap.get? b=some o->g.get? b=some o)->Q (.ref (s.heap.objs.size+1)) {s with heap:=g}):
 wpAny (model P w) A (call (.type "enumerate") [.ref a]) Q E s:=by
 cases k
 . exact call_enumerate_list c λ g h1 h2 _ h4=>q g h1 h2 h4
 . obtain⟨⟨c,dct,dt,sl⟩,hl,hc,n,hd⟩:=c;replace hc:c= .type "tuple":=hc;replace hd:dt= .seq us n:=hd;subst hc hd
   refine callType_new F.called_enumerate (by decide) (F.typeCall_enumerate_1 _) (F.newCall_enumerate_1 _) (λ obj=>F.args_object_init_2 obj _) F.entry_enumerate_new
    (ue a us n dct sl) ⟨hl,?_⟩
   have hz:(s.heap.push {cls:= .type "tuple_iterator",data:= .fields #[.ref a,.int 0 0]}).objs.size=s.heap.objs.size+1:=VC ..;show _/\_;rw[hz]
   have he:IsEnum ((s.heap.push {cls:= .type "tuple_iterator",data:= .fields #[.ref a,.int 0 0]}).push
    {cls:= .type "enumerate",data:= .fields #[.none,.bool false,.ref s.heap.objs.size,rawInt 0,.none,.none]}) (s.heap.objs.size+1) s.heap.objs.size 0 .none:=by
    have:=UN (s.heap.push {cls:= .type "tuple_iterator",data:= .fields #[.ref a,.int 0 0]})
     (o:={cls:= .type "enumerate",data:= .fields #[.none,.bool false,.ref s.heap.objs.size,rawInt 0,.none,.none]}) rfl
    rw[hz]at this;exact this
   exact⟨⟨_,he,rfl⟩,q _ he ⟨_,Uo _ (UN _ rfl),rfl,rfl⟩ λ b o x=>Uo _ (Uo _ x)⟩
def Sn(K:PySem.W.Frag)(k:SK)(a:Addr):It:=
 ⟨λ i H=>∃xs x,sr k K H a xs/\xs[i]?=some x,
  λ i H v H'=>∃T x,H T=none/\v= .ref T/\H'=upd H T (.tup [.int (i:Int),x])/\∀xs,sr k K H a xs->xs[i]?=some x,
  λ i H=>∃xs,sr k K H a xs/\xs.length<=i⟩
def SJ(e t a:Addr)(k:SK)(i:Nat)(h:Heap):Prop:=(∃old,IsEnum h e t i old)/\uo k t a i h
def Hl{P:Program}{w:World}{K:PySem.W.Frag}{elts:List Expr}{kx:Nat}{pos:Pos}{e t a:Addr}(k:SK)(n1:e≠t)(n2:a≠e)(n3:a≠t):
 Turn P w K (.Tuple elts kx pos) (Sn K k a) [e,t] e (SJ e t a k) where
 mem:=by simp
 obj:=λ i h st b hb=>by
  obtain⟨⟨old,he⟩,i1⟩:=st;simp only[UK,UU,WO]at hb;rcases hb with rfl|rfl
  . exact⟨_,he,λ v z=>by cases z⟩
  . exact pM i1
 keep:=λ i h h' st kp=>by
  obtain⟨⟨old,he⟩,i1⟩:=st;exact⟨⟨old,kp e (by simp) _ he⟩,sG i1 (kp t (by simp))⟩
 item:=by
  intro X hP hw hK hc i pins s σ H E I hf st hg;subst hP hw hK;obtain⟨⟨old,he⟩,i1⟩:=st;obtain⟨xs,x,q1,ex⟩:=hg;obtain⟨us,r1,l1⟩:=mJ I q1;obtain⟨u,eu,ru⟩:=r1.get ex
  have hlt:i<us.toArray.size:=by
   have:=(Ui.mp eu).1;simpa using this
  refine wpAny_pyNext_enum_itemD (Nw (A:=X.A.in1) (show X.A.in1.handled=none from I.ok.hd hc) k t a n3 us.toArray) he ⟨i1,l1⟩ hlt n1 (by simp only[UK,UU,WO,W7];exact⟨n1,Uy n2⟩) λ y h' tk py ho hs hT hsz kp=>⟨_,rfl,?_⟩
  have hy:y=u:=by
   have:us[i]?=some y:=by simpa using py
   rw[eu]at this;cases this;rfl
  subst hy;refine wpAny_letOwnedTupleGo_enum (s:={s with heap:=h',toks:=tk+1}) ho λ k' he' sb=>?_;have hTe:s.heap.objs.size≠e:=Wy (UA he)
  have kp3:∀b o,b∉[e,t]->s.heap.get? b=some o->k'.get? b=some o:=λ b o hb eb=>by
   simp only[UK,W7,UU,Vt,WQ]at hb;exact sb.extBut _ _ hb.1 (kp b o hb.1 hb.2 eb)
  refine⟨.ref s.heap.objs.size,upd H s.heap.objs.size (.tup [.int (i:Int),x]),Ld (s:=s) (tk:=tk+1) I hf kp3 (Uk _) ?_,rfl,⟨s.heap.objs.size,x,I.aO.fresh (Uk _),rfl,rfl,?_⟩,?_,?_⟩
  . refine⟨Ux rfl,[.int (i:Int) tk,y],.cons ⟨tk,rfl⟩ (.cons ru .nil),?_⟩;exact⟨_,sb.extBut _ _ hTe hT,rfl,_,rfl⟩
  . intro xs' q';rw[zt I q' q1];exact ex
  . refine⟨⟨_,by simpa using he'⟩,sG hs.1 λ o eo=>sb.extBut _ _ (Uy n1) eo⟩
  . intro b hb
    have:b≠s.heap.objs.size:=by
     obtain⟨o,eb⟩:∃o,s.heap.get? b=some o:=by
      simp only[UK,UU,WO]at hb;rcases hb with rfl|rfl
      . exact⟨_,he⟩
      . obtain⟨o,eo,_⟩:=pM i1;exact⟨o,eo⟩
     exact UR (UA eb)
    rw[aE this];exact(hf b hb).1
 done:=by
  intro X hP hw hK hc i pins s σ H E I hf st hg;subst hP hw hK;obtain⟨⟨old,he⟩,i1⟩:=st;obtain⟨xs,q1,hle⟩:=hg;obtain⟨us,r1,l1⟩:=mJ I q1;have e1:=r1.length;have tz:s.TypeIs (.ref e) "enumerate":=⟨_,he,rfl⟩
  unfold pyNext;refine Uj (Yd (VG (name:=Str.ofString "__next__") tz F.slot_enumerate_next (We F.slot_enumerate_next tz F.entry_enumerate_next ?_ (F.args_enumerate_next_1 _))));show wpAny _ _ (field (.ref e) 2 >>= _) _ _ _;refine Uj (Vy he rfl (x:= .ref t) rfl ?_);refine Uj ((o6 k t a n3 us.toArray).en i _ s _ _ (I.ok.hd hc) ⟨i1,l1⟩ (by simp;omega) λ g x sb hx=>?_);obtain⟨o,ho,hc2⟩:=hx;refine Uj (wpAny_isInstance (T:="StopIteration") (b:=true) ⟨o,ho,hc2⟩ isSubtype_stop ?_);refine Uw ⟨rfl,K3 (s:=s) (tk:=s.toks) I hf λ b o hb eb=>?_⟩;simp only[UK,W7,UU,Vt,WQ]at hb;exact sb b o hb.2 eb
 self:=λ _ _ _ _ _ st h=>wpAny_pyIter_enum st.1.choose_spec h
def g4:Nat->List D->List D
 |_,[]=>[]
 |i,x::xs=> .tup [.int (i:Int),x]::g4 (i+1) xs
def AE:∀ {xs:List D} {i:Nat},(g4 i xs).length=xs.length
 | [],_=>rfl
 |_::xs,i=>by unfold g4;rw[UT,UT,AE]
def uR:∀ {xs:List D} {i n:Nat} {d:D},(g4 i xs)[n]?=some d->∃x,xs[n]?=some x/\d= .tup [.int ((i+n:Nat):Int),x]
 | [],_,_,_,e=>by unfold g4 at e;cases e
 |x::xs,i,0,d,e=>by
  unfold g4 at e;rw[List.getElem?_cons_zero]at e;cases e;exact⟨x,rfl,rfl⟩
 |x::xs,i,n+1,d,e=>by
  unfold g4 at e;rw[Xe]at e;obtain⟨y,h1,h2⟩:=uR e;refine⟨y,by rw[Xe];exact h1,?_⟩;rw[h2,show i+1+n=i+(n+1) by omega]
def MQ{K:PySem.W.Frag}{k:SK}{a:Addr}{α:List (Option Addr)}{G:Hp}{ok:ag->Prop}{xs:List D}
 (h:∀α' G' st',Step α G α' G'->aX α' st' G'->ok st'->∃vs,HQ k G' a vs/\aS α' G' xs vs):xq (Sn K k a) α G ok (g4 0 xs) where
 stop:=λ n α' G' F' H' st' s P S o hn=>by
  obtain⟨vs,h1,r1⟩:=h α' G' st' s S o;rw[AE]at hn;refine⟨vs,kX P h1,?_⟩;have:=r1.length;omega
 go:=λ n d α' G' F' H' st' s P S o hn=>by
  obtain⟨vs,h1,r1⟩:=h α' G' st' s S o;obtain⟨x,ex,rfl⟩:=uR hn;obtain⟨v,ev,_⟩:=r1.get ex;exact⟨vs,v,kX P h1,ev⟩
 qJ:=λ n d α' G' F' H' st' x H'' s P S o hn y=>by
  obtain⟨vs,h1,r1⟩:=h α' G' st' s S o;obtain⟨c,ec,rfl⟩:=uR hn;obtain⟨T,v,hT,rfl,rfl,y1⟩:=y;obtain⟨v',ev,rv⟩:=r1.get ec;rw[y1 vs (kX P h1)]at ev;cases ev;have hg:=(P.none hT).1;refine⟨upd G' T (.tup [.int (n:Int),v]),Step.laid hg,P.laid hT,S.laid hg,?_⟩;unfold Rep;refine⟨T,[.int (n:Int),v],rfl,S.mI hg,a8,?_⟩;unfold aS;refine⟨.int (n:Int),[v],rfl,?_,?_⟩
  . unfold Rep;rw[W8]
  unfold aS;exact⟨v,[],rfl,rv.step (Step.laid hg),by unfold aS;rfl⟩
def Fg(ds:List D)(st1:ag)(K:List D->(ag->Prop)->ag->Prop):Prop:=match ds with
 | [x]=>(match items? st1 x with
   |some xs=>K (g4 0 xs) (λ st'=>items? st' x=some xs) st1
   |_=>False)
 |_=>False
@[irreducible] def uW:List D->ag->(List D->(ag->Prop)->ag->Prop)->Prop:=Fg
def Bf(t:DA):DI:=λ σ st K=>t σ st λ ds st1=>uW ds st1 K
def IU:bootBuiltins "enumerate"=some (.type "enumerate"):=by decide+kernel
def MH{X:Cx}{a:Expr}{elts:List Expr}{kx:Nat}{tpos p pos:Pos}{t:DA}(hg:Gl X "enumerate")(hm:X.mg "enumerate"=none)(ha:PA X [a] (LA t))(hs:starEach [a] X.env=[(false,eval a X.env)]):
 PI X (.Tuple elts kx tpos) (.Call (.Name "enumerate" p) [a] [] pos) (LI (Bf t)):=by
 intro pins s σ H R I h;obtain⟨α,σd,st,K,G,F,P,RS,S,t,k⟩:=h;refine Call_ (mn I hg hm IU (VF (cw (ha pos pins s σ H (λ vs H1=>∃ds α1 G1 st1,Step α G α1 G1/\cG G1 F H1/\aX α1 st1 G1/\aS α1 G1 ds vs/\uW ds st1 K) I ⟨α,σd,st,_,G,F,P,RS,S,t,λ ds st1 q α1 G1 H1 vs s1 P1 S1 r1=>⟨ds,α1,G1,st1,s1,P1,S1,r1,q⟩⟩) λ us s1 ⟨vs,H1,I1,rv,ds,α1,G1,st1,w1,P1,S1,r1,q⟩=>?_) (by rw[hs];rfl) (by rfl)));unfold uW Fg at q;split at q
 . rename_i x;split at q
   . rename_i xs ex;obtain⟨v1,rfl,q1⟩:=jf r1 rfl;obtain⟨p1,vs1,rfl,g1,c1⟩:=pK S1 q1 ex;obtain⟨u1,rfl,ru1⟩:=vals1 rv;cases ru1;obtain⟨its1,_,l1⟩:=mJ I1 (kX P1 c1);refine IS l1 λ g he i1 kp=>?_;obtain⟨o1,eo1⟩:=l1.some;have hp1:p1<s1.heap.objs.size:=UA eo1;refine wpAny_pyIter_enum (s:={s1 with heap:=g}) he ?_;refine⟨s1.heap.objs.size+1,[s1.heap.objs.size+1,s1.heap.objs.size],_,_,H1,rfl,I1.kept (t':=s1.toks) kp,Hl (LJ x) (Wy (UZ _)) (UR (Va hp1)) (UR hp1),⟨⟨_,he⟩,i1⟩,λ b hb=>?_,?_⟩
     . have hb':s1.heap.objs.size<=b:=by
        simp only[UK,UU,WO]at hb;rcases hb with rfl|rfl
        . exact XR _
        . exact Uk _
       exact I1.w4 hb' (I1.aO.fresh hb')
     . refine k _ _ st1 q _ α1 G1 H1 w1 P1 S1 (MQ λ α' G' st' s' S' o=>?_);obtain⟨p1',ws1,e1,f1,d1⟩:=pK S' (q1.step s') o;cases e1;exact⟨ws1,d1,f1⟩
   . exact q.elim
 . exact q.elim
def D9{st:ag}{x:D}{xs:List D}{K:List D->(ag->Prop)->ag->Prop}(ex:items? st x=some xs)(k:∀ok:ag->Prop,(∀st',items? st' x=some xs->ok st')->K (g4 0 xs) ok st):uW [x] st K:=by
 unfold uW Fg;simp only[ex];exact k _ λ st' h1=>h1
def IV{X:Cx}{a:Expr}{elts:List Expr}{kx:Nat}{tpos p pos:Pos}{ar:DA}(hg:Gl X "enumerate")(hm:X.mg "enumerate"=none)(ha:JA X [a] ar)(hs:notStar a=true:=by rfl):JI X (.Tuple elts kx tpos) (.Call (.Name "enumerate" p) [a] [] pos) (Bf ar):=by
 unfold JI;unfold JA at ha;exact MH hg hm ha (cT hs)
end L3
namespace L3
open PySem L2
open PySem.Spec hiding items?
open PyProof.Rows hiding St
section
variable {prog:Program}{w:World}{A:Around}{E:Value->Shared->Prop}{s:Shared}
end
section
variable {X:Cx}{tg:Expr}
end
section
variable {X:Cx}
end
end L3
namespace L3
open PySem L2
open PySem.Spec hiding items?
open PyProof.Rows hiding St
open PySem PySem.Spec L2 PySem.SeqAt
section
variable {X:Cx}
end
end L3
namespace L3
open PySem L2
open PySem.Spec hiding items?
open PyProof.Rows hiding St
section
variable {X:Cx}
def ML{k:Nat}{x:Str}{e:Expr}{te:DE}{pos pos':Pos}(hN:X.N.Nodup)(hx:Loc X.env.scope x)(he:JE X e te)(hsw:swapsWith e (some (.Name x pos')) pos.line X.env=pure false:=by rfl)(hf:X.fn x=true\/X.env.scope.names.lookup x=some .local:=by first|exact .inl rfl|exact .inr rfl)(hi:X.N[k]?=some x:=by rfl):JS X (.Assign [.Name x pos'] e pos) (bo k te):=by
 unfold JS;unfold JE at he;exact II (GR hN hi hx he hsw hf)
end
def kill:List Nat->ag->ag
 | [],st=>st
 |c::cs,st=>kill cs (st.set c .dead)
def D_:∀ {cs:List Nat} {st:ag} {m:Nat},m∉cs->(kill cs st)[m]?=st[m]?
 | [],_,_,_=>rfl
 |c::cs,st,m,h=>by
  unfold kill;have hc:c≠m:=λ z=>h (by rw[z];exact UP);rw[D_ λ z=>h (UG _ z),Ul hc]
def B0:∀ {cs:List Nat} {st:ag},(kill cs st).length=st.length
 | [],_=>rfl
 |c::cs,st=>by unfold kill;rw[B0,UC]
def Eg{G:Hp}:∀(cs:List Nat) (xss:List (List D)) {α:List (Option Addr)} {st:ag} {vs:List V},aX α st G->aS α G (cs.map D.ref) vs->cs.Nodup->cs.length=xss.length->(∀(k c:Nat) (xs:List D),cs[k]?=some c->xss[k]?=some xs->st[c]?=some (.lst xs))->∃α',Step α G α' G/\aX α' (kill cs st) G/\aS α' G (xss.map D.lst) vs
 | [],[],α,st,vs,S,r,_,_,_=>⟨α,Step.refl,S,r⟩
 |c::cs,xs::xss,α,st,vs,S,r,nd,hl,h=>by
  have e:=h 0 c xs rfl rfl
  obtain⟨v,vs',rfl,r1,r2⟩:∃v r,vs=v::r/\Rep α G (.ref c) v/\aS α G (cs.map D.ref) r:=by
   rw[UY]at r;unfold aS at r;exact r
  obtain⟨hc,nd⟩:=V7.mp nd;have S1:=S.fe (Ui.mp e).1
  obtain⟨α',s,S2,r3⟩:=Eg cs xss S1 (r2.step Step.fe) nd (by simpa using hl) λ k d ys e1 e2=>by
   have hd:c≠d:=λ z=>hc (z▸UO e1);rw[Ul hd];exact h (k+1) d ys (by simpa using e1) (by simpa using e2)
  refine⟨α',Step.fe.trans s,S2,?_⟩;rw[UY];unfold aS;exact⟨v,vs',rfl,(S.zR e r1).step s,r3⟩
@[irreducible] def vD(i:Nat)(t:DS):DS:=λ D σ st=>∃(n:Nat) (cs:List Nat) (xss:List (List L3.D)),σ[i]?=some (some (.ref n))/\st[n]?=some (.lst (cs.map L3.D.ref))/\cs.Nodup/\n∉cs/\cs.length=xss.length/\(∀(k c:Nat) (xs:List L3.D),cs[k]?=some c->xss[k]?=some xs->st[c]?=some (.lst xs))/\t D (σ.set i (some (.lst (xss.map L3.D.lst)))) (kill (n::cs) st)
section
variable {X:Cx}
def Mr{s:Stmt}{i:Nat}{t:DS}(h:PS X s (LS t)):PS X s (LS (vD i t)):=PS.imp h λ D σ H ⟨α,σd,st,DD,G,F,P,R,S,q,k⟩=>by
 unfold vD at q;obtain⟨n,cs,xss,e,e2,nd,hn,hl,hc,q⟩:=q;have hlt:n<st.length:=(Ui.mp e2).1;obtain⟨v,ev,rv⟩:=R.at' i _ e;have r1:=S.zR e2 rv;unfold Rep at r1;obtain⟨a,vs,rfl,na,h1,h2⟩:=r1
 obtain⟨α',s1,S2,r3⟩:=Eg cs xss (S.fe hlt) h2 nd hl λ k c xs e1 e2=>by
  have hd:n≠c:=λ z=>hn (z▸UO e1);rw[Ul hd];exact hc k c xs e1 e2
 have s:Step α G α' G:=Step.fe.trans s1
 have r4:Rep α' G (.lst (xss.map L3.D.lst)) (.ref a):=by
  unfold Rep;refine⟨a,vs,rfl,λ z=>?_,h1,r3⟩;have:=s1.new a z na;rcases h1 with h1|⟨ob,h1⟩<;>(rw[this]at h1;cases h1)
 have R2:eN α' G (σd.set i (some (.lst (xss.map L3.D.lst)))) (σ.set i (some (.ref a))):=(R.step s).set i r4
 have es:σ.set i (some (.ref a))=σ:=by
  refine List.ext_getElem? λ j=>?_;by_cases hj:i=j
  . subst hj;rw[Uq (Ui.mp ev).1,ev]
  . rw[Ul hj]
 rw[es]at R2;exact⟨α',_,_,DD,G,F,P,R2,S2,q,k.at s⟩
def Mb{s:Stmt}{i:Nat}{t:DS}(h:JS X s t):JS X s (vD i t):=by unfold JS at*;exact Mr h
end
def MM{σ:cf}{st:ag}{E:kq}{i n:Nat}{t:DS}{cs:List Nat}{xss:List (List L3.D)}(e:σ[i]?=some (some (.ref n)))(e2:st[n]?=some (.lst (cs.map L3.D.ref)))(nd:cs.Nodup)(hn:n∉cs)(hl:cs.length=xss.length)(hc:∀(k c:Nat) (xs:List L3.D),cs[k]?=some c->xss[k]?=some xs->st[c]?=some (.lst xs))(k:t E (σ.set i (some (.lst (xss.map L3.D.lst)))) (kill (n::cs) st)):vD i t E σ st:=by
 unfold vD;exact⟨n,cs,xss,e,e2,nd,hn,hl,hc,k⟩
section
variable {X:Cx}
end
section
variable {P:Program}{w:World}
section
variable {z ti to t1 t2 t3 a1 a2 a3:Addr}
end
end
section
variable {X:Cx}
end
end L3
namespace L3
open PySem L2
open PySem.Spec hiding items?
open PyProof.Rows hiding St
open Sem (wp)
section
variable {prog:Program}{w:World}{A:Around}{s:Shared}{E:Value->Shared->Prop}
end
section
variable {prog:Program}{w:World}{A:Around}{R:Result->Shared->Prop}{I:Addr}{fp wr:List Addr}{G:Array GenState->Array GenState->Prop}{n:Nat}{P:Nat->Value->Prop}{Sx:Nat->Shared->Prop}
end
section
variable {prog:Program}{w:World}{A:Around}{E:Value->Shared->Prop}{s:Shared}
end
section
variable {X:Cx}{pins:List (Addr×Obj)}{σ:L2.St}{H:Hp}{s:Shared}{α:List (Option Addr)}
end
end L3
namespace L3
open PySem L2
open PySem.Spec hiding items?
open PyProof.Rows hiding St
section
variable {X:Cx}
end
def putD(f:Str)(v:D):List (Str×D)->List (Str×D)
 | []=>[(f,v)]
 |(g,x)::r=>if g=f then(g,v)::r else(g,x)::putD f v r
def lj.look{α:List (Option Addr)}{H:Hp}{f:Str}{v:D}:∀ {fs:List (Str×D)} {vs:List (Str×V)},lj α H fs vs->fs.lookup f=some v->∃u,vs.lookup f=some u/\Rep α H v u
 | [],_,_,e=>by cases e
 |(g,x)::fs,_,.cons (b:=q) h t,e=>by
  obtain⟨g',y⟩:=q;obtain⟨h1,h2⟩:=h;simp only at h1 h2;subst h1;rw[Ve]at e⊢;cases hb:f==g with
  |true=>rw[hb]at e;cases e;exact⟨y,rfl,h2⟩
  |false=>rw[hb]at e;exact lj.look t e
def lj.none{α:List (Option Addr)}{H:Hp}{f:Str}:∀ {fs:List (Str×D)} {vs:List (Str×V)},lj α H fs vs->fs.lookup f=Option.none->vs.lookup f=Option.none
 | [],_,.nil,_=>rfl
 |(g,x)::fs,_,.cons (b:=q) h t,e=>by
  obtain⟨g',y⟩:=q;obtain⟨h1,h2⟩:=h;simp only at h1 h2;subst h1;rw[Ve]at e⊢;cases hb:f==g with
  |true=>rw[hb]at e;cases e
  |false=>rw[hb]at e;exact lj.none t e
def lj.put{α:List (Option Addr)}{H:Hp}{f:Str}{d:D}{v:V}(r:Rep α H d v):∀ {fs:List (Str×D)} {vs:List (Str×V)},lj α H fs vs->lj α H (putD f d fs) (iX f v vs)
 | [],_,.nil=> .cons ⟨rfl,r⟩ .nil
 |(g,x)::fs,_,.cons (b:=q) h t=>by
  obtain⟨g',y⟩:=q;obtain⟨h1,h2⟩:=h;simp only at h1 h2;subst h1;unfold putD iX;by_cases hb:g=f
  . rw[Ur hb,Ur hb];exact .cons ⟨rfl,r⟩ t
  . rw[Up hb,Up hb];exact .cons ⟨rfl,h2⟩ (lj.put r t)
def Ju(C:Addr)(f:Str)(d:D)(st:ag)(K:DK):Prop:=match d with
 | .ref n=>(match st[n]? with|some (.ins C' fs)=>C'=C/\∃v,fs.lookup f=some v/\K v st|_=>False)
 |_=>False
@[irreducible] def FX(C:Addr)(f:Str):D->ag->DK->Prop:=Ju C f
def eS(C:Addr)(f:Str)(te:DE):DE:=λ σ st K=>te σ st λ d st1=>FX C f d st1 K
def c_{C:Addr}{f:Str}{n:Nat}{st:ag}{K:DK}{fs:List (Str×D)}{v:D}(e:st[n]?=some (.ins C fs))(h:fs.lookup f=some v)(k:K v st):FX C f (.ref n) st K:=by
 unfold FX Ju;simp only[e];exact⟨trivial,v,h,k⟩
def F_(C:Addr)(f:Str)(x d:D)(st:ag)(K:ag->Prop):Prop:=match x with
 | .ref n=>(match st[n]? with|some (.ins C' fs)=>C'=C/\fs.length<1000/\K (st.set n (.ins C (putD f d fs)))|_=>False)
 |_=>False
@[irreducible] def Br(C:Addr)(f:Str):D->D->ag->(ag->Prop)->Prop:=F_ C f
def qE(C:Addr)(f:Str)(to te:DE):DS:=λ D σ st=>te σ st λ d st1=>to σ st1 λ x st2=>Br C f x d st2 λ st3=>D.nx σ st3
def pJ{C:Addr}{f:Str}{n:Nat}{d:D}{st:ag}{K:ag->Prop}{fs:List (Str×D)}(e:st[n]?=some (.ins C fs))(h:fs.length<1000)(k:K (st.set n (.ins C (putD f d fs)))):Br C f (.ref n) d st K:=by
 unfold Br F_;simp only[e];exact⟨trivial,h,k⟩
def Fc(C:Addr)(m:Str)(x:D)(st:ag)(k:Prop):Prop:=match x with
 | .ref n=>(match st[n]? with|some (.ins C' fs)=>C'=C/\fs.lookup m=none/\k|_=>False)
 |_=>False
@[irreducible] def Bi(C:Addr)(m:Str):D->ag->Prop->Prop:=Fc C m
def lS{C:Addr}{m:Str}{n:Nat}{st:ag}{k:Prop}{fs:List (Str×D)}(e:st[n]?=some (.ins C fs))(h:fs.lookup m=none)(q:k):Bi C m (.ref n) st k:=by
 unfold Bi Fc;simp only[e];exact⟨trivial,h,q⟩
def kM(C:Addr)(m:Str)(S:cy)(to:DE)(t:DA):DE:=λ σ st K=>to σ st λ x st1=>Bi C m x st1 (t σ st1 λ ds st2=>S (x::ds) st2 K)
def E3(C:Addr)(S:cy)(t:DA):DE:=λ σ st K=>t σ st λ ds st1=>S (.ref st1.length::ds) (st1++[.ins C []]) λ r st2=>r= .aD/\K (.ref st1.length) st2
section
variable {X:Cx}{C f g:Addr}{fd:FuncData}{k:Nat}{x m fl:Str}{e o value:Expr}{es:List Expr}{p pos pos' apos:Pos}{te to:DE}{t:DA}{S:cy}{ps:List Str}
def Rz(c:pU X.K C)(na:g0 X.K C fl)(he:PE X e (LE te))(hb:attributeBase e fl X.env (eval e X.env)=eval e X.env):PE X (.Attribute e fl pos) (LE (eS C fl te)):=PE.imp (NZ he hb) λ σ H Q ⟨α,σd,st,K,G,F,P,R,S,t,k⟩=>by
 refine⟨α,σd,st,_,G,F,P,R,S,t,λ d st1 q α1 G1 H1 v s1 P1 S1 r1=>?_⟩;unfold FX Ju at q;cases d<;>try exact q.elim
 simp only at q;split at q
 . rename_i C' fs e';obtain⟨rfl,w,hw,q⟩:=q;obtain⟨a,ea,dx,vs,h1,h2⟩:=S1.Bw e';have r1':=d5 ea r1;subst r1';obtain⟨u,hu,ru⟩:=h2.look hw;exact⟨a,_,dx,vs,u,rfl,P1.get h1,c,na,hu,(k.at s1).here P1 q S1 ru⟩
 . exact q.elim
def Oa(c:pU X.K C)(na:g0 X.K C fl)(ho:PE X o (LE to))(hv:PE X value (LE te))(hs:swapsWith value (some (.Attribute o fl pos')) pos.line X.env=pure false):PS X (.Assign [.Attribute o fl pos'] value pos) (LS (qE C fl to te)):=PS.imp (NJ ho hv hs) λ D σ H ⟨α,σd,st,DD,G,F,P,R,S,t,k⟩=>by
 refine⟨α,σd,st,_,G,F,P,R,S,t,λ d st1 q α1 G1 H1 v s1 P1 S1 r1=>?_⟩;refine⟨α1,σd,st1,_,G1,F,P1,R.step s1,S1,q,λ x st2 q2 α2 G2 H2 v2 s2 P2 S2 r2=>?_⟩;unfold Br F_ at q2;cases x<;>try exact q2.elim
 simp only at q2;split at q2
 . rename_i C' fs e';obtain⟨rfl,hl,q2⟩:=q2;obtain⟨a,ea,dx,vs,h1,h2⟩:=S2.Bw e';have r2':=d5 ea r2;subst r2';have hm:some a∈α2:=UO ea;have lv:vs.length<1000:=by rw[<-h2.length];exact hl
   refine⟨a,_,dx,vs,rfl,P2.get h1,c,na,lv,?_⟩;refine((k.nx.at s1).at s2) σd _ q2 α2 (upd G2 a (.ins _ dx (iX fl v vs))) _ σ (Step.write hm) (P2.write h1) (((R.step s1).step s2).step (Step.write hm)) ?_;exact S2.write ea ⟨dx,iX fl v vs,a8,(h2.put (r1.step s2)).step (Step.write hm)⟩
 . exact q2.elim
def LE.RC{σ:L2.St}{H:Hp}{Q:VK}(h:LE (kM C m S to t) σ H Q):LB C m (cD S) [] E0 (LE to) (LA t) σ H Q:=by
 obtain⟨α,σd,st,K,G,F,P,R,Sr,tt,k⟩:=h;refine⟨α,σd,st,_,G,F,P,R,Sr,tt,λ d st1 q α1 G1 H1 v s1 P1 S1 r1=>?_⟩;unfold Bi Fc at q;cases d<;>try exact q.elim
 simp only at q;split at q
 . rename_i n C' fs e';obtain⟨rfl,hl,q⟩:=q;obtain⟨a,ea,dx,vs,h1,h2⟩:=S1.Bw e';have r1':=d5 ea r1;subst r1';refine⟨a,dx,vs,rfl,P1.get h1,h2.none hl,?_⟩;refine⟨α1,σd,st1,_,G1,F,P1,R.step s1,S1,q,λ ds st2 q2 α2 G2 H2 us s2 P2 S2 r2=>?_⟩;try dsimp only
   rw[VW];exact⟨α2,_,st2,K,G2,F,P2,by unfold aS;exact⟨_,_,rfl,r1.step s2,r2⟩,S2,q2,(k.at s1).at s2⟩
 . exact q.elim
def LE.make{σ:L2.St}{H:Hp}{Q:VK}(h:LE (E3 C S t) σ H Q):K6 C (cD S) [] E0 (LA t) σ H Q:=by
 obtain⟨α,σd,st,K,G,F,P,R,Sr,tt,k⟩:=h;refine⟨α,σd,st,_,G,F,P,R,Sr,tt,λ ds st1 q α1 G1 H1 us s1 P1 S1 r1=>?_⟩;intro x dx hx hdx hne;have hgd:=(P1.none hdx).1;have P2:=P1.laid (o:= .own x) hdx;have S2:=S1.laid (o:= .own x) hgd;have hx2:upd H1 dx (.own x) x=none:=by rw[aE (Uy hne)];exact hx
 have hg2:=(P2.none hx2).1;have P3:=P2.laid (o:= .ins C dx []) hx2;have S3:=S2.cell (o:= .ins C dx []) (c:= .ins C []) hg2 ⟨dx,[],a8,.nil⟩;have s2:Step α1 G1 α1 (upd G1 dx (.own x)):=Step.laid hgd;have s3:Step α1 (upd G1 dx (.own x)) (α1++[some x]) (upd (upd G1 dx (.own x)) x (.ins C dx [])):=Step.cell hg2
 have rx:Rep (α1++[some x]) (upd (upd G1 dx (.own x)) x (.ins C dx [])) (.ref st1.length) (.ref x):=by
  unfold Rep;refine .inr ⟨x,?_,rfl⟩;rw[Vc (by rw[S1.len];exact Uk _),S1.len,WR];rfl
 rw[VW];refine⟨α1++[some x],.ref st1.length::ds,st1++[.ins C []],_,_,F,P3,by unfold aS;exact⟨_,_,rfl,rx,(r1.step s2).step s3⟩,S3,q,λ d st2 q2 α' G' H' v s' P' S' r'=>?_⟩;obtain⟨rfl,q2⟩:=q2;unfold Rep at r';exact⟨r',(((k.at s1).at s2).at s3) _ st2 q2 α' G' H' _ s' P' S' (rx.step s')⟩
end
def PQ(a:Int)(n:Nat):It:=⟨λ i _=>i<n,λ i H x H'=>H'=H/\x= .int (a+(i:Nat)*(-1)),λ i _=>n<=i⟩
def Io{P:Program}{w:World}{K:PySem.W.Frag}{tg:Expr}(it:Addr)(a:Int)(n:Nat):Turn P w K tg (PQ a n) [it] it (λ i h=>IsRangeIter h it (a+(i:Nat)*(-1)) ((n:Int)-(i:Nat)) (-1)) where
 mem:=by simp
 obj:=λ i h st b hb=>by
  have e:b=it:=by simpa using hb
  subst e
  exact⟨_,st,λ v z=>by
   have z':Data.fields _=Data.cell v:=z;cases z'⟩
 keep:=λ i h h' st k=>k it (by simp) _ st
 item:=by
  intro X hP hw hK hc i pins s σ H E I hf st hg;subst hP hw hK;obtain⟨f0,f1,f2,f3,f4,f5⟩:=hf it (by simp);have W:=Walks.range (prog:=X.prog) (w:=X.w) (I.ok.hd hc) it a (-1) n;refine W.item i s _ _ hg st λ v h' tk hv st' kk=>?_;obtain⟨t,rfl⟩:=hv;have I1:Inv X pins σ H {s with heap:=h',toks:=tk}:=I.turned (λ b o hb e=>kk b o (by simpa using hb) e) f0 f1 f3 f4 f5;exact⟨_,rfl,Bb (s:={s with heap:=h',toks:=tk}) (n:="range_iterator") st' rfl rfl (by decide) ⟨.int (a+(i:Nat)*(-1)),H,I1,⟨t,rfl⟩,⟨rfl,rfl⟩,st',λ b hb=>(hf b hb).1⟩⟩
 done:=by
  intro X hP hw hK hc i pins s σ H E I hf st hg;subst hP hw hK;obtain⟨f0,f1,f2,f3,f4,f5⟩:=hf it (by simp);exact YI (I.ok.hd hc) st (by have:n<=i:=hg;omega) λ h' eb=>⟨rfl,I.turned (t':=s.toks) (λ b o hb e=>eb b o hb e) f0 f1 f3 f4 f5⟩
 self:=λ _ _ _ _ _ st h=>YJ st h
def Ao(a b:Int):Builtin.Range.rangeSize a b (-1)=((a-b).toNat:Int):=by
 unfold Builtin.Range.rangeSize;rw[Up (by decide)];have e:(a-b-1)/(- -1:Int)=a-b-1:=by simp
 rw[e];split<;>omega
def small_down{a b:Int}(ha: -(2^62)<=a)(ha':a<2^62)(hb: -(2^62)<=b)(hb':b<2^62):Builtin.Range.small a b (-1)=true:=by
 unfold Builtin.Range.small;rw[Ao];simp only[Builtin.Range.rangeFitsLong,U0,XB,decide_eq_true_eq,Wj,show¬((-1:Int)>0) by decide,WS];omega
def KU(ta:TA):TI:=λ σ H R=>ta σ H λ vs H1=>∃i j:Int,vs=[.int i,.int j,.int (-1)]/\(-(2^62)<=i/\i<2^62/\ -(2^62)<=j/\j<2^62)/\R (PQ i (i-j).toNat) H1
section
variable {X:Cx}{tg:Expr}
def Ih{a b c:Expr}{ta:TA}{p pos:Pos}(hg:Gl X "range")(hm:X.mg "range"=none)(ha:PA X [a,b,c] ta)(hs:notStar a=true:=by rfl)(hs2:notStar b=true:=by rfl)(hs3:notStar c=true:=by rfl):
 PI X tg (.Call (.Name "range" p) [a,b,c] [] pos) (KU ta):=by
 intro pins s σ H R I h;refine Call_ (mn I hg hm boot_range (VF (cw (ha pos pins s σ H _ I h) λ us s1 ⟨vs,H1,I1,r1,q1⟩=>?_) (cT hs) (lG (by simp[gJ,hs2,hs3]))));obtain⟨i,j,e,⟨q1,q2,q3,q4⟩,q⟩:=q1;subst e;cases r1 with
 |cons r rr=>
  cases rr with
  |cons r' rr=>
   cases rr with
   |cons r'' rr=>
    cases rr;obtain⟨t,rfl⟩:=r;obtain⟨t',rfl⟩:=r';obtain⟨t'',rfl⟩:=r'';refine call_range_3 (by decide) ?_ (Or.inl (Yx (by decide+kernel)));refine wpAny_pyIter_range (IsRange.new ..) (small_down q1 q2 q3 q4) ?_;have I2:Inv X pins σ H1 {s1 with heap:=s1.heap.push {cls:= .type "range",data:= .fields #[.int i t,.int j t',.int (-1) t'']},toks:=s1.toks}:=I1.kept λ b o e=>Uo _ e;generalize({s1 with heap:=s1.heap.push {cls:= .type "range",data:= .fields #[.int i t,.int j t',.int (-1) t'']},toks:=s1.toks}:Shared)=s2 at I2⊢;refine⟨s2.heap.objs.size,[s2.heap.objs.size],_,_,H1,rfl,I2.kept (t':=s2.toks) λ b o e=>Uo _ e,Io _ i (i-j).toNat,?_,λ b hb=>?_,q⟩
    . show IsRangeIter _ _ (i+((0:Nat):Int)*(-1)) ((((i-j).toNat:Nat):Int)-((0:Nat):Int)) (-1);have e1:i+((0:Nat):Int)*(-1)=i:=by omega
      have e2:(((i-j).toNat:Nat):Int)-((0:Nat):Int)=Builtin.Range.rangeSize i j (-1):=by rw[Ao];omega
      rw[e1,e2];exact UN _ rfl
    . have e:b=s2.heap.objs.size:=by simpa using hb
      subst e;exact I2.w4 (Uk _) (I2.aO.fresh (Uk _))
end
def jh(a:Int)(n:Nat):List D:=(List.range n).map λ(k:Nat)=>D.int (a+(k:Nat)*(-1))
def Al{a:Int}{n k:Nat}:(jh a n)[k]?=if k<n then some (.int (a+(k:Nat)*(-1)))else none:=by
 unfold jh;rw[UB];by_cases h:k<n
 . rw[WD h,Ur h];rfl
 . rw[Xr (by simpa using h),Up h];rfl
def ow{a:Int}{n:Nat}:(jh a n).length=n:=by unfold jh;simp
def MU{α:List (Option Addr)}{G:Hp}{a:Int}{n:Nat}:xq (PQ a n) α G (λ _=>True) (jh a n) where
 stop:=λ m α' G' F' H' st' s P S o hn=>by rw[ow]at hn;exact hn
 go:=λ m d α' G' F' H' st' s P S o hn=>by
  rw[Al]at hn;split at hn
  . assumption
  . cases hn
 qJ:=λ m d α' G' F' H' st' x H'' s P S o hn y=>by
  obtain⟨rfl,rfl⟩:=y;rw[Al]at hn;split at hn
  . cases hn;exact⟨G',Step.refl,P,S,by unfold Rep;rfl⟩
  . cases hn
def RT(ds:List D)(st1:ag)(K:List D->(ag->Prop)->ag->Prop):Prop:=match ds with
 | [.int i,.int j,.int c]=>(c= -1/\ -(2^62)<=i/\i<2^62/\ -(2^62)<=j/\j<2^62)/\K (jh i (i-j).toNat) (λ _=>True) st1
 |_=>False
@[irreducible] def Be:List D->ag->(List D->(ag->Prop)->ag->Prop)->Prop:=RT
def zz(t:DA):DI:=λ σ st K=>t σ st λ ds st1=>Be ds st1 K
def GP{X:Cx}{tg iter:Expr}{t:DA}(h:PI X tg iter (KU (LA t))):PI X tg iter (LI (zz t)):=PI.imp h λ σ H R ⟨α,σd,st,K,G,F,P,RS,S,t,k⟩=>by
 refine⟨α,σd,st,_,G,F,P,RS,S,t,λ ds st1 q α1 G1 H1 vs s1 P1 S1 r1=>?_⟩;unfold Be at q;match ds,q,r1 with
 | [.int i,.int j,.int c],q,r1=>
   obtain⟨v,u,w,rfl,r2,r3,r4⟩:=Qq r1 rfl;unfold Rep at r2 r3 r4;subst r2 r3 r4;obtain⟨⟨rfl,q1⟩,q2⟩:=q;exact⟨i,j,rfl,q1,k _ _ st1 q2 _ α1 G1 H1 s1 P1 S1 MU⟩
def Mt{st:ag}{i j:Int}{K:List D->(ag->Prop)->ag->Prop}(h: -(2^62)<=i/\i<2^62/\ -(2^62)<=j/\j<2^62)(k:K (jh i (i-j).toNat) (λ _=>True) st):Be [.int i,.int j,.int (-1)] st K:=by unfold Be;exact⟨⟨rfl,h⟩,k⟩
def Kz{X:Cx}{tg a b c:Expr}{p pos:Pos}{ar:DA}(hg:Gl X "range")(hm:X.mg "range"=none)(ha:JA X [a,b,c] ar)(hs:notStar a=true:=by rfl)(hs2:notStar b=true:=by rfl)(hs3:notStar c=true:=by rfl):JI X tg (.Call (.Name "range" p) [a,b,c] [] pos) (zz ar):=by
 unfold JI;unfold JA at ha;exact GP (Ih hg hm ha hs hs2 hs3)
section
variable {X:Cx}
end
section
variable {X:Cx}{e o i value:Expr}{es:List Expr}{te to ti:DE}{t:DA}{pos pos' tpos apos p:Pos}{C f:Addr}{fl m x:Str}{S:cy}{k:Nat}{fd:FuncData}{ps:List Str}
def GS{value o:Expr}{fl:Str}{pos':Pos}{n:Nat}{env:Env}:swapsWith value (some (.Attribute o fl pos')) n env=pure false:=by cases value<;>rfl
def dS(c:pU X.K C)(na:g0 X.K C fl)(he:JE X e te)(hb:attributeBase e fl X.env (eval e X.env)=eval e X.env:=by rfl):JE X (.Attribute e fl pos) (eS C fl te):=by unfold JE at*;exact Rz c na he hb
def pH(c:pU X.K C)(na:g0 X.K C fl)(ho:JE X o to)(hv:JE X value te):JS X (.Assign [.Attribute o fl pos'] value pos) (qE C fl to te):=by unfold JS;unfold JE at*;exact Oa c na ho hv GS
def oq{pl:Sem Bool}(he:JE X o to)(c:pU X.K C)(hm:Meth X.K C m f)(F:a_ X.prog X.w X.K X.mg X.base cz k f fd ps (cD S))(hr:dy k X.A)(hb:Binds X.K fd ps [])(ha:JA X (e::es) t)
 (hs:notStar e=true:=by rfl) (hs2:gJ es=true:=by rfl)
 (ht:eval (.Call (.Attribute o m apos) (e::es) [] pos) X.env=(do
   let ov <-eval o X.env
   standAt apos.atName
   let(f,first) <-holding [ov] (getMethod ov m pl)
   callWith pos f first (backTo pos (starEach (e::es) X.env)) (backToKw pos (keywordEach [] X.env))):=by rfl):
 JE X (.Call (.Attribute o m apos) (e::es) [] pos) (kM C m S to t):=by
 unfold JE at*;unfold JA at ha;exact PE.imp (MS he c hm F hr hb .nil E7 ha (cT hs) (lG hs2) ht) λ _ _ _ h=>LE.RC h
def N6(M:Mk X.K C f)(F:a_ X.prog X.w X.K X.mg X.base cz k f fd ps (cD S))(hr:dy (k+1) X.A)(hg:Gl X x)(hmg:X.mg x=some (.ref C))(hb:Binds X.K fd ps [])(ha:JA X (e::es) t)(hdb:(x==("__debug__":Str))=false)
 (hs:notStar e=true:=by rfl) (hs2:gJ es=true:=by rfl):JE X (.Call (.Name x p) (e::es) [] pos) (E3 C S t):=by
 unfold JE;unfold JA at ha;exact PE.imp (Nr M F hr hg hmg hb .nil E7 ha hdb (cT hs) (lG hs2)) λ _ _ _ h=>LE.make h
end
end L3
namespace L2
open PySem PySem.Spec PyProof.Rows
structure Entry(K:PySem.W.Frag)(ts:List (Addr×Addr))(a:Addr)(ns:List Int)(H:Hp):Prop where
 lst:oE K H a (ns.map V.int)
 tab:∀q∈ts,H q.2=some (.lX #[])/\q.2≠a
def z_:∀ {vs:List Value} {ns:List Int},IntsAre vs ns->Vals (ns.map V.int) vs
 |_,_,.nil=> .nil
 |_,_,.cons n t h=> .cons ⟨t,rfl⟩ (z_ h)
structure Pw(K:PySem.W.Frag)(ts:List (Addr×Addr))(h:Heap):Prop where
 hd:∀q∈ts,PySem.W.codeHdIn K q.1 q.2=true
 no:∀q∈ts,K.lookup q.2=none
 at':∀q∈ts,h.get? q.2=some (PySem.W.tabObj #[])
def HF{P:Program}{w:World}{K:PySem.W.Frag}{mg mb:Str->Option Value}{k:Nat}{fa a:Addr}{fd:FuncData}{x:Str}{sp:Sp}{s₁:Shared}{vs:List Value}{ns:List Int}{ts:List (Addr×Addr)}
 (KX:K.In s₁.heap) (hns:s₁.heap.Ns mainGlobals mg) (hb:s₁.heap.Ns builtinsNs mb) (hbb:∀x:Str,x≠"__name__"->mb x=bootBuiltins x) (hlim:s₁.heap.NoLimit) (hse:s₁.heap.NoSeer) (hgt:P.given.tree=none)
 (hbm:∃bm ob,mg "__builtins__"=some (.ref bm)/\bm≠builtinsNs/\s₁.heap.get? bm=some ob/\ob.cls= .type "module"/\ob.dict=some builtinsNs/\ob.data= .plain) (hT:Pw K ts s₁.heap) (hg:s₁.gens= #[])
 (ha:s₁.heap.get? a=some {cls:= .type "list",data:= .seq vs.toArray}) (hi:IntsAre vs ns) (hl:ns.length<=sizeLine) (hr:dy k callerA)
 (F:∀base:Heap,K.In base->base.Ns mainGlobals mg->a_ P w K mg base (λ _ _ _ _ _ _=>False) k fa fd [x] sp) (hbind:∀(s:Shared) (u:Value),BindsTo s fd ⟨[u],[]⟩ [(x,u)])
 (hsp:∀H:Hp,Entry K ts a ns H->sp [.ref a] H (λ v _=>v= .bl true) λ _ _ _=>False):
 codeAny (model P w) callerA (.call (.ref fa) ⟨[.ref a],[]⟩) (λ r s'=>r= .ok (.ret (.bool true))/\OldK s₁.heap s'.heap/\s'.os=s₁.os/\AllBare s'.gens) s₁:=by
 have rv:=z_ hi;have lenV:=hi.length
 have nta:∀q∈ts,q.2≠a:=λ q hq z=>by
  have:=hT.at' q hq;rw[z,ha]at this;cases this
 let sc:Option HO:=match K.lookup a with
  |some _=>none
  |none=>some (.fe {cls:= .type "list",data:= .seq vs.toArray} (.lst (ns.map V.int)))
 let H:Hp:=λ b=>if b=a then sc else if b∈ts.map (·.2)then some (.lX #[])else none
 have Ha:H a=sc:=Ur rfl
 have Ht:∀q∈ts,H q.2=some (.lX #[]):=λ q hq=>by
  show(if q.2=a then sc else if q.2∈ts.map (·.2)then some (HO.lX #[])else none)=_;rw[Up (nta q hq),Ur (XN hq)]
 have Hs:∀b u,H b=some u->(b=a/\K.lookup a=none/\u= .fe {cls:= .type "list",data:= .seq vs.toArray} (.lst (ns.map V.int)))\/(∃q∈ts,q.2=b/\u= .lX #[]):=λ b u e=>by
  have e':(if b=a then sc else if b∈ts.map (·.2)then some (HO.lX #[])else none)=some u:=e;by_cases hba:b=a
  . rw[Ur hba]at e'
    have e2:(match K.lookup a with
     |some _=>none
     |none=>some (HO.fe {cls:= .type "list",data:= .seq vs.toArray} (.lst (ns.map V.int))))=some u:=e'
    cases q:K.lookup a with
    |some o=>rw[q]at e2;cases e2
    |none=>rw[q]at e2;cases e2;exact .inl ⟨hba,rfl,rfl⟩
  . rw[Up hba]at e';by_cases hbt:b∈ts.map (·.2)
    . rw[Ur hbt]at e';cases e';obtain⟨q,hq,e⟩:=UI.mp hbt;exact .inr ⟨q,hq,e,rfl⟩
    . rw[Up hbt]at e';cases e'
 have aO:jt P w H s₁.heap:=λ b u e=>by
  rcases Hs b u e with⟨rfl,_,rfl⟩|⟨q,hq,rfl,rfl⟩
  . exact⟨ha,by rw[Uh];exact hl,vs,_,rv,ha⟩
  . exact hT.at' q hq
 have hE:Entry K ts a ns H:=by
  refine⟨?_,λ q hq=>⟨Ht q hq,nta q hq⟩⟩;cases q:K.lookup a with
  |some o=>
   have e:=KX a o q;rw[ha]at e;cases e;exact .inr ⟨_,vs.toArray,_,q,rfl,rfl,rfl,by rw[Ut,lenV];exact hl,by simpa using rv⟩
  |none=>
   refine .inl (.inr ⟨{cls:= .type "list",data:= .seq vs.toArray},?_⟩);rw[Ha]
   show(match K.lookup a with
    |some _=>none
    |none=>some (HO.fe {cls:= .type "list",data:= .seq vs.toArray} (.lst (ns.map V.int))))=_
   rw[q]
 have dictNo:∀ {b:Addr} {o:Obj},s₁.heap.get? b=some o->(∀es ep,o.data≠ .seq es ep)->o.cls≠ .none->H b=none:=λ{b o} e d1 d2=>by
  cases q:H b with
  |none=>rfl
  |some u=>
   rcases Hs b u q with⟨rfl,_,_⟩|⟨t,ht,rfl,_⟩
   . rw[ha]at e;cases e;exact absurd rfl (d1 _ _)
   . rw[hT.at' t ht]at e;cases e;exact absurd rfl d2
 have nsK:∀ {b:Addr} {m:Str->Option Value},s₁.heap.Ns b m->(rV s₁.heap H).Ns b m:=λ{b m} ⟨o,es,ep,e,d,r⟩=>by
  refine⟨o,es,ep,ui e ?_,d,r⟩;cases q:H b with
  |none=>rfl
  |some u=>
   rcases Hs b u q with⟨rfl,_,_⟩|⟨t,ht,rfl,_⟩
   . rw[ha]at e;cases e;cases d
   . rw[hT.at' t ht]at e;cases e;cases d
 have hKb:K.In (rV s₁.heap H):=λ b o e=>ui (KX b o e) (by
  cases q:H b with
  |none=>rfl
  |some u=>
   rcases Hs b u q with⟨rfl,z,_⟩|⟨t,ht,rfl,_⟩
   . rw[z]at e;cases e
   . rw[hT.no t ht]at e;cases e)
 obtain⟨bm,ob,b1,b2,b3,b4,b5,b6⟩:=hbm;have hbmK:(rV s₁.heap H).get? bm=some ob:=ui b3 (dictNo b3 (λ es ep z=>by rw[b6]at z;cases z) (λ z=>by rw[b4]at z;cases z))
 have seK:(rV s₁.heap H).NoSeer:=by
  obtain⟨⟨m1,a1,a2⟩,⟨m2,c1,c2⟩,⟨m3,d1,d2⟩,⟨mg',bm',ob',e1,e2,e3,e4,e5⟩⟩:=hse;refine⟨⟨m1,nsK a1,a2⟩,⟨m2,nsK c1,c2⟩,⟨m3,nsK d1,d2⟩,⟨mg',bm',ob',nsK e1,e2,ui e3 ?_,e4,e5⟩⟩;cases q:H bm' with
  |none=>rfl
  |some u=>
   rcases Hs bm' u q with⟨rfl,_,_⟩|⟨t,ht,rfl,_⟩
   . rw[ha]at e3;cases e3;exact absurd (show Value.type "list"=Value.type "module" from e4) (by intro z;injection z with z;exact absurd z (by decide))
   . rw[hT.at' t ht]at e3;cases e3;cases e4
 have hM:Mod K mg (rV s₁.heap H):=⟨hKb,nsK hns,⟨mb,nsK hb,hbb⟩,let⟨mc,h1,h2⟩:=hlim;⟨mc,nsK h1,h2⟩,seK,⟨bm,ob,b1,b2,hbmK,b4,b5,b6⟩⟩
 have e0:xr P w K mg (rV s₁.heap H) callerA [] s₁ H:=⟨rfl,hM,λ b o e=>MK e,Yt (HR _ _),trivial,λ b hb=>absurd (show b∈([]:List Addr)from hb) (by simp),aO,.of_eq hg,hgt⟩
 refine Yu ((F _ hKb (nsK hns)).run callerA [] s₁ H ⟨[.ref a],[]⟩ [.ref a] [.ref a] _ _ hr e0 (hbind s₁ (.ref a)) (.cons rfl .nil) (hsp H hE)) λ r s' h=>?_;cases r with
 |error e=>exact False.elim h
 |ok fl=>
  cases fl with
  |next=>exact False.elim h
  |brk=>exact False.elim h
  |cont=>exact False.elim h
  |ret u=>
   obtain⟨v,H',os,bare,un,hok',r',q⟩:=h;have q':v= .bl true:=q;subst q';obtain rfl:u=Value.bool true:=r';have noF:∀b:Addr,b∉sP ([]:List Env):=λ b z=>absurd (show b∈([]:List Addr)from z) (by simp);refine⟨rfl,⟨λ b o e=>?_,λ b o e=>un.there b o e (by simp)⟩,os,bare⟩;cases q:H b with
   |none=>exact .inl (un.keep b o e q (noF b) (by simp))
   |some u=>
    rcases Hs b u q with⟨rfl,_,rfl⟩|⟨t,ht,rfl,rfl⟩
    . obtain⟨e2,_⟩:=hok' b _ (un.qk b _ _ q);rw[ha]at e;cases e;exact .inl e2
    . obtain⟨more,e1⟩:=un.pQ _ _ q;have e2:s'.heap.get? t.2=some {cls:= .none,data:= .fields (#[]++more)}:=hok' _ _ e1;have e3:=hT.at' t ht;rw[e3]at e;cases e;have C:PySem.W.CodeHd s₁.heap t.1 t.2:=PySem.W.codeHd_of_K KX (hT.hd t ht);exact .inr (.inl ⟨(C.tab e3).isCodeTable,rfl,#[],more,rfl,e2⟩)
def Q0{l:PySem.W.OpenLaw}{n k:Nat}{q:Program}{loose:List Str}{XP:(Str->Option Value)->Heap->Prop}{YP:World->Heap->Prop}{d:DefRec}{K:Params->PySem.W.Frag}{sp:World->Sp}{x:Str}{ts:List (Addr×Addr)}
 (hn:l.most=some n) (hn2:n<=sizeLine) (hdf:d.params.defaults=[]) (hr:dy k callerA) (hq:importsNone q=true) (hgt:l.prog.given.tree=none)
 (hY:∀(w:World) (h:Heap),YP w h->(K w.params).In h/\Pw (K w.params) ts h)
 (F:∀(w:World) (mg:Str->Option Value) (fa:Addr) (h:Heap),(K w.params).In h->h.Ns mainGlobals mg->mg d.name=some (.ref fa)->
   ∃fd:FuncData,(∀(s:Shared) (u:Value),BindsTo s fd ⟨[u],[]⟩ [(x,u)])/\
    ∀base:Heap,(K w.params).In base->base.Ns mainGlobals mg->a_ l.prog w (K w.params) mg base (λ _ _ _ _ _ _=>False) k fa fd [x] (sp w))
 (hsp:∀(w:World) (H:Hp) (a:Addr) (ns:List Int),ns.length<=n->Entry (K w.params) ts a ns H->sp w [.ref a] H (λ v _=>v= .bl true) λ _ _ _=>False):
 PySem.W.WalkO q loose XP YP l.row.toRowW d [] (λ f vs=>PySem.call f vs):=by
 refine Att.D3 hn hdf λ w s₀ s₁ mg mb fa o pm cd doc a vs ns G Y ho hd hcd hmg hobj hints hlen hg=>?_;obtain⟨KX,hT⟩:=hY w _ Y;obtain⟨fd,hb,hF⟩:=F w mg fa _ KX G.T.g hmg;exact HF KX G.T.g G.T.b G.T.builtins G.T.nolimit (G.T.seer hq) hgt G.T.bmain hT hg hobj hints (Um hlen hn2) hr hF hb λ H hE=>hsp w H a ns hlen hE
end L2
namespace L3
open PySem PySem.Spec L2
open PyProof.Rows hiding St
section
variable {X:Cx}{pins:List (Addr×Obj)}{σ:L2.St}{H:Hp}{s:Shared}{p:Addr}{o o':Obj}{h':Heap}
def nr{t':Nat}(I:Inv X pins σ H s)(hd:∀v,o.data≠ .cell v)(hfr:o.isFreed=false:=by rfl):Inv X (pins++[(s.heap.objs.size,o)]) σ H {s with heap:=s.heap.push o,toks:=t'}:=by
 have I':=I.kept (h':=s.heap.push o) (t':=t') (λ b u e=>Uo _ e);refine I'.vQ λ q hq=>?_;rcases Vf.mp hq with hq|hq
 . exact I'.pin q (UM _ hq)
 . have e:q=(s.heap.objs.size,o):=by simpa using hq
   subst e;exact⟨UN _ hfr,I.aO.fresh (Uk _),Wy I.lt,I.NO (Uk _),hd⟩
def gw(I:Inv X (pins++[(p,o)]) σ H s):s.heap.get? p=some o/\H p=none/\p≠X.env.locals/\p∉X.fs/\∀v,o.data≠ .cell v:=
 I.pin (p,o) (UM _ (UM _ (Vw.mpr rfl)))
def CA(I:Inv X (pins++[(p,o)]) σ H s):∀x c,X.env.cells.lookup x=some c->c≠p:=λ x c e z=>by
 obtain⟨v,u,hu,hd⟩:=I.cell x c e;obtain⟨h1,_,_,_,h5⟩:=gw I;rw[z,h1]at hu;cases hu;exact h5 v hd
def qo{t':Nat}(I:Inv X (pins++[(p,o)]) σ H s)(hs:Heap.SameBut p s.heap h')(hn:h'.get? p=some o')(hd:∀v,o'.data≠ .cell v)(h0:X.s₀.heap.objs.size<=p)(hp:∀q∈X.pn++pins,q.1≠p):
 Inv X (pins++[(p,o')]) σ H {s with heap:=h',toks:=t'}:=by
 obtain⟨_,n,neL,nfs,_⟩:=gw I;have I0:Inv X pins σ H s:=I.i9;have I1:=I0.turned (t':=t') (h':=h') (it:=p) (λ b u hb e=>(hs.2 b hb).trans e) n neL (.inr h0) (CA I) hp;refine I1.vQ λ q hq=>?_;rcases Vf.mp hq with hq|hq
 . exact I1.pin q (UM _ hq)
 . have e:q=(p,o'):=by simpa using hq
   subst e;exact⟨hn,n,neL,nfs,hd⟩
def HV{u:HO}(I:Inv X (pins++[(p,o)]) σ H s)(h0:X.s₀.heap.objs.size<=p)(hp:∀q∈X.pn++pins,q.1≠p)(new:et X.prog X.w (upd H p u) s.heap p u):Inv X pins σ (upd H p u) s:=by
 obtain⟨e0,n,neL,nfs,_⟩:=gw I;have ne:∀ {b:Addr} {w:HO},H b=some w->b≠p:=λ e=>eh e n;have ne0:∀ {b:Addr} {w:Obj},X.s₀.heap.get? b=some w->b≠p:=λ e=>UR (UH (UA e) h0);refine⟨I.ok,I.os,I.bare,⟨I.base.keep,I.base.slot,λ b w e q hx=>?_,I.base.there,λ b xs e=>?_,λ b w y e=>?_,λ b ps e=>?_⟩,I.loc,I.cell,?_,λ x c e=>?_,λ q hq=>?_,λ b w e=>?_,I.len⟩
 . rw[aE (ne0 e)];exact I.base.free b w e q hx
 . have:=I.base.rD b xs e;rw[aE (ne this)];exact this
 . have:=I.base.qk b w y e;rw[aE (ne this)];exact this
 . obtain⟨m,q⟩:=I.base.pQ b ps e;exact⟨m,by rw[aE (ne q)];exact q⟩
 . rw[aE (Uy neL)];exact I.free
 . rw[aE (CA I x c e)];exact I.jN x c e
 . have hq':q∈X.pn++(pins++[(p,o)]):=by
    rcases Vf.mp hq with z|z
    . exact Vp _ z
    . exact UM _ (Vp _ z)
   obtain⟨a1,a2,a3⟩:=I.pin q hq';exact⟨a1,by rw[aE (hp q hq)];exact a2,a3⟩
 . by_cases hb:b=p
   . subst hb;rw[a8]at e;cases e;exact new
   . rw[aE hb]at e;exact(I.aO b w e).ng (λ _ _ _ q=>q) (λ c q=>by rw[aE (ne q)];exact q) λ c xs q=>by rw[aE (ne q)];exact q
end
def oP(X:Cx)(pins:List (Addr×Obj))(σ:L2.St)(R:Hp->Prop)(own:List (Addr×Obj))(s:Shared):Prop:=∃H,Inv X (pins++own) σ H s/\R H
section
variable {X:Cx}{pins:List (Addr×Obj)}{σ:L2.St}{R:Hp->Prop}{s:Shared}{A:Around}{E:Value->Shared->Prop}{a kS:Addr}{e1 e:Nat}{keys:Array Value}{P:PySem.Fin->Shared->Prop}
structure Own(X:Cx)(pins:List (Addr×Obj))(p:Addr):Prop where
 ge:X.s₀.heap.objs.size<=p
 ne:∀q∈X.pn++pins,q.1≠p
def vS{H:Hp}(I:Inv X pins σ H s):Own X pins s.heap.objs.size:=⟨I.sz,λ q hq=>UR (UA (I.pin q hq).1)⟩
def CU{p:Addr}{q:Addr×Obj}(h:Own X pins p)(hq:q.1≠p):Own X (pins++[q]) p:=⟨h.ge,λ r hr=>by
 rcases Vf.mp hr with z|z
 . exact h.ne r (Vp _ z)
 . rcases Vf.mp z with z|z
   . exact h.ne r (UM _ z)
   . have e:r=q:=by simpa using z
     rw[e];exact hq⟩
def CK{x y:Addr×Obj}(J:oP X pins σ R [x,y] s):∃H,Inv X ((pins++[x])++[y]) σ H s/\R H:=by
 obtain⟨H,I,r⟩:=J;exact⟨H,by rw[Wt];exact I,r⟩
def Ip{x y:Addr×Obj}{H:Hp}(I:Inv X ((pins++[x])++[y]) σ H s)(r:R H):oP X pins σ R [x,y] s:=⟨H,by rw[Wt]at I;exact I,r⟩
def Cr{st:SortSt}(J:oP X pins σ R [(a,seqObj "list" #[] e1),(kS,seqObj "list" keys e)] s)(ha:Own X pins a)(hk:Own X pins kS)(hka:kS≠a)(hz1:keys.size<=sizeLine)(hz2:(arrOf st).size<=sizeLine)(hf:failedOf st=none)
 (h:∀s' c,oP X pins σ R [(a,seqObj "list" ((arrOf st).map (·.2)) c)] s'->P (.done (.ret .none)) s'):
 wpAny (model X.prog X.w) A (PyProof.Rows.ksk_tail a false e1 (.ref kS) st) P E s:=by
 obtain⟨H,I,r⟩:=CK J;have k1:=(gw I).1;have s1:=VY s.heap kS (Obj.mapSeq λ _=>(#[]:Array Value));have I1:=qo (t':=s.toks) I s1 (W2 k1 λ _=> #[]) (λ v z=>by cases z) hk.ge (CU hk hka.symm).ne;have I2:Inv X (pins++[(a,seqObj "list" #[] e1)]) σ H {s with heap:=s.heap.update kS (Obj.mapSeq λ _=>(#[]:Array Value)),toks:=s.toks}:=I1.i9;have a1:=(gw I2).1;have s2:=VY (s.heap.update kS (Obj.mapSeq λ _=>(#[]:Array Value))) a (Obj.mapSeq λ _=>(arrOf st).map (·.2));have I3:=qo (t':=s.toks) I2 s2 (W2 a1 λ _=>(arrOf st).map (·.2)) (λ v z=>by cases z) ha.ge ha.ne;unfold ksk_tail;simp only[WI,WS];refine Uj (Ye k1 rfl ?_ hz1 (US _));refine Uj (YM ?_);refine Uj (seqEpoch_at a1 rfl ?_);refine Uj (Ye a1 rfl ?_ (US _) (Nat.le_succ_of_le (by rw[Array.size_map];exact hz2)));rw[hf];simp only[bne_self_eq_false,WI,WS];exact Uw (h _ _ ⟨H,I3,r⟩)
def FW(kz:List Int)(vs out:List Value):Prop:=
 ∃ps:List (Int×Value),ps.Perm (kz.zip vs)/\out=ps.map Prod.snd/\ps.Pairwise λ p q=>p.1<=q.1
def EZ{kz:List Int}{vs:List Value}(hk:IntsAre keys.toList kz){xs:Array Keyed}(hp:xs.Perm (keys.zip vs.toArray))(hs:SortedTo xs xs.size):FW kz vs (xs.map (·.2)).toList:=by
 obtain⟨ps,h1,h2,h3⟩:=ksk_out hk (b:=false) hp hs;exact⟨ps,h1,h2,h3⟩
def MV{kz:List Int}{vs:List Value}(J:oP X pins σ R [(a,seqObj "list" #[] e1),(kS,seqObj "list" keys e)] s)(ha:Own X pins a)(hk:Own X pins kS)(hka:kS≠a)(hi:IntsAre keys.toList kz)(hl:kz.length=vs.length)(h64:vs.length<64)
 (h:∀s' out c,oP X pins σ R [(a,seqObj "list" out c)] s'->FW kz vs out.toList->P (.done (.ret .none)) s'):
 wpAny (model X.prog X.w) A (ksk_end a false vs.toArray e1 (.ref kS) keys) P E s:=by
 have hsz:keys.size=vs.length:=by have:=hi.length;rw[WC]at this;omega
 have hzs:(keys.zip vs.toArray).size=vs.length:=by rw[Array.size_zip,hsz,Ut,Y6]
 have hbig:vs.length<=sizeLine:=Um (VN h64) (by decide);unfold ksk_end;simp only[WI,WS];by_cases h2:vs.toArray.size<2
 . rw[Ur h2,Ur h2];refine Uj (Uw ?_);rw[StateT.run_pure];refine Uj (Uw ?_);refine Cr (st:=SortSt.mk' general' (keys.zip vs.toArray) #[] 7 none) J ha hk hka (by omega) (by show(keys.zip vs.toArray).size<=_;omega) rfl λ s' c J'=>h s' _ c J' ?_;refine EZ hi (Array.Perm.refl _) λ i j hij hj=>?_;have hj':j<(keys.zip vs.toArray).size:=hj;rw[Ut]at h2;have:i=j:=by omega
   rw[this];exact Int.le_refl _
 . rw[Up h2,Up h2];rw[Ut]at h2;rw[ksk_kind hi (by omega)];refine Uj (Uw ?_)
   refine Uj (V1 (wpS_sortRuns (a₀:=keys.zip vs.toArray) (st:=SortSt.mk' oneType' (keys.zip vs.toArray) #[] 7 none)
    (Q:=λ _ st'=>(arrOf st').Perm (keys.zip vs.toArray)/\failedOf st'=none/\SortedTo (arrOf st') (keys.zip vs.toArray).size)
    (ksk_intKeys hi) ⟨Array.Perm.refl _,rfl,rfl,rfl⟩ (by omega) (by omega) λ st' b1 b2 b3=>⟨b1,b2,b3⟩) ?_ λ _ _ z=>z)
   rintro⟨⟨⟩,st'⟩ s' ⟨rfl,hp,hf,hs⟩;have hz2:=hp.size_eq;refine Cr (st:=st') J ha hk hka (by omega) (by rw[hz2];omega) hf λ s' c J'=>h s' _ c J' (EZ hi hp (by rw[hz2];exact hs))
def J5{f:Value}{kz:List Int}{vs:List Value}(J:oP X pins σ R [(a,seqObj "list" #[] e1),(kS,seqObj "list" #[] 0)] s)(ha:Own X pins a)(hk:Own X pins kS)(hka:kS≠a)(hl:kz.length=vs.length)(h64:vs.length<64)
 (turn:∀(i:Nat) (v:Value) (k:Int),vs[i]?=some v->kz[i]?=some k->∀(own:List (Addr×Obj)) (s:Shared),oP X pins σ R own s->wpAny (model X.prog X.w) A (call f [v]) (λ u s'=>(∃t,u= .int k t)/\oP X pins σ R own s') (λ _ _=>False) s)
 (h:∀s' out c,oP X pins σ R [(a,seqObj "list" out c)] s'->FW kz vs out.toList->P (.done (.ret .none)) s'):
 wpAny (model X.prog X.w) A (ksk_rest a f false vs.toArray e1 (.ref kS)) P E s:=by
 have hbig:vs.length<=sizeLine:=Um (VN h64) (by decide);unfold ksk_rest;refine Uj (Xw ?_)
 first
  |rw[List.forIn_toArray]
  |(rw[<-Array.forIn_toList];simp only[List.toList_toArray])
  |rw[<-Array.forIn_toList]
 refine Uj (ksk_fold (λ i s'=>∃kA e,oP X pins σ R [(a,seqObj "list" #[] e1),(kS,seqObj "list" kA e)] s'/\IntsAre kA.toList (kz.take i)) vs 0 s ⟨#[],0,J,by simpa using IntsAre.nil⟩ ?st ?en)
 case st=>
  rintro j x s' hx ⟨kA,e,J',hk'⟩;simp only[W8]at hk'⊢;have hj:j<vs.length:=(Ui.mp hx).1;have hkj:kz[j]?=some (kz[j]'(by omega)):=Uv _
  have hz:kA.size<=vs.length:=by
   have:=hk'.length;rw[WC,Vo]at this;omega
  refine Uj (Yd (V1 (turn j x _ hx hkj _ s' J') (λ v s2 he=>?_) λ _ _ z=>z.elim));obtain⟨⟨t,rfl⟩,J2⟩:=he;obtain⟨H,I,r⟩:=CK J2;have k1:=(gw I).1;have s1:=VY s2.heap kS (Obj.mapSeq (·.push (.int (kz[j]'(by omega)) t)));have I1:=qo (t':=s2.toks) I s1 (W2 k1 (·.push (.int (kz[j]'(by omega)) t))) (λ v z=>by cases z) hk.ge (CU hk hka.symm).ne;refine Uj (Ye k1 rfl ?_ (by omega) (Um (Yt (Array.size_push ..)) (by omega)));refine Uw ⟨rfl,_,_,Ip I1 r,?_⟩;have ek:kz.take (j+1)=kz.take j++[kz[j]'(by omega)]:=by rw[List.take_add_one,hkj];simp
  rw[ek,Array.toList_push];exact ksk_snoc hk'
 case en=>
  rintro s' ⟨kA,e,J',hk'⟩;rw[show kz.take (0+vs.length)=kz from Xl (by omega)]at hk';obtain⟨H,I,r⟩:=CK J';refine Uj (listItems_at (gw I).1 rfl ?_);exact MV J' ha hk hka hk' hl h64 h
def E4{f:Addr}{l:Addr}{kz:List Int}{vs:List Value}{H:Hp}{Q:Value->Shared->Prop}(I:Inv X pins σ H s)(r:R H)(hli:s.heap.IsList l vs.toArray)(hl:kz.length=vs.length)(h64:vs.length<64)
 (turn:∀(i:Nat) (v:Value) (k:Int),vs[i]?=some v->kz[i]?=some k->∀(own:List (Addr×Obj)) (s:Shared),oP X pins σ R own s->wpAny (model X.prog X.w) A.in1.in1 (call (.ref f) [v]) (λ u s'=>(∃t,u= .int k t)/\oP X pins σ R own s') (λ _ _=>False) s)
 (h:∀D s' out c,Own X pins D->oP X pins σ R [(D,seqObj "list" out c)] s'->FW kz vs out.toList->Q (.ref D) s'):
 wpAny (model X.prog X.w) A (call (.builtin "sorted") [.ref l] [(Str.ofString "key",.ref f)]) Q E s:=by
 have hbig:vs.length<=sizeLine:=Um (VN h64) (by decide);refine call_function_entry_kw kind_sorted plain_sorted entry_sorted (ksk_s1 _ _) ?_;unfold Builtin.«sorted»;refine Uj (m:=checkCount "sorted" 1 1 _) (Uw ?_);refine Uj (collect_list hli ?_ hbig);have I1:=nr (o:=seqObj "list" #[] 0) (t':=s.toks) I (λ v z=>by cases z);have s1:=VY (s.heap.push (seqObj "list" #[] 0)) s.heap.objs.size (Obj.mapSeq (· ++vs.toArray));have I2:=qo (t':=s.toks) I1 s1 (W2 (gw I1).1 (· ++vs.toArray)) (λ v z=>by cases z) (vS I).ge (vS I).ne;have I3:Inv X pins σ H {s with heap:=(s.heap.push (seqObj "list" #[] 0)).update s.heap.objs.size (Obj.mapSeq (· ++vs.toArray)),toks:=s.toks}:=I2.i9;refine Uj (Y1 ?_ hbig);generalize hs3:({s with heap:=(s.heap.push (seqObj "list" #[] 0)).update s.heap.objs.size (Obj.mapSeq (· ++vs.toArray))}:Shared)=s3;have I3':Inv X pins σ H s3:=by rw[<-hs3];exact I3
 have oD:=vS I3';have I4:=nr (o:=seqObj "list" vs.toArray 0) (t':=s3.toks) I3' (λ v z=>by cases z);have hD:=(gw I4).1;refine Uj (WG (wpAny_call_entry_kw slot_list_sort ⟨_,hD,rfl⟩ entry_list_sort ?body (ksk_l1 _ _)))
 case body=>
  show wpAny (model X.prog X.w) A.in1.in1 (Builtin.«list.sort» ⟨[.ref s3.heap.objs.size],[(Str.ofString "key",.ref f)]⟩) _ _ _;rw[ksk_t1];unfold ksk_tree;refine Uj (listItems_at hD rfl ?_);have s5:=VY (s3.heap.push (seqObj "list" vs.toArray 0)) s3.heap.objs.size (Obj.mapSeq λ _=>(#[]:Array Value));have I5:=qo (t':=s3.toks) I4 s5 (W2 hD λ _=> #[]) (λ v z=>by cases z) oD.ge oD.ne;have hD5:=(gw I5).1;refine Uj (Ye hD rfl ?_ (by rw[Ut];exact hbig) (US _));refine Uj (seqEpoch_at hD5 rfl ?_);refine Uj (wpAny_newTuple ?_ (by show vs.length<=_;exact hbig));have I6:=(nr (o:=seqObj "tuple" vs.toArray 0) (t':=s3.toks) I5 (λ v z=>by cases z)).i9;refine Uj (Y1 ?_ (US _));have ok:=vS I6;have I7:=nr (o:=seqObj "list" #[] 0) (t':=s3.toks) I6 (λ v z=>by cases z);refine WG ?_
  have okp:Own X pins _:=⟨ok.ge,λ q hq=>ok.ne q (by
   rcases Vf.mp hq with z|z
   . exact Vp _ z
   . exact UM _ (Vp _ z))⟩
  refine J5 (Ip I7 r) oD okp (λ z=>ok.ne (s3.heap.objs.size,_) (UM _ (UM _ (Vw.mpr rfl))) z.symm) hl h64 turn λ s' out c J' so=>⟨_,rfl,?_⟩
  exact Uw ⟨_,rfl,h _ s' out c oD J' so⟩
end
structure ph(X:Cx)(scope:Scope)(Nc:List Str)(fr:List (Option Nat))(p:Str):Prop where
 sc:a7 X scope Nc fr
 IK:∀x∈scope.names,x.2≠ .cell
 co:scope.isCoroutine=false
 gen:scope.isGenerator=false
 p0:Nc[0]?=some p
 f0:fr[0]?=some none
 loc:scope.names.lookup p=some .local
abbrev Fu(X:Cx)(scope:Scope)(qual:Str)(f c:Addr)(s:Shared):Env:=PySem.W.envX qual scope s.heap.objs.size f (.ref c) (dY X.env.cells scope.names [])
def Hx(X:Cx)(scope:Scope)(Nc:List Str)(qual:Str)(f c:Addr)(s:Shared)(H:Hp):Cx:=
 {X with A:=X.A.in1.in1.deeper (Fu X scope qual f c s),N:=Nc,s₀:=s,H₀:=H,env:=Fu X scope qual f c s,outer:=X.stack,stack:=Fu X scope qual f c s::X.stack,ex:=[],fn:=λ _=>false,calm:=true,pn:=[],xe:=λ _ _=>False}
section
variable {X:Cx}{scope:Scope}{Nc:List Str}{fr:List (Option Nat)}{p qual:Str}{f c:Addr}{pins:List (Addr×Obj)}{σ:L2.St}{H:Hp}{s:Shared}
def N9(S:ph X scope Nc fr p)(I:Inv X pins σ H s)(hc:X.calm=true):(Hx X scope Nc qual f c s H).Ok where
 mod:=I.ok.mod
 kind:=S.sc.kind
 glob:=rfl
 blt:=rfl
 above:=Uk _
 inj:=λ x y a h1 h2=>I.ok.inj x y a (dE _ [] (λ _ _ e=>by cases e) x a h1) (dE _ [] (λ _ _ e=>by cases e) y a h2)
 has:=λ x hx=>by
  have hx':scope.names.lookup x=some .cell\/scope.names.lookup x=some .free:=hx;rcases hx' with hx|hx
  . exact absurd rfl (S.IK _ (Vg hx))
  . exact jX scope.names [] (I.ok.has x (S.sc.free _ (Vg hx) rfl)) (.inl (Vg hx))
 Bx:=λ x a hf _=>by cases hf
 hd:=λ _=>I.ok.hd hc
 frames:=Around.frames_deeper (by show X.A.frames=_;exact I.ok.frames)
 EW:= .inr ⟨rfl,rfl⟩
 Hz:=λ b hb=>by cases hb
 bs:=I.bs
 uC:=Um I.ok.uC I.sz
 xn:=λ b o e hb=>by cases hb
 xF:=λ b hb=>by cases hb
 mz:=I.stack
 yD:=I.zw
 gt:=I.ok.gt
def MJ{h':Heap}{t':Nat}{v:V}{u:Value}(S:ph X scope Nc fr p)(I:Inv X pins σ H s)(hc:X.calm=true)(r:RelV v u)(hn:h'.Ns s.heap.objs.size (λ x=>[(p,u)].reverse.lookup x))
 (k:∀b o,s.heap.get? b=some o->h'.get? b=some o):Inv (Hx X scope Nc qual f c s H) [] ((σC fr σ).set 0 (some v)) H {s with heap:=h',toks:=t'} where
 ok:=N9 S I hc
 os:=rfl
 bare:=I.bare
 base:=Un.kept k
 loc:=⟨_,hn,λ i x w h1 h2 h3=>by
  by_cases hi:i=0
  . subst hi;have hp:=S.p0;have e:p=x:=Vk (hp.symm.trans h1);subst e
    have hl:0<(σC fr σ).length:=by
     have:=(Ui.mp h2).1;rw[UC]at this;exact this
    rw[Uq hl]at h2;cases h2;exact⟨u,r,.inl ⟨S.loc,by simp⟩⟩
  . rw[Ul (Uy hi)]at h2;obtain⟨j,q1,q2⟩:=ER h2;obtain⟨n1,n2,n3⟩:=S.sc.map i j x h1 q1;obtain⟨m,hm,hl⟩:=I.loc;obtain⟨u',r',lk⟩:=hl j x w n1 q2 (n3.elim (λ z=> .inr (.inl z)) λ z=> .inr (.inr z));refine⟨u',r',?_⟩;rcases lk with⟨z,_⟩|⟨_,a,e,ic⟩
    . rcases n3 with y|y<;>(rw[y]at z;cases z)
    . obtain⟨a',e'⟩:=jX scope.names [] ⟨a,e⟩ (.inl (Vg n2));have e2:=dE _ [] (λ _ _ e=>by cases e) x a' e';rw[e]at e2;cases e2;exact .inr ⟨.inr n2,a,e',ic.keeps k⟩⟩
 cell:=λ x a h=>by
  obtain⟨v,q⟩:=I.cell x a (dE _ [] (λ _ _ e=>by cases e) x a h);exact⟨v,q.keeps k⟩
 free:=I.aO.fresh (Uk _)
 jN:=λ x a h=>I.jN x a (dE _ [] (λ _ _ e=>by cases e) x a h)
 pin:=λ q hq=>by cases hq
 aO:=I.aO.kept k
 len:=by rw[UC];unfold σC;rw[Uh];exact S.sc.len
def Kt{R:Hp->Prop}{params:Arguments}{body:Expr}{tb:TE}{own:List (Addr×Obj)}{k:Int}{v:V}{u pm ctv:Value}(S:ph X scope Nc fr p)(hc:X.calm=true)(hr:X.A.depth<recursionLimit)
 (hb:∀(s:Shared) (H:Hp),PE (Hx X scope Nc qual f c s H) body tb)
 (hbind:∀(cl:List (Str×Addr)) (pm cd ct v:Value),bindArgs (PySem.W.kla_fn "<lambda>" qual params body scope cl pm cd ct) ⟨[v],[]⟩=pure [(p,v)])
 (r:RelV v u) (hf:(f,PySem.W.kla_obj "<lambda>" qual params body scope (dY X.env.cells scope.names []) pm c ctv)∈pins)
 (hcr:∀(H:Hp) (s:Shared),Inv X (pins++own) σ H s->R H->s.heap.CodeRec (.ref c) qual)
 (hq:∀H,R H->tb ((σC fr σ).set 0 (some v)) H λ x H'=>x= .int k/\R H') (J:oP X pins σ R own s):
 wpAny (model X.prog X.w) X.A.in1.in1 (call (.ref f) [u]) (λ u' s'=>(∃t,u'= .int k t)/\oP X pins σ R own s') (λ _ _=>False) s:=by
 obtain⟨H,I,rH⟩:=J;have ho:=(I.pin _ (UM _ (Vp _ hf))).1;refine wpAny_call (PySem.W.kla_callFunE (fd:=PySem.W.kla_fn "<lambda>" qual params body scope (dY X.env.cells scope.names []) pm (.ref c) ctv) (by show X.A.depth<_;exact hr) ho rfl S.co S.gen rfl (hcr H s I rH) ?_);rw[hbind]
 refine Uw (wpAny_newFunctionEnv S.IK (λ y hy=>by
  have e:y=(p,u):=by simpa using hy
  rw[e];exact S.loc) (λ h₁ hns hsb=>?_) S.sc.kind)
 have hk:∀b o,s.heap.get? b=some o->h₁.get? b=some o:=λ b o e=>hsb.extBut b o (UR (UA e)) (Uo _ e);refine⟨I.nolimit.keeps hk,?_⟩;show codeAny _ X.A.in1.in1 (.expr body (Fu X scope qual f c s)) _ _;refine PySem.W.kla_codeExpr (V1 (hb s H [] _ _ H _ (MJ S I hc r hns hk) (hq H rH)) (λ w s' he=>?_) λ e s' z=>False.elim z);obtain⟨x,H',I',rx,rfl,rH'⟩:=he;exact⟨rx,H',I.Fi (s':=s') (ch:=[]) I'.os I'.base I'.aO I'.bare (λ b z=>absurd z (by simp)),rH'⟩
def set_same{α:Type}:∀ {l:List α} {n:Nat} {x:α},l[n]?=some x->l.set n x=l
 | [],n,x,h=>by simp at h
 |a::l,0,x,h=>by simp at h;subst h;rfl
 |a::l,n+1,x,h=>by
  rw[List.set_cons_succ,set_same (n:=n) (by simpa using h)]
def Ji{params:Arguments}{body:Expr}{lpos:Pos}{c0 T:Addr}{α:List (Option Addr)}{G F:Hp}{st:ag}{n0:Nat}{b:Bool}{E:Value->Shared->Prop}{Q:Value->Shared->Prop}(S:ph X scope Nc fr p)(hcode:X.env.code= .ref c0)(hC:PySem.W.codeHdIn X.K c0 T=true)
 (hdef:defaultsOf params X.env=([],[])) (hql:X.env.qual++"<lambda>"=qual) (I:Inv X pins σ H s) (Sp:cG G F H) (SR:aX α st G) (hn0:st[n0]?=some (.tab T lpos qual b))
 (h:∀(f c:Addr) (ctv pm:Value) (G2 H2:Hp) (s2:Shared),Inv X (pins++[(f,PySem.W.kla_obj "<lambda>" qual params body scope (dY X.env.cells scope.names []) pm c ctv)]) σ H2 s2->Step α G α G2->cG G2 F H2->aX α (st.set n0 (.tab T lpos qual true)) G2->
   (some c∉α/\∃o vs t,G2 c=some (.fe o (.own c))/\o.data= .fields vs/\vs[1]?=some (.str qual t))->Q (.ref f) s2):
 wpAny (model X.prog X.w) X.A (eval (.Lambda params body scope lpos) X.env) Q E s:=by
 refine PySem.W.kla_eval hdef ?_;rw[hql];rcases SR.at' n0 _ hn0 with⟨z,_⟩|⟨a,ha,rfl,ps,gP,tr,cs⟩
 . cases z
 have hP:=I.aO a _ (Sp.get gP);have hP:s.heap.get? a=some (PySem.W.tabObj ps):=hP;have hg:s.heap.Ns mainGlobals X.mg:=I.mod.glob.keeps I.bk;obtain⟨bm,ob,b1,b2,b3,b4,b5,b6⟩:=I.mod.bmain;have b3':=I.bk _ _ b3
 have hgP:mainGlobals≠a:=λ q=>by
  obtain⟨o,es,ep,e,hd,_⟩:=hg;rw[q,hP]at e;cases e;cases hd
 have n1:bm≠mainGlobals:=λ q=>by
  obtain⟨o,es,ep,e,hd,_⟩:=hg;rw[q,e]at b3';cases b3';rw[hd]at b6;cases b6
 have n2:bm≠a:=λ q=>by rw[q,hP]at b3';cases b3';cases b4
 have hB:s.heap.BuiltinsAt X.mg a:=⟨bm,ob,b1,b2,n1,n2,b3',b4,b5,b6⟩
 have hcl:closureFor scope X.env=pure (dY X.env.cells scope.names []):=oM λ x hx hk=>I.ok.has x.1 (S.sc.free x hx hk);have C:PySem.W.CodeHd s.heap c0 a:=PySem.W.codeHd_of_K I.i4 hC;rcases cs with⟨rfl,hnf⟩|⟨rfl,c,o,vs,t,q1,q2,q3,q4,q5⟩
 . refine PySem.W.kla_makeFunction hcl I.ok.glob hg hcode C hP tr hnf hgP hB λ c' ctv h' tk hx hge hlt hrec htb=>?_;obtain⟨c2,oc,vs,t,e2,hoc,hd,hv⟩:=hrec;cases e2;have hHc:H c'=none:=I.aO.fresh hge;have hGc:G c'=none:=(Sp.none hHc).1;have hHa:H a=some (.lX ps):=Sp.get gP;have hac:a≠c':=eh hHa hHc
   let ps':=ps++ #[rawInt lpos.line,rawInt lpos.col,.ref c']
   have nb:∀ {b:Addr},H b=none->b≠a:=λ e z=>by rw[z,hHa]at e;cases e
   have I1:Inv X pins σ (upd (upd H c' (.fe oc (.own c'))) a (.lX ps')) {s with heap:=h',gens:=s.gens,drawn:=s.drawn,toks:=tk}:=by
    have old:∀ {b:Addr} {u:HO},H b=some u->b≠a->upd (upd H c' (.fe oc (.own c'))) a (.lX ps') b=some u:=λ e n=>by rw[aE n,aE (eh e hHc)];exact e
    refine I.step (ch:=[]) (λ _ z=>nomatch z) (λ b o _ _ _ e n=>hx b o (nb n) e) (λ b o _ _ _ e n=>⟨o.slots,hx b o (nb n) e⟩) (λ b o _ e n=>?_) (λ b o _ e=>?_) (λ b xs e=>?_) (λ b o u e=>?_) (λ b qs e=>?_) (λ m hm=>?_) (λ b u e=>?_) I.bare
    . rw[aE (nb n),aE (UR (UH (UA e) hge))];exact n
    . by_cases hb:b=a
      . exact⟨_,by rw[hb];exact htb⟩
      . exact⟨o,hx b o hb e⟩
    . exact old e λ z=>by rw[z,hHa]at e;cases e
    . exact old e λ z=>by rw[z,hHa]at e;cases e
    . by_cases hb:b=a
      . subst hb;rw[hHa]at e;cases e;exact⟨_,a8⟩
      . exact⟨#[],by rw[old e hb];simp⟩
    . obtain⟨o,es,ep,ho,r⟩:=hm;exact⟨o,es,ep,hx _ o (nb I.free) ho,r⟩
    . by_cases hb:b=a
      . subst hb;rw[a8]at e;cases e;exact htb
      . rw[aE hb]at e;by_cases hbc:b=c'
        . subst hbc;rw[a8]at e;cases e;exact⟨hoc,_,hoc⟩
        . rw[aE hbc]at e;refine(I.aO b u e).ng (λ d w hd q=>hx d w ?_ q) (λ d q=>old q λ z=>by rw[z,hHa]at q;cases q) λ d xs q=>old q λ z=>by rw[z,hHa]at q;cases q
          rcases hd with rfl|hd
          . exact hb
          . intro z;rw[z,hHa]at hd;cases hd
   have I2:=nr (o:=PySem.W.kla_obj "<lambda>" qual params body scope (dY X.env.cells scope.names []) ((X.mg "__name__").getD .none) c' ctv) (t':=tk) I1 (λ v z=>by cases z);have gP':upd G c' (.fe oc (.own c')) a=some (.lX ps):=by rw[aE hac];exact gP
   refine h _ c' ctv _ (upd (upd G c' (.fe oc (.own c'))) a (.lX ps')) _ _ I2 ((Step.laid hGc).trans (Step.write (UO ha))) ((Sp.laid hHc).write gP') ((SR.laid hGc).write ha ⟨rfl,ps',a8,?_,.inr ⟨rfl,c',oc,vs,t,?_,SR.mI hGc,?_,hd,hv⟩⟩) ⟨SR.mI hGc,oc,vs,t,?_,hd,hv⟩
   . show TriplesOk (ps++ #[rawInt lpos.line,rawInt lpos.col,.ref c']).toList;rw[Array.toList_append];exact TriplesOk_snoc _ _ _ _ tr
   . show codeAmong lpos (ps++ #[rawInt lpos.line,rawInt lpos.col,.ref c']).toList=_;rw[Array.toList_append];exact codeAmong_snoc _ tr hnf
   . rw[aE hac.symm,a8]
   . rw[aE hac.symm,a8]
 . refine PySem.W.kla_makeFunctionHit hcl I.ok.glob hg hcode C hP tr q1 hB λ ctv h' tk hk hsz=>?_;have I1:=I.kept (t':=tk) hk;have I2:=nr (o:=PySem.W.kla_obj "<lambda>" qual params body scope (dY X.env.cells scope.names []) ((X.mg "__name__").getD .none) c ctv) (t':=tk) I1 (λ v z=>by cases z);refine h _ c ctv _ G H _ I2 Step.refl Sp (by rw[set_same hn0];exact SR) ⟨q2,o,vs,t,q3,q4,q5⟩
end
def slt(p q:Int×Int):Prop:=p.1<=q.1
def BX(n0:Nat)(T:Addr)(lpos:Pos)(qual:Str)(fr:List (Option Nat))(tb te:DE):DE:=λ σ st K=>te σ st λ d st1=>∃(ns ks:List Int) (b:Bool),d= .lst (ns.map .int)/\ns.length<64/\ns.Pairwise (· < ·)/\ks.length=ns.length/\
 st1[n0]?=some (.tab T lpos qual b)/\(∀(i:Nat) (n k:Int),ns[i]?=some n->ks[i]?=some k->tb ((iZ fr σ).set 0 (some (.int n))) (st1.set n0 (.tab T lpos qual true)) λ v st2=>v= .int k/\st2=st1.set n0 (.tab T lpos qual true))/\
 ∀os:List (Int×Int),os.Perm (ks.zip ns)->os.Pairwise slt->K (.lst (os.map λ p=> .int p.2)) (st1.set n0 (.tab T lpos qual true))
def BN{α:List (Option Addr)}{H:Hp}:∀ {ns:List Int} {vs:List V},aS α H (ns.map D.int) vs->vs=ns.map V.int
 | [],vs,h=>by unfold aS at h;exact h
 |n::ns,vs,h=>by
  unfold aS at h;obtain⟨v,r,rfl,h1,h2⟩:=h;unfold Rep at h1;rw[h1,BN h2];rfl
def Cm{α:List (Option Addr)}{H:Hp}:∀(ns:List Int),aS α H (ns.map D.int) (ns.map V.int)
 | []=>by unfold aS;rfl
 |n::ns=>by unfold aS;exact⟨_,_,rfl,by unfold Rep;rfl,Cm ns⟩
def Cq:∀ {ns:List Int} {us:List Value},Vals (ns.map V.int) us->IntsAre us ns
 | [],_,.nil=> .nil
 |n::ns,_,.cons ⟨t,rfl⟩ h=> .cons n t (Cq h)
section
variable {X:Cx}{scope:Scope}{Nc:List Str}{fr:List (Option Nat)}{p x qual:Str}{params:Arguments}{e body:Expr}{te tb:DE}{lpos kpos pos ppos:Pos}{c0 T:Addr}{n0:Nat}
def Mw(S:ph X scope Nc fr p)(hc:X.calm=true)(hr:dy 2 X.A)(hcode:X.env.code= .ref c0)(hC:PySem.W.codeHdIn X.K c0 T=true)(hdef:defaultsOf params X.env=([],[]))(hql:X.env.qual++"<lambda>"=qual)
 (hbind:∀(cl:List (Str×Addr)) (pm cd ct v:Value),bindArgs (PySem.W.kla_fn "<lambda>" qual params body scope cl pm cd ct) ⟨[v],[]⟩=pure [(p,v)])
 (hb:∀(f c:Addr) (s:Shared) (H:Hp),PE (Hx X scope Nc qual f c s H) body (LE tb)) (ha:PA X [e] (LA (af te ao)))
 (hg:Gl X "sorted") (hm:X.mg "sorted"=none) (hv:bootBuiltins "sorted"=some (.builtin "sorted"))
 (he:backTo pos (starEach [e] X.env)=(false,eval e X.env)::backTo pos (starEach [] X.env):=by rfl) (hpl:(backTo pos (starEach [e] X.env)).any (·.1)=false:=by rfl):
 PE X (.Call (.Name "sorted" ppos) [e] [⟨some "key",.Lambda params body scope lpos,kpos⟩] pos) (LE (BX n0 T lpos qual fr tb te)):=by
 intro pins s σ H Q I h;obtain⟨α,σd,st,K,G,F,Sp,RS,SR,t,k⟩:=h;refine WH (mn I hg hm hv ?_);refine callWith_kw ?_ he hpl
 let K1:DK:=λ d st1=>∃(ns ks:List Int) (b:Bool),d= .lst (ns.map .int)/\ns.length<64/\ns.Pairwise (· < ·)/\ks.length=ns.length/\
  st1[n0]?=some (.tab T lpos qual b)/\(∀(i:Nat) (n k:Int),ns[i]?=some n->ks[i]?=some k->tb ((iZ fr σd).set 0 (some (.int n))) (st1.set n0 (.tab T lpos qual true)) λ v st2=>v= .int k/\st2=st1.set n0 (.tab T lpos qual true))/\
  ∀os:List (Int×Int),os.Perm (ks.zip ns)->os.Pairwise slt->K (.lst (os.map λ p=> .int p.2)) (st1.set n0 (.tab T lpos qual true))
 refine cw (ha pos pins s σ H (λ vs H1=>∃d v st1 α1 G1,vs=[v]/\K1 d st1/\Step α G α1 G1/\cG G1 F H1/\aX α1 st1 G1/\Rep α1 G1 d v) I
  ⟨α,σd,st,λ ds st1=>match ds with| [d]=>K1 d st1|_=>False,G,F,Sp,RS,SR,t,λ ds st1 q α1 G1 H1 vs s1 P1 S1 r1=>?_⟩) λ us s1 ⟨vs,H1,I1,rv,d,v,st1,α1,G1,hvs,kd,s1',P1,S1,r1⟩=>?_
 . match ds,q,r1 with
   | [d],q,r1=>
     unfold aS at r1;obtain⟨v,r,rfl,h1,h2⟩:=r1;unfold aS at h2;subst h2;exact⟨d,v,st1,α1,G1,rfl,q,s1,P1,S1,h1⟩
 subst hvs;obtain⟨ns,ks,b,rfl,h64,hup,hlen,hn0,hkey,hK⟩:=kd;show wpAny _ _ (evalAll ((do let v <-eval (.Lambda params body scope lpos) X.env;standAt pos;pure v)::[])) _ _ s1;refine wpAny_evalAll_cons (Uj (Ji S hcode hC hdef hql I1 P1 S1 hn0 λ f c ctv pm G2 H2 s2 I2 st2 P2 S2 ⟨hc1,o,vs,tq,hc2,hc3,hc4⟩=>Uj (Xn (Uw (wpAny_evalAll_nil ?_)))));have r2:=r1.step st2;unfold Rep at r2;obtain⟨l,xs,rfl,hl1,hl2,hl3⟩:=r2;have exs:=BN hl3;subst exs;cases rv with
 |cons ru rn=>
  cases rn;cases ru
  have hrd:Rd H2 l (.lst (ns.map V.int)):=by
   rcases hl2 with z|⟨w,z⟩
   . exact .inl (P2.get z)
   . exact .inr ⟨w,P2.get z⟩
  obtain⟨_,av,nn,vv,hobj⟩:=hrd.ok I2.aO;have hints:=Cq vv;have hlen2:=hints.length;have key:∀(H':Hp),(∃α' G',Step α1 G2 α' G'/\cG G' F H'/\aX α' (st1.set n0 (.tab T lpos qual true)) G')->H' c=some (.fe o (.own c)):=λ H' ⟨α',G',q1,q2,q3⟩=>q2.get (q1.ext c _ hc1 hc2);show wpAny _ _ (call (.builtin "sorted") [.ref l] [(Str.ofString "key",.ref f)]) _ _ _
  refine E4 (X:=X) (pins:=pins++[(f,PySem.W.kla_obj "<lambda>" qual params body scope (dY X.env.cells scope.names []) pm c ctv)]) (R:=λ H'=>∃α' G',Step α1 G2 α' G'/\cG G' F H'/\aX α' (st1.set n0 (.tab T lpos qual true)) G') (kz:=ks) (vs:=av)
   I2 ⟨α1,G2,Step.refl,P2,S2⟩ ⟨_,hobj,rfl,nn,rfl⟩ (by omega) (by omega) (λ i u kk hu hk own s' J=>?_) λ D s' out cc oD J so=>?_
  . have hi:i<ns.length:=by
     have:=(Ui.mp hu).1;omega
    obtain⟨tt,ht⟩:=hints.get i ns[i] (Uv hi);have ht:some u=some (Value.int ns[i] tt):=by rw[<-hu];exact ht
    cases ht;refine Kt (v:= .int ns[i]) (u:= .int ns[i] tt) S hc (by have:=hr.dp;omega) (hb f c) hbind ⟨tt,rfl⟩ (UM _ (Vw.mpr rfl)) (λ H' s'' J' r'=>?_) (λ H' r'=>?_) J
    . have q:=J'.aO c _ (key H' r');exact⟨c,o,vs,tq,rfl,q.1,hc3,hc4⟩
    . obtain⟨α',G',q1,q2,q3⟩:=r';refine⟨α',(iZ fr σd).set 0 (some (.int ns[i])),_,_,G',F,q2,?_,q3,hkey i ns[i] kk (Uv hi) hk,λ d' st' hd α'' G'' H'' v' s'' P'' S'' r''=>?_⟩
      . exact((RS.step ((s1'.trans st2).trans q1)).comp).set 0 (by unfold Rep;rfl)
      . obtain⟨rfl,rfl⟩:=hd;unfold Rep at r'';exact⟨r'',α'',G'',q1.trans s'',P'',S''⟩
  . obtain⟨H',I',α',G',q1,q2,q3⟩:=J;obtain⟨ps,hp,ho,hs⟩:=so
    have hps:∀q∈ps,∃t,q.2= .int (numOf q.2) t:=λ q hq=>by
     have h1:=hp.mem_iff.mp hq;have h2:q.2∈av:=(Xy (show(q.1,q.2)∈ks.zip av from h1)).2;obtain⟨n,t,e⟩:=hints.all _ h2;exact⟨t,by rw[e];rfl⟩
    have hos:(ps.map λ q=>(q.1,numOf q.2)).Perm (ks.zip ns):=by
     have h1:=hp.map λ q:Int×Value=>(q.1,numOf q.2)
     have e:(ks.zip av).map (λ q:Int×Value=>(q.1,numOf q.2))=ks.zip ns:=by
      rw[<-hints.nums,List.zip_map_right];exact Wc λ⟨a,b⟩ _=>rfl
     rw[e]at h1;exact h1
    have hpw:(ps.map λ q=>(q.1,numOf q.2)).Pairwise slt:=by rw[Yk];exact hs
    have kk:=hK _ hos hpw;rw[Vb]at kk;have hD0:=gw I'
    have vout:Vals ((ps.map λ q=>numOf q.2).map V.int) out.toList:=by
     rw[ho];clear hos hpw kk hs hp ho;induction ps with
     |nil=>exact .nil
     |cons q r ih=>
      obtain⟨t,e⟩:=hps q (UP ..);exact .cons ⟨t,e⟩ (ih λ z hz=>hps z (UG _ hz))
    have hlo:(ps.map λ q=>numOf q.2).length<=sizeLine:=by
     rw[Uh,hp.length_eq,List.length_zip];exact Um (Nat.min_le_left _ _) (Um (show ks.length<=64 by omega) (by decide))
    have I3:=HV (u:= .lst ((ps.map λ q=>numOf q.2).map V.int)) I' oD.ge oD.ne ⟨by rw[Uh];exact hlo,out.toList,cc,vout,hD0.1⟩;have hG:=(q2.none hD0.2.1).1;refine⟨.ref D,_,I3.i9,rfl,k _ _ kk α' _ _ _ ((s1'.trans st2).trans (q1.trans (Step.laid hG))) (q2.laid hD0.2.1) (q3.laid hG) ?_⟩;unfold Rep;refine⟨D,_,rfl,q3.mI hG,.inl a8,?_⟩;have e:List.map ((λ p:Int×Int=>L3.D.int p.snd)∘λ q:Int×Value=>(q.fst,numOf q.snd)) ps=(ps.map λ q=>numOf q.2).map L3.D.int:=by rw[Vb];rfl
    rw[e];exact Cm _
end
end L3
namespace L3
open PySem L2
open PySem.Spec hiding items?
open PyProof.Rows hiding St
def Jm(sc:Scope)(N gl:List Str):Bool:=
 N.all (λ x=>(sc.names.lookup x==some .local||sc.names.lookup x==some .cell)&&x != "__debug__"&&x != "__classdict__")&&gl.all (λ x=>sc.names.lookup x==some .globalImplicit&&x != "__debug__")
structure VS(sc:Scope)(N gl:List Str):Prop where
 ok:Jm sc N gl=true
def VS.at_{sc:Scope}{N gl:List Str}(V:VS sc N gl){i:Nat}{x:Str}(h:N[i]?=some x):Loc sc x/\(x==("__debug__":Str))=false/\(x==("__classdict__":Str))=false:=by
 have o:=V.ok;unfold Jm at o;have:=UW.mp (Bool.and_eq_true_iff.mp o).1 x (UO h);simp only[U0,XB,Wj,Yq,ne_eq]at this;exact⟨this.1.1,YF this.1.2,YF this.2⟩
def VS.RV{sc:Scope}{N gl:List Str}(V:VS sc N gl){i:Nat}{x:Str}(h:gl[i]?=some x):sc.names.lookup x=some .globalImplicit/\(x==("__debug__":Str))=false:=by
 have o:=V.ok;unfold Jm at o;have:=UW.mp (Bool.and_eq_true_iff.mp o).2 x (UO h);simp only[U0,Wj,Yq,ne_eq]at this;exact⟨this.1,YF this.2⟩
section
variable {X:Cx}{sc:Scope}{N gl:List Str}{x:Str}{pos:Pos}
def VS.nm(V:VS X.env.scope X.N gl)(i:Nat)(h:X.N[i]?=some x:=by rfl):JE X (.Name x pos) (ae i):=
 let q:=V.at_ h
 Hm q.2.1 q.2.2 (q.1.elim .inl λ z=> .inr (.inl z)) h
def VS.l(V:VS sc N gl)(i:Nat)(h:N[i]?=some x:=by rfl):Loc sc x:=(V.at_ h).1
def VS.g(V:VS sc N gl)(i:Nat)(h:gl[i]?=some x:=by rfl):sc.names.lookup x=some .globalImplicit:=(V.RV h).1
def VS.d(V:VS sc N gl)(i:Nat)(h:gl[i]?=some x:=by rfl):(x==("__debug__":Str))=false:=(V.RV h).2
def cu{n:Nat}(hN:X.N[n]?=some x:=by rfl)(hd:((x==("__debug__":Str))||(x==("__classdict__":Str)))=false:=by decide+kernel)
 (hv:CO X.env.scope x:=by first|exact Or.inl rfl|exact Or.inr (Or.inl rfl)|exact Or.inr (Or.inr rfl)):JE X (.Name x pos) (ae n):=
 Hm (Bool.or_eq_false_iff.mp hd).1 (Bool.or_eq_false_iff.mp hd).2 hv hN
@[irreducible] def mG:du:=wL (λ _ j=>j≠0) λ i j=> .int (i.fdiv j)
def sQ{k:Nat}(hr:dy k X.A)(hs:X.stack=X.env::X.outer)(hgen:X.env.scope.isGenerator=false)(hco:X.env.scope.isCoroutine=false):ck X (binaryOp .FloorDiv) (LR mG):=by
 unfold mG;refine mj (g':=λ i j=> .int (i.fdiv j)) (λ _ _ _ _=>by unfold Rep;rfl) ?_;intro pins s σ H x y v u Q I rx ry h;obtain⟨i,j,rfl,rfl,hc,q⟩:=h;obtain⟨t,rfl⟩:=rx;obtain⟨t',rfl⟩:=ry;refine floordiv_int hc ⟨.int (i.fdiv j),H,I.tok _,⟨_,rfl⟩,q⟩ (.inr (PySem.PylongRoom.of I.nolimit ?_ ?_))
 . have:=hr.dp;show X.A.depth+100<_;omega
 . exact PySem.SeerAt.of (env:=X.env) (l:=X.outer) (I.mod.seer.keeps I.bk) I.ok.gt (by rw[I.ok.frames,hs]) hgen hco I.ok.blt I.ok.glob
def lI{st:ag}{K:DK}{i j:Int}(h0:j≠0)(k:K (.int (i.fdiv j)) st):mG (.int i) (.int j) st K:=by unfold mG;exact⟨h0,k⟩
def ph.look{scope:Scope}{Nc:List Str}{fr:List (Option Nat)}{p:Str}(S:a7 X scope Nc fr)(h:(scope.names.all (λ x=>x.2 != .cell)&&(!scope.isCoroutine&& !scope.isGenerator)&&(scope.names.lookup p==some .local))=true:=by decide+kernel)
 (p0:Nc[0]?=some p:=by rfl) (f0:fr[0]?=some none:=by rfl):ph X scope Nc fr p:=by
 simp only[U0,Bool.not_eq_true',Wj]at h;exact⟨S,λ x hx=>by simpa using UW.mp h.1.1 x hx,h.1.2.1,h.1.2.2,p0,f0,h.2⟩
def LQ{scope:Scope}{Nc:List Str}{fr:List (Option Nat)}{p qual:Str}{params:Arguments}{e body:Expr}{te tb:DE}{lpos kpos pos ppos:Pos}{c0 T:Addr}{n0 k:Nat}(S:ph X scope Nc fr p)(hc:X.calm=true)(hr:dy k X.A)(hcode:X.env.code= .ref c0)(hC:PySem.W.codeHdIn X.K c0 T=true)
 (hb:∀(f c:Addr) (s:Shared) (H:Hp),JE (Hx X scope Nc qual f c s H) body tb) (he:JE X e te) (hg:X.env.kindOf "sorted"=some .globalImplicit) (hm:X.mg "sorted"=none)
 (hdef:defaultsOf params X.env=([],[]):=by rfl) (hql:X.env.qual++"<lambda>"=qual:=by rfl)
 (hbind:∀(cl:List (Str×Addr)) (pm cd ct v:Value),bindArgs (PySem.W.kla_fn "<lambda>" qual params body scope cl pm cd ct) ⟨[v],[]⟩=pure [(p,v)]:=by(intros;rfl)) (hk:2<=k:=by decide)
 (he1:starEach [e] X.env=(false,eval e X.env)::starEach [] X.env:=by rfl):
 JE X (.Call (.Name "sorted" ppos) [e] [⟨some "key",.Lambda params body scope lpos,kpos⟩] pos) (BX n0 T lpos qual fr tb te):=by
 unfold JE at he hb⊢;refine Mw S hc (hr.mono hk) hcode hC hdef hql hbind hb (vF he yi he1) hg hm rfl ?_ ?_
 . rw[he1];rfl
 . rw[he1];rfl
end
structure Pd(K:PySem.W.Frag)(x qual:Str)(st:Stmt)(f:Addr)(fd:FuncData)(c:Addr):Prop where
 ex:∃(oc:Value) (od:Option Addr) (kV doc pm:Value) (an:Option Addr) (ct:Value) (osl:Array (Option Value)),
  fd=PySem.W.fnOf x qual (lO st) (iI st) (ai st) .none kV doc pm an (.ref c) ct/\K.lookup f=some ⟨oc,od,.func fd,osl⟩/\PySem.W.codeIn K (.ref c) qual=true
def Pn{P:Program}{w:World}{K:PySem.W.Frag}{mg:Str->Option Value}{base:Heap}{x qual:Str}{st:Stmt}{f c:Addr}{fd:FuncData}{N ps:List Str}{k:Nat}{sp:cy}{t:DS}(F:Pd K x qual st f fd c)(S:aQ N ps (ai st))
 (hbody:∀(A:Around) (outer:List Env) (s:Shared) (H:Hp) (E:XK),dy k (A.deeper (envOfC qual (ai st) s.heap.objs.size f (.ref c)))->JB (sT cz P w K mg base N qual (ai st) f (.ref c) A outer s H E).yf (iI st) t)
 (hsp:∀ds st K,sp ds st K->ds.length=ps.length/\t {nx:=λ _ st'=>K .aD st',rt:=K} (aU N ds) st):a_ P w K mg base cz (k+1) f fd ps (cD sp):=by
 obtain⟨oc,od,kV,doc,pm,an,ct,osl,rfl,lk,hcd⟩:=F.ex;unfold JB at hbody;refine KZ lk hcd S (λ vs H Q E h=>?_) λ A outer s H vs Q E hr h=>?_
 . obtain⟨α,ds,st,K,G,F,P,R,S,q,k⟩:=h;rw[<-R.length];exact(hsp ds st K q).1
 . obtain⟨α,ds,st,K,G,F',P,R,SR,q,k⟩:=h;refine⟨_,(hbody A outer s H E hr).yf,α,aU N ds,st,_,G,F',P,eN.start R,SR,(hsp ds st K q).2,?_,k,?_,?_⟩
   . intro σd' st' kk α' G' H' σ' s' P' R' S';exact k .aD st' kk α' G' H' .aD s' P' S' (by unfold Rep;rfl)
   . intro σd' st' kk;exact kk.elim
   . intro σd' st' kk;exact kk.elim
def GG(tl:List (Addr×Pos×Str)):cy:=λ ds st K=>∃ns:List Int,ds=[.lst (ns.map .int)]/\ns.length<=63/\st=tl.map (λ q=> .tab q.1 q.2.1 q.2.2 false)/\∀st',K (.bl true) st'
def Hw(K:PySem.W.Frag)(ts:List (Addr×Addr)):Sp:=λ vs H Q _=>∃(a:Addr) (ns:List Int),vs=[.ref a]/\Entry K ts a ns H/\ns.length<=63/\∀H',Q (.bl true) H'
def Hg{K:PySem.W.Frag}{ts:List (Addr×Addr)}{tl:List (Addr×Pos×Str)}(nl:Iw K=true)(hts:ts.map (·.2)=tl.map (·.1))(nd:(tl.map (·.1)).Nodup){vs:List V}{H:Hp}{Q:VK}{E:XK}(h:Hw K ts vs H Q E):cD (GG tl) vs H Q E:=by
 obtain⟨a,ns,rfl,hE,hl,q⟩:=h
 have tabs:∀q∈tl,H q.1=some (.lX #[])/\q.1≠a:=λ q hq=>by
  have h1:q.1∈ts.map (·.2):=by rw[hts];exact XN hq
  obtain⟨t,ht,e⟩:=UI.mp h1;rw[<-e];exact hE.tab t ht
 have at_:∀(i:Nat) (x:Addr),(tl.map λ q=>some q.1)[i]?=some (some x)->∃q,tl[i]?=some q/\q.1=x:=λ i x e=>by
  rw[UB]at e;cases z:tl[i]? with
  |none=>rw[z]at e;cases e
  |some w=>rw[z]at e;simp at e;exact⟨w,rfl,e⟩
 have nota:some a∉tl.map λ q=>some q.1:=λ z=>by
  obtain⟨w,hw,e⟩:=UI.mp z;exact(tabs w hw).2 (Vk e)
 rcases hE.lst with hS|⟨o,av,n,e,hc,_⟩
 . refine⟨tl.map λ q=>some q.1,[.lst (ns.map .int)],tl.map (λ q=> .tab q.1 q.2.1 q.2.2 false),λ d _=>d= .bl true,H,λ _=>none,⟨λ b=>by cases H b<;>rfl,λ _ _ _=>rfl⟩,?_,⟨by simp,λ i j x e1 e2=>?_,λ n c e=>?_⟩,⟨ns,rfl,hl,rfl,λ _=>rfl⟩,?_⟩
   . unfold aS;refine⟨.ref a,[],rfl,?_,by unfold aS;rfl⟩;unfold Rep;exact⟨a,ns.map V.int,rfl,nota,hS,AF ns⟩
   . obtain⟨p,hp,e3⟩:=at_ i x e1;obtain⟨r,hr,e4⟩:=at_ j x e2;have k1:(tl.map (·.1))[i]?=some x:=by rw[UB,hp,<-e3];rfl
     have k2:(tl.map (·.1))[j]?=some x:=by rw[UB,hr,<-e4];rfl
     have hi:=(Ui.mp k1).1;exact(List.getElem?_inj hi nd).mp (k1.trans k2.symm)
   . rw[UB]at e;cases z:tl[n]? with
     |none=>rw[z]at e;cases e
     |some w=>
      rw[z]at e;have e':Cell.tab w.1 w.2.1 w.2.2 false=c:=Vk e;subst e';refine .inr ⟨w.1,by rw[UB,z];rfl,rfl,#[],(tabs w (UO z)).1,trivial,.inl ⟨rfl,rfl⟩⟩
   . rintro d st' rfl α' G' H' v _ _ _ r;unfold Rep at r;subst r;exact q H'
 . exact absurd hc (AR nl e)
section
variable {K:PySem.W.Frag}{x qual p1 p2 p3 p4 p5:Str}{st:Stmt}{f:Addr}{fd:FuncData}
abbrev u3(x qual:Str)(st:Stmt)(kV doc pm:Value)(an:Option Addr)(cdv ct:Value):FuncData:=PySem.W.fnOf x qual (lO st) (iI st) (ai st) .none kV doc pm an cdv ct
def h_{α:Type}{n:Nat}{us:List α}(h:us.length=n+1):∃a r,us=a::r/\r.length=n:=by
 cases us with
 |nil=>cases h
 |cons a r=>exact⟨a,r,rfl,Nat.succ.inj h⟩
def vX{α:Type}{us:List α}(h:us.length=0):us=[]:=VT.mp h
def Ud(F:p8 K x qual st f fd)(h:∀kV doc pm an cdv ct a,bindArgs (u3 x qual st kV doc pm an cdv ct) ⟨[a],[]⟩=pure [(p1,a)]):Binds K fd [p1] []:=
 F.binds λ kV doc pm an cdv ct us hl=>by
  obtain⟨a,r1,rfl,h1⟩:=h_ hl;cases vX h1;exact h kV doc pm an cdv ct a
def R_(F:p8 K x qual st f fd)(h:∀kV doc pm an cdv ct a b,bindArgs (u3 x qual st kV doc pm an cdv ct) ⟨[a,b],[]⟩=pure [(p1,a),(p2,b)]):Binds K fd [p1,p2] []:=
 F.binds λ kV doc pm an cdv ct us hl=>by
  obtain⟨a,r1,rfl,h1⟩:=h_ hl;obtain⟨b,r2,rfl,h2⟩:=h_ h1;cases vX h2;exact h kV doc pm an cdv ct a b
def R0(F:p8 K x qual st f fd)(h:∀kV doc pm an cdv ct a b c,bindArgs (u3 x qual st kV doc pm an cdv ct) ⟨[a,b,c],[]⟩=pure [(p1,a),(p2,b),(p3,c)]):Binds K fd [p1,p2,p3] []:=
 F.binds λ kV doc pm an cdv ct us hl=>by
  obtain⟨a,r1,rfl,h1⟩:=h_ hl;obtain⟨b,r2,rfl,h2⟩:=h_ h1;obtain⟨c,r3,rfl,h3⟩:=h_ h2;cases vX h3;exact h kV doc pm an cdv ct a b c
def RZ(F:p8 K x qual st f fd)(h:∀kV doc pm an cdv ct a b c d,bindArgs (u3 x qual st kV doc pm an cdv ct) ⟨[a,b,c,d],[]⟩=pure [(p1,a),(p2,b),(p3,c),(p4,d)]):Binds K fd [p1,p2,p3,p4] []:=
 F.binds λ kV doc pm an cdv ct us hl=>by
  obtain⟨a,r1,rfl,h1⟩:=h_ hl;obtain⟨b,r2,rfl,h2⟩:=h_ h1;obtain⟨c,r3,rfl,h3⟩:=h_ h2;obtain⟨d,r4,rfl,h4⟩:=h_ h3;cases vX h4;exact h kV doc pm an cdv ct a b c d
end
section
variable {X:Cx}
end
mutual
def Ex{α:List (Option Addr)}{G:Hp}:∀(n:Nat) {d:D} {v:V},pl n d=true->Rep α G d v->Rep [] G d v
 |_,.aD,_,_,h=>by unfold Rep at h⊢;exact h
 |_,.bl _,_,_,h=>by unfold Rep at h⊢;exact h
 |_,.int _,_,_,h=>by unfold Rep at h⊢;exact h
 |_,.str _,_,_,h=>by unfold Rep at h⊢;exact h
 |_,.ty _,_,p,_=>by unfold pl at p;cases p
 |_,.ref _,_,p,_=>by unfold pl at p;cases p
 |0,.lst _,_,p,_=>by unfold pl at p;cases p
 |0,.tup _,_,p,_=>by unfold pl at p;cases p
 |n+1,.lst xs,_,p,h=>by
  unfold pl at p;unfold Rep at h⊢;obtain⟨a,vs,e,_,r,q⟩:=h;exact⟨a,vs,e,by simp,r,tR n p q⟩
 |n+1,.tup xs,_,p,h=>by
  unfold pl at p;unfold Rep at h⊢;obtain⟨a,vs,e,_,r,q⟩:=h;exact⟨a,vs,e,by simp,r,tR n p q⟩
def tR{α:List (Option Addr)}{G:Hp}:∀(n:Nat) {ds:List D} {vs:List V},ds.all (pl n)=true->aS α G ds vs->aS [] G ds vs
 |_,[],_,_,h=>by unfold aS at h⊢;exact h
 |n,d::ds,_,p,h=>by
  rw[V2,U0]at p;unfold aS at h⊢;obtain⟨v,r,e,h1,h2⟩:=h;exact⟨v,r,e,Ex n p.1 h1,tR n p.2 h2⟩
end
section
variable {X:Cx}
def yf(X:Cx):Cx:={X with xe:=λ _ _=>False}
end
variable {st:ag}{K:D->ag->Prop}{i j:Int}
section
variable {X:Cx}{pos:Pos}
end
end L3
namespace L3
open PySem L2
structure ClsAt(K:PySem.W.Frag)(mg:Str->Option Value)(x:Str)(C:Addr):Prop where
 cl:pU K C
 mg:mg x=some (.ref C)
 T5:PySem.W.makesIn K C=true
 kp:PySem.W.keepIn K (.ref C)=true
structure MethAt(K:PySem.W.Frag)(C:Addr)(m qual:Str)(st:Stmt)(ps:List Str)(f:Addr)(fd:FuncData):Prop where
 fn:p8 K m qual st f fd
 me:Meth K C m f
 bd:Binds K fd ps []
end L3
namespace Hd
open PySem PySem.W L2 L3
open PySem.Spec hiding items?
open PyProof.Rows hiding St
section
variable {K:Frag}{mg:Str->Option Value}{h:Heap}{x q:Str}{st:Stmt}{f c C:Addr}{pm:Value}{p1 p2 p3 p4 p5 p6:Str}
abbrev Ed(K:Frag)(x:Str)(st:Stmt)(f:Addr)(pm:Value)(c:Addr):Prop:=(nsIn K mainGlobals x,K.lookup f,codeIn K (.ref c) x,keepIn K (.ref f))=(some (some (.ref f)),some (fq st x x pm c),true,true)
abbrev Em(K:Frag)(C:Addr)(x q:Str)(st:Stmt)(f:Addr)(pm:Value)(c:Addr):Prop:=(findIn K (.ref C) x,isFn K (.ref f),K.lookup f,codeIn K (.ref c) q,keepIn K (.ref f))=(some (some (.ref f)),true,some (fq st x q pm c),true,true)
def Ed.fn(e:Ed K x st f pm c):p8 K x x st f (fd st x x pm c)/\nsIn K mainGlobals x=some (some (.ref f)):=by
 obtain⟨e1,e2,e3,e4⟩:_/\_/\_/\_:=by simpa only[Y2]using e
 exact⟨GF (st:=st) e2 e3 e4,e1⟩
def Em.fn(e:Em K C x q st f pm c):p8 K x q st f (fd st x q pm c)/\Meth K C x f:=by
 obtain⟨e1,e2,e3,e4,e5⟩:_/\_/\_/\_/\_:=by simpa only[Y2]using e
 exact⟨GF (st:=st) e3 e4 e5,e1,e2,e5⟩
def oN(X:K.In h)(G:h.Ns mainGlobals mg)(e:Ed K x st f pm c)(b:∀kV doc pm an cdv ct a,bindArgs (u3 x x st kV doc pm an cdv ct) ⟨[a],[]⟩=pure [(p1,a)]):bD K mg x x st [p1] f (fd st x x pm c):=⟨e.fn.1,mg_of X G e.fn.2,Ud e.fn.1 b⟩
def i6(X:K.In h)(G:h.Ns mainGlobals mg)(e:Ed K x st f pm c)(b:∀kV doc pm an cdv ct a1 a2,bindArgs (u3 x x st kV doc pm an cdv ct) ⟨[a1,a2],[]⟩=pure [(p1,a1),(p2,a2)]):bD K mg x x st [p1,p2] f (fd st x x pm c):=⟨e.fn.1,mg_of X G e.fn.2,R_ e.fn.1 b⟩
def wB(X:K.In h)(G:h.Ns mainGlobals mg)(e:Ed K x st f pm c)(b:∀kV doc pm an cdv ct a1 a2 a3,bindArgs (u3 x x st kV doc pm an cdv ct) ⟨[a1,a2,a3],[]⟩=pure [(p1,a1),(p2,a2),(p3,a3)]):bD K mg x x st [p1,p2,p3] f (fd st x x pm c):=⟨e.fn.1,mg_of X G e.fn.2,R0 e.fn.1 b⟩
def So(X:K.In h)(G:h.Ns mainGlobals mg)(e:Ed K x st f pm c)(b:∀kV doc pm an cdv ct a1 a2 a3 a4,bindArgs (u3 x x st kV doc pm an cdv ct) ⟨[a1,a2,a3,a4],[]⟩=pure [(p1,a1),(p2,a2),(p3,a3),(p4,a4)]):bD K mg x x st [p1,p2,p3,p4] f (fd st x x pm c):=⟨e.fn.1,mg_of X G e.fn.2,RZ e.fn.1 b⟩
def R7(e:Em K C x q st f pm c)(b:∀kV doc pm an cdv ct a1 a2,bindArgs (u3 x q st kV doc pm an cdv ct) ⟨[a1,a2],[]⟩=pure [(p1,a1),(p2,a2)]):MethAt K C x q st [p1,p2] f (fd st x q pm c):=⟨e.fn.1,e.fn.2,R_ e.fn.1 b⟩
def Ln(e:Em K C x q st f pm c)(b:∀kV doc pm an cdv ct a1 a2 a3,bindArgs (u3 x q st kV doc pm an cdv ct) ⟨[a1,a2,a3],[]⟩=pure [(p1,a1),(p2,a2),(p3,a3)]):MethAt K C x q st [p1,p2,p3] f (fd st x q pm c):=⟨e.fn.1,e.fn.2,R0 e.fn.1 b⟩
def T3(e:Em K C x q st f pm c)(b:∀kV doc pm an cdv ct a1 a2 a3 a4,bindArgs (u3 x q st kV doc pm an cdv ct) ⟨[a1,a2,a3,a4],[]⟩=pure [(p1,a1),(p2,a2),(p3,a3),(p4,a4)]):MethAt K C x q st [p1,p2,p3,p4] f (fd st x q pm c):=⟨e.fn.1,e.fn.2,RZ e.fn.1 b⟩
def fc(e:(K.lookup f,codeIn K (.ref c) q)=(some (fq st x q pm c),true)):Pd K x q st f (fd st x q pm c) c:=by
 obtain⟨e1,e2⟩:_/\_:=by simpa only[Y2]using e
 exact⟨_,_,_,_,_,_,_,_,rfl,e1,e2⟩
def na{a:Str}(e:findIn K (.ref C) a=some none):g0 K C a:=e
end
end Hd
namespace L3
open PySem L2
open PySem.Spec hiding items?
open PyProof.Rows hiding St
section
variable {X:Cx}{pos:Pos}
end
end L3
namespace L3
open PySem L2
open PySem.Spec hiding items?
@[irreducible] def BD:du:=λ x y st K=>∃(n:Nat) (xs:List D),x= .ref n/\st[n]?=some (.lst xs)/\xs.all (pl 39)=true/\pl 40 y=true/\K (.bl (!cZ (.lst xs) y)) st
def QI{X:Cx}{k:Nat}(hr:dy k X.A):ck X (compareOp .NotEq) (LR BD):=λ pins s σ H x y v u Q I rx ry ⟨α,d,e,st,K,G,F',P,r1,r2,S,q,k⟩=>by
 have hu:=hr.units;unfold BD at q;obtain⟨n,xs,rfl,hn,h2,h3,q⟩:=q
 have r1':Rep [] G (.lst xs) x:=by
  obtain⟨a,ea,vs,g1,g2⟩:=S.gO hn;have:=d5 ea r1;subst this;unfold Rep;exact⟨a,vs,rfl,by simp,.inl g1,tR 39 h2 g2⟩
 exact Lc I 40 X.A _ e x y v u (by unfold pl;exact h2) h3 (r1'.mono P.same) ((Ex 40 h3 r2).mono P.same) rx ry (by omega) _ _ _ _ ⟨.bl _,H,I,rfl,k.here P q S (by unfold Rep;rfl)⟩
def Qj{st:ag}{K:DK}{n:Nat}{xs:List D}{y:D}(h0:st[n]?=some (.lst xs))(h2:xs.all (pl 39)=true)(h3:pl 40 y=true)(k:K (.bl (!cZ (.lst xs) y)) st):BD (.ref n) y st K:=by
 unfold BD;exact⟨n,xs,rfl,h0,h2,h3,k⟩
end L3
namespace L3
open PySem PySem.Spec L2
open PyProof.Rows hiding St
section
variable {X:Cx}{pos:Pos}
end
end L3
namespace Mx
def S:Nat->(Nat->Int)->Int
 |0,_=>0
 |n+1,f=>S n f+f n
def aC{n:Nat}{f g:Nat->Int}(h:∀i,i<n->f i=g i):S n f=S n g:=by
 induction n with
 |zero=>rfl
 |succ n ih=>unfold S;rw[ih λ i hi=>h i (by omega),h n (by omega)]
def jY{n:Nat}{f:Nat->Int}(h:∀i,i<n->f i=0):S n f=0:=by
 induction n with
 |zero=>rfl
 |succ n ih=>unfold S;rw[ih λ i hi=>h i (by omega),h n (by omega)];rfl
def gF(n:Nat)(f g:Nat->Int):S n (λ i=>f i+g i)=S n f+S n g:=by
 induction n with
 |zero=>rfl
 |succ n ih=>unfold S;rw[ih];dsimp only;omega
def eG(n:Nat)(c:Int)(f:Nat->Int):S n (λ i=>c*f i)=c*S n f:=by
 induction n with
 |zero=>unfold S;rw[Vd]
 |succ n ih=>unfold S;rw[ih,XS]
def qd(n:Nat)(c:Int)(f:Nat->Int):S n (λ i=>f i*c)=S n f*c:=by
 induction n with
 |zero=>unfold S;rw[VO]
 |succ n ih=>unfold S;rw[ih,Int.add_mul]
def tO(n:Nat)(f:Nat->Int):S n (λ i=> -f i)= -S n f:=by
 induction n with
 |zero=>rfl
 |succ n ih=>unfold S;rw[ih];dsimp only;omega
def mH(m n:Nat)(f:Nat->Nat->Int):S m (λ i=>S n λ j=>f i j)=S n λ j=>S m λ i=>f i j:=by
 induction m with
 |zero=>exact(jY (n:=n) (λ i _=>rfl)).symm
 |succ m ih=>
  have:S n (λ j=>S (m+1) λ i=>f i j)=S n λ j=>(S m λ i=>f i j)+f m j:=aC λ j _=>rfl;rw[this,gF,<-ih];rfl
def oZ{n:Nat}{k:Nat}(hk:k<n){f:Nat->Int}(h:∀i,i<n->i≠k->f i=0):S n f=f k:=by
 induction n with
 |zero=>omega
 |succ n ih=>
  unfold S;by_cases e:k=n
  . subst e;rw[jY λ i hi=>h i (by omega) (by omega),Wn]
  . rw[ih (by omega) λ i hi hn=>h i (by omega) hn,h n (by omega) (by omega),VP]
def CJ(n:Nat)(f:Nat->Int):S (n+1) f=f 0+S n λ i=>f (i+1):=by
 induction n with
 |zero=>unfold S S;omega
 |succ n ih=>
  have:S (n+1+1) f=S (n+1) f+f (n+1):=rfl;rw[this,ih];have:S (n+1) (λ i=>f (i+1))=S n (λ i=>f (i+1))+f (n+1):=rfl;rw[this];omega
def dl(i j:Nat):Int:=if i=j then 1 else 0
def fu(i:Nat):dl i i=1:=Ur rfl
def fG{i j:Nat}(h:i≠j):dl i j=0:=Up h
def om{n k:Nat}(hk:k<n)(f:Nat->Int):S n (λ i=>dl k i*f i)=f k:=by
 rw[oZ hk (λ i _ h=>by rw[fG (Uy h),VO]),fu,V0]
def rZ{n k:Nat}(hk:k<n)(f:Nat->Int):S n (λ i=>f i*dl i k)=f k:=by
 rw[oZ hk (λ i _ h=>by rw[fG h,Vd]),fu,Int.mul_one]
abbrev Row:=List Int
abbrev Rows:=List (List Int)
def g(A:Rows)(i j:Nat):Int:=(A.getD i []).getD j 0
structure cj(m n:Nat)(A:Rows):Prop where
 len:A.length=m
 dO:∀r∈A,r.length=n
def aG{α:Type}{l:List α}{i:Nat}{d:α}(h:i<l.length):l.getD i d=l[i]:=by
 rw[Uu,Uv h];rfl
def m7{α:Type}{l:List α}{i:Nat}{d:α}(h:l.length<=i):l.getD i d=d:=by
 rw[Uu,Xr h];rfl
def zk{a b:Row}{n:Nat}(ha:a.length=n)(hb:b.length=n)(h:∀j,j<n->a.getD j 0=b.getD j 0):a=b:=by
 refine List.ext_getElem (by omega) λ i h1 h2=>?_;have:=h i (by omega);rwa [aG h1,aG h2]at this
def cj.row{m n:Nat}{A:Rows}(h:cj m n A){i:Nat}(hi:i<m):(A.getD i []).length=n:=by
 have hl:=h.len;rw[aG (by omega)];exact h.dO _ (UL _)
def cj.ext{m n:Nat}{A B:Rows}(ha:cj m n A)(hb:cj m n B)(h:∀i j,i<m->j<n->g A i j=g B i j):A=B:=by
 have h1:=ha.len;have h2:=hb.len;refine List.ext_getElem (by omega) λ i hi hj=>?_;have e1:=ha.row (i:=i) (by omega);have e2:=hb.row (i:=i) (by omega);have:=zk e1 e2 λ j hj=>h i j (by omega) hj;rwa [aG hi,aG hj]at this
def d9(r:Row)(t:Int)(s:Row):Row:=List.zipWith (λ a b=>a+t*b) r s
def nc{r s:Row}{t:Int}(h:r.length=s.length):(d9 r t s).length=r.length:=by unfold d9;simp[h]
def vC{r s:Row}{t:Int}(h:r.length=s.length)(j:Nat):(d9 r t s).getD j 0=r.getD j 0+t*s.getD j 0:=by
 unfold d9;by_cases hj:j<r.length
 . rw[aG (by simp;omega),aG hj,aG (by omega)];simp
 . rw[m7 (by simp;omega),m7 (by omega),m7 (by omega)];simp
def e_:Row->Rows->Row->Row
 |w::ws,r::rs,acc=>e_ ws rs (d9 acc w r)
 |_,_,acc=>acc
def uB{n:Nat}:∀ {ws:Row} {rs:Rows} {acc:Row},acc.length=n->(∀r∈rs,r.length=n)->(e_ ws rs acc).length=n
 | [],_,acc,h,_=>by unfold e_;exact h
 |_::_,[],acc,h,_=>by unfold e_;exact h
 |w::ws,r::rs,acc,h,hr=>by
  unfold e_;refine uB ?_ λ r hr'=>hr r (UG _ hr');rw[nc (by rw[h,hr r UP]),h]
def tu{n:Nat}:∀ {ws:Row} {rs:Rows} {acc:Row} (j:Nat),acc.length=n->(∀r∈rs,r.length=n)->ws.length=rs.length->(e_ ws rs acc).getD j 0=acc.getD j 0+S rs.length λ k=>ws.getD k 0*g rs k j
 | [],[],acc,j,h,_,_=>by unfold e_;show _=_+(0:Int);rw[VP]
 | [],_::_,acc,j,h,_,hl=>by cases hl
 |_::_,[],acc,j,h,_,hl=>by cases hl
 |w::ws,r::rs,acc,j,h,hr,hl=>by
  have e1:acc.length=r.length:=by rw[h,hr r UP]
  unfold e_;rw[tu j (by rw[nc e1,h]) (λ r hr'=>hr r (UG _ hr')) (by simpa using hl),vC e1,UT,CJ]
  have:(λ k=>(w::ws).getD (k+1) 0*g (r::rs) (k+1) j)=λ k=>ws.getD k 0*g rs k j:=by
   funext k;unfold g;simp
  rw[this];unfold g;simp;omega
def mulM(A B:Rows)(n:Nat):Rows:=A.map λ w=>e_ w B (List.replicate n 0)
def d5(n j:Nat):(List.replicate n (0:Int)).getD j 0=0:=by
 by_cases h:j<n
 . rw[aG (by simpa using h)];simp
 . rw[m7 (by simp;omega)]
def ET{m p n:Nat}{A B:Rows}(ha:cj m p A)(hb:cj p n B):cj m n (mulM A B n):=by
 refine⟨by unfold mulM;rw[Uh];exact ha.len,λ r hr=>?_⟩;unfold mulM at hr;obtain⟨w,_,rfl⟩:=UI.mp hr;exact uB (by simp) hb.dO
def map_getD{α:Type}{f:Row->List α}{A:Rows}{i:Nat}(h:i<A.length):(A.map f).getD i []=f (A.getD i []):=by
 rw[aG (by simpa using h),aG h];simp
def Ea{m p n:Nat}{A B:Rows}(ha:cj m p A)(hb:cj p n B){i:Nat}(hi:i<m)(j:Nat):g (mulM A B n) i j=S p λ k=>g A i k*g B k j:=by
 have hl:=ha.len;show((mulM A B n).getD i []).getD j 0=_;unfold mulM;rw[map_getD (by omega),tu (n:=n) j (by simp) hb.dO (by rw[ha.row hi,hb.len]),d5,Wn,hb.len];rfl
def eZ(n i:Nat):Row:=(List.range n).map λ k=>dl k i
def units(n:Nat):Rows:=(List.range n).map λ i=>eZ n i
def range_getD{α:Type}{f:Nat->α}{n i:Nat}{d:α}(h:i<n):((List.range n).map f).getD i d=f i:=by
 rw[aG (by simpa using h)];simp
def lD(n:Nat):cj n n (units n):=⟨by simp[units],λ r hr=>by unfold units at hr;obtain⟨i,_,rfl⟩:=UI.mp hr;simp[eZ]⟩
def ie{n i j:Nat}(hi:i<n)(hj:j<n):g (units n) i j=dl i j:=by
 unfold g units eZ;rw[range_getD hi,range_getD hj];unfold dl;by_cases h:i=j
 . subst h;rfl
 . rw[Up (Uy h),Up h]
def qh(A:Rows)(j:Nat):Row:=A.map λ r=>r.getD j 0
def dg(A:Rows)(n:Nat):Rows:=(List.range n).map λ j=>qh A j
def fM{m n:Nat}{A:Rows}(ha:cj m n A):cj n m (dg A n):=⟨by simp[dg],λ r hr=>by
 unfold dg at hr;obtain⟨j,_,rfl⟩:=UI.mp hr;unfold qh;rw[Uh,ha.len]⟩
def Ms{A:Rows}{i:Nat}(j:Nat)(h:i<A.length):(qh A j).getD i 0=g A i j:=by
 unfold qh g;rw[aG (by simpa using h),aG h];simp
def mB{m n:Nat}{A:Rows}(ha:cj m n A){i j:Nat}(hi:i<m)(hj:j<n):g (dg A n) j i=g A i j:=by
 show((dg A n).getD j []).getD i 0=_;unfold dg;rw[range_getD hj,Ms j (by rw[ha.len];exact hi)]
def jH:Row->Row->Int
 |a::as,b::bs=>a*b+jH as bs
 |_,_=>0
def yZ:∀ {a b:Row},a.length=b.length->jH a b=S b.length λ k=>a.getD k 0*b.getD k 0
 | [],[],_=>rfl
 | [],_::_,h=>by cases h
 |_::_,[],h=>by cases h
 |x::a,y::b,h=>by
  unfold jH;rw[yZ (by simpa using h),UT,CJ];simp
def zE(i j:Nat):dl i j=dl j i:=by
 unfold dl;by_cases h:i=j
 . rw[Ur h,Ur h.symm]
 . rw[Up h,Up (Uy h)]
def sw(i j k:Nat):Nat:=if k=i then j else if k=j then i else k
def Tr{n i j:Nat}(hi:i<n)(hj:j<n)(hij:i≠j)(f:Nat->Int):S n (λ k=>f (sw i j k))=S n f:=by
 have:S n (λ k=>f (sw i j k))=S n λ k=>f k+(f j-f i)*dl k i+(f i-f j)*dl k j:=aC λ k _=>by
  unfold sw;by_cases h1:k=i
  . subst h1;rw[Ur rfl,fu,fG hij];omega
  . rw[Up h1,fG h1];by_cases h2:k=j
    . subst h2;rw[Ur rfl,fu];omega
    . rw[Up h2,fG h2];omega
 rw[this,gF,gF,rZ (f:=λ _=>f j-f i) hi,rZ (f:=λ _=>f i-f j) hj];omega
abbrev Fn:=Nat->Nat->Int
def sk(j c:Nat):Nat:=if c<j then c else c+1
def sg(j:Nat):Int:=if j%2=0 then 1 else-1
def zu(j:Nat):sg (j+1)= -sg j:=by unfold sg;split<;>split<;>omega
def zj:sg 0=1:=rfl
def mf{j c n:Nat}(h:c<n):sk j c<n+1:=by unfold sk;split<;>omega
def QS{j k c:Nat}(h:k<j):sk j (sk k c)=sk k (sk (j-1) c):=by unfold sk;grind
def D:Nat->Fn->Int
 |0,_=>1
 |n+1,M=>S (n+1) λ j=>sg j*M 0 j*D n λ r c=>M (r+1) (sk j c)
def HG(M:Fn):D 0 M=1:=rfl
def eB(n:Nat)(M:Fn):D (n+1) M=S (n+1) λ j=>sg j*M 0 j*D n λ r c=>M (r+1) (sk j c):=rfl
def dW:∀ {n:Nat} {M M':Fn},(∀r c,r<n->c<n->M r c=M' r c)->D n M=D n M'
 |0,_,_,_=>rfl
 |n+1,M,M',h=>by
  rw[eB,eB];refine aC λ j hj=>?_;have e:D n (λ r c=>M (r+1) (sk j c))=D n (λ r c=>M' (r+1) (sk j c)):=dW λ r c hr hc=>h (r+1) (sk j c) (by omega) (mf hc);rw[h 0 j (by omega) hj,e]
def Lj:∀ {n:Nat} {M P Q:Fn} {a b:Int} {i:Nat},i<n->(∀c,c<n->M i c=a*P i c+b*Q i c)->(∀r c,r<n->c<n->r≠i->M r c=P r c/\M r c=Q r c)->D n M=a*D n P+b*D n Q
 |0,_,_,_,_,_,_,h,_,_=>by omega
 |n+1,M,P,Q,a,b,0,_,h0,h=>by
  rw[eB,eB,eB,<-eG,<-eG,<-gF];refine aC λ j hj=>?_;have e1:D n (λ r c=>M (r+1) (sk j c))=D n (λ r c=>P (r+1) (sk j c)):=dW λ r c hr hc=>(h (r+1) (sk j c) (by omega) (mf hc) (by omega)).1;have e2:D n (λ r c=>M (r+1) (sk j c))=D n (λ r c=>Q (r+1) (sk j c)):=dW λ r c hr hc=>(h (r+1) (sk j c) (by omega) (mf hc) (by omega)).2;rw[h0 j hj,<-e1,<-e2];grind
 |n+1,M,P,Q,a,b,i+1,hi,h0,h=>by
  rw[eB,eB,eB,<-eG,<-eG,<-gF];refine aC λ j hj=>?_;have e:=Lj (n:=n) (M:=λ r c=>M (r+1) (sk j c)) (P:=λ r c=>P (r+1) (sk j c)) (Q:=λ r c=>Q (r+1) (sk j c)) (a:=a) (b:=b) (i:=i) (by omega) (λ c hc=>h0 (sk j c) (mf hc)) λ r c hr hc hne=>h (r+1) (sk j c) (by omega) (mf hc) (by omega);have p:=h 0 j (by omega) hj (by omega);rw[e,<-p.1,<-p.2];grind
def TC{n:Nat}{M:Fn}(h:∀c,c<n+2->M 0 c=M 1 c):D (n+2) M=0:=by
 let T:Nat->Nat->Int:=λ j k=>sg j*M 0 j*(sg k*M 1 (sk j k)*D n λ r c=>M (r+2) (sk j (sk k c)))
 have e1:∀j,j<n+2->sg j*M 0 j*D (n+1) (λ r c=>M (r+1) (sk j c))=S (n+1) λ k=>T j k:=λ j hj=>by
  rw[eB,<-eG]
 rw[eB,aC e1]
 have e2:∀j,j<n+2->S (n+1) (λ k=>T j k)=S (n+1) (λ k=>if k<j then T j k else 0)+S (n+1) (λ k=>if k<j then 0 else T j k):=λ j _=>by
  rw[<-gF];refine aC λ k _=>?_;split<;>omega
 rw[aC e2,gF]
 have e3:∀j k,j<n+2->k<n+1->¬k<j->T j k= -T (k+1) j:=λ j k hj hk hjk=>by
  have s1:sk (k+1) j=j:=by unfold sk;rw[Ur (by omega)]
  have s2:sk j k=k+1:=by unfold sk;rw[Up hjk]
  have s3:(λ r c=>M (r+2) (sk (k+1) (sk j c)))=λ r c=>M (r+2) (sk j (sk k c)):=by
   funext r c;rw[QS (show j<k+1 by omega)];rfl
  show sg j*M 0 j*(sg k*M 1 (sk j k)*D n λ r c=>M (r+2) (sk j (sk k c)))= -(sg (k+1)*M 0 (k+1)*(sg j*M 1 (sk (k+1) j)*D n λ r c=>M (r+2) (sk (k+1) (sk j c))));rw[s1,s2,s3,zu,<-h j hj,<-h (k+1) (by omega)];grind
 have e4:S (n+2) (λ j=>S (n+1) λ k=>if k<j then 0 else T j k)= -S (n+2) (λ j=>S (n+1) λ k=>if k<j then T j k else 0):=by
  rw[mH,CJ (n+1) (λ j=>S (n+1) λ k=>if k<j then T j k else 0)];have z:S (n+1) (λ k=>if k<0 then T 0 k else 0)=0:=jY λ k _=>Up (by omega);rw[z,Wn,<-tO];refine aC λ k hk=>?_;have:S (n+2) (λ j=>if k<j then 0 else T j k)=S (n+1) (λ j=>if k<j then 0 else T j k)+(if k<n+1 then 0 else T (n+1) k):=rfl;rw[this,Ur hk,VP,<-tO];refine aC λ j hj=>?_;by_cases hkj:k<j
  . rw[Ur hkj,Up (by omega)];rfl
  . rw[Up hkj,Ur (by omega)];exact e3 j k (by omega) hk hkj
 rw[e4];omega
def KD:∀ {n:Nat} {M:Fn} {i:Nat},i+1<n->(∀c,c<n->M i c=M (i+1) c)->D n M=0
 |0,_,_,h,_=>by omega
 |1,_,_,h,_=>by omega
 |n+2,M,0,_,h=>TC h
 |n+2,M,i+1,hi,h=>by
  rw[eB];refine jY λ j hj=>?_;rw[KD (n:=n+1) (M:=λ r c=>M (r+1) (sk j c)) (i:=i) (by omega) λ c hc=>h (sk j c) (mf hc),Vd]
structure Alt(n:Nat)(φ:Fn->Int):Prop where
 cg:∀M M':Fn,(∀r c,r<n->c<n->M r c=M' r c)->φ M=φ M'
 sh:∀(i:Nat) (M P Q:Fn) (a b:Int),i<n->(∀c,c<n->M i c=a*P i c+b*Q i c)->(∀r c,r<n->c<n->r≠i->M r c=P r c/\M r c=Q r c)->φ M=a*φ P+b*φ Q
 alt:∀(i j:Nat) (M:Fn),i<n->j<n->i≠j->(∀c,c<n->M i c=M j c)->φ M=0
def upd(M:Fn)(i:Nat)(x:Nat->Int):Fn:=λ r c=>if r=i then x c else M r c
def cS(M:Fn)(i:Nat)(x:Nat->Int)(c:Nat):upd M i x i c=x c:=Ur rfl
def aE{M:Fn}{i r:Nat}{x:Nat->Int}(h:r≠i)(c:Nat):upd M i x r c=M r c:=Up h
def Sh{n i j:Nat}{φ:Fn->Int}(cg:∀M M':Fn,(∀r c,r<n->c<n->M r c=M' r c)->φ M=φ M')
 (sh:∀(i:Nat) (M P Q:Fn) (a b:Int),i<n->(∀c,c<n->M i c=a*P i c+b*Q i c)->(∀r c,r<n->c<n->r≠i->M r c=P r c/\M r c=Q r c)->φ M=a*φ P+b*φ Q)
 (hi:i<n) (hj:j<n) (hij:i≠j) (alt:∀N:Fn,(∀c,c<n->N i c=N j c)->φ N=0) (M:Fn):φ (λ r=>M (sw i j r))= -φ M:=by
 have l1:φ (upd (upd M i λ c=>M i c+M j c) j λ c=>M i c+M j c)=1*φ (upd (upd M i (M i)) j λ c=>M i c+M j c)+1*φ (upd (upd M i (M j)) j λ c=>M i c+M j c):=
  sh i _ _ _ 1 1 hi (λ c _=>by rw[aE hij,aE hij,aE hij,cS,cS,cS];omega) λ r c _ _ hr=>by
   unfold upd;grind
 have l2:∀x:Nat->Int,φ (upd (upd M i x) j λ c=>M i c+M j c)=1*φ (upd (upd M i x) j (M i))+1*φ (upd (upd M i x) j (M j)):=λ x=>
  sh j _ _ _ 1 1 hj (λ c _=>by rw[cS,cS,cS];omega) λ r c _ _ hr=>by
   rw[aE hr,aE hr,aE hr];exact⟨rfl,rfl⟩
 have z0:φ (upd (upd M i λ c=>M i c+M j c) j λ c=>M i c+M j c)=0:=alt _ λ c _=>by rw[aE hij,cS,cS]
 have z1:φ (upd (upd M i (M i)) j (M i))=0:=alt _ λ c _=>by rw[aE hij,cS,cS]
 have z2:φ (upd (upd M i (M j)) j (M j))=0:=alt _ λ c _=>by rw[aE hij,cS,cS]
 have s1:φ (upd (upd M i (M i)) j (M j))=φ M:=cg _ _ λ r c _ _=>by
  unfold upd;split
  . rename_i e;rw[e]
  . split
    . rename_i e;rw[e]
    . rfl
 have s2:φ (upd (upd M i (M j)) j (M i))=φ (λ r=>M (sw i j r)):=cg _ _ λ r c _ _=>by
  unfold upd sw;by_cases h1:r=j
  . rw[Ur h1];by_cases h2:r=i
    . omega
    . rw[Up h2,Ur h1]
  . rw[Up h1];by_cases h2:r=i
    . rw[Ur h2,Ur h2]
    . rw[Up h2,Up h2,Up h1]
 have a1:=l2 (M i);have a2:=l2 (M j);rw[z1,s1]at a1;rw[z2,s2]at a2;rw[z0,a1,a2]at l1;omega
def Alt.swap{n i j:Nat}{φ:Fn->Int}(A:Alt n φ)(hi:i<n)(hj:j<n)(hij:i≠j)(M:Fn):φ (λ r=>M (sw i j r))= -φ M:=
 Sh A.cg A.sh hi hj hij (λ N h=>A.alt i j N hi hj hij h) M
def yz{n:Nat}{φ:Fn->Int}(cg:∀M M':Fn,(∀r c,r<n->c<n->M r c=M' r c)->φ M=φ M')
 (sh:∀(i:Nat) (M P Q:Fn) (a b:Int),i<n->(∀c,c<n->M i c=a*P i c+b*Q i c)->(∀r c,r<n->c<n->r≠i->M r c=P r c/\M r c=Q r c)->φ M=a*φ P+b*φ Q)
 (adj:∀(i:Nat) (M:Fn),i+1<n->(∀c,c<n->M i c=M (i+1) c)->φ M=0):Alt n φ:=by
 have far:∀(d i:Nat) (M:Fn),i+d+1<n->(∀c,c<n->M i c=M (i+d+1) c)->φ M=0:=by
  intro d;induction d with
  |zero=>exact λ i M h1 h2=>adj i M h1 h2
  |succ d ih=>
   intro i M h1 h2;have hs:=Sh cg sh (i:=i+d+1) (j:=i+d+1+1) (by omega) (by omega) (by omega) (λ N h=>adj (i+d+1) N (by omega) h) M
   have:φ (λ r=>M (sw (i+d+1) (i+d+1+1) r))=0:=ih i _ (by omega) λ c hc=>by
    have e1:sw (i+d+1) (i+d+1+1) i=i:=by unfold sw;rw[Up (by omega),Up (by omega)]
    have e2:sw (i+d+1) (i+d+1+1) (i+d+1)=i+d+1+1:=by unfold sw;rw[Ur rfl]
    rw[e1,e2];exact h2 c hc
   omega
 refine⟨cg,sh,λ i j M hi hj hij h=>?_⟩;by_cases hlt:i<j
 . obtain⟨d,rfl⟩:∃d,j=i+d+1:=⟨j-i-1,by omega⟩
   exact far d i M hj h
 . obtain⟨d,rfl⟩:∃d,i=j+d+1:=⟨i-j-1,by omega⟩
   exact far d j M hi λ c hc=>(h c hc).symm
def wd(n:Nat):Alt n (D n):=yz (λ _ _ h=>dW h) (λ _ _ _ _ _ _ hi h0 h=>Lj hi h0 h) λ _ _ h1 h2=>KD h1 h2
def Alt.O4{n i:Nat}{φ:Fn->Int}(A:Alt n φ)(hi:i<n){M:Fn}(h:∀c,c<n->M i c=0):φ M=0:=by
 have:=A.sh i M M M 0 0 hi (λ c hc=>by rw[h c hc];rfl) λ _ _ _ _ _=>⟨rfl,rfl⟩
 omega
def Alt.Hu{n i:Nat}{φ:Fn->Int}(A:Alt n φ)(hi:i<n)(M:Fn)(t:Int)(x:Nat->Int):φ (upd M i λ c=>t*x c)=t*φ (upd M i x):=by
 have:=A.sh i (upd M i λ c=>t*x c) (upd M i x) (upd M i x) t 0 hi (λ c hc=>by rw[cS,cS];omega) λ r c _ _ hr=>by rw[aE hr,aE hr];exact⟨rfl,rfl⟩
 omega
def Alt.HI{n i:Nat}{φ:Fn->Int}(A:Alt n φ)(hi:i<n)(M:Fn)(x y:Nat->Int):φ (upd M i λ c=>x c+y c)=φ (upd M i x)+φ (upd M i y):=by
 have:=A.sh i (upd M i λ c=>x c+y c) (upd M i x) (upd M i y) 1 1 hi (λ c hc=>by rw[cS,cS,cS];omega) λ r c _ _ hr=>by rw[aE hr,aE hr,aE hr];exact⟨rfl,rfl⟩
 omega
def Alt.yk{n i:Nat}{φ:Fn->Int}(A:Alt n φ)(hi:i<n)(M:Fn)(a:Nat->Int)(x:Nat->Nat->Int):∀m,φ (upd M i λ c=>S m λ j=>a j*x j c)=S m λ j=>a j*φ (upd M i (x j))
 |0=>A.O4 hi λ c _=>by rw[cS];rfl
 |m+1=>by
  have:(λ c=>S (m+1) λ j=>a j*x j c)=λ c=>(S m λ j=>a j*x j c)+a m*x m c:=rfl;rw[this,A.HI hi,A.yk hi M a x m,A.Hu hi];rfl
def un(j c:Nat):Nat:=if c<j then c else c-1
def grow(j:Nat)(B:Fn):Fn:=λ r c=>if r=0 then dl j c else if c=j then 0 else B (r-1) (un j c)
def yg{n j c:Nat}(hj:j<n+1)(hc:c<n+1)(h:c≠j):un j c<n:=by unfold un;split<;>omega
def Fx{j c:Nat}(h:c≠j):sk j (un j c)=c:=by unfold sk un;grind
def Alt.grow{n j:Nat}{φ:Fn->Int}(A:Alt (n+1) φ)(hj:j<n+1):Alt n λ B=>φ (Mx.grow j B) where
 cg:=λ M M' h=>A.cg _ _ λ r c hr hc=>by
  have:=h (r-1) (un j c);have:=yg (c:=c) hj hc;unfold Mx.grow;grind
 sh:=λ i M P Q a b hi h0 h=>A.sh (i+1) _ _ _ a b (by omega) (λ c hc=>by
  have:=h0 (un j c);have:=yg (c:=c) hj hc;have e:i+1-1=i:=by omega
  unfold Mx.grow;rw[e];grind) λ r c hr hc hne=>by
  have:=h (r-1) (un j c);have:=yg (c:=c) hj hc;unfold Mx.grow;grind
 alt:=λ i k M hi hk hik h=>A.alt (i+1) (k+1) _ (by omega) (by omega) (by omega) λ c hc=>by
  have:=h (un j c);have:=yg (c:=c) hj hc;have e:i+1-1=i:=by omega
  have e2:k+1-1=k:=by omega
  unfold Mx.grow;rw[e,e2];grind
def Alt.units{n:Nat}{φ:Fn->Int}(A:Alt (n+1) φ):∀j,j<n+1->φ (Mx.grow j dl)=sg j*φ dl
 |0,_=>by
  rw[zj,V0];refine A.cg _ _ λ r c hr hc=>?_;unfold Mx.grow un dl;grind
 |j+1,hj=>by
  have ih:=A.units j (by omega);have s:=A.swap (i:=0) (j:=j+1) (by omega) hj (by omega) (Mx.grow j dl);rw[zu,WX,<-ih,<-s];refine A.cg _ _ λ r c hr hc=>?_;unfold Mx.grow un dl sw;grind
def Alt.SX{n i k:Nat}{φ:Fn->Int}(A:Alt n φ)(hi:i<n)(hk:k<n)(hik:i≠k)(M:Fn)(x:Nat->Int)(t:Int):φ (upd M i λ c=>x c+t*M k c)=φ (upd M i x):=by
 rw[A.HI hi,A.Hu hi M t (M k),A.alt i k (upd M i (M k)) hi hk hik λ c _=>by rw[cS,aE (Uy hik)],Vd,VP]
def zr(j m:Nat)(M:Fn):Fn:=λ r c=>if r=0 then dl j c else if r<=m/\c=j then 0 else M r c
def Alt.zr{n j:Nat}{φ:Fn->Int}(A:Alt (n+1) φ)(M:Fn):∀m,m<=n->φ (Mx.zr j m M)=φ (upd M 0 (dl j))
 |0,_=>A.cg _ _ λ r c hr hc=>by unfold Mx.zr upd;grind
 |m+1,hm=>by
  rw[<-A.zr M m (by omega)];have e:=A.SX (i:=m+1) (k:=0) (by omega) (by omega) (by omega) (Mx.zr j m M) (M (m+1)) (-M (m+1) j)
  have e1:φ (Mx.zr j (m+1) M)=φ (upd (Mx.zr j m M) (m+1) λ c=>M (m+1) c+ -M (m+1) j*Mx.zr j m M 0 c):=A.cg _ _ λ r c hr hc=>by
   unfold upd Mx.zr dl;by_cases h0:r=m+1
   . subst h0;by_cases h1:c=j
     . subst h1;simp;omega
     . have:¬j=c:=λ z=>h1 z.symm;simp[h1,this]
   . rw[Up h0];grind
  have e2:φ (upd (Mx.zr j m M) (m+1) (M (m+1)))=φ (Mx.zr j m M):=A.cg _ _ λ r c hr hc=>by
   unfold upd Mx.zr;grind
  rw[e1,e,e2]
def E2:∀ {n:Nat} {φ:Fn->Int},Alt n φ->∀M,φ M=φ dl*D n M
 |0,φ,A,M=>by rw[HG,Int.mul_one];exact A.cg _ _ λ r c hr=>by omega
 |n+1,φ,A,M=>by
  have h1:φ M=S (n+1) λ j=>M 0 j*φ (upd M 0 (dl j)):=by
   rw[<-A.yk (by omega) M (M 0) dl (n+1)];refine A.cg _ _ λ r c hr hc=>?_;by_cases h0:r=0
   . subst h0;rw[cS,rZ hc]
   . rw[aE h0]
  have h2:∀j,j<n+1->φ (upd M 0 (dl j))=φ (Mx.grow j λ r c=>M (r+1) (sk j c)):=λ j hj=>by
   rw[<-A.zr M n (Uk _)];refine A.cg _ _ λ r c hr hc=>?_;unfold Mx.grow Mx.zr;by_cases h0:r=0
   . rw[Ur h0,Ur h0]
   . rw[Up h0,Up h0];by_cases h3:c=j
     . rw[Ur ⟨by omega,h3⟩,Ur h3]
     . rw[Up (by omega),Up h3];dsimp only;rw[Fx h3,show r-1+1=r by omega]
  rw[h1,eB,<-eG];refine aC λ j hj=>?_;have h3:=E2 (A.grow hj) λ r c=>M (r+1) (sk j c);have h4:=A.units j hj;have h5:φ (Mx.grow j λ r c=>M (r+1) (sk j c))=φ (Mx.grow j dl)*D n λ r c=>M (r+1) (sk j c):=h3;rw[h2 j hj,h5,h4];grind
def zU:∀n,D n dl=1
 |0=>rfl
 |n+1=>by
  rw[eB,oZ (k:=0) (by omega) λ j hj h0=>by rw[fG (Uy h0),Vd,VO]]
  have:D n (λ r c=>dl (r+1) (sk 0 c))=D n dl:=dW λ r c _ _=>by
   unfold dl sk;grind
  rw[this,zU n,fu];rfl
def KC(n:Nat)(A B:Fn):D n (λ r c=>S n λ k=>A r k*B k c)=D n A*D n B:=by
 have al:Alt n λ A=>D n (λ r c=>S n λ k=>A r k*B k c):=by
  refine⟨λ M M' h=>dW λ r c hr hc=>aC λ k hk=>by rw[h r k hr hk],λ i M P Q a b hi h0 h=>(wd n).sh i _ _ _ a b hi (λ c hc=>?_) λ r c hr hc hne=>⟨aC λ k hk=>by rw[(h r k hr hk hne).1],aC λ k hk=>by rw[(h r k hr hk hne).2]⟩,λ i j M hi hj hij h=>(wd n).alt i j _ hi hj hij λ c hc=>aC λ k hk=>by rw[h k hk]⟩;show(S n λ k=>M i k*B k c)=a*(S n λ k=>P i k*B k c)+b*S n λ k=>Q i k*B k c;rw[<-eG,<-eG,<-gF];refine aC λ k hk=>?_;rw[h0 k hk];grind
 have h:=E2 al A;have e:D n (λ r c=>S n λ k=>dl r k*B k c)=D n B:=dW λ r c hr hc=>om hr λ k=>B k c;rw[h,e,Wo]
def GX:∀ {n:Nat} {M P Q:Fn} {a b:Int} {i:Nat},i<n->(∀r,r<n->M r i=a*P r i+b*Q r i)->(∀r c,r<n->c<n->c≠i->M r c=P r c/\M r c=Q r c)->D n M=a*D n P+b*D n Q
 |0,_,_,_,_,_,_,h,_,_=>by omega
 |n+1,M,P,Q,a,b,i,hi,h0,h=>by
  rw[eB,eB,eB,<-eG,<-eG,<-gF];refine aC λ j hj=>?_;by_cases hij:j=i
  . subst hij;have hs:∀c,sk j c≠j:=λ c=>by unfold sk;split<;>omega
    have e1:D n (λ r c=>M (r+1) (sk j c))=D n (λ r c=>P (r+1) (sk j c)):=dW λ r c hr hc=>(h (r+1) (sk j c) (by omega) (mf hc) (hs c)).1;have e2:D n (λ r c=>M (r+1) (sk j c))=D n (λ r c=>Q (r+1) (sk j c)):=dW λ r c hr hc=>(h (r+1) (sk j c) (by omega) (mf hc) (hs c)).2;rw[h0 0 (by omega),<-e1,<-e2];grind
  . have p:=h 0 j (by omega) hj hij;have hu:sk j (un j i)=i:=Fx (Uy hij);have hs:∀c,c≠un j i->sk j c≠i:=λ c hc=>by unfold sk;unfold un at hc;grind
    have hlt:un j i<n:=yg hj hi (Uy hij)
    have e:=GX (n:=n) (M:=λ r c=>M (r+1) (sk j c)) (P:=λ r c=>P (r+1) (sk j c)) (Q:=λ r c=>Q (r+1) (sk j c)) (a:=a) (b:=b) (i:=un j i) hlt (λ r hr=>by
     rw[hu];exact h0 (r+1) (by omega)) λ r c hr hc hne=>h (r+1) (sk j c) (by omega) (mf hc) (hs c hne)
    rw[e,<-p.1,<-p.2];grind
def HE:∀ {n:Nat} {M:Fn} {i:Nat},i+1<n->(∀r,r<n->M r i=M r (i+1))->D n M=0
 |0,_,_,h,_=>by omega
 |n+1,M,i,hi,h=>by
  rw[eB]
  have key:∀j,j<n+1->j≠i->j≠i+1->D n (λ r c=>M (r+1) (sk j c))=0:=λ j hj h1 h2=>by
   refine HE (i:=un j i) (by unfold un;split<;>omega) λ r hr=>?_;have e1:sk j (un j i)=i:=Fx (Uy h1);have e2:sk j (un j i+1)=i+1:=by unfold sk un;grind
   rw[e1,e2];exact h (r+1) (by omega)
  have e:D n (λ r c=>M (r+1) (sk i c))=D n (λ r c=>M (r+1) (sk (i+1) c)):=dW λ r c hr hc=>by
   by_cases hc2:c=i
   . subst hc2;have a1:sk c c=c+1:=by unfold sk;rw[Up (by omega)]
     have a2:sk (c+1) c=c:=by unfold sk;rw[Ur (by omega)]
     rw[a1,a2];exact(h (r+1) (by omega)).symm
   . have a1:sk i c=sk (i+1) c:=by unfold sk;grind
     rw[a1]
  have two:∀(m:Nat) (f:Nat->Int),i+1<m->(∀j,j<m->j≠i->j≠i+1->f j=0)->S m f=f i+f (i+1):=λ m=>by
   induction m with
   |zero=>intro f h;omega
   |succ m ih=>
    intro f hm hf;show S m f+f m=_;by_cases hmi:m=i+1
    . subst hmi;rw[oZ (k:=i) (by omega) λ j hj hne=>hf j (by omega) hne (by omega)]
    . rw[ih f (by omega) λ j hj h1 h2=>hf j (by omega) h1 h2,hf m (by omega) (by omega) hmi,VP]
  rw[two (n+1) _ hi λ j hj h1 h2=>by rw[key j hj h1 h2,Vd],e,zu,h 0 (by omega)];grind
def tr(M:Fn):Fn:=λ r c=>M c r
def Cu(n:Nat)(M:Fn):D n (tr M)=D n M:=by
 have al:Alt n λ A=>D n (tr A):=yz (λ M M' h=>dW λ r c hr hc=>h c r hc hr)
  (λ i M P Q a b hi h0 h=>GX hi (λ r hr=>h0 r hr) λ r c hr hc hne=>h c r hc hr hne)
  λ i M hi h=>HE hi λ r hr=>h r hr
 have h:=E2 al M;have e:D n (tr dl)=D n dl:=dW λ r c _ _=>zE c r;have h2:D n (tr M)=D n (tr dl)*D n M:=h;rw[h2,e,zU,V0]
def Pr:Nat->(Nat->Int)->Int
 |0,_=>1
 |n+1,f=>Pr n f*f n
def Ew:∀(n:Nat) (f:Nat->Int),Pr (n+1) f=f 0*Pr n λ i=>f (i+1)
 |0,f=>by show 1*f 0=f 0*1;omega
 |n+1,f=>by
  have:Pr (n+1+1) f=Pr (n+1) f*f (n+1):=rfl;rw[this,Ew n f];have:Pr (n+1) (λ i=>f (i+1))=Pr n (λ i=>f (i+1))*f (n+1):=rfl;rw[this,VI]
def Lg:∀ {n:Nat} {M:Fn},(∀r c,r<n->c<n->r<c->M r c=0)->D n M=Pr n λ i=>M i i
 |0,_,_=>rfl
 |n+1,M,h=>by
  rw[eB,oZ (k:=0) (by omega) λ j hj h0=>by rw[h 0 j (by omega) hj (by omega),Vd,VO],Ew,zj,V0];have s:∀c,sk 0 c=c+1:=λ c=>by unfold sk;rw[Up (by omega)]
  have e:D n (λ r c=>M (r+1) (sk 0 c))=Pr n λ i=>M (i+1) (i+1):=by
   rw[Lg λ r c hr hc hrc=>by rw[s];exact h (r+1) (c+1) (by omega) (by omega) (by omega)];simp only[s]
  rw[e]
def SM{n:Nat}{M:Fn}(h:∀r c,r<n->c<n->c<r->M r c=0):D n M=Pr n λ i=>M i i:=by
 rw[<-Cu n M,Lg (M:=tr M) λ r c hr hc hrc=>h c r hc hr hrc];rfl
def C4:∀ {n:Nat} {M:Fn},(∀c,c<n+1->M n c=dl n c)->D (n+1) M=D n M
 |0,M,h=>by
  rw[eB];show 0+sg 0*M 0 0*D 0 _=1;rw[h 0 (by omega),fu,zj,HG];omega
 |n+1,M,h=>by
  have e1:∀j,j<n+1->D (n+1) (λ r c=>M (r+1) (sk j c))=D n (λ r c=>M (r+1) (sk j c)):=λ j hj=>C4 λ c hc=>by
   rw[h (sk j c) (mf hc)];unfold dl sk;grind
  have e2:D (n+1) (λ r c=>M (r+1) (sk (n+1) c))=0:=(wd (n+1)).O4 (i:=n) (by omega) λ c hc=>by
   have s:sk (n+1) c=c:=by unfold sk;rw[Ur (by omega)]
   rw[s,h c (by omega),fG (by omega)]
  have e3:D (n+1+1) M=(S (n+1) λ j=>sg j*M 0 j*D (n+1) λ r c=>M (r+1) (sk j c))+sg (n+1)*M 0 (n+1)*D (n+1) (λ r c=>M (r+1) (sk (n+1) c)):=eB (n+1) M;rw[e3,e2,Vd,VP,eB];exact aC λ j hj=>by rw[e1 j hj]
def gx(R:Fn)(p:Nat)(x:Nat->Int)(j:Nat):Int:=D (p+1) λ r c=>if r<p then R r (if c<p then c else j)else x (if c<p then c else j)
def NM{R:Fn}{p j:Nat}{x:Nat->Int}(h:j<p):gx R p x j=0:=by
 unfold gx;rw[<-Cu];refine(wd (p+1)).alt j p _ (by omega) (by omega) (by omega) λ c hc=>?_;unfold tr;dsimp only;rw[Ur h,Up (VB p)]
def bt(R:Fn)(p:Nat)(x:Nat->Int)(k:Nat):Int:=D (p+1) (upd (λ c r=>if r<p then R r c else x c) p (dl k))
def Q5(R:Fn)(p:Nat)(x:Nat->Int)(j:Nat):gx R p x j=D p R*x j+S p λ k=>bt R p x k*R k j:=by
 have e1:gx R p x j=D (p+1) (upd (λ c r=>if r<p then R r c else x c) p λ r=>S (p+1) λ k=>(if k<p then R k j else x j)*dl k r):=by
  unfold gx;rw[<-Cu];refine dW λ c r hc hr=>?_;unfold tr upd;by_cases h:c=p
  . subst h;rw[Ur rfl];dsimp only;rw[rZ hr,Up (VB _)]
  . rw[Up h];dsimp only;rw[Ur (show c<p by omega)]
 rw[e1,(wd (p+1)).yk (by omega)]
 have e2:D (p+1) (upd (λ c r=>if r<p then R r c else x c) p (dl p))=D p R:=by
  rw[C4 λ c _=>cS _ _ _ _];rw[<-Cu];refine dW λ r c hr hc=>?_;unfold tr;rw[aE (by omega),Ur (by omega)]
 have e3:(S (p+1) λ k=>(if k<p then R k j else x j)*D (p+1) (upd (λ c r=>if r<p then R r c else x c) p (dl k)))=(S p λ k=>(if k<p then R k j else x j)*D (p+1) (upd (λ c r=>if r<p then R r c else x c) p (dl k)))+(if p<p then R p j else x j)*D (p+1) (upd (λ c r=>if r<p then R r c else x c) p (dl p)):=rfl;rw[e3,e2,Up (VB p),Int.add_comm,Wo];congr 1;refine aC λ k hk=>?_;rw[Ur hk,Wo];rfl
def cl(p j1 j2 c:Nat):Nat:=if c<p then c else if c=p then j1 else j2
def Gr{n:Nat}{f:Nat->Int}{m:Nat}(h:∀i,i<n->(f i).natAbs<=m):(S n f).natAbs<=n*m:=by
 induction n with
 |zero=>simp[S]
 |succ n ih=>
  have h1:=ih λ i hi=>h i (by omega);have h2:=h n (by omega);show(S n f+f n).natAbs<=_;rw[W6];omega
def lam(G:Fn)(i j:Nat):Int:=gx G j (G i) j
def SY(A:Rows):Fn:=λ i j=>jH (A.getD i []) (A.getD j [])
def RD(G:Fn)(i:Nat):Row:=(List.range (i+1)).map λ j=>lam G i j
def Qb(G:Fn)(n:Nat):Rows:=(List.range n).map (RD G)
def RA(A:Rows)(N:Nat):Fn:=λ i j=>if j<N then SY A i j else(A.getD i []).getD (j-N) 0
def ev(A:Rows)(N i k c:Nat):Int:=gx (RA A N) k (RA A N i) (N+c)
def FY(n:Nat)(a b:Int)(f g:Nat->Int):S n (λ c=>a*f c-b*g c)=a*S n f-b*S n g:=by
 induction n with
 |zero=>show(0:Int)=a*0-b*0;omega
 |succ n ih=>
  show S n (λ c=>a*f c-b*g c)+(a*f n-b*g n)=a*(S n f+f n)-b*(S n g+g n);rw[ih,XS,XS];omega
section
variable {A:Rows}{N w:Nat}
end
def Ub(M:Fn)(k j:Nat)(q:Int):Fn:=λ a b=>if a=k then M a b-q*M j b else M a b
def Uc(M:Fn)(k j:Nat)(q:Int):Fn:=λ a b=>if b=k then M a b-q*M a j else M a b
def tk(G:Fn)(k j:Nat)(q:Int):Fn:=Uc (Ub G k j q) k j q
section
variable {G:Fn}{t:Nat}(sym:∀i j,G i j=G j i)
include sym
end
section
variable {A:Rows}{N w:Nat}
def di(hA:cj N w A){i:Nat}(hi:i<N):(A.getD i []).length=w:=hA.dO _ (by have:=hA.len;rw[aG (by omega)];exact UL _)
end
def bN(A:Rows)(k:Nat)(q:Int)(j:Nat):Rows:=A.set k (d9 (A.getD k []) (-q) (A.getD j []))
def cp(A:Rows)(k o:Nat):Rows:=(A.set k (A.getD o [])).set o (A.getD k [])
def nu{A:Rows}{k i:Nat}{r:Row}(hk:k<A.length):(A.set k r).getD i []=if i=k then r else A.getD i []:=by
 rw[Uu,List.getElem?_set];by_cases h:k=i
 . rw[Ur h,Ur (by omega),Ur h.symm];rfl
 . rw[Up h,Up (Uy h),Uu]
def Ic{A:Rows}{k j:Nat}{q:Int}:(bN A k q j).length=A.length:=by unfold bN;rw[UC]
def xv{A:Rows}{N w k j:Nat}{q:Int}(hA:cj N w A)(hk:k<N)(hj:j<N):cj N w (bN A k q j):=by
 refine⟨Ic.trans hA.len,λ r hr=>?_⟩;unfold bN at hr;rcases Vi hr with h|rfl
 . exact hA.dO r h
 . rw[nc (by rw[di hA hk,di hA hj]),di hA hk]
structure Tn(A0 A U C:Rows)(N w:Nat):Prop where
 isA:cj N w A
 dQ:cj N N U
 fY:cj N N C
 ua:∀i c,i<N->c<w->g A i c=S N λ k=>g U i k*g A0 k c
 ub:∀i j,i<N->j<N->S N (λ k=>g U i k*g C j k)=dl i j
 bu:∀i j,i<N->j<N->S N (λ k=>g C k i*g U k j)=dl i j
def eA{A:Rows}{N w k j:Nat}{q:Int}(hA:cj N w A)(hk:k<N)(hj:j<N)(i c:Nat):g (bN A k q j) i c=if i=k then g A k c-q*g A j c else g A i c:=by
 unfold g bN;have hl:=hA.len;rw[nu (by omega)];by_cases h:i=k
 . rw[Ur h,Ur h,vC (by rw[di hA hk,di hA hj]),WX];omega
 . rw[Up h,Up h]
def zc(n:Nat)(a b:Int)(f h:Nat->Int):S n (λ c=>a*f c+b*h c)=a*S n f+b*S n h:=by
 rw[gF,eG,eG]
def Tn.take{A0 A U C:Rows}{N w k j:Nat}{q:Int}(T:Tn A0 A U C N w)(hk:k<N)(hj:j<N)(hkj:j≠k):Tn A0 (bN A k q j) (bN U k q j) (bN C j (-q) k) N w where
 isA:=xv T.isA hk hj
 dQ:=xv T.dQ hk hj
 fY:=xv T.fY hj hk
 ua:=λ i c hi hc=>by
  rw[eA T.isA hk hj];have e:S N (λ m=>g (bN U k q j) i m*g A0 m c)=S N λ m=>(if i=k then g U k m-q*g U j m else g U i m)*g A0 m c:=aC λ m _=>by rw[eA T.dQ hk hj]
  rw[e];by_cases h:i=k
  . simp only[Ur h];rw[T.ua k c hk hc,T.ua j c hj hc];have e2:S N (λ m=>(g U k m-q*g U j m)*g A0 m c)=S N λ m=>1*(g U k m*g A0 m c)-q*(g U j m*g A0 m c):=aC λ m _=>by grind
    rw[e2,FY];omega
  . simp only[Up h];exact T.ua i c hi hc
 ub:=λ i l hi hl=>by
  have e:S N (λ m=>g (bN U k q j) i m*g (bN C j (-q) k) l m)=S N λ m=>(if i=k then g U k m-q*g U j m else g U i m)*(if l=j then g C j m- -q*g C k m else g C l m):=aC λ m _=>by rw[eA T.dQ hk hj,eA T.fY hj hk]
  rw[e];have djk:dl j k=0:=fG hkj;by_cases h:i=k
  . by_cases h2:l=j
    . simp only[Ur h,Ur h2];have e2:S N (λ m=>(g U k m-q*g U j m)*(g C j m- -q*g C k m))=S N λ m=>1*(1*(g U k m*g C j m)+q*(g U k m*g C k m))-q*(1*(g U j m*g C j m)+q*(g U j m*g C k m)):=aC λ m _=>by grind
      rw[e2,FY,zc,zc,T.ub k j hk hj,T.ub k k hk hk,T.ub j j hj hj,T.ub j k hj hk,h,h2,fu,fu,djk,zE k j,djk];omega
    . simp only[Ur h,Up h2];have e2:S N (λ m=>(g U k m-q*g U j m)*g C l m)=S N λ m=>1*(g U k m*g C l m)-q*(g U j m*g C l m):=aC λ m _=>by grind
      rw[e2,FY,T.ub k l hk hl,T.ub j l hj hl,h,fG (Uy h2)];omega
  . by_cases h2:l=j
    . simp only[Up h,Ur h2];have e2:S N (λ m=>g U i m*(g C j m- -q*g C k m))=S N λ m=>1*(g U i m*g C j m)+q*(g U i m*g C k m):=aC λ m _=>by grind
      rw[e2,zc,T.ub i j hi hj,T.ub i k hi hk,h2,fG h];omega
    . simp only[Up h,Up h2];exact T.ub i l hi hl
 bu:=λ i l hi hl=>by
  have e:S N (λ m=>g (bN C j (-q) k) m i*g (bN U k q j) m l)=S N λ m=>g C m i*g U m l+((q*(g C k i*g U j l))*dl m j+(-(q*(g C k i*g U j l)))*dl m k):=aC λ m _=>by
   rw[eA T.dQ hk hj,eA T.fY hj hk];by_cases h1:m=j
   . have h2:m≠k:=by omega
     rw[Ur h1,Up h2,h1,fu,fG hkj];grind
   . rw[Up h1,fG h1];by_cases h2:m=k
     . rw[Ur h2,h2,fu];grind
     . rw[Up h2,fG h2];grind
  rw[e,gF,zc,T.bu i l hi hl]
  have e1:S N (λ c=>dl c j)=1:=by
   rw[oZ hj λ i _ h=>fG h,fu]
  have e2:S N (λ c=>dl c k)=1:=by
   rw[oZ hk λ i _ h=>fG h,fu]
  rw[e1,e2];omega
def BW{A:Rows}{k o i:Nat}(hk:k<A.length)(ho:o<A.length):(cp A k o).getD i []=A.getD (sw k o i) []:=by
 unfold cp;rw[nu (by rw[UC];exact ho),nu hk];unfold sw;by_cases h1:i=k
 . rw[Ur h1,Ur h1];by_cases h2:i=o
   . rw[Ur h2,<-h1,<-h2]
   . rw[Up h2]
 . rw[Up h1,Up h1];by_cases h2:i=o
   . rw[Ur h2,Ur h2]
   . rw[Up h2,Up h2]
def xm{A:Rows}{N w k o:Nat}(hA:cj N w A)(hk:k<N)(ho:o<N):cj N w (cp A k o):=by
 refine⟨by unfold cp;rw[UC,UC];exact hA.len,λ r hr=>?_⟩;unfold cp at hr;rcases Vi hr with h|rfl
 . rcases Vi h with h|rfl
   . exact hA.dO r h
   . exact di hA ho
 . exact di hA hk
def lY{A:Rows}{N w k o:Nat}(hA:cj N w A)(hk:k<N)(ho:o<N)(i c:Nat):g (cp A k o) i c=g A (sw k o i) c:=by
 unfold g;rw[BW (by have:=hA.len;omega) (by have:=hA.len;omega)]
def u6{k o N i:Nat}(hk:k<N)(ho:o<N)(hi:i<N):sw k o i<N:=by unfold sw;split<;>(try split)<;>assumption
def HS(k o x:Nat):sw k o (sw k o x)=x:=by
 unfold sw;by_cases h1:x=k
 . subst h1;rw[Ur rfl];by_cases h2:o=x
   . rw[Ur h2];exact h2
   . rw[Up h2,Ur rfl]
 . rw[Up h1];by_cases h2:x=o
   . subst h2;rw[Ur rfl,Ur rfl]
   . rw[Up h2,Up h1,Up h2]
def Rv{k o a b:Nat}:dl (sw k o a) (sw k o b)=dl a b:=by
 by_cases h:a=b
 . rw[h,fu,fu]
 . rw[fG h,fG λ z=>h (by rw[<-HS k o a,<-HS k o b,z])]
def NA(k x:Nat):sw k k x=x:=by
 unfold sw;by_cases h:x=k
 . rw[Ur h,h]
 . rw[Up h,Up h]
def QL{n i j:Nat}(hi:i<n)(hj:j<n)(f:Nat->Int):S n (λ k=>f (sw i j k))=S n f:=by
 by_cases h:i=j
 . subst h;exact aC λ k _=>by rw[NA]
 . exact Tr hi hj h f
def Tn.K_{A0 A U C:Rows}{N w k o:Nat}(T:Tn A0 A U C N w)(hk:k<N)(ho:o<N):Tn A0 (cp A k o) (cp U k o) (cp C k o) N w where
 isA:=xm T.isA hk ho
 dQ:=xm T.dQ hk ho
 fY:=xm T.fY hk ho
 ua:=λ i c hi hc=>by
  rw[lY T.isA hk ho,T.ua _ c (u6 hk ho hi) hc];exact aC λ m _=>by rw[lY T.dQ hk ho]
 ub:=λ i j hi hj=>by
  rw[<-Rv (k:=k) (o:=o),<-T.ub _ _ (u6 hk ho hi) (u6 hk ho hj)];exact aC λ m _=>by rw[lY T.dQ hk ho,lY T.fY hk ho]
 bu:=λ i j hi hj=>by
  rw[<-T.bu i j hi hj,<-QL hk ho λ m=>g C m i*g U m j];exact aC λ m _=>by rw[lY T.dQ hk ho,lY T.fY hk ho]
def iN(A:Rows)(k:Nat):Rows:=A.set k ((A.getD k []).map λ x=> -x)
def BI{A:Rows}{N w k:Nat}(hA:cj N w A)(hk:k<N):cj N w (iN A k):=by
 refine⟨by unfold iN;rw[UC];exact hA.len,λ r hr=>?_⟩;unfold iN at hr;rcases Vi hr with h|rfl
 . exact hA.dO r h
 . rw[Uh];exact di hA hk
def Jg(r:Row)(c:Nat):(r.map λ x=> -x).getD c 0= -r.getD c 0:=by
 rw[Uu,Uu,UB];cases r[c]?<;>rfl
def my{A:Rows}{N w k:Nat}(hA:cj N w A)(hk:k<N)(i c:Nat):g (iN A k) i c=if i=k then-g A k c else g A i c:=by
 unfold g iN;rw[nu (by have:=hA.len;omega)];by_cases h:i=k
 . rw[Ur h,Ur h,Jg]
 . rw[Up h,Up h]
def Tn.neg{A0 A U C:Rows}{N w k:Nat}(T:Tn A0 A U C N w)(hk:k<N):Tn A0 (iN A k) (iN U k) (iN C k) N w where
 isA:=BI T.isA hk
 dQ:=BI T.dQ hk
 fY:=BI T.fY hk
 ua:=λ i c hi hc=>by
  rw[my T.isA hk];by_cases h:i=k
  . rw[Ur h,T.ua k c hk hc,<-tO];exact aC λ m _=>by rw[my T.dQ hk,Ur h,WX]
  . rw[Up h,T.ua i c hi hc];exact aC λ m _=>by rw[my T.dQ hk,Up h]
 ub:=λ i j hi hj=>by
  have e:S N (λ m=>g (iN U k) i m*g (iN C k) j m)=S N λ m=>(if i=k then-1 else 1)*(if j=k then-1 else 1)*(g U i m*g C j m):=aC λ m _=>by
   rw[my T.dQ hk,my T.fY hk];by_cases h1:i=k<;>by_cases h2:j=k<;>simp only[h1,h2,WW,WS]<;>grind
  rw[e,eG,T.ub i j hi hj];by_cases h1:i=k
  . by_cases h2:j=k
    . simp[h1,h2]
    . rw[fG (by omega)];simp
  . by_cases h2:j=k
    . rw[fG (by omega)];simp
    . simp[h1,h2]
 bu:=λ i j hi hj=>by
  rw[<-T.bu i j hi hj]
  exact aC λ m _=>by
   rw[my T.dQ hk,my T.fY hk];by_cases h:m=k
   . subst h;rw[Ur rfl,Ur rfl];grind
   . rw[Up h,Up h]
structure mL(A:Rows)(N top p:Nat)(L:List Nat):Prop where
 mem:∀k,k∈L↔top<=k/\k<N/\g A k p≠0
 ord:L.Pairwise λ i j=>(g A i p).natAbs<=(g A j p).natAbs
 nd:L.Nodup
structure B3 where
 A:Rows
 U:Rows
 C:Rows
def qn(x y:Int):Int:=(2*x+y).fdiv (2*y)
def mv(b:B3)(p k j:Nat):B3:=⟨bN b.A k (qn (g b.A k p) (g b.A j p)) j,bN b.U k (qn (g b.A k p) (g b.A j p)) j,bN b.C j (-(qn (g b.A k p) (g b.A j p))) k⟩
def KP(N top p:Nat)(b c:B3):Prop:=∃(L:List Nat) (k j:Nat),mL b.A N top p (L++[j,k])/\c=mv b p k j
inductive i3(N top p:Nat):B3->B3->Prop
 |refl (b:B3):i3 N top p b b
 |head {b c d:B3} (h:KP N top p b c) (t:i3 N top p c d):i3 N top p b d
def i3.tail{N top p:Nat}{b c d:B3}(h:i3 N top p b c)(t:KP N top p c d):i3 N top p b d:=by
 induction h with
 |refl b=>exact .head t (.refl _)
 |head x _ ih=>exact .head x (ih t)
def iG(X:Rows)(N top m:Nat):Prop:=∀i c,top<=i->i<N->(g X i c).natAbs<=m
def PR(f:Nat->Nat):Nat->Nat
 |0=>1
 |n+1=>PR f n*f n
def IG{f:Nat->Nat}(h:∀i,1<=f i):∀n,1<=PR f n
 |0=>Uk _
 |n+1=>U_ (IG h n) (h n)
def C8{f f':Nat->Nat}:∀ {n:Nat},(∀i,i<n->f i=f' i)->PR f n=PR f' n
 |0,_=>rfl
 |n+1,h=>by
  show PR f n*f n=PR f' n*f' n;rw[C8 λ i hi=>h i (Va hi),h n (UZ n)]
def GU{f f':Nat->Nat}{k:Nat}:∀ {n:Nat},k<n->(∀i,i≠k->f i=f' i)->PR f n*f' k=PR f' n*f k
 |0,hk,_=>absurd hk (UX _)
 |n+1,hk,h=>by
  show PR f n*f n*f' k=PR f' n*f' n*f k;by_cases e:k=n
  . subst e;rw[C8 (n:=k) λ i hi=>h i (UR hi),WV,Wl (f k),WV]
  . have:=GU (n:=n) (by omega) h;rw[h n (Uy e),Nat.mul_right_comm,this,Nat.mul_right_comm]
def Lk{f:Nat->Nat}{m top:Nat}(hm:1<=m):∀ {n:Nat},(∀i,i<n->i<top->f i<=1)->(∀i,i<n->f i<=m)->PR f n<=m^(n-top)
 |0,_,_=>by simp[PR]
 |n+1,h1,h2=>by
  have ih:=Lk hm (n:=n) (λ i hi=>h1 i (Va hi)) λ i hi=>h2 i (Va hi);show PR f n*f n<=_;by_cases ht:n<top
  . have z:n+1-top=n-top:=by omega
    rw[z];exact Um (U_ ih (h1 n (UZ n) ht)) (by rw[Ww];exact Uk _)
  . have z:n+1-top=(n-top)+1:=by omega
    rw[z,VD];exact U_ ih (h2 n (UZ n))
def wt(A:Rows)(top p i:Nat):Nat:=if top<=i/\g A i p≠0 then 2*(g A i p).natAbs else 1
def G8(A:Rows)(top p i:Nat):1<=wt A top p i:=by
 unfold wt;split<;>omega
def Ee{x y:Int}(hy:y≠0):2*(x-qn x y*y).natAbs<=y.natAbs:=by
 unfold qn;have h1:=Xu (2*x+y) (2*y);have h2:(2*x+y).fmod (2*y)=2*x+y-2*y*(2*x+y).fdiv (2*y):=by omega
 generalize(2*x+y).fdiv (2*y)=q at*;have e:2*(x-q*y)=(2*x+y).fmod (2*y)-y:=by rw[h2];grind
 rcases Int.lt_or_gt_of_ne hy with h|h
 . have a0:=Int.neg_fmod_neg (2*x+y) (2*y);have a1:=Vq (-(2*x+y)) (show 0< -(2*y) by omega);have a2:=Vx (-(2*x+y)) (show 0< -(2*y) by omega);omega
 . have a1:=Vq (2*x+y) (show 0<2*y by omega);have a2:=Vx (2*x+y) (show 0<2*y by omega);omega
def MN{x y:Int}(hy:y≠0)(hxy:y.natAbs<=x.natAbs):(1+(qn x y).natAbs)*(if x-qn x y*y≠0 then 2*(x-qn x y*y).natAbs else 1)<=2*x.natAbs:=by
 have h2:=Ee (x:=x) hy;generalize qn x y=q at*;generalize hr:x-q*y=r at*;have hx:x=q*y+r:=by omega
 have hq:(q*y).natAbs=q.natAbs*y.natAbs:=Vh ..;by_cases h0:r=0
 . rw[Up (λ z=>z h0),Ww];subst h0;have hxa:x.natAbs=q.natAbs*y.natAbs:=by rw[<-hq,hx];simp
   have hy1:1<=y.natAbs:=by omega
   have hq1:1<=q.natAbs:=by
    rcases Nat.eq_zero_or_pos q.natAbs with z|z
    . rw[z,Yz]at hxa;omega
    . exact z
   have:q.natAbs<=q.natAbs*y.natAbs:=Xf _ hy1;omega
 . rw[Ur h0];have hr1:1<=r.natAbs:=by omega
   have key:(1+q.natAbs)*r.natAbs<=x.natAbs:=by
    rcases V8 q.natAbs 2 with hlt|hge
    . rcases V8 q.natAbs 1 with h|h
      . have zq:q=0:=Int.natAbs_eq_zero.mp (Nat.le_zero.mp (Yl h));subst zq;simp at hx;subst hx;simp
      . have z:q.natAbs=1:=XE (Yl hlt) h;rw[z];exact Um h2 hxy
    . have h3:(q*y).natAbs<=x.natAbs+r.natAbs:=by omega
      rw[hq]at h3;have h4:q.natAbs*(2*r.natAbs)<=q.natAbs*y.natAbs:=WE _ h2;have h5:2*r.natAbs<=q.natAbs*r.natAbs:=Vs _ hge;have h6:q.natAbs*(2*r.natAbs)=q.natAbs*r.natAbs+q.natAbs*r.natAbs:=by rw[Ym];omega
      rw[Xm,Wx];omega
   have:(1+q.natAbs)*(2*r.natAbs)=2*((1+q.natAbs)*r.natAbs):=by rw[Ym]
   omega
structure sH(A0:Rows)(N w top p m:Nat)(b0 b:B3)(gr:Nat):Prop where
 tn:Tn A0 b.A b.U b.C N w
 up:∀i,i<top->b.A.getD i []=b0.A.getD i []/\b.U.getD i []=b0.U.getD i []/\b.C.getD i []=b0.C.getD i []
 lA:iG b.A N top (m*gr)
 lU:iG b.U N top (m*gr)
 lC:iG b.C N top (m*gr)
 zs:∀i c,top<=i->i<N->c<p->g b.A i c=0
 R9:gr*PR (wt b.A top p) N<=PR (wt b0.A top p) N
 pos:1<=gr
 Ri:b=b0\/∃j,top<=j/\j<N/\g b.A j p≠0
def xf{X:Rows}{N w top k j m gr:Nat}{q:Int}(hX:cj N w X)(hk:k<N)(hj:j<N)(hkt:top<=k)(hjt:top<=j)(h:iG X N top (m*gr)):iG (bN X k q j) N top (m*(gr*(1+q.natAbs))):=λ i c hi hN=>by
 rw[eA hX hk hj];have e:m*(gr*(1+q.natAbs))=m*gr+q.natAbs*(m*gr):=by rw[<-WV,Nat.mul_add,Ww,Wl (m*gr) q.natAbs]
 rw[e];by_cases hik:i=k
 . rw[Ur hik];have h1:=h k c hkt hk;have h2:=h j c hjt hj;have h3:(q*g X j c).natAbs<=q.natAbs*(m*gr):=by rw[Vh];exact WE _ h2
   exact Um (Yn _ _) (YV h1 h3)
 . rw[Up hik];exact Um (h i c hi hN) (Nat.le_add_right _ _)
def g_{X:Rows}{k j i:Nat}{q:Int}(hk:k<X.length)(h:i≠k):(bN X k q j).getD i []=X.getD i []:=by
 unfold bN;rw[nu hk,Up h]
def half_lt{r y x:Nat}(h:2*r<=y)(h2:y<=x)(h3:0<x):r<x:=by omega
def sH.step{A0:Rows}{N w top p m gr:Nat}{b0 b:B3}{L:List Nat}{k j:Nat}(G:sH A0 N w top p m b0 b gr)(hp:p<w)(hL:mL b.A N top p (L++[j,k])):
 sH A0 N w top p m b0 (mv b p k j) (gr*(1+(qn (g b.A k p) (g b.A j p)).natAbs))/\(g (mv b p k j).A k p).natAbs<(g b.A k p).natAbs/\(∀i,i≠k->g (mv b p k j).A i p=g b.A i p)/\top<=k/\k<N/\top<=j/\j<N/\j≠k/\g b.A j p≠0:=by
 obtain⟨hk1,hk2,hk3⟩:=(hL.mem k).mp (by simp);obtain⟨hj1,hj2,hj3⟩:=(hL.mem j).mp (by simp);have hord:=hL.ord;rw[List.pairwise_append]at hord;have hle:=(XZ.mp hord.2.1).1 k (by simp);have hnd:=hL.nd;rw[List.nodup_append]at hnd;have hjk:j≠k:=λ z=>(V7.mp hnd.2.1).1 (by rw[z];exact Vw.mpr rfl)
 have gk:g (mv b p k j).A k p=g b.A k p-qn (g b.A k p) (g b.A j p)*g b.A j p:=by
  show g (bN b.A k _ j) k p=_;rw[eA G.tn.isA hk2 hj2,Ur rfl]
 have gi:∀i,i≠k->g (mv b p k j).A i p=g b.A i p:=λ i hi=>by
  show g (bN b.A k _ j) i p=_;rw[eA G.tn.isA hk2 hj2,Up hi]
 have hrest:=Ee (x:=g b.A k p) hj3;have hgrow:=MN (x:=g b.A k p) hj3 hle;refine⟨⟨G.tn.take hk2 hj2 hjk,λ i hi=>?_,xf G.tn.isA hk2 hj2 hk1 hj1 G.lA,xf G.tn.dQ hk2 hj2 hk1 hj1 G.lU,?_,λ i c hi hN hc=>?_,?_,?_,.inr ⟨j,hj1,hj2,by rw[gi j hjk];exact hj3⟩⟩,?_,gi,hk1,hk2,hj1,hj2,hjk,hj3⟩
 . obtain⟨a1,a2,a3⟩:=G.up i hi;refine⟨(g_ (by rw[G.tn.isA.len];exact hk2) (by omega)).trans a1,(g_ (by rw[G.tn.dQ.len];exact hk2) (by omega)).trans a2,(g_ (by rw[G.tn.fY.len];exact hj2) (by omega)).trans a3⟩
 . have:=xf (q:= -(qn (g b.A k p) (g b.A j p))) G.tn.fY hj2 hk2 hj1 hk1 G.lC;rw[V3]at this;exact this
 . show g (bN b.A k _ j) i c=0;rw[eA G.tn.isA hk2 hj2];by_cases h:i=k
   . rw[Ur h,G.zs k c hk1 hk2 hc,G.zs j c hj1 hj2 hc,Vd];rfl
   . rw[Up h];exact G.zs i c hi hN hc
 . have e:=GU (f:=wt (mv b p k j).A top p) (f':=wt b.A top p) (k:=k) hk2 λ i hi=>by unfold wt;rw[gi i hi]
   have w1:wt b.A top p k=2*(g b.A k p).natAbs:=by unfold wt;rw[Ur ⟨hk1,hk3⟩]
   have w2:(1+(qn (g b.A k p) (g b.A j p)).natAbs)*wt (mv b p k j).A top p k<=wt b.A top p k:=by
    rw[w1];unfold wt;rw[gk];by_cases h0:g b.A k p-qn (g b.A k p) (g b.A j p)*g b.A j p=0
    . rw[Up (λ z=>z.2 h0)];rw[Up (λ z=>z h0)]at hgrow;exact hgrow
    . rw[Ur ⟨hk1,h0⟩];rw[Ur h0]at hgrow;exact hgrow
   have hw:0<wt b.A top p k:=G8 _ _ _ _;refine Nat.le_of_mul_le_mul_right (c:=wt b.A top p k) ?_ hw
   have s1:gr*(1+(qn (g b.A k p) (g b.A j p)).natAbs)*PR (wt (mv b p k j).A top p) N*wt b.A top p k=gr*PR (wt b.A top p) N*((1+(qn (g b.A k p) (g b.A j p)).natAbs)*wt (mv b p k j).A top p k):=by
    rw[WV _ (PR _ N),e];simp only[WV,Ym]
   rw[s1];exact U_ G.R9 w2
 . exact Nat.mul_pos G.pos (by omega)
 . rw[gk];exact half_lt hrest hle (Int.natAbs_pos.mpr hk3)
def sH.low{A0:Rows}{N w top p e gr:Nat}{b0 b:B3}(G:sH A0 N w top p (2^e) b0 b gr)(h0:iG b0.A N top (2^e)):2^e*gr<=2^((N-top+1)*(e+1)):=by
 have h1:gr<=PR (wt b0.A top p) N:=Um (Xf _ (IG (G8 _ _ _) N)) G.R9
 have h2:PR (wt b0.A top p) N<=(2^(e+1))^(N-top):=Lk W9 (λ i _ ht=>by unfold wt;rw[Up (by omega)];exact Uk _) λ i hi=>by
  unfold wt;split
  . rename_i h;have:=h0 i p h.1 hi;rw[VD];omega
  . exact W9
 refine Um (WE _ (Um h1 h2)) ?_;rw[<-Nat.pow_mul,<-V6];refine UE (by decide) ?_;have e1:(N-top+1)*(e+1)=(e+1)*(N-top)+(e+1):=by rw[Xm,Wx,Wl]
 rw[e1];omega
structure g9(A0:Rows)(N w:Nat)(b:B3)(top p:Nat)(ld:Nat->Nat)(e u:Nat):Prop where
 tn:Tn A0 b.A b.U b.C N w
 le:top<=N
 lo:iG b.A N top (2^e)/\iG b.U N top (2^e)/\iG b.C N top (2^e)
 hi:∀i c,i<top->(g b.A i c).natAbs<=2^u/\(g b.U i c).natAbs<=2^u/\(g b.C i c).natAbs<=2^u
 zs:∀i c,top<=i->i<N->c<p->g b.A i c=0
 lead:∀i,i<top->ld i<p/\0<g b.A i (ld i)/\∀c,c<ld i->g b.A i c=0
 mono:∀i j,i<j->j<top->ld i<ld j
 red:∀i j,i<j->j<top->0<=g b.A i (ld j)/\g b.A i (ld j)<g b.A j (ld j)
def g9.Il{A0:Rows}{N w top p e u:Nat}{b:B3}{ld:Nat->Nat}(S:g9 A0 N w b top p ld e u):sH A0 N w top p (2^e) b b 1:=
 ⟨S.tn,λ _ _=>⟨rfl,rfl,rfl⟩,by rw[Ww];exact S.lo.1,by rw[Ww];exact S.lo.2.1,by rw[Ww];exact S.lo.2.2,S.zs,by rw[Wx];exact Uk _,Uk _,.inl rfl⟩
def g9.skip{A0:Rows}{N w top p e u:Nat}{b:B3}{ld:Nat->Nat}(S:g9 A0 N w b top p ld e u)(h:mL b.A N top p []):g9 A0 N w b top (p+1) ld e u:=
 ⟨S.tn,S.le,S.lo,S.hi,λ i c h1 h2 h3=>by
  by_cases hc:c=p
  . subst hc;exact V4 λ z=>absurd ((h.mem i).mpr ⟨h1,h2,z⟩) (by simp)
  . exact S.zs i c h1 h2 (by omega),λ i hi=>⟨Va (S.lead i hi).1,(S.lead i hi).2⟩,S.mono,S.red⟩
def setB(b:B3)(p top r:Nat):B3:=
 if g (cp b.A top r) top p<0 then⟨iN (cp b.A top r) top,iN (cp b.U top r) top,iN (cp b.C top r) top⟩else⟨cp b.A top r,cp b.U top r,cp b.C top r⟩
def xB{X:Rows}{N w top r m:Nat}(hX:cj N w X)(ht:top<N)(hr:r<N)(hrt:top<=r)(h:iG X N top m):iG (cp X top r) N top m:=λ i c hi hN=>by
 rw[lY hX ht hr];refine h _ c ?_ (u6 ht hr hN);unfold sw;split
 . exact hrt
 . split
   . exact Uk _
   . exact hi
def Cc{X:Rows}{N w top m:Nat}(hX:cj N w X)(ht:top<N)(h:iG X N top m):iG (iN X top) N top m:=λ i c hi hN=>by
 rw[my hX ht];split
 . rw[V3];exact h top c (Uk _) ht
 . exact h i c hi hN
def wZ{X:Rows}{N w top r i:Nat}(hX:cj N w X)(ht:top<N)(hr:r<N)(hrt:top<=r)(hi:i<top):(cp X top r).getD i []=X.getD i []:=by
 rw[BW (by have:=hX.len;omega) (by have:=hX.len;omega)];unfold sw;rw[Up (by omega),Up (by omega)]
def De{X:Rows}{N w top i:Nat}(hX:cj N w X)(ht:top<N)(hi:i<top):(iN X top).getD i []=X.getD i []:=by
 unfold iN;rw[nu (by have:=hX.len;omega),Up (by omega)]
structure lb(A0:Rows)(N w top p m:Nat)(b0 b:B3):Prop where
 tn:Tn A0 b.A b.U b.C N w
 up:∀i,i<top->b.A.getD i []=b0.A.getD i []/\b.U.getD i []=b0.U.getD i []/\b.C.getD i []=b0.C.getD i []
 lo:iG b.A N top m/\iG b.U N top m/\iG b.C N top m
 zs:∀i c,top<=i->i<N->c<p->g b.A i c=0
 tp:0<g b.A top p
 z1:∀i,top<i->i<N->g b.A i p=0
def sH.set{A0:Rows}{N w top p m gr r:Nat}{b0 b:B3}(G:sH A0 N w top p m b0 b gr)(hL:mL b.A N top p [r]):lb A0 N w top p (m*gr) b0 (setB b p top r)/\top<=r/\r<N:=by
 obtain⟨hr1,hr2,hr3⟩:=(hL.mem r).mp (by simp);have ht:top<N:=by omega
 have z:∀i,top<=i->i<N->i≠r->g b.A i p=0:=λ i h1 h2 h3=>V4 λ y=>h3 (by simpa using(hL.mem i).mpr ⟨h1,h2,y⟩);have swg:∀i c,g (cp b.A top r) i c=g b.A (sw top r i) c:=λ i c=>lY G.tn.isA ht hr2 i c;have gt:g (cp b.A top r) top p=g b.A r p:=by rw[swg];unfold sw;rw[Ur rfl]
 have T1:=G.tn.K_ ht hr2
 have z1:∀i,top<i->i<N->g (cp b.A top r) i p=0:=λ i h1 h2=>by
  rw[swg];unfold sw;rw[Up (by omega)];by_cases h:i=r
  . rw[Ur h];exact z top (Uk _) ht (by omega)
  . rw[Up h];exact z i (by omega) h2 h
 have zs:∀i c,top<=i->i<N->c<p->g (cp b.A top r) i c=0:=λ i c h1 h2 h3=>by
  rw[swg];refine G.zs _ c ?_ (u6 ht hr2 h2) h3;unfold sw;split
  . exact hr1
  . split
    . exact Uk _
    . exact h1
 have up:∀i,i<top->(cp b.A top r).getD i []=b0.A.getD i []/\(cp b.U top r).getD i []=b0.U.getD i []/\(cp b.C top r).getD i []=b0.C.getD i []:=λ i hi=>by
  obtain⟨a1,a2,a3⟩:=G.up i hi;exact⟨(wZ G.tn.isA ht hr2 hr1 hi).trans a1,(wZ G.tn.dQ ht hr2 hr1 hi).trans a2,(wZ G.tn.fY ht hr2 hr1 hi).trans a3⟩
 have lo:=And.intro (xB G.tn.isA ht hr2 hr1 G.lA) (And.intro (xB G.tn.dQ ht hr2 hr1 G.lU) (xB G.tn.fY ht hr2 hr1 G.lC));refine⟨?_,hr1,hr2⟩;unfold setB;by_cases hs:g (cp b.A top r) top p<0
 . rw[Ur hs];refine⟨T1.neg ht,λ i hi=>?_,⟨Cc T1.isA ht lo.1,Cc T1.dQ ht lo.2.1,Cc T1.fY ht lo.2.2⟩,λ i c h1 h2 h3=>?_,?_,λ i h1 h2=>?_⟩
   . obtain⟨a1,a2,a3⟩:=up i hi;exact⟨(De T1.isA ht hi).trans a1,(De T1.dQ ht hi).trans a2,(De T1.fY ht hi).trans a3⟩
   . show g (iN (cp b.A top r) top) i c=0;rw[my T1.isA ht];split
     . rw[zs top c (Uk _) ht h3];rfl
     . exact zs i c h1 h2 h3
   . show 0<g (iN (cp b.A top r) top) top p;rw[my T1.isA ht,Ur rfl];omega
   . show g (iN (cp b.A top r) top) i p=0;rw[my T1.isA ht,Up (by omega)];exact z1 i h1 h2
 . rw[Up hs];exact⟨T1,up,lo,zs,by show 0<g (cp b.A top r) top p;rw[gt]at hs⊢;omega,z1⟩
def ny(p top:Nat):Nat->B3->B3
 |0,b=>b
 |k+1,b=>
  let c:=ny p top k b
  ⟨bN c.A k ((g c.A k p).fdiv (g c.A top p)) top,bN c.U k ((g c.A k p).fdiv (g c.A top p)) top,bN c.C top (-((g c.A k p).fdiv (g c.A top p))) k⟩
structure tD(A0:Rows)(N w top p e u:Nat)(b:B3)(k:Nat)(c:B3):Prop where
 tn:Tn A0 c.A c.U c.C N w
 rA:∀i,k<=i->c.A.getD i []=b.A.getD i []/\c.U.getD i []=b.U.getD i []
 rC:∀i,i≠top->c.C.getD i []=b.C.getD i []
 ah:∀i q,i<k->q<p->g c.A i q=g b.A i q
 rd:∀i,i<k->0<=g c.A i p/\g c.A i p<g c.A top p
 sz:∀i q,i<k->(g c.A i q).natAbs<=2^(u+e+1)/\(g c.U i q).natAbs<=2^(u+e+1)
 sC:∀q,(g c.C top q).natAbs<=2^e+k*2^(u+u)
def nk(a:Int){b:Int}(hb:0<b):(a.fdiv b).natAbs<=a.natAbs:=by
 rw[VJ _ (XF hb)];exact Ys a b
def zp{x y:Int}{a b:Nat}(hx:x.natAbs<=a)(hy:y.natAbs<=b):(x-y).natAbs<=a+b:=Um (Yn x y) (YV hx hy)
def tD.step{A0:Rows}{N w top p e u k:Nat}{b c:B3}(I:tD A0 N w top p e u b k c)(hk:k<top)(ht:top<N)(hp:p<w)(htp:0<g b.A top p)(hz:∀q,q<p->g b.A top q=0)
 (hlo:∀q,(g b.A top q).natAbs<=2^e/\(g b.U top q).natAbs<=2^e) (hhi:∀i q,i<top->(g b.A i q).natAbs<=2^u/\(g b.U i q).natAbs<=2^u/\(g b.C i q).natAbs<=2^u):
 tD A0 N w top p e u b (k+1) ⟨bN c.A k ((g c.A k p).fdiv (g c.A top p)) top,bN c.U k ((g c.A k p).fdiv (g c.A top p)) top,bN c.C top (-((g c.A k p).fdiv (g c.A top p))) k⟩:=by
 have hkN:k<N:=by omega
 have gA:∀i q,k<=i->g c.A i q=g b.A i q:=λ i q hi=>by unfold g;rw[(I.rA i hi).1]
 have gU:∀i q,k<=i->g c.U i q=g b.U i q:=λ i q hi=>by unfold g;rw[(I.rA i hi).2]
 have gC:∀i q,i≠top->g c.C i q=g b.C i q:=λ i q hi=>by unfold g;rw[I.rC i hi]
 have qe:((g c.A k p).fdiv (g c.A top p)).natAbs<=2^u:=by
  rw[gA k p (Uk _),gA top p (by omega)];exact Um (nk _ htp) (hhi k p hk).1
 have hq:∀x:Int,x.natAbs<=2^e->((g c.A k p).fdiv (g c.A top p)*x).natAbs<=2^(u+e):=λ x hx=>by
  rw[Vh,V6];exact U_ qe hx
 have le1:2^u<=2^(u+e):=UE (by decide) (by omega);refine⟨I.tn.take hkN ht (by omega),λ i hi=>?_,λ i hi=>?_,λ i q hi hqp=>?_,λ i hi=>?_,λ i q hi=>?_,λ q=>?_⟩
 . exact⟨(g_ (by rw[I.tn.isA.len];exact hkN) (by omega)).trans (I.rA i (by omega)).1,(g_ (by rw[I.tn.dQ.len];exact hkN) (by omega)).trans (I.rA i (by omega)).2⟩
 . exact(g_ (by rw[I.tn.fY.len];exact ht) hi).trans (I.rC i hi)
 . show g (bN c.A k _ top) i q=_;rw[eA I.tn.isA hkN ht];split
   . rename_i h;rw[gA top q (by omega),hz q hqp,Vd,gA k q (Uk _),h];omega
   . exact I.ah i q (by omega) hqp
 . show 0<=g (bN c.A k _ top) i p/\g (bN c.A k _ top) i p<g (bN c.A k _ top) top p;rw[eA I.tn.isA hkN ht,eA I.tn.isA hkN ht,Up (show¬top=k by omega)];split
   . have h1:=Xu (g c.A k p) (g c.A top p);have htp':0<g c.A top p:=by rw[gA top p (by omega)];exact htp
     have h2:=Vq (g c.A k p) htp';have h3:=Vx (g c.A k p) htp';rw[Wo]at h1;omega
   . exact I.rd i (by omega)
 . show(g (bN c.A k _ top) i q).natAbs<=_/\(g (bN c.U k _ top) i q).natAbs<=_;rw[eA I.tn.isA hkN ht,eA I.tn.dQ hkN ht];split
   . have a1:=hq (g c.A top q) (by rw[gA top q (by omega)];exact(hlo q).1);have a2:=hq (g c.U top q) (by rw[gU top q (by omega)];exact(hlo q).2);rw[gA k q (Uk _),gU k q (Uk _)];rw[VD,Nat.mul_two];exact⟨zp (Um (hhi k q hk).1 le1) a1,zp (Um (hhi k q hk).2.1 le1) a2⟩
   . exact I.sz i q (by omega)
 . show(g (bN c.C top _ k) top q).natAbs<=_;rw[eA I.tn.fY ht hkN,Ur rfl,gC k q (by omega),WX];have a1:=I.sC q
   have a2:((g c.A k p).fdiv (g c.A top p)*g b.C k q).natAbs<=2^(u+u):=by
    rw[Vh,V6];exact U_ qe (hhi k q hk).2.2
   rw[Xm,Wx,<-Nat.add_assoc];exact zp a1 (by rw[V3];exact a2)
def tD.start{A0:Rows}{N w top p e u:Nat}{b:B3}(T:Tn A0 b.A b.U b.C N w)(h:∀q,(g b.C top q).natAbs<=2^e):tD A0 N w top p e u b 0 b:=
 ⟨T,λ _ _=>⟨rfl,rfl⟩,λ _ _=>rfl,λ _ _ h=>absurd h (UX _),λ _ h=>absurd h (UX _),λ _ _ h=>absurd h (UX _),λ q=>by rw[Yz];exact h q⟩
def lb.next{A0:Rows}{N w top p e u e' u':Nat}{b0 b c:B3}{ld:Nat->Nat}(S:g9 A0 N w b0 top p ld e u)(s:lb A0 N w top p (2^e') b0 b)(ht:top<N)(I:tD A0 N w top p e' u b top c)(hN:N<=8)
 (h1:u+e'+1<=u') (h2:u+u+4<=u'):g9 A0 N w c (top+1) (p+1) (λ i=>if i=top then p else ld i) e' u':=by
 have hup:∀i q,i<top->g b.A i q=g b0.A i q:=λ i q hi=>by unfold g;rw[(s.up i hi).1]
 have hA:∀i q,top<=i->g c.A i q=g b.A i q:=λ i q hi=>by unfold g;rw[(I.rA i hi).1]
 have hU:∀i q,top<=i->g c.U i q=g b.U i q:=λ i q hi=>by unfold g;rw[(I.rA i hi).2]
 have hC:∀i q,i≠top->g c.C i q=g b.C i q:=λ i q hi=>by unfold g;rw[I.rC i hi]
 have le:∀ {a x:Nat},a<=2^x->x<=u'->a<=2^u':=λ h hx=>Um h (UE (by decide) hx);refine⟨I.tn,ht,⟨λ i q hi hN=>?_,λ i q hi hN=>?_,λ i q hi hN=>?_⟩,λ i q hi=>?_,λ i q hi hN hq=>?_,λ i hi=>?_,λ i j hij hj=>?_,λ i j hij hj=>?_⟩
 . rw[hA i q (by omega)];exact s.lo.1 i q (by omega) hN
 . rw[hU i q (by omega)];exact s.lo.2.1 i q (by omega) hN
 . rw[hC i q (by omega)];exact s.lo.2.2 i q (by omega) hN
 . by_cases h:i=top
   . subst h;refine⟨?_,?_,?_⟩
     . rw[hA i q (Uk _)];exact le (s.lo.1 i q (Uk _) ht) (by omega)
     . rw[hU i q (Uk _)];exact le (s.lo.2.1 i q (Uk _) ht) (by omega)
     . have h3:=I.sC q;have h4:i*2^(u+u)<=2^(u+u+3):=by rw[V6 _ _ 3,Wl];exact WE _ (by omega)
       have h5:2^(u+u+3)*2<=2^u':=by rw[<-VD];exact UE (by decide) h2
       have h6:2^e'*2<=2^u':=by rw[<-VD];exact UE (by decide) (by omega)
       omega
   . have hi':i<top:=by omega
     refine⟨le (I.sz i q hi').1 h1,le (I.sz i q hi').2 h1,?_⟩;rw[hC i q h];have:g b.C i q=g b0.C i q:=by unfold g;rw[(s.up i hi').2.2]
     rw[this];exact le (S.hi i q hi').2.2 (by omega)
 . rw[hA i q (by omega)];by_cases h:q=p
   . rw[h];exact s.z1 i (by omega) hN
   . exact s.zs i q (by omega) hN (by omega)
 . by_cases h:i=top
   . subst h;rw[Ur rfl];refine⟨UZ p,?_,λ q hq=>?_⟩
     . rw[hA i p (Uk _)];exact s.tp
     . rw[hA i q (Uk _)];exact s.zs i q (Uk _) ht hq
   . have hi':i<top:=by omega
     rw[Up h];obtain⟨a1,a2,a3⟩:=S.lead i hi';refine⟨Va a1,?_,λ q hq=>?_⟩
     . rw[I.ah i _ hi' a1,hup i _ hi'];exact a2
     . rw[I.ah i _ hi' (VL hq a1),hup i _ hi'];exact a3 q hq
 . by_cases h:j=top
   . rw[Ur h,Up (by omega)];exact(S.lead i (by omega)).1
   . rw[Up h,Up (by omega)];exact S.mono i j hij (by omega)
 . by_cases h:j=top
   . subst h;rw[Ur rfl];exact I.rd i hij
   . have hj':j<top:=by omega
     rw[Up h];have:=S.red i j hij hj';have hl:=(S.lead j hj').1;rw[I.ah i _ (by omega) hl,I.ah j _ hj' hl,hup i _ (by omega),hup j _ hj'];exact this
def Tn.start{A:Rows}{N w:Nat}(hA:cj N w A):Tn A A (units N) (units N) N w where
 isA:=hA
 dQ:=lD N
 fY:=lD N
 ua:=λ i c hi hc=>by
  rw[<-om hi λ k=>g A k c];exact aC λ m hm=>by rw[ie hi hm]
 ub:=λ i j hi hj=>by
  rw[zE i j,<-om hi λ k=>dl j k]
  . exact aC λ m hm=>by rw[ie hi hm,ie hj hm]
 bu:=λ i j hi hj=>by
  rw[<-rZ hi λ k=>dl k j];exact aC λ m hm=>by rw[ie hm hi,ie hm hj,Wo]
def g9.start{A:Rows}{N w e:Nat}(hA:cj N w A)(h:iG A N 0 (2^e)):g9 A N w ⟨A,units N,units N⟩ 0 0 (λ _=>0) e 0:=by
 have hu:iG (units N) N 0 (2^e):=λ i c _ hi=>by
  by_cases hc:c<N
  . rw[ie hi hc];unfold dl;split
    . exact W9
    . exact US _
  . unfold g;rw[m7 (l:=(units N).getD i []) (by rw[di (lD N) hi];omega)];exact US _
 exact⟨Tn.start hA,US _,⟨h,hu,hu⟩,λ _ _ h=>absurd h (UX _),λ _ _ _ _ h=>absurd h (UX _),λ _ h=>absurd h (UX _),λ _ _ _ h=>absurd h (UX _),λ _ _ _ h=>absurd h (UX _)⟩
def SU(f:Nat->Nat):Nat->Nat
 |0=>0
 |n+1=>SU f n+f n
def Lo{f f':Nat->Nat}:∀ {n:Nat},(∀i,i<n->f' i<=f i)->SU f' n<=SU f n
 |0,_=>Uk _
 |n+1,h=>YV (Lo λ i hi=>h i (Va hi)) (h n (UZ n))
def K7{f f':Nat->Nat}{k:Nat}(hlt:f' k<f k):∀ {n:Nat},k<n->(∀i,i<n->f' i<=f i)->SU f' n<SU f n
 |0,hk,_=>absurd hk (UX _)
 |n+1,hk,h=>by
  by_cases e:k=n
  . subst e;exact Nat.add_lt_add_of_le_of_lt (Lo λ i hi=>h i (Va hi)) hlt
  . exact Nat.add_lt_add_of_lt_of_le (K7 hlt (by omega) λ i hi=>h i (Va hi)) (h n (UZ n))
def mu(A:Rows)(N p:Nat):Nat:=SU (λ i=>(g A i p).natAbs) N
inductive OW(N p:Nat):Nat->B3->Nat->B3->Prop
 |none {top:Nat} {b:B3} (h:mL b.A N top p []):OW N p top b top b
 |one {top r:Nat} {b c:B3} (h:i3 N top p b c) (l:mL c.A N top p [r]):OW N p top b (top+1) (ny p top top (setB c p top r))
inductive rR(A:Rows)(N:Nat):Nat->Nat->B3->Prop
 |start:rR A N 0 0 ⟨A,units N,units N⟩
 |next {p t t':Nat} {b b':B3} (h:rR A N p t b) (c:OW N p t b t' b'):rR A N (p+1) t' b'
def Ez(N e0:Nat):Nat->Nat
 |0=>e0
 |t+1=>(N-t+1)*(Ez N e0 t+1)
def Vz(N e0:Nat):Nat->Nat
 |0=>0
 |t+1=>Vz N e0 t+Vz N e0 t+Ez N e0 (t+1)+5
def dm(X:Rows)(n w:Nat)(v:Nat->Int):Prop:=∃z:Nat->Int,∀c,c<w->v c=S n λ k=>z k*g X k c
def dm.row{X:Rows}{n w k:Nat}(hk:k<n):dm X n w (g X k):=⟨λ i=>dl k i,λ c _=>(om hk λ i=>g X i c).symm⟩
def dm.sub{X:Rows}{n w:Nat}{u v:Nat->Int}(hu:dm X n w u)(hv:dm X n w v):dm X n w λ c=>u c-v c:=by
 obtain⟨y,hy⟩:=hu;obtain⟨z,hz⟩:=hv;refine⟨λ k=>y k-z k,λ c hc=>?_⟩;show u c-v c=S n λ k=>(y k-z k)*g X k c;rw[hy c hc,hz c hc,VQ,<-tO,<-gF];exact aC λ k _=>by rw[Int.sub_mul,VQ]
def dm.trans{X Y:Rows}{m n w:Nat}{v:Nat->Int}(h:∀k,k<m->dm Y n w (g X k))(hv:dm X m w v):dm Y n w v:=by
 obtain⟨z,hz⟩:=hv
 have h':∀k,∃y:Nat->Int,k<m->∀c,c<w->g X k c=S n λ i=>y i*g Y i c:=λ k=>by
  by_cases hk:k<m
  . obtain⟨y,hy⟩:=h k hk;exact⟨y,λ _=>hy⟩
  . exact⟨λ _=>0,λ h=>absurd h hk⟩
 refine⟨λ i=>S m λ k=>z k*Classical.choose (h' k) i,λ c hc=>?_⟩;rw[hz c hc]
 have e1:S m (λ k=>z k*g X k c)=S m λ k=>S n λ i=>z k*Classical.choose (h' k) i*g Y i c:=aC λ k hk=>by
  rw[Classical.choose_spec (h' k) hk c hc,<-eG];exact aC λ i _=>(VI _ _ _).symm
 rw[e1,mH];exact aC λ i _=>qd _ _ _
structure cC(X:Rows)(n w:Nat)(ld:Nat->Nat):Prop where
 lead:∀i,i<n->ld i<w/\0<g X i (ld i)/\∀c,c<ld i->g X i c=0
 mono:∀i j,i<j->j<n->ld i<ld j
def cC.inj{X:Rows}{n w:Nat}{ld:Nat->Nat}(s:cC X n w ld){i j:Nat}(hi:i<n)(hj:j<n)(h:ld i=ld j):i=j:=by
 rcases Wu i j with q|q|q
 . exact absurd h (UR (s.mono i j q hj))
 . exact q
 . exact absurd h.symm (UR (s.mono j i q hi))
def cC.lt{X:Rows}{n w:Nat}{ld:Nat->Nat}(s:cC X n w ld){i j:Nat}(hi:i<n)(hj:j<n)(h:ld i<ld j):i<j:=by
 rcases Wu i j with q|q|q
 . exact q
 . rw[q]at h;exact absurd h (VB _)
 . exact absurd (VL h (s.mono j i q hi)) (VB _)
def cC.gone{X:Rows}{n w q:Nat}{ld:Nat->Nat}{v z:Nat->Int}(s:cC X n w ld)(hz:∀c,c<w->v c=S n λ k=>z k*g X k c)(h0:∀c,c<q->v c=0)(k:Nat):k<n->ld k<q->z k=0:=by
 induction k using Nat.strongRecOn with
 |ind k ih=>
  intro hk hq;obtain⟨h1,h2,h3⟩:=s.lead k hk;have e:=hz (ld k) h1;rw[h0 _ hq,oZ hk λ i hi ne=>?_]at e
  . exact(Int.mul_eq_zero.mp e.symm).resolve_right (W_ h2)
  . rcases Xa ne with l|l
    . rw[ih i l hi (VL (s.mono i k l hk) hq),VO]
    . rw[(s.lead i hi).2.2 _ (s.mono k i l hi),Vd]
def cC.at{X:Rows}{n w q:Nat}{ld:Nat->Nat}{v:Nat->Int}(s:cC X n w ld)(hv:dm X n w v)(hq:q<w)(h0:∀c,c<q->v c=0):(∃i,i<n/\ld i=q/\g X i q∣v q)\/v q=0:=by
 obtain⟨z,hz⟩:=hv
 have go:∀k,k<n->ld k≠q->z k*g X k q=0:=λ k hk ne=>by
  rcases Xa ne with l|l
  . rw[s.gone hz h0 k hk l,VO]
  . rw[(s.lead k hk).2.2 _ l,Vd]
 by_cases h:∃i,i<n/\ld i=q
 . obtain⟨i,hi,e⟩:=h;refine .inl ⟨i,hi,e,z i,?_⟩;rw[hz q hq,oZ hi λ k hk ne=>go k hk λ z=>ne (s.inj hk hi (z.trans e.symm)),Wo]
 . refine .inr ?_;rw[hz q hq];exact jY λ k hk=>go k hk λ e=>h ⟨k,hk,e⟩
def cC.sees{X Y:Rows}{n m w:Nat}{ld ld':Nat->Nat}(sX:cC X n w ld)(sY:cC Y m w ld')(h:∀k,k<n->dm Y m w (g X k))(i:Nat)(hi:i<n):∃j,j<m/\ld' j=ld i/\g Y j (ld i)∣g X i (ld i):=by
 obtain⟨h1,h2,h3⟩:=sX.lead i hi;rcases sY.at (h i hi) h1 h3 with q|q
 . exact q
 . rw[q]at h2;exact absurd h2 (by decide)
def cC.same{X Y:Rows}{n m w:Nat}{ld ld':Nat->Nat}(sX:cC X n w ld)(sY:cC Y m w ld')(h1:∀k,k<n->dm Y m w (g X k))(h2:∀k,k<m->dm X n w (g Y k))(i:Nat):i<n->i<m/\ld' i=ld i/\g Y i (ld i)=g X i (ld i):=by
 induction i using Nat.strongRecOn with
 |ind i ih=>
  intro hi;obtain⟨j,hj,ej,dj⟩:=sX.sees sY h1 i hi
  have e:j=i:=by
   rcases Wu j i with l|l|l
   . have:=(ih j l (VL l hi)).2.1;exact absurd (this.symm.trans ej) (UR (sX.mono j i l hi))
   . exact l
   . obtain⟨k,hk,ek,_⟩:=sY.sees sX h2 i (VL l hj);have lk:k<i:=sX.lt hk hi (by rw[ek,<-ej];exact sY.mono i j l hj);have:=(ih k lk hk).2.1;exact absurd (this.trans ek) (UR (sY.mono k i lk (VL l hj)))
  subst e;refine⟨hj,ej,?_⟩;obtain⟨k,hk,ek,dk⟩:=sY.sees sX h2 j hj;have:=sX.inj hk hi (ek.trans ej);subst this;rw[ej]at dk;exact Int.dvd_antisymm (by rw[<-ej];exact XF (sY.lead k hj).2.1) (XF (sX.lead k hi).2.1) dj dk
def cC.many{X Y:Rows}{n m w:Nat}{ld ld':Nat->Nat}(sX:cC X n w ld)(sY:cC Y m w ld')(h1:∀k,k<n->dm Y m w (g X k))(h2:∀k,k<m->dm X n w (g Y k)):n=m:=by
 refine XE ?_ ?_
 . cases n with
   |zero=>exact US _
   |succ n=>exact(sX.same sY h1 h2 n (UZ n)).1
 . cases m with
   |zero=>exact US _
   |succ m=>exact(sY.same sX h2 h1 m (UZ m)).1
def ug(X:Rows)(n:Nat)(ld:Nat->Nat):Prop:=∀i j,i<j->j<n->0<=g X i (ld j)/\g X i (ld j)<g X j (ld j)
def cC.only{X Y:Rows}{n m w:Nat}{ld ld':Nat->Nat}(sX:cC X n w ld)(sY:cC Y m w ld')(h1:∀k,k<n->dm Y m w (g X k))(h2:∀k,k<m->dm X n w (g Y k))(rX:ug X n ld)(rY:ug Y m ld'){i:Nat}(hi:i<n)(c:Nat):c<w->g X i c=g Y i c:=by
 induction c using Nat.strongRecOn with
 |ind c ih=>
  intro hc;obtain⟨im,il,ig⟩:=sX.same sY h1 h2 i hi;have hv:dm X n w λ c=>g X i c-g Y i c:=(dm.row hi).sub (h2 i im);rcases sX.at hv hc λ d hd=>by rw[ih d hd (VL hd hc),YA]with⟨j,hj,rfl,d⟩|q
  . obtain⟨jm,jl,jg⟩:=sX.same sY h1 h2 j hj;rcases Wu i j with l|l|l
    . have a:=rX i j l hj;have b:=rY i j l jm;rw[jl,jg]at b;exact YW (Wd d (by omega))
    . subst l;exact ig.symm
    . rw[(sX.lead i hi).2.2 _ (sX.mono j i l hi),(sY.lead i im).2.2 _ (by rw[il];exact sX.mono j i l hi)]
  . exact YW q
def i3.Il{A0:Rows}{N w top p m:Nat}{b0 b c:B3}(hp:p<w)(h:i3 N top p b c):∀ {gr:Nat},sH A0 N w top p m b0 b gr->∃gr',sH A0 N w top p m b0 c gr':=by
 induction h with
 |refl b=>exact λ G=>⟨_,G⟩
 |head s _ ih=>
  intro gr G;obtain⟨L,k,j,hL,rfl⟩:=s;exact ih (G.step hp hL).1
def lb.mono{A0:Rows}{N w top p m m':Nat}{b0 b:B3}(s:lb A0 N w top p m b0 b)(h:m<=m'):lb A0 N w top p m' b0 b:=
 ⟨s.tn,s.up,⟨λ i c h1 h2=>Um (s.lo.1 i c h1 h2) h,λ i c h1 h2=>Um (s.lo.2.1 i c h1 h2) h,λ i c h1 h2=>Um (s.lo.2.2 i c h1 h2) h⟩,s.zs,s.tp,s.z1⟩
def lb.TU{A0:Rows}{N w top p m:Nat}{b0 b:B3}(s:lb A0 N w top p m b0 b){i:Nat}(hi:i<top)(q:Nat):g b.A i q=g b0.A i q/\g b.U i q=g b0.U i q/\g b.C i q=g b0.C i q:=by
 obtain⟨a1,a2,a3⟩:=s.up i hi;unfold g;rw[a1,a2,a3];exact⟨rfl,rfl,rfl⟩
def Fl{n:Nat}{f:Nat->Int}:∀ {N:Nat},n<=N->(∀i,n<=i->i<N->f i=0)->S N f=S n f
 |0,h,_=>by rw[Nat.le_zero.mp h]
 |N+1,h,z=>by
  by_cases e:n=N+1
  . rw[e]
  . have hn:n<=N:=by omega
    show S N f+f N=_;rw[z N hn (UZ N),VP];exact Fl hn λ i h1 h2=>z i h1 (Va h2)
def g9.QP{A:Rows}{N w top e u:Nat}{c:B3}{ld:Nat->Nat}(s:g9 A N w c top w ld e u):cC c.A top w ld/\ug c.A top ld:=⟨⟨s.lead,s.mono⟩,s.red⟩
def g9.in{A:Rows}{N w top e u:Nat}{c:B3}{ld:Nat->Nat}(s:g9 A N w c top w ld e u)(k:Nat)(hk:k<top):dm A N w (g c.A k):=
 ⟨g c.U k,λ q hq=>s.tn.ua k q (UH hk s.le) hq⟩
def g9.out{A:Rows}{N w top e u:Nat}{c:B3}{ld:Nat->Nat}(s:g9 A N w c top w ld e u)(k:Nat)(hk:k<N):dm c.A top w (g A k):=by
 refine⟨λ i=>g c.C i k,λ q hq=>?_⟩
 have e1:S N (λ i=>g c.C i k*g c.A i q)=g A k q:=by
  have:S N (λ i=>g c.C i k*g c.A i q)=S N λ i=>S N λ j=>g c.C i k*g c.U i j*g A j q:=aC λ i hi=>by
   rw[s.tn.ua i q hi hq,<-eG];exact aC λ j _=>(VI _ _ _).symm
  rw[this,mH]
  have e2:S N (λ j=>S N λ i=>g c.C i k*g c.U i j*g A j q)=S N λ j=>dl k j*g A j q:=aC λ j hj=>by
   rw[qd,s.tn.bu k j hk hj]
  rw[e2,om hk λ j=>g A j q]
 rw[<-e1];exact Fl s.le λ i h1 h2=>by rw[s.zs i q h1 h2 hq,Vd]
def eU{X:Rows}{n i q:Nat}(h:i<n):g (X.take n) i q=g X i q:=by
 unfold g;rw[Uu (l:=X.take n),Uu (l:=X),WA h]
def dm.Sv{X:Rows}{n w:Nat}{u v:Nat->Int}(x:Int)(hu:dm X n w u)(hv:dm X n w v):dm X n w λ c=>u c+x*v c:=by
 obtain⟨y,hy⟩:=hu;obtain⟨z,hz⟩:=hv;refine⟨λ k=>y k+x*z k,λ c hc=>?_⟩;show u c+x*v c=S n λ k=>(y k+x*z k)*g X k c;rw[hy c hc,hz c hc,<-eG,<-gF];exact aC λ k _=>by rw[Int.add_mul,VI]
def dm.eq{X:Rows}{n w:Nat}{u v:Nat->Int}(hu:dm X n w u)(h:∀c,c<w->v c=u c):dm X n w v:=by
 obtain⟨y,hy⟩:=hu;exact⟨y,λ c hc=>(h c hc).trans (hy c hc)⟩
structure Rn(X:Rows)(n:Nat)(Y:Rows)(m w:Nat):Prop where
 to:∀k,k<n->dm Y m w (g X k)
 of:∀k,k<m->dm X n w (g Y k)
def dm.zero{X:Rows}{n w:Nat}{v:Nat->Int}(h:∀c,c<w->v c=0):dm X n w v:=
 ⟨λ _=>0,λ c hc=>by rw[h c hc,jY λ k _=>VO _]⟩
def sA{X:Rows}{r:Row}{k:Nat}(hk:k<=X.length)(i:Nat):(X.take k++r::X.drop k).getD i []=if i<k then X.getD i []else if i=k then r else X.getD (i-1) []:=by
 have lt:(X.take k).length=k:=by rw[Vo];omega
 rw[Uu,Uu,Uu];by_cases h:i<k
 . rw[Ur h,Us (by rw[lt];exact h),WA h]
 . rw[Up h,Vc (by rw[lt];omega),lt];by_cases h2:i=k
   . rw[Ur h2,h2,WR];rfl
   . rw[Up h2];have:i-k=(i-1-k)+1:=by omega
     rw[this,Xe,List.getElem?_drop];congr 2;omega
structure um(F:Rows)(w:Nat)(ld:Nat->Nat)(row:Nat->Int)(i:Nat)(o:Int)(L:Nat->Int):Prop where
 pos:0<o
 sum:dm F i w λ c=>o*row c-L c
 off:∀k,k<i->L (ld k)=0
 least:∀(m:Int) (v:Nat->Int),dm F i w v->(∀k,k<i->m*row (ld k)=v (ld k))->o∣m
def cC.Rx{F:Rows}{n w:Nat}{ld:Nat->Nat}{v:Nat->Int}(s:cC F n w ld)(hv:dm F n w v)(h:∀k,k<n->0<=v (ld k)/\v (ld k)<g F k (ld k))(c:Nat):c<w->v c=0:=by
 induction c using Nat.strongRecOn with
 |ind c ih=>
  intro hc;rcases s.at hv hc λ d hd=>ih d hd (VL hd hc)with⟨k,hk,rfl,d⟩|q
  . have:=h k hk;exact Wd d (by omega)
  . exact q
structure y_(F:Rows)(n w:Nat)(ld:Nat->Nat)(row:Nat->Int)(i:Nat)(L:Nat->Int):Prop where
 sum:dm F n w λ c=>row c-L c
 red:∀k,k<i->0<=L (ld k)/\L (ld k)<g F k (ld k)
def y_.start{F:Rows}{n w:Nat}{ld:Nat->Nat}{row:Nat->Int}:y_ F n w ld row 0 row:=⟨dm.zero λ c _=>YA _,λ _ h=>absurd h (UX _)⟩
def y_.step{F:Rows}{n w i:Nat}{ld:Nat->Nat}{row L:Nat->Int}(s:cC F n w ld)(hi:i<n)(f:y_ F n w ld row i L):y_ F n w ld row (i+1) λ c=>L c-(L (ld i)).fdiv (g F i (ld i))*g F i c:=by
 obtain⟨l1,l2,l3⟩:=s.lead i hi;refine⟨(f.sum.Sv ((L (ld i)).fdiv (g F i (ld i))) (dm.row hi)).eq λ c _=>by omega,λ k hk=>?_⟩;show 0<=L (ld k)-_*g F i (ld k)/\L (ld k)-_*g F i (ld k)<_;rcases V8 k i with h|h
 . rw[l3 _ (s.mono k i h hi),Vd,Y7];exact f.red k h
 . have:k=i:=XE (Yl hk) h;subst this;have e:=Int.fmod_add_mul_fdiv (L (ld k)) (g F k (ld k));have a:=Vq (L (ld k)) l2;have b:=Vx (L (ld k)) l2;rw[Wo]at e;omega
def y_.zero{F:Rows}{n w:Nat}{ld:Nat->Nat}{row L:Nat->Int}(s:cC F n w ld)(f:y_ F n w ld row n L):(∀c,c<w->L c=0)↔dm F n w row:=by
 constructor
 . exact λ h=>f.sum.eq λ c hc=>by rw[h c hc,Y7]
 . exact λ h=>s.Rx ((h.sub f.sum).eq λ c _=>by omega) f.red
def BB{K m:Nat}:∀ {n:Nat} {M:Fn},n<=K->(∀r c,r<n->c<n->(M r c).natAbs<=m)->(D n M).natAbs<=(K*m)^n
 |0,_,_,_=>by simp[D]
 |n+1,M,hn,h=>by
  rw[eB]
  have key:∀j,j<n+1->(sg j*M 0 j*D n λ r c=>M (r+1) (sk j c)).natAbs<=m*(K*m)^n:=λ j hj=>by
   have a:=BB (K:=K) (m:=m) (n:=n) (M:=λ r c=>M (r+1) (sk j c)) (by omega) λ r c hr hc=>h (r+1) (sk j c) (by omega) (mf hc);have b:=h 0 j (by omega) hj;have s:(sg j).natAbs=1:=by unfold sg;split<;>rfl
   rw[Vh,Vh,s,Wx];exact U_ b a
  refine Um (Gr key) ?_;rw[VD,Wl ((K*m)^n),WV];exact Vs _ hn
def pick{t N:Nat}{U B:Fn}(h:∀k l,k<t->l<t->S N (λ i=>U k i*B i l)=dl k l):∃I:Nat->Nat,(∀k,k<t->I k<N)/\D t (λ k l=>B (I k) l)≠0:=by
 apply V4;intro no
 have go:∀s,s<=t->∀I:Nat->Nat,(∀k,k<t->s<=k->I k<N)->D t (λ k l=>if k<s then dl k l else B (I k) l)=0:=by
  intro s;induction s with
  |zero=>
   intro _ I hI;exact V4 λ z=>no ⟨I,λ k hk=>hI k hk (US _),z⟩
  |succ s ih=>
   intro hs I hI
   have e:D t (λ k l=>if k<s+1 then dl k l else B (I k) l)=D t (upd (λ k l=>if k<s then dl k l else B (I k) l) s λ l=>S N λ j=>U s j*B j l):=dW λ k l hk hl=>by
    unfold upd;by_cases h1:k=s
    . subst h1;rw[Ur rfl,Ur (UZ _)];exact(h k l hk hl).symm
    . rw[Up h1];show _=if k<s then dl k l else B (I k) l
      by_cases h2:k<s
      . rw[Ur (by omega),Ur h2]
      . rw[Up (by omega),Up h2]
   rw[e,(wd t).yk (by omega)];refine jY λ j hj=>?_
   have e2:=ih (by omega) (λ k=>if k=s then j else I k) λ k hk hsk=>by
    by_cases h1:k=s
    . rw[Ur h1];exact hj
    . rw[Up h1];exact hI k hk (by omega)
   have e3:D t (upd (λ k l=>if k<s then dl k l else B (I k) l) s (B j))=D t (λ k l=>if k<s then dl k l else B (if k=s then j else I k) l):=dW λ k l hk hl=>by
    unfold upd;by_cases h1:k=s
    . subst h1;rw[Ur rfl,Up (VB _),Ur rfl]
    . rw[Up h1,Up h1]
   rw[e3,e2,Vd]
 have z:=go t (Uk _) (λ _=>0) λ k h1 h2=>absurd h1 (Nat.not_lt.mpr h2);rw[dW (M':=dl) λ r c hr hc=>Ur hr,zU]at z;exact absurd z (by decide)
def By:∀ {n:Nat} {f:Nat->Int},(∀i,i<n->0<f i)->0<Pr n f
 |0,_,_=>show(0:Int)<1 by decide
 |n+1,f,h=>Int.mul_pos (By λ i hi=>h i (Va hi)) (h n (UZ n))
def Lb:∀ {n:Nat} {f:Nat->Int},(∀i,i<n->0<f i)->∀k,k<n->f k<=Pr n f
 |n+1,f,h,k,hk=>by
  have p:=By λ i hi=>h i (Va hi);have q:=h n (UZ n);show f k<=Pr n f*f n;by_cases e:k=n
  . subst e;have:=Int.mul_le_mul_of_nonneg_right (show(1:Int)<=Pr k f from p) (XF q);omega
  . have a:=Lb (λ i hi=>h i (Va hi)) k (by omega);have:=Int.mul_le_mul_of_nonneg_left (show(1:Int)<=f n from q) (XF p);omega
def x5{w x:Int}{m:Nat}(hw:w≠0)(h:(w*x).natAbs<=m):x.natAbs<=m:=by
 rw[Vh]at h;exact Um (Nat.le_mul_of_pos_left _ (by omega)) h
def GD{b i j:Nat}(h:1<=b)(l:i<=j):(9*b)^i<=(9*b)^j:=UE (by omega) l
def JR{A F U B:Fn}{N w t b:Nat}{ld:Nat->Nat}(t8:t<=8)(b1:1<=b)(hA:∀i c,i<N->c<w->(A i c).natAbs<=b)(hAF:∀i c,i<N->c<w->A i c=S t λ k=>B i k*F k c)(hUB:∀k l,k<t->l<t->S N (λ i=>U k i*B i l)=dl k l)(lead:∀i,i<t->ld i<w/\0<F i (ld i)/\∀c,c<ld i->F i c=0)(mono:∀i j,i<j->j<t->ld i<ld j)(red:∀i j,i<j->j<t->0<=F i (ld j)/\F i (ld j)<F j (ld j)):
 Pr t (λ i=>F i (ld i))<=((9*b)^8:Nat)/\∀k c,k<t->c<w->(F k c).natAbs<=8*((9*b)^9*(9*b)^8):=by
 obtain⟨I,hI,hw⟩:=pick hUB;have eE:D t (λ k l=>F k (ld l))=Pr t λ i=>F i (ld i):=SM λ r c hr hc h=>(lead r hr).2.2 _ (mono c r h hr);have pos:0<Pr t λ i=>F i (ld i):=By λ i hi=>(lead i hi).2.1
 have eM:D t (λ k l=>A (I k) (ld l))=D t (λ k l=>B (I k) l)*D t λ k l=>F k (ld l):=by
  rw[<-KC];exact dW λ k l hk hl=>hAF _ _ (hI k hk) (lead l hl).1
 have bM:(D t (λ k l=>A (I k) (ld l))).natAbs<=(9*b)^t:=BB (K:=9) (by omega) λ r c hr hc=>hA _ _ (hI r hr) (lead c hc).1;rw[eM,eE]at bM;have bP:(Pr t λ i=>F i (ld i)).natAbs<=(9*b)^8:=Um (x5 hw bM) (GD b1 t8);refine⟨by omega,λ k c hk hc=>?_⟩
 have bF:∀l,l<t->(F k (ld l)).natAbs<=(9*b)^8:=λ l hl=>by
  have p:=Lb (f:=λ i=>F i (ld i)) (λ i hi=>(lead i hi).2.1) l hl;rcases Wu k l with h|h|h
  . have:=red k l h hl;have p':F l (ld l)<=Pr t λ i=>F i (ld i):=p;omega
  . subst h;have q:=(lead k hk).2.1;have p':F k (ld k)<=Pr t λ i=>F i (ld i):=p;omega
  . rw[(lead k hk).2.2 _ (mono l k h hk)];exact US _
 have e0:=Q5 (λ l k=>F k (ld l)) t (λ k=>F k c) k;rw[NM hk]at e0;have eT:D t (λ l k=>F k (ld l))=Pr t λ i=>F i (ld i):=by rw[<-eE];exact Cu t λ k l=>F k (ld l)
 rw[eT]at e0
 have bB:∀l,l<t->(D t (λ k l=>B (I k) l)*bt (λ l k=>F k (ld l)) t (λ k=>F k c) l).natAbs<=(9*b)^9:=λ l hl=>by
  have eW:D (t+1) (λ i k=>if i=t then dl t k else if k=t then 0 else B (I i) k)=D t λ k l=>B (I k) l:=by
   rw[C4 λ c _=>Ur rfl];exact dW λ r c hr hc=>by rw[Up (by omega),Up (by omega)]
  have eX:D (t+1) (upd (λ i r=>if r<t then A (I i) (ld r)else A (I i) c) t (dl l))=D t (λ k l=>B (I k) l)*bt (λ l k=>F k (ld l)) t (λ k=>F k c) l:=by
   unfold bt;rw[<-eW,<-KC];refine dW λ i r hi hr=>?_;by_cases h:i=t
   . subst h;rw[cS];have:(S (i+1) λ k=>(if i=i then dl i k else if k=i then 0 else B (I i) k)*upd (λ c_1 r=>if r<i then F c_1 (ld r)else F c_1 c) i (dl l) k r)=S (i+1) λ k=>dl i k*upd (λ c_1 r=>if r<i then F c_1 (ld r)else F c_1 c) i (dl l) k r:=aC λ k _=>by rw[Ur rfl]
     rw[this,om (UZ i),cS]
   . have hi':i<t:=by omega
     rw[aE h];show _=(S t λ k=>(if i=t then dl t k else if k=t then 0 else B (I i) k)*upd (λ c_1 r=>if r<t then F c_1 (ld r)else F c_1 c) t (dl l) k r)+(if i=t then dl t t else if t=t then 0 else B (I i) t)*upd (λ c_1 r=>if r<t then F c_1 (ld r)else F c_1 c) t (dl l) t r;have z:(if i=t then dl t t else if t=t then 0 else B (I i) t)*upd (λ c_1 r=>if r<t then F c_1 (ld r)else F c_1 c) t (dl l) t r=0:=by rw[Up h,Ur rfl,VO]
     rw[z,VP]
     have e2:∀k,k<t->(if i=t then dl t k else if k=t then 0 else B (I i) k)*upd (λ c_1 r=>if r<t then F c_1 (ld r)else F c_1 c) t (dl l) k r=B (I i) k*(if r<t then F k (ld r)else F k c):=λ k hk=>by
      rw[Up h,Up (by omega),aE (by omega)]
     rw[aC e2];by_cases hrt:r<t
     . rw[Ur hrt,hAF _ _ (hI i hi') (lead r hrt).1];exact aC λ k _=>by rw[Ur hrt]
     . rw[Up hrt,hAF _ _ (hI i hi') hc];exact aC λ k _=>by rw[Up hrt]
  rw[<-eX];refine Um (BB (K:=9) (by omega) λ r q hr hq=>?_) (GD b1 (show t+1<=9 by omega));by_cases h:r=t
  . subst h;rw[cS];unfold dl;split<;>omega
  . rw[aE h];have hr':r<t:=by omega
    split
    . rename_i hq';exact hA _ _ (hI r hr') (lead q hq').1
    . exact hA _ _ (hI r hr') hc
 have e1:D t (λ k l=>B (I k) l)*(Pr t λ i=>F i (ld i))*F k c= -S t λ l=>(D t (λ k l=>B (I k) l)*bt (λ l k=>F k (ld l)) t (λ k=>F k c) l)*F k (ld l):=by
  have:(S t λ l=>(D t (λ k l=>B (I k) l)*bt (λ l k=>F k (ld l)) t (λ k=>F k c) l)*F k (ld l))=D t (λ k l=>B (I k) l)*S t λ l=>bt (λ l k=>F k (ld l)) t (λ k=>F k c) l*F k (ld l):=by
   rw[<-eG];exact aC λ l _=>VI _ _ _
  rw[this,VI,<-Int.mul_neg];congr 1;omega
 refine x5 (w:=D t (λ k l=>B (I k) l)*(Pr t λ i=>F i (ld i))) (V9 hw (W_ pos)) ?_;rw[e1,V3];refine Um (Gr λ l hl=>?_) (Vs _ t8);rw[Vh];exact U_ (bB l hl) (bF l hl)
def g9.back{A0:Rows}{N w top e u:Nat}{c:B3}{ld:Nat->Nat}(H:g9 A0 N w c top w ld e u){i q:Nat}(hi:i<N)(hq:q<w):g A0 i q=S top λ k=>g c.C k i*g c.A k q:=by
 have T:=H.tn
 have e1:S N (λ k=>g c.C k i*g c.A k q)=g A0 i q:=by
  have:S N (λ k=>g c.C k i*g c.A k q)=S N λ k=>S N λ m=>g c.C k i*g c.U k m*g A0 m q:=aC λ k hk=>by
   rw[T.ua k q hk hq,<-eG];exact aC λ m _=>(VI _ _ _).symm
  rw[this,mH];have:(S N λ m=>S N λ k=>g c.C k i*g c.U k m*g A0 m q)=S N λ m=>dl i m*g A0 m q:=aC λ m hm=>by rw[qd,T.bu i m hi hm]
  rw[this,om hi]
 have cut:∀n,top<=n->n<=N->S n (λ k=>g c.C k i*g c.A k q)=S top λ k=>g c.C k i*g c.A k q:=λ n=>by
  induction n with
  |zero=>intro h _;rw[Nat.le_zero.mp h]
  |succ n ih=>
   intro h h2;by_cases e:top=n+1
   . rw[e]
   . show S n _+g c.C n i*g c.A n q=_;rw[ih (by omega) (by omega),H.zs n q (by omega) (by omega) hq,Vd,VP]
 rw[<-e1,cut N H.le (Uk _)]
def g9.small{A0:Rows}{N w top e u b:Nat}{c:B3}{ld:Nat->Nat}(H:g9 A0 N w c top w ld e u)(hN:N<=8)(b1:1<=b)(hA:∀i c,i<N->c<w->(g A0 i c).natAbs<=b):
 Pr top (λ i=>g c.A i (ld i))<=((9*b)^8:Nat)/\∀k q,k<top->q<w->(g c.A k q).natAbs<=8*((9*b)^9*(9*b)^8):=
 JR (A:=g A0) (F:=g c.A) (U:=g c.U) (B:=λ i k=>g c.C k i) (Um H.le hN) b1 hA (λ i q hi hq=>H.back hi hq) (λ k l hk hl=>H.tn.ub k l (UH hk H.le) (UH hl H.le)) H.lead H.mono H.red
def cP(F:Rows)(i:Nat):Nat:=(F.getD i []).findIdx (λ x=>x != 0)
def xS:∀ {r:Row} {l:Nat},(∀c,c<l->r.getD c 0=0)->r.getD l 0≠0->r.findIdx (λ x=>x != 0)=l
 | [],l,_,h=>(h rfl).elim
 |x::r,0,_,h=>by
  have h':(x != 0)=true:=Yq.mpr h;rw[List.findIdx_cons,h'];rfl
 |x::r,l+1,hz,h=>by
  have x0:(x != 0)=false:=bne_eq_false_iff_eq.mpr (hz 0 (Nat.zero_lt_succ _));rw[List.findIdx_cons,x0,xS (r:=r) (l:=l) (λ c hc=>hz (c+1) (YB hc)) h];rfl
def cC.cP{F:Rows}{n w:Nat}{ld:Nat->Nat}(s:cC F n w ld){i:Nat}(hi:i<n):Mx.cP F i=ld i:=by
 obtain⟨_,h2,h3⟩:=s.lead i hi;exact xS h3 (W_ h2)
def cC.R6{F:Rows}{n w:Nat}{ld:Nat->Nat}(s:cC F n w ld):cC F n w (Mx.cP F):=
 ⟨λ i hi=>by rw[s.cP hi];exact s.lead i hi,λ i j h hj=>by rw[s.cP hj,s.cP (VL h hj)];exact s.mono i j h hj⟩
def n_(F:Rows)(L:Row)(i:Nat):Int:=(L.getD (cP F i) 0).fdiv (g F i (cP F i))
def dM(F:Rows)(r:Row):Nat->Row
 |0=>r
 |i+1=>d9 (dM F r i) (-(n_ F (dM F r i) i)) (F.getD i [])
def qf(F:Rows)(r:Row)(n:Nat):Row:=(List.range n).map λ i=>n_ F (dM F r i) i
section
variable {F:Rows}{r:Row}{m w:Nat}(isF:cj m w F)(lr:r.length=w)
include isF lr
theorem l9:∀ {i:Nat},i<=m->(dM F r i).length=w
 |0,_=>lr
 |i+1,h=>by
  unfold dM;rw[nc (by rw[l9 (by omega),isF.row (by omega)])];exact l9 (by omega)
theorem y6{i:Nat}(hi:i<m)(c:Nat):(dM F r (i+1)).getD c 0=(dM F r i).getD c 0-n_ F (dM F r i) i*g F i c:=by
 conv=>lhs;unfold dM
 rw[vC (by rw[l9 isF lr (by omega),isF.row hi]),WX];rfl
theorem Es:∀ {i:Nat},i<=m->∀c,r.getD c 0=(dM F r i).getD c 0+S i λ j=>n_ F (dM F r j) j*g F j c
 |0,_,c=>(VP _).symm
 |i+1,h,c=>by
  have e:=Es (i:=i) (by omega) c;rw[y6 isF lr (by omega)];show _=_+(S i _+n_ F (dM F r i) i*g F i c);omega
theorem vV(s:cC F m w (cP F)):∀ {i:Nat},i<=m->y_ F m w (cP F) (λ c=>r.getD c 0) i (λ c=>(dM F r i).getD c 0)
 |0,_=>y_.start
 |i+1,h=>by
  have:=(vV s (i:=i) (by omega)).step s h
  have e:(λ c=>(dM F r (i+1)).getD c 0)=λ c=>(dM F r i).getD c 0-((dM F r i).getD (cP F i) 0).fdiv (g F i (cP F i))*g F i c:=by
   funext c;rw[y6 isF lr h];rfl
  rw[e];exact this
theorem wb{f e:Nat}(s:cC F m w (cP F))(hF:∀k c,k<m->c<w->(g F k c).natAbs<=2^f)(hr:∀c,c<w->(r.getD c 0).natAbs<=2^e):∀ {i:Nat},i<=m->∀c,c<w->((dM F r i).getD c 0).natAbs<=2^(e+i*(f+1))
 |0,_,c,hc=>by rw[Yz];exact hr c hc
 |i+1,h,c,hc=>by
  have ih:=wb s hF hr (i:=i) (by omega);obtain⟨l1,l2,_⟩:=s.lead i h;have q:=Um (nk ((dM F r i).getD (cP F i) 0) l2) (ih _ l1);rw[y6 isF lr h]
  have p:(n_ F (dM F r i) i*g F i c).natAbs<=2^(e+i*(f+1))*2^f:=by
   rw[Vh];exact U_ q (hF i c h hc)
  have b:=ih c hc
  have e1:2^(e+(i+1)*(f+1))=2^(e+i*(f+1))*2^f*2:=by
   rw[show e+(i+1)*(f+1)=e+i*(f+1)+f+1 by rw[W6];omega,VD,V6]
  have e2:2^(e+i*(f+1))<=2^(e+i*(f+1))*2^f:=Xf _ (YN (by decide));rw[e1];omega
end
def Km{A0:Rows}{N w top e u:Nat}{c:B3}{ld:Nat->Nat}(H:g9 A0 N w c top w ld e u){r ws:Row}(lw:ws.length=top)(hs:∀q,q<w->r.getD q 0=S top λ j=>ws.getD j 0*g c.A j q){q:Nat}(hq:q<w):(S N λ n=>(e_ ws (c.U.take top) (List.replicate N 0)).getD n 0*g A0 n q)=r.getD q 0:=by
 have T:=H.tn;have hl:(c.U.take top).length=top:=by rw[Vo,T.dQ.len];exact XG H.le
 have e1:∀n,(e_ ws (c.U.take top) (List.replicate N 0)).getD n 0=S top λ j=>ws.getD j 0*g c.U j n:=λ n=>by
  rw[tu (n:=N) n (by simp) (λ r hr=>T.dQ.dO r (Wv hr)) (by rw[hl,lw]),d5,Wn,hl];refine aC λ j hj=>?_;unfold g;rw[aG (l:=c.U.take top) (by omega),List.getElem_take,aG (l:=c.U) (by have:=T.dQ.len;have:=H.le;omega)]
 have e2:(S N λ n=>(e_ ws (c.U.take top) (List.replicate N 0)).getD n 0*g A0 n q)=S N λ n=>S top λ j=>ws.getD j 0*(g c.U j n*g A0 n q):=aC λ n _=>by
  rw[e1,<-qd];exact aC λ j _=>VI _ _ _
 rw[e2,mH,hs q hq];refine aC λ j hj=>?_;rw[eG,<-T.ua j q (UH hj H.le) hq]
def SQ:Nat->(Nat->Rat)->Rat
 |0,_=>0
 |n+1,f=>SQ n f+f n
def tH{n:Nat}{f h:Nat->Rat}(e:∀i,i<n->f i=h i):SQ n f=SQ n h:=by
 induction n with
 |zero=>rfl
 |succ n ih=>unfold SQ;rw[ih λ i hi=>e i (by omega),e n (by omega)]
def zD{n:Nat}{f:Nat->Rat}(e:∀i,i<n->f i=0):SQ n f=0:=by
 induction n with
 |zero=>rfl
 |succ n ih=>unfold SQ;rw[ih λ i hi=>e i (by omega),e n (by omega)];grind
def Ir(n:Nat)(f h:Nat->Rat):SQ n (λ i=>f i+h i)=SQ n f+SQ n h:=by
 induction n with
 |zero=>unfold SQ;grind
 |succ n ih=>unfold SQ;rw[ih];grind
def Qe(n:Nat)(x:Rat)(f:Nat->Rat):SQ n (λ i=>x*f i)=x*SQ n f:=by
 induction n with
 |zero=>unfold SQ;grind
 |succ n ih=>unfold SQ;rw[ih];grind
def GV{n k:Nat}(hk:k<n){f:Nat->Rat}(h:∀i,i<n->i≠k->f i=0):SQ n f=f k:=by
 induction n with
 |zero=>omega
 |succ n ih=>
  unfold SQ;by_cases e:k=n
  . subst e;rw[zD λ i hi=>h i (by omega) (by omega)];grind
  . rw[ih (by omega) λ i hi hn=>h i (by omega) hn,h n (by omega) (by omega)];grind
def NR{n k:Nat}(hk:k<n){f h:Nat->Rat}(e:∀i,i<n->i≠k->h i=f i):SQ n h=SQ n f+(h k-f k):=by
 induction n with
 |zero=>omega
 |succ n ih=>
  unfold SQ;by_cases q:k=n
  . subst q;rw[tH (f:=h) (h:=f) λ i hi=>e i (by omega) (by omega)];grind
  . rw[ih (by omega) λ i hi hn=>e i (by omega) hn,e n (by omega) (by omega)];grind
def Wh(x:Rat):Prop:=∃z:Int,x=(z:Rat)
def Wh.zero:Wh 0:=⟨0,rfl⟩
def Wh.add{x y:Rat}(h:Wh x)(k:Wh y):Wh (x+y):=by
 obtain⟨a,rfl⟩:=h;obtain⟨b,rfl⟩:=k;exact⟨a+b,(YG a b).symm⟩
def Wh.mul{x:Rat}(h:Wh x)(c:Int):Wh ((c:Rat)*x):=by
 obtain⟨a,rfl⟩:=h;exact⟨c*a,(YH c a).symm⟩
def Wh.neg{x:Rat}(h:Wh x):Wh (-x):=by
 obtain⟨a,rfl⟩:=h;exact⟨-a,(Rat.intCast_neg a).symm⟩
def Wh.den{x:Rat}:Wh x↔x.den=1:=by
 constructor
 . rintro⟨a,rfl⟩;rfl
 . intro h;exact⟨x.num,Rat.ext rfl h⟩
def dq(ps:List Rat)(w:Nat)(v:Nat->Int):Rat:=SQ w λ c=>ps.getD c 0*(v c:Rat)
def Cb(ps:List Rat)(w n:Nat)(x:Nat->Int)(f:Nat->Nat->Int):dq ps w (λ c=>S n λ k=>x k*f k c)=SQ n λ k=>(x k:Rat)*dq ps w (f k):=by
 induction n with
 |zero=>exact zD λ c _=>by show _*((0:Int):Rat)=0;grind
 |succ n ih=>
  have:dq ps w (λ c=>S (n+1) λ k=>x k*f k c)=dq ps w (λ c=>S n λ k=>x k*f k c)+(x n:Rat)*dq ps w (f n):=by
   unfold dq;rw[<-Qe,<-Ir];refine tH λ c _=>?_;show _*(((S n λ k=>x k*f k c)+x n*f n c:Int):Rat)=_;rw[YG,YH];grind
  rw[this,ih];rfl
def Oh(ps:List Rat)(w:Nat)(u v:Nat->Int):dq ps w (λ c=>u c+v c)=dq ps w u+dq ps w v:=by
 unfold dq;rw[<-Ir];exact tH λ c _=>by rw[YG];grind
def xD{ps:List Rat}{w:Nat}{u v:Nat->Int}(h:∀c,c<w->u c=v c):dq ps w u=dq ps w v:=tH λ c hc=>by rw[h c hc]
def E5{n:Nat}{f:Nat->Rat}(h:∀i,i<n->Wh (f i)):Wh (SQ n f):=by
 induction n with
 |zero=>exact Wh.zero
 |succ n ih=>exact(ih λ i hi=>h i (by omega)).add (h n (by omega))
def kc{ps:List Rat}{k:Nat}{x:Rat}(hk:k<ps.length)(c:Nat):(ps.set k x).getD c 0=if c=k then x else ps.getD c 0:=by
 rw[Uu,Uu];by_cases h:c=k
 . subst h;rw[Uq hk,Ur rfl];rfl
 . rw[Ul (Uy h),Up h]
def NH{ps:List Rat}{w k:Nat}{x:Rat}(lp:ps.length=w)(hk:k<w)(v:Nat->Int):dq (ps.set k x) w v=dq ps w v+(x-ps.getD k 0)*(v k:Rat):=by
 unfold dq;rw[NR hk (f:=λ c=>ps.getD c 0*(v c:Rat)) λ c _ hn=>by rw[kc (by omega),Up hn]];rw[kc (by omega),Ur rfl];grind
def He(F:Rows)(w l:Nat)(ps:List Rat)(k:Nat):List Rat:=if cP F k<l then ps.set (cP F k) ((0-dq ps w (g F k))/(g F k (cP F k):Rat))else ps
def oQ(F:Rows)(m w l:Nat)(ps:List Rat):Nat->List Rat
 |0=>ps
 |i+1=>He F w l (oQ F m w l ps i) (m-1-i)
def kL(w l:Nat)(b:Int):List Rat:=(List.replicate w 0).set l (Rat.divInt 1 b)
def OU(w c:Nat):(List.replicate w (0:Rat)).getD c 0=0:=by
 rw[Uu,Xb];split<;>rfl
structure p_(F:Rows)(m w l:Nat)(p:Rat)(i:Nat)(ps:List Rat):Prop where
 len:ps.length=w
 nil:∀c,c≠l->(∀k,m-i<=k->k<m->cP F k≠c)->ps.getD c 0=0
 hi:∀c,l<c->ps.getD c 0=0
 at_:ps.getD l 0=p
 off:∀k,m-i<=k->k<m->cP F k<l->dq ps w (g F k)=0
def p_.start{F:Rows}{m w l:Nat}(b:Int)(hl:l<w):p_ F m w l (Rat.divInt 1 b) 0 (kL w l b):=by
 have hw:l<(List.replicate w (0:Rat)).length:=by simpa using hl
 refine⟨by unfold kL;simp,λ c hc _=>?_,λ c hc=>?_,?_,λ k h1 h2=>by omega⟩
 . unfold kL;rw[kc hw,Up hc,OU]
 . unfold kL;rw[kc hw,Up (by omega),OU]
 . unfold kL;rw[kc hw,Ur rfl]
def p_.step{F:Rows}{m w l i:Nat}{p:Rat}{ps:List Rat}(s:cC F m w (cP F))(hi:i<m)(P:p_ F m w l p i ps):p_ F m w l p (i+1) (He F w l ps (m-1-i)):=by
 generalize hk:m-1-i=k0;have hk0:k0<m:=by omega
 obtain⟨l1,l2,l3⟩:=s.lead k0 hk0;unfold He;by_cases h:cP F k0<l
 . rw[Ur h]
   have pz:ps.getD (cP F k0) 0=0:=P.nil _ (by omega) λ k h1 h2 e=>by
    have:=s.mono k0 k (by omega) h2;omega
   have hne:(g F k0 (cP F k0):Rat)≠0:=λ z=>by
    have:g F k0 (cP F k0)=0:=XH.mp z;omega
   have hlen:cP F k0<ps.length:=by rw[P.len];exact l1
   refine⟨by rw[UC];exact P.len,λ c hc hn=>?_,λ c hc=>?_,?_,λ k h1 h2 h3=>?_⟩
   . rw[kc hlen,Up (Uy (hn k0 (by omega) hk0))];exact P.nil c hc λ k h1 h2=>hn k (by omega) h2
   . rw[kc hlen,Up (by omega)];exact P.hi c hc
   . rw[kc hlen,Up (by omega)];exact P.at_
   . rw[NH P.len l1,pz];by_cases e:k=k0
     . subst e;have:(0-dq ps w (g F k))/(g F k (cP F k):Rat)*(g F k (cP F k):Rat)=0-dq ps w (g F k):=Rat.div_mul_cancel hne;grind
     . have hk':m-i<=k:=by omega
       rw[P.off k hk' h2 h3,(s.lead k h2).2.2 _ (s.mono k0 k (by omega) h2)];show _+_*((0:Int):Rat)=0;grind
 . rw[Up h];refine⟨P.len,λ c hc hn=>P.nil c hc λ k h1 h2=>hn k (by omega) h2,P.hi,P.at_,λ k h1 h2 h3=>?_⟩;by_cases e:k=k0
   . subst e;omega
   . exact P.off k (by omega) h2 h3
def p_.all{F:Rows}{m w l:Nat}(b:Int)(s:cC F m w (cP F))(hl:l<w):∀ {i:Nat},i<=m->p_ F m w l (Rat.divInt 1 b) i (oQ F m w l (kL w l b) i)
 |0,_=>p_.start b hl
 |i+1,h=>(p_.all b s hl (i:=i) (by omega)).step s h
def EX(F:Rows)(m l:Nat)(x b:Int):Prop:=(∃k,k<m/\cP F k=l/\b=g F k l)\/((∀k,k<m->cP F k≠l)/\b=2*(x.natAbs:Int))
def EX.pos{F:Rows}{m w l:Nat}{x b:Int}(s:cC F m w (cP F))(h:EX F m l x b)(hx:x≠0):0<b:=by
 rcases h with⟨k,hk,e,rfl⟩|⟨n,rfl⟩
 . have:=(s.lead k hk).2.1;rw[e]at this;exact this
 . omega
def CC{b:Int}(hb:b≠0)(x:Int):Rat.divInt 1 b*(x:Rat)=(x:Rat)/(b:Rat):=by
 rw[Rat.divInt_eq_div];grind
def O0{x b:Int}(h0:0<x.natAbs)(h1:(x.natAbs:Int)<b):¬Wh ((x:Rat)/(b:Rat)):=by
 rintro⟨z,e⟩
 have hb:(b:Rat)≠0:=λ q=>by
  have:b=0:=XH.mp q;omega
 have e2:(x:Rat)=(z:Rat)*(b:Rat):=by rw[<-e];exact(Rat.div_mul_cancel hb).symm
 rw[<-YH]at e2;have e3:x=z*b:=XH.mp e2;have hz:z≠0:=λ q=>by rw[q,VO]at e3;omega
 have:(z*b).natAbs=z.natAbs*b.natAbs:=Vh _ _;have h2:1*b.natAbs<=z.natAbs*b.natAbs:=Vs _ (by omega);rw[e3]at h1;omega
def p_.whole{F:Rows}{m w l:Nat}{R:Row}{b:Int}{ps:List Rat}(s:cC F m w (cP F))(hl:l<w)(hb:EX F m l (R.getD l 0) b)(h0:R.getD l 0≠0)(P:p_ F m w l (Rat.divInt 1 b) m ps){k:Nat}(hk:k<m):Wh (dq ps w (g F k)):=by
 obtain⟨l1,l2,l3⟩:=s.lead k hk;rcases Wu (cP F k) l with h|h|h
 . rw[P.off k (by omega) hk h];exact Wh.zero
 . have e:dq ps w (g F k)=ps.getD l 0*(g F k l:Rat):=GV hl λ c hc hn=>by
    rcases Xa hn with q|q
    . rw[l3 c (by omega)];show _*((0:Int):Rat)=0;grind
    . rw[P.hi c q];grind
   have hb':b=g F k l:=by
    rcases hb with⟨k',hk',e',rfl⟩|⟨n,_⟩
    . rw[s.inj hk hk' (h.trans e'.symm)]
    . exact absurd h (n k hk)
   rw[e,P.at_,hb'];have hp:0<g F k l:=by rw[<-h];exact l2
   rw[CC (by omega)]
   have:(g F k l:Rat)≠0:=λ q=>by
    have:g F k l=0:=XH.mp q;omega
   have e1:(g F k l:Rat)/(g F k l:Rat)=1:=by rw[Rat.div_def];exact Rat.mul_inv_cancel _ this
   rw[e1];exact⟨1,rfl⟩
 . have e:dq ps w (g F k)=0:=zD λ c hc=>by
    rcases V8 l c with q|q
    . rw[P.hi c q];grind
    . rw[l3 c (by omega)];show _*((0:Int):Rat)=0;grind
   rw[e];exact Wh.zero
def p_.not{F:Rows}{m w l:Nat}{R:Row}{b:Int}{ps:List Rat}(s:cC F m w (cP F))(hl:l<w)(hb:EX F m l (R.getD l 0) b)(h0:R.getD l 0≠0)(hz:∀c,c<l->R.getD c 0=0)(red:∀k,k<m->0<=R.getD (cP F k) 0/\R.getD (cP F k) 0<g F k (cP F k))(P:p_ F m w l (Rat.divInt 1 b) m ps):¬Wh (dq ps w λ c=>R.getD c 0):=by
 have bp:=hb.pos s h0
 have e:dq ps w (λ c=>R.getD c 0)=ps.getD l 0*((R.getD l 0:Int):Rat):=GV hl λ c hc hn=>by
  rcases Xa hn with q|q
  . show _*((R.getD c 0:Int):Rat)=0;rw[hz c q];show _*((0:Int):Rat)=0;grind
  . rw[P.hi c q];grind
 rw[e,P.at_,CC (by omega)];refine O0 (by omega) ?_;rcases hb with⟨k,hk,e,rfl⟩|⟨n,rfl⟩
 . have:=red k hk;rw[e]at this;omega
 . omega
def Mf(n:Nat)(f:Nat->Rat):SQ (n+1) f=f 0+SQ n λ i=>f (i+1):=by
 induction n with
 |zero=>unfold SQ SQ;grind
 |succ n ih=>
  have:SQ (n+1+1) f=SQ (n+1) f+f (n+1):=rfl;rw[this,ih];have:SQ (n+1) (λ i=>f (i+1))=SQ n (λ i=>f (i+1))+f (n+1):=rfl;rw[this];grind
def mP:Rat->List Rat->Row->Rat
 |t,p::ps,n::r=>mP (t+p*(n:Rat)) ps r
 |t,_,_=>t
def HB:∀(ps:List Rat) (r:Row) (t:Rat) {w:Nat},ps.length=w->r.length=w->mP t ps r=t+dq ps w λ c=>r.getD c 0
 | [],[],t,w,h,_=>by
   subst h;unfold mP;show t=t+0;grind
 | [],_::_,t,w,h1,h2=>by subst h1;cases h2
 |_::_,[],t,w,h1,h2=>by subst h2;cases h1
 |p::ps,n::r,t,w,h1,h2=>by
  subst h1;unfold mP;rw[HB ps r _ rfl (Nat.succ.inj h2)];unfold dq;rw[UT,Mf]
  have e:(λ i=>(p::ps).getD (i+1) 0*(((n::r).getD (i+1) 0:Int):Rat))=λ i=>ps.getD i 0*((r.getD i 0:Int):Rat):=by
   funext i;simp
  rw[e];show _=t+(p*(n:Rat)+_);grind
structure Sz(q:Rat)(m:Nat):Prop where
 num:q.num.natAbs<=2^m
 den:q.den<=2^m
def Sz.mono{q:Rat}{m n:Nat}(h:Sz q m)(l:m<=n):Sz q n:=⟨Um h.num (UE (by decide) l),Um h.den (UE (by decide) l)⟩
def Sz.int{n:Int}{m:Nat}(h:n.natAbs<=2^m):Sz (n:Rat) m:=⟨h,YN (by decide)⟩
def Sz.of{t b:Int}{m:Nat}(hb:b≠0)(h1:t.natAbs<=2^m)(h2:b.natAbs<=2^m):Sz (Rat.divInt t b) m:=by
 have hg:1<=b.gcd t:=by
  have:b.gcd t≠0:=λ z=>hb (Int.gcd_eq_zero_iff.mp z).1;omega
 constructor
 . rw[Rat.num_divInt];have:((b.sign*t)/((b.gcd t:Nat):Int)).natAbs<=(b.sign*t).natAbs:=Ys _ _
   have e:(b.sign*t).natAbs<=t.natAbs:=by
    rw[Vh];have:b.sign.natAbs<=1:=by rw[Int.natAbs_sign];split<;>omega
    calc b.sign.natAbs*t.natAbs<=1*t.natAbs:=Vs _ this
     _=t.natAbs:=Wx _
   omega
 . rw[Rat.den_divInt,Up hb];exact Um (Nat.div_le_self _ _) h2
def jj{x y:Int}{a b:Nat}(hx:x.natAbs<=2^a)(hy:y.natAbs<=2^b):(x*y).natAbs<=2^(a+b):=by
 rw[Vh,V6];exact U_ hx hy
def den_nz(q:Rat):((q.den:Nat):Int)≠0:=by have:=q.den_nz;omega
def qv(q:Rat):q=Rat.divInt q.num ((q.den:Nat):Int):=(Rat.num_divInt_den q).symm
def add_eq(p q:Rat):p+q=Rat.divInt (p.num*((q.den:Nat):Int)+q.num*((p.den:Nat):Int)) (((p.den:Nat):Int)*((q.den:Nat):Int)):=by
 conv=>lhs;rw[qv p,qv q]
 rw[Rat.divInt_add_divInt _ _ (den_nz p) (den_nz q)]
def sub_eq(p q:Rat):p-q=Rat.divInt (p.num*((q.den:Nat):Int)-q.num*((p.den:Nat):Int)) (((p.den:Nat):Int)*((q.den:Nat):Int)):=by
 conv=>lhs;rw[qv p,qv q]
 rw[Rat.divInt_sub_divInt _ _ (den_nz p) (den_nz q)]
def mul_eq(p q:Rat):p*q=Rat.divInt (p.num*q.num) (((p.den:Nat):Int)*((q.den:Nat):Int)):=by
 conv=>lhs;rw[qv p,qv q]
 rw[YX]
def div_eq(p q:Rat):p/q=Rat.divInt (p.num*((q.den:Nat):Int)) (((p.den:Nat):Int)*q.num):=by
 rw[Rat.div_def,Rat.inv_def];conv=>lhs;rw[qv p]
 rw[YX]
def Sz.vp{q:Rat}{m:Nat}(h:Sz q m):(((q.den:Nat):Int)).natAbs<=2^m:=h.den
def Sz.add{p q:Rat}{a b:Nat}(hp:Sz p a)(hq:Sz q b):Sz (p+q) (a+b+1):=by
 rw[add_eq];have h1:=jj hp.num hq.vp;have h2:=jj hq.num hp.vp;have h3:=jj hp.vp hq.vp;rw[Nat.add_comm b a]at h2;exact Sz.of (V9 (den_nz p) (den_nz q)) (by rw[VD];omega) (Um h3 (UE (by decide) (by omega)))
def Sz.neg{q:Rat}{b:Nat}(hq:Sz q b):Sz (0-q) b:=by
 have e:(0:Rat)-q= -q:=by grind
 rw[e];exact⟨by rw[show(-q).num= -q.num from rfl,V3];exact hq.num,hq.den⟩
def Sz.mul{p q:Rat}{a b:Nat}(hp:Sz p a)(hq:Sz q b):Sz (p*q) (a+b):=by
 rw[mul_eq];exact Sz.of (V9 (den_nz p) (den_nz q)) (jj hp.num hq.num) (jj hp.vp hq.vp)
def Sz.div{p q:Rat}{a b:Nat}(hp:Sz p a)(hq:Sz q b)(h0:q.num≠0):Sz (p/q) (a+b):=by
 rw[div_eq];exact Sz.of (V9 (den_nz p) h0) (jj hp.num hq.vp) (jj hp.vp hq.num)
def Pb:List Rat->Nat->Prop
 | [],_=>True
 |q::qs,t=>∃a b,Sz q a/\Pb qs b/\a+b<=t
def Pb.mono:∀ {ps:List Rat} {s t:Nat},Pb ps s->s<=t->Pb ps t
 | [],_,_,_,_=>trivial
 |_::_,_,_,⟨a,b,h1,h2,h3⟩,l=>⟨a,b,h1,h2,Um h3 l⟩
def Pb.set{x:Rat}{a:Nat}(hx:Sz x a):∀ {ps:List Rat} {t k:Nat},Pb ps t->Pb (ps.set k x) (t+a)
 | [],_,_,_=>trivial
 |q::qs,t,0,⟨a',b,h1,h2,h3⟩=>⟨a,b,hx,h2,by omega⟩
 |q::qs,t,k+1,⟨a',b,h1,h2,h3⟩=>⟨a',b+a,h1,h2.set hx,by omega⟩
def Pb.rep:∀n:Nat,Pb (List.replicate n 0) 0
 |0=>trivial
 |n+1=>⟨0,0,⟨by decide,by decide⟩,Pb.rep n,Uk _⟩
def Pb.mP:∀ {ps:List Rat} {r:Row} {s e t:Nat} {x:Rat},Sz x s->Pb ps t->(∀n∈r,n.natAbs<=2^e)->Sz (mP x ps r) (s+t+ps.length*(e+1))
 | [],r,s,e,t,x,hx,_,_=>by unfold Mx.mP;exact hx.mono (by omega)
 |_::_,[],s,e,t,x,hx,_,_=>by unfold Mx.mP;exact hx.mono (by omega)
 |p::ps,n::r,s,e,t,x,hx,⟨a,b,h1,h2,h3⟩,hr=>by
  unfold Mx.mP;have h4:=hx.add (h1.mul (Sz.int (hr n UP)));refine(Pb.mP h4 h2 λ k hk=>hr k (UG _ hk)).mono ?_;rw[UT,W6];omega
structure mT(A0:Rows)(N w:Nat)(b:B3)(top p:Nat)(ld:Nat->Nat)(e u v:Nat):Prop where
 tn:Tn A0 b.A b.U b.C N w
 le:top<=N
 lo:iG b.A N top (2^e)/\iG b.U N top (2^e)/\iG b.C N top (2^e)
 hi:∀i c,i<top->(g b.A i c).natAbs<=2^u/\(g b.U i c).natAbs<=2^u/\(g b.C i c).natAbs<=2^v
 zs:∀i c,top<=i->i<N->c<p->g b.A i c=0
 lead:∀i,i<top->ld i<p/\0<g b.A i (ld i)/\∀c,c<ld i->g b.A i c=0
 mono:∀i j,i<j->j<top->ld i<ld j
 red:∀i j,i<j->j<top->0<=g b.A i (ld j)/\g b.A i (ld j)<g b.A j (ld j)
def mT.Il{A0:Rows}{N w top p e u v:Nat}{b:B3}{ld:Nat->Nat}(S:mT A0 N w b top p ld e u v):sH A0 N w top p (2^e) b b 1:=
 ⟨S.tn,λ _ _=>⟨rfl,rfl,rfl⟩,by rw[Ww];exact S.lo.1,by rw[Ww];exact S.lo.2.1,by rw[Ww];exact S.lo.2.2,S.zs,by rw[Wx];exact Uk _,Uk _,.inl rfl⟩
def mT.skip{A0:Rows}{N w top p e u v:Nat}{b:B3}{ld:Nat->Nat}(S:mT A0 N w b top p ld e u v)(h:mL b.A N top p []):mT A0 N w b top (p+1) ld e u v:=
 ⟨S.tn,S.le,S.lo,S.hi,λ i c h1 h2 h3=>by
  by_cases hc:c=p
  . subst hc;exact V4 λ z=>absurd ((h.mem i).mpr ⟨h1,h2,z⟩) (by simp)
  . exact S.zs i c h1 h2 (by omega),λ i hi=>⟨Va (S.lead i hi).1,(S.lead i hi).2⟩,S.mono,S.red⟩
structure qU(A0:Rows)(N w top p e u v:Nat)(b:B3)(k:Nat)(c:B3):Prop where
 tn:Tn A0 c.A c.U c.C N w
 rA:∀i,k<=i->c.A.getD i []=b.A.getD i []/\c.U.getD i []=b.U.getD i []
 rC:∀i,i≠top->c.C.getD i []=b.C.getD i []
 ah:∀i q,i<k->q<p->g c.A i q=g b.A i q
 rd:∀i,i<k->0<=g c.A i p/\g c.A i p<g c.A top p
 sz:∀i q,i<k->(g c.A i q).natAbs<=2^(u+e+1)/\(g c.U i q).natAbs<=2^(u+e+1)
 sC:∀q,(g c.C top q).natAbs<=2^e+k*2^(u+v)
def qU.step{A0:Rows}{N w top p e u v k:Nat}{b c:B3}(I:qU A0 N w top p e u v b k c)(hk:k<top)(ht:top<N)(hp:p<w)(htp:0<g b.A top p)(hz:∀q,q<p->g b.A top q=0)
 (hlo:∀q,(g b.A top q).natAbs<=2^e/\(g b.U top q).natAbs<=2^e) (hhi:∀i q,i<top->(g b.A i q).natAbs<=2^u/\(g b.U i q).natAbs<=2^u/\(g b.C i q).natAbs<=2^v):
 qU A0 N w top p e u v b (k+1) ⟨bN c.A k ((g c.A k p).fdiv (g c.A top p)) top,bN c.U k ((g c.A k p).fdiv (g c.A top p)) top,bN c.C top (-((g c.A k p).fdiv (g c.A top p))) k⟩:=by
 have hkN:k<N:=by omega
 have gA:∀i q,k<=i->g c.A i q=g b.A i q:=λ i q hi=>by unfold g;rw[(I.rA i hi).1]
 have gU:∀i q,k<=i->g c.U i q=g b.U i q:=λ i q hi=>by unfold g;rw[(I.rA i hi).2]
 have gC:∀i q,i≠top->g c.C i q=g b.C i q:=λ i q hi=>by unfold g;rw[I.rC i hi]
 have qe:((g c.A k p).fdiv (g c.A top p)).natAbs<=2^u:=by
  rw[gA k p (Uk _),gA top p (by omega)];exact Um (nk _ htp) (hhi k p hk).1
 have hq:∀x:Int,x.natAbs<=2^e->((g c.A k p).fdiv (g c.A top p)*x).natAbs<=2^(u+e):=λ x hx=>by
  rw[Vh,V6];exact U_ qe hx
 have le1:2^u<=2^(u+e):=UE (by decide) (by omega);refine⟨I.tn.take hkN ht (by omega),λ i hi=>?_,λ i hi=>?_,λ i q hi hqp=>?_,λ i hi=>?_,λ i q hi=>?_,λ q=>?_⟩
 . exact⟨(g_ (by rw[I.tn.isA.len];exact hkN) (by omega)).trans (I.rA i (by omega)).1,(g_ (by rw[I.tn.dQ.len];exact hkN) (by omega)).trans (I.rA i (by omega)).2⟩
 . exact(g_ (by rw[I.tn.fY.len];exact ht) hi).trans (I.rC i hi)
 . show g (bN c.A k _ top) i q=_;rw[eA I.tn.isA hkN ht];split
   . rename_i h;rw[gA top q (by omega),hz q hqp,Vd,gA k q (Uk _),h];omega
   . exact I.ah i q (by omega) hqp
 . show 0<=g (bN c.A k _ top) i p/\g (bN c.A k _ top) i p<g (bN c.A k _ top) top p;rw[eA I.tn.isA hkN ht,eA I.tn.isA hkN ht,Up (show¬top=k by omega)];split
   . have h1:=Xu (g c.A k p) (g c.A top p);have htp':0<g c.A top p:=by rw[gA top p (by omega)];exact htp
     have h2:=Vq (g c.A k p) htp';have h3:=Vx (g c.A k p) htp';rw[Wo]at h1;omega
   . exact I.rd i (by omega)
 . show(g (bN c.A k _ top) i q).natAbs<=_/\(g (bN c.U k _ top) i q).natAbs<=_;rw[eA I.tn.isA hkN ht,eA I.tn.dQ hkN ht];split
   . have a1:=hq (g c.A top q) (by rw[gA top q (by omega)];exact(hlo q).1);have a2:=hq (g c.U top q) (by rw[gU top q (by omega)];exact(hlo q).2);rw[gA k q (Uk _),gU k q (Uk _)];have b1:=(hhi k q hk).1;have b2:=(hhi k q hk).2.1;rw[VD];omega
   . exact I.sz i q (by omega)
 . show(g (bN c.C top _ k) top q).natAbs<=_;rw[eA I.tn.fY ht hkN,Ur rfl,gC k q (by omega),WX];have a1:=I.sC q
   have a2:((g c.A k p).fdiv (g c.A top p)*g b.C k q).natAbs<=2^(u+v):=by
    rw[Vh,V6];exact U_ qe (hhi k q hk).2.2
   rw[Xm,Wx];omega
def qU.start{A0:Rows}{N w top p e u v:Nat}{b:B3}(T:Tn A0 b.A b.U b.C N w)(h:∀q,(g b.C top q).natAbs<=2^e):qU A0 N w top p e u v b 0 b:=
 ⟨T,λ _ _=>⟨rfl,rfl⟩,λ _ _=>rfl,λ _ _ h=>absurd h (UX _),λ _ h=>absurd h (UX _),λ _ _ h=>absurd h (UX _),λ q=>by rw[Yz];exact h q⟩
def lb.Gb{A0:Rows}{N w top p e u v e' u' v':Nat}{b0 b c:B3}{ld:Nat->Nat}(S:mT A0 N w b0 top p ld e u v)(s:lb A0 N w top p (2^e') b0 b)(ht:top<N)(I:qU A0 N w top p e' u v b top c)(hN:N<=8)
 (h1:u+e'+1<=u') (h2:u+v+4<=v') (h9:e'+1<=v'):mT A0 N w c (top+1) (p+1) (λ i=>if i=top then p else ld i) e' u' v':=by
 have hup:∀i q,i<top->g b.A i q=g b0.A i q:=λ i q hi=>by unfold g;rw[(s.up i hi).1]
 have hA:∀i q,top<=i->g c.A i q=g b.A i q:=λ i q hi=>by unfold g;rw[(I.rA i hi).1]
 have hU:∀i q,top<=i->g c.U i q=g b.U i q:=λ i q hi=>by unfold g;rw[(I.rA i hi).2]
 have hC:∀i q,i≠top->g c.C i q=g b.C i q:=λ i q hi=>by unfold g;rw[I.rC i hi]
 have le:∀ {a x:Nat},a<=2^x->x<=u'->a<=2^u':=λ h hx=>Um h (UE (by decide) hx);refine⟨I.tn,ht,⟨λ i q hi hN=>?_,λ i q hi hN=>?_,λ i q hi hN=>?_⟩,λ i q hi=>?_,λ i q hi hN hq=>?_,λ i hi=>?_,λ i j hij hj=>?_,λ i j hij hj=>?_⟩
 . rw[hA i q (by omega)];exact s.lo.1 i q (by omega) hN
 . rw[hU i q (by omega)];exact s.lo.2.1 i q (by omega) hN
 . rw[hC i q (by omega)];exact s.lo.2.2 i q (by omega) hN
 . by_cases h:i=top
   . subst h;refine⟨?_,?_,?_⟩
     . rw[hA i q (Uk _)];exact le (s.lo.1 i q (Uk _) ht) (by omega)
     . rw[hU i q (Uk _)];exact le (s.lo.2.1 i q (Uk _) ht) (by omega)
     . have h3:=I.sC q;have h4:i*2^(u+v)<=2^(u+v+3):=by rw[V6 _ _ 3,Wl];exact WE _ (by omega)
       have h5:2^(u+v+3)*2<=2^v':=by rw[<-VD];exact UE (by decide) h2
       have h6:2^e'*2<=2^v':=by rw[<-VD];exact UE (by decide) h9
       omega
   . have hi':i<top:=by omega
     refine⟨le (I.sz i q hi').1 h1,le (I.sz i q hi').2 h1,?_⟩;rw[hC i q h];have:g b.C i q=g b0.C i q:=by unfold g;rw[(s.up i hi').2.2]
     rw[this];exact Um (S.hi i q hi').2.2 (UE (by decide) (by omega))
 . rw[hA i q (by omega)];by_cases h:q=p
   . rw[h];exact s.z1 i (by omega) hN
   . exact s.zs i q (by omega) hN (by omega)
 . by_cases h:i=top
   . subst h;rw[Ur rfl];refine⟨UZ p,?_,λ q hq=>?_⟩
     . rw[hA i p (Uk _)];exact s.tp
     . rw[hA i q (Uk _)];exact s.zs i q (Uk _) ht hq
   . have hi':i<top:=by omega
     rw[Up h];obtain⟨a1,a2,a3⟩:=S.lead i hi';refine⟨Va a1,?_,λ q hq=>?_⟩
     . rw[I.ah i _ hi' a1,hup i _ hi'];exact a2
     . rw[I.ah i _ hi' (VL hq a1),hup i _ hi'];exact a3 q hq
 . by_cases h:j=top
   . rw[Ur h,Up (by omega)];exact(S.lead i (by omega)).1
   . rw[Up h,Up (by omega)];exact S.mono i j hij (by omega)
 . by_cases h:j=top
   . subst h;rw[Ur rfl];exact I.rd i hij
   . have hj':j<top:=by omega
     rw[Up h];have:=S.red i j hij hj';have hl:=(S.lead j hj').1;rw[I.ah i _ (by omega) hl,I.ah j _ hj' hl,hup i _ (by omega),hup j _ hj'];exact this
def mT.start{A:Rows}{N w e:Nat}(hA:cj N w A)(h:iG A N 0 (2^e)):mT A N w ⟨A,units N,units N⟩ 0 0 (λ _=>0) e 0 0:=by
 have S:=g9.start hA h;exact⟨S.tn,S.le,S.lo,S.hi,S.zs,S.lead,S.mono,S.red⟩
def Uz(N e0:Nat):Nat->Nat
 |0=>0
 |t+1=>Uz N e0 t+Ez N e0 (t+1)+1
def Cz(N e0:Nat):Nat->Nat
 |0=>0
 |t+1=>Uz N e0 t+Cz N e0 t+Ez N e0 (t+1)+4
def mT.one{A0:Rows}{N w t p e u v r:Nat}{b c:B3}{ld:Nat->Nat}(S:mT A0 N w b t p ld e u v)(hp:p<w)(h:i3 N t p b c)(l:mL c.A N t p [r]):
 lb A0 N w t p (2^((N-t+1)*(e+1))) b (setB c p t r)/\t<N/\∀k,k<=t->qU A0 N w t p ((N-t+1)*(e+1)) u v (setB c p t r) k (ny p t k (setB c p t r)):=by
 obtain⟨gr,G⟩:=h.Il hp S.Il;obtain⟨s,h1,h2⟩:=G.set l;have s1:=s.mono (G.low S.lo.1);have ht:t<N:=Nat.lt_of_le_of_lt h1 h2;refine⟨s1,ht,λ k=>?_⟩;induction k with
 |zero=>exact λ _=>qU.start s1.tn λ q=>s1.lo.2.2 t q (Uk _) ht
 |succ k ih=>
  intro hk;refine(ih (VN hk)).step hk ht hp s1.tp (λ q hq=>s1.zs t q (Uk _) ht hq) (λ q=>⟨s1.lo.1 t q (Uk _) ht,s1.lo.2.1 t q (Uk _) ht⟩) λ i q hi=>?_;obtain⟨a1,a2,a3⟩:=s1.TU hi q;rw[a1,a2,a3];exact S.hi i q hi
def rR.SO{A:Rows}{N w e0:Nat}(hA:cj N w A)(hlo:iG A N 0 (2^e0))(hN:N<=8){p t:Nat}{b:B3}(h:rR A N p t b):p<=w->∃ld,mT A N w b t p ld (Ez N e0 t) (Uz N e0 t) (Cz N e0 t):=by
 induction h with
 |start=>exact λ _=>⟨_,mT.start hA hlo⟩
 |next _ c ih=>
  intro hp;obtain⟨ld,S⟩:=ih (VN hp);cases c with
  |none l=>exact⟨ld,S.skip l⟩
  |one g l=>
   obtain⟨s1,ht,I⟩:=S.one hp g l;exact⟨_,lb.Gb (e':=Ez N e0 (_+1)) (u':=Uz N e0 (_+1)) (v':=Cz N e0 (_+1)) S s1 ht (I _ (Uk _)) hN (by show _<=Uz N e0 _+Ez N e0 (_+1)+1;omega) (by show _<=Uz N e0 _+Cz N e0 _+Ez N e0 (_+1)+4;omega) (by show _<=Uz N e0 _+Cz N e0 _+Ez N e0 (_+1)+4;omega)⟩
def cC.QF{F:Rows}{n w:Nat}{ld:Nat->Nat}{v:Nat->Int}(s:cC F n w ld)(hv:dm F n w v)(h:∀k,k<n->(v (ld k)).natAbs<(g F k (ld k)).natAbs)(c:Nat):c<w->v c=0:=by
 induction c using Nat.strongRecOn with
 |ind c ih=>
  intro hc;rcases s.at hv hc λ d hd=>ih d hd (VL hd hc)with⟨k,hk,rfl,d⟩|q
  . exact Wd d (h k hk)
  . exact q
def EG(a:Nat)(f:Nat->Int):∀b,S (a+b) f=S a f+S b λ i=>f (a+i)
 |0=>(VP _).symm
 |b+1=>by
  show S (a+b) f+f (a+b)=S a f+(S b (λ i=>f (a+i))+f (a+b));rw[EG a f b,Int.add_assoc]
def CY{X:Rows}{m i q:Nat}:g (X.drop m) i q=g X (m+i) q:=by
 have e:(X.drop m).getD i []=X.getD (m+i) []:=by rw[Uu,List.getElem?_drop,Uu]
 unfold g;rw[e]
def g9.kernel{A:Rows}{N w top e u:Nat}{c:B3}{ld:Nat->Nat}(H:g9 A N w c top w ld e u){x:Nat->Int}:(∀q,q<w->(S N λ n=>x n*g A n q)=0)↔dm (c.U.drop top) (N-top) N x:=by
 have le:=H.le;constructor
 . intro h
   let y:Nat->Int:=λ i=>S N λ k=>x k*g c.C i k
   have e1:∀j,j<N->x j=S N λ i=>y i*g c.U i j:=λ j hj=>by
    have:(S N λ i=>y i*g c.U i j)=S N λ i=>S N λ k=>x k*(g c.C i k*g c.U i j):=aC λ i _=>by
     show(S N λ k=>x k*g c.C i k)*g c.U i j=_;rw[<-qd];exact aC λ k _=>VI _ _ _
    rw[this,mH];have e2:(S N λ k=>S N λ i=>x k*(g c.C i k*g c.U i j))=S N λ k=>x k*dl k j:=aC λ k hk=>by rw[eG,H.tn.bu k j hk hj]
    rw[e2];exact(rZ hj x).symm
   have z:∀i,i<top->y i=0:=λ i hi=>by
    refine H.QP.1.gone (v:=λ _=>0) (z:=y) (q:=w) (λ q hq=>?_) (λ _ _=>rfl) i hi (H.lead i hi).1
    have e3:(S N λ n=>x n*g A n q)=S N λ i=>y i*g c.A i q:=by
     have a1:(S N λ n=>x n*g A n q)=S N λ n=>S N λ i=>y i*(g c.U i n*g A n q):=aC λ n hn=>by
      rw[e1 n hn,<-qd];exact aC λ i _=>VI _ _ _
     rw[a1,mH];exact aC λ i hi=>by rw[eG,H.tn.ua i q hi hq]
    rw[h q hq]at e3;rw[e3];exact Fl le λ i h1 h2=>by rw[H.zs i q h1 h2 hq,Vd]
   refine⟨λ i=>y (top+i),λ j hj=>?_⟩;have e4:=EG top (λ i=>y i*g c.U i j) (N-top);rw[Nat.add_sub_cancel' le]at e4;rw[e1 j hj,e4,jY λ i hi=>by rw[z i hi,VO],Wn];exact aC λ i _=>by rw[CY]
 . rintro⟨z,hz⟩ q hq
   have e1:(S N λ n=>x n*g A n q)=S N λ n=>S (N-top) λ i=>z i*(g c.U (top+i) n*g A n q):=aC λ n hn=>by
    rw[hz n hn,<-qd];exact aC λ i _=>by rw[CY,VI]
   rw[e1,mH];refine jY λ i hi=>?_;have hi2:top+i<N:=by omega
   rw[eG,<-H.tn.ua (top+i) q hi2 hq,H.zs (top+i) q (by omega) hi2 hq,Vd]
def Aq{F:Rows}{r:Row}{m w:Nat}(hF:cj m w F)(hr:r.length=w)(h:∀i,i<m->0<=r.getD (cP F i) 0/\r.getD (cP F i) 0<g F i (cP F i)):∀i,i<=m->dM F r i=r
 |0,_=>rfl
 |i+1,hi=>by
  have ih:=Aq hF hr h i (by omega)
  have q0:n_ F (dM F r i) i=0:=by
   rw[ih];obtain⟨h1,h2⟩:=h i hi;show(r.getD (cP F i) 0).fdiv (g F i (cP F i))=0;rw[VJ _ (by omega)];exact YO h1 h2
  refine zk (l9 hF hr hi) hr λ c _=>?_;rw[y6 hF hr hi,q0,VO,Y7,ih]
def rR.TJ{A:Rows}{N p:Nat}{t:Nat}{c:B3}(h:rR A N p t c):t=0->c=⟨A,units N,units N⟩:=by
 induction h with
 |start=>exact λ _=>rfl
 |next _ c ih=>
  intro ht;cases c with
  |none l=>exact ih ht
  |one g l=>cases ht
def NN:∀N,N<9->∀t,t<N+1->Ez N 28 t<=50000000/\Vz N 28 t<=60000000:=by decide+kernel
def xU(N m:Nat):Nat:=if m=0 then 0 else Ez N 28 m
def KG:∀N,N<9->∀m,m<N+1->∀t,t<N-m+1->(Ez (N-m) (xU N m) t<=50000000/\Vz (N-m) (xU N m) t<=60000000)/\Vz N 28 m+8000+t*(Uz (N-m) (xU N m) t+1)<=130000000/\xU N m+t*(Uz (N-m) (xU N m) t+1)<=130000000:=by decide+kernel
end Mx
namespace Prog
open PySem L2 L3
open PySem.Spec hiding items?
open PyProof.Rows hiding St
def fQ{i j:Int}(h1: -(2^64)<i)(h2:i<2^64):IntMulOk i j:= .of_left (intBits_le_64 h1 h2)
def vH{i j:Int}(h1: -(2^64)<j)(h2:j<2^64):IntMulOk i j:= .of_right (intBits_le_64 h1 h2)
def Any(st:ag)(d:D):Prop:=∃t,fI st d=some t
structure Thing(st:ag)(d:D):Prop where
 any:Any st d
 av:∀xs,items? st d=some xs->(∀x∈xs,Any st x)/\xs.length<=sizeLine
def isInt:D->Bool
 | .int _=>true
 |_=>false
def Jv{st:ag}{d:D}{t:String}(h:fI st d=some t):(t=="int")=isInt d:=by
 cases d<;>unfold fI at h<;>first|(cases h;done)|(cases h;rfl)|(simp only at h;split at h<;>first|(cases h;rfl)|cases h)
def Ij{st:ag}{d:D}{t:String}(h:fI st d=some t):(t=="list"||t=="tuple")=(items? st d).isSome:=by
 cases d<;>unfold fI at h<;>first|(cases h;done)|(cases h;rfl)|(simp only at h;split at h<;>first|(cases h;rename_i q;rw[aH q];rfl)|cases h)
def iK(st:ag)(d:D)(m:Int):Bool:=match items? st d with
 |some xs=>decide ((xs.length:Int)=m)&&xs.all isInt
 |none=>false
def wN{tg:fS}{te:DE}{ok:ag->Prop}{σc:cf}{st:ag}{K:List D->ag->Prop}{g:D->D}(aO:ok st):∀(xs acc:List D),(∀x∈xs,∀K',K' (g x) st->∃σ2,tg x σc=some σ2/\te σ2 st K')->K (acc++xs.map g) st->dv tg bV te ok σc xs acc st K
 | [],acc,_,h=>by unfold dv;exact⟨aO,by simpa using h⟩
 |x::xs,acc,hx,h=>by
  unfold dv;obtain⟨σ2,e,q⟩:=hx x UP (λ y st2=>dv tg bV te ok σc xs (acc++[y]) st2 K) (wN aO xs (acc++[g x]) (λ y hy=>hx y (UG _ hy)) (by simpa using h));exact⟨aO,σ2,e,q⟩
def uH{f:D->Bool}:∀xs:List D,gS (xs.map λ x=>D.bl (f x))=some (xs.map f)
 | []=>rfl
 |x::xs=>by simp[gS,uH xs]
abbrev aB(r:List Int):List D:=r.map D.int
abbrev aY(r:List Int):D:= .tup (aB r)
abbrev a6(r:List Int):D:= .lst (aB r)
abbrev bQ(A:List (List Int)):D:= .tup (A.map aY)
abbrev jR(A:List (List Int)):D:= .lst (A.map a6)
def bK(st:ag):List D->List (List Int)->Prop
 | [],[]=>True
 |d::ds,r::rs=>items? st d=some (aB r)/\bK st ds rs
 |_,_=>False
structure fv(st:ag)(d:D)(A:List (List Int)):Prop where
 ex:∃ds,items? st d=some ds/\bK st ds A
def bK.len{st:ag}:∀ {ds:List D} {A:List (List Int)},bK st ds A->ds.length=A.length
 | [],[],_=>rfl
 |_::_,_::_,h=>by simp[bK.len h.2]
def bK.tup{st:ag}:∀ {A:List (List Int)},bK st (A.map aY) A
 | []=>trivial
 |_::_=>⟨rfl,bK.tup⟩
def bK.lst{st:ag}:∀ {A:List (List Int)},bK st (A.map a6) A
 | []=>trivial
 |_::_=>⟨rfl,bK.lst⟩
def bK.get{st:ag}:∀ {ds:List D} {A:List (List Int)} {i:Nat} {d:D},bK st ds A->ds[i]?=some d->∃r,A[i]?=some r/\items? st d=some (aB r)
 |_::_,r::_,0,_,h,e=>by simp at e;subst e;exact⟨r,rfl,h.1⟩
 |_::_,_::_,i+1,d,h,e=>by
  obtain⟨r,e1,e2⟩:=bK.get (i:=i) (d:=d) h.2 (by simpa using e);exact⟨r,by simpa using e1,e2⟩
def gN{st:ag}{A:List (List Int)}:fv st (bQ A) A:=⟨_,rfl,bK.tup⟩
structure Ext(st st':ag):Prop where
 len:st.length<=st'.length
 same:∀m,m<st.length->st'[m]?=st[m]?
def Ext.refl{st:ag}:Ext st st:=⟨Uk _,λ _ _=>rfl⟩
def Ext.trans{st st1 st2:ag}(a:Ext st st1)(b:Ext st1 st2):Ext st st2:=⟨Um a.len b.len,λ m h=>(b.same m (UH h a.len)).trans (a.same m h)⟩
def Ext.push{st:ag}{c:List Cell}:Ext st (st++c):=⟨by simp,λ m h=>Us h⟩
def Ext.set{st:ag}{n:Nat}{c:Cell}{st0:ag}(a:Ext st0 st)(h:st0.length<=n):Ext st0 (st.set n c):=⟨by rw[UC];exact a.len,λ m hm=>by rw[Ul (by omega)];exact a.same m hm⟩
def Ext.items{st st':ag}{d:D}{xs:List D}(x:Ext st st')(e:items? st d=some xs):items? st' d=some xs:=by
 cases d with
 |ref n=>
  unfold items? at e⊢;simp only at e⊢;cases q:st[n]? with
  |none=>rw[q]at e;cases e
  |some c=>
   have hn:=(Ui.mp q).1;rw[x.same n hn];exact e
 |_=>exact e
def fO{r:List Int}{k:Nat}(h:k<r.length):d_ (aB r) (k:Int)=some (.int (r.getD k 0)):=by
 refine iS ?_;rw[UB,Uv h,Mx.aG h];rfl
def getD_mem{r:List Int}{k:Nat}(h:k<r.length):r.getD k 0∈r:=by rw[Mx.aG h];exact UL _
def bK.at{st:ag}{ds:List D}{A:List (List Int)}{k:Nat}(h:bK st ds A)(hk:k<A.length):∃d,d_ ds (k:Int)=some d/\items? st d=some (aB (A.getD k [])):=by
 have hl:=h.len;have e:ds[k]?=some ds[k]:=Uv (by omega);obtain⟨r,er,hr⟩:=h.get e;refine⟨ds[k],iS e,?_⟩;rw[Mx.aG hk];rw[Uv hk]at er;cases er;exact hr
def ints_app{r:List Int}{x:Int}:aB r++[D.int x]=aB (r++[x]):=by simp[aB]
def Ka{A:List (List Int)}{r:List Int}:A.map aY++[aY r]=(A++[r]).map aY:=by simp
def p9{r s:List Int}{d:D}(h:d∈gd (aB r) (aB s)):∃a b,a∈r/\b∈s/\d= .tup [.int a,.int b]:=by
 obtain⟨n,hn,e⟩:=UD.mp h;have e':(gd (aB r) (aB s))[n]?=some d:=by rw[Uv hn,e]
 obtain⟨x,y,ex,ey,rfl⟩:=tW e';rw[UB]at ex ey;cases q1:r[n]? with
 |none=>rw[q1]at ex;cases ex
 |some a=>
  cases q2:s[n]? with
  |none=>rw[q2]at ey;cases ey
  |some b=>
   rw[q1]at ex;rw[q2]at ey;cases ex;cases ey;exact⟨a,b,UO q1,UO q2,rfl⟩
def xQ(n:Nat):(List.replicate n [D.int 0]).flatten=aB (List.replicate n 0):=by
 induction n with
 |zero=>rfl
 |succ n ih=>rw[Vn,VV,ih];rfl
def Ac:∀r:List Int,(aB r).map (λ x=>match x with| .int i=>i|_=>0)=r
 | []=>rfl
 |a::r=>by rw[aB,UY,UY,Ac r]
def IW{d:D}{ds:List D}:d_ (d::ds) 0=some d:=iS (j:=0) rfl
def intsOf(st:ag)(d:D):List Int:=match items? st d with
 |some xs=>xs.map λ x=>match x with| .int i=>i|_=>0
 |none=>[]
def qQ{st:ag}{d:D}{r:List Int}(h:items? st d=some (aB r)):intsOf st d=r:=by
 unfold intsOf;rw[h];exact Ac r
def IF{x y:D}{xs ys:List D}:gd (x::xs) (y::ys)= .tup [x,y]::gd xs ys:=rfl
def Ny{n:Nat}{r:List Int}:(aB r).all (pl n)=true:=by
 refine UW.mpr λ d hd=>?_;obtain⟨i,_,rfl⟩:=UI.mp hd;cases n<;>rfl
def aL:Addr:=253
abbrev gG(b:Bool):Cell:=Cell.tab 233 ⟨126,32,126,66⟩ "Bench.live_rows.<locals>.<lambda>" b
abbrev Qb:List (Addr×Pos×Str):=[(233,⟨126,32,126,66⟩,"Bench.live_rows.<locals>.<lambda>")]
def rL:cy:=λ ds st K=>∃d,ds=[d]/\Any st d/\K (.bl (isInt d)) st
def nJ:List Str:=["thing"]
def D0:DS:=(bc (nM (bO uf (af (ae 0) (af (dC (.ty "int")) ao))) (FG (bh (bO uf (af (ae 0) (af (dC (.ty "bool")) ao)))))))
abbrev Ug(S:cy)(n:Nat)(P:DS)(N:List Str):Prop:=∀ds st K,S ds st K->ds.length=n/\P {nx:=λ _ st'=>K .aD st',rt:=K} (aU N ds) st
def Dd:Ug rL 1 D0 nJ:=by
 rintro ds st K ⟨d,rfl,⟨t,ht⟩,k⟩;refine⟨rfl,?_⟩;rw[<-Jv ht]at k;have hm:=sW ht;refine Dv ht (by decide) ?_;simp only[pL,UK,UU,WO]at hm;rcases hm with rfl|rfl|rfl|rfl|rfl|rfl
 . exact k
 . refine fb (Dv ht (by decide) ?_);exact k
 . refine fb (Dv ht (by decide) ?_);exact k
 . exact k
 . exact k
 . exact k
def kJ:cy:=λ ds st K=>∃d,ds=[d]/\Any st d/\K (.bl (items? st d).isSome) st
def nP:List Str:=["thing"]
def DB:DS:=(bc (bO uf (af (ae 0) (af (jC (af (dC (.ty "list")) (af (dC (.ty "tuple")) ao))) ao))))
def Cd:Ug kJ 1 DB nP:=by
 rintro ds st K ⟨d,rfl,⟨t,ht⟩,k⟩;refine⟨rfl,?_⟩;rw[<-Ij ht]at k;have hm:=sW ht;refine⟨Ux rfl,MP ht rfl (by decide) ?_⟩;simp only[pL,UK,UU,WO]at hm;rcases hm with rfl|rfl|rfl|rfl|rfl|rfl<;>exact k
def gm:cy:=λ ds st K=>∃d m,ds=[d,.int m]/\Any st d/\K (.bl (match items? st d with|some xs=>decide ((xs.length:Int)=m)|none=>false)) st
def ko:List Str:=["thing","many"]
def zl:DS:=(bc (nM (ay kJ (af (ae 0) ao)) (aw iW (bO dF (af (ae 0) ao)) (ae 1))))
def yP:Ug gm 2 zl ko:=by
 rintro ds st K ⟨d,m,rfl,ha,k⟩;refine⟨rfl,?_⟩;cases e:items? st d with
 |none=>
  rw[e]at k;exact⟨d,rfl,ha,by rw[e];exact k⟩
 |some xs=>
  rw[e]at k;refine⟨d,rfl,ha,?_⟩;rw[e];refine fb (cJ e (CP ?_));exact k
def gL:cy:=λ ds st K=>∃d m,ds=[d,.int m]/\Thing st d/\K (.bl (iK st d m)) st
def k6:List Str:=["thing","many"]
def AQ:DS:=(bc (nM (ay gm (af (ae 0) (af (ae 1) ao))) (bO nz (af (cY (dZ (ae 0)) [none] (bI 0) bV (ay rL (af (ae 0) ao))) ao))))
def zO:Ug gL 2 AQ k6:=by
 rintro ds st K ⟨d,m,rfl,ha,k⟩;refine⟨rfl,?_⟩;refine⟨d,m,rfl,ha.any,?_⟩;unfold iK at k;cases e:items? st d with
 |none=>rw[e]at k;exact k
 |some xs=>
  rw[e]at k;obtain⟨h1,h2⟩:=ha.av xs e;by_cases hl:(xs.length:Int)=m
  . simp only[hl,decide_true,Xo]at k⊢;rw[Ur trivial];refine jo e λ ok aO=>?_;refine⟨h2,wN (g:=λ x=> .bl (isInt x)) aO xs [] (λ x hx K' q=>⟨_,rfl,⟨x,rfl,h1 x hx,q⟩⟩) ?_⟩;refine oA (uH xs) ?_;simpa using k
  . simp only[hl,decide_false,XO]at k⊢;exact k
def Kh{a:Int}{m:Nat}(h:a.natAbs<2^m):Builtin.Int.intBits a<=m:=by
 unfold Builtin.Int.intBits;by_cases h0:a.natAbs=0
 . have:a=0:=by omega
   subst this;simp
 . have:=(Nat.log2_lt h0).mpr h;split<;>omega
def ef{a b:Int}{m n:Nat}(ha:a.natAbs<=2^m)(hb:b.natAbs<=2^n)(h:m+n<=130000000):IntMulOk a b:=by
 have q:∀ {x:Int} {k:Nat},x.natAbs<=2^k->Builtin.Int.intBits x<=k+1:=λ{x k} h=>Kh (Nat.lt_of_le_of_lt h (Nat.pow_lt_pow_right (by decide) (UZ k)));have h1:=q ha;have h2:=q hb;have e:(2:Nat)^27=134217728:=by decide
 have z:Builtin.Int.intTooBig (Builtin.Int.intBits a+Builtin.Int.intBits b)=false:=by
  unfold Builtin.Int.intTooBig bitsLine;exact UQ (by omega)
 unfold IntMulOk;rw[z];simp
def tw:cy:=λ ds st K=>∃a b,ds=[.int a,.int b]/\K (.int ((Nat.gcd a.natAbs b.natAbs:Nat):Int)) st
def tY:List Str:=["one","other","great","small","rest"]
def J9:DS:=(aJ (bo 2 (bO sV (af (ae 0) ao)))
 (aJ (bo 3 (bO sV (af (ae 1) ao)))
 (aJ (va (bh (aw vb (ae 3) (dC (.int 0)))) (aJ (bo 4 (aw iC (ae 2) (ae 3)))
 (aJ (bo 2 (ae 3))
 (bo 3 (ae 4)))))
 (bc (ae 2)))))
def JK(a b:Nat):(a:Int).fmod (b:Int)=((a%b:Nat):Int):=by
 rw[Yg _ (WL b)];exact(Int.natCast_emod a b).symm
def Iy:Ug tw 2 J9 tY:=by
 rintro ds st K ⟨a,b,rfl,k⟩;refine⟨rfl,?_⟩;refine u9 (u9 ?_);refine⟨λ m σ st'=>∃(g s:Nat) (r:Option D),σ=[some (.int a),some (.int b),some (.int g),some (.int s),r]/\st'=st/\Nat.gcd g s=Nat.gcd a.natAbs b.natAbs/\s=m,⟨b.natAbs,a.natAbs,b.natAbs,none,?_,rfl,rfl,rfl⟩,?_⟩
 . rfl
 . rintro m σ st' ⟨g,s,r,rfl,rfl,hg,rfl⟩;refine ne2 (λ h=>fb ?_) λ h=>?_
   . refine md h ⟨g%s,Nat.mod_lt _ (by omega),s,g%s,some (.int ((g%s:Nat):Int)),?_,rfl,?_,rfl⟩
     . rw[JK];rfl
     . rw[Y8,<-Nat.gcd_rec,Y8];exact hg
   . have:s=0:=by omega
     subst this;rw[Nat.gcd_zero_right]at hg;subst hg;exact k
abbrev iz(q:Rat):D:= .tup [.int q.num,.int ((q.den:Nat):Int)]
def qj:cy:=λ ds st K=>∃(t b:Int),ds=[.int t,.int b]/\b≠0/\K (iz (Rat.divInt t b)) st
def yl:List Str:=["top","bottom","shrink"]
def NT:DS:=(aJ (bo 2 (ay tw (af (ae 0) (af (ae 1) ao))))
 (aJ (dz (bh (aw oR (ae 1) (dC (.int 0)))) (bo 2 (oS jJ (ae 2))) de)
 (bc (jC (af (aw mG (ae 0) (ae 2)) (af (aw mG (ae 1) (ae 2)) ao))))))
def uZ{g t:Int}(hg:g≠0)(h:g∣t):t.fdiv (-g)=(-1*t).fdiv g:=by
 obtain⟨c,rfl⟩:=h
 have e1:(g*c).fdiv (-g)= -c:=by
  have:g*c=(-g)*(-c):=by rw[Int.neg_mul_neg]
  rw[this,YC _ (by omega)]
 have e2:(-1*(g*c)).fdiv g= -c:=by
  have: -1*(g*c)=g*(-c):=by rw[WX,V0,Int.mul_neg]
  rw[this,YC _ hg]
 rw[e1,e2]
def GY(t b:Int):((Nat.gcd t.natAbs b.natAbs:Nat):Int)∣t:=Int.ofNat_dvd_left.mpr (Nat.gcd_dvd_left _ _)
def Ig(t b:Int):((Nat.gcd t.natAbs b.natAbs:Nat):Int)∣b:=Int.ofNat_dvd_left.mpr (Nat.gcd_dvd_right _ _)
def Nu{t b:Int}(hb:b≠0):D.tup [.int (((if b<0 then(-1:Int)else 1)*t).fdiv ((Nat.gcd t.natAbs b.natAbs:Nat):Int)),.int (((if b<0 then(-1:Int)else 1)*b).fdiv ((Nat.gcd t.natAbs b.natAbs:Nat):Int))]=iz (Rat.divInt t b):=by
 unfold iz;have hg:(b.gcd t:Nat)=Nat.gcd t.natAbs b.natAbs:=by unfold Int.gcd;rw[Y8]
 have hs:(if b<0 then(-1:Int)else 1)=b.sign:=by
  rcases Int.lt_trichotomy b 0 with h|h|h
  . rw[Ur h,Int.sign_eq_neg_one_of_neg h]
  . exact absurd h hb
  . rw[Up (by omega),Int.sign_eq_one_of_pos h]
 have e1:(Rat.divInt t b).num=((if b<0 then(-1:Int)else 1)*t).fdiv ((Nat.gcd t.natAbs b.natAbs:Nat):Int):=by
  rw[Rat.num_divInt,hs,hg,VJ _ (WL _)]
 have e2:(((Rat.divInt t b).den:Nat):Int)=((if b<0 then(-1:Int)else 1)*b).fdiv ((Nat.gcd t.natAbs b.natAbs:Nat):Int):=by
  rw[Rat.den_divInt,Up hb,hs,hg,VJ _ (WL _),Int.natCast_ediv];congr 1;rw[Int.sign_mul_self]
 rw[e1,e2]
def Mg:Ug qj 2 NT yl:=by
 rintro ds st K ⟨t,b,rfl,hb,k⟩;refine⟨rfl,?_⟩;refine⟨t,b,rfl,?_⟩
 have hg0:Nat.gcd t.natAbs b.natAbs≠0:=λ z=>by
  have:=Nat.eq_zero_of_gcd_eq_zero_right z;omega
 have hne:((Nat.gcd t.natAbs b.natAbs:Nat):Int)≠0:=by omega
 rw[<-Nu hb]at k;refine zY (λ h=>fb ?_) λ h=>?_
 . rw[Ur h,<-uZ hne (GY t b),<-uZ hne (Ig t b)]at k;exact iP (lI (by omega) (lI (by omega) ⟨Ux rfl,k⟩))
 . rw[Up (by omega),V0,V0]at k;exact lI hne (lI hne ⟨Ux rfl,k⟩)
structure Fq(st:ag)(d:D)(q:Rat)(m:Nat):Prop where
 av:items? st d=some [.int q.num,.int ((q.den:Nat):Int)]
 sz:Mx.Sz q m
def Fq.b{st:ag}{d:D}{q:Rat}{m:Nat}(h:Fq st d q m):(((q.den:Nat):Int)).natAbs<=2^m:=h.sz.den
def Fq.of{st:ag}{q:Rat}{m:Nat}(h:Mx.Sz q m):Fq st (iz q) q m:=⟨rfl,h⟩
def Dt:cy:=λ ds st K=>∃x y p q a b,ds=[x,y]/\Fq st x p a/\Fq st y q b/\a+b<=130000000/\K (iz (p+q)) st
def yK:List Str:=["one","other"]
def P0:DS:=(bc (ay qj (af (aw dD (aw dh (aw aW (ae 0) (dC (.int 0))) (aw aW (ae 1) (dC (.int 1)))) (aw dh (aw aW (ae 1) (dC (.int 0))) (aw aW (ae 0) (dC (.int 1))))) (af (aw dh (aw aW (ae 0) (dC (.int 1))) (aw aW (ae 1) (dC (.int 1)))) ao))))
def LM:Ug Dt 2 P0 yK:=by
 rintro ds st K ⟨x,y,p,q,a,b,rfl,X,Y,h,k⟩;refine⟨rfl,?_⟩;have h':b+a<=130000000:=by omega
 rw[Mx.add_eq]at k;exact aA X.av rfl (aA Y.av rfl (dH (ef X.sz.num Y.b h) (aA Y.av rfl (aA X.av rfl (dH (ef Y.sz.num X.b h') (fz (aA X.av rfl (aA Y.av rfl (dH (ef X.b Y.b h) ⟨_,_,rfl,V9 (Mx.den_nz p) (Mx.den_nz q),k⟩)))))))))
def zV:cy:=λ ds st K=>∃x y p q a b,ds=[x,y]/\Fq st x p a/\Fq st y q b/\a+b<=130000000/\K (iz (p-q)) st
def vI:List Str:=["one","other"]
def MB:DS:=(bc (ay qj (af (aw m9 (aw dh (aw aW (ae 0) (dC (.int 0))) (aw aW (ae 1) (dC (.int 1)))) (aw dh (aw aW (ae 1) (dC (.int 0))) (aw aW (ae 0) (dC (.int 1))))) (af (aw dh (aw aW (ae 0) (dC (.int 1))) (aw aW (ae 1) (dC (.int 1)))) ao))))
def Kf:Ug zV 2 MB vI:=by
 rintro ds st K ⟨x,y,p,q,a,b,rfl,X,Y,h,k⟩;refine⟨rfl,?_⟩;have h':b+a<=130000000:=by omega
 rw[Mx.sub_eq]at k;exact aA X.av rfl (aA Y.av rfl (dH (ef X.sz.num Y.b h) (aA Y.av rfl (aA X.av rfl (dH (ef Y.sz.num X.b h') (qu (aA X.av rfl (aA Y.av rfl (dH (ef X.b Y.b h) ⟨_,_,rfl,V9 (Mx.den_nz p) (Mx.den_nz q),k⟩)))))))))
def zI:cy:=λ ds st K=>∃x y p q a b,ds=[x,y]/\Fq st x p a/\Fq st y q b/\a+b<=130000000/\K (iz (p*q)) st
def vE:List Str:=["one","other"]
def Nk:DS:=(bc (ay qj (af (aw dh (aw aW (ae 0) (dC (.int 0))) (aw aW (ae 1) (dC (.int 0)))) (af (aw dh (aw aW (ae 0) (dC (.int 1))) (aw aW (ae 1) (dC (.int 1)))) ao))))
def Kw:Ug zI 2 Nk vE:=by
 rintro ds st K ⟨x,y,p,q,a,b,rfl,X,Y,h,k⟩;refine⟨rfl,?_⟩;rw[Mx.mul_eq]at k;exact aA X.av rfl (aA Y.av rfl (dH (ef X.sz.num Y.sz.num h) (aA X.av rfl (aA Y.av rfl (dH (ef X.b Y.b h) ⟨_,_,rfl,V9 (Mx.den_nz p) (Mx.den_nz q),k⟩)))))
def BP:cy:=λ ds st K=>∃x y p q a b,ds=[x,y]/\Fq st x p a/\Fq st y q b/\a+b<=130000000/\q.num≠0/\K (iz (p/q)) st
def yR:List Str:=["one","other"]
def Pc:DS:=(bc (ay qj (af (aw dh (aw aW (ae 0) (dC (.int 0))) (aw aW (ae 1) (dC (.int 1)))) (af (aw dh (aw aW (ae 0) (dC (.int 1))) (aw aW (ae 1) (dC (.int 0)))) ao))))
def LN:Ug BP 2 Pc yR:=by
 rintro ds st K ⟨x,y,p,q,a,b,rfl,X,Y,h,hq,k⟩;refine⟨rfl,?_⟩;rw[Mx.div_eq]at k;exact aA X.av rfl (aA Y.av rfl (dH (ef X.sz.num Y.b h) (aA X.av rfl (aA Y.av rfl (dH (ef X.b Y.sz.num h) ⟨_,_,rfl,V9 (Mx.den_nz p) hq,k⟩)))))
def mS:cy:=λ ds st K=>∃n:Int,ds=[.int n]/\K (iz (n:Rat)) st
def vR:List Str:=["n"]
def Mv:DS:=(bc (jC (af (ae 0) (af (dC (.int 1)) ao))))
def JD:Ug mS 1 Mv vR:=by
 rintro ds st K ⟨n,rfl,k⟩;exact⟨rfl,Ux rfl,k⟩
def uO:cy:=λ ds st K=>∃q:Rat,ds=[iz q]/\K (.bl true) st
def rl:List Str:=["thing"]
def Ia:DS:=(bc (nM (ay gL (af (ae 0) (af (dC (.int 2)) ao))) (nM (aw uu (aw aW (ae 0) (dC (.int 1))) (dC (.int 0))) (aw iW (ay tw (af (aw aW (ae 0) (dC (.int 0))) (af (aw aW (ae 0) (dC (.int 1))) ao))) (dC (.int 1))))))
def Gg{st:ag}{r:List Int}(h:r.length<=1000):Thing st (aY r):=⟨⟨_,rfl⟩,λ xs hx=>by
 have e:xs=aB r:=by cases hx;rfl
 subst e;refine⟨λ x hx=>?_,bL (by rw[Uh];exact h)⟩;obtain⟨i,_,rfl⟩:=UI.mp hx;exact⟨_,rfl⟩⟩
def Fs:Ug uO 1 Ia rl:=by
 rintro ds st K ⟨q,rfl,k⟩;refine⟨rfl,?_⟩;refine⟨_,2,rfl,Gg (r:=[q.num,((q.den:Nat):Int)]) (Ux rfl),?_⟩;have hd:=q.den_pos;refine fb (aA rfl rfl (RY (by omega) (fb (aA rfl rfl (aA rfl rfl ⟨_,_,rfl,?_⟩)))));have hg:Nat.gcd q.num.natAbs ((q.den:Nat):Int).natAbs=1:=q.reduced;rw[hg];exact eqT rfl k
def qK:cy:=λ ds st K=>∃(d:D) (A:List (List Int)),ds=[d]/\fv st d A/\A.length<=1000/\K (bQ A) st
def qO:List Str:=["rows"]
def G9:DS:=(bc (bO dA (af (cY (dZ (ae 0)) [none] (bI 0) bV (bO dA (af (ae 0) ao))) ao)))
def pf{tg:fS}{te:DE}{ok:ag->Prop}{σc:cf}{st:ag}{K:List D->ag->Prop}{ds:List D}{A:List (List Int)}(f:List Int->D)(aO:ok st)(hr:bK st ds A)(hx:∀d r,r∈A->items? st d=some (aB r)->∀K',K' (f r) st->∃σ2,tg d σc=some σ2/\te σ2 st K')(k:K (A.map f) st):dv tg bV te ok σc ds [] st K:=by
 refine ib (λ rest acc st'=>∃(A1 A2:List (List Int)),st=st'/\A1++A2=A/\bK st rest A2/\acc=A1.map f) ?_ ?_ _ _ _ ⟨[],A,rfl,rfl,hr,rfl⟩
 . rintro acc st' ⟨A1,A2,rfl,he,h,rfl⟩;match A2,h with
   | [],_=>
     rw[VW]at he;subst he;exact⟨aO,k⟩
 . rintro d rest acc st' ⟨A1,A2,rfl,he,h,rfl⟩ next
   match A2,h with
   |r::A2,h=>
    obtain⟨σ2,e2,q⟩:=hx d r (by rw[<-he];simp) h.1 (λ y st2=>dv tg bV te ok σc rest (A1.map f++[y]) st2 K) (next _ _ ⟨A1++[r],A2,rfl,by rw[<-he];simp,h.2,by simp⟩);exact⟨aO,σ2,e2,q⟩
def Gm:Ug qK 1 G9 qO:=by
 rintro ds st K ⟨d,A,rfl,⟨da,hd,ra⟩,hl,k⟩;refine⟨rfl,?_⟩;refine jo hd λ ok aO=>⟨bL (by rw[ra.len];exact hl),?_⟩
 refine pf aY aO ra (λ e r hr he K' q=>⟨_,rfl,c8 he q⟩) ?_;exact c8 rfl k
def mX:cy:=λ ds st K=>∃x y t r s,ds=[x,.int t,y]/\items? st x=some (aB r)/\items? st y=some (aB s)/\r.length<=1000/\(∀b∈s,IntMulOk t b)/\K (a6 (Mx.d9 r t s)) st
def vY:List Str:=["row","times","other"]
def MC:DS:=(bc (cY (qi (af (ae 0) (af (ae 2) ao))) [none,none,some 1] (f_ 0 1) bV (aw dD (ae 0) (aw dh (ae 2) (ae 1)))))
def vm{t:Int}:∀(r s:List Int),(gd (aB r) (aB s)).map (λ d=>match d with| .tup [.int a,.int b]=> .int (a+t*b)|_=> .aD)=aB (Mx.d9 r t s)
 | [],_=>rfl
 |_::_,[]=>rfl
 |a::r,b::s=>by
  have:=vm (t:=t) r s;unfold gd Mx.d9 at this⊢;simp only[aB,UY,List.zip_cons_cons,YQ]at this⊢;rw[this]
def J3:Ug mX 3 MC vY:=by
 rintro ds st K ⟨x,y,t,r,s,rfl,hx,hy,hl,hm,k⟩;refine⟨rfl,?_⟩;refine oC hx hy λ ok aO=>⟨bL (by rw[ll];simp;omega),?_⟩
 refine comp_map (g:=λ d=>match d with| .tup [.int a,.int b]=> .int (a+t*b)|_=> .aD) (aO st hx hy) _ (λ d hd K' q=>?_) ?_
 . obtain⟨a,b,ha,hb,rfl⟩:=p9 hd;exact⟨_,rfl,dH (hm b hb) (fz q)⟩
 . rw[vm];exact k
def sZ:cy:=λ ds st K=>∃(x y:D) (n:Nat) (ws:List Int) (A:List (List Int)),ds=[x,y,.int n]/\items? st x=some (aB ws)/\fv st y A/\(∀r∈A,r.length=n)/\n<=1000/\(∀w∈ws,∀r∈A,∀b∈r,IntMulOk w b)/\K (aY (Mx.e_ ws A (List.replicate n 0))) st
def t6:List Str:=["weights","rows","wide","total","weight","row"]
def JZ:DS:=(aJ (bo 3 (aw dh (uD (af (dC (.int 0)) ao)) (ae 2)))
 (aJ (jd (qi (af (ae 0) (af (ae 1) ao))) (f_ 4 5) (bo 3 (ay mX (af (ae 3) (af (ae 4) (af (ae 5) ao))))))
 (bc (bO dA (af (ae 3) ao)))))
def Hb:Ug sZ 3 JZ t6:=by
 rintro ds st K ⟨x,y,n,ws,A,rfl,hx,⟨dr,hy,hr⟩,hw,hn,hm,k⟩;refine⟨rfl,?_⟩;refine OE (Ux rfl) (Nv ⟨by omega,by omega,bL (by simp;omega)⟩ ?_);rw[UJ,xQ];refine oC hx hy λ ok aO=>?_
 refine iF (λ rest σ st'=>∃(v4 v5:Option D) (ws':List Int) (ds':List D) (A':List (List Int)) (acc:List Int),st=st'/\rest=gd (aB ws') ds'/\bK st ds' A'/\σ=[some x,some y,some (.int n),some (a6 acc),v4,v5]/\acc.length=n/\(∀r∈A',r∈A)/\(∀w∈ws',w∈ws)/\Mx.e_ ws' A' acc=Mx.e_ ws A (List.replicate n 0)) ?_ ?_ _ _ _
  ⟨none,none,ws,dr,A,List.replicate n 0,rfl,rfl,hr,rfl,by simp,λ _ h=>h,λ _ h=>h,rfl⟩
 . rintro σ st1 ⟨v4,v5,ws',ds',A',acc,rfl,he,hr',rfl,hl,_,_,hs⟩;refine⟨aO _ hx hy,c8 rfl ?_⟩
   have:Mx.e_ ws' A' acc=acc:=by
    match ws',ds',A',hr',he with
    | [],_,_,_,_=>unfold Mx.e_;rfl
    |_::_,[],[],_,_=>unfold Mx.e_;rfl
    |_::_,_::_,_::_,_,he=>cases he
   rw[this]at hs;rw[hs];exact k
 . rintro d rest σ st1 ⟨v4,v5,ws',ds',A',acc,rfl,he,hr',rfl,hl,ha,hw',hs⟩ next
   match ws',ds',A',hr',he with
   |w::ws',e::ds',r::A',hr',he=>
    simp only[aB,UY,IF,W0]at he;obtain⟨rfl,rfl⟩:=he;refine⟨aO _ hx hy,_,rfl,?_⟩;have hrl:=hw r (ha r UP);refine⟨_,_,_,acc,r,rfl,rfl,hr'.1,by omega,λ b hb=>hm w (hw' w UP) r (ha r UP) b hb,?_⟩;refine next _ _ ⟨_,_,ws',ds',A',Mx.d9 acc w r,rfl,rfl,hr'.2,rfl,by rw[Mx.nc (by omega)];exact hl,λ q hq=>ha q (UG _ hq),λ q hq=>hw' q (UG _ hq),?_⟩
    rw[<-hs];rfl
   | [],_,_,_,he=>cases he
   |_::_,[],[],_,he=>cases he
def qS:cy:=λ ds st K=>∃(x y:D) (n:Nat) (A B:List (List Int)),ds=[x,y]/\fv st x A/\fv st y B/\B≠ []/\(∀r∈B,r.length=n)/\n<=1000/\A.length<=1000/\(∀w∈A,∀c∈w,∀r∈B,∀b∈r,IntMulOk c b)/\K (bQ (Mx.mulM A B n)) st
def rB:List Str:=["one","other","wide"]
def HW:DS:=(aJ (bo 2 (bO dF (af (aw aW (ae 1) (dC (.int 0))) ao)))
 (bc (bO dA (af (cY (dZ (ae 0)) [none,some 1,some 2] (bI 0) bV (ay sZ (af (ae 0) (af (ae 1) (af (ae 2) ao))))) ao))))
def BE{st:ag}{n:Nat}{B:List (List Int)}{f:D->D}:∀ {ds:List D} {A:List (List Int)},bK st ds A->(∀d r,items? st d=some (aB r)->f d=aY (Mx.e_ r B (List.replicate n 0)))->ds.map f=(Mx.mulM A B n).map aY
 | [],[],_,_=>rfl
 |d::ds,r::A,h,hf=>by
  rw[UY,hf d r h.1,BE h.2 hf];rfl
def FI:Ug qS 2 HW rB:=by
 rintro ds st K ⟨x,y,n,A,B,rfl,⟨da,hx,ra⟩,hy,hB,hw,hn,hl,hm,k⟩;refine⟨rfl,?_⟩;obtain⟨db,ey,rb⟩:=hy.ex;match B,db,rb,hB,hw,hm,hy,k,ey with
 |r0::B,d0::db,rb,_,hw,hm,hy,k,ey=>
  have h0:r0.length=n:=hw r0 UP;refine aA ey IW (cJ rb.1 ?_);rw[Uh,h0];refine jo hx λ ok aO=>⟨bL (by rw[ra.len];exact hl),?_⟩
  refine comp_map (g:=λ d=>aY (Mx.e_ (intsOf st d) (r0::B) (List.replicate n 0))) aO da (λ d hd K' q=>?_) ?_
  . obtain⟨i,hi,ed⟩:=UD.mp hd;obtain⟨r,er,hr⟩:=ra.get (i:=i) (d:=d) (by rw[Uv hi,ed]);refine⟨_,rfl,d,y,n,r,r0::B,rfl,hr,hy,hw,hn,λ c hc=>hm r (UO er) c hc,?_⟩;rw[qQ hr]at q;exact q
  . refine c8 rfl ?_;rw[BE ra (n:=n) (B:=r0::B) λ d r h=>by rw[qQ h]];exact k
 |_::_,[],rb,_,_,_,_,_,_=>exact rb.elim
def xg:cy:=λ ds st K=>∃(d:D) (A:List (List Int)) (j:Nat),ds=[d,.int j]/\fv st d A/\(∀r∈A,j<r.length)/\A.length<=1000/\K (aY (Mx.qh A j)) st
def tM:List Str:=["rows","place"]
def Jp:DS:=(bc (bO dA (af (cY (dZ (ae 0)) [none,some 1] (bI 0) bV (aw aW (ae 0) (ae 1))) ao)))
def qT{tg:fS}{te:DE}{ok:ag->Prop}{σc:cf}{st:ag}{K:List D->ag->Prop}{ds:List D}{A:List (List Int)}(f:List Int->D)(aO:ok st)(hr:bK st ds A)(hx:∀d r,r∈A->items? st d=some (aB r)->∀K',K' (f r) st->∃σ2,tg d σc=some σ2/\te σ2 st K')(k:K (A.map f) st):dv tg bV te ok σc ds [] st K:=by
 refine ib (λ rest acc st'=>∃(A1 A2:List (List Int)),st=st'/\A1++A2=A/\bK st rest A2/\acc=A1.map f) ?_ ?_ _ _ _ ⟨[],A,rfl,rfl,hr,rfl⟩
 . rintro acc st' ⟨A1,A2,rfl,he,h,rfl⟩;match A2,h with
   | [],_=>
     rw[VW]at he;subst he;exact⟨aO,k⟩
 . rintro d rest acc st' ⟨A1,A2,rfl,he,h,rfl⟩ next
   match A2,h with
   |r::A2,h=>
    obtain⟨σ2,e2,q⟩:=hx d r (by rw[<-he];simp) h.1 (λ y st2=>dv tg bV te ok σc rest (A1.map f++[y]) st2 K) (next _ _ ⟨A1++[r],A2,rfl,by rw[<-he];simp,h.2,by simp⟩);exact⟨aO,σ2,e2,q⟩
def AG(A:List (List Int))(j:Nat):A.map (λ r=>D.int (r.getD j 0))=aB (Mx.qh A j):=by unfold Mx.qh aB;rw[Vb];rfl
def GQ:Ug xg 2 Jp tM:=by
 rintro ds st K ⟨d,A,j,rfl,⟨da,hd,ra⟩,hj,hl,k⟩;refine⟨rfl,?_⟩;refine jo hd λ ok aO=>⟨bL (by rw[ra.len];exact hl),?_⟩
 refine qT (λ r=> .int (r.getD j 0)) aO ra (λ e r hr he K' q=>⟨_,rfl,aA he (fO (hj r hr)) q⟩) ?_;rw[AG];exact c8 rfl k
def gH:cy:=λ ds st K=>∃(d:D) (A:List (List Int)) (n:Nat),ds=[d,.int n]/\fv st d A/\(∀r∈A,r.length=n)/\A.length<=1000/\n<=1000/\K (bQ (Mx.dg A n)) st
def kU:List Str:=["rows","wide"]
def AV:DS:=(bc (bO dA (af (cY (eg (af (ae 1) ao)) [none,some 0] (bI 0) bV (ay xg (af (ae 1) (af (ae 0) ao)))) ao)))
def JX(A:List (List Int))(n:Nat):(List.range n).map (λ j=>aY (Mx.qh A j))=(Mx.dg A n).map aY:=by unfold Mx.dg;rw[Vb];rfl
def zP:Ug gH 2 AV kU:=by
 rintro ds st K ⟨d,A,n,rfl,hd,hw,hl,hn,k⟩;refine⟨rfl,?_⟩;refine ft ⟨by omega,by omega⟩ ⟨bL (by rw[cE];omega),?_⟩;rw[UJ];refine kr (λ j=>aY (Mx.qh A j)) n (λ i hi K' q=>⟨_,rfl,d,A,i,rfl,hd,λ r hr=>by rw[hw r hr];exact hi,hl,q⟩) ?_;rw[JX];exact c8 rfl k
def td:cy:=λ ds st K=>∃(n i:Nat),ds=[.int n,.int i]/\n<=1000/\K (aY (Mx.eZ n i)) st
def pj:List Str:=["n","place"]
def FF:DS:=(bc (bO dA (af (cY (eg (af (ae 0) ao)) [none,some 1] (bI 0) bV (Iv (bh (aw iW (ae 0) (ae 1))) (dC (.int 1)) (dC (.int 0)))) ao)))
def D8:Ug td 2 FF pj:=by
 rintro ds st K ⟨n,i,rfl,hn,k⟩;refine⟨rfl,?_⟩;refine ft ⟨by omega,by omega⟩ ⟨bL (by rw[cE];omega),?_⟩;rw[UJ];refine kr (λ j=> .int (Mx.dl j i)) n (λ j hj K' q=>⟨_,rfl,?_⟩) ?_
 . refine eq2 (λ h=>fb ?_) λ h=>?_
   . have:j=i:=by omega
     subst this;rw[Mx.fu]at q;exact q
   . rw[Mx.fG (by omega)]at q;exact q
 . have:(List.range n).map (λ j=>D.int (Mx.dl j i))=aB (Mx.eZ n i):=by unfold Mx.eZ aB;rw[Vb];rfl
   rw[this];exact c8 rfl k
def kO:cy:=λ ds st K=>∃(n:Nat),ds=[.int n]/\n<=1000/\K (bQ (Mx.units n)) st
def nG:List Str:=["n"]
def D7:DS:=(bc (bO dA (af (cY (eg (af (ae 0) ao)) [none,some 0] (bI 0) bV (ay td (af (ae 1) (af (ae 0) ao)))) ao)))
def BF:Ug kO 1 D7 nG:=by
 rintro ds st K ⟨n,rfl,hn,k⟩;refine⟨rfl,?_⟩;refine ft ⟨by omega,by omega⟩ ⟨bL (by rw[cE];omega),?_⟩;rw[UJ];refine kr (λ i=>aY (Mx.eZ n i)) n (λ i hi K' q=>⟨_,rfl,n,i,rfl,hn,q⟩) ?_;have:(List.range n).map (λ i=>aY (Mx.eZ n i))=(Mx.units n).map aY:=by unfold Mx.units;rw[Vb];rfl
 rw[this];exact c8 rfl k
def Bm:cy:=λ ds st K=>∃(x y:D) (r s:List Int),ds=[x,y]/\items? st x=some (aB r)/\items? st y=some (aB s)/\r.length<=1000/\(∀a∈r,∀b∈s,IntMulOk a b)/\K (.int (Mx.jH r s)) st
def Bq:List Str:=["one","other"]
def QH:DS:=(bc (bO zM (af (cY (qi (af (ae 0) (af (ae 1) ao))) [none,none] (f_ 0 1) bV (aw dh (ae 0) (ae 1))) ao)))
def EJ:∀(r s:List Int),∃ns:List Int,(gd (aB r) (aB s)).map (λ d=>match d with| .tup [.int a,.int b]=> .int (a*b)|_=> .aD)=aB ns/\ns.sum=Mx.jH r s
 | [],_=>⟨[],rfl,rfl⟩
 |_::_,[]=>⟨[],rfl,rfl⟩
 |a::r,b::s=>by
  obtain⟨ns,h1,h2⟩:=EJ r s;refine⟨a*b::ns,?_,?_⟩
  . have e:gd (aB (a::r)) (aB (b::s))= .tup [.int a,.int b]::gd (aB r) (aB s):=rfl;rw[e,UY,h1];rfl
  . rw[List.sum_cons,h2];rfl
def Gz:Ug Bm 2 QH Bq:=by
 rintro ds st K ⟨x,y,r,s,rfl,hx,hy,hl,hm,k⟩;refine⟨rfl,?_⟩;refine oC hx hy λ ok aO=>⟨bL (by rw[ll];simp;omega),?_⟩
 obtain⟨ns,h1,h2⟩:=EJ r s;refine comp_map (g:=λ d=>match d with| .tup [.int a,.int b]=> .int (a*b)|_=> .aD) (aO st hx hy) _ (λ d hd K' q=>?_) ?_
 . obtain⟨a,b,ha,hb,rfl⟩:=p9 hd;exact⟨_,rfl,dH (hm a ha b hb) q⟩
 . rw[h1];refine Oz (ints_map _) ?_;rw[h2];exact k
structure sL(st:ag)(d:D):Prop where
 any:Any st d
 av:∀xs,items? st d=some xs->(∀x∈xs,Thing st x)/\xs.length<=sizeLine
def sR(n:Nat)(m:D):Bool:=match m with
 | .int i=>decide ((n:Int)=i)
 |_=>true
def fZ(st:ag)(d m:D)(w:Int):Bool:=match items? st d with
 |some xs=>sR xs.length m&&xs.all λ r=>iK st r w
 |none=>false
def lZ:cy:=λ ds st K=>∃d m w,ds=[d,m,.int w]/\sL st d/\(m= .aD\/∃i,m= .int i)/\K (.bl (fZ st d m w)) st
def og:List Str:=["thing","many","wide"]
def HU:DS:=(aJ (dz (f7 (bh (ay kJ (af (ae 0) ao)))) (bc (dC (.bl false))) de)
 (aJ (dz (uc (bh (aw tN (ae 1) (dC .aD))) (bh (aw vb (bO dF (af (ae 0) ao)) (ae 1)))) (bc (dC (.bl false))) de)
 (bc (bO nz (af (cY (dZ (ae 0)) [none,some 2] (bI 0) bV (ay gL (af (ae 0) (af (ae 1) ao)))) ao)))))
def DC{st:ag}{d m:D}{w:Int}(e:items? st d=none):fZ st d m w=false:=by unfold fZ;rw[e]
def DL{st:ag}{d m:D}{w:Int}{xs:List D}(e:items? st d=some xs):fZ st d m w=(sR xs.length m&&xs.all λ r=>iK st r w):=by unfold fZ;rw[e]
def Gf:Ug lZ 3 HU og:=by
 rintro ds st K ⟨d,m,w,rfl,hd,hm,k⟩;refine⟨rfl,?_⟩;refine⟨d,rfl,hd.any,?_⟩;cases e:items? st d with
 |none=>rw[DC e]at k;exact k
 |some xs=>
  rw[DL e]at k;obtain⟨h1,h2⟩:=hd.av xs e
  have fin:sR xs.length m=true->bc (bO nz (af (cY (dZ (ae 0)) [none,some 2] (bI 0) bV (ay gL (af (ae 0) (af (ae 1) ao)))) ao)) {nx:=λ _ st'=>K .aD st',rt:=K} (aU og [d,m,.int w]) st:=by
   intro hk;rw[hk,Xo]at k;refine jo e λ ok aO=>⟨h2,comp_map (g:=λ r=> .bl (iK st r w)) aO xs (λ x hx K' q=>⟨_,rfl,x,w,rfl,h1 x hx,q⟩) ?_⟩
   refine oA (uH xs) ?_;simpa using k
  rcases hm with rfl|⟨i,rfl⟩
  . exact sJ rfl (fin rfl)
  . refine sJ rfl (cJ e (ne2 (λ h=>?_) λ h=>?_))
    . have:sR xs.length (.int i)=false:=UQ h;rw[this]at k;exact k
    . exact fin (U9 h)
def pD{n:Nat}{r:List Int}:pl (n+1) (aY r)=true:=by
 unfold pl;exact Ny
def xN{n:Nat}{A:List (List Int)}:pl (n+2) (bQ A)=true:=by
 unfold pl;refine UW.mpr λ d hd=>?_;obtain⟨r,_,rfl⟩:=UI.mp hd;exact pD
def As:∀(r s:List Int),fX (aB r) (aB s)=decide (r=s)
 | [],[]=>by unfold fX;rfl
 | [],_::_=>by unfold fX;rfl
 |_::_,[]=>by unfold fX;rfl
 |a::r,b::s=>by
  have ih:=As r s;unfold aB at ih⊢;rw[UY,UY];unfold fX;rw[ih];unfold cZ;by_cases h1:a=b
  . subst h1;simp
  . have:(a==b)=false:=by simpa using h1
    rw[this,XO];exact(UQ λ h=>h1 (Ws h).1).symm
def Az:∀(A B:List (List Int)),fX (A.map aY) (B.map aY)=decide (A=B)
 | [],[]=>by unfold fX;rfl
 | [],_::_=>by unfold fX;rfl
 |_::_,[]=>by unfold fX;rfl
 |a::r,b::s=>by
  have ih:=Az r s;rw[UY,UY];unfold fX;rw[ih];unfold aY cZ;rw[As];by_cases h1:a=b
  . subst h1;simp
  . rw[UQ h1,XO];exact(UQ λ h=>h1 (Ws h).1).symm
def IX(A B:List (List Int)):cZ (bQ A) (bQ B)=decide (A=B):=by
 unfold bQ cZ;exact Az A B
def rowsOf(st:ag)(d:D):List (List Int):=match items? st d with
 |some xs=>xs.map (intsOf st)
 |none=>[]
def all_ints:∀ {xs:List D},xs.all isInt=true->xs=aB (xs.map λ x=>match x with| .int i=>i|_=>0)
 | [],_=>rfl
 |x::xs,h=>by
  rw[V2,U0]at h;have ih:=all_ints h.2;cases x<;>first|(cases h.1;done)|skip
  rename_i i;show D.int i::xs=D.int i::_;rw[<-aB,<-ih]
def pR{st:ag}{r:D}{w:Int}(h:iK st r w=true):items? st r=some (aB (intsOf st r))/\((intsOf st r).length:Int)=w:=by
 unfold iK at h;cases e:items? st r with
 |none=>rw[e]at h;cases h
 |some xs=>
  rw[e]at h;simp only[U0,decide_eq_true_eq]at h;have e2:=all_ints h.2;have e3:=qQ (e.trans (VU some e2));rw[e3];exact⟨VU some e2,by rw[Uh];exact h.1⟩
def yY{st:ag}{w:Int}:∀ {xs:List D},(xs.all λ r=>iK st r w)=true->bK st xs (xs.map (intsOf st))
 | [],_=>trivial
 |x::xs,h=>by
  rw[V2,U0]at h;exact⟨(pR h.1).1,yY h.2⟩
def wI{st:ag}{d:D}{n:Nat}(h:fZ st d (.int n) n=true):fv st d (rowsOf st d)/\Mx.cj n n (rowsOf st d):=by
 unfold fZ at h;cases e:items? st d with
 |none=>rw[e]at h;cases h
 |some xs=>
  rw[e]at h;simp only[U0]at h;have e1:rowsOf st d=xs.map (intsOf st):=by unfold rowsOf;rw[e]
  rw[e1];refine⟨⟨xs,e,yY h.2⟩,⟨?_,λ r hr=>?_⟩⟩
  . have:((xs.length:Int)=(n:Int)):=of_decide_eq_true h.1;rw[Uh];omega
  . obtain⟨x,hx,rfl⟩:=UI.mp hr;have:=(pR (UW.mp h.2 x hx)).2;omega
structure xp(st:ag)(d:D):Prop where
 le:∀xs,items? st d=some xs->xs.length<=1000
 sm:∀xs,items? st d=some xs->∀x∈xs,∀ys,items? st x=some ys->∀i,D.int i∈ys->i.natAbs<=2^65000000
def xp.rows{st:ag}{d m:D}{w:Int}(h:xp st d)(hr:fZ st d m w=true):∀r∈rowsOf st d,∀c∈r,c.natAbs<=2^65000000:=λ r hr1 c hc=>by
 unfold fZ at hr;cases e:items? st d with
 |none=>rw[e]at hr;cases hr
 |some xs=>
  rw[e]at hr;simp only[U0]at hr;have e1:rowsOf st d=xs.map (intsOf st):=by unfold rowsOf;rw[e]
  rw[e1]at hr1;obtain⟨x,hx,rfl⟩:=UI.mp hr1;have e2:=(pR (UW.mp hr.2 x hx)).1;exact h.sm xs e x hx _ e2 c (UI.mpr ⟨c,hc,rfl⟩)
def KW(st:ag)(x y:D)(n:Nat):Bool:=fZ st y (.int n) n&&decide (Mx.mulM (rowsOf st x) (rowsOf st y) n=Mx.units n)
def tG:cy:=λ ds st K=>∃(x y:D) (n:Nat),ds=[x,y]/\sL st x/\sL st y/\xp st x/\xp st y/\fZ st x (.int n) n=true/\1<=n/\n<=1000/\K (.bl (KW st x y n)) st
def oW:List Str:=["turn","back","many"]
def FE:DS:=(aJ (dz (f7 (bh (ay kJ (af (ae 0) ao)))) (bc (dC (.bl false))) de)
 (aJ (bo 2 (bO dF (af (ae 0) ao)))
 (aJ (dz (mW (f7 (bh (ay lZ (af (ae 0) (af (ae 2) (af (ae 2) ao)))))) (f7 (bh (ay lZ (af (ae 1) (af (ae 2) (af (ae 2) ao))))))) (bc (dC (.bl false))) de)
 (bc (Ko (aw iW (ae 2) (dC (.int 0))) (aw iW (ay qS (af (ae 0) (af (ae 1) ao))) (ay kO (af (ae 2) ao))))))))
def Dz:Ug tG 2 FE oW:=by
 rintro ds st K ⟨x,y,n,rfl,hx,hy,sx,sy,e1,hn1,hn,k⟩;refine⟨rfl,?_⟩;obtain⟨R1,M1⟩:=wI e1;obtain⟨xs,e,rx⟩:=R1.ex;have l1:=M1.len;have lx:xs.length=n:=by rw[rx.len];exact l1
 refine⟨x,rfl,hx.any,?_⟩;rw[e];refine cJ e ?_;rw[lx];refine⟨x,_,_,rfl,hx,Or.inr ⟨_,rfl⟩,?_⟩;rw[e1];refine⟨y,_,_,rfl,hy,Or.inr ⟨_,rfl⟩,?_⟩;unfold KW at k;cases e2:fZ st y (.int n) n with
 |false=>rw[e2]at k;exact k
 |true=>
  rw[e2]at k;obtain⟨R2,M2⟩:=wI e2;have l2:=M2.len;refine Sq (by omega) ?_;have hB:rowsOf st y≠ []:=λ z=>by rw[z]at l2;simp at l2;omega
  have b1:=sx.rows e1;have b2:=sy.rows e2;refine⟨x,y,n,_,_,rfl,R1,R2,hB,M2.dO,hn,by omega,λ w hw c hc r hr b hb=>ef (b1 w hw c hc) (b2 r hr b hb) (by decide),?_⟩;refine⟨n,rfl,hn,?_⟩;refine qF xN xN ?_;rw[IX];exact k
def KN(st:ag)(x y:D)(n:Nat):Bool:=fZ st x (.int n) n&&KW st x y n
def pW:cy:=λ ds st K=>∃(x y:D) (n:Nat),ds=[x,y,.int n]/\sL st x/\sL st y/\xp st x/\xp st y/\1<=n/\n<=1000/\K (.bl (KN st x y n)) st
def mF:List Str:=["turn","back","many"]
def Dy:DS:=(bc (nM (ay lZ (af (ae 0) (af (ae 2) (af (ae 2) ao)))) (ay tG (af (ae 0) (af (ae 1) ao)))))
def A4:Ug pW 3 Dy mF:=by
 rintro ds st K ⟨x,y,n,rfl,hx,hy,sx,sy,hn1,hn,k⟩;refine⟨rfl,?_⟩;refine⟨x,_,_,rfl,hx,Or.inr ⟨_,rfl⟩,?_⟩;unfold KN at k;cases e1:fZ st x (.int n) n with
 |false=>rw[e1]at k;exact k
 |true=>
  rw[e1]at k;exact⟨x,y,n,rfl,hx,hy,sx,sy,e1,hn1,hn,k⟩
def ir:List Int->Nat->Option Nat
 | [],_=>none
 |x::xs,i=>if x=0 then ir xs (i+1)else some i
def fx(r:List Int):Option Nat:=ir r 0
def fo(r:List Int):D:=match fx r with
 |some k=> .int (k:Int)
 |none=> .aD
def gg:cy:=λ ds st K=>∃(d:D) (r:List Int),ds=[d]/\items? st d=some (aB r)/\K (fo r) st
def qD:List Str:=["row","place","number"]
def Iq:DS:=(aJ (jd (Bf (af (ae 0) ao)) (f_ 1 2) (dz (bh (aw vb (ae 2) (dC (.int 0)))) (bc (ae 1)) de))
 (bc (dC .aD)))
def Gk:Ug gg 1 Iq qD:=by
 rintro ds st K ⟨d,r,rfl,hd,k⟩;refine⟨rfl,?_⟩;refine D9 hd λ ok aO=>?_;refine iF (λ rest σ st'=>st'=st/\∃(v1 v2:Option D) (s:List Int) (i:Nat),σ=[some d,v1,v2]/\rest=g4 i (aB s)/\ir r 0=ir s i) ?_ ?_ _ _ _ ⟨rfl,none,none,r,0,rfl,rfl,rfl⟩
 . rintro σ st' ⟨rfl,v1,v2,s,i,rfl,hr,hl⟩;match s,hr with
   | [],_=>
     refine⟨aO _ hd,?_⟩;have:fo r= .aD:=by unfold fo fx;rw[hl];rfl
     rw[this]at k;exact k
 . rintro x rest σ st' ⟨rfl,v1,v2,s,i,rfl,hr,hl⟩ next
   match s,hr,hl with
   |y::s,hr,hl=>
    simp only[aB,UY,g4,W0]at hr;obtain⟨rfl,rfl⟩:=hr;refine⟨aO _ hd,_,rfl,?_⟩;refine ne2 (λ h=>fb ?_) λ h=>?_
    . have:fo r= .int (i:Int):=by unfold fo fx;rw[hl];unfold ir;rw[Up h]
      rw[this]at k;exact k
    . refine next _ _ ⟨rfl,_,_,s,i+1,rfl,rfl,?_⟩
      rw[hl];unfold ir;rw[Ur h];cases s<;>rfl
   | [],hr,_=>cases hr
def g5:List (List Int)->Int->List (List Int)->Bool
 |_,_,[]=>true
 |done,ahead,r::rest=>match fx r with
  |none=>false
  |some l=>if(l:Int)<=ahead\/r.getD l 0<0 then false else if(done.all λ a=>decide (0<=a.getD l 0)&&decide (a.getD l 0<r.getD l 0))=true then g5 (done++[r]) l rest else false
def sF(done:List (List Int))(ahead:Int)(r:List Int)(rest:List (List Int)):g5 done ahead (r::rest)=match fx r with
 |none=>false
 |some l=>if(l:Int)<=ahead\/r.getD l 0<0 then false else if(done.all λ a=>decide (0<=a.getD l 0)&&decide (a.getD l 0<r.getD l 0))=true then g5 (done++[r]) l rest else false:=rfl
def xY{g:List Int->Bool}:∀A:List (List Int),gS (A.map λ x=>D.bl (g x))=some (A.map g)
 | []=>rfl
 |x::xs=>by simp[gS,xY xs]
def Co:∀ {r:List Int} {i k:Nat},ir r i=some k->i<=k/\k<i+r.length
 | [],_,_,h=>by cases h
 |x::r,i,k,h=>by
  unfold ir at h;split at h
  . have:=Co h;simp only[UT];omega
  . cases h;simp only[UT];omega
def H_{r:List Int}{k:Nat}(h:fx r=some k):k<r.length:=by
 have:=Co (show ir r 0=some k from h);omega
def O_{d:D}{xs:List D}{lo hi:Option Int}{st:ag}{K:DK}(h:items? st d=some xs)(k:∀d',items? st d'=some (L3.cutD xs lo hi)->K d' st):kH d lo hi st K:=by
 cases d<;>try(cases h;done)
 . rename_i n;exact z8 (oj h) (k _ rfl)
 . cases h;exact Ax (k _ rfl)
 . cases h;exact gf (k _ rfl)
def bK.take{st:ag}:∀ {ds:List D} {A:List (List Int)} (k:Nat),bK st ds A->bK st (ds.take k) (A.take k)
 |_,_,0,_=>by simp[bK]
 | [],[],_+1,_=>trivial
 |_::_,_::_,k+1,h=>⟨h.1,bK.take k h.2⟩
def FZ{tg:fS}{te:DE}{ok:ag->Prop}{σc:cf}{st:ag}{K:List D->ag->Prop}{ds:List D}{A:List (List Int)}(f:List Int->D)(aO:ok st)(hr:bK st ds A)(hx:∀d r,r∈A->items? st d=some (aB r)->∀K',K' (f r) st->∃σ2,tg d σc=some σ2/\te σ2 st K')(k:K (A.map f) st):dv tg bV te ok σc ds [] st K:=by
 refine ib (λ rest acc st'=>∃(A1 A2:List (List Int)),st=st'/\A1++A2=A/\bK st rest A2/\acc=A1.map f) ?_ ?_ _ _ _ ⟨[],A,rfl,rfl,hr,rfl⟩
 . rintro acc st' ⟨A1,A2,rfl,he,h,rfl⟩;match A2,h with
   | [],_=>
     rw[VW]at he;subst he;exact⟨aO,k⟩
 . rintro d rest acc st' ⟨A1,A2,rfl,he,h,rfl⟩ next
   match A2,h with
   |r::A2,h=>
    obtain⟨σ2,e2,q⟩:=hx d r (by rw[<-he];simp) h.1 (λ y st2=>dv tg bV te ok σc rest (A1.map f++[y]) st2 K) (next _ _ ⟨A1++[r],A2,rfl,by rw[<-he];simp,h.2,by simp⟩);exact⟨aO,σ2,e2,q⟩
def E9{st:ag}:∀ {ds:List D} {A:List (List Int)} {i:Nat},bK st ds A->∀ {x:D} {rest:List D},g4 i ds=x::rest->∃d r ds' A',ds=d::ds'/\A=r::A'/\x= .tup [.int (i:Int),d]/\rest=g4 (i+1) ds'/\items? st d=some (aB r)/\bK st ds' A'
 | [],[],_,_,_,_,e=>by unfold g4 at e;cases e
 |d::ds,r::A,i,h,x,rest,e=>by
  unfold g4 at e;rw[W0]at e;exact⟨d,r,ds,A,rfl,rfl,e.1.symm,e.2.symm,h.1,h.2⟩
def BG:∀(r:List Int) (i l:Nat),(∀c,c<l->r.getD c 0=0)->r.getD l 0≠0->ir r i=some (i+l)
 | [],_,_,_,h=>(h rfl).elim
 |x::r,i,0,_,h=>by
  unfold ir;rw[Up (show¬x=0 from h)];rfl
 |x::r,i,l+1,hz,h=>by
  unfold ir;rw[Ur (show x=0 from hz 0 (Nat.zero_lt_succ _)),BG r (i+1) l (λ c hc=>hz (c+1) (YB hc)) h,Nat.add_right_comm];rfl
def yV:∀(r:List Int) (i:Nat),ir r i=none->∀c,r.getD c 0=0
 | [],_,_,_=>rfl
 |x::r,i,h,c=>by
  unfold ir at h;split at h
  . cases c with
    |zero=>assumption
    |succ c=>exact yV r (i+1) h c
  . cases h
def uL{r:List Int}{l:Nat}(h:∀c,c<l->r.getD c 0=0)(h':r.getD l 0≠0):fx r=some l:=by
 have:=BG r 0 l h h';rw[W8]at this;exact this
def kY:cy:=λ ds st K=>∃(d:D) (A:List (List Int)) (w:Nat),ds=[d]/\fv st d A/\(∀r∈A,r.length=w)/\A.length<=1000/\K (.bl (g5 [] (-1) A)) st
def kZ:List Str:=["rows","ahead","k","row","lead"]
def A6:DS:=(aJ (bo 1 (oS jJ (dC (.int 1))))
 (aJ (jd (Bf (af (ae 0) ao)) (f_ 2 3) (aJ (bo 4 (ay gg (af (ae 3) ao)))
 (aJ (dz (mW (bh (aw CI (ae 4) (dC .aD))) (mW (bh (aw E1 (ae 4) (ae 1))) (bh (aw oR (aw aW (ae 3) (ae 4)) (dC (.int 0)))))) (bc (dC (.bl false))) de)
 (aJ (dz (f7 (bh (bO nz (af (cY (dZ (hO (ae 0) iJ (gT (ae 2)))) [none,some 4,some 3] (bI 0) bV (yv E1 oR (dC (.int 0)) (aw aW (ae 0) (ae 1)) (aw aW (ae 2) (ae 1)))) ao)))) (bc (dC (.bl false))) de)
 (bo 1 (ae 4))))))
 (bc (dC (.bl true)))))
def zi:Ug kY 1 A6 kZ:=by
 rintro ds st K ⟨d,A,w,rfl,⟨da,hd,ra⟩,hw,hl,k⟩;refine⟨rfl,?_⟩;have hla:=ra.len;refine iP ?_;refine D9 hd λ ok aO=>?_;refine iF (λ rest σ st'=>st'=st/\∃(v2 v3 v4:Option D) (ahead:Int) (A1 A2:List (List Int)) (ds2:List D),σ=[some d,some (.int ahead),v2,v3,v4]/\A=A1++A2/\bK st ds2 A2/\rest=g4 A1.length ds2/\g5 [] (-1) A=g5 A1 ahead A2) ?_ ?_ _ _ _ ⟨rfl,none,none,none,-1,[],A,da,rfl,rfl,ra,rfl,rfl⟩
 . rintro σ st' ⟨rfl,v2,v3,v4,ahead,A1,A2,ds2,rfl,hA,r2,hr,hs⟩;refine⟨aO _ hd,?_⟩;match ds2,A2,r2,hr with
   | [],[],_,_=>
     rw[hs]at k;exact k
 . rintro x rest σ st' ⟨rfl,v2,v3,v4,ahead,A1,A2,ds2,rfl,hA,r2,hr,hs⟩ next
   obtain⟨e,r,ds3,A3,rfl,rfl,rfl,rfl,he,r3⟩:=E9 r2 hr.symm;refine⟨aO _ hd,_,rfl,?_⟩;refine⟨e,r,rfl,he,?_⟩;rw[sF]at hs;have hrw:r.length=w:=hw r (by rw[hA];simp);cases el:fx r with
   |none=>
    have:fo r= .aD:=by unfold fo;rw[el]
    rw[this];rw[el]at hs;refine yU rfl (fb ?_);rw[hs]at k;exact k
   |some l=>
    have e1:fo r= .int (l:Int):=by unfold fo;rw[el]
    rw[e1];rw[el]at hs;have hlr:=H_ el;refine yU rfl ?_;refine KJ ?_;by_cases h1:(l:Int)<=ahead
    . rw[U9 h1];simp only[Ur (show(l:Int)<=ahead\/r.getD l 0<0 from .inl h1)]at hs;rw[hs]at k;exact k
    . rw[UQ h1];refine aA he (fO hlr) (A_ ?_);by_cases h2:r.getD l 0<0
      . rw[U9 h2];simp only[Ur (show(l:Int)<=ahead\/r.getD l 0<0 from .inr h2)]at hs;rw[hs]at k;exact k
      . rw[UQ h2];simp only[Up (show¬((l:Int)<=ahead\/r.getD l 0<0)from λ h=>h.elim h1 h2)]at hs;refine O_ hd λ d' hd'=>jo hd' λ ok2 hok2=>?_
        have ec:L3.cutD da none (some (A1.length:Int))=da.take A1.length:=by
         unfold L3.cutD;rw[HT.zK,HT.xj,List.drop_zero,Nat.sub_zero];congr 1;rw[hla,hA,Vv];omega
        have rr:bK st' (L3.cutD da none (some (A1.length:Int))) A1:=by
         have:=bK.take A1.length ra;rw[hA,List.take_left']at this
         . rw[ec];exact this
         . rfl
        refine⟨bL (by rw[rr.len];rw[hA]at hl;simp at hl;omega),?_⟩;refine FZ (λ a=> .bl (decide (0<=a.getD l 0)&&decide (a.getD l 0<r.getD l 0))) hok2 rr (λ y a ha hy K' q=>⟨_,rfl,?_⟩) ?_
        . have hal:l<a.length:=by rw[hw a (by rw[hA];exact Vp _ ha),<-hrw];exact hlr
          refine aA hy (fO hal) (KJ ?_);by_cases h3:0<=a.getD l 0
          . rw[U9 h3]at q⊢;exact aA he (fO hlr) (A_ (by simpa using q))
          . rw[UQ h3]at q⊢;exact q
        . refine oA (xY A1) ?_;have ea:(A1.map λ a=>decide (0<=a.getD l 0)&&decide (a.getD l 0<r.getD l 0)).all id=A1.all λ a=>decide (0<=a.getD l 0)&&decide (a.getD l 0<r.getD l 0):=by rw[Y5];rfl
          rw[ea];cases e4:(A1.all λ a=>decide (0<=a.getD l 0)&&decide (a.getD l 0<r.getD l 0))with
          |false=>
           rw[e4]at hs;rw[hs]at k;exact k
          |true=>
           rw[e4]at hs;exact next _ _ ⟨rfl,_,_,_,(l:Int),A1++[r],A3,ds3,rfl,by rw[hA];simp,r3,by simp,hs⟩
def mi:cy:=λ ds st K=>∃(B:List (List Int)) (N w top:Nat),ds=[bQ B]/\Mx.cj N w B/\N<=8/\top<=N/\(∀i,i<top->fx (B.getD i [])≠none)/\(∀i,top<=i->i<N->fx (B.getD i [])=none)/\g5 [] (-1) (B.take top)=true/\K (bQ (B.take top)) st
def jM:List Str:=["rows","head"]
def yX:DS:=(aJ (bo 1 (hO (ae 0) iJ (gT (bO dF (af (cY (dZ (ae 0)) [none] (bI 0) (bh (aw tN (ay gg (af (ae 0) ao)) (dC .aD))) (ae 0)) ao)))))
 (bc (Iv (bh (ay kY (af (ae 1) ao))) (ae 1) (dC .aD))))
def yn{xs:List D}{j:Nat}:L3.cutD xs none (some (j:Int))=xs.take j:=by
 unfold L3.cutD;rw[HT.zK,HT.xj,List.drop_zero,Nat.sub_zero];by_cases h:j<=xs.length
 . rw[XG h]
 . rw[Nat.min_eq_right (by omega),List.take_length,Xl (by omega)]
def drop_cons{F:List (List Int)}{i:Nat}{d:D}{rest:List D}(hr:d::rest=(F.map aY).drop i):i<F.length/\d=aY (F.getD i [])/\rest=(F.map aY).drop (i+1):=by
 have hi:i<F.length:=by
  rcases V8 i F.length with h|h
  . exact h
  . rw[VA (by rw[Uh];exact h)]at hr;cases hr
 rw[Vj (by rw[Uh];exact hi),VR]at hr;obtain⟨h1,h2⟩:=Ws hr;exact⟨hi,by rw[Mx.aG hi];exact h1,h2⟩
def drop_nil{F:List (List Int)}{i:Nat}(hr: []=(F.map aY).drop i):F.length<=i:=by
 have:=VU List.length hr;rw[VH,Uh,WM]at this;omega
def xa:Ug mi 1 yX jM:=by
 rintro ds st K ⟨B,N,w,top,rfl,hB,n8,ht,h1,h2,hs,k⟩;refine⟨rfl,?_⟩;have lB:=hB.len;refine jx ⟨bL (by rw[Uh];omega),?_⟩;refine ib (λ rest acc st'=>∃i,i<=N/\rest=(B.map aY).drop i/\acc.length=min i top/\st'=st) ?_ ?_ _ _ _ ⟨0,US _,rfl,by simp,rfl⟩
 . rintro acc st' ⟨i,hi,hr,la,rfl⟩;have:=drop_nil hr;have la:acc.length=top:=by omega
   refine⟨trivial,cJ rfl (gf ?_)⟩;rw[la,yn,<-Yh];refine⟨_,B.take top,w,rfl,gN,λ r hr=>hB.dO r (Wv hr),by rw[Vo];omega,?_⟩;rw[hs];exact k
 . rintro x rest acc st' ⟨i,hi,hr,la,rfl⟩ next
   obtain⟨hiB,rfl,rfl⟩:=drop_cons hr;refine⟨trivial,_,rfl,_,B.getD i [],rfl,rfl,?_⟩;by_cases h:i<top
   . have:=h1 i h;cases el:fx (B.getD i [])with
     |none=>exact absurd el this
     |some l=>
      have eD:fo (B.getD i [])= .int (l:Int):=by unfold fo;rw[el]
      rw[eD];exact sJ rfl (fb (next _ _ ⟨i+1,by omega,rfl,by rw[Vv,la,Xq];omega,rfl⟩))
   . have el:=h2 i (by omega) (by omega);have eD:fo (B.getD i [])= .aD:=by unfold fo;rw[el]
     rw[eD];exact sJ rfl (next _ _ ⟨i+1,by omega,rfl,by omega,rfl⟩)
def j9:cy:=λ ds st K=>∃(t d:Int),ds=[.int t,.int d]/\d≠0/\K (.int (Mx.qn t d)) st
def gY:List Str:=["top","bottom"]
def uG:DS:=(bc (aw mG (aw dD (aw dh (dC (.int 2)) (ae 0)) (ae 1)) (aw dh (dC (.int 2)) (ae 1))))
def uy:Ug j9 2 uG gY:=by
 rintro ds st K ⟨t,d,rfl,hd,k⟩;exact⟨rfl,dH (fQ (by decide) (by decide)) (fz (dH (fQ (by decide) (by decide)) (lI (by omega) k)))⟩
def kI:cy:=λ ds st K=>∃(n k o:Nat) (A:List (List Int)),ds=[.ref n,.int k,.int o]/\st[n]?=some (.lst (A.map a6))/\k<A.length/\o<A.length/\K (.ref st.length) (st++[.lst ((Mx.cp A k o).map a6)])
def nQ:List Str:=["rows","k","other","order"]
def DR:DS:=(aJ (bo 3 (bO sE (af (ae 0) ao)))
 (aJ (fy (ae 3) (ae 1) (aw aW (ae 0) (ae 2)))
 (aJ (fy (ae 3) (ae 2) (aw aW (ae 0) (ae 1)))
 (bc (ae 3)))))
def eL{A:List (List Int)}{j:Nat}(h:j<A.length):d_ (A.map a6) (j:Int)=some (a6 (A.getD j [])):=by
 refine iS ?_;rw[UB,Uv h,Mx.aG h];rfl
def oB{m k:Nat}(h:k<m):jV m (k:Int)=some k:=by
 have:=Pa (i:=(k:Int)) (m:=m) (by omega) (by omega);rw[UJ]at this;exact this
def jz{A:List (List Int)}{k:Nat}{r:List Int}:(A.map a6).set k (a6 r)=(A.set k r).map a6:=by rw[XI]
def Dg:Ug kI 3 DR nQ:=by
 rintro ds st K ⟨n,k,o,A,rfl,e,hk,ho,kk⟩;refine⟨rfl,?_⟩;have hn:n<st.length:=(Ui.mp e).1;refine Cn (aH e) ?_;have e1:(st++[Cell.lst (A.map a6)])[n]?=some (.lst (A.map a6)):=by rw[Us hn];exact e
 have e2:(st++[Cell.lst (A.map a6)])[st.length]?=some (.lst (A.map a6)):=by simp
 refine aA (aH e1) (eL ho) (iD e2 (by rw[Uh];exact oB hk) ?_);rw[jz]
 have es:(st++[Cell.lst (A.map a6)]).set st.length (.lst ((A.set k (A.getD o [])).map a6))=st++[Cell.lst ((A.set k (A.getD o [])).map a6)]:=by
  rw[YY _ _ (Uk _),WR];rfl
 rw[es];have e3:(st++[Cell.lst ((A.set k (A.getD o [])).map a6)])[n]?=some (.lst (A.map a6)):=by rw[Us hn];exact e
 have e4:(st++[Cell.lst ((A.set k (A.getD o [])).map a6)])[st.length]?=some (.lst ((A.set k (A.getD o [])).map a6)):=by simp
 refine aA (aH e3) (eL hk) (iD e4 (by rw[Uh,UC];exact oB ho) ?_);rw[jz]
 have es2:(st++[Cell.lst ((A.set k (A.getD o [])).map a6)]).set st.length (.lst (((A.set k (A.getD o [])).set o (A.getD k [])).map a6))=st++[Cell.lst ((Mx.cp A k o).map a6)]:=by
  rw[YY _ _ (Uk _),WR];rfl
 rw[es2];exact kk
def oo:cy:=λ ds st K=>∃(d:D) (r:List Int),ds=[d]/\items? st d=some (aB r)/\r.length<=1000/\K (a6 (r.map λ x=> -x)) st
def qC:List Str:=["row"]
def IB:DS:=(bc (cY (dZ (ae 0)) [none] (bI 0) bV (oS jJ (ae 0))))
def Fy:Ug oo 1 IB qC:=by
 rintro ds st K ⟨d,r,rfl,hd,hl,k⟩;refine⟨rfl,?_⟩;refine jo hd λ ok aO=>⟨bL (by unfold aB;rw[Uh];exact hl),?_⟩
 refine comp_map (g:=λ x=>match x with| .int a=> .int (-a)|_=> .aD) aO _ (λ x hx K' q=>?_) ?_
 . unfold aB at hx;obtain⟨a,_,rfl⟩:=UI.mp hx;exact⟨_,rfl,iP q⟩
 . have e:(aB r).map (λ x=>match x with| .int a=> .int (-a)|_=> .aD)=aB (r.map λ x=> -x):=by unfold aB;rw[Vb,Vb];rfl
   rw[e];exact k
structure Bn(st:ag)(b xb xu xc:Nat)(A U C:List (List Int)):Prop where
 eb:st[b]?=some (Cell.ins aL [("body",.ref xb),("turn",.ref xu),("back_columns",.ref xc)])
 e1:st[xb]?=some (Cell.lst (A.map a6))
 e2:st[xu]?=some (Cell.lst (U.map a6))
 e3:st[xc]?=some (Cell.lst (C.map a6))
 n1:xb≠xu
 n2:xb≠xc
 n3:xu≠xc
def mM{st:ag}{b x:Nat}{C:Addr}{fs:List (Str×D)}{xs:List D}(h1:st[b]?=some (Cell.ins C fs))(h2:st[x]?=some (Cell.lst xs)):b≠x:=λ z=>by rw[z,h2]at h1;cases h1
def lH:cy:=λ ds st K=>∃(b N:Nat) (d:D) (A:List (List Int)),ds=[.ref b,d]/\st[b]?=some (.ins aL [])/\fv st d A/\A.length=N/\N<=8/\∀st',Bn st' b st.length (st.length+1) (st.length+2) A (Mx.units N) (Mx.units N)->st'.length=st.length+3->(∀m,m<st.length->m≠b->st'[m]?=st[m]?)->K .aD st'
def ja:List Str:=["self","rows"]
def xI:DS:=(aJ (qE aL "body" (ae 0) (kG (dZ (ae 1)) [none] (bI 0) bV (bO qH (af (ae 0) ao))))
 (aJ (qE aL "turn" (ae 0) (kG (dZ (ay kO (af (bO dF (af (ae 1) ao)) ao))) [none] (bI 0) bV (bO qH (af (ae 0) ao))))
 (qE aL "back_columns" (ae 0) (kG (dZ (ay kO (af (bO dF (af (ae 1) ao)) ao))) [none] (bI 0) bV (bO qH (af (ae 0) ao))))))
def tI(f:Str)(v:D):∀fs:List (Str×D),(putD f v fs).length<=fs.length+1
 | []=>by simp[putD]
 |(g,x)::r=>by
  unfold putD;split
  . simp
  . have:=tI f v r;simp only[UT];omega
def CQ{st:ag}{A:List (List Int)}:bK st (A.map aY) A:=bK.tup
def AN(n:Nat):(Mx.units n).length=n:=by unfold Mx.units;simp
def wk:Ug lH 2 xI ja:=by
 rintro ds st K ⟨b,N,d,A,rfl,eb,hA,hl,hN,k⟩;refine⟨rfl,?_⟩;have hb:b<st.length:=(Ui.mp eb).1;obtain⟨da,hd,ra⟩:=hA.ex;have hdl:=ra.len;have lst:∀(e:D) (r:List Int),True:=λ _ _=>trivial;refine jo hd λ ok aO=>⟨bL (by omega),?_⟩
 refine pf a6 aO ra (λ e r hr he K' q=>⟨_,rfl,wc he q⟩) ?_;have eb1:(st++[Cell.lst (A.map a6)])[b]?=some (.ins aL []):=by rw[Us hb];exact eb
 refine pJ eb1 (by decide) ?_;generalize hs1:(st++[Cell.lst (A.map a6)]).set b (.ins aL (putD "body" (.ref st.length) []))=st1;have l1:st1.length=st.length+1:=by rw[<-hs1];simp
 have f1:∀m,m<st.length->m≠b->st1[m]?=st[m]?:=λ m hm hmb=>by rw[<-hs1,Ul (Uy hmb),Us hm]
 have b1:st1[b]?=some (.ins aL (putD "body" (.ref st.length) [])):=by rw[<-hs1,Uq (by simp;omega)]
 have x1:st1[st.length]?=some (.lst (A.map a6)):=by rw[<-hs1,Ul (by omega)];simp
 clear hs1
 have itd:∃da',items? st1 d=some da'/\da'.length=N:=by
  cases d with
  |ref n=>
   by_cases hnb:n=b
   . subst hnb;unfold items? at hd;simp only[eb]at hd;cases hd
   . have hn:n<st.length:=by
      unfold items? at hd;simp only at hd;cases q:st[n]? with
      |none=>rw[q]at hd;cases hd
      |some c=>exact(Ui.mp q).1
     refine⟨da,?_,by omega⟩;unfold items? at hd⊢;simp only at hd⊢;rw[f1 n hn hnb];exact hd
  |_=>exact⟨da,hd,by omega⟩
 obtain⟨da1,hd1,hdl1⟩:=itd;refine cJ hd1 ?_;rw[hdl1];refine⟨N,rfl,by omega,?_⟩;refine jx ⟨bL (by rw[Uh,AN];omega),?_⟩;refine pf a6 trivial CQ (λ e r hr he K' q=>⟨_,rfl,wc he q⟩) ?_;have b2:(st1++[Cell.lst ((Mx.units N).map a6)])[b]?=some (.ins aL (putD "body" (.ref st.length) [])):=by rw[Us (by omega)];exact b1
 refine pJ b2 (by have:=tI "body" (.ref st.length) [];simp only[WM]at this;omega) ?_;generalize hs2:(st1++[Cell.lst ((Mx.units N).map a6)]).set b (.ins aL (putD "turn" (.ref st1.length) (putD "body" (.ref st.length) [])))=st2;have l2:st2.length=st.length+2:=by rw[<-hs2];simp;omega
 have f2:∀m,m<st1.length->m≠b->st2[m]?=st1[m]?:=λ m hm hmb=>by rw[<-hs2,Ul (Uy hmb),Us hm]
 have b2':st2[b]?=some (.ins aL (putD "turn" (.ref st1.length) (putD "body" (.ref st.length) []))):=by rw[<-hs2,Uq (by simp;omega)]
 have x2:st2[st1.length]?=some (.lst ((Mx.units N).map a6)):=by rw[<-hs2,Ul (by omega)];simp
 clear hs2
 have itd2:items? st2 d=some da1:=by
  cases d with
  |ref n=>
   by_cases hnb:n=b
   . subst hnb;unfold items? at hd1;simp only[b1]at hd1;cases hd1
   . have hn:n<st1.length:=by
      unfold items? at hd1;simp only at hd1;cases q:st1[n]? with
      |none=>rw[q]at hd1;cases hd1
      |some c=>exact(Ui.mp q).1
     unfold items? at hd1⊢;simp only at hd1⊢;rw[f2 n hn hnb];exact hd1
  |_=>exact hd1
 refine cJ itd2 ?_;rw[hdl1];refine⟨N,rfl,by omega,?_⟩;refine jx ⟨bL (by rw[Uh,AN];omega),?_⟩;refine pf a6 trivial CQ (λ e r hr he K' q=>⟨_,rfl,wc he q⟩) ?_;have b3:(st2++[Cell.lst ((Mx.units N).map a6)])[b]?=some (.ins aL (putD "turn" (.ref st1.length) (putD "body" (.ref st.length) []))):=by rw[Us (by omega)];exact b2'
 refine pJ b3 (by have h1:=tI "body" (.ref st.length) [];have h2:=tI "turn" (.ref st1.length) (putD "body" (.ref st.length) []);simp only[WM]at h1;omega) ?_;refine k _ ⟨?_,?_,?_,?_,by omega,by omega,by omega⟩ (by simp;omega) λ m hm hmb=>?_
 . rw[Uq (by simp;omega),l1,l2];rfl
 . rw[Ul (by omega),Us (by omega),f2 _ (by omega) (by omega)];exact x1
 . rw[Ul (by omega),Us (by omega)];rw[l1]at x2;exact x2
 . rw[Ul (by omega)];rw[show st.length+2=st2.length by omega];simp
 . rw[Ul (Uy hmb),Us (by omega),f2 m (by omega) hmb,f1 m hm hmb]
def mr:cy:=λ ds st K=>∃(b xb xu xc N w k j:Nat) (A U C:List (List Int)) (q:Int),ds=[.ref b,.int k,.int q,.int j]/\Bn st b xb xu xc A U C/\Mx.cj N w A/\Mx.cj N N U/\Mx.cj N N C/\k<N/\j<N/\N<=8/\w<=9/\(∀x∈A.getD j [],IntMulOk (-q) x)/\(∀x∈U.getD j [],IntMulOk (-q) x)/\(∀x∈C.getD k [],IntMulOk q x)/\
 ∀st',Bn st' b xb xu xc (Mx.bN A k q j) (Mx.bN U k q j) (Mx.bN C j (-q) k)->st'.length=st.length->(∀m,m≠xb->m≠xu->m≠xc->st'[m]?=st[m]?)->K .aD st'
def mq:List Str:=["self","k","times","other"]
def Dc:DS:=(aJ (fy (eS aL "body" (ae 0)) (ae 1) (ay mX (af (aw aW (eS aL "body" (ae 0)) (ae 1)) (af (oS jJ (ae 2)) (af (aw aW (eS aL "body" (ae 0)) (ae 3)) ao)))))
 (aJ (fy (eS aL "turn" (ae 0)) (ae 1) (ay mX (af (aw aW (eS aL "turn" (ae 0)) (ae 1)) (af (oS jJ (ae 2)) (af (aw aW (eS aL "turn" (ae 0)) (ae 3)) ao)))))
 (fy (eS aL "back_columns" (ae 0)) (ae 3) (ay mX (af (aw aW (eS aL "back_columns" (ae 0)) (ae 3)) (af (ae 2) (af (aw aW (eS aL "back_columns" (ae 0)) (ae 1)) ao)))))))
def A9:Ug mr 4 Dc mq:=by
 rintro ds st K ⟨b,xb,xu,xc,N,w,k,j,A,U,C,q,rfl,B,hA,hU,hC,hk,hj,hN,hw,mA,mU,mC,kk⟩;refine⟨rfl,?_⟩;have lA:=hA.len;have lU:=hU.len;have lC:=hC.len;have rA:=Mx.di hA hk;have rU:=Mx.di hU hk;have rC:=Mx.di hC hj;have bx1:=mM B.eb B.e1;have bx2:=mM B.eb B.e2;have bx3:=mM B.eb B.e3;have n1:=B.n1;have n2:=B.n2;have n3:=B.n3;refine c_ B.eb rfl (aA (aH B.e1) (eL (by omega)) (iP (c_ B.eb rfl (aA (aH B.e1) (eL (by omega)) ?_))));refine⟨_,_,-q,A.getD k [],A.getD j [],rfl,rfl,rfl,by omega,mA,?_⟩;refine c_ B.eb rfl (iD B.e1 (by rw[Uh,lA];exact oB hk) ?_);rw[jz];have g1:∀m,m≠xb->(st.set xb (.lst ((A.set k (Mx.d9 (A.getD k []) (-q) (A.getD j []))).map a6)))[m]?=st[m]?:=λ m hm=>Ul (Uy hm);have h1:(st.set xb (.lst ((A.set k (Mx.d9 (A.getD k []) (-q) (A.getD j []))).map a6)))[xb]?=some (.lst ((Mx.bN A k q j).map a6)):=Uq (Ui.mp B.e1).1;have z1:(st.set xb (.lst ((A.set k (Mx.d9 (A.getD k []) (-q) (A.getD j []))).map a6))).length=st.length:=UC;generalize st.set xb (.lst ((A.set k (Mx.d9 (A.getD k []) (-q) (A.getD j []))).map a6))=st1 at g1 h1 z1⊢;have eb1:=(g1 b bx1).trans B.eb;have e21:=(g1 xu (Uy n1)).trans B.e2;have e31:=(g1 xc (Uy n2)).trans B.e3;refine c_ eb1 rfl (aA (aH e21) (eL (by omega)) (iP (c_ eb1 rfl (aA (aH e21) (eL (by omega)) ?_))));refine⟨_,_,-q,U.getD k [],U.getD j [],rfl,rfl,rfl,by omega,mU,?_⟩;refine c_ eb1 rfl (iD e21 (by rw[Uh,lU];exact oB hk) ?_);rw[jz];have g2:∀m,m≠xu->(st1.set xu (.lst ((U.set k (Mx.d9 (U.getD k []) (-q) (U.getD j []))).map a6)))[m]?=st1[m]?:=λ m hm=>Ul (Uy hm);have h2:(st1.set xu (.lst ((U.set k (Mx.d9 (U.getD k []) (-q) (U.getD j []))).map a6)))[xu]?=some (.lst ((Mx.bN U k q j).map a6)):=Uq (Ui.mp e21).1;have z2:(st1.set xu (.lst ((U.set k (Mx.d9 (U.getD k []) (-q) (U.getD j []))).map a6))).length=st1.length:=UC;generalize st1.set xu (.lst ((U.set k (Mx.d9 (U.getD k []) (-q) (U.getD j []))).map a6))=st2 at g2 h2 z2⊢;have eb2:=(g2 b bx2).trans eb1;have e32:=(g2 xc (Uy n3)).trans e31;refine c_ eb2 rfl (aA (aH e32) (eL (by omega)) (c_ eb2 rfl (aA (aH e32) (eL (by omega)) ?_)));refine⟨_,_,q,C.getD j [],C.getD k [],rfl,rfl,rfl,by omega,mC,?_⟩;refine c_ eb2 rfl (iD e32 (by rw[Uh,lC];exact oB hj) ?_);rw[jz];have hc:C.set j (Mx.d9 (C.getD j []) q (C.getD k []))=Mx.bN C j (-q) k:=by unfold Mx.bN;rw[Int.neg_neg]
 rw[hc];refine kk _ ⟨?_,?_,?_,?_,n1,n2,n3⟩ (by rw[UC];omega) λ m m1 m2 m3=>?_
 . rw[Ul (Uy bx3)];exact eb2
 . rw[Ul (Uy n2),g2 _ n1];exact h1
 . rw[Ul (Uy n3)];exact h2
 . exact Uq (Ui.mp e32).1
 . rw[Ul (Uy m3),g2 m m2,g1 m m1]
def k_:cy:=λ ds st K=>∃(b xb xu xc N w k o:Nat) (A U C:List (List Int)),ds=[.ref b,.int k,.int o]/\Bn st b xb xu xc A U C/\Mx.cj N w A/\Mx.cj N N U/\Mx.cj N N C/\k<N/\o<N/\
 ∀st',Bn st' b st.length (st.length+1) (st.length+2) (Mx.cp A k o) (Mx.cp U k o) (Mx.cp C k o)->st'.length=st.length+3->(∀m,m<st.length->m≠b->st'[m]?=st[m]?)->K .aD st'
def i_:List Str:=["self","k","other"]
def xJ:DS:=(aJ (qE aL "body" (ae 0) (ay kI (af (eS aL "body" (ae 0)) (af (ae 1) (af (ae 2) ao)))))
 (aJ (qE aL "turn" (ae 0) (ay kI (af (eS aL "turn" (ae 0)) (af (ae 1) (af (ae 2) ao)))))
 (qE aL "back_columns" (ae 0) (ay kI (af (eS aL "back_columns" (ae 0)) (af (ae 1) (af (ae 2) ao)))))))
def we:Ug k_ 3 xJ i_:=by
 rintro ds st K ⟨b,xb,xu,xc,N,w,k,o,A,U,C,rfl,B,hA,hU,hC,hk,ho,kk⟩;refine⟨rfl,?_⟩;have lA:=hA.len;have lU:=hU.len;have lC:=hC.len;have bx1:=mM B.eb B.e1;have bx2:=mM B.eb B.e2;have bx3:=mM B.eb B.e3;have hb:b<st.length:=(Ui.mp B.eb).1;have hu:xu<st.length:=(Ui.mp B.e2).1;have hc:xc<st.length:=(Ui.mp B.e3).1;refine c_ B.eb rfl ?_;refine⟨xb,k,o,A,rfl,B.e1,by omega,by omega,?_⟩;have eb1:(st++[Cell.lst ((Mx.cp A k o).map a6)])[b]?=some (.ins aL [("body",.ref xb),("turn",.ref xu),("back_columns",.ref xc)]):=by rw[Us hb];exact B.eb
 refine pJ eb1 (by simp) ?_;have pb:putD "body" (.ref st.length) [("body",.ref xb),("turn",.ref xu),("back_columns",.ref xc)]=([("body",.ref st.length),("turn",.ref xu),("back_columns",.ref xc)]:List (Str×D)):=rfl;rw[pb];generalize hs1:(st++[Cell.lst ((Mx.cp A k o).map a6)]).set b (.ins aL [("body",.ref st.length),("turn",.ref xu),("back_columns",.ref xc)])=st1;have l1:st1.length=st.length+1:=by rw[<-hs1];simp
 have f1:∀m,m<st.length->m≠b->st1[m]?=st[m]?:=λ m hm hmb=>by rw[<-hs1,Ul (Uy hmb),Us hm]
 have b1:st1[b]?=some (.ins aL [("body",.ref st.length),("turn",.ref xu),("back_columns",.ref xc)]):=by rw[<-hs1,Uq (by simp;omega)]
 have x1:st1[st.length]?=some (.lst ((Mx.cp A k o).map a6)):=by rw[<-hs1,Ul (by omega)];simp
 clear hs1 eb1;refine c_ b1 rfl ?_;refine⟨xu,k,o,U,rfl,(f1 xu hu (Uy bx2)).trans B.e2,by omega,by omega,?_⟩;have eb1:(st1++[Cell.lst ((Mx.cp U k o).map a6)])[b]?=some (.ins aL [("body",.ref st.length),("turn",.ref xu),("back_columns",.ref xc)]):=by rw[Us (by omega)];exact b1
 refine pJ eb1 (by simp) ?_;have pb:putD "turn" (.ref st1.length) [("body",.ref st.length),("turn",.ref xu),("back_columns",.ref xc)]=([("body",.ref st.length),("turn",.ref st1.length),("back_columns",.ref xc)]:List (Str×D)):=rfl;rw[pb];generalize hs2:(st1++[Cell.lst ((Mx.cp U k o).map a6)]).set b (.ins aL [("body",.ref st.length),("turn",.ref st1.length),("back_columns",.ref xc)])=st2;have l2:st2.length=st.length+2:=by rw[<-hs2];simp;omega
 have f2:∀m,m<st1.length->m≠b->st2[m]?=st1[m]?:=λ m hm hmb=>by rw[<-hs2,Ul (Uy hmb),Us hm]
 have b2:st2[b]?=some (.ins aL [("body",.ref st.length),("turn",.ref st1.length),("back_columns",.ref xc)]):=by rw[<-hs2,Uq (by simp;omega)]
 have x2:st2[st1.length]?=some (.lst ((Mx.cp U k o).map a6)):=by rw[<-hs2,Ul (by omega)];simp
 clear hs2 eb1;refine c_ b2 rfl ?_;refine⟨xc,k,o,C,rfl,((f2 xc (by omega) (Uy bx3)).trans (f1 xc hc (Uy bx3))).trans B.e3,by omega,by omega,?_⟩;have eb1:(st2++[Cell.lst ((Mx.cp C k o).map a6)])[b]?=some (.ins aL [("body",.ref st.length),("turn",.ref st1.length),("back_columns",.ref xc)]):=by rw[Us (by omega)];exact b2
 refine pJ eb1 (by simp) ?_;have pb:putD "back_columns" (.ref st2.length) [("body",.ref st.length),("turn",.ref st1.length),("back_columns",.ref xc)]=([("body",.ref st.length),("turn",.ref st1.length),("back_columns",.ref st2.length)]:List (Str×D)):=rfl;rw[pb];refine kk _ ⟨?_,?_,?_,?_,by omega,by omega,by omega⟩ (by simp;omega) λ m hm hmb=>?_
 . rw[Uq (by simp;omega),l1,l2]
 . rw[Ul (by omega),Us (by omega),f2 _ (by omega) (by omega)];exact x1
 . rw[Ul (by omega),Us (by omega)];rw[l1]at x2;exact x2
 . rw[Ul (by omega)];rw[show st.length+2=st2.length by omega];simp
 . rw[Ul (Uy hmb),Us (by omega),f2 m (by omega) hmb,f1 m hm hmb]
def jK:cy:=λ ds st K=>∃(b xb xu xc N w k:Nat) (A U C:List (List Int)),ds=[.ref b,.int k]/\Bn st b xb xu xc A U C/\Mx.cj N w A/\Mx.cj N N U/\Mx.cj N N C/\k<N/\N<=8/\w<=9/\
 ∀st',Bn st' b xb xu xc (Mx.iN A k) (Mx.iN U k) (Mx.iN C k)->st'.length=st.length->(∀m,m≠xb->m≠xu->m≠xc->st'[m]?=st[m]?)->K .aD st'
def gE:List Str:=["self","k"]
def uw:DS:=(aJ (fy (eS aL "body" (ae 0)) (ae 1) (ay oo (af (aw aW (eS aL "body" (ae 0)) (ae 1)) ao)))
 (aJ (fy (eS aL "turn" (ae 0)) (ae 1) (ay oo (af (aw aW (eS aL "turn" (ae 0)) (ae 1)) ao)))
 (fy (eS aL "back_columns" (ae 0)) (ae 1) (ay oo (af (aw aW (eS aL "back_columns" (ae 0)) (ae 1)) ao)))))
def tX:Ug jK 2 uw gE:=by
 rintro ds st K ⟨b,xb,xu,xc,N,w,k,A,U,C,rfl,B,hA,hU,hC,hk,hN,hw,kk⟩;refine⟨rfl,?_⟩;have lA:=hA.len;have lU:=hU.len;have lC:=hC.len;have rA:=Mx.di hA hk;have rU:=Mx.di hU hk;have rC:=Mx.di hC hk;have bx1:=mM B.eb B.e1;have bx2:=mM B.eb B.e2;have bx3:=mM B.eb B.e3;have n1:=B.n1;have n2:=B.n2;have n3:=B.n3;refine c_ B.eb rfl (aA (aH B.e1) (eL (by omega)) ?_);refine⟨_,A.getD k [],rfl,rfl,by omega,?_⟩;refine c_ B.eb rfl (iD B.e1 (by rw[Uh,lA];exact oB hk) ?_);rw[jz];have g1:∀m,m≠xb->(st.set xb (.lst ((A.set k ((A.getD k []).map λ x=> -x)).map a6)))[m]?=st[m]?:=λ m hm=>Ul (Uy hm);have h1:(st.set xb (.lst ((A.set k ((A.getD k []).map λ x=> -x)).map a6)))[xb]?=some (.lst ((Mx.iN A k).map a6)):=Uq (Ui.mp B.e1).1;have z1:(st.set xb (.lst ((A.set k ((A.getD k []).map λ x=> -x)).map a6))).length=st.length:=UC;generalize st.set xb (.lst ((A.set k ((A.getD k []).map λ x=> -x)).map a6))=st1 at g1 h1 z1⊢;have eb1:=(g1 b bx1).trans B.eb;have e21:=(g1 xu (Uy n1)).trans B.e2;have e31:=(g1 xc (Uy n2)).trans B.e3;refine c_ eb1 rfl (aA (aH e21) (eL (by omega)) ?_);refine⟨_,U.getD k [],rfl,rfl,by omega,?_⟩;refine c_ eb1 rfl (iD e21 (by rw[Uh,lU];exact oB hk) ?_);rw[jz];have g2:∀m,m≠xu->(st1.set xu (.lst ((U.set k ((U.getD k []).map λ x=> -x)).map a6)))[m]?=st1[m]?:=λ m hm=>Ul (Uy hm);have h2:(st1.set xu (.lst ((U.set k ((U.getD k []).map λ x=> -x)).map a6)))[xu]?=some (.lst ((Mx.iN U k).map a6)):=Uq (Ui.mp e21).1;have z2:(st1.set xu (.lst ((U.set k ((U.getD k []).map λ x=> -x)).map a6))).length=st1.length:=UC;generalize st1.set xu (.lst ((U.set k ((U.getD k []).map λ x=> -x)).map a6))=st2 at g2 h2 z2⊢;have eb2:=(g2 b bx2).trans eb1;have e32:=(g2 xc (Uy n3)).trans e31;refine c_ eb2 rfl (aA (aH e32) (eL (by omega)) ?_);refine⟨_,C.getD k [],rfl,rfl,by omega,?_⟩;refine c_ eb2 rfl (iD e32 (by rw[Uh,lC];exact oB hk) ?_);rw[jz];refine kk _ ⟨?_,?_,?_,?_,n1,n2,n3⟩ (by rw[UC];omega) λ m m1 m2 m3=>?_
 . rw[Ul (Uy bx3)];exact eb2
 . rw[Ul (Uy n2),g2 _ n1];exact h1
 . rw[Ul (Uy n3)];exact h2
 . exact Uq (Ui.mp e32).1
 . rw[Ul (Uy m3),g2 m m2,g1 m m1]
def iq:cy:=λ ds st K=>∃(b xb xu xc N w top p:Nat) (A U C:List (List Int)) (f:Bool),ds=[.ref b,.int top,.int p]/\Bn st b xb xu xc A U C/\Mx.cj N w A/\top<=N/\N<=8/\p<w/\w<=9/\st[0]?=some (gG f)/\
 ∀L,Mx.mL A N top p L->K (.lst (L.map λ(k:Nat)=> .int (k:Int))) (st.set 0 (gG true))
def ip:List Str:=["self","top","place","live"]
def wj:DS:=(aJ (bo 3 (cY (vN (af (ae 1) (af (bO dF (af (eS aL "body" (ae 0)) ao)) ao))) [none,some 0,some 2] (bI 0) (bh (aw vb (aw aW (aw aW (eS aL "body" (ae 1)) (ae 0)) (ae 2)) (dC (.int 0)))) (ae 0)))
 (bc (BX 0 233 ⟨126,32,126,66⟩ "Bench.live_rows.<locals>.<lambda>" [none,some 0,some 2] (bO sV (af (aw aW (aw aW (eS aL "body" (ae 1)) (ae 0)) (ae 2)) ao)) (ae 3))))
def yE{a b:Prop}(h:b):if false=true then a else b:=h
def MW{st:ag}{b:Nat}{C:Addr}{fs:List (Str×D)}{f:Bool}(h1:st[b]?=some (Cell.ins C fs))(h2:st[0]?=some (gG f)):b≠0:=λ z=>by rw[z,h2]at h1;cases h1
def vP{st:ag}{b:Nat}{xs:List D}{f:Bool}(h1:st[b]?=some (Cell.lst xs))(h2:st[0]?=some (gG f)):b≠0:=λ z=>by rw[z,h2]at h1;cases h1
def Bn.keep{st st':ag}{b xb xu xc:Nat}{A U C:List (List Int)}(B:Bn st b xb xu xc A U C)(h:∀m,m=b\/m=xb\/m=xu\/m=xc->st'[m]?=st[m]?):Bn st' b xb xu xc A U C:=
 ⟨(h b (.inl rfl)).trans B.eb,(h xb (.inr (.inl rfl))).trans B.e1,(h xu (.inr (.inr (.inl rfl)))).trans B.e2,(h xc (.inr (.inr (.inr rfl)))).trans B.e3,B.n1,B.n2,B.n3⟩
def Bn.tab{st:ag}{b xb xu xc:Nat}{A U C:List (List Int)}{f:Bool}(B:Bn st b xb xu xc A U C)(h:st[0]?=some (gG f))(c:Cell):Bn (st.set 0 c) b xb xu xc A U C:=
 B.keep λ m hm=>Ul λ z=>by
  subst z;rcases hm with rfl|rfl|rfl|rfl
  . exact MW B.eb h rfl
  . exact vP B.e1 h rfl
  . exact vP B.e2 h rfl
  . exact vP B.e3 h rfl
def qr{r:List Int}{k:Nat}(h:k<r.length):d_ (aB r) (k:Int)=some (.int (r.getD k 0)):=by
 refine iS ?_;unfold aB;rw[UB,Uv h,Mx.aG h];rfl
def f6(A:List (List Int))(N top p:Nat):List Nat:=(List.range (N-top)).filterMap λ i=>if Mx.g A (top+i) p≠0 then some (top+i)else none
def Ag{A:List (List Int)}{N top p k:Nat}:k∈f6 A N top p↔top<=k/\k<N/\Mx.g A k p≠0:=by
 unfold f6;rw[W4];constructor
 . rintro⟨i,hi,e⟩;rw[VM]at hi;split at e
   . rename_i h;cases e;exact⟨by omega,by omega,h⟩
   . cases e
 . rintro⟨h1,h2,h3⟩;refine⟨k-top,VM.mpr (by omega),?_⟩;rw[show top+(k-top)=k by omega,Ur h3]
def pw_filterMap{f:Nat->Option Nat}(h:∀i j a b,i<j->f i=some a->f j=some b->a<b):∀ {l:List Nat},l.Pairwise (· < ·)->(l.filterMap f).Pairwise (· < ·)
 | [],_=>by simp
 |x::l,hl=>by
  obtain⟨h1,h2⟩:=XZ.mp hl;rw[WY];split
  . exact pw_filterMap h h2
  . rename_i a e;refine XZ.mpr ⟨λ b hb=>?_,pw_filterMap h h2⟩;obtain⟨j,hj,ej⟩:=W4.mp hb;exact h x j a b (h1 j hj) e ej
def pw_liveR{A:List (List Int)}{N top p:Nat}:(f6 A N top p).Pairwise (· < ·):=by
 unfold f6;refine pw_filterMap (λ i j a b hij ha hb=>?_) List.pairwise_lt_range;split at ha
 . split at hb
   . cases ha;cases hb;omega
   . cases hb
 . cases ha
def A7{f:Nat->Option Nat}(l:List Nat):(l.filterMap f).length<=l.length:=List.length_filterMap_le ..
def ME{A:List (List Int)}{N top p:Nat}{os:List (Int×Int)}(hp:os.Perm (((f6 A N top p).map λ(k:Nat)=>(((Mx.g A k p).natAbs:Nat):Int)).zip ((f6 A N top p).map λ(k:Nat)=>(k:Int))))(hs:os.Pairwise slt):
 Mx.mL A N top p (os.map λ q=>q.2.toNat)/\os.map (λ q=>D.int q.2)=(os.map λ q=>q.2.toNat).map λ(k:Nat)=>D.int (k:Int):=by
 have hz:((f6 A N top p).map λ(k:Nat)=>(((Mx.g A k p).natAbs:Nat):Int)).zip ((f6 A N top p).map λ(k:Nat)=>(k:Int))=(f6 A N top p).map λ k=>((((Mx.g A k p).natAbs:Nat):Int),(k:Int)):=by
  exact List.zip_map' ..
 rw[hz]at hp
 have hm:∀q∈os,∃k,k∈f6 A N top p/\q=((((Mx.g A k p).natAbs:Nat):Int),(k:Int)):=λ q hq=>by
  obtain⟨k,h1,h2⟩:=UI.mp (hp.mem_iff.mp hq);exact⟨k,h1,h2.symm⟩
 refine⟨⟨λ k=>?_,?_,?_⟩,?_⟩
 . rw[<-Ag];constructor
   . intro h;obtain⟨q,hq,e⟩:=UI.mp h;obtain⟨j,h1,rfl⟩:=hm q hq;simp only[UJ]at e;rw[<-e];exact h1
   . intro h;exact UI.mpr ⟨((((Mx.g A k p).natAbs:Nat):Int),(k:Int)),hp.mem_iff.mpr (UI.mpr ⟨k,h,rfl⟩),by simp⟩
 . rw[Yk];refine hs.imp_of_mem λ{x y} hx hy h=>?_;obtain⟨j,_,rfl⟩:=hm x hx;obtain⟨k,_,rfl⟩:=hm y hy;unfold slt at h;simp only[UJ];omega
 . have e:((f6 A N top p).map λ k=>((((Mx.g A k p).natAbs:Nat):Int),(k:Int))).map (λ q=>q.2.toNat)=f6 A N top p:=by
    rw[Vb];exact(Wc λ k _=>UJ k).trans (List.map_id _)
   have hq:=hp.map λ q=>q.2.toNat;rw[e]at hq;exact hq.nodup_iff.mpr (pw_liveR.imp λ h=>UR h)
 . rw[Vb];refine Wc λ q hq=>?_;obtain⟨j,_,rfl⟩:=hm q hq;simp
def u0:Ug iq 3 wj ip:=by
 rintro ds st K ⟨b,xb,xu,xc,N,w,top,p,A,U,C,f,rfl,B,hA,ht,hN,hp,hw,h0,k⟩;refine⟨rfl,?_⟩;have lA:=hA.len;have rowA:∀i,i<N->(A.getD i []).length=w:=λ i hi=>Mx.di hA hi;refine c_ B.eb rfl (cJ (aH B.e1) ?_);rw[Uh,lA];refine MG ⟨by omega,by omega,by omega,by omega⟩ ⟨bL (by unfold d6;simp;omega),?_⟩;have er:((N:Int)-(top:Int)).toNat=N-top:=by omega
 rw[er];refine ib (λ rest acc st'=>∃i:Nat,i<=N-top/\st'=st/\rest=(List.range (N-top-i)).map (λ j=>D.int ((top+i+j:Nat):Int))/\acc=((List.range i).filterMap λ i=>if Mx.g A (top+i) p≠0 then some (top+i)else none).map λ(k:Nat)=>D.int (k:Int)) ?_ ?_ _ _ _ ⟨0,US _,rfl,by unfold d6;simp,by simp⟩
 . rintro acc st' ⟨i,hi,rfl,hr,rfl⟩
   have hi':i=N-top:=by
    rcases V8 i (N-top)with z|z
    . rw[show N-top-i=(N-top-i-1)+1 by omega,VZ]at hr;cases hr
    . omega
   subst hi';refine⟨trivial,?_⟩;have e1:((f6 A N top p).map λ(k:Nat)=>D.int (k:Int))=((f6 A N top p).map λ(k:Nat)=>(k:Int)).map D.int:=by rw[Vb];rfl
   refine⟨(f6 A N top p).map λ(k:Nat)=>(k:Int),(f6 A N top p).map λ(k:Nat)=>(((Mx.g A k p).natAbs:Nat):Int),f,VU D.lst e1,?_,?_,by rw[Uh,Uh],h0,λ i n q hn hq=>?_,λ os hp' hs=>?_⟩
   . rw[Uh];have:=A7 (f:=λ i=>if Mx.g A (top+i) p≠0 then some (top+i)else none) (List.range (N-top));rw[List.length_range]at this;show(f6 A N top p).length<64;unfold f6;omega
   . rw[Yk];exact pw_liveR.imp λ h=>by omega
   . rw[UB]at hn hq;cases z:(f6 A N top p)[i]? with
     |none=>rw[z]at hn;cases hn
     |some j=>
      rw[z]at hn hq;cases hn;cases hq;obtain⟨j1,j2,j3⟩:=Ag.mp (UO z);have B1:=B.tab h0 (gG true);refine c_ B1.eb rfl (aA (aH B1.e1) (eL (by omega)) (aA rfl (qr (by rw[rowA j j2];exact hp)) (u9 ⟨rfl,rfl⟩)))
   . obtain⟨h1,h2⟩:=ME hp' hs;rw[h2];exact k _ h1
 . rintro d rest acc st' ⟨i,hi,rfl,hr,rfl⟩ next
   have hlt:i<N-top:=by
    rcases V8 i (N-top)with z|z
    . exact z
    . rw[show N-top-i=0 by omega]at hr;cases hr
   rw[show N-top-i=(N-top-i-1)+1 by omega,VZ,UY,Vb]at hr;obtain⟨rfl,rfl⟩:=Ws hr;refine⟨trivial,_,rfl,?_⟩;refine c_ B.eb rfl (aA (aH B.e1) (eL (j:=top+i+0) (by omega)) (aA rfl (qr (by rw[rowA _ (by omega)];exact hp)) ?_));have e2:List.range (i+1)=List.range i++[i]:=W3
   have e3:((List.range (N-top-i-1)).map ((λ j=>D.int ((top+i+j:Nat):Int))∘Nat.succ))=(List.range (N-top-(i+1))).map λ j=>D.int ((top+(i+1)+j:Nat):Int):=by
    rw[show N-top-i-1=N-top-(i+1) by omega];refine Wc λ j _=>?_;show D.int ((top+i+(j+1):Nat):Int)=_;rw[show top+i+(j+1)=top+(i+1)+j by omega]
   refine ne2 (λ h=>?_) λ h=>?_
   . refine(next _ _ ⟨i+1,by omega,rfl,e3,?_⟩);rw[e2,YZ,VX];have:Mx.g A (top+i) p≠0:=h;simp[this]
   . refine(next _ _ ⟨i+1,by omega,rfl,e3,?_⟩);rw[e2,YZ,VX];have:Mx.g A (top+i) p=0:=h;simp[this]
structure Bo(n0:Nat)(st st':ag)(b xb xu xc:Nat):Prop where
 lo:1<=n0/\n0<=b/\n0<=xb/\n0<=xu/\n0<=xc
 fr:∀m,m<n0->m≠0->st'[m]?=st[m]?
 tb:∃f,st'[0]?=some (gG f)
def m_:cy:=λ ds st K=>∃(n0 b xb xu xc N w top p e u:Nat) (A0 A U C:List (List Int)) (ld:Nat->Nat),ds=[.ref b,.int top,.int p]/\Bn st b xb xu xc A U C/\Bo n0 st st b xb xu xc/\Mx.g9 A0 N w ⟨A,U,C⟩ top p ld e u/\N<=8/\w<=9/\p<w/\(N-top+1)*(e+1)<=60000000/\
 (∀st',Bn st' b xb xu xc A U C->Bo n0 st st' b xb xu xc->Mx.mL A N top p []->K (.bl false) st')/\
 ∀st' xb' xu' xc' (c:Mx.B3) (r:Nat),Bn st' b xb' xu' xc' (Mx.setB c p top r).A (Mx.setB c p top r).U (Mx.setB c p top r).C->Bo n0 st st' b xb' xu' xc'->Mx.i3 N top p ⟨A,U,C⟩ c->Mx.mL c.A N top p [r]->top<N->
  Mx.lb A0 N w top p (2^((N-top+1)*(e+1))) ⟨A,U,C⟩ (Mx.setB c p top r)->K (.bl true) st'
def kC:List Str:=["self","top","place","live","great","small"]
def ze:DS:=(aJ (bo 3 (kM aL "live_rows" iq (ae 0) (af (ae 1) (af (ae 2) ao))))
 (aJ (va (bh (aw uu (bO dF (af (ae 3) ao)) (dC (.int 1)))) (aJ (bo 4 (aw aW (ae 3) (oS jJ (dC (.int 1)))))
 (aJ (bo 5 (aw aW (ae 3) (oS jJ (dC (.int 2)))))
 (aJ (ji (kM aL "take" mr (ae 0) (af (ae 4) (af (ay j9 (af (aw aW (aw aW (eS aL "body" (ae 0)) (ae 4)) (ae 2)) (af (aw aW (aw aW (eS aL "body" (ae 0)) (ae 5)) (ae 2)) ao))) (af (ae 5) ao)))))
 (bo 3 (kM aL "live_rows" iq (ae 0) (af (ae 1) (af (ae 2) ao))))))))
 (aJ (dz (bh (aw iW (bO dF (af (ae 3) ao)) (dC (.int 0)))) (bc (dC (.bl false))) de)
 (aJ (ji (kM aL "exchange" k_ (ae 0) (af (ae 1) (af (aw aW (ae 3) (dC (.int 0))) ao))))
 (aJ (dz (bh (aw oR (aw aW (aw aW (eS aL "body" (ae 0)) (ae 1)) (ae 2)) (dC (.int 0)))) (ji (kM aL "change_sign" jK (ae 0) (af (ae 1) ao))) de)
 (bc (dC (.bl true))))))))
def Bo.Oc{n0:Nat}{st st':ag}{b xb xu xc:Nat}(h:Bo n0 st st' b xb xu xc):Bo n0 st (st'.set 0 (gG true)) b xb xu xc:=
 ⟨h.lo,λ m hm h0=>by rw[Ul (Uy h0)];exact h.fr m hm h0,true,by
  obtain⟨f,e⟩:=h.tb;exact Uq (Ui.mp e).1⟩
def Bo.low{n0:Nat}{st st1 st2:ag}{b xb xu xc:Nat}(h:Bo n0 st st1 b xb xu xc)(f:∀m,m≠xb->m≠xu->m≠xc->st2[m]?=st1[m]?):Bo n0 st st2 b xb xu xc:=by
 obtain⟨l1,l2,l3,l4,l5⟩:=h.lo;refine⟨h.lo,λ m hm h0=>?_,?_⟩
 . rw[f m (by omega) (by omega) (by omega)];exact h.fr m hm h0
 . obtain⟨z,e⟩:=h.tb;exact⟨z,by rw[f 0 (by omega) (by omega) (by omega)];exact e⟩
def zG{X:List (List Int)}{N w top m i:Nat}(hX:Mx.cj N w X)(h:Mx.iG X N top m)(hi:top<=i)(hN:i<N):∀x∈X.getD i [],x.natAbs<=m:=λ x hx=>by
 obtain⟨c,hc,rfl⟩:=UD.mp hx;have:=h i c hi hN;unfold Mx.g at this;rwa [Mx.aG hc]at this
def C6{n j:Nat}(h:1<=j)(h2:j<=n):jV n (-(j:Int))=some (n-j):=by
 unfold jV;rw[Up (by omega),Ur (by omega)];congr 1;omega
def Rh{L:List Nat}{j k:Nat}:d_ ((L++[j,k]).map λ(k:Nat)=>D.int (k:Int)) (-1)=some (.int (k:Int)):=by
 unfold d_;have:=C6 (n:=((L++[j,k]).map λ(k:Nat)=>D.int (k:Int)).length) (j:=1) (by decide) (by simp);rw[show(-((1:Nat):Int))= -1 from rfl]at this;rw[this];simp
def Rw{L:List Nat}{j k:Nat}:d_ ((L++[j,k]).map λ(k:Nat)=>D.int (k:Int)) (-2)=some (.int (j:Int)):=by
 unfold d_;have:=C6 (n:=((L++[j,k]).map λ(k:Nat)=>D.int (k:Int)).length) (j:=2) (by decide) (by simp);rw[show(-((2:Nat):Int))= -2 from rfl]at this;rw[this];simp
def JN:∀ {L:List Nat},1<L.length->∃M j k,L=M++[j,k]:=λ{L} h=>by
 refine⟨L.take (L.length-2),L[L.length-2]'(by omega),L[L.length-1]'(by omega),?_⟩;have e1:L=L.take (L.length-2)++L.drop (L.length-2):=(List.take_append_drop _ _).symm
 have e2:L.drop (L.length-2)=[L[L.length-2]'(by omega),L[L.length-1]'(by omega)]:=by
  rw[Vj (by omega),Vj (by omega),VA (by omega)];congr 2;congr 1;omega
 rw[<-e2];exact e1
def x9:Ug m_ 3 ze kC:=by
 rintro ds st K ⟨n0,b,xb,xu,xc,N,w,top,p,e,u,A0,A,U,C,ld,rfl,B,O,S,hN,hw,hp,hz,kf,kt⟩;refine⟨rfl,?_⟩;have hle:=S.le;obtain⟨f,h0⟩:=O.tb;refine lS B.eb rfl ?_;refine⟨b,xb,xu,xc,N,w,top,p,A,U,C,f,rfl,B,S.tn.isA,hle,hN,hp,hw,h0,λ L hL=>?_⟩;have B1:=B.tab h0 (gG true);have O1:=O.Oc;try dsimp only[ao]
 refine iQ (λ σ st'=>∃(L:List Nat) (v4 v5:Option D) (c:Mx.B3) (gr:Nat),σ=[some (.ref b),some (.int top),some (.int p),some (.lst (L.map λ(k:Nat)=> .int (k:Int))),v4,v5]/\L.length<=1/\Bn st' b xb xu xc c.A c.U c.C/\Bo n0 st st' b xb xu xc/\Mx.i3 N top p ⟨A,U,C⟩ c/\Mx.sH A0 N w top p (2^e) ⟨A,U,C⟩ c gr/\Mx.mL c.A N top p L) (λ nx hnx=>?_) ?_
 . refine⟨λ m σ st'=>∃(L:List Nat) (v4 v5:Option D) (c:Mx.B3) (gr:Nat),σ=[some (.ref b),some (.int top),some (.int p),some (.lst (L.map λ(k:Nat)=> .int (k:Int))),v4,v5]/\Bn st' b xb xu xc c.A c.U c.C/\Bo n0 st st' b xb xu xc/\Mx.i3 N top p ⟨A,U,C⟩ c/\Mx.sH A0 N w top p (2^e) ⟨A,U,C⟩ c gr/\Mx.mL c.A N top p L/\m=Mx.mu c.A N p,⟨_,L,none,none,⟨A,U,C⟩,1,rfl,B1,O1,.refl _,S.Il,hL,rfl⟩,?_⟩;rintro m σ st1 ⟨L,v4,v5,c,gr,rfl,B,O,hR,hG,hL,rfl⟩;refine cJ rfl ?_;rw[Uh];refine Oy (λ h=>fb ?_) λ h=>yE (hnx _ _ ⟨L,v4,v5,c,gr,rfl,by omega,B,O,hR,hG,hL⟩);obtain⟨M,j,k,rfl⟩:=JN (L:=L) (by omega);refine iP (aA rfl Rh (iP (aA rfl Rw ?_)));obtain⟨G2,hlt,hoth,k1,k2,j1,j2,hjk,hj0⟩:=hG.step hp hL;have T:=hG.tn;have lA:=T.isA.len;have hlow:=G2.low S.lo.1;refine lS B.eb rfl (c_ B.eb rfl (aA (aH B.e1) (eL (by omega)) (aA rfl (qr (by rw[Mx.di T.isA k2];exact hp)) (c_ B.eb rfl (aA (aH B.e1) (eL (by omega)) (aA rfl (qr (by rw[Mx.di T.isA j2];exact hp)) ?_))))));refine⟨_,_,rfl,hj0,?_⟩
   have hq:(Mx.qn (Mx.g c.A k p) (Mx.g c.A j p)).natAbs<=2^((N-top+1)*(e+1)):=by
    refine Um ?_ hlow;have a1:=hG.pos;have a2:1<=2^e:=W9;have a3:1*(Mx.qn (Mx.g c.A k p) (Mx.g c.A j p)).natAbs<=gr*(1+(Mx.qn (Mx.g c.A k p) (Mx.g c.A j p)).natAbs):=U_ a1 (by omega);have a4:=U_ a2 a3;omega
   have hx:2^e*gr<=2^((N-top+1)*(e+1)):=hG.low S.lo.1
   have hm:∀ {x:Int},x.natAbs<=2^e*gr->IntMulOk (Mx.qn (Mx.g c.A k p) (Mx.g c.A j p)) x/\IntMulOk (-(Mx.qn (Mx.g c.A k p) (Mx.g c.A j p))) x:=λ{x} h=>
    ⟨ef hq (Um h hx) (by omega),ef (by rw[V3];exact hq) (Um h hx) (by omega)⟩
   refine⟨b,xb,xu,xc,N,w,k,j,c.A,c.U,c.C,_,rfl,B,T.isA,T.dQ,T.fY,k2,j2,hN,hw,λ x hx=>(hm (zG T.isA hG.lA j1 j2 x hx)).2,λ x hx=>(hm (zG T.dQ hG.lU j1 j2 x hx)).2,λ x hx=>(hm (zG T.fY hG.lC k1 k2 x hx)).1,λ st2 B2 l2 f2=>?_⟩;have O2:=O.low f2;obtain⟨f',h0'⟩:=O2.tb;refine lS B2.eb rfl ?_;refine⟨b,xb,xu,xc,N,w,top,p,_,_,_,f',rfl,B2,G2.tn.isA,hle,hN,hp,hw,h0',λ L2 hL2=>?_⟩;refine⟨_,?_,L2,_,_,Mx.mv c p k j,_,rfl,B2.tab h0' (gG true),O2.Oc,hR.tail ⟨M,k,j,hL,rfl⟩,G2,hL2,rfl⟩;unfold Mx.mu;refine Mx.K7 (k:=k) hlt k2 λ i hi=>?_;by_cases h:i=k
   . rw[h];exact VN hlt
   . rw[hoth i h];exact Uk _
 . rintro σ st1 ⟨L,v4,v5,c,gr,rfl,hl,B,O,hR,hG,hL⟩;refine cJ rfl ?_;rw[Uh];match L,hl,hL with
   | [],_,hL=>
     refine eq2 (λ h=>fb ?_) λ h=>absurd rfl h
     have e0:c=⟨A,U,C⟩:=by
      rcases hG.Ri with z|⟨j,h1,h2,h3⟩
      . exact z
      . exact absurd ((hL.mem j).mpr ⟨h1,h2,h3⟩) (by simp)
     subst e0;exact kf st1 B O hL
   | [r],_,hL=>
     refine eq2 (λ h=>absurd h (by simp)) λ h=>yE ?_;obtain⟨s1,hr1,hr2⟩:=hG.set hL;have ht:top<N:=by omega
     have T:=hG.tn
     have s2:Mx.lb A0 N w top p (2^((N-top+1)*(e+1))) ⟨A,U,C⟩ (Mx.setB c p top r):=by
      have hlow:=hG.low S.lo.1;exact⟨s1.tn,s1.up,⟨λ i q h1 h2=>Um (s1.lo.1 i q h1 h2) hlow,λ i q h1 h2=>Um (s1.lo.2.1 i q h1 h2) hlow,λ i q h1 h2=>Um (s1.lo.2.2 i q h1 h2) hlow⟩,s1.zs,s1.tp,s1.z1⟩
     refine lS B.eb rfl (aA rfl (show d_ ([r].map λ(k:Nat)=>D.int (k:Int)) 0=some (.int (r:Int))from rfl) ?_);refine⟨b,xb,xu,xc,N,w,top,r,c.A,c.U,c.C,rfl,B,T.isA,T.dQ,T.fY,ht,hr2,λ st2 B2 l2 f2=>?_⟩;obtain⟨l1,l2',l3,l4,l5⟩:=O.lo
     have hst:n0<=st1.length:=by
      have:=(Ui.mp B.eb).1;omega
     have O2:Bo n0 st st2 b st1.length (st1.length+1) (st1.length+2):=by
      refine⟨⟨l1,l2',by omega,by omega,by omega⟩,λ m hm h0=>?_,?_⟩
      . rw[f2 m (by omega) (by omega)];exact O.fr m hm h0
      . obtain⟨z,e⟩:=O.tb;exact⟨z,by rw[f2 0 (by omega) (by omega)];exact e⟩
     have T1:=T.K_ ht hr2;refine c_ B2.eb rfl (aA (aH B2.e1) (eL (by have:=T1.isA.len;omega)) (aA rfl (qr (by rw[Mx.di T1.isA ht];exact hp)) ?_));refine zY (λ h=>fb ?_) λ h=>yE ?_
     . have es:Mx.setB c p top r=⟨Mx.iN (Mx.cp c.A top r) top,Mx.iN (Mx.cp c.U top r) top,Mx.iN (Mx.cp c.C top r) top⟩:=Ur h;refine lS B2.eb rfl ?_;refine⟨b,_,_,_,N,w,top,_,_,_,rfl,B2,T1.isA,T1.dQ,T1.fY,ht,hN,hw,λ st3 B3 l3 f3=>?_⟩;exact kt st3 _ _ _ c r (by rw[es];exact B3) (O2.low f3) hR hL ht s2
     . have es:Mx.setB c p top r=⟨Mx.cp c.A top r,Mx.cp c.U top r,Mx.cp c.C top r⟩:=Up (λ z=>by unfold Mx.g at z;omega);exact kt st2 _ _ _ c r (by rw[es];exact B2) O2 hR hL ht s2
def jG:cy:=λ ds st K=>∃(b xb xu xc N w top p e u:Nat) (A0 A U C:List (List Int)),ds=[.ref b,.int top,.int p]/\Bn st b xb xu xc A U C/\Mx.Tn A0 A U C N w/\N<=8/\w<=9/\p<w/\top<N/\0<Mx.g A top p/\(∀q,q<p->Mx.g A top q=0)/\
 (∀q,(Mx.g A top q).natAbs<=2^e/\(Mx.g U top q).natAbs<=2^e/\(Mx.g C top q).natAbs<=2^e)/\(∀i q,i<top->(Mx.g A i q).natAbs<=2^u/\(Mx.g U i q).natAbs<=2^u/\(Mx.g C i q).natAbs<=2^u)/\e<=60000000/\u<=60000000/\
 ∀st',Bn st' b xb xu xc (Mx.ny p top top ⟨A,U,C⟩).A (Mx.ny p top top ⟨A,U,C⟩).U (Mx.ny p top top ⟨A,U,C⟩).C->(∀m,m≠xb->m≠xu->m≠xc->st'[m]?=st[m]?)->Mx.tD A0 N w top p e u ⟨A,U,C⟩ top (Mx.ny p top top ⟨A,U,C⟩)->K .aD st'
def gD:List Str:=["self","top","place","k"]
def ux:DS:=(jd (eg (af (ae 1) ao)) (bI 3) (ji (kM aL "take" mr (ae 0) (af (ae 3) (af (aw mG (aw aW (aw aW (eS aL "body" (ae 0)) (ae 3)) (ae 2)) (aw aW (aw aW (eS aL "body" (ae 0)) (ae 1)) (ae 2))) (af (ae 1) ao))))))
def Bh{X:List (List Int)}{i:Nat}{x:Int}(hx:x∈X.getD i []):∃q,x=Mx.g X i q:=by
 obtain⟨c,hc,rfl⟩:=UD.mp hx;exact⟨c,by unfold Mx.g;rw[Mx.aG hc]⟩
def tS:Ug jG 3 ux gD:=by
 rintro ds st K ⟨b,xb,xu,xc,N,w,top,p,e,u,A0,A,U,C,rfl,B,T,hN,hw,hp,ht,htp,hz,hlo,hhi,he,hu,kk⟩;refine⟨rfl,?_⟩;refine ft ⟨by omega,by omega⟩ ?_;rw[UJ];refine lQ top (λ k σ st'=>∃v3:Option D,σ=[some (.ref b),some (.int top),some (.int p),v3]/\Bn st' b xb xu xc (Mx.ny p top k ⟨A,U,C⟩).A (Mx.ny p top k ⟨A,U,C⟩).U (Mx.ny p top k ⟨A,U,C⟩).C/\(∀m,m≠xb->m≠xu->m≠xc->st'[m]?=st[m]?)/\Mx.tD A0 N w top p e u ⟨A,U,C⟩ k (Mx.ny p top k ⟨A,U,C⟩)) ?_ ?_ ⟨none,rfl,B,λ _ _ _ _=>rfl,Mx.tD.start T λ q=>(hlo q).2.2⟩
 . rintro σ st' ⟨v3,rfl,B',f,I⟩;exact kk st' B' f I
 . rintro k σ st' rest hk ⟨v3,rfl,B',f,I⟩ next
   refine⟨_,rfl,?_⟩;have hs:=I.step hk ht hp htp hz (λ q=>⟨(hlo q).1,(hlo q).2.1⟩) hhi;generalize hc:Mx.ny p top k ⟨A,U,C⟩=c at*;have lA:=I.tn.isA.len;have kN:k<N:=by omega
   have gA:∀i q,k<=i->Mx.g c.A i q=Mx.g A i q:=λ i q hi=>by unfold Mx.g;rw[(I.rA i hi).1]
   have gU:∀i q,k<=i->Mx.g c.U i q=Mx.g U i q:=λ i q hi=>by unfold Mx.g;rw[(I.rA i hi).2]
   have gC:∀i q,i≠top->Mx.g c.C i q=Mx.g C i q:=λ i q hi=>by unfold Mx.g;rw[I.rC i hi]
   have hq:((Mx.g c.A k p).fdiv (Mx.g c.A top p)).natAbs<=2^u:=by
    rw[gA k p (Uk _),gA top p (by omega)];exact Um (Mx.nk _ htp) (hhi k p hk).1
   have htp':Mx.g c.A top p≠0:=by rw[gA top p (by omega)];omega
   refine lS B'.eb rfl (c_ B'.eb rfl (aA (aH B'.e1) (eL (by omega)) (aA rfl (qr (by rw[Mx.di I.tn.isA kN];exact hp)) (c_ B'.eb rfl (aA (aH B'.e1) (eL (by omega)) (aA rfl (qr (by rw[Mx.di I.tn.isA ht];exact hp)) (lI htp' ?_)))))));refine⟨b,xb,xu,xc,N,w,k,top,c.A,c.U,c.C,_,rfl,B',I.tn.isA,I.tn.dQ,I.tn.fY,kN,ht,hN,hw,λ x hx=>?_,λ x hx=>?_,λ x hx=>?_,λ st2 B2 l2 f2=>?_⟩
   . obtain⟨q,rfl⟩:=Bh hx;rw[gA top q (by omega)];exact ef (by rw[V3];exact hq) (hlo q).1 (by omega)
   . obtain⟨q,rfl⟩:=Bh hx;rw[gU top q (by omega)];exact ef (by rw[V3];exact hq) (hlo q).2.1 (by omega)
   . obtain⟨q,rfl⟩:=Bh hx;rw[gC k q (by omega)];exact ef hq (hhi k q hk).2.2 (by omega)
   . have el:Mx.ny p top (k+1) ⟨A,U,C⟩=⟨Mx.bN c.A k ((Mx.g c.A k p).fdiv (Mx.g c.A top p)) top,Mx.bN c.U k ((Mx.g c.A k p).fdiv (Mx.g c.A top p)) top,Mx.bN c.C top (-((Mx.g c.A k p).fdiv (Mx.g c.A top p))) k⟩:=by rw[<-hc];rfl
     refine next _ _ ⟨_,rfl,?_,λ m h1 h2 h3=>(f2 m h1 h2 h3).trans (f m h1 h2 h3),?_⟩
     . rw[el];exact B2
     . rw[el];exact hs
structure Bk(st st':ag):Prop where
 le:st.length<=st'.length
 fr:∀m,m<st.length->m≠0->st'[m]?=st[m]?
 tb:∃f,st'[0]?=some (gG f)
def oY:cy:=λ ds st K=>∃(d:D) (N w e0:Nat) (A:List (List Int)) (f:Bool),ds=[d]/\fv st d A/\Mx.cj N w A/\1<=N/\N<=8/\w<=9/\Mx.iG A N 0 (2^e0)/\(∀t,t<=N->Mx.Ez N e0 t<=50000000/\Mx.Vz N e0 t<=60000000)/\st[0]?=some (gG f)/\
 ∀st' (top:Nat) (c:Mx.B3) (ld:Nat->Nat),Mx.rR A N w top c->Mx.g9 A N w c top w ld (Mx.Ez N e0 top) (Mx.Vz N e0 top)->Bk st st'->K (.tup [bQ (c.A.take top),bQ c.U,bQ (Mx.dg c.C N)]) st'
def pv:List Str:=["rows","bench","top","place","back"]
def Ff:DS:=(aJ (bo 1 (E3 aL lH (af (ae 0) ao)))
 (aJ (bo 2 (dC (.int 0)))
 (aJ (jd (eg (af (bO dF (af (aw aW (ae 0) (dC (.int 0))) ao)) ao)) (bI 3) (dz (bh (kM aL "gather" m_ (ae 1) (af (ae 2) (af (ae 3) ao)))) (aJ (ji (kM aL "lower_above" jG (ae 1) (af (ae 2) (af (ae 3) ao))))
 (Fh 2 (Dp (λ i j=>i+j)) (dC (.int 1)))) de))
 (aJ (bo 4 (ay gH (af (eS aL "back_columns" (ae 1)) (af (bO dF (af (ae 0) ao)) ao))))
 (bc (jC (af (ay qK (af (hO (eS aL "body" (ae 1)) iJ (gT (ae 2))) ao)) (af (ay qK (af (eS aL "turn" (ae 1)) ao)) (af (ae 4) ao)))))))))
def u5{st st':ag}{f:Bool}(h0:st[0]?=some (gG f))(fr:∀m,m<st.length->m≠0->st'[m]?=st[m]?){d:D}{xs:List D}(h:items? st d=some xs):items? st' d=some xs:=by
 cases d with
 |ref n=>
  have e:=oj h;have n0:n≠0:=vP e h0;rw[aH ((fr n (Ui.mp e).1 n0).trans e)]
 |_=>exact h
def Am{st st':ag}{f:Bool}(h0:st[0]?=some (gG f))(fr:∀m,m<st.length->m≠0->st'[m]?=st[m]?):∀ {ds:List D} {A:List (List Int)},bK st ds A->bK st' ds A
 | [],[],_=>trivial
 |_::_,_::_,h=>⟨u5 h0 fr h.1,Am h0 fr h.2⟩
def yB{st st':ag}{f:Bool}(h0:st[0]?=some (gG f))(fr:∀m,m<st.length->m≠0->st'[m]?=st[m]?){d:D}{A:List (List Int)}(h:fv st d A):fv st' d A:=by
 obtain⟨ds,h1,h2⟩:=h.ex;exact⟨ds,u5 h0 fr h1,Am h0 fr h2⟩
def D4:Ug oY 1 Ff pv:=by
 rintro ds st K ⟨d,N,w,e0,A,f,rfl,hd,hA,hN1,hN,hw,hlo,hsz,h0,kk⟩;refine⟨rfl,?_⟩;have lA:=hA.len;have h0l:0<st.length:=(Ui.mp h0).1;have hd1:fv (st++[Cell.ins aL []]) d A:=yB h0 (λ m hm _=>Us hm) hd;refine⟨st.length,N,d,A,rfl,by simp,hd1,lA,hN,λ st1 B1 l1 f1=>⟨rfl,?_⟩⟩;have hl1:(st++[Cell.ins aL []]).length=st.length+1:=by simp
 have fr1:∀m,m<st.length->st1[m]?=st[m]?:=λ m hm=>by rw[f1 m (by omega) (by omega),Us hm]
 have O1:Bo st.length st st1 st.length (st.length+1) (st.length+1+1) (st.length+1+2):=⟨⟨h0l,by omega,by omega,by omega,by omega⟩,λ m hm _=>fr1 m hm,f,(fr1 0 h0l).trans h0⟩
 rw[hl1]at B1;have hdk:∀ {st':ag},(∀m,m<st.length->m≠0->st'[m]?=st[m]?)->fv st' d A:=λ h=>yB h0 h hd;obtain⟨da,hda,hra⟩:=(hdk O1.fr).ex;have hdl:=hra.len
 have hrow0:∃d0,da[0]?=some d0/\items? st1 d0=some (aB (A.getD 0 [])):=by
  have hi:0<da.length:=by omega
  obtain⟨r,e1,e2⟩:=bK.get hra (Uv hi);refine⟨da[0],Uv hi,?_⟩;have:A.getD 0 []=r:=by rw[Uu,e1];rfl
  rw[this];exact e2
 obtain⟨d0,hd0,hi0⟩:=hrow0;have er:(aB (A.getD 0 [])).length=w:=by unfold aB;rw[Uh];exact Mx.di hA (by omega)
 try dsimp only[ao]
 refine iQ (A:=bo 2 _) (λ σ st'=>σ=[some d,some (.ref st.length),some (.int 0),none,none]/\st'=st1) (λ nx h=>h _ _ ⟨rfl,rfl⟩) ?_;rintro _ _ ⟨rfl,rfl⟩;refine iQ (A:=jd _ _ _) (λ σ st'=>∃(top xb xu xc:Nat) (v3:Option D) (c:Mx.B3) (ld:Nat->Nat),σ=[some d,some (.ref st.length),some (.int top),v3,none]/\Bn st' st.length xb xu xc c.A c.U c.C/\Bo st.length st st' st.length xb xu xc/\Mx.rR A N w top c/\Mx.g9 A N w c top w ld (Mx.Ez N e0 top) (Mx.Vz N e0 top)) (λ nx hnx=>?_) ?_
 . refine aA hda (show d_ da 0=some d0 from iS (j:=0) hd0) (cJ hi0 ?_);rw[er];refine ft ⟨by omega,by omega⟩ ?_;rw[UJ];refine lQ w (λ p σ st'=>∃(top xb xu xc:Nat) (v3:Option D) (c:Mx.B3) (ld:Nat->Nat),σ=[some d,some (.ref st.length),some (.int top),v3,none]/\Bn st' st.length xb xu xc c.A c.U c.C/\Bo st.length st st' st.length xb xu xc/\Mx.rR A N p top c/\Mx.g9 A N w c top p ld (Mx.Ez N e0 top) (Mx.Vz N e0 top)) ?_ ?_ ⟨0,_,_,_,none,⟨A,Mx.units N,Mx.units N⟩,λ _=>0,rfl,B1,O1,.start,Mx.g9.start hA hlo⟩
   . rintro σ st' ⟨top,xb,xu,xc,v3,c,ld,rfl,B,O,hC,S⟩;exact hnx _ _ ⟨top,xb,xu,xc,v3,c,ld,rfl,B,O,hC,S⟩
   . rintro p σ st' rest hp ⟨top,xb,xu,xc,v3,c,ld,rfl,B,O,hC,S⟩ next
     refine⟨_,rfl,?_⟩;have hle:=S.le
     have hz1:(N-top+1)*(Mx.Ez N e0 top+1)<=60000000:=by
      by_cases ht:top<N
      . exact Um (hsz (top+1) ht).1 (by decide)
      . have e:N-top=0:=by omega
        rw[e];have:=(hsz top hle).1;omega
     refine lS B.eb rfl ?_;refine⟨st.length,st.length,xb,xu,xc,N,w,top,p,_,_,A,c.A,c.U,c.C,ld,rfl,B,⟨O.lo,λ _ _ _=>rfl,O.tb⟩,S,hN,hw,hp,hz1,λ st2 B2 O2 hL=>?_,λ st2 xb2 xu2 xc2 c2 r B2 O2 hR hL ht s1=>?_⟩
     . exact yE (next _ _ ⟨top,xb,xu,xc,_,c,ld,rfl,B2,⟨O2.lo,λ m h1 h2=>(O2.fr m h1 h2).trans (O.fr m h1 h2),O2.tb⟩,.next hC (.none hL),S.skip hL⟩)
     . refine fb ?_;have O2':Bo st.length st st2 st.length xb2 xu2 xc2:=⟨O2.lo,λ m h1 h2=>(O2.fr m h1 h2).trans (O.fr m h1 h2),O2.tb⟩
       have hup:∀i q,i<top->Mx.g (Mx.setB c2 p top r).A i q=Mx.g c.A i q/\Mx.g (Mx.setB c2 p top r).U i q=Mx.g c.U i q/\Mx.g (Mx.setB c2 p top r).C i q=Mx.g c.C i q:=λ i q hi=>by
        obtain⟨a1,a2,a3⟩:=s1.up i hi;unfold Mx.g;rw[a1,a2,a3];exact⟨rfl,rfl,rfl⟩
       refine lS B2.eb rfl ?_;refine⟨st.length,xb2,xu2,xc2,N,w,top,p,Mx.Ez N e0 (top+1),Mx.Vz N e0 top,A,_,_,_,rfl,B2,s1.tn,hN,hw,hp,ht,s1.tp,λ q hq=>s1.zs top q (Uk _) ht hq,λ q=>⟨s1.lo.1 top q (Uk _) ht,s1.lo.2.1 top q (Uk _) ht,s1.lo.2.2 top q (Uk _) ht⟩,λ i q hi=>?_,Um (hsz (top+1) ht).1 (by decide),Um (hsz top hle).2 (by decide),λ st3 B3 f3 I=>?_⟩
       . obtain⟨a1,a2,a3⟩:=hup i q hi;rw[a1,a2,a3];exact S.hi i q hi
       . have hS:=Mx.lb.next (e':=Mx.Ez N e0 (top+1)) (u':=Mx.Vz N e0 (top+1)) S s1 ht I hN (by show _<=Mx.Vz N e0 top+Mx.Vz N e0 top+Mx.Ez N e0 (top+1)+5;omega) (by show _<=Mx.Vz N e0 top+Mx.Vz N e0 top+Mx.Ez N e0 (top+1)+5;omega);exact next _ _ ⟨top+1,xb2,xu2,xc2,_,_,_,rfl,B3,O2'.low f3,.next hC (.one hR hL),hS⟩
 . rintro σ st2 ⟨top,xb,xu,xc,v3,c,ld,rfl,B,O,hC,S⟩;have T:=S.tn;have lN:=T.isA.len;refine c_ B.eb rfl ?_;obtain⟨da2,hda2,hra2⟩:=(hdk O.fr).ex;refine cJ hda2 ?_;rw[hra2.len,lA];refine⟨_,c.C,N,rfl,⟨_,aH B.e3,bK.lst⟩,T.fY.dO,by rw[T.fY.len];omega,by omega,?_⟩;refine c_ B.eb rfl (z8 B.e1 ?_);rw[yn,<-Yh];refine⟨_,c.A.take top,rfl,⟨_,rfl,bK.lst⟩,by rw[Vo];omega,?_⟩;refine c_ B.eb rfl ?_;refine⟨_,c.U,rfl,⟨_,aH B.e2,bK.lst⟩,by rw[T.dQ.len];omega,?_⟩;refine⟨by show 3<=sizeLine;decide,?_⟩;refine kk st2 top c ld hC S ⟨?_,O.fr,O.tb⟩;have:=(Ui.mp B.eb).1;omega
structure Wg(F:List (List Int))(m w f:Nat):Prop where
 is:Mx.cj m w F
 st:Mx.cC F m w (Mx.cP F)
 m8:m<=8
 w8:w<=8
 sm:∀k c,k<m->c<w->(Mx.g F k c).natAbs<=2^f
abbrev Wf(F:List (List Int))(m w:Nat):Prop:=Wg F m w 887
def Wg.lead{F:List (List Int)}{m w f i:Nat}(h:Wg F m w f)(hi:i<m):Mx.cP F i<w/\0<Mx.g F i (Mx.cP F i)/\(F.getD i []).length=w/\fo (F.getD i [])= .int ((Mx.cP F i:Nat):Int):=by
 obtain⟨l1,l2,l3⟩:=h.st.lead i hi;refine⟨l1,l2,h.is.row hi,?_⟩;unfold fo;rw[uL l3 (W_ l2)]
def Wg.row{F:List (List Int)}{m w f i:Nat}(h:Wg F m w f)(hi:i<m):∀x∈F.getD i [],x.natAbs<=2^f:=λ x hx=>by
 obtain⟨c,hc,rfl⟩:=UD.mp hx;have hw:=h.is.row hi;have:=h.sm i c hi (by omega);unfold Mx.g at this;rwa [Mx.aG hc]at this
def u_{i:Nat}{σ:cf}{st:ag}{K:DK}{d:D}(h:σ[i]?=some (some d))(k:K d st):ae i σ st K:=by
 unfold ae;simp only[h];exact k
def qx:cy:=λ ds st K=>∃(dr:D) (F:List (List Int)) (r:List Int) (m w f:Nat),ds=[bQ F,dr]/\Wg F m w f/\items? st dr=some (aB r)/\r.length=w/\(∀i,i<m->∀b∈F.getD i [],IntMulOk (-(Mx.n_ F (Mx.dM F r i) i)) b)/\∀st',Ext st st'->K (.tup [aY (Mx.qf F r m),aY (Mx.dM F r m)]) st'
def qX:List Str:=["form","row","weights","left","each","lead","weight"]
def HY:DS:=(aJ (bo 2 (xH ao))
 (aJ (bo 3 (bO qH (af (ae 1) ao)))
 (aJ (jd (dZ (ae 0)) (bI 4) (aJ (bo 5 (ay gg (af (ae 4) ao)))
 (aJ (bo 6 (aw mG (aw aW (ae 3) (ae 5)) (aw aW (ae 4) (ae 5))))
 (aJ (ji (iY (ae 2) (ae 6)))
 (bo 3 (ay mX (af (ae 3) (af (oS jJ (ae 6)) (af (ae 4) ao)))))))))
 (bc (jC (af (bO dA (af (ae 2) ao)) (af (bO dA (af (ae 3) ao)) ao)))))))
def FO:Ug qx 2 HY qX:=by
 rintro ds st K ⟨dr,F,r,m,w,f,rfl,hW,hr,lr,hm,k⟩;refine⟨rfl,?_⟩;have lF:=hW.is.len;have m8:=hW.m8;have w8:=hW.w8;refine⟨Ux rfl,?_⟩;have X0:Ext st (st++[.lst []]):=Ext.push;have e0:(st++[Cell.lst []])[st.length]?=some (.lst (aB [])):=by simp
 refine wc (X0.items hr) (jx ?_);refine iF (λ rest σ st'=>∃(i:Nat) (v4 v5 v6:Option D),i<=m/\rest=(F.map aY).drop i/\σ=[some (bQ F),some dr,some (.ref st.length),some (a6 (Mx.dM F r i)),v4,v5,v6]/\Ext st st'/\st'[st.length]?=some (.lst (aB (Mx.qf F r i)))) ?_ ?_ _ _ _ ⟨0,none,none,none,US _,rfl,rfl,X0,e0⟩
 . rintro σ st' ⟨i,v4,v5,v6,hi,hrest,rfl,X,ew⟩;have e1:i=m:=XE hi (by rw[<-lF];exact drop_nil hrest);subst e1;exact⟨trivial,c8 (aH ew) (c8 rfl ⟨Ux rfl,k st' X⟩)⟩
 . rintro x rest σ st' ⟨i,v4,v5,v6,hi,hrest,rfl,X,ew⟩ next
   obtain⟨hiF,rfl,rfl⟩:=drop_cons hrest;have him:i<m:=by rw[<-lF];exact hiF
   obtain⟨l1,l2,wF,eld⟩:=hW.lead him;have lL:=Mx.l9 hW.is lr (i:=i) (VN him);refine⟨trivial,_,rfl,_,F.getD i [],rfl,rfl,?_⟩;rw[eld];have at1:d_ (aB (F.getD i [])) ((Mx.cP F i:Nat):Int)=some (.int (Mx.g F i (Mx.cP F i))):=fO (by omega);have at2:d_ (aB (Mx.dM F r i)) ((Mx.cP F i:Nat):Int)=some (.int ((Mx.dM F r i).getD (Mx.cP F i) 0)):=fO (by omega);refine aA rfl at2 (aA rfl at1 (lI (by omega) ?_));show aJ _ _ _ [_,_,_,_,_,_,some (.int (Mx.n_ F (Mx.dM F r i) i))] _;have lW:(Mx.qf F r i).length=i:=by unfold Mx.qf;simp
   refine ql (by rfl) ew (u_ rfl (nt ew (by rw[V5,Uh,lW];omega) ?_));have hlt:=(Ui.mp ew).1;refine iP ?_;refine⟨_,_,_,Mx.dM F r i,F.getD i [],rfl,rfl,rfl,by omega,hm i him,?_⟩;refine next _ _ ⟨i+1,_,_,_,him,rfl,rfl,X.set (Uk _),?_⟩
   rw[Uq hlt,ints_app];congr 3;unfold Mx.qf;rw[W3,VX];rfl
def sI:cy:=λ ds st K=>∃(dr:D) (F:List (List Int)) (r:List Int) (m w f:Nat),ds=[bQ F,dr]/\Wg F m w f/\items? st dr=some (aB r)/\r.length=w/\(∀i,i<m->∀b∈F.getD i [],IntMulOk (-(Mx.n_ F (Mx.dM F r i) i)) b)/\∀st',Ext st st'->K (aY (Mx.dM F r m)) st'
def vJ:List Str:=["form","row"]
def Me:DS:=(bc (aw aW (ay qx (af (ae 0) (af (ae 1) ao))) (dC (.int 1))))
def JV:Ug sI 2 Me vJ:=by
 rintro ds st K ⟨dr,F,r,m,w,f,rfl,hW,hr,lr,hm,k⟩;exact⟨rfl,dr,F,r,m,w,f,rfl,hW,hr,lr,hm,λ st' X=>aA rfl rfl (k st' X)⟩
def x3(st:ag):List D->List Rat->Prop
 | [],[]=>True
 |d::ds,q::qs=>items? st d=some [.int q.num,.int ((q.den:Nat):Int)]/\x3 st ds qs
 |_,_=>False
def x3.of{st:ag}:∀ {ps:List Rat},x3 st (ps.map iz) ps
 | []=>trivial
 |_::_=>⟨rfl,x3.of⟩
def kK:cy:=λ ds st K=>∃(dp dr:D) (xs:List D) (ps:List Rat) (r:List Int) (t e:Nat),ds=[dp,dr]/\items? st dp=some xs/\x3 st xs ps/\items? st dr=some (aB r)/\Mx.Pb ps t/\(∀x∈r,x.natAbs<=2^e)/\t+ps.length*(e+1)<=60000000/\K (iz (Mx.mP 0 ps r)) st
def nR:List Str:=["parts","row","total","one","number"]
def DY:DS:=(aJ (bo 2 (ay mS (af (dC (.int 0)) ao)))
 (aJ (jd (qi (af (ae 0) (af (ae 1) ao))) (f_ 3 4) (bo 2 (ay Dt (af (ae 2) (af (ay zI (af (ae 3) (af (ay mS (af (ae 4) ao)) ao))) ao)))))
 (bc (ae 2))))
def C7:Ug kK 2 DY nR:=by
 rintro ds st K ⟨dp,dr,xs,ps,r,t,e,rfl,hp,hx,hr,hP,hsm,hB,k⟩;refine⟨rfl,?_⟩;refine⟨_,rfl,?_⟩;refine oC hp hr λ ok aO=>?_;refine iF (λ rest σ st'=>st'=st/\∃(xs':List D) (ps':List Rat) (r':List Int) (tot:Rat) (T C:Nat) (v3 v4:Option D),rest=gd xs' (aB r')/\x3 st xs' ps'/\σ=[some dp,some dr,some (iz tot),v3,v4]/\Mx.Sz tot T/\Mx.Pb ps' C/\(∀x∈r',x∈r)/\Mx.mP tot ps' r'=Mx.mP 0 ps r/\T+C+ps'.length*(e+1)<=60000000) ?_ ?_ _ _ _ ⟨rfl,xs,ps,r,0,0,t,none,none,rfl,hx,rfl,⟨by decide,by decide⟩,hP,λ _ h=>h,rfl,by omega⟩
 . rintro σ st' ⟨rfl,xs',ps',r',tot,T,C,v3,v4,he,hx',rfl,hT,hC,_,hd,hle⟩;refine⟨aO _ hp hr,?_⟩
   have:Mx.mP tot ps' r'=tot:=by
    match xs',ps',r',hx',he with
    | [],[],_,_,_=>unfold Mx.mP;rfl
    |_::_,_::_,[],_,_=>unfold Mx.mP;rfl
    |_::_,_::_,_::_,_,he=>cases he
   rw[<-hd,this]at k;exact k
 . rintro x rest σ st' ⟨rfl,xs',ps',r',tot,T,C,v3,v4,he,hx',rfl,hT,hC,hm,hd,hle⟩ next
   match xs',ps',r',he,hx',hC,hm,hd,hle with
   | [],[],_,he,_,_,_,_,_=>cases he
   |_::_,_::_,[],he,_,_,_,_,_=>cases he
   |d::xs',p::ps',n::r',he,hx',⟨a,C',ha,hC',hbC⟩,hm,hd,hle=>
    have hz:gd (d::xs') (aB (n::r'))= .tup [d,.int n]::gd xs' (aB r'):=rfl;rw[hz,W0]at he;obtain⟨rfl,rfl⟩:=he;have hn:=hsm n (hm n UP);rw[UT,W6]at hle;have s1:=Mx.Sz.int hn;refine⟨aO _ hp hr,_,rfl,?_⟩;refine⟨_,rfl,d,_,p,(n:Rat),a,e,rfl,⟨hx'.1,ha⟩,Fq.of s1,by omega,?_⟩;refine⟨_,_,tot,p*(n:Rat),T,a+e,rfl,Fq.of hT,Fq.of (ha.mul s1),by omega,?_⟩;exact next _ _ ⟨rfl,xs',ps',r',_,_,C',_,_,rfl,hx'.2,rfl,hT.add (ha.mul s1),hC',λ x hx=>hm x (UG _ hx),hd,by omega⟩
def rT:cy:=λ ds st K=>∃(F:List (List Int)) (R:List Int) (m w l:Nat),ds=[bQ F,aY R,.int l]/\Wf F m w/\R.length=w/\l<w/\∀b:Int,Mx.EX F m l (R.getD l 0) b->K (.int b) st
def nK:List Str:=["form","rest","place","row"]
def DW:DS:=(aJ (jd (dZ (ae 0)) (bI 3) (dz (bh (aw iW (ay gg (af (ae 3) ao)) (ae 2))) (bc (aw aW (ae 3) (ae 2))) de))
 (bc (aw dh (dC (.int 2)) (bO sV (af (aw aW (ae 1) (ae 2)) ao)))))
def Dr:Ug rT 3 DW nK:=by
 rintro ds st K ⟨F,R,m,w,l,rfl,hW,lR,hl,k⟩;refine⟨rfl,?_⟩;have lF:=hW.is.len;refine jx ?_;refine iF (λ rest σ st'=>st'=st/\∃(i:Nat) (v3:Option D),i<=m/\rest=(F.map aY).drop i/\σ=[some (bQ F),some (aY R),some (.int l),v3]/\∀k,k<i->Mx.cP F k≠l) ?_ ?_ _ _ _ ⟨rfl,0,none,US _,rfl,rfl,λ k h=>absurd h (UX _)⟩
 . rintro σ st' ⟨rfl,i,v3,hi,hrest,rfl,hn⟩;have:=drop_nil hrest;exact⟨trivial,aA rfl (fO (by omega)) (u9 (dH (fQ (by decide) (by decide)) (k _ (.inr ⟨λ k hk=>hn k (by omega),rfl⟩))))⟩
 . rintro x rest σ st' ⟨rfl,i,v3,hi,hrest,rfl,hn⟩ next
   obtain⟨hiF,rfl,rfl⟩:=drop_cons hrest;have him:i<m:=by rw[<-lF];exact hiF
   obtain⟨l1,l2,wF,eld⟩:=hW.lead him;refine⟨trivial,_,rfl,_,F.getD i [],rfl,rfl,?_⟩;rw[eld];refine eq2 (λ h=>fb ?_) λ h=>next _ _ ⟨rfl,i+1,_,him,rfl,rfl,λ k hk=>?_⟩
   . have hh:Mx.cP F i=l:=by omega
     exact aA rfl (fO (by omega)) (k _ (.inl ⟨i,him,hh,rfl⟩))
   . by_cases q:k=i
     . subst q;omega
     . exact hn k (by omega)
def Ai:∀(r:List Int) (i l:Nat),ir r i=some l->∃k,l=i+k/\k<r.length/\r.getD k 0≠0/\∀c,c<k->r.getD c 0=0
 | [],_,_,h=>by cases h
 |x::r,i,l,h=>by
  unfold ir at h;split at h
  . rename_i hx;obtain⟨k,e,hk,hr,hz⟩:=Ai r (i+1) l h;refine⟨k+1,by omega,YB hk,hr,λ c hc=>?_⟩;cases c with
    |zero=>exact hx
    |succ c=>exact hz c (YR hc)
  . cases h;exact⟨0,rfl,Nat.succ_pos _,by assumption,λ c hc=>absurd hc (UX _)⟩
def nE{r:List Int}{l:Nat}(h:fx r=some l):l<r.length/\r.getD l 0≠0/\∀c,c<l->r.getD c 0=0:=by
 obtain⟨k,e,h1,h2,h3⟩:=Ai r 0 l h;rw[W8]at e;subst e;exact⟨h1,h2,h3⟩
def mm:cy:=λ ds st K=>∃(F:List (List Int)) (R:List Int) (m w e l:Nat),ds=[bQ F,aY R]/\Wf F m w/\R.length=w/\fx R=some l/\(∀c,c<w->(R.getD c 0).natAbs<=2^e)/\e<=10000/\∀st' b,Ext st st'->Mx.EX F m l (R.getD l 0) b->Mx.Pb (Mx.oQ F m w l (Mx.kL w l b) m) 10000000->K (.tup ((Mx.oQ F m w l (Mx.kL w l b) m).map iz)) st'
def jT:List Str:=["form","rest","place","parts","k","lead","owed"]
def yN:DS:=(aJ (bo 2 (ay gg (af (ae 1) ao)))
 (aJ (bo 3 (aw yh (uD (af (ay mS (af (dC (.int 0)) ao)) ao)) (bO dF (af (ae 1) ao))))
 (aJ (fy (ae 3) (ae 2) (ay qj (af (dC (.int 1)) (af (ay rT (af (ae 0) (af (ae 1) (af (ae 2) ao)))) ao))))
 (aJ (jd (zz (af (aw m9 (bO dF (af (ae 0) ao)) (dC (.int 1))) (af (oS jJ (dC (.int 1))) (af (oS jJ (dC (.int 1))) ao)))) (bI 4) (aJ (bo 5 (ay gg (af (aw aW (ae 0) (ae 4)) ao)))
 (dz (bh (aw oR (ae 5) (ae 2))) (aJ (bo 6 (ay zV (af (ay mS (af (dC (.int 0)) ao)) (af (ay kK (af (ae 3) (af (aw aW (ae 0) (ae 4)) ao))) ao))))
 (fy (ae 3) (ae 5) (ay BP (af (ae 6) (af (ay mS (af (aw aW (aw aW (ae 0) (ae 4)) (ae 5)) ao)) ao))))) de)))
 (bc (bO dA (af (ae 3) ao)))))))
def ow(a:Int)(n:Nat):(jh a n).length=n:=by unfold jh;simp
def H0{m i:Nat}{d:D}{rest:List D}(hr:d::rest=(jh ((m:Int)-1) m).drop i):i<m/\d= .int ((m-1-i:Nat):Int)/\rest=(jh ((m:Int)-1) m).drop (i+1):=by
 have hi:i<m:=by
  rcases V8 i m with h|h
  . exact h
  . rw[VA (by rw[ow];exact h)]at hr;cases hr
 have hl:i<(jh ((m:Int)-1) m).length:=by rw[ow];exact hi
 rw[Vj hl]at hr;obtain⟨h1,h2⟩:=Ws hr;refine⟨hi,?_,h2⟩;have h3:(jh ((m:Int)-1) m)[i]=D.int ((m:Int)-1+(i:Nat)*(-1)):=by simp[jh]
 rw[h1,h3];congr 1;omega
def sf{A:List (List Int)}{k:Nat}(h:k<A.length):d_ (A.map aY) (k:Int)=some (aY (A.getD k [])):=by
 refine iS ?_;rw[UB,Uv h,Mx.aG h];rfl
def BV{α:Type}(d:α):∀n:Nat,(List.replicate n [d]).flatten=List.replicate n d
 |0=>rfl
 |n+1=>by rw[Vn,VV,BV d n,Vn];rfl
def JP{ps:List Rat}{r:List Int}{w:Nat}(h1:ps.length=w)(h2:r.length=w):Mx.mP 0 ps r=Mx.dq ps w λ c=>r.getD c 0:=by
 rw[Mx.HB ps r 0 h1 h2];grind
def w6:Ug mm 2 yN jT:=by
 rintro ds st K ⟨F,R,m,w,e,l,rfl,hW,lR,el,bR,he,k⟩;refine⟨rfl,?_⟩;have lF:=hW.is.len;have m8:=hW.m8;have w8:=hW.w8;obtain⟨hl,hne,_⟩:=nE el;rw[lR]at hl;have el':fo R= .int (l:Int):=by unfold fo;rw[el]
 refine⟨_,R,rfl,rfl,?_⟩;rw[el'];refine⟨_,rfl,Ux rfl,cJ rfl (Np ⟨by omega,by rw[Uh];omega,bL (by simp;omega)⟩ ?_)⟩;rw[Uh,lR,UJ,BV];have er:List.replicate w (iz ((0:Int):Rat))=(List.replicate w (0:Rat)).map iz:=by rw[List.map_replicate];rfl
 rw[er];have X0:Ext st (st++[.lst ((List.replicate w (0:Rat)).map iz)]):=Ext.push;have e0:(st++[Cell.lst ((List.replicate w (0:Rat)).map iz)])[st.length]?=some (.lst ((List.replicate w (0:Rat)).map iz)):=by simp
 generalize st++[Cell.lst ((List.replicate w (0:Rat)).map iz)]=st1 at X0 e0⊢;refine⟨F,R,m,w,l,rfl,hW,lR,hl,λ b hb=>?_⟩;have b0:=hb.pos hW.st hne
 have bb:b.natAbs<=2^(e+888):=by
  rcases hb with⟨k,hk,_,rfl⟩|⟨_,rfl⟩
  . exact Um (hW.sm k l hk hl) (UE (by decide) (by omega))
  . have:=bR l hl;rw[show e+888=e+887+1 by omega,VD];have p:2^e<=2^(e+887):=UE (by decide) (by omega);omega
 refine⟨_,_,rfl,by omega,?_⟩
 have hix:∀ {n i:Nat},i<n->jV n (i:Int)=some i:=λ{n i} h=>by
  unfold jV;simp only[WL,UJ];simp[h]
 refine iD e0 (hix (by simpa using hl)) ?_;have hlt:=(Ui.mp e0).1;refine cJ rfl (qu (iP (iP ?_)));rw[Uh,lF];refine Mt ⟨by omega,by omega,by decide,by decide⟩ ?_;rw[show((m:Int)-1- -1).toNat=m by omega]
 have p0:Mx.Pb (Mx.kL w l b) (e+888):=by
  have:=(Mx.Pb.rep w).set (k:=l) (Mx.Sz.of (t:=1) (by omega) (show(1:Int).natAbs<=2^(e+888)from YN (by decide)) bb);rwa [W8]at this
 refine iF (λ rest σ st'=>∃(i t:Nat) (v4 v5 v6:Option D),i<=m/\rest=(jh ((m:Int)-1) m).drop i/\σ=[some (bQ F),some (aY R),some (.int l),some (.ref st.length),v4,v5,v6]/\Ext st st'/\st'[st.length]?=some (.lst ((Mx.oQ F m w l (Mx.kL w l b) i).map iz))/\Mx.Pb (Mx.oQ F m w l (Mx.kL w l b) i) t/\t+8000<=2^i*(e+8888)) ?_ ?_ _ _ _ ⟨0,e+888,none,none,none,US _,rfl,rfl,X0.set (Uk _),by rw[Uq hlt,<-XI];rfl,p0,by omega⟩
 . rintro σ st' ⟨i,t,v4,v5,v6,hi,hrest,rfl,X,ep,hP,ht⟩
   have e1:i=m:=by
    have:=VU List.length hrest;rw[VH,ow,WM]at this;omega
   subst e1;have h2i:2^i<=256:=Um (UE (by decide) m8) (by decide);have:=U_ h2i (show e+8888<=18888 by omega);exact⟨trivial,c8 (aH ep) (k st' b X hb (hP.mono (by omega)))⟩
 . rintro x rest σ st' ⟨i,t,v4,v5,v6,hi,hrest,rfl,X,ep,hP,ht⟩ next
   obtain⟨him,rfl,rfl⟩:=H0 hrest;have P:=Mx.p_.all b hW.st hl (i:=i) hi;have hstep:Mx.oQ F m w l (Mx.kL w l b) (i+1)=Mx.He F w l (Mx.oQ F m w l (Mx.kL w l b) i) (m-1-i):=rfl;generalize Mx.oQ F m w l (Mx.kL w l b) i=ps at P hP ep hstep;generalize hj:m-1-i=j at hstep;have hjm:j<m:=by omega
   obtain⟨l1,l2,wF,eld⟩:=hW.lead hjm;have lp:=P.len;have hat:d_ (F.map aY) (j:Int)=some (aY (F.getD j [])):=sf (by omega);refine⟨trivial,_,rfl,aA rfl hat ⟨_,F.getD j [],rfl,rfl,?_⟩⟩;rw[eld];have h2i:2^i<=128:=Um (UE (by decide) (show i<=7 by omega)) (by decide);have ht2:=U_ h2i (show e+8888<=18888 by omega);have e2:2^(i+1)*(e+8888)=2^i*(e+8888)+2^i*(e+8888):=by rw[VD,Nat.mul_two,Xm]
   unfold Mx.He at hstep;refine zY (λ hlp=>fb ?_) λ hlp=>?_
   . rw[Ur (by omega)]at hstep;have hpl:ps.length*(887+1)<=8*888:=U_ (by omega) (by decide);refine⟨_,rfl,aA rfl hat ⟨_,_,_,ps,F.getD j [],t,887,rfl,aH ep,x3.of,rfl,hP,hW.row hjm,by omega,?_⟩⟩;have sd:=Mx.Pb.mP (r:=F.getD j []) (x:=0) (s:=0) ⟨by decide,by decide⟩ hP (hW.row hjm);rw[JP lp wF]at sd⊢;refine⟨_,_,0,_,0,_,rfl,Fq.of ⟨by decide,by decide⟩,Fq.of sd,by omega,?_⟩
     have hnum:(((Mx.g F j (Mx.cP F j):Int)):Rat).num≠0:=by
      show Mx.g F j (Mx.cP F j)≠0;omega
     have sg:=Mx.Sz.int (hW.sm j _ hjm l1);refine aA rfl hat (aA rfl (fO (by omega)) ⟨_,rfl,_,_,_,_,_,_,rfl,Fq.of sd.neg,Fq.of sg,by omega,hnum,?_⟩);refine iD ep (hix (by rw[Uh];omega)) ?_;have hlt2:=(Ui.mp ep).1;refine next _ _ ⟨i+1,t+(0+t+ps.length*(887+1)+887),_,_,_,him,rfl,rfl,X.set (Uk _),?_,?_,?_⟩
     . rw[Uq hlt2,<-XI,hstep];rfl
     . rw[hstep];exact hP.set (sd.neg.div sg hnum)
     . omega
   . rw[Up (by omega)]at hstep;refine next _ _ ⟨i+1,t,_,_,_,him,rfl,rfl,X,?_,?_,?_⟩
     . rw[hstep];exact ep
     . rw[hstep];exact hP
     . omega
def rO:cy:=λ ds st K=>∃(ps:List Rat) (w:Nat),ds=[.tup (ps.map iz),.int w]/\ps.length=w/\w<=1000/\K (.bl true) st
def nV:List Str:=["thing","many"]
def DJ:DS:=(bc (nM (ay gm (af (ae 0) (af (ae 1) ao))) (bO nz (af (cY (dZ (ae 0)) [none] (bI 0) bV (ay uO (af (ae 0) ao))) ao))))
def sv:∀l:List D,gS (l.map λ _=>D.bl true)=some (l.map λ _=>true)
 | []=>rfl
 |_::l=>by simp[gS,sv l]
def Bs(l:List D):(l.map λ _=>true).all id=true:=by simp
def Dx:Ug rO 2 DJ nV:=by
 rintro ds st K ⟨ps,w,rfl,lp,hw,k⟩;refine⟨rfl,?_⟩;refine⟨_,_,rfl,⟨_,rfl⟩,?_⟩;show if decide ((((ps.map iz).length:Nat):Int)=(w:Int))=true then _ else _
 rw[U9 (by rw[Uh,lp]),Ur rfl];refine jx ⟨bL (by rw[Uh];omega),?_⟩;refine comp_map (g:=λ _=> .bl true) trivial _ (λ d hd K' q=>?_) ?_
 . obtain⟨p,_,rfl⟩:=UI.mp hd;exact⟨_,rfl,p,rfl,q⟩
 refine oA (sv (ps.map iz)) ?_;rw[Bs];exact k
def pq:cy:=λ ds st K=>∃q:Rat,ds=[iz q]/\K (.bl (decide (q.den=1))) st
def pw:List Str:=["one"]
def Gs:DS:=(bc (aw iW (aw aW (ae 0) (dC (.int 1))) (dC (.int 1))))
def D1:Ug pq 1 Gs pw:=by
 rintro ds st K ⟨q,rfl,k⟩;refine⟨rfl,aA rfl rfl (eq2 (λ h=>?_) λ h=>?_)⟩
 . rw[U9 (by omega)]at k;exact k
 . rw[UQ (by omega)]at k;exact k
structure zZ(A:List (List Int))(N w:Nat)(r:List Int):Prop where
 is:Mx.cj N w A
 n1:1<=N
 n8:N<=8
 w8:w<=8
 bA:∀r∈A,∀x∈r,x.natAbs<=2^28
 lr:r.length=w
 br:∀x∈r,x.natAbs<=2^70
def pX:cy:=λ ds st K=>∃(A:List (List Int)) (r:List Int) (N w:Nat) (ps:List Rat),ds=[bQ A,aY r,.tup (ps.map iz)]/\zZ A N w r/\ps.length=w/\Mx.Pb ps 10000000/\(∀n,n<N->Mx.Wh (Mx.dq ps w (Mx.g A n)))/\(¬Mx.Wh (Mx.dq ps w λ c=>r.getD c 0))/\K (.bl true) st
def mh:List Str:=["rows","row","parts"]
def BU:DS:=(aJ (dz (mW (f7 (bh (ay rO (af (ae 2) (af (bO dF (af (ae 1) ao)) ao))))) (bh (ay pq (af (ay kK (af (ae 2) (af (ae 1) ao))) ao)))) (bc (dC (.bl false))) de)
 (bc (bO nz (af (cY (dZ (ae 0)) [none,some 2] (bI 0) bV (ay pq (af (ay kK (af (ae 1) (af (ae 0) ao))) ao))) ao))))
def AS:Ug pX 3 BU mh:=by
 rintro ds st K ⟨A,r,N,w,ps,rfl,⟨hA,n1,n8,w8,bA,lr,br⟩,lp,hP,hw,hn,k⟩;refine⟨rfl,?_⟩;have lA:=hA.len;refine cJ rfl ⟨ps,w,by rw[Uh,lr],lp,by omega,?_⟩;have pl8:ps.length*(70+1)<=8*71:=U_ (by omega) (by decide);refine⟨_,_,_,ps,r,_,70,rfl,rfl,x3.of,rfl,hP,br,by omega,?_⟩;rw[JP lp lr];refine⟨_,rfl,?_⟩;rw[UQ λ z=>hn (Mx.Wh.den.mpr z)];refine jx ⟨bL (by rw[Uh];omega),?_⟩;refine comp_map (g:=λ _=> .bl true) trivial _ (λ d hd K' q=>?_) ?_
 . obtain⟨s,hs,rfl⟩:=UI.mp hd;obtain⟨i,hi,rfl⟩:=UD.mp hs;have ls:=hA.dO _ hs;refine⟨_,rfl,_,_,_,ps,A[i],_,70,rfl,rfl,x3.of,rfl,hP,λ x hx=>Um (bA _ hs x hx) (by decide),by omega,?_⟩;rw[JP lp ls];refine⟨_,rfl,?_⟩
   have e:(λ c=>(A[i]).getD c 0)=Mx.g A i:=by
    funext c;unfold Mx.g;rw[Mx.aG hi]
   rw[e,U9 (Mx.Wh.den.mp (hw i (by omega)))];exact q
 refine oA (sv (A.map aY)) ?_;rw[Bs];exact k
def nh:cy:=λ ds st K=>∃(U:List (List Int)) (N m e1:Nat) (f:Bool),ds=[bQ U,.int m]/\Mx.cj N N U/\m<=N/\N<=8/\Mx.iG (U.drop m) (N-m) 0 (2^e1)/\(∀t,t<=N-m->Mx.Ez (N-m) e1 t<=50000000/\Mx.Vz (N-m) e1 t<=60000000)/\st[0]?=some (gG f)/\∀st' F m',Bk st st'->m'<=N-m->Wg F m' N (Mx.Uz (N-m) e1 m')->Mx.ug F m' (Mx.cP F)->Mx.Rn (U.drop m) (N-m) F m' N->K (bQ F) st'
def km:List Str:=["turn","many"]
def zT:DS:=(bc (Iv (bh (aw oR (ae 1) (bO dF (af (ae 0) ao)))) (aw aW (ay oY (af (hO (ae 0) (gT (ae 1)) iJ) ao)) (dC (.int 0))) (jC ao)))
def Ct{xs:List D}{j:Nat}:L3.cutD xs (some (j:Int)) none=xs.drop j:=by
 unfold L3.cutD;rw[HT.zK,HT.xj];by_cases h:j<=xs.length
 . rw[XG h,Xl (by rw[VH];omega)]
 . rw[Nat.min_eq_right (by omega),YS (Uk _),YS (by omega)];simp
def Bk.ext{st st1 st2:ag}(B:Bk st st1)(X:Ext st1 st2):Bk st st2:=by
 have l1:=B.le;obtain⟨f,e⟩:=B.tb;have l0:=(Ui.mp e).1;exact⟨by have:=X.len;omega,λ m hm h0=>by rw[X.same m (by omega),B.fr m hm h0],f,by rw[X.same 0 l0];exact e⟩
def PH:8*((9*2^48)^9*(9*2^48)^8)<=2^887:=by decide+kernel
def eU{A:List (List Int)}{t i c:Nat}(h:i<t):Mx.g (A.take t) i c=Mx.g A i c:=by
 have e:(A.take t).getD i []=A.getD i []:=by rw[Uu,Uu,List.getElem?_take,Ur h]
 unfold Mx.g;rw[e]
def Oe{A:List (List Int)}{N w top e u:Nat}{c:Mx.B3}{ld:Nat->Nat}(H:Mx.g9 A N w c top w ld e u)(hA:Mx.cj N w A)(n8:N<=8)(w8:w<=8)(bA:∀r∈A,∀x∈r,x.natAbs<=2^48):Wf (c.A.take top) top w:=by
 have le:=H.le;have lA:=H.tn.isA.len
 have s:Mx.cC (c.A.take top) top w ld:=⟨λ i hi=>by
  obtain⟨h1,h2,h3⟩:=H.lead i hi;exact⟨h1,by rw[eU hi];exact h2,λ c hc=>by rw[eU hi];exact h3 c hc⟩,H.mono⟩
 have sm:=(H.small n8 (b:=2^48) (YN (by decide)) λ i c hi hc=>by
  have lN:=hA.len;have hr:=hA.row hi;unfold Mx.g;refine bA _ (by rw[Mx.aG (by omega)];exact UL _) _ (getD_mem (by omega))).2
 exact⟨⟨by rw[Vo];omega,λ r hr=>H.tn.isA.dO r (Wv hr)⟩,s.R6,by omega,w8,λ k q hk hq=>by rw[eU hk];exact Um (sm k q hk hq) PH⟩
def xZ:Ug nh 2 zT km:=by
 rintro ds st K ⟨U,N,m,e1,f,rfl,iU,hm,n8,lo,sz,t0,k⟩;refine⟨rfl,?_⟩;refine cJ rfl ?_;rw[Uh,iU.len];refine zY (λ h=>fb ?_) λ h=>?_
 . refine gf ?_;rw[Ct,<-List.map_drop];have iT:Mx.cj (N-m) N (U.drop m):=⟨by rw[VH,iU.len],λ r hr=>iU.dO r (List.mem_of_mem_drop hr)⟩
   refine⟨_,N-m,N,e1,U.drop m,f,rfl,gN,iT,by omega,by omega,by omega,lo,sz,t0,λ st1 top c ld hC H B=>aA rfl rfl ?_⟩;obtain⟨ld2,S2⟩:=hC.SO iT lo (by omega) (Uk _);have le:=H.le;have lA:=H.tn.isA.len
   have s:Mx.cC (c.A.take top) top N ld:=⟨λ i hi=>by
    obtain⟨h1,h2,h3⟩:=H.lead i hi;exact⟨h1,by rw[eU hi];exact h2,λ c hc=>by rw[eU hi];exact h3 c hc⟩,H.mono⟩
   exact k st1 _ top B le ⟨⟨by rw[Vo];omega,λ r hr=>H.tn.isA.dO r (Wv hr)⟩,s.R6,by omega,n8,λ k q hk _=>by rw[eU hk];exact(S2.hi k q hk).1⟩ (λ i j hij hj=>by rw[s.cP hj,eU (VL hij hj),eU hj];exact H.red i j hij hj) ⟨λ k hk=>by
    obtain⟨z,hz⟩:=H.out k hk;exact⟨z,λ q hq=>(hz q hq).trans (Mx.aC λ i hi=>by rw[eU hi])⟩,λ k hk=>(H.in k hk).eq λ q _=>eU hk⟩
 . exact⟨US _,k st [] 0 ⟨Uk _,λ _ _ _=>rfl,f,t0⟩ (US _) ⟨⟨rfl,λ r hr=>by cases hr⟩,⟨λ i h=>absurd h (UX _),λ i j _ h=>absurd h (UX _)⟩,US _,n8,λ k c h=>absurd h (UX _)⟩ (λ i j _ h=>absurd h (UX _)) ⟨λ k h=>absurd h (by omega),λ k h=>absurd h (UX _)⟩⟩
structure wx(A:List (List Int))(N w:Nat)(r a:List Int)(F:List (List Int))(m f:Nat)(c:Mx.B3)(top:Nat):Prop where
 tn:Mx.Tn A c.A c.U c.C N w
 le:top<=N
 zs:∀i q,top<=i->i<N->q<w->Mx.g c.A i q=0
 wf:Wf (c.A.take top) top w
 rd:Mx.ug (c.A.take top) top (Mx.cP (c.A.take top))
 bU:∀i q,i<N->(Mx.g c.U i q).natAbs<=2^60000000
 bC:∀i q,i<N->(Mx.g c.C i q).natAbs<=2^60000000
 wg:Wg F m N f
 red:Mx.ug F m (Mx.cP F)
 Ah:∀x,(∀q,q<w->(Mx.S N λ n=>x n*Mx.g A n q)=0)↔Mx.dm F m N x
 la:a.length=N
 sum:∀q,q<w->(Mx.S N λ n=>a.getD n 0*Mx.g A n q)=r.getD q 0
 En:∀i,i<m->0<=a.getD (Mx.cP F i) 0/\a.getD (Mx.cP F i) 0<Mx.g F i (Mx.cP F i)
 tok:∀j,top<=j->j<N->∀i,i<m->∀b∈F.getD i [],IntMulOk (-(Mx.n_ F (Mx.dM F (c.U.getD j []) i) i)) b
 rest:∀j,top<=j->j<N->Mx.dm F m N (Mx.g c.U j)
def RU(A:List (List Int))(N w:Nat)(r:List Int)(y:D):Prop:=
 (∃a F m f c top,wx A N w r a F m f c top/\y= .tup [.str "told",aY a,bQ F,bQ c.U,bQ (Mx.dg c.C N)])\/
 (∃ps:List Rat,y= .tup [.str "none",.tup (ps.map iz)]/\ps.length=w/\Mx.Pb ps 10000000/\(∀n,n<N->Mx.Wh (Mx.dq ps w (Mx.g A n)))/\¬Mx.Wh (Mx.dq ps w λ c=>r.getD c 0))
def qY:cy:=λ ds st K=>∃(dr:D) (A:List (List Int)) (r:List Int) (N w:Nat) (f:Bool),ds=[bQ (Mx.dg A w),dr]/\items? st dr=some (aB r)/\zZ A N w r/\1<=w/\st[0]?=some (gG f)/\∀st' y,Bk st st'->RU A N w r y->K y st'
def qB:List Str:=["rows","due","wide","told","form","turn","fallen","steps","answer"]
def Hn:DS:=(aJ (bo 2 (bO dF (af (aw aW (ae 0) (dC (.int 0))) ao)))
 (aJ (bo 3 (ay oY (af (ay gH (af (ae 0) (af (ae 2) ao))) ao)))
 (aJ (bo 4 (aw aW (ae 3) (dC (.int 0))))
 (aJ (bo 5 (aw aW (ae 3) (dC (.int 1))))
 (aJ (bo 6 (ay qx (af (ae 4) (af (ae 1) ao))))
 (aJ (dz (bh (aw tN (ay gg (af (aw aW (ae 6) (dC (.int 1))) ao)) (dC .aD))) (bc (jC (af (dC (.str "none")) (af (ay mm (af (ae 4) (af (aw aW (ae 6) (dC (.int 1))) ao))) ao)))) de)
 (aJ (bo 7 (ay nh (af (ae 5) (af (bO dF (af (ae 4) ao)) ao))))
 (aJ (bo 8 (ay sI (af (ae 7) (af (ay sZ (af (aw aW (ae 6) (dC (.int 0))) (af (hO (ae 5) iJ (gT (bO dF (af (ae 4) ao)))) (af (ae 2) ao)))) ao))))
 (bc (jC (af (dC (.str "told")) (af (ae 8) (af (ae 7) (af (ae 5) (af (aw aW (ae 3) (dC (.int 2))) ao)))))))))))))))
def si{A:List (List Int)}{N w:Nat}(hA:Mx.cj N w A):Mx.dg (Mx.dg A w) N=A:=
 (Mx.fM (Mx.fM hA)).ext hA λ i j hi hj=>by rw[Mx.mB (Mx.fM hA) hj hi,Mx.mB hA hi hj]
def F6{F:List (List Int)}{r:List Int}{m w e f:Nat}(hW:Wg F m w f)(lr:r.length=w)(br:∀c,c<w->(r.getD c 0).natAbs<=2^e)(he:e+m*(f+1)<=130000000):∀i,i<m->∀b∈F.getD i [],IntMulOk (-(Mx.n_ F (Mx.dM F r i) i)) b:=λ i hi b hb=>by
 obtain⟨l1,l2,_⟩:=hW.lead hi;have bx:=Mx.wb hW.is lr hW.st hW.sm br (VN hi) _ l1;have bq:(Mx.n_ F (Mx.dM F r i) i).natAbs<=2^(e+i*(f+1)):=Um (Mx.nk _ l2) bx;have h1:(i+1)*(f+1)<=m*(f+1):=Vs _ hi;rw[W6]at h1;exact ef (by rw[V3];exact bq) (hW.row hi b hb) (by omega)
def F0:Ug qY 2 Hn qB:=by
 rintro ds st K ⟨dr,A,r,N,w,f,rfl,hr,⟨hA,n1,n8,w8,bA,lr,br⟩,w1,h0,k⟩;refine⟨rfl,?_⟩;have iT:=Mx.fM hA;have lT:=iT.len;refine aA rfl (show d_ ((Mx.dg A w).map aY) 0=some (aY ((Mx.dg A w).getD 0 []))from sf (k:=0) (by omega)) (cJ rfl ?_);rw[Uh,iT.row (i:=0) w1];refine⟨_,Mx.dg A w,N,rfl,gN,iT.dO,by omega,by omega,?_⟩;rw[si hA]
 have lo28:Mx.iG A N 0 (2^28):=λ i c _ hi=>by
  have lA:=hA.len;unfold Mx.g;by_cases hc:c<(A.getD i []).length
  . exact bA _ (by rw[Mx.aG (by omega)];exact UL _) _ (getD_mem hc)
  . rw[Mx.m7 (by omega)];exact US _
 refine⟨_,N,w,28,A,f,rfl,gN,hA,n1,n8,by omega,lo28,λ t ht=>Mx.NN N (by omega) t (by omega),h0,λ st1 top c ld hC H B=>?_⟩;have hW:=Oe H hA n8 w8 λ r hr x hx=>Um (bA r hr x hx) (by decide);have lF:=hW.is.len;have hgF:∀i q,i<top->Mx.g (c.A.take top) i q=Mx.g c.A i q:=λ i q hi=>eU hi;have t8:=hW.m8;have le:=H.le;have hW0:=hW
 have hrd:Mx.ug (c.A.take top) top (Mx.cP (c.A.take top)):=λ i j hij hj=>by
  have s:Mx.cC (c.A.take top) top w ld:=⟨λ i hi=>by
   obtain⟨h1,h2,h3⟩:=H.lead i hi;exact⟨h1,by rw[eU hi];exact h2,λ c hc=>by rw[eU hi];exact h3 c hc⟩,H.mono⟩
  rw[s.cP hj,eU (VL hij hj),eU hj];exact H.red i j hij hj
 generalize hF:c.A.take top=F at hW lF hgF;have br':∀c,c<w->(r.getD c 0).natAbs<=2^70:=λ c hc=>br _ (getD_mem (by omega));refine aA rfl rfl (aA rfl rfl ?_);refine⟨dr,F,r,top,w,887,rfl,hW,u5 h0 B.fr hr,lr,F6 hW lr br' (by omega),λ st2 X=>?_⟩;have B2:=B.ext X;have lR:=Mx.l9 hW.is lr (Uk top);have En:=Mx.vV hW.is lr hW.st (Uk top);have sm:=Mx.Es hW.is lr (Uk top);have ab:=Mx.wb hW.is lr hW.st hW.sm br' (Uk top);refine aA rfl rfl ⟨_,Mx.dM F r top,rfl,rfl,?_⟩;cases el:fx (Mx.dM F r top)with
 |some l=>
  have eD:fo (Mx.dM F r top)= .int (l:Int):=by unfold fo;rw[el]
  rw[eD];obtain⟨hl,hne,hz⟩:=nE el;rw[lR]at hl;refine sJ rfl (fb (aA rfl rfl ⟨F,Mx.dM F r top,top,w,70+top*(887+1),l,rfl,hW,lR,el,ab,by omega,λ st3 b X3 hb hP=>⟨Ux rfl,?_⟩⟩));have P:=Mx.p_.all b hW.st hl (Uk top);have wF:∀i,i<top->Mx.Wh (Mx.dq (Mx.oQ F top w l (Mx.kL w l b) top) w (Mx.g F i)):=λ i hi=>P.whole hW.st hl hb hne hi;refine k st3 _ (B2.ext X3) (.inr ⟨_,rfl,P.len,hP,λ n hn=>?_,λ z=>?_⟩)
  . have e1:Mx.dq (Mx.oQ F top w l (Mx.kL w l b) top) w (Mx.g A n)=Mx.dq (Mx.oQ F top w l (Mx.kL w l b) top) w λ q=>Mx.S top λ k=>Mx.g c.C k n*Mx.g F k q:=Mx.xD λ q hq=>by
     rw[H.back hn hq];exact Mx.aC λ k hk=>by rw[hgF k q hk]
    rw[e1,Mx.Cb];exact Mx.E5 λ i hi=>(wF i hi).mul _
  . have e1:Mx.dq (Mx.oQ F top w l (Mx.kL w l b) top) w (λ q=>r.getD q 0)=Mx.dq (Mx.oQ F top w l (Mx.kL w l b) top) w (λ q=>(Mx.dM F r top).getD q 0)+Mx.dq (Mx.oQ F top w l (Mx.kL w l b) top) w (λ q=>Mx.S top λ j=>Mx.n_ F (Mx.dM F r j) j*Mx.g F j q):=by
     rw[<-Mx.Oh];exact Mx.xD λ q _=>sm q
    have w2:Mx.Wh (Mx.dq (Mx.oQ F top w l (Mx.kL w l b) top) w (λ q=>Mx.S top λ j=>Mx.n_ F (Mx.dM F r j) j*Mx.g F j q)):=by
     rw[Mx.Cb];exact Mx.E5 λ i hi=>(wF i hi).mul _
    refine P.not hW.st hl hb hne hz (λ i hi=>En.red i hi) ?_;have:=z.add w2.neg;rw[e1]at this;have e2:∀a b:Rat,a+b+ -b=a:=by grind
    rwa [e2]at this
 |none=>
  have eD:fo (Mx.dM F r top)= .aD:=by unfold fo;rw[el]
  rw[eD];refine sJ rfl ?_;obtain⟨f2,t2⟩:=B2.tb;have lU:=H.tn.dQ.len;refine cJ rfl ?_;rw[Uh,lF]
  have e1lo:∀j q,top<=j->j<N->(Mx.g c.U j q).natAbs<=2^Mx.xU N top:=λ j q h1 h2=>by
   unfold Mx.xU;by_cases h:top=0
   . rw[Ur h,hC.TJ h];show(Mx.g (Mx.units N) j q).natAbs<=1;by_cases hq:q<N
     . rw[Mx.ie h2 hq];unfold Mx.dl;split<;>decide
     . unfold Mx.g;rw[Mx.m7 (by rw[(Mx.lD N).row h2];omega)];decide
   . rw[Up h];exact H.lo.2.1 j q h1 h2
  refine⟨c.U,N,top,Mx.xU N top,f2,rfl,H.tn.dQ,le,n8,λ i q _ hi=>by rw[Mx.CY];exact e1lo (top+i) q (by omega) (by omega),λ t ht=>(Mx.KG N (by omega) top (by omega) t (by omega)).1,t2,λ st3 G m B3 hm hG hred hSame=>?_⟩;have B3':Bk st st3:=⟨Um B2.le B3.le,λ m hm h0=>(B3.fr m (UH hm B2.le) h0).trans (B2.fr m hm h0),B3.tb⟩
  refine aA rfl rfl (cJ rfl (gf ?_));rw[Uh,lF,yn,<-Yh];have lw:(Mx.qf F r top).length=top:=by unfold Mx.qf;simp
  have wat:∀j,j<top->(Mx.qf F r top).getD j 0=Mx.n_ F (Mx.dM F r j) j:=λ j hj=>by
   unfold Mx.qf;rw[Mx.aG (by simpa using hj),VR,List.getElem_range]
  obtain⟨szE,szV⟩:=Mx.NN N (by omega) top (by omega)
  have bw:∀j,j<top->((Mx.qf F r top).getD j 0).natAbs<=2^(70+j*(887+1)):=λ j hj=>by
   rw[wat j hj];obtain⟨l1,l2,_⟩:=hW.lead hj;exact Um (Mx.nk _ l2) (Mx.wb hW.is lr hW.st hW.sm br' (VN hj) _ l1)
  have bu:∀i p,i<top->(Mx.g (c.U.take top) i p).natAbs<=2^Mx.Vz N 28 top:=λ i p hi=>by
   rw[eU hi];exact(H.hi i p hi).2.1
  have wU:∀q∈c.U.take top,q.length=N:=λ q hq=>H.tn.dQ.dO q (Wv hq);have lUt:(c.U.take top).length=top:=by rw[Vo];omega
  refine⟨_,_,N,Mx.qf F r top,c.U.take top,rfl,rfl,gN,wU,by omega,λ x hx q hq y hy=>?_,?_⟩
  . obtain⟨j,hj,rfl⟩:=UD.mp hx;have bj:=bw j (by omega);rw[Mx.aG hj]at bj;obtain⟨i,hi,rfl⟩:=UD.mp hq;obtain⟨p,hp,rfl⟩:=UD.mp hy;have hU:=bu i p (by omega);unfold Mx.g at hU;rw[Mx.aG hi,Mx.aG hp]at hU;exact ef bj hU (by omega)
  have lW:(Mx.e_ (Mx.qf F r top) (c.U.take top) (List.replicate N 0)).length=N:=Mx.uB (by simp) wU
  have bW:∀n,n<N->((Mx.e_ (Mx.qf F r top) (c.U.take top) (List.replicate N 0)).getD n 0).natAbs<=2^(Mx.Vz N 28 top+8000):=λ n hn=>by
   rw[Mx.tu (n:=N) n (by simp) wU (by omega),Mx.d5,Wn,lUt]
   have e3:top*2^(7174+Mx.Vz N 28 top)<=2^(Mx.Vz N 28 top+8000):=by
    refine Um (Vs _ (show top<=2^3 by omega)) ?_;rw[<-V6];exact UE (by decide) (by omega)
   refine Um (Mx.Gr λ j hj=>?_) e3;rw[Vh,V6];exact U_ (Um (bw j hj) (UE (by decide) (by omega))) (bu j n hj)
  obtain⟨_,sz2,sz3⟩:=Mx.KG N (by omega) top (by omega) m (by omega)
  have sum:∀q,q<w->(Mx.S N λ n=>(Mx.e_ (Mx.qf F r top) (c.U.take top) (List.replicate N 0)).getD n 0*Mx.g A n q)=r.getD q 0:=λ q hq=>by
   refine Mx.Km H lw (λ q hq=>?_) hq;rw[sm q,yV _ 0 el q,Wn];exact Mx.aC λ j hj=>by rw[wat j hj,hgF j q hj]
  generalize Mx.e_ (Mx.qf F r top) (c.U.take top) (List.replicate N 0)=W at lW bW sum
  have Ah:∀x,(∀q,q<w->(Mx.S N λ n=>x n*Mx.g A n q)=0)↔Mx.dm G m N x:=λ x=>by
   rw[H.kernel];exact⟨λ h=>Mx.dm.trans hSame.to h,λ h=>Mx.dm.trans hSame.of h⟩
  have gW:∀j,top<=j->j<N->∀q,q<N->((c.U.getD j []).getD q 0).natAbs<=2^Mx.xU N top:=λ j h1 h2 q _=>e1lo j q h1 h2;have hE:2^Mx.Ez N 28 top<=2^60000000:=UE (by decide) (by omega);have hV:2^Mx.Vz N 28 top<=2^60000000:=UE (by decide) (by omega);have fl:=Mx.vV hG.is lW hG.st (Uk m);refine⟨_,G,W,m,N,_,rfl,hG,rfl,lW,F6 hG lW bW sz2,λ st4 X4=>aA rfl rfl ⟨Ux rfl,?_⟩⟩;refine k st4 _ (B3'.ext X4) (.inl ⟨Mx.dM G W m,G,m,_,c,top,⟨H.tn,le,H.zs,hW0,hrd,λ i q hi=>?_,λ i q hi=>?_,hG,hred,Ah,Mx.l9 hG.is lW (Uk m),λ q hq=>?_,λ i hi=>fl.red i hi,λ j h1 h2=>F6 hG (H.tn.dQ.row h2) (gW j h1 h2) sz3,λ j h1 h2=>?_⟩,rfl⟩)
  . by_cases h:i<top
    . exact Um (H.hi i q h).2.1 hV
    . exact Um (H.lo.2.1 i q (WB h) hi) hE
  . by_cases h:i<top
    . exact Um (H.hi i q h).2.2 hV
    . exact Um (H.lo.2.2 i q (WB h) hi) hE
  . have d:=(Ah λ n=>W.getD n 0-(Mx.dM G W m).getD n 0).mpr fl.sum q hq
    have e5:(Mx.S N λ n=>(W.getD n 0-(Mx.dM G W m).getD n 0)*Mx.g A n q)=(Mx.S N λ n=>W.getD n 0*Mx.g A n q)-Mx.S N λ n=>(Mx.dM G W m).getD n 0*Mx.g A n q:=by
     rw[VQ,<-Mx.tO,<-Mx.gF];exact Mx.aC λ n _=>by rw[Int.sub_mul,VQ]
    rw[e5,sum q hq]at d;omega
  . refine(Ah (Mx.g c.U j)).mp λ q hq=>?_;rw[<-H.tn.ua j q h2 hq];exact H.zs j q h1 h2 hq
def nW:cy:=λ ds st K=>∃(dd da:D) (A:List (List Int)) (r a:List Int) (N w:Nat),ds=[bQ (Mx.dg A w),dd,da]/\items? st dd=some (aB r)/\items? st da=some (aB a)/\Mx.cj N w A/\N<=8/\w<=8/\r.length=w/\a.length=N/\(∀r∈A,∀x∈r,x.natAbs<=2^28)/\(∀q,q<w->(Mx.S N λ n=>a.getD n 0*Mx.g A n q)=r.getD q 0)/\K (.bl true) st
def nO:List Str:=["rows","due","row"]
def D6:DS:=(bc (bO nz (af (cY (qi (af (ae 0) (af (ae 1) ao))) [none,none,some 2] (f_ 0 1) bV (aw iW (ay Bm (af (ae 0) (af (ae 2) ao))) (ae 1))) ao)))
def BO:Ug nW 3 D6 nO:=by
 rintro ds st K ⟨dd,da,A,r,a,N,w,rfl,hd,ha,hA,n8,w8,lr,la,bA,hs,k⟩;refine⟨rfl,?_⟩;have iT:=Mx.fM hA;have lT:=iT.len;refine oC rfl hd λ ok aO=>⟨bL (by rw[ll,Uh,Uh];omega),?_⟩
 refine comp_map (g:=λ _=> .bl true) (aO st rfl hd) _ (λ d hz K' q=>?_) ?_
 . obtain⟨n,hn⟩:=List.mem_iff_getElem?.mp hz;obtain⟨x,y,ex,ey,rfl⟩:=tW hn;rw[UB]at ex ey;obtain⟨u,eu,rfl⟩:=WN.mp ex;obtain⟨v,ev,rfl⟩:=WN.mp ey;obtain⟨hu,eu⟩:=Ui.mp eu;obtain⟨hv,ev⟩:=Ui.mp ev;have hnw:n<w:=by omega
   have lu:u.length=N:=by rw[<-eu];exact iT.dO _ (UL hu)
   have gu:∀p,p<N->u.getD p 0=Mx.g A p n:=λ p hp=>by
    rw[<-Mx.mB hA hp hnw];unfold Mx.g;rw[Mx.aG hu,eu]
   refine⟨_,rfl,_,_,u,a,rfl,rfl,ha,by omega,λ x hx b _=>?_,?_⟩
   . obtain⟨p,hp,rfl⟩:=UD.mp hx;have e:=gu p (by omega);rw[Mx.aG hp]at e;have lA:=hA.len
     have hb:(Mx.g A p n).natAbs<=2^28:=by
      unfold Mx.g;exact bA _ (by rw[Mx.aG (by omega)];exact UL _) _ (getD_mem (by rw[hA.row (i:=p) (by omega)];exact hnw))
     rw[e];exact fQ (by omega) (by omega)
   . rw[Mx.yZ (by omega),la]
     have e:(Mx.S N λ p=>u.getD p 0*a.getD p 0)=v:=by
      have:=hs n hnw;rw[Mx.aG hv,ev]at this;rw[<-this];exact Mx.aC λ p hp=>by rw[gu p hp,Wo]
     rw[e];exact eqT rfl q
 refine oA (sv _) ?_;rw[Bs];exact k
def C1{F:List (List Int)}{m w:Nat}{ld:Nat->Nat}(hF:Mx.cj m w F)(s:Mx.cC F m w ld)(rd:Mx.ug F m ld):∀(n k:Nat) (a:Int),k+n=m->(k<m->a<(ld k:Int))->g5 (F.take k) a (F.drop k)=true
 |0,k,a,hk,_=>by
  rw[VA (by rw[hF.len];omega)];rfl
 |n+1,k,a,hk,ha=>by
  have hl:=hF.len;have hkt:k<m:=by omega
  have hk2:k<F.length:=by omega
  obtain⟨_,h2,h3⟩:=s.lead k hkt
  have e1:F.drop k=F.getD k []::F.drop (k+1):=by
   rw[Mx.aG hk2,Vj hk2]
  have e2:F.take (k+1)=F.take k++[F.getD k []]:=by rw[Mx.aG hk2];exact List.take_succ_eq_append_getElem hk2
  have e3:fx (F.getD k [])=some (ld k):=uL h3 (W_ h2);have h4:¬((ld k:Int)<=a\/(F.getD k []).getD (ld k) 0<0):=λ h=>h.elim (λ h=>Int.not_le.mpr (ha hkt) h) λ h=>Int.lt_irrefl _ (Int.lt_trans h2 h)
  have h5:((F.take k).all λ a=>decide (0<=a.getD (ld k) 0)&&decide (a.getD (ld k) 0<(F.getD k []).getD (ld k) 0))=true:=UW.mpr λ r hr=>by
   obtain⟨i,hi,rfl⟩:=UD.mp hr;rw[Vo]at hi;have r1:=rd i k (by omega) hkt;unfold Mx.g at r1;rw[Mx.aG (show i<F.length by omega)]at r1;rw[List.getElem_take,U9 r1.1,U9 r1.2];rfl
  rw[e1,sF,e3];simp only[Up h4,Ur h5];rw[<-e2];exact C1 hF s rd n (k+1) _ (by omega) λ h=>Int.ofNat_lt.mpr (s.mono k (k+1) (UZ _) h)
def Wg.GO{F:List (List Int)}{m w f:Nat}(h:Wg F m w f)(r:Mx.ug F m (Mx.cP F)):g5 [] (-1) F=true:=C1 h.is h.st r m 0 (-1) (W8 _) (λ _=>by omega)
def qg:cy:=λ ds st K=>∃(A F:List (List Int)) (r a:List Int) (N w m f top:Nat) (c:Mx.B3),ds=[bQ (Mx.dg A w),bQ F]/\zZ A N w r/\1<=w/\wx A N w r a F m f c top/\K (.bl true) st
def mD:List Str:=["rows","steps","noughts"]
def CV:DS:=(aJ (dz (mW (f7 (bh (ay lZ (af (ae 1) (af (dC .aD) (af (bO dF (af (aw aW (ae 0) (dC (.int 0))) ao)) ao)))))) (f7 (bh (ay kY (af (ae 1) ao))))) (bc (dC (.bl false))) de)
 (aJ (bo 2 (aw dh (jC (af (dC (.int 0)) ao)) (bO dF (af (ae 0) ao))))
 (bc (bO nz (af (cY (dZ (ae 1)) [none,some 0,some 2] (bI 0) bV (ay nW (af (ae 1) (af (ae 2) (af (ae 0) ao))))) ao)))))
def Od{X:List (List Int)}{N w:Nat}(hX:Mx.cj N w X){r:List Int}(hr:r∈X){x:Int}(hx:x∈r):∃i q,i<N/\x=Mx.g X i q:=by
 obtain⟨i,hi,rfl⟩:=UD.mp hr;refine⟨i,?_⟩;obtain⟨q,e⟩:=Bh (X:=X) (i:=i) (x:=x) (by rw[Mx.aG hi];exact hx);exact⟨q,by rw[<-hX.len];exact hi,e⟩
def AL{st:ag}{d:D}{xs:List D}(e:items? st d=some xs):Any st d:=by
 cases d<;>first|(cases e;done)|exact⟨_,rfl⟩|exact⟨_,OX (oj e)⟩
def o_{st:ag}:∀ {xs:List D} {F:List (List Int)},bK st xs F->∀x∈xs,∃r∈F,items? st x=some (aB r)
 | [],[],_,x,hx=>by cases hx
 |y::xs,r::F,h,x,hx=>by
  rcases UK.mp hx with rfl|hx
  . exact⟨r,UP,h.1⟩
  . obtain⟨r',h1,h2⟩:=o_ h.2 x hx;exact⟨r',UG _ h1,h2⟩
def xR{st:ag}:∀ {xs:List D} {F:List (List Int)},bK st xs F->xs.map (intsOf st)=F
 | [],[],_=>rfl
 |_::_,_::_,h=>by rw[UY,qQ h.1,xR h.2]
def rK{st:ag}{d:D}{F:List (List Int)}(h:fv st d F)(hl:F.length<=1000)(hw:∀r∈F,r.length<=1000):sL st d:=by
 obtain⟨xs,e,ri⟩:=h.ex;refine⟨AL e,λ ys e'=>?_⟩;rw[e]at e';cases e';refine⟨λ x hx=>?_,bL (by rw[ri.len];exact hl)⟩;obtain⟨r,hr,er⟩:=o_ ri x hx;refine⟨AL er,λ zs ez=>?_⟩;rw[er]at ez;cases ez;refine⟨λ z hz=>?_,bL (by rw[Uh];exact hw r hr)⟩;obtain⟨i,_,rfl⟩:=UI.mp hz;exact⟨_,rfl⟩
def An{st:ag}{d:D}{F:List (List Int)}(h:fv st d F)(hl:F.length<=1000)(hb:∀r∈F,∀x∈r,x.natAbs<=2^60000000):xp st d:=by
 obtain⟨xs,e,ri⟩:=h.ex;refine⟨λ ys e'=>?_,λ ys e' x hx zs ez i hi=>?_⟩
 . rw[e]at e';cases e';rw[ri.len];exact hl
 . rw[e]at e';cases e';obtain⟨r,hr,er⟩:=o_ ri x hx;rw[er]at ez;cases ez;obtain⟨j,hj,ej⟩:=UI.mp hi;cases ej;exact Um (hb r hr _ hj) (UE (by decide) (by decide))
def xi{st:ag}{d m:D}{F:List (List Int)}{w:Nat}(h:fv st d F)(hw:∀r∈F,r.length=w)(hm:sR F.length m=true):fZ st d m w=true/\rowsOf st d=F:=by
 obtain⟨xs,e,ri⟩:=h.ex;refine⟨?_,by unfold rowsOf;rw[e];exact xR ri⟩;unfold fZ;rw[e];show(sR xs.length m&&_)=true;rw[ri.len,hm,Xo];refine UW.mpr λ x hx=>?_;obtain⟨r,hr,er⟩:=o_ ri x hx;unfold iK;rw[er];show(decide (((aB r).length:Int)=w)&&(aB r).all isInt)=true;rw[Uh,hw r hr,U9 rfl,Xo];refine UW.mpr λ z hz=>?_;obtain⟨i,_,rfl⟩:=UI.mp hz;rfl
def o7{A:List (List Int)}{N w:Nat}(hA:Mx.cj N w A)(w1:1<=w):d_ ((Mx.dg A w).map aY) 0=some (aY ((Mx.dg A w).getD 0 []))/\((Mx.dg A w).getD 0 []).length=N:=
 have iT:=Mx.fM hA
 ⟨sf (k:=0) (by rw[iT.len];exact w1),iT.row (i:=0) w1⟩
def AW:Ug qg 2 CV mD:=by
 rintro ds st K ⟨A,F,r,a,N,w,m,f,top,c,rfl,P,w1,T,k⟩;refine⟨rfl,?_⟩;have n8:=P.n8;have w8:=P.w8;have m8:=T.wg.m8;have lF:=T.wg.is.len;obtain⟨e0,l0⟩:=o7 P.is w1;refine aA rfl e0 (cJ rfl ?_);rw[Uh,l0];have RF:fv st (bQ F) F:=gN;refine⟨_,_,_,rfl,rK RF (by omega) (λ q hq=>by rw[T.wg.is.dO q hq];omega),.inl rfl,?_⟩;rw[(xi (m:= .aD) RF T.wg.is.dO rfl).1];refine⟨_,F,N,rfl,RF,T.wg.is.dO,by omega,?_⟩;rw[T.wg.GO T.red];refine OE (Ux rfl) (cJ rfl ?_);rw[Uh,(Mx.fM P.is).len];refine EC ⟨by omega,by omega,bL (by simp;omega)⟩ ?_;rw[UJ,xQ];refine jx ⟨bL (by rw[Uh];omega),?_⟩;refine comp_map (g:=λ _=> .bl true) trivial _ (λ d hd K' q=>?_) ?_
 . obtain⟨s,hs,rfl⟩:=UI.mp hd;obtain⟨i,hi,rfl⟩:=UD.mp hs;refine⟨_,rfl,_,_,A,List.replicate w 0,F[i],N,w,rfl,rfl,rfl,P.is,n8,w8,by simp,T.wg.is.dO _ hs,P.bA,λ q hq=>?_,q⟩;rw[Mx.d5];have:=(T.Ah (Mx.g F i)).mpr (Mx.dm.row (by omega)) q hq;unfold Mx.g at this⊢;rw[Mx.aG hi]at this;exact this
 refine oA (sv _) ?_;rw[Bs];exact k
def nq:cy:=λ ds st K=>∃(A F:List (List Int)) (r a:List Int) (N w m f top:Nat) (c:Mx.B3),ds=[bQ (Mx.dg A w),aY r,aY a,bQ F]/\zZ A N w r/\1<=w/\wx A N w r a F m f c top/\∀st',Ext st st'->K (.bl true) st'
def ku:List Str:=["rows","due","answer","steps"]
def zW:DS:=(aJ (dz (mW (f7 (bh (ay gL (af (ae 2) (af (bO dF (af (aw aW (ae 0) (dC (.int 0))) ao)) ao))))) (f7 (bh (ay nW (af (ae 0) (af (ae 1) (af (ae 2) ao))))))) (bc (dC (.bl false))) de)
 (bc (aw iW (ay sI (af (ae 3) (af (ae 2) ao))) (bO dA (af (ae 2) ao)))))
def y9:Ug nq 4 zW ku:=by
 rintro ds st K ⟨A,F,r,a,N,w,m,f,top,c,rfl,P,w1,T,k⟩;refine⟨rfl,?_⟩;have n8:=P.n8;have w8:=P.w8;have la:=T.la;obtain⟨e0,l0⟩:=o7 P.is w1;refine aA rfl e0 (cJ rfl ?_);rw[Uh,l0]
 have an:iK st (aY a) N=true:=by
  unfold iK;show(decide (((aB a).length:Int)=N)&&(aB a).all isInt)=true;rw[Uh,la,U9 rfl,Xo];refine UW.mpr λ z hz=>?_;obtain⟨i,_,rfl⟩:=UI.mp hz;rfl
 refine⟨_,_,rfl,⟨⟨_,rfl⟩,λ xs ex=>?_⟩,?_⟩
 . cases ex;refine⟨λ x hx=>?_,bL (by rw[Uh];omega)⟩;obtain⟨i,_,rfl⟩:=UI.mp hx;exact⟨_,rfl⟩
 rw[an];refine⟨_,_,A,r,a,N,w,rfl,rfl,rfl,P.is,n8,w8,P.lr,la,P.bA,T.sum,?_⟩;have wf:=Mx.Aq T.wg.is la T.En;refine⟨_,F,a,m,N,f,rfl,T.wg,rfl,la,λ i hi b _=>?_,λ st' X=>c8 rfl (qF pD pD ?_)⟩
 . have q0:Mx.n_ F (Mx.dM F a i) i=0:=by
    rw[wf i (by omega)];obtain⟨h1,h2⟩:=T.En i hi;show(a.getD (Mx.cP F i) 0).fdiv (Mx.g F i (Mx.cP F i))=0;rw[VJ _ (by omega)];exact YO h1 h2
   rw[q0];exact fQ (by decide) (by decide)
 . rw[wf m (Uk _),sU 40 _ pD];exact k st' X
def pY:cy:=λ ds st K=>∃(A F:List (List Int)) (r a:List Int) (N w m f top:Nat) (c:Mx.B3),ds=[bQ (Mx.dg A w),bQ F,bQ c.U,bQ (Mx.dg c.C N)]/\zZ A N w r/\1<=w/\wx A N w r a F m f c top/\∀st',Ext st st'->K (.bl true) st'
def mx:List Str:=["rows","steps","turn","back","wide","head"]
def C9:DS:=(aJ (bo 4 (bO dF (af (aw aW (ae 0) (dC (.int 0))) ao)))
 (aJ (dz (f7 (bh (ay pW (af (ae 2) (af (ae 3) (af (ae 4) ao)))))) (bc (dC (.bl false))) de)
 (aJ (bo 5 (ay mi (af (ay qS (af (ae 2) (af (ay gH (af (ae 0) (af (ae 4) ao))) ao))) ao)))
 (aJ (dz (bh (aw CI (ae 5) (dC .aD))) (bc (dC (.bl false))) de)
 (bc (bO nz (af (cY (dZ (hO (ae 2) (gT (bO dF (af (ae 5) ao))) iJ)) [none,some 1] (bI 0) bV (aw CI (ay gg (af (ay sI (af (ae 1) (af (ae 0) ao))) ao)) (dC .aD))) ao)))))))
def Ap:∀n:Nat,gS (List.replicate n (D.bl true))=some (List.replicate n true)
 |0=>rfl
 |n+1=>by rw[Vn,Vn];simp[gS,Ap n]
def A8:Ug pY 4 C9 mx:=by
 rintro ds st K ⟨A,F,r,a,N,w,m,f,top,c,rfl,P,w1,T,k⟩;refine⟨rfl,?_⟩;have n1:=P.n1;have n8:=P.n8;have w8:=P.w8;have le:=T.le;have hA:=P.is;obtain⟨e0,l0⟩:=o7 P.is w1;refine aA rfl e0 (cJ rfl ?_);rw[Uh,l0];have iB:Mx.cj N N (Mx.dg c.C N):=Mx.fM T.tn.fY;have lU:=T.tn.dQ.len;have eUA:Mx.mulM c.U A w=c.A:=(Mx.ET T.tn.dQ hA).ext T.tn.isA λ i j hi hj=>by rw[Mx.Ea T.tn.dQ hA hi,T.tn.ua i j hi hj]
 have eUB:Mx.mulM c.U (Mx.dg c.C N) N=Mx.units N:=(Mx.ET T.tn.dQ iB).ext (Mx.lD N) λ i j hi hj=>by
  rw[Mx.Ea T.tn.dQ iB hi,Mx.ie hi hj,<-T.tn.ub i j hi hj];exact Mx.aC λ k hk=>by rw[Mx.mB T.tn.fY hj hk]
 have rt:fv st (bQ c.U) c.U:=gN;have rv:fv st (bQ (Mx.dg c.C N)) (Mx.dg c.C N):=gN;obtain⟨t1,t2⟩:=xi (m:= .int N) rt T.tn.dQ.dO (by rw[lU];exact U9 rfl);obtain⟨v1,v2⟩:=xi (m:= .int N) rv iB.dO (by rw[iB.len];exact U9 rfl)
 have gU:∀r∈c.U,∀x∈r,x.natAbs<=2^60000000:=λ r hr x hx=>by
  obtain⟨i,q,hi,rfl⟩:=Od T.tn.dQ hr hx;exact T.bU i q hi
 have gB:∀r∈Mx.dg c.C N,∀x∈r,x.natAbs<=2^60000000:=λ r hr x hx=>by
  obtain⟨i,hi,rfl⟩:=UD.mp hr;obtain⟨q,hq,rfl⟩:=UD.mp hx;have li:i<N:=by rw[<-iB.len];exact hi
  have lq:q<N:=by rw[<-Mx.di iB li,Mx.aG hi];exact hq
  have e:((Mx.dg c.C N)[i])[q]=Mx.g (Mx.dg c.C N) i q:=by unfold Mx.g;rw[Mx.aG hi,Mx.aG hq]
  rw[e,Mx.mB T.tn.fY lq li];exact T.bC q i lq
 refine⟨_,_,N,rfl,rK rt (by omega) (λ r hr=>by rw[T.tn.dQ.dO r hr];omega),rK rv (by rw[iB.len];omega) (λ r hr=>by rw[iB.dO r hr];omega),An rt (by omega) gU,An rv (by rw[iB.len];omega) gB,n1,by omega,?_⟩
 have it:KN st (bQ c.U) (bQ (Mx.dg c.C N)) N=true:=by
  unfold KN KW;rw[t1,t2,v1,v2,eUB,U9 rfl];rfl
 rw[it];refine⟨_,Mx.dg A w,N,rfl,gN,(Mx.fM hA).dO,by rw[(Mx.fM hA).len];omega,by omega,?_⟩;rw[si hA];have hAn:A≠ []:=λ z=>by have:=hA.len;rw[z]at this;simp at this;omega
 refine⟨_,_,w,c.U,A,rfl,rt,gN,hAn,hA.dO,by omega,by omega,λ q hq c hc r hr y hy=>ef (gU q hq c hc) (P.bA r hr y hy) (by decide),?_⟩;rw[eUA];refine⟨c.A,N,w,top,rfl,T.tn.isA,n8,le,λ i hi h=>?_,λ i h1 h2=>?_,T.wf.GO T.rd,?_⟩
 . obtain⟨_,h2,h3⟩:=T.wf.st.lead i hi;have e:(c.A.take top).getD i []=c.A.getD i []:=by rw[Uu,WA hi,<-Uu]
   have:=uL h3 (W_ h2);rw[e,h]at this;cases this
 . cases el:fx (c.A.getD i [])with
   |none=>rfl
   |some l=>
    obtain⟨hl,hne,_⟩:=nE el;rw[T.tn.isA.row h2]at hl;exact absurd (T.zs i l h1 h2 hl) hne
 refine yU rfl ?_;refine cJ rfl (gf ?_);rw[Uh,Vo,T.tn.isA.len,XG le,Ct];refine jx ⟨bL (by rw[VH,Uh];omega),?_⟩;refine ib (λ rest acc st'=>∃i,i<=N/\top<=i/\rest=(c.U.map aY).drop i/\acc=(List.replicate (i-top) (D.bl true))/\Ext st st') ?_ ?_ _ _ _ ⟨top,le,Uk _,rfl,by simp,Ext.refl⟩
 . rintro acc st' ⟨i,hi,ht,hr,rfl,X⟩;refine⟨trivial,oA (bs:=List.replicate (i-top) true) (Ap _) ?_⟩;rw[List.all_replicate];simp only[id,Bool.or_true,ite_self];exact k st' X
 . rintro x rest acc st' ⟨i,hi,ht,hr,rfl,X⟩ next
   obtain⟨hiU,rfl,rfl⟩:=drop_cons hr;have hiN:i<N:=by omega
   have lr:=T.tn.dQ.row hiN;refine⟨trivial,_,rfl,_,F,c.U.getD i [],m,N,f,rfl,T.wg,rfl,lr,T.tok i ht hiN,λ st2 X2=>⟨_,_,rfl,rfl,?_⟩⟩;have fl:=Mx.vV T.wg.is lr T.wg.st (Uk m);have z:=(fl.zero T.wg.st).mpr (T.rest i ht hiN)
   have el:fx (Mx.dM F (c.U.getD i []) m)=none:=by
    cases el:fx (Mx.dM F (c.U.getD i []) m)with
    |none=>rfl
    |some l=>
     obtain⟨hl,hne,_⟩:=nE el;rw[Mx.l9 T.wg.is lr (Uk m)]at hl;exact absurd (z l hl) hne
   have eD:fo (Mx.dM F (c.U.getD i []) m)= .aD:=by unfold fo;rw[el]
   rw[eD];refine yU rfl (next _ _ ⟨i+1,by omega,by omega,rfl,?_,X.trans X2⟩);rw[show i+1-top=i-top+1 by omega,List.replicate_succ'];rfl
def gX:cy:=λ ds st K=>∃(A:List (List Int)) (r:List Int) (N w:Nat) (y:D),ds=[bQ (Mx.dg A w),aY r,y]/\zZ A N w r/\1<=w/\RU A N w r y/\∀st',Ext st st'->K (.bl true) st'
def jP:List Str:=["rows","due","told"]
def yd:DS:=(aJ (dz (bh (ay gm (af (ae 2) (af (dC (.int 2)) ao)))) (bc (nM (aw iW (aw aW (ae 2) (dC (.int 0))) (dC (.str "none"))) (ay pX (af (ay gH (af (ae 0) (af (bO dF (af (aw aW (ae 0) (dC (.int 0))) ao)) ao))) (af (ae 1) (af (aw aW (ae 2) (dC (.int 1))) ao)))))) de)
 (aJ (dz (mW (f7 (bh (ay gm (af (ae 2) (af (dC (.int 5)) ao))))) (bh (aw uJ (aw aW (ae 2) (dC (.int 0))) (dC (.str "told"))))) (bc (dC (.bl false))) de)
 (aJ (dz (mW (f7 (bh (ay qg (af (ae 0) (af (aw aW (ae 2) (dC (.int 2))) ao))))) (f7 (bh (ay nq (af (ae 0) (af (ae 1) (af (aw aW (ae 2) (dC (.int 1))) (af (aw aW (ae 2) (dC (.int 2))) ao)))))))) (bc (dC (.bl false))) de)
 (bc (ay pY (af (ae 0) (af (aw aW (ae 2) (dC (.int 2))) (af (aw aW (ae 2) (dC (.int 3))) (af (aw aW (ae 2) (dC (.int 4))) ao)))))))))
def xy:Ug gX 3 yd jP:=by
 rintro ds st K ⟨A,r,N,w,y,rfl,P,w1,hy,k⟩;refine⟨rfl,?_⟩;have iT:=Mx.fM P.is;have lT:=iT.len;have n8:=P.n8;have w8:=P.w8;obtain⟨e0,l0⟩:=o7 P.is w1;rcases hy with⟨a,F,m,f,c,top,T,rfl⟩|⟨ps,rfl,lp,hP,hw,hn⟩
 . refine⟨_,2,rfl,⟨_,rfl⟩,?_⟩;refine⟨_,5,rfl,⟨_,rfl⟩,?_⟩;refine aA rfl rfl (tj rfl ?_);refine aA rfl rfl ⟨A,F,r,a,N,w,m,f,top,c,rfl,P,w1,T,?_⟩;refine aA rfl rfl (aA rfl rfl ⟨A,F,r,a,N,w,m,f,top,c,rfl,P,w1,T,λ st1 X1=>?_⟩);exact aA rfl rfl (aA rfl rfl (aA rfl rfl ⟨A,F,r,a,N,w,m,f,top,c,rfl,P,w1,T,λ st2 X2=>k st2 (X1.trans X2)⟩))
 . refine⟨_,2,rfl,⟨_,rfl⟩,?_⟩;refine aA rfl rfl (qF rfl rfl ?_);refine aA rfl e0 (cJ rfl ?_);rw[Uh,l0];refine⟨_,Mx.dg A w,N,rfl,gN,iT.dO,by omega,by omega,?_⟩;rw[si P.is];exact aA rfl rfl ⟨A,r,N,w,ps,rfl,P,lp,hP,hw,hn,k st Ext.refl⟩
structure Hk(st:ag)(n:Nat)(b:Int):Prop where
 ex:∃(cs:List Int) (p q:Int),st[n]?=some (.lst [.lst (aB cs),.int p,.int q])/\1<=cs.length/\0<=p/\p<=b/\0<=q
structure Upd(st:ag)(n:Nat)(st':ag):Prop where
 len:st'.length=st.length
 same:∀m,m≠n->st'[m]?=st[m]?
def Upd.refl{st:ag}{n:Nat}:Upd st n st:=⟨rfl,λ _ _=>rfl⟩
def Upd.trans{st st1 st2:ag}{n:Nat}(a:Upd st n st1)(b:Upd st1 n st2):Upd st n st2:=⟨b.len.trans a.len,λ m h=>(b.same m h).trans (a.same m h)⟩
def Upd.set{st:ag}{n:Nat}{c:Cell}:Upd st n (st.set n c):=⟨UC,λ m h=>Ul (Uy h)⟩
def Hk.mono{st:ag}{n:Nat}{b b':Int}(h:Hk st n b)(l:b<=b'):Hk st n b':=let⟨cs,p,q,e,h1,h2,h3,h4⟩:=h.ex;⟨cs,p,q,e,h1,h2,by omega,h4⟩
def Hk.lt{st:ag}{n:Nat}{b:Int}(B:Hk st n b):n<st.length:=by
 obtain⟨_,_,_,e,_⟩:=B.ex;exact(Ui.mp e).1
def Hk.cell{st st':ag}{n:Nat}{b:Int}(B:Hk st n b)(e:st'[n]?=st[n]?):Hk st' n b:=by
 obtain⟨cs,p,q,e1,r⟩:=B.ex;exact⟨cs,p,q,e.trans e1,r⟩
def EN{st:ag}{n:Nat}{xs ys:List D}{i:Int}{j:Nat}{d:D}{K:ag->Prop}(h:st[n]?=some (.lst xs))(e:jV xs.length i=some j)(ey:xs.set j d=ys)(k:∀st',st'[n]?=some (.lst ys)->Upd st n st'->K st'):CN (.ref n) (.int i) d st K:=iD h e (by
 rw[ey];exact k _ (Uq (Ui.mp h).1) Upd.set)
def tf:cy:=λ ds st K=>∃ns:List Int,ds=[.lst (ns.map .int)]/\ns.length<=63/\∀st',Hk st' st.length 0->Ext st st'->K (.ref st.length) st'
def o3:List Str:=["_law_script","_law_cells","_law_rest"]
def Ge:DS:=(aJ (bo 1 (aw dD (hO (ae 0) iJ (gT (dC (.int 63)))) (uD (af (dC (.int 7)) ao))))
 (aJ (bo 2 (bO sV (af (aw aW (ae 1) (dC (.int 0))) ao)))
 (bc (xH (af (ae 1) (af (dC (.int 0)) (af (aw dh (ae 2) (bO tF (af (aw BQ (ae 2) (aw Dl (dC (.int 10)) (dC (.int 18)))) ao))) ao)))))))
def DZ:Ug tf 1 Ge o3:=by
 rintro ds st K ⟨ns,rfl,hl,k⟩;refine⟨rfl,?_⟩;refine Ax ⟨Ux rfl,?_⟩;rw[show(63:Int)=((63:Nat):Int)from rfl,yn,<-Yh];refine L6 (bL (by rw[Uh,Vo];simp;omega)) ?_;rw[ints_app];have l1:1<=(ns.take 63++[7]).length:=by simp
 generalize ns.take 63++[7]=cs at l1;refine aA rfl (fO (k:=0) (by omega)) (u9 ?_);generalize hx:(((cs.getD 0 0).natAbs:Nat):Int)=x;have x0:0<=x:=by omega
 refine PD ⟨by decide,by decide,by decide⟩ ?_;have fin:∀q:Int,0<=q->(K (.ref st.length) (st++[.lst [.lst (aB cs),.int 0,.int q]])):=λ q hq=>k _ ⟨cs,0,q,by simp,l1,Int.le_refl _,Int.le_refl _,hq⟩ Ext.push;by_cases h:(10:Int)^(18:Int).toNat<=x
 . refine TV h (sD (dH (vH (by decide) (by decide)) ⟨Ux rfl,?_⟩));exact fin (x*1) (by omega)
 . refine TX (by omega) (sD (dH (vH (by decide) (by decide)) ⟨Ux rfl,?_⟩));exact fin (x*0) (by omega)
def cv:cy:=λ ds st K=>∃(n:Nat) (m b:Int),ds=[.ref n,.int m]/\Hk st n b/\b<=1000000000/\0<m/\m<2^62/\∀r st',0<=r->r<m->Hk st' n (b+1)->Upd st n st'->K (.int r) st'
def o8:List Str:=["_law_hand_here","_law_many","_law_digit","_law_cell","_law_once"]
def FA:DS:=(aJ (dz (bh (aw uu (aw aW (ae 0) (dC (.int 2))) (dC (.int 0)))) (aJ (bo 2 (aw iC (aw aW (ae 0) (dC (.int 2))) (ae 1)))
 (aJ (fy (ae 0) (dC (.int 2)) (aw vM (aw aW (ae 0) (dC (.int 2))) (ae 1)))
 (bc (ae 2)))) de)
 (aJ (fy (ae 0) (dC (.int 1)) (aw dD (aw aW (ae 0) (dC (.int 1))) (dC (.int 1))))
 (aJ (bo 3 (aw aW (aw aW (ae 0) (dC (.int 0))) (aw iC (aw aW (ae 0) (dC (.int 1))) (bO dF (af (aw aW (ae 0) (dC (.int 0))) ao)))))
 (aJ (bo 4 (aw iC (aw dh (aw dD (aw dD (aw iC (ae 3) (dC (.int 2147483647))) (aw dh (dC (.int 7919)) (aw aW (ae 0) (dC (.int 1))))) (dC (.int 1))) (dC (.int 48271))) (dC (.int 2147483647))))
 (bc (aw iC (aw vM (aw iC (aw dh (ae 4) (aw dD (aw iC (ae 4) (dC (.int 1009))) (dC (.int 1)))) (dC (.int 2147483629))) (dC (.int 3))) (ae 1)))))))
def Ii{m:Int}(h0:0<m)(h:m<2^62):m.natAbs.log2<9000:=by
 have:m.natAbs.log2<62:=(Nat.log2_lt (by omega)).mpr (by omega);omega
def Ev(A:DE)(σ:cf)(st:ag)(d:D):Prop:=∀K:DK,K d st->A σ st K
def tT{x:D->D->ag->DK->Prop}{A B:DE}{σ:cf}{st:ag}{a b d:D}(hA:Ev A σ st a)(hB:Ev B σ st b)(hx:∀K:DK,K d st->x a b st K):Ev (aw x A B) σ st d:=λ K k=>hA _ (hB _ (hx K k))
def zx{σ:cf}{st:ag}{d:D}:Ev (dC d) σ st d:=λ K k=>k
def IH{i:Nat}{σ:cf}{st:ag}{d:D}(h:σ[i]?=some (some d)):Ev (ae i) σ st d:=λ K k=>u_ h k
def OF{i:Nat}{A:DE}{B:DS}{E:kq}{σ:cf}{st:ag}{d:D}(h:Ev A σ st d)(k:B E (σ.set i (some d)) st):aJ (bo i A) B E σ st:=h _ k
def HM{σ:cf}{st:ag}{n:Nat}{cs:List Int}{x p q:Int}(h3:σ[3]?=some (some (.int x)))(h0:σ[0]?=some (some (.ref n)))(e:st[n]?=some (.lst [.lst (aB cs),.int p,.int q])):Ev (aw iC (aw dh (aw dD (aw dD (aw iC (ae 3) (dC (.int 2147483647))) (aw dh (dC (.int 7919)) (aw aW (ae 0) (dC (.int 1))))) (dC (.int 1))) (dC (.int 48271))) (dC (.int 2147483647))) σ st (.int (((x.fmod 2147483647+7919*p+1)*48271).fmod 2147483647)):=by
 have a1:Ev (aw iC (ae 3) (dC (.int 2147483647))) σ st (.int (x.fmod 2147483647)):=tT (IH h3) zx λ K k=>md (by decide) k;have a0:Ev (aw aW (ae 0) (dC (.int 1))) σ st (.int p):=tT (IH h0) zx λ K k=>aA (aH e) (by rfl) k;have a2:Ev (aw dh (dC (.int 7919)) (aw aW (ae 0) (dC (.int 1)))) σ st (.int (7919*p)):=tT zx a0 λ K k=>dH (fQ (by decide) (by decide)) k;have a3:=tT (d:= .int (x.fmod 2147483647+7919*p)) a1 a2 λ K k=>fz k;have a4:=tT (d:= .int (x.fmod 2147483647+7919*p+1)) a3 (zx (d:= .int 1)) λ K k=>fz k;have a5:=tT (d:= .int ((x.fmod 2147483647+7919*p+1)*48271)) a4 (zx (d:= .int 48271)) λ K k=>dH (vH (by decide) (by decide)) k;exact tT a5 (zx (d:= .int 2147483647)) λ K k=>md (by decide) k
def DU:Ug cv 2 FA o8:=by
 rintro ds st K ⟨n,m,b,rfl,⟨cs,p,q,e,hl,hp,hb,hq⟩,hb2,hm0,hm1,k⟩;refine⟨rfl,?_⟩;refine aA (aH e) (by rfl) (Oy (λ h=>fb ?_) λ h=>?_)
 . refine aA (aH e) (by rfl) (md (by omega) (aA (aH e) (by rfl) (EV (by omega) (Ii hm0 hm1) ?_)));refine EN (ys:=[.lst (aB cs),.int p,.int (q.fdiv m)]) e (by rfl) (by rfl) λ st1 e1 U1=>?_;exact k _ _ (Vq _ hm0) (Vx _ hm0) ⟨cs,p,_,e1,hl,hp,by omega,by rw[VJ _ (by omega)];exact Int.ediv_nonneg hq (by omega)⟩ U1
 . refine aA (aH e) (by rfl) (fz (EN (ys:=[.lst (aB cs),.int (p+1),.int q]) e (by rfl) (by rfl) λ st1 e1 U1=>?_));have hcl:(0:Int)<((cs.length:Nat):Int):=by omega
   refine aA (aH e1) (by rfl) (aA (aH e1) (by rfl) (aA (aH e1) (by rfl) (cJ rfl ?_)));rw[Uh];refine md (by omega) ?_;obtain⟨j,hj⟩:=Vm (Vq (p+1) hcl);have hj2:=Vx (p+1) hcl;rw[hj]at hj2⊢;refine aA rfl (fO (by omega)) ?_;generalize cs.getD j 0=x;refine OF (σ:=[some (.ref n),some (.int m),none,some (.int x),none]) (HM (x:=x) (p:=p+1) rfl rfl e1) ?_;have y0:=Vq ((x.fmod 2147483647+7919*(p+1)+1)*48271) (show(0:Int)<2147483647 by decide);have y1:=Vx ((x.fmod 2147483647+7919*(p+1)+1)*48271) (show(0:Int)<2147483647 by decide);generalize((x.fmod 2147483647+7919*(p+1)+1)*48271).fmod 2147483647=u at y0 y1⊢;refine md (by decide) (fz (dH (fQ (by omega) (by omega)) (md (by decide) (EV (by decide) (by decide+kernel) (md (by omega) ?_)))));exact k _ _ (Vq _ hm0) (Vx _ hm0) ⟨cs,p+1,q,e1,hl,by omega,by omega,hq⟩ U1
abbrev oa:cy:=Bm
def qV:List Str:=["_law_one","_law_other"]
def Hi:DS:=(bc (bO zM (af (cY (qi (af (ae 0) (af (ae 1) ao))) [none,none] (f_ 0 1) bV (aw dh (ae 0) (ae 1))) ao)))
def Fd:Ug oa 2 Hi qV:=Gz
def uh:cy:=λ ds st K=>∃(d:D) (A:List (List Int)) (N w:Nat),ds=[d]/\fv st d A/\Mx.cj N w A/\1<=N/\N<=1000/\w<=1000/\K (.lst ((Mx.dg A w).map aY)) st
def pe:List Str:=["_law_rows"]
def F1:DS:=(bc (cY (eg (af (bO dF (af (aw aW (ae 0) (dC (.int 0))) ao)) ao)) [none,some 0] (bI 0) bV (bO dA (af (cY (dZ (ae 1)) [none,some 0] (bI 0) bV (aw aW (ae 0) (ae 1))) ao))))
def DN:Ug uh 1 F1 pe:=by
 rintro ds st K ⟨d,A,N,w,rfl,hd,hA,n1,n8,w8,k⟩;refine⟨rfl,?_⟩;have lA:=hA.len;obtain⟨da,hda,ra⟩:=hd.ex;obtain⟨e0,ee0,he0⟩:=ra.at (k:=0) (by omega);refine aA hda ee0 (cJ he0 ?_);rw[Uh,hA.row (i:=0) n1];refine ft ⟨by omega,by omega⟩ ⟨bL (by rw[cE];omega),?_⟩;rw[UJ];refine kr (λ j=>aY (Mx.qh A j)) w (λ j hj K' q=>⟨_,rfl,?_⟩) ?_
 . refine jo hda λ ok aO=>⟨bL (by rw[ra.len];omega),?_⟩
   refine qT (λ r=> .int (r.getD j 0)) aO ra (λ e r hr he K' q=>⟨_,rfl,aA he (fO (by rw[hA.dO r hr];exact hj)) q⟩) ?_;rw[AG];exact c8 rfl q
 . have e:(List.range w).map (λ j=>aY (Mx.qh A j))=(Mx.dg A w).map aY:=by unfold Mx.dg;rw[Vb];rfl
   rw[e];exact k
def ud(T:List (List Int))(s:Nat):Prop:=∀φ:Nat->Int,(∀i,i<s->(Mx.S s λ k=>Mx.g T i k*φ k)=0)->∀k,k<s->φ k=0
def ud.units{s:Nat}:ud (Mx.units s) s:=λ φ h k hk=>by
 have:=h k hk;rw[Mx.aC (g:=λ j=>Mx.dl k j*φ j) λ j hj=>by rw[Mx.ie hk hj],Mx.om hk]at this;exact this
def ud.add{T:List (List Int)}{s p o:Nat}{y:Int}(iT:Mx.cj s s T)(hp:p<s)(ho:o<s)(hpo:p≠o)(h:ud T s):ud (T.set p (Mx.d9 (T.getD p []) y (T.getD o []))) s:=λ φ hz=>h φ λ i hi=>by
 have lT:=iT.len
 have at_:∀i,i≠p->∀k,Mx.g (T.set p (Mx.d9 (T.getD p []) y (T.getD o []))) i k=Mx.g T i k:=λ i hne k=>by
  unfold Mx.g;rw[Uu (l:=T.set p _),Ul (Uy hne),<-Uu]
 have other:∀i,i<s->i≠p->(Mx.S s λ k=>Mx.g T i k*φ k)=0:=λ i hi hne=>by
  rw[<-hz i hi];exact Mx.aC λ k _=>by rw[at_ i hne]
 by_cases hip:i=p
 . subst hip
   have e:(Mx.S s λ k=>Mx.g (T.set i (Mx.d9 (T.getD i []) y (T.getD o []))) i k*φ k)=(Mx.S s λ k=>Mx.g T i k*φ k)+y*Mx.S s λ k=>Mx.g T o k*φ k:=by
    rw[<-Mx.eG,<-Mx.gF];refine Mx.aC λ k _=>?_
    have:Mx.g (T.set i (Mx.d9 (T.getD i []) y (T.getD o []))) i k=Mx.g T i k+y*Mx.g T o k:=by
     unfold Mx.g;rw[Uu (l:=T.set i _),Uq (by omega)];show(Mx.d9 _ _ _).getD k 0=_;rw[Mx.vC (by rw[iT.row hi,iT.row ho])]
    rw[this,Int.add_mul,VI]
   have:=hz i hi;rw[e,other o ho (Uy hpo),Vd,VP]at this;exact this
 . exact other i hi hip
def L0{p o i:Nat}{q:Int}(hp:p<i)(q0:0<=q)(q1:q<(i:Int)-1)(ho:((p:Int)+1+q).fmod (i:Int)=(o:Int)):p≠o:=λ z=>by
 subst z;rw[Yg _ (by omega)]at ho;by_cases h:(p:Int)+1+q<i
 . rw[Int.emod_eq_of_lt (by omega) h]at ho;omega
 . rw[<-Int.sub_emod_right,Int.emod_eq_of_lt (by omega) (by omega)]at ho;omega
structure XU(st:ag)(n:Nat)(st':ag):Prop where
 len:st.length<=st'.length
 same:∀m,m<st.length->m≠n->st'[m]?=st[m]?
def XU.trans{st st1 st2:ag}{n:Nat}(a:XU st n st1)(b:XU st1 n st2):XU st n st2:=⟨Um a.len b.len,λ m h g=>(b.same m (UH h a.len) g).trans (a.same m h g)⟩
def XU.upd{st st1:ag}{n:Nat}(a:Upd st n st1):XU st n st1:=⟨by rw[a.len];exact Uk _,λ m _ g=>a.same m g⟩
def XU.ext{st st1:ag}{n:Nat}(a:Ext st st1):XU st n st1:=⟨a.len,λ m h _=>a.same m h⟩
def XU.set{st st1:ag}{n k:Nat}{c:Cell}(a:XU st n st1)(h:st.length<=k):XU st n (st1.set k c):=⟨by rw[UC];exact a.len,λ m hm g=>by rw[Ul (by omega)];exact a.same m hm g⟩
def s_:cy:=λ ds st K=>∃(n s:Nat) (b:Int),ds=[.ref n,.int s]/\Hk st n b/\b<=500000000/\1<=s/\s<=8/\∀(T B:List (List Int)) st',Mx.cj s s T->Mx.cj s s B->(∀r∈T,∀x∈r,x.natAbs<=3^(s+3))->ud T s->(∀r∈B,∀x∈r,x.natAbs<=3^11)->Hk st' n (b+50)->XU st n st'->K (.tup [jR T,jR B]) st'
def oV:List Str:=["_law_hand_here","_law_size","_law_turn_here","_law_back","_law_k","_law_i","_law_j","_law_many","_law_row"]
def Fz:DS:=(aJ (bo 2 (kG (eg (af (ae 1) ao)) [none,some 1] (bI 0) bV (cY (eg (af (ae 1) ao)) [none,some 0] (bI 0) bV (bO tF (af (aw iW (ae 1) (ae 0)) ao)))))
 (aJ (bo 3 (kG (eg (af (ae 1) ao)) [none,some 1] (bI 0) bV (kG (eg (af (ae 1) ao)) [none,some 0] (bI 0) bV (bO tF (af (aw iW (ae 1) (ae 0)) ao)))))
 (aJ (jd (eg (af (aw dh (aw dD (ae 1) (ay cv (af (ae 0) (af (dC (.int 4)) ao)))) (bO tF (af (aw uu (ae 1) (dC (.int 1))) ao))) ao)) (bI 4) (aJ (bo 5 (ay cv (af (ae 0) (af (ae 1) ao))))
 (aJ (bo 6 (aw iC (aw dD (aw dD (ae 5) (dC (.int 1))) (ay cv (af (ae 0) (af (aw m9 (ae 1) (dC (.int 1))) ao)))) (ae 1)))
 (aJ (bo 7 (aw aW (uD (af (oS jJ (dC (.int 2))) (af (oS jJ (dC (.int 1))) (af (dC (.int 1)) (af (dC (.int 1)) ao))))) (ay cv (af (ae 0) (af (dC (.int 4)) ao)))))
 (aJ (fy (ae 2) (ae 5) (cY (qi (af (aw aW (ae 2) (ae 5)) (af (aw aW (ae 2) (ae 6)) ao))) [none,none,some 7] (f_ 0 1) bV (aw dD (ae 0) (aw dh (ae 2) (ae 1)))))
 (jd (dZ (ae 3)) (bI 8) (fy (ae 8) (ae 6) (aw m9 (aw aW (ae 8) (ae 6)) (aw dh (ae 7) (aw aW (ae 8) (ae 5)))))))))))
 (vG 2 (vD 3 (bc (jC (af (ae 2) (af (ae 3) ao)))))))))
structure mQ(st:ag)(L:Nat)(cs:List Nat)(A:List (List Int)):Prop where
 top:st[L]?=some (.lst (cs.map D.ref))
 nd:cs.Nodup
 ne:L∉cs
 len:cs.length=A.length
 row:∀(i c:Nat) (r:List Int),cs[i]?=some c->A[i]?=some r->st[c]?=some (.lst (aB r))
def mQ.same{st st':ag}{L:Nat}{cs:List Nat}{A:List (List Int)}(h:mQ st L cs A)(s:∀m,m=L\/m∈cs->st'[m]?=st[m]?):mQ st' L cs A:=
 ⟨(s L (.inl rfl)).trans h.top,h.nd,h.ne,h.len,λ i c r e1 e2=>(s c (.inr (UO e1))).trans (h.row i c r e1 e2)⟩
def mQ.at{st:ag}{L:Nat}{cs:List Nat}{A:List (List Int)}(h:mQ st L cs A){i:Nat}(hi:i<A.length):∃c,cs[i]?=some c/\c∈cs/\d_ (cs.map D.ref) (i:Int)=some (.ref c)/\st[c]?=some (.lst (aB (A.getD i []))):=by
 have hl:=h.len;have e:cs[i]?=some cs[i]:=Uv (by omega);refine⟨cs[i],e,UL _,iS (by rw[UB,e];rfl),?_⟩;rw[Mx.aG hi];exact h.row i _ _ e (Uv hi)
def mQ.lt{st:ag}{L:Nat}{cs:List Nat}{A:List (List Int)}(h:mQ st L cs A){c:Nat}(hc:c∈cs):c<st.length:=by
 obtain⟨i,hi,rfl⟩:=UD.mp hc;obtain⟨c',e,_,_,e2⟩:=h.at (i:=i) (by rw[<-h.len];exact hi);rw[Uv hi]at e;cases e;exact(Ui.mp e2).1
def mQ.upd{st st':ag}{n L:Nat}{cs:List Nat}{A:List (List Int)}(h:mQ st L cs A)(U:Upd st n st')(hL:n≠L)(hc:n∉cs):mQ st' L cs A:=
 h.same λ m hm=>U.same m λ e=>by
  subst e;exact hm.elim hL hc
def Jx{cs:List Nat}{i j c:Nat}(h:cs.Nodup)(e1:cs[i]?=some c)(e2:cs[j]?=some c):i=j:=by
 obtain⟨h1,e1⟩:=Ui.mp e1;obtain⟨h2,e2⟩:=Ui.mp e2;exact(List.getElem_inj h).mp (e1.trans e2.symm)
def mQ.set{st:ag}{L i c:Nat}{cs:List Nat}{A:List (List Int)}{r:List Int}(h:mQ st L cs A)(e:cs[i]?=some c):mQ (st.set c (.lst (aB r))) L cs (A.set i r):=by
 have hc:=UO e;have hlt:=h.lt hc;have hne:c≠L:=λ z=>h.ne (z▸hc);refine⟨by rw[Ul hne];exact h.top,h.nd,h.ne,by rw[UC];exact h.len,λ j d s e1 e2=>?_⟩;by_cases hj:i=j
 . subst hj;rw[e]at e1;cases e1;rw[Uq (by rw[<-h.len];exact(Ui.mp e).1)]at e2;cases e2;exact Uq hlt
 . rw[Ul hj]at e2;have hcd:c≠d:=λ z=>hj (Jx h.nd e (z▸e1));rw[Ul hcd];exact h.row j d s e1 e2
def C2{A:List (List Int)}{k:Nat}(h:k<A.length):d_ (A.map a6) (k:Int)=some (a6 (A.getD k [])):=by
 refine iS ?_;rw[UB,Uv h,Mx.aG h];rfl
def Fw{n i:Nat}{d:D}{rest:List D}(h:d::rest=(d6 0 n).drop i):i<n/\d= .int (i:Int)/\rest=(d6 0 n).drop (i+1):=by
 have hi:i<n:=by
  rcases V8 i n with z|z
  . exact z
  . rw[VA (by rw[cE];exact z)]at h;cases h
 have hl:i<(d6 0 n).length:=by rw[cE];exact hi
 rw[Vj hl]at h;obtain⟨h1,h2⟩:=Ws h;refine⟨hi,?_,h2⟩;have e:=tE (lo:=0) (n:=n) (k:=i);rw[Ur hi,Uv hl]at e;rw[h1];rw[Wn]at e;exact Vk e
def Cv{m j:Nat}(h:j<m):jV m (j:Int)=some j:=by
 unfold jV;simp only[WL,UJ];simp[h]
def Aj{σc:cf}{st:ag}{te:DE}{s i:Nat}{K:List D->ag->Prop}(te_:∀(j:Nat) K',K' (.int (Mx.dl j i)) st->te (σc.set 0 (some (.int (j:Int)))) st K')(k:K (aB (Mx.eZ s i)) st):dv (bI 0) bV te (λ _=>True) σc (d6 0 s) [] st K:=by
 refine kr (λ j=> .int (Mx.dl j i)) s (λ j hj K' q=>⟨_,rfl,te_ j K' q⟩) ?_;have:(List.range s).map (λ j=>D.int (Mx.dl j i))=aB (Mx.eZ s i):=by unfold Mx.eZ aB;rw[Vb];rfl
 rw[this];exact k
def M0{M:Nat}{r s:List Int}{c:Int}(hr:∀x∈r,x.natAbs<=M)(hs:∀x∈s,x.natAbs<=M)(hc:c.natAbs<=2):∀x∈Mx.d9 r c s,x.natAbs<=M*3:=λ x hx=>by
 unfold Mx.d9 at hx;obtain⟨k,hk,e⟩:=UD.mp hx;rw[XJ]at e;rw[WZ]at hk;have h1:=hr _ (UL (UH hk (Nat.min_le_left _ _)));have h2:=hs _ (UL (UH hk (Nat.min_le_right _ _)));rw[<-e];refine Um (Xj _ _) ?_;rw[Vh];have:=U_ hc h2;omega
def unit_eq{i j:Nat}{st:ag}{K':DK}(q:K' (.int (Mx.dl j i)) st):iW (.int (i:Int)) (.int (j:Int)) st λ d st1=>tF [d] st1 K':=by
 refine eq2 (λ h=>sD ?_) λ h=>sD ?_
 . have:i=j:=by omega
   subst this;rw[Mx.fu]at q;exact q
 . rw[Mx.fG (by omega)]at q;exact q
def AO{N:Nat}:∀r∈Mx.units N,∀x∈r,x.natAbs<=1:=λ r hr x hx=>by
 have iu:=Mx.lD N;obtain⟨i,hi,rfl⟩:=UD.mp hr;obtain⟨c,hc,rfl⟩:=UD.mp hx;have li:i<N:=by rw[<-iu.len];exact hi
 have lc:c<N:=by rw[<-iu.dO _ hr];exact hc
 have e:=Mx.ie li lc;unfold Mx.g at e;rw[Mx.aG hi,Mx.aG hc]at e;rw[e];unfold Mx.dl;split<;>decide
def I_{C:DE}{B:DS}{E:kq}{σ:cf}{st:ag}{p:Int}(h5:σ[5]?=some (some (.int p)))(h:C σ st λ d st2=>dD (.int (p+1)) d st2 λ e st3=>ae 1 σ st3 λ f st4=>iC e f st4 λ g st5=>B E (σ.set 6 (some g)) st5):aJ (bo 6 (aw iC (aw dD (aw dD (ae 5) (dC (.int 1))) C) (ae 1))) B E σ st:=
 show ae 5 σ st λ d st1=>dD d (.int 1) st1 λ e st2=>C σ st2 λ d' st3=>dD e d' st3 λ e' st4=>ae 1 σ st4 λ f st5=>iC e' f st5 λ g st6=>B E (σ.set 6 (some g)) st6 from u_ h5 (fz h)
def Jo{B:DS}{E:kq}{σ:cf}{st:ag}{p q i:Int}(h1:σ[1]?=some (some (.int i)))(hi:i≠0)(h:B E (σ.set 6 (some (.int ((p+q).fmod i)))) st):dD (.int p) (.int q) st λ e st3=>ae 1 σ st3 λ f st4=>iC e f st4 λ g st5=>B E (σ.set 6 (some g)) st5:=
 fz (u_ h1 (md hi h))
def DH:Ug s_ 2 Fz oV:=by
 rintro ds st K ⟨n,s,b,rfl,B,hb,s1,s8,k⟩;refine⟨rfl,?_⟩;have hn:=B.lt;have iu:=Mx.lD s;refine ft ⟨by omega,by omega⟩ ⟨bL (by rw[cE];omega),?_⟩;rw[UJ];refine kr (λ i=>a6 (Mx.eZ s i)) s (λ i hi K' q=>⟨_,rfl,?_⟩) ?_
 . refine ft ⟨by omega,by omega⟩ ⟨bL (by rw[cE];omega),?_⟩;rw[UJ];exact Aj (λ j K' q=>unit_eq q) q
 have eu:(List.range s).map (λ i=>a6 (Mx.eZ s i))=(Mx.units s).map a6:=by unfold Mx.units;rw[Vb];rfl
 rw[eu];generalize hs1:st++[Cell.lst ((Mx.units s).map a6)]=st1;have l1:st1.length=st.length+1:=by rw[<-hs1];simp
 have e1:st1[st.length]?=some (.lst ((Mx.units s).map a6)):=by rw[<-hs1];simp
 have X1:XU st n st1:=by rw[<-hs1];exact XU.ext Ext.push
 have B1:Hk st1 n b:=B.cell (by rw[<-hs1];exact Us hn);clear hs1;refine ft ⟨by omega,by omega⟩ ⟨bL (by rw[cE];omega),?_⟩;rw[UJ];refine ib (λ rest acc st'=>∃i:Nat,i<=s/\rest=(d6 0 s).drop i/\acc=((List.range i).map λ k=>st1.length+k).map D.ref/\st'=st1++(List.range i).map λ k=>Cell.lst (aB (Mx.eZ s k))) ?_ ?_ _ _ _ ⟨0,US _,rfl,rfl,by simp⟩;rotate_left 1
 . rintro d rest acc st' ⟨i,hi,hrest,rfl,rfl⟩ next
   obtain⟨his,rfl,rfl⟩:=Fw hrest;refine⟨trivial,_,rfl,?_⟩;refine ft ⟨by omega,by omega⟩ ⟨bL (by rw[cE];omega),?_⟩;rw[UJ];refine Aj (λ j K' q=>unit_eq q) ?_;show dv _ _ _ _ _ _ _ _ _;refine next _ _ ⟨i+1,his,rfl,?_,?_⟩
   . rw[W3,VX,VX];simp
   . rw[W3,VX,<-Wt];rfl
 rintro acc st2 ⟨i,hi,hrest,rfl,rfl⟩
 have his:i=s:=by
  have:=VU List.length hrest;rw[VH,cE,WM]at this;omega
 subst his;refine⟨trivial,?_⟩;obtain⟨cs,hcs⟩:∃cs,(List.range i).map (λ k=>st1.length+k)=cs:=⟨_,rfl⟩
 have csl:cs.length=i:=by rw[<-hcs];simp
 have csa:∀k,k<i->cs[k]?=some (st1.length+k):=λ k hk=>by rw[<-hcs,UB,WD hk];rfl
 have csm:∀c∈cs,st1.length<=c/\c<st1.length+i:=λ c hc=>by
  rw[<-hcs]at hc;obtain⟨k,hk,rfl⟩:=UI.mp hc;rw[VM]at hk;omega
 have csn:cs.Nodup:=by
  rw[<-hcs];exact List.Pairwise.map _ (λ a b h=>by show st1.length+a≠st1.length+b;omega) List.nodup_range
 rw[hcs];generalize hs2:st1++(List.range i).map (λ k=>Cell.lst (aB (Mx.eZ i k)))=st2;have l2:st2.length=st1.length+i:=by rw[<-hs2];simp
 have g2:∀m,m<st1.length->st2[m]?=st1[m]?:=λ m hm=>by rw[<-hs2];exact Us hm
 have c2:∀k,k<i->st2[st1.length+k]?=some (.lst (aB (Mx.eZ i k))):=λ k hk=>by
  rw[<-hs2,Vc (by omega),Nat.add_sub_cancel_left,UB,WD hk];rfl
 clear hs2;generalize hs3:st2++[Cell.lst (cs.map D.ref)]=st3;have g3:∀m,m<st2.length->st3[m]?=st2[m]?:=λ m hm=>by rw[<-hs3];exact Us hm
 have L3:st3[st2.length]?=some (.lst (cs.map D.ref)):=by rw[<-hs3];simp
 have l3:st3.length=st2.length+1:=by rw[<-hs3];simp
 clear hs3
 have R3:mQ st3 st2.length cs (Mx.units i):=⟨L3,csn,λ h=>by have:=csm _ h;omega,by rw[csl,iu.len],λ k c r h1 h2=>by
  have hk:k<i:=by rw[<-iu.len];exact(Ui.mp h2).1
  rw[csa k hk]at h1;cases h1
  have:r=Mx.eZ i k:=by
   unfold Mx.units at h2;rw[UB,WD hk]at h2;exact(Vk h2).symm
  rw[this,g3 _ (by omega)];exact c2 k hk⟩
 have B3:Hk st3 n b:=B1.cell (by rw[g3 n (by omega),g2 n (by omega)]);have e3:st3[st.length]?=some (.lst ((Mx.units i).map a6)):=by rw[g3 _ (by omega),g2 _ (by omega)];exact e1
 have X3:XU st n st3:=X1.trans ⟨by omega,λ m hm _=>by rw[g3 m (by omega),g2 m hm]⟩;have nL:n≠st2.length:=by omega
 have nC:n∉cs:=λ h=>by have:=csm _ h;omega
 have tL:st.length≠st2.length:=by omega
 have tC:st.length∉cs:=λ h=>by have:=csm _ h;omega
 have loL:st.length<=st2.length:=by omega
 have loC:∀c∈cs,st.length<=c:=λ c h=>by have:=csm c h;omega
 generalize st2.length=L at R3 nL tL loL;clear g2 g3 c2 L3 l2 l3 e1 X1 B1 csa csm csn hcs hrest;refine⟨n,4,_,rfl,B3,by omega,by decide,by decide,λ r4 st4 a0 a1 B4 U4=>fz (FJ (sD (dH (vH (by split<;>decide) (by split<;>decide)) ?_)))⟩
 obtain⟨m,em,m11,m2⟩:∃m:Nat,((i:Int)+r4)*(if decide ((1:Int)<(i:Int))=true then 1 else 0)=(m:Int)/\m<=i+3/\(0<m->2<=i):=by
  by_cases h:(1:Int)<(i:Int)
  . rw[U9 h,Ur rfl];exact⟨((i:Int)+r4).toNat,by omega,by omega,by omega⟩
  . rw[UQ h,Up (by decide)];exact⟨0,by simp,by omega,by omega⟩
 rw[em];clear em;refine ft ⟨by omega,by omega⟩ ?_;rw[UJ];refine lQ m (λ j σ s=>∃(T M:List (List Int)) (v4 v5 v6 v7 v8:Option D),σ=[some (.ref n),some (.int i),some (.ref st.length),some (.ref L),v4,v5,v6,v7,v8]/\s[st.length]?=some (.lst (T.map a6))/\mQ s L cs M/\Mx.cj i i T/\ud T i/\Mx.cj i i M/\(∀r∈T,∀x∈r,x.natAbs<=3^j)/\(∀r∈M,∀x∈r,x.natAbs<=3^j)/\Hk s n (b+1+3*j)/\XU st n s) ?_ ?_ ⟨_,_,none,none,none,none,none,rfl,(U4.same _ (by omega)).trans e3,R3.upd U4 nL nC,iu,ud.units,iu,AO,AO,B4.mono (by simp),X3.trans (XU.upd U4)⟩
 . rintro σ s ⟨T,M,v4,v5,v6,v7,v8,rfl,eT,RM,iT,kT,iM,bT,bM,B',X⟩;have up:3^m<=3^(i+3):=UE (by decide) m11;have up2:3^m<=3^11:=UE (by decide) (by omega);refine Qd (by rfl) eT ?_
   have RM2:mQ (s.set st.length .dead) L cs M:=RM.same λ q hq=>Ul λ z=>by
    rcases hq with h|h
    . exact tL (z.trans h)
    . exact tC (z▸h)
   refine MM (i:=3) (xss:=M.map aB) rfl RM2.top RM2.nd RM2.ne (by rw[Uh];exact RM2.len) (λ q c xs h1 h2=>?_) ⟨Ux rfl,?_⟩
   . rw[UB]at h2;obtain⟨r,er,rfl⟩:=WN.mp h2;exact RM2.row q c r h1 er
   have eM:(M.map aB).map D.lst=M.map a6:=by rw[Vb];rfl
   rw[eM]
   have kl:∀q,q<st.length->(kill (L::cs) (s.set st.length .dead))[q]?=s[q]?:=λ q hq=>by
    rw[D_ λ z=>by
     rcases UK.mp z with z|z
     . omega
     . have:=loC _ z;omega,Ul (by omega)]
   refine k T M _ iT iM (λ r hr x hx=>Um (bT r hr x hx) up) kT (λ r hr x hx=>Um (bM r hr x hx) up2) ((B'.cell (kl n hn)).mono (by omega)) ⟨by rw[B0,UC];exact X.len,λ q hq hqn=>(kl q hq).trans (X.same q hq hqn)⟩
 rintro j σ s rest hj ⟨T,M,v4,v5,v6,v7,v8,rfl,eT,RM,iT,kT,iM,bT,bM,B',X⟩ next
 have i2:=m2 (by omega);clear m2 a0 a1;have lT:=iT.len;have lM:=iM.len;refine⟨_,rfl,?_⟩;refine⟨n,_,_,rfl,B',by omega,by omega,by omega,λ p s5 p0 p1 B5 U5=>?_⟩;obtain⟨p,rfl⟩:=Vm p0;refine I_ (p:=(p:Int)) (σ:=[some (.ref n),some (.int i),some (.ref st.length),some (.ref L),some (.int (j:Int)),some (.int (p:Int)),v6,v7,v8]) rfl ?_;refine qu ⟨n,_,_,rfl,B5,by omega,by omega,by omega,λ q s6 q0 q1 B6 U6=>?_⟩;refine Jo (i:=(i:Int)) rfl (by omega) ?_;obtain⟨o,ho⟩:=Vm (Vq ((p:Int)+1+q) (show(0:Int)<(i:Int) by omega));have o1:=Vx ((p:Int)+1+q) (show(0:Int)<(i:Int) by omega);have hpo:=L0 (p:=p) (i:=i) (by omega) q0 q1 ho;rw[ho]at o1⊢;refine iP (iP ⟨Ux rfl,n,4,_,rfl,B6,by omega,by decide,by decide,λ r7 s7 d0 d1 B7 U7=>?_⟩)
 obtain⟨y,ey,hy⟩:∃y:Int,d_ [D.int (-2),.int (-1),.int 1,.int 1] r7=some (.int y)/\y.natAbs<=2:=by
  have:r7=0\/r7=1\/r7=2\/r7=3:=by omega
  rcases this with rfl|rfl|rfl|rfl
  . exact⟨-2,rfl,by decide⟩
  . exact⟨-1,rfl,by decide⟩
  . exact⟨1,rfl,by decide⟩
  . exact⟨1,rfl,by decide⟩
 refine aA rfl ey ?_;have U:=(U5.trans U6).trans U7;have eT7:s7[st.length]?=some (.lst (T.map a6)):=(U.same _ (by omega)).trans eT;have RM7:=RM.upd U nL nC;have X7:=X.trans (XU.upd U);clear U5 U6 U7 U B5 B6 eT RM B';have tp:=iT.row (i:=p) (by omega);have to:=iT.row (i:=o) (by omega);have mp:T.getD p []∈T:=by rw[Mx.aG (by omega)];exact UL _
 have mo:T.getD o []∈T:=by rw[Mx.aG (by omega)];exact UL _
 refine aA (aH eT7) (C2 (by omega)) (aA (aH eT7) (C2 (by omega)) ?_);refine oC rfl rfl λ ok aO=>⟨bL (by rw[ll,Uh,Uh];omega),?_⟩
 refine comp_map (g:=λ d=>match d with| .tup [.int x,.int z]=> .int (x+y*z)|_=> .aD) (aO s7 rfl rfl) _ (λ d hd K' q=>?_) ?_
 . obtain⟨x,z,_,_,rfl⟩:=p9 hd;exact⟨_,rfl,dH (fQ (by omega) (by omega)) (fz q)⟩
 have ea:(gd (aB (T.getD p [])) (aB (T.getD o []))).map (λ d=>match d with| .tup [.int x,.int z]=> .int (x+y*z)|_=> .aD)=aB (Mx.d9 (T.getD p []) y (T.getD o [])):=vm _ _;rw[ea];refine iD eT7 (Cv (by rw[Uh];omega)) ?_;have es:(T.map a6).set p (a6 (Mx.d9 (T.getD p []) y (T.getD o [])))=(T.set p (Mx.d9 (T.getD p []) y (T.getD o []))).map a6:=by rw[XI]
 have lt7:=(Ui.mp eT7).1;generalize hs8:s7.set st.length (.lst ((T.map a6).set p (a6 (Mx.d9 (T.getD p []) y (T.getD o [])))))=s8;have eT8:s8[st.length]?=some (.lst ((T.set p (Mx.d9 (T.getD p []) y (T.getD o []))).map a6)):=by rw[<-hs8,Uq lt7,es]
 have g8:∀q,q≠st.length->s8[q]?=s7[q]?:=λ q hq=>by rw[<-hs8,Ul (Uy hq)]
 have X8:XU st n s8:=by rw[<-hs8];exact X7.set (Uk _)
 clear hs8
 have RM8:mQ s8 L cs M:=RM7.same λ q hq=>g8 q λ z=>by
  rcases hq with h|h
  . exact tL (z.symm.trans h)
  . exact tC (z▸h)
 have B8:Hk s8 n (b+1+3*j+3):=(B7.cell (g8 n (by omega))).mono (by omega);have p3:3^j<=3^(j+1):=UE (by decide) (XR _);have e3j:3^(j+1)=3^j*3:=VD _ _
 have iT2:Mx.cj i i (T.set p (Mx.d9 (T.getD p []) y (T.getD o []))):=⟨by rw[UC];exact lT,λ r hr=>by
  rcases Vi hr with h|h
  . exact iT.dO r h
  . rw[h,Mx.nc (by omega)];exact tp⟩
 have bT2:∀r∈T.set p (Mx.d9 (T.getD p []) y (T.getD o [])),∀x∈r,x.natAbs<=3^(j+1):=λ r hr x hx=>by
  rcases Vi hr with h|h
  . exact Um (bT r h x hx) p3
  . rw[h]at hx;rw[e3j];exact M0 (bT _ mp) (bT _ mo) hy x hx
 have kT2:=kT.add (y:=y) iT (p:=p) (o:=o) (by omega) (by omega) hpo;generalize T.set p (Mx.d9 (T.getD p []) y (T.getD o []))=T2 at eT8 iT2 bT2 kT2;refine LP (aH RM8.top) λ ok2 hok2=>?_;refine iF (λ rest σ s=>∃(q:Nat) (M':List (List Int)) (v8:Option D),q<=i/\rest=(cs.map D.ref).drop q/\σ=[some (.ref n),some (.int i),some (.ref st.length),some (.ref L),some (.int (j:Int)),some (.int (p:Int)),some (.int (o:Int)),some (.int y),v8]/\s[st.length]?=some (.lst (T2.map a6))/\mQ s L cs M'/\Mx.cj i i M'/\(∀r∈M',∀x∈r,x.natAbs<=3^(j+1))/\(∀k,q<=k->k<i->∀x∈M'.getD k [],x.natAbs<=3^j)/\Hk s n (b+1+3*j+3)/\XU st n s) ?_ ?_ _ _ _ ⟨0,M,v8,US _,rfl,rfl,eT8,RM8,iM,λ r hr x hx=>Um (bM r hr x hx) p3,λ k _ hk x hx=>bM _ (by rw[Mx.aG (by omega)];exact UL _) x hx,B8,X8⟩
 . rintro σ s9 ⟨q,M',v8,hq,hrest,rfl,eT9,RM9,iM9,bM9,_,B9,X9⟩;exact⟨hok2 _ (aH RM9.top),next _ _ ⟨T2,M',_,_,_,_,_,rfl,eT9,RM9,iT2,kT2,iM9,bT2,bM9,B9.mono (by omega),X9⟩⟩
 . rintro d rest σ s9 ⟨q,M',v8,hq,hrest,rfl,eT9,RM9,iM9,bM9,bq,B9,X9⟩ Gb;have lM9:=iM9.len
   have hqi:q<i:=by
    have:=VU List.length hrest;rw[UT,VH,Uh,csl]at this;omega
   obtain⟨c,ec,mc,_,ecc⟩:=RM9.at (i:=q) (by omega);have hcl:q<(cs.map D.ref).length:=by rw[Uh,csl];exact hqi
   rw[Vj hcl]at hrest;obtain⟨h1,rfl⟩:=Ws hrest
   have hd:d= .ref c:=by
    rw[h1,VR];have:=Ui.mp ec;rw[this.2]
   subst hd;have rq:=iM9.row (i:=q) hqi;have b0:=bq q (Uk _) hqi;generalize hR:M'.getD q []=R at ecc rq b0;refine⟨hok2 _ (aH RM9.top),_,rfl,?_⟩;refine aA (aH ecc) (fO (by omega)) (aA (aH ecc) (fO (by omega)) (dH (fQ (by omega) (by omega)) (qu ?_)));refine iD ecc (Cv (by rw[Uh];omega)) ?_;have es2:(aB R).set o (.int (R.getD o 0-y*R.getD p 0))=aB (R.set o (R.getD o 0-y*R.getD p 0)):=by unfold aB;rw[XI]
   rw[es2]
   have hx:(R.getD o 0-y*R.getD p 0).natAbs<=3^(j+1):=by
    have h1:=b0 _ (getD_mem (r:=R) (k:=o) (by omega));have h2:=b0 _ (getD_mem (r:=R) (k:=p) (by omega));have h3:=Yn (R.getD o 0) (y*R.getD p 0);rw[Vh]at h3;have h4:=U_ hy h2;omega
   generalize R.getD o 0-y*R.getD p 0=v at hx
   have bR:∀x∈R.set o v,x.natAbs<=3^(j+1):=λ x hx2=>by
    rcases Vi hx2 with h|h
    . exact Um (b0 x h) p3
    . rw[h];exact hx
   have cn:c≠n:=λ z=>nC (z▸mc);have ct:c≠st.length:=λ z=>tC (z▸mc);refine Gb _ _ ⟨q+1,M'.set q (R.set o v),_,hqi,rfl,rfl,(Ul ct).trans eT9,RM9.set ec,⟨by rw[UC];exact lM9,λ r hr=>?_⟩,λ r hr x hx=>?_,λ k hk1 hk2=>?_,B9.cell (Ul cn),X9.set (loC c mc)⟩
   . rcases Vi hr with h|h
     . exact iM9.dO r h
     . rw[h,UC];exact rq
   . rcases Vi hr with h|h
     . exact bM9 r h x hx
     . rw[h]at hx;exact bR x hx
   . have:(M'.set q (R.set o v)).getD k []=M'.getD k []:=by
      rw[Uu,Ul (by omega),Uu]
     rw[this];exact bq k (by omega) hk2
def vx:cy:=λ ds st K=>∃(n:Nat) (b:Int),ds=[.ref n]/\Hk st n b/\b<=400000000/\∀(R:List (List Int)) (r:List Int) (N w:Nat) st',Mx.cj w N R->1<=N->N<=8->1<=w->w<=8->(∀r∈R,∀x∈r,x.natAbs<=119)->r.length=w->(∀x∈r,x.natAbs<=2^13)->Hk st' n (b+200)->XU st n st'->K (.tup [bQ R,aY r]) st'
def qR:List Str:=["_law_hand_here","_law_size","_law_many","_law_most","_law_rows","_law_k","_law_row","_law_due","_law_numbers"]
def IL:DS:=(aJ (Ce 1 2 (af (aw dD (dC (.int 1)) (ay cv (af (ae 0) (af (dC (.int 5)) ao)))) (af (aw dD (dC (.int 1)) (ay cv (af (ae 0) (af (dC (.int 4)) ao)))) ao)))
 (aJ (dz (bh (aw iW (ay cv (af (ae 0) (af (dC (.int 8)) ao))) (dC (.int 0)))) (Ce 1 2 (af (aw dD (dC (.int 6)) (ay cv (af (ae 0) (af (dC (.int 3)) ao)))) (af (aw dD (dC (.int 6)) (ay cv (af (ae 0) (af (dC (.int 3)) ao)))) ao))) de)
 (aJ (bo 3 (aw aW (uD (af (dC (.int 2)) (af (dC (.int 3)) (af (dC (.int 7)) ao)))) (ay cv (af (ae 0) (af (dC (.int 3)) ao)))))
 (aJ (bo 4 (xH ao))
 (aJ (jd (eg (af (ae 2) ao)) (bI 5) (aJ (bo 6 (bO dA (af (cY (eg (af (ae 1) ao)) [none,some 0,some 3] (bI 0) bV (aw m9 (ay cv (af (ae 1) (af (aw dD (aw dh (dC (.int 2)) (ae 2)) (dC (.int 1))) ao))) (ae 2))) ao)))
 (aJ (dz (uc (bh (aw uu (ae 5) (dC (.int 0)))) (bh (aw iW (ay cv (af (ae 0) (af (dC (.int 4)) ao))) (dC (.int 0))))) (bo 6 (bO dA (af (cY (qi (af (aw aW (ae 4) (dC (.int 0))) (af (aw aW (ae 4) (oS jJ (dC (.int 1)))) ao))) [none,none] (f_ 0 1) bV (aw m9 (aw dh (dC (.int 2)) (ae 0)) (ae 1))) ao))) de)
 (ji (iY (ae 4) (ae 6))))))
 (aJ (bo 7 (bO dA (af (cY (eg (af (ae 2) ao)) [none,some 0,some 3] (bI 0) bV (aw m9 (ay cv (af (ae 1) (af (aw dD (aw dh (dC (.int 2)) (ae 2)) (dC (.int 1))) ao))) (ae 2))) ao)))
 (aJ (dz (bh (aw iW (ay cv (af (ae 0) (af (dC (.int 2)) ao))) (dC (.int 0)))) (aJ (bo 8 (cY (eg (af (ae 1) ao)) [none,some 0] (bI 0) bV (aw m9 (ay cv (af (ae 1) (af (dC (.int 9)) ao))) (dC (.int 4)))))
 (bo 7 (bO dA (af (cY (dZ (ae 4)) [none,some 8] (bI 0) bV (ay oa (af (ae 1) (af (ae 0) ao)))) ao)))) de)
 (bc (jC (af (bO dA (af (ae 4) ao)) (af (ae 7) ao)))))))))))
def Ki{A:List (List Int)}{n:Nat}(h:A.length=n+1):d_ (A.map aY) (-1)=some (aY (A.getD n [])):=by
 have e:jV (n+1) (-1)=some n:=by unfold jV;simp;omega
 unfold d_;rw[Uh,h,e];show(A.map aY)[n]?=_;rw[UB,Uv (by omega),Mx.aG (by omega)];rfl
def uU{n:Nat}{b m o:Int}{xs:List D}{σc:cf}{st:ag}{te:DE}{K:List D->ag->Prop}(te_:∀(x:D) (st':ag) (K':DK),cv [.ref n,.int m] st' (λ d s=>∃i,d= .int i/\K' (.int (i-o)) s)->te (σc.set 0 (some x)) st' K')(B:Hk st n b)(hb:b<=900000000)(m0:0<m)(m1:m<2^62)(hx:xs.length<=8)(hs:(λ(x:D)=>bI 0 x σc)=λ x=>some (σc.set 0 (some x)))
 (k:∀r st',r.length=xs.length->(∀x∈r,-o<=x/\x<m-o)->Hk st' n (b+8)->Upd st n st'->K (aB r) st'):dv (bI 0) bV te (λ _=>True) σc xs [] st K:=by
 refine ib (λ rest acc st'=>∃l:List Int,acc=aB l/\l.length+rest.length=xs.length/\(∀x∈l,-o<=x/\x<m-o)/\Hk st' n (b+l.length)/\Upd st n st') ?_ ?_ _ _ _ ⟨[],rfl,by simp,by simp,B.mono (by simp),Upd.refl⟩
 . rintro acc st' ⟨l,rfl,hl,h2,B',U'⟩;have hl:l.length=xs.length:=by simpa using hl
   exact⟨trivial,k l st' hl h2 (B'.mono (by omega)) U'⟩
 . rintro d rest acc st' ⟨l,rfl,hl,h2,B',U'⟩ next
   have hl2:l.length<8:=by simp at hl;omega
   refine⟨trivial,σc.set 0 (some d),congrFun hs d,te_ d st' _ ⟨n,m,_,rfl,B',by omega,m0,m1,λ i st2 i0 i1 B2 U2=>⟨i,rfl,?_⟩⟩⟩;show dv _ _ _ _ _ _ _ _ _;rw[ints_app];refine next _ _ ⟨l++[i-o],rfl,by simp at hl⊢;omega,λ z hz=>?_,B2.mono (by simp;omega),U'.trans U2⟩
   rcases Vf.mp hz with hz|hz
   . exact h2 z hz
   . rw[Vw.mp hz];omega
def t7{p q:Nat}:∀ {r s:List Int},(∀x∈r,x.natAbs<=p)->(∀x∈s,x.natAbs<=q)->(Mx.jH r s).natAbs<=r.length*(p*q)
 | [],_,_,_=>US _
 |_::_,[],_,_=>US _
 |a::r,b::s,h1,h2=>by
  have ih:=t7 (r:=r) (s:=s) (λ x hx=>h1 x (UG _ hx)) λ x hx=>h2 x (UG _ hx);have h3:=U_ (h1 a UP) (h2 b UP);have h4:=Xj (a*b) (Mx.jH r s);rw[Vh]at h4;show(a*b+Mx.jH r s).natAbs<=_;rw[UT,Xm,Wx];omega
def E_(f:Int->Int->Int):∀(r s:List Int),(gd (aB r) (aB s)).map (λ d=>match d with| .tup [.int a,.int b]=> .int (f a b)|_=> .aD)=aB (List.zipWith f r s)
 | [],_=>rfl
 |_::_,[]=>rfl
 |a::r,b::s=>by
  have:=E_ f r s;unfold gd at this⊢;simp only[aB,UY,List.zip_cons_cons,YQ]at this⊢;rw[this]
def wJ{f:Int->Int->Int}{r s:List Int}{x:Int}(h:x∈List.zipWith f r s):∃a∈r,∃b∈s,x=f a b:=by
 obtain⟨i,hi,e⟩:=UD.mp h;rw[XJ]at e;exact⟨_,UL _,_,UL _,e.symm⟩
def FV:Ug vx 1 IL qR:=by
 rintro ds st K ⟨n,b,rfl,B,hb,k⟩;refine⟨rfl,?_⟩;have hn:=B.lt;refine⟨n,5,b,rfl,B,by omega,by decide,by decide,λ r1 st1 a0 a1 B1 U1=>fz ⟨n,4,_,rfl,B1,by omega,by decide,by decide,λ r2 st2 b0 b1 B2 U2=>fz ?_⟩⟩;dsimp only;refine iQ (A:=dz _ _ _) (λ σ st'=>∃N w:Nat,σ=[some (.ref n),some (.int N),some (.int w),none,none,none,none,none,none]/\1<=N/\N<=8/\1<=w/\w<=8/\Hk st' n (b+5)/\Upd st n st') (λ nx hnx=>?_) ?_
 . refine⟨n,8,_,rfl,B2,by omega,by decide,by decide,λ r3 st3 c0 c1 B3 U3=>?_⟩;refine eq2 (λ h=>fb ?_) λ h=>?_
   . refine⟨n,3,_,rfl,B3,by omega,by decide,by decide,λ r4 st4 d0 d1 B4 U4=>fz ⟨n,3,_,rfl,B4,by omega,by decide,by decide,λ r5 st5 e0 e1 B5 U5=>fz ?_⟩⟩;obtain⟨x,rfl⟩:=Vm d0;obtain⟨y,rfl⟩:=Vm e0;exact hnx _ _ ⟨6+x,6+y,rfl,by omega,by omega,by omega,by omega,B5.mono (by omega),(U1.trans U2).trans (U3.trans (U4.trans U5))⟩
   . obtain⟨x,rfl⟩:=Vm a0;obtain⟨y,rfl⟩:=Vm b0;exact hnx _ _ ⟨1+x,1+y,rfl,by omega,by omega,by omega,by omega,B3.mono (by omega),(U1.trans U2).trans U3⟩
 clear a0 a1 b0 b1 B1 B2 U1 U2;rintro _ st3 ⟨N,w,rfl,N1,N8,w1,w8,B3,U3⟩;refine⟨Ux rfl,n,3,_,rfl,B3,by omega,by decide,by decide,λ r4 st4 c0 c1 B4 U4=>?_⟩
 obtain⟨M,eM,M2,M7⟩:∃M:Int,d_ [D.int 2,.int 3,.int 7] r4=some (.int M)/\2<=M/\M<=7:=by
  have:r4=0\/r4=1\/r4=2:=by omega
  rcases this with rfl|rfl|rfl
  . exact⟨2,rfl,by decide,by decide⟩
  . exact⟨3,rfl,by decide,by decide⟩
  . exact⟨7,rfl,by decide,by decide⟩
 refine aA rfl eM ⟨Ux rfl,?_⟩;have U4':=U3.trans U4;have l4:=U4'.len
 have drawn:∀(x:D) (s:ag) (K':DK),cv [.ref n,.int (2*M+1)] s (λ d s=>∃i,d= .int i/\K' (.int (i-M)) s)->(aw m9 (ay cv (af (ae 1) (af (aw dD (aw dh (dC (.int 2)) (ae 2)) (dC (.int 1))) ao))) (ae 2)) [some x,some (.ref n),some (.int M)] s K':=λ x s K' h=>by
  obtain⟨n',m',b',e1,h1,h2,h3,h4,h5⟩:=h;cases e1
  exact dH (fQ (by decide) (by decide)) (fz ⟨_,_,b',rfl,h1,h2,h3,h4,λ r s r0 r1 H U=>by
   obtain⟨i,ei,hi⟩:=h5 r s r0 r1 H U;cases ei;exact qu hi⟩)
 dsimp only;refine iQ (A:=jd _ _ _) (λ σ s=>∃(A:List (List Int)) (v5 v6:Option D),σ=[some (.ref n),some (.int N),some (.int w),some (.int M),some (.ref st4.length),v5,v6,none,none]/\s[st4.length]?=some (.lst (A.map aY))/\Mx.cj w N A/\(∀r∈A,∀x∈r,x.natAbs<=119)/\Hk s n (b+100)/\XU st n s) (λ nx hnx=>?_) ?_
 . refine ft ⟨by omega,by omega⟩ ?_;rw[UJ];refine lQ w (λ j σ st'=>∃(A:List (List Int)) (v5 v6:Option D),σ=[some (.ref n),some (.int N),some (.int w),some (.int M),some (.ref st4.length),v5,v6,none,none]/\st'[st4.length]?=some (.lst (A.map aY))/\A.length=j/\(∀r∈A,r.length=N)/\(∀r∈A,∀x∈r,x.natAbs<=7+14*(j-1))/\(∀x∈A.getD 0 [],x.natAbs<=7)/\Hk st' n (b+6+9*j)/\XU st n st') ?_ ?_ ⟨[],none,none,rfl,by simp,rfl,by simp,by simp,by simp,(B4.cell (Us (by rw[l4];exact hn))).mono (by simp;omega),(XU.upd U4').trans (XU.ext Ext.push)⟩
   . rintro σ st' ⟨A,v5,v6,rfl,e,hl,hA,hbd,_,B',X⟩;exact hnx _ _ ⟨A,v5,v6,rfl,e,⟨hl,hA⟩,λ r hr x hx=>Um (hbd r hr x hx) (by omega),B'.mono (by omega),X⟩
   rintro j σ st' rest hj ⟨A,v5,v6,rfl,e,hl,hA,hbd,h7,B',X⟩ next
   have hlen:=(Ui.mp e).1;refine⟨_,rfl,?_⟩;refine ft ⟨by omega,by omega⟩ ⟨bL (by rw[cE];omega),?_⟩;rw[UJ];refine uU (n:=n) (m:=2*M+1) (o:=M) drawn B' (by omega) (by omega) (by omega) (by rw[cE];omega) rfl λ r0 st5 hr0 hr1 B5 U5=>?_;rw[cE]at hr0;refine c8 rfl ?_;have e5:st5[st4.length]?=some (.lst (A.map aY)):=(U5.same _ (by omega)).trans e;dsimp only;refine iQ (A:=dz _ _ _) (λ σ s=>∃r:List Int,σ=[some (.ref n),some (.int N),some (.int w),some (.int M),some (.ref st4.length),some (.int (j:Int)),some (aY r),none,none]/\r.length=N/\(∀x∈r,x.natAbs<=7+14*j)/\s[st4.length]?=some (.lst (A.map aY))/\Hk s n (b+6+9*j+9)/\XU st n s) (λ nx hnx=>?_) ?_
   . have ng:∀s,s[st4.length]?=some (.lst (A.map aY))->Hk s n (b+6+9*j+9)->XU st n s->nx [some (.ref n),some (.int N),some (.int w),some (.int M),some (.ref st4.length),some (.int (j:Int)),some (aY r0),none,none] s:=λ s h1 h2 h3=>hnx _ _ ⟨r0,rfl,hr0,λ x hx=>by
      have:=hr1 x hx;omega,h1,h2,h3⟩
     have X5:=X.trans (XU.upd U5);refine Oy (λ h=>fb ?_) λ h=>ng _ e5 (B5.mono (by omega)) X5;refine⟨n,4,_,rfl,B5,by omega,by decide,by decide,λ r6 st6 d0 d1 B6 U6=>?_⟩;have e6:st6[st4.length]?=some (.lst (A.map aY)):=(U6.same _ (by omega)).trans e5;have X6:=X5.trans (XU.upd U6);refine eq2 (λ h2=>fb ?_) λ h2=>ng _ e6 (B6.mono (by omega)) X6;obtain⟨i,rfl⟩:∃i,j=i+1:=⟨j-1,by omega⟩
     have hm:A.getD i []∈A:=by rw[Mx.aG (by omega)];exact UL _
     have hm0:A.getD 0 []∈A:=by rw[Mx.aG (by omega)];exact UL _
     have lr:=hA _ hm;have lr0:=hA _ hm0;refine aA (aH e6) (show d_ (A.map aY) 0=some (aY (A.getD 0 []))from sf (k:=0) (by omega)) (iP (aA (aH e6) (Ki hl) ?_));refine oC rfl rfl λ ok aO=>⟨bL (by rw[ll,Uh,Uh];omega),?_⟩
     refine comp_map (g:=λ d=>match d with| .tup [.int x,.int z]=> .int (2*x-z)|_=> .aD) (aO _ rfl rfl) _ (λ d hd K' q=>?_) ?_
     . obtain⟨x,z,_,_,rfl⟩:=p9 hd;exact⟨_,rfl,dH (fQ (by decide) (by decide)) (qu q)⟩
     rw[E_ λ x z=>2*x-z];refine c8 rfl (hnx _ _ ⟨_,rfl,by rw[WZ];omega,λ y hy=>?_,e6,B6.mono (by omega),X6⟩);obtain⟨x,hx,z,hz,rfl⟩:=wJ hy;have h1:=h7 x hx;have h2:=hbd _ hm z hz;omega
   rintro _ st6 ⟨r,rfl,lr,br,e6,B6,X6⟩;refine ql (by rfl) e6 (u_ rfl (nt e6 (by rw[V5,Uh];omega) ?_));have hl6:=(Ui.mp e6).1;refine next _ _ ⟨A++[r],_,_,rfl,by rw[Uq hl6,Ka],by simp[hl],λ q hq=>?_,λ q hq x hx=>?_,λ x hx=>?_,(B6.cell (Ul (by omega))).mono (by omega),X6.set (by omega)⟩
   . rcases Vf.mp hq with h|h
     . exact hA q h
     . rw[Vw.mp h];exact lr
   . rcases Vf.mp hq with h|h
     . have:=hbd q h x hx;omega
     . rw[Vw.mp h]at hx;have:=br x hx;omega
   . match A,hl,h7,hx with
     | [],hl,_,hx=>
       have:j=0:=by simpa using hl.symm
       have:=br x hx;omega
     |a::A',_,h7,hx=>exact h7 x hx
 rintro _ st5 ⟨A,v5,v6,rfl,e5,iA,bA,B5,X5⟩;have lx:=X5.len;refine ft ⟨by omega,by omega⟩ ⟨bL (by rw[cE];omega),?_⟩;rw[UJ];refine uU (n:=n) (m:=2*M+1) (o:=M) drawn B5 (by omega) (by omega) (by omega) (by rw[cE];omega) rfl λ r0 st6 hr0 hr1 B6 U6=>?_;rw[cE]at hr0;refine c8 rfl ?_;have e6:st6[st4.length]?=some (.lst (A.map aY)):=(U6.same _ (by omega)).trans e5;have X6:=X5.trans (XU.upd U6);dsimp only;refine iQ (A:=dz _ _ _) (λ σ s=>∃(r:List Int) (v8:Option D),σ=[some (.ref n),some (.int N),some (.int w),some (.int M),some (.ref st4.length),v5,v6,some (aY r),v8]/\r.length=w/\(∀x∈r,x.natAbs<=2^13)/\s[st4.length]?=some (.lst (A.map aY))/\Hk s n (b+150)/\XU st n s) (λ nx hnx=>?_) ?_
 . refine⟨n,2,_,rfl,B6,by omega,by decide,by decide,λ r7 st7 d0 d1 B7 U7=>?_⟩;have e7:st7[st4.length]?=some (.lst (A.map aY)):=(U7.same _ (by omega)).trans e6;have X7:=X6.trans (XU.upd U7);refine eq2 (λ h=>fb ?_) λ h=>hnx _ _ ⟨r0,none,rfl,hr0,λ x hx=>by have:=hr1 x hx;omega,e7,B7.mono (by omega),X7⟩;refine ft ⟨by omega,by omega⟩ ⟨bL (by rw[cE];omega),?_⟩;rw[UJ];refine uU (n:=n) (m:=9) (o:=4) (λ x st' K' h=>?_) B7 (by omega) (by decide) (by decide) (by rw[cE];omega) rfl λ ws st8 hw0 hw1 B8 U8=>?_
   . obtain⟨n',m',b',e1,h1,h2,h3,h4,h5⟩:=h;cases e1
     exact⟨_,9,b',rfl,h1,h2,h3,h4,λ r s r0 r1 H U=>by
      obtain⟨i,ei,hi⟩:=h5 r s r0 r1 H U;cases ei;exact qu hi⟩
   rw[cE]at hw0;have e8:st8[st4.length]?=some (.lst (A.map aY)):=(U8.same _ (by omega)).trans e7;have bw:∀x∈ws,x.natAbs<=4:=λ x hx=>by have:=hw1 x hx;omega
   refine jo (aH e8) λ ok aO=>⟨bL (by rw[Uh,iA.len];omega),?_⟩
   refine qT (λ r=> .int (Mx.jH ws r)) aO bK.tup (λ d r hr he K' t=>⟨_,rfl,_,_,ws,r,rfl,rfl,he,by omega,λ x hx y hy=>fQ (by have:=bw x hx;omega) (by have:=bw x hx;omega),t⟩) ?_;have ed:A.map (λ r=>D.int (Mx.jH ws r))=aB (A.map (Mx.jH ws)):=by unfold aB;rw[Vb];rfl
   rw[ed];refine c8 rfl (hnx _ _ ⟨_,_,rfl,by rw[Uh];exact iA.len,λ x hx=>?_,e8,B8.mono (by omega),X7.trans (XU.upd U8)⟩);obtain⟨r,hr,rfl⟩:=UI.mp hx;refine Um (t7 bw (bA r hr)) ?_;rw[hw0];exact Um (Vs _ N8) (by decide)
 rintro _ st7 ⟨r,v8,rfl,lr,br,e7,B7,X7⟩;exact c8 (aH e7) ⟨Ux rfl,k A r N w st7 iA N1 N8 w1 w8 bA lr br (B7.mono (by omega)) X7⟩
abbrev pairD(p:List Int×Int):D:= .tup [aY p.1,.int p.2]
def Kl(N:Nat)(x:Nat->Int)(t:Int)(p:List Int×Int):Prop:=(Mx.S N λ n=>x n*p.1.getD n 0)=t*p.2
def wR(N w:Nat)(R:List (List Int))(r:List Int)(x:Nat->Int)(t:Int):Prop:=∀i,i<w->(Mx.S N λ n=>x n*Mx.g R i n)=t*r.getD i 0
def mw:cy:=λ ds st K=>∃(n:Nat) (b:Int) (R:List (List Int)) (r:List Int) (N w:Nat),ds=[.ref n,bQ R,aY r]/\Hk st n b/\b<=400000000/\Mx.cj w N R/\1<=N/\N<=8/\1<=w/\w<=8/\(∀r∈R,∀x∈r,x.natAbs<=119)/\r.length=w/\(∀x∈r,x.natAbs<=2^13)/\
 ∀(R':List (List Int)) (r':List Int) (w':Nat) st',Mx.cj w' N R'->1<=w'->w'<=8->(∀r∈R',∀x∈r,x.natAbs<=2^28)->r'.length=w'->(∀x∈r',x.natAbs<=2^70)->(∀x t,wR N w R r x t↔wR N w' R' r' x t)->Hk st' n (b+200)->XU st n st'->K (.tup [bQ R',aY r']) st'
def jU:List Str:=["_law_hand_here","_law_rows","_law_due","_law_turn_here","_law_back","_law_made","_law_weights","_law_row","_law_one","_law_other","_law_left","_law_found"]
def yb:DS:=(aJ (CM (f_ 3 4) (ay s_ (af (ae 0) (af (bO dF (af (ae 1) ao)) ao))))
 (aJ (bo 5 (xH ao))
 (aJ (jd (dZ (ae 3)) (bI 6) (aJ (bo 7 (bO dA (af (cY (dZ (ay uh (af (ae 1) ao))) [none,some 6] (bI 0) bV (ay oa (af (ae 1) (af (ae 0) ao)))) ao)))
 (ji (iY (ae 5) (jC (af (ae 7) (af (ay oa (af (ae 6) (af (ae 2) ao))) ao)))))))
 (aJ (dz (bh (aw oR (bO dF (af (ae 5) ao)) (dC (.int 8)))) (ji (iY (ae 5) (jC (af (aw dh (jC (af (dC (.int 0)) ao)) (bO dF (af (aw aW (ae 1) (dC (.int 0))) ao))) (af (dC (.int 0)) ao))))) de)
 (aJ (dz (bh (aw oR (bO dF (af (ae 5) ao)) (dC (.int 8)))) (aJ (Ce 8 9 (af (aw aW (ae 5) (dC (.int 0))) (af (aw aW (ae 5) (ay cv (af (ae 0) (af (bO dF (af (ae 5) ao)) ao)))) ao)))
 (ji (iY (ae 5) (jC (af (bO dA (af (cY (qi (af (aw aW (ae 8) (dC (.int 0))) (af (aw aW (ae 9) (dC (.int 0))) ao))) [none,none] (f_ 0 1) bV (aw dD (ae 0) (ae 1))) ao)) (af (aw dD (aw aW (ae 8) (dC (.int 1))) (aw aW (ae 9) (dC (.int 1)))) ao)))))) de)
 (aJ (dz (bh (aw oR (bO dF (af (ae 5) ao)) (dC (.int 8)))) (ji (iY (ae 5) (aw aW (ae 5) (ay cv (af (ae 0) (af (bO dF (af (ae 5) ao)) ao)))))) de)
 (aJ (bo 10 (bO sE (af (ae 5) ao)))
 (aJ (bo 11 (xH ao))
 (aJ (va (bh (aw BD (ae 10) (uD ao))) (ji (iY (ae 11) (tJ qz (ae 10) (af (ay cv (af (ae 0) (af (bO dF (af (ae 10) ao)) ao))) ao)))))
 (bc (jC (af (bO dA (af (cY (dZ (ae 11)) [none] (bI 0) bV (aw aW (ae 0) (dC (.int 0)))) ao)) (af (bO dA (af (cY (dZ (ae 11)) [none] (bI 0) bV (aw aW (ae 0) (dC (.int 1)))) ao)) ao)))))))))))))
def SS{σ:cf}{st:ag}{K:DK}{n:Nat}{xs:List D}{to:DE}{ta:DA}(ho:∀K',K' (.ref n) st->to σ st K')(e:st[n]?=some (.lst xs))(ha:ta σ st λ ds st2=>(∃ys,st2[n]?=some (.lst ys))/\qz n ds st2 K):tJ qz to ta σ st K:=by
 unfold tJ;refine ho _ ?_;simp only[e];exact ha
def Tf{st2:ag}{K:DK}{n:Nat}{ys:List D}{i:Int}{j:Nat}{d:D}(e2:st2[n]?=some (.lst ys))(h63: -(2^63)<=i/\i<2^63)(ej:jV ys.length i=some j)(ed:ys[j]?=some d)(k:K d (st2.set n (.lst (ys.eraseIdx j)))):(∃ys,st2[n]?=some (.lst ys))/\qz n [.int i] st2 K:=by
 refine⟨⟨ys,e2⟩,?_⟩;unfold qz;simp only[e2,ej,ed];exact⟨h63,k⟩
structure Mk(N:Nat)(Q:(Nat->Int)->Int->Prop)(v u:Nat)(E:List (List Int×Int)):Prop where
 n1:1<=E.length
 n8:E.length<=8
 dO:∀p∈E,p.1.length=N
 bd:∀p∈E,∀x∈p.1,x.natAbs<=v
 BC:∀p∈E,p.2.natAbs<=u
 kill:∀x t,(∀p∈E,Kl N x t p)↔Q x t
def Mk.app{N v u v' u':Nat}{Q:(Nat->Int)->Int->Prop}{E:List (List Int×Int)}{p:List Int×Int}(h:Mk N Q v u E)(hl:E.length<8)(hw:p.1.length=N)(hv:v<=v')(hu:u<=u')(hb:∀x∈p.1,x.natAbs<=v')(hb2:p.2.natAbs<=u')(hk:∀x t,(∀q∈E,Kl N x t q)->Kl N x t p):Mk N Q v' u' (E++[p]):=
 have m:∀ {P:List Int×Int->Prop},(∀q∈E,P q)->P p->∀q∈E++[p],P q:=λ h1 h2 q hq=>by
  rcases Vf.mp hq with z|z
  . exact h1 q z
  . rw[Vw.mp z];exact h2
 ⟨by simp,by simp;omega,m h.dO hw,m (λ q hq x hx=>Um (h.bd q hq x hx) hv) hb,m (λ q hq=>Um (h.BC q hq) hu) hb2,λ x t=>by
  rw[<-h.kill x t];exact⟨λ z q hq=>z q (Vp _ hq),λ z=>m z (hk x t z)⟩⟩
def Mk.le{N v u v' u':Nat}{Q:(Nat->Int)->Int->Prop}{E:List (List Int×Int)}(h:Mk N Q v u E)(hv:v<=v')(hu:u<=u'):Mk N Q v' u' E:=⟨h.n1,h.n8,h.dO,λ p hp x hx=>Um (h.bd p hp x hx) hv,λ p hp=>Um (h.BC p hp) hu,h.kill⟩
def zm{E:List (List Int×Int)}{k:Nat}(h:k<E.length):d_ (E.map pairD) (k:Int)=some (pairD E[k]):=by
 refine iS ?_;rw[UB,Uv h];rfl
def tV{E:List (List Int×Int)}{p:List Int×Int}:E.map pairD++[pairD p]=(E++[p]).map pairD:=by rw[VX];rfl
def vj(T R:List (List Int))(r:List Int)(N k:Nat):List Int×Int:=((Mx.dg R N).map (Mx.jH (T.getD k [])),Mx.jH (T.getD k []) r)
def Ja{T R:List (List Int)}{r:List Int}{N w k:Nat}(iR:Mx.cj w N R):(vj T R r N k).1.length=N:=by
 show(List.map _ _).length=N;rw[Uh];exact(Mx.fM iR).len
def Nb{T R:List (List Int)}{r:List Int}{N w k n:Nat}(iT:Mx.cj w w T)(iR:Mx.cj w N R)(hk:k<w)(hn:n<N):(vj T R r N k).1.getD n 0=Mx.S w λ c=>Mx.g T k c*Mx.g R c n:=by
 have iTt:=Mx.fM iR;have hl:n<(Mx.dg R N).length:=by rw[iTt.len];exact hn
 show(List.map _ _).getD n 0=_;rw[Mx.aG (by rw[Uh];exact hl),VR,Mx.yZ (by rw[iTt.dO _ (UL hl)];exact iT.row hk),iTt.dO _ (UL hl)];refine Mx.aC λ c hc=>?_;have e:=Mx.mB iR hc hn;unfold Mx.g at e;rw[Mx.aG hl]at e;rw[e];rfl
def EB{T R:List (List Int)}{r:List Int}{N w k:Nat}{x:Nat->Int}{t:Int}(iT:Mx.cj w w T)(iR:Mx.cj w N R)(lr:r.length=w)(hk:k<w):Kl N x t (vj T R r N k)↔(Mx.S w λ c=>Mx.g T k c*((Mx.S N λ n=>x n*Mx.g R c n)-t*r.getD c 0))=0:=by
 have e1:(Mx.S N λ n=>x n*(vj T R r N k).1.getD n 0)=Mx.S w λ c=>Mx.g T k c*Mx.S N λ n=>x n*Mx.g R c n:=by
  have:(Mx.S N λ n=>x n*(vj T R r N k).1.getD n 0)=Mx.S N λ n=>Mx.S w λ c=>Mx.g T k c*(x n*Mx.g R c n):=Mx.aC λ n hn=>by
   rw[Nb iT iR hk hn,<-Mx.eG];exact Mx.aC λ c _=>Int.mul_left_comm _ _ _
  rw[this,Mx.mH];exact Mx.aC λ c _=>by rw[Mx.eG]
 have e2:t*(vj T R r N k).2=Mx.S w λ c=>Mx.g T k c*(t*r.getD c 0):=by
  show t*Mx.jH (T.getD k []) r=_;rw[Mx.yZ (by rw[iT.row hk];exact lr.symm),lr,<-Mx.eG];exact Mx.aC λ c _=>Int.mul_left_comm _ _ _
 have e3:(Mx.S w λ c=>Mx.g T k c*((Mx.S N λ n=>x n*Mx.g R c n)-t*r.getD c 0))=(Mx.S w λ c=>Mx.g T k c*Mx.S N λ n=>x n*Mx.g R c n)-Mx.S w λ c=>Mx.g T k c*(t*r.getD c 0):=by
  rw[VQ,<-Mx.tO,<-Mx.gF];exact Mx.aC λ c _=>by rw[Int.mul_sub,VQ]
 unfold Kl;rw[e1,e2,e3];omega
def G7{T R:List (List Int)}{r:List Int}{N w:Nat}(iT:Mx.cj w w T)(kT:ud T w)(iR:Mx.cj w N R)(lr:r.length=w)(x:Nat->Int)(t:Int):(∀p∈(List.range w).map (vj T R r N),Kl N x t p)↔wR N w R r x t:=by
 constructor
 . intro h i hi;have:=kT (λ c=>(Mx.S N λ n=>x n*Mx.g R c n)-t*r.getD c 0) (λ k hk=>(EB iT iR lr hk).mp (h _ (UI.mpr ⟨k,VM.mpr hk,rfl⟩))) i hi;omega
 . intro h p hp;obtain⟨k,hk,rfl⟩:=UI.mp hp;rw[VM]at hk;refine(EB iT iR lr hk).mpr (Mx.jY λ c hc=>?_);rw[h c hc,YA,Vd]
def FL{F:List (List Int)}{i:Nat}{d:D}{rest:List D}(hr:d::rest=(F.map a6).drop i):i<F.length/\d=a6 (F.getD i [])/\rest=(F.map a6).drop (i+1):=by
 have hi:i<F.length:=by
  rcases V8 i F.length with h|h
  . exact h
  . rw[VA (by rw[Uh];exact h)]at hr;cases hr
 rw[Vj (by rw[Uh];exact hi),VR]at hr;obtain⟨h1,h2⟩:=Ws hr;exact⟨hi,by rw[Mx.aG hi];exact h1,h2⟩
def Qx:∀w,w<9->8*(3^(w+3)*119)<=2^28/\8*(3^(w+3)*2^13)<=2^40/\(w<8->2*(8*(3^(w+3)*119))<=2^28):=by decide+kernel
def xV:∀(l:List (List Int×Int)) (j:Nat),(l.map pairD).eraseIdx j=(l.eraseIdx j).map pairD
 | [],_=>rfl
 |_::_,0=>rfl
 |x::l,j+1=>by
  show pairD x::(l.map pairD).eraseIdx j=pairD x::(l.eraseIdx j).map pairD;rw[xV l j]
def mem_erase{α:Type}:∀ {l:List α} {j:Nat} {p:α} (hj:j<l.length),p∈l->p∈l.eraseIdx j\/p=l[j]
 | [],_,_,h,_=>absurd h (UX _)
 |x::l,0,p,_,hp=>by
  rcases UK.mp hp with z|z
  . exact .inr z
  . exact .inl z
 |x::l,j+1,p,h,hp=>by
  rcases UK.mp hp with z|z
  . exact .inl (z▸UP)
  . rcases mem_erase (YR h) z with y|y
    . exact .inl (UG _ y)
    . exact .inr y
def GN{N v u:Nat}{Q:(Nat->Int)->Int->Prop}{E:List (List Int×Int)}(h:Mk N Q v u E){F:List (List Int×Int)}(hl:F.length=E.length)(h1:∀p∈F,p∈E)(h2:∀p∈E,p∈F):Mk N Q v u F:=
 ⟨by rw[hl];exact h.n1,by rw[hl];exact h.n8,λ p hp=>h.dO p (h1 p hp),λ p hp=>h.bd p (h1 p hp),λ p hp=>h.BC p (h1 p hp),λ x t=>by
  rw[<-h.kill x t];exact⟨λ z p hp=>z p (h2 p hp),λ z p hp=>z p (h1 p hp)⟩⟩
def xh:Ug mw 3 yb jU:=by
 rintro ds st K ⟨n,b,R,r,N,w,rfl,B,hb,iR,N1,N8,w1,w8,bR,lr,br,k⟩;refine⟨rfl,?_⟩;have hn:=B.lt;have lR:=iR.len;have iRt:=Mx.fM iR;refine cJ rfl ?_;rw[Uh,lR];refine⟨n,w,b,rfl,B,by omega,w1,w8,λ T M st1 iT iM bT kT bM B1 X1=>⟨_,rfl,⟨Ux rfl,?_⟩⟩⟩;have l1:=X1.len;have e2:(st1++[Cell.lst []])[st1.length]?=some (.lst (([]:List (List Int×Int)).map pairD)):=by simp
 have B2:Hk (st1++[Cell.lst []]) n (b+50):=B1.cell (Us (by omega));have X2:XU st n (st1++[Cell.lst []]):=X1.trans (XU.ext Ext.push);generalize st1++[Cell.lst []]=st2 at e2 B2 X2;have lT:=iT.len;obtain⟨pw1,pw2,pw3⟩:=Qx w (by omega);try dsimp only
 refine iQ (A:=jd _ _ _) (λ σ s=>∃(E:List (List Int×Int)) (v6 v7:Option D),σ=[some (.ref n),some (bQ R),some (aY r),some (jR T),some (jR M),some (.ref st1.length),v6,v7,none,none,none,none]/\s[st1.length]?=some (.lst (E.map pairD))/\E.length=w/\Mk N (wR N w R r) (8*(3^(w+3)*119)) (2^40) E/\Hk s n (b+50)/\XU st n s) (λ nx hnx=>?_) ?_
 . refine zo ?_;refine iF (λ rest σ s=>∃(q:Nat) (v6 v7:Option D),q<=w/\rest=(T.map a6).drop q/\σ=[some (.ref n),some (bQ R),some (aY r),some (jR T),some (jR M),some (.ref st1.length),v6,v7,none,none,none,none]/\s[st1.length]?=some (.lst (((List.range q).map (vj T R r N)).map pairD))/\Hk s n (b+50)/\XU st n s) ?_ ?_ _ _ _ ⟨0,none,none,US _,rfl,rfl,e2,B2,X2⟩
   . rintro σ s ⟨q,v6,v7,hq,hrest,rfl,e,B',X'⟩
     have:q=w:=by
      have:=VU List.length hrest;rw[VH,Uh,lT,WM]at this;omega
     subst this;refine⟨trivial,hnx _ _ ⟨_,v6,v7,rfl,e,by simp,⟨by simp;omega,by simp;omega,λ p hp=>?_,λ p hp x hx=>?_,λ p hp=>?_,G7 iT kT iR lr⟩,B',X'⟩⟩
     . obtain⟨k,_,rfl⟩:=UI.mp hp;exact Ja iR
     . obtain⟨k,hk,rfl⟩:=UI.mp hp;rw[VM]at hk;obtain⟨c,hc,rfl⟩:=UI.mp hx;have hm:T.getD k []∈T:=by rw[Mx.aG (by omega)];exact UL _
       refine Um (t7 (q:=119) (bT _ hm) λ y hy=>?_) ?_
       . obtain⟨i,hi,rfl⟩:=UD.mp hc;obtain⟨z,hz,rfl⟩:=UD.mp hy;have li:i<N:=by rw[<-iRt.len];exact hi
         have lz:z<q:=by rw[<-iRt.dO _ hc];exact hz
         have e:=Mx.mB iR lz li;unfold Mx.g at e;rw[Mx.aG hi,Mx.aG hz]at e;rw[e];have hm2:R.getD z []∈R:=by rw[Mx.aG (by omega)];exact UL _
         exact bR _ hm2 _ (getD_mem (by rw[iR.dO _ hm2];exact li))
       . rw[iT.dO _ hm];exact Vs _ w8
     . obtain⟨k,hk,rfl⟩:=UI.mp hp;rw[VM]at hk;have hm:T.getD k []∈T:=by rw[Mx.aG (by omega)];exact UL _
       refine Um (t7 (bT _ hm) br) ?_;rw[iT.dO _ hm];exact Um (Vs _ w8) pw2
   . rintro d rest σ s ⟨q,v6,v7,hq,hrest,rfl,e,B',X'⟩ next
     obtain⟨hqT,rfl,rfl⟩:=FL hrest;have hm:T.getD q []∈T:=by rw[Mx.aG hqT];exact UL _
     have lw:=iT.dO _ hm;have bw:∀x∈T.getD q [],x.natAbs<=3^11:=λ x hx=>Um (bT _ hm x hx) (UE (by decide) (by omega));have p11:(3:Nat)^11=177147:=by decide
     refine⟨trivial,_,rfl,?_⟩;refine⟨bQ R,R,w,N,rfl,gN,iR,w1,by omega,by omega,zo ⟨bL (by rw[Uh,iRt.len];omega),?_⟩⟩;refine qT (λ c=> .int (Mx.jH (T.getD q []) c)) trivial bK.tup (λ d c hc he K' t=>⟨_,rfl,_,_,T.getD q [],c,rfl,rfl,he,by omega,λ x hx y hy=>fQ (by have:=bw x hx;omega) (by have:=bw x hx;omega),t⟩) ?_;have ed:(Mx.dg R N).map (λ c=>D.int (Mx.jH (T.getD q []) c))=aB ((Mx.dg R N).map (Mx.jH (T.getD q []))):=by unfold aB;rw[Vb];rfl
     rw[ed];refine c8 rfl ?_;refine ql (by rfl) e ⟨_,_,T.getD q [],r,rfl,rfl,rfl,by omega,λ x hx y hy=>fQ (by have:=bw x hx;omega) (by have:=bw x hx;omega),⟨Ux rfl,nt e (by rw[V5,Uh,Uh,List.length_range];omega) ?_⟩⟩;have hlt:=(Ui.mp e).1;refine next _ _ ⟨q+1,_,_,by omega,rfl,rfl,?_,B'.cell (Ul (by omega)),X'.set (by omega)⟩
     rw[Uq hlt,W3,VX,VX];rfl
 rintro _ st3 ⟨E,v6,v7,rfl,e3,lE,hE,B3,X3⟩;try dsimp only
 refine iQ (A:=dz _ _ _) (λ σ s=>∃(E:List (List Int×Int)),σ=[some (.ref n),some (bQ R),some (aY r),some (jR T),some (jR M),some (.ref st1.length),v6,v7,none,none,none,none]/\s[st1.length]?=some (.lst (E.map pairD))/\w<=E.length/\Mk N (wR N w R r) (8*(3^(w+3)*119)) (2^40) E/\Hk s n (b+50)/\XU st n s) (λ nx hnx=>?_) ?_
 . refine cJ (aH e3) ?_;rw[Uh];refine zY (λ h=>fb ?_) λ h=>hnx _ _ ⟨E,rfl,e3,by omega,hE,B3,X3⟩;refine ql (by rfl) e3 ?_;refine OE (Ux rfl) (aA rfl (show d_ (R.map aY) 0=some (aY (R.getD 0 []))from sf (k:=0) (by omega)) (cJ rfl ?_));rw[Uh,iR.row (i:=0) w1];refine EC ⟨by omega,by omega,bL (by simp;omega)⟩ ⟨Ux rfl,?_⟩;rw[UJ,xQ];refine nt e3 (by rw[V5,Uh];omega) ?_;have hlt:=(Ui.mp e3).1;refine hnx _ _ ⟨E++[(List.replicate N 0,0)],rfl,by rw[Uq hlt,<-tV],by simp;omega,hE.app (by omega) (by simp) (Uk _) (Uk _) (λ x hx=>by rw[List.eq_of_mem_replicate hx];exact US _) (US _) (λ x t _=>?_),B3.cell (Ul (by omega)),X3.set (by omega)⟩;show(Mx.S N λ n=>x n*(List.replicate N 0).getD n 0)=t*0;rw[Mx.jY λ n _=>by rw[Mx.d5,Vd],Vd]
 clear lE hE e3 B3 X3 E;rintro _ st4 ⟨E,rfl,e4,lE,hE,B4,X4⟩;try dsimp only
 refine iQ (A:=dz _ _ _) (λ σ s=>∃(E:List (List Int×Int)) (v8 v9:Option D),σ=[some (.ref n),some (bQ R),some (aY r),some (jR T),some (jR M),some (.ref st1.length),v6,v7,v8,v9,none,none]/\s[st1.length]?=some (.lst (E.map pairD))/\Mk N (wR N w R r) (2^28) (2^41) E/\Hk s n (b+51)/\XU st n s) (λ nx hnx=>?_) ?_
 . refine cJ (aH e4) ?_;rw[Uh];refine zY (λ h=>fb ?_) λ h=>hnx _ _ ⟨E,none,none,rfl,e4,hE.le pw1 (by decide),B4.mono (by omega),X4⟩;have n1:=hE.n1;refine aA (aH e4) (show d_ (E.map pairD) 0=some (pairD E[0])from zm (k:=0) (by omega)) (cJ (aH e4) ?_);rw[Uh];refine⟨n,_,_,rfl,B4,by omega,by omega,by omega,λ p s5 p0 p1 B5 U5=>?_⟩;obtain⟨p,rfl⟩:=Vm p0;have hp:p<E.length:=by omega
   have e5:s5[st1.length]?=some (.lst (E.map pairD)):=(U5.same _ (by omega)).trans e4;refine aA (aH e5) (zm hp) ?_;have m0:E[0]∈E:=UL _;have mp:E[p]∈E:=UL _;generalize E[0]=u at m0;generalize E[p]=v at mp;have lu:=hE.dO u m0;have lv:=hE.dO v mp;refine ql (by rfl) e5 (aA rfl rfl (aA rfl rfl ?_));refine oC rfl rfl λ ok aO=>⟨bL (by rw[ll,Uh,Uh];omega),?_⟩
   refine comp_map (g:=λ d=>match d with| .tup [.int x,.int z]=> .int (x+z)|_=> .aD) (aO _ rfl rfl) _ (λ d hd K' q=>?_) ?_
   . obtain⟨x,z,_,_,rfl⟩:=p9 hd;exact⟨_,rfl,fz q⟩
   have ez:(gd (aB u.1) (aB v.1)).map (λ d=>match d with| .tup [.int x,.int z]=> .int (x+z)|_=> .aD)=aB (List.zipWith (λ x z=>x+z) u.1 v.1):=E_ (λ x z=>x+z) _ _;rw[ez];refine c8 rfl (aA rfl rfl (aA rfl rfl (fz ⟨Ux rfl,nt e5 (by rw[V5,Uh];omega) ?_⟩)));have hlt:=(Ui.mp e5).1;have pw4:=pw3 (by omega);refine hnx _ _ ⟨E++[(List.zipWith (λ x z=>x+z) u.1 v.1,u.2+v.2)],_,_,rfl,by rw[Uq hlt,<-tV],hE.app (by omega) (by rw[WZ];omega) pw1 (by decide) (λ x hx=>?_) ?_ (λ x t hz=>?_),(B5.cell (Ul (by omega))).mono (by omega),(X4.trans (XU.upd U5)).set (by omega)⟩
   . obtain⟨a,ha,c,hc,rfl⟩:=wJ hx;have h1:=hE.bd u m0 a ha;have h2:=hE.bd v mp c hc;have h3:=Xj a c;omega
   . have h1:=hE.BC u m0;have h2:=hE.BC v mp;have h3:=Xj u.2 v.2;show(u.2+v.2).natAbs<=2^41;omega
   . have k1:=hz u m0;have k2:=hz v mp;unfold Kl at k1 k2;show(Mx.S N λ n=>x n*(List.zipWith (λ x z=>x+z) u.1 v.1).getD n 0)=t*(u.2+v.2);rw[XS,<-k1,<-k2,<-Mx.gF];refine Mx.aC λ q hq=>?_;rw[Mx.aG (l:=List.zipWith _ _ _) (by rw[WZ];omega),XJ,Mx.aG (by omega),Mx.aG (by omega),XS]
 clear lE hE e4 B4 X4 E;rintro _ st5 ⟨E,v8,v9,rfl,e5,hE,B5,X5⟩;try dsimp only
 refine iQ (A:=dz _ _ _) (λ σ s=>∃(E:List (List Int×Int)),σ=[some (.ref n),some (bQ R),some (aY r),some (jR T),some (jR M),some (.ref st1.length),v6,v7,v8,v9,none,none]/\s[st1.length]?=some (.lst (E.map pairD))/\Mk N (wR N w R r) (2^28) (2^41) E/\Hk s n (b+52)/\XU st n s) (λ nx hnx=>?_) ?_
 . refine cJ (aH e5) ?_;rw[Uh];refine zY (λ h=>fb ?_) λ h=>hnx _ _ ⟨E,rfl,e5,hE,B5.mono (by omega),X5⟩;have n1:=hE.n1;refine ql (by rfl) e5 (cJ (aH e5) ?_);rw[Uh];refine⟨n,_,_,rfl,B5,by omega,by omega,by omega,λ p s6 p0 p1 B6 U6=>?_⟩;obtain⟨p,rfl⟩:=Vm p0;have hp:p<E.length:=by omega
   have e6:s6[st1.length]?=some (.lst (E.map pairD)):=(U6.same _ (by omega)).trans e5;have mp:E[p]∈E:=UL _;refine aA (aH e6) (zm hp) (nt e6 (by rw[V5,Uh];omega) ?_);have hlt:=(Ui.mp e6).1;exact hnx _ _ ⟨E++[E[p]],rfl,by rw[Uq hlt,<-tV],hE.app (by omega) (hE.dO _ mp) (Uk _) (Uk _) (hE.bd _ mp) (hE.BC _ mp) (λ x t hz=>hz _ mp),(B6.cell (Ul (by omega))).mono (by omega),(X5.trans (XU.upd U6)).set (by omega)⟩
 clear hE e5 B5 X5 E;rintro _ st6 ⟨E,rfl,e6,hE,B6,X6⟩;have l6:=X6.len;have n1:=hE.n1;have n8:=hE.n8;have hlt6:=(Ui.mp e6).1;refine Cn (aH e6) ⟨Ux rfl,?_⟩;have B7:Hk (st6++[Cell.lst (E.map pairD)]++[Cell.lst []]) n (b+52+0):=(B6.cell (by rw[Wt,Us (by omega)])).mono (by omega);have a1:(st6++[Cell.lst (E.map pairD)]++[Cell.lst []])[st6.length]?=some (.lst (E.map pairD)):=by simp
 have a2:(st6++[Cell.lst (E.map pairD)]++[Cell.lst []])[st6.length+1]?=some (.lst (([]:List (List Int×Int)).map pairD)):=by simp
 have X7:XU st n (st6++[Cell.lst (E.map pairD)]++[Cell.lst []]):=X6.trans ((XU.ext Ext.push).trans (XU.ext Ext.push));have l7:(st6++[Cell.lst (E.map pairD)]).length=st6.length+1:=by simp
 rw[l7];generalize st6++[Cell.lst (E.map pairD)]++[Cell.lst []]=st7 at B7 a1 a2 X7;refine⟨λ m σ s=>∃L F:List (List Int×Int),σ=[some (.ref n),some (bQ R),some (aY r),some (jR T),some (jR M),some (.ref st1.length),v6,v7,v8,v9,some (.ref st6.length),some (.ref (st6.length+1))]/\s[st6.length]?=some (.lst (L.map pairD))/\s[st6.length+1]?=some (.lst (F.map pairD))/\L.length=m/\L.length+F.length=E.length/\(∀p∈L,p∈E)/\(∀p∈F,p∈E)/\(∀p∈E,p∈L\/p∈F)/\Hk s n (b+52+F.length)/\XU st n s,⟨E.length,E,[],rfl,a1,a2,rfl,by simp,λ _ h=>h,by simp,λ _ h=> .inl h,B7,X7⟩,?_⟩;clear a1 a2 B7 X7;rintro m σ s ⟨L,F,rfl,a1,a2,rfl,hl,hL,hF,hLF,B2,X2⟩
 have plL:(L.map pairD).all (pl 39)=true:=UW.mpr λ d hd=>by
  obtain⟨p,_,rfl⟩:=UI.mp hd;unfold pairD pl;simp only[V2,List.all_nil,Yb];rw[pD];rfl
 refine⟨Ux rfl,Qj a1 plL rfl ?_⟩;have lt1:=(Ui.mp a1).1;have zY:=(Ui.mp a2).1;match hL0:L with
 | []=>
   have ez:cZ (.lst (([]:List (List Int×Int)).map pairD)) (.lst [])=true:=by unfold cZ;unfold fX;rfl
   rw[ez];have lF:F.length=E.length:=by simpa using hl
   have hM:=GN hE lF hF λ p hp=>(hLF p hp).resolve_left (by simp);refine jo (aH a2) λ ok aO=>⟨bL (by rw[Uh];omega),?_⟩
   refine comp_map (g:=λ d=>match d with| .tup [x,_]=>x|_=> .aD) aO _ (λ d hd K' q=>?_) ?_
   . obtain⟨p,_,rfl⟩:=UI.mp hd;exact⟨_,rfl,aA rfl rfl q⟩
   have ea:(F.map pairD).map (λ d=>match d with| .tup [x,_]=>x|_=> .aD)=(F.map Prod.fst).map aY:=by rw[Vb,Vb];rfl
   rw[ea];refine c8 rfl (jo (aH a2) λ ok aO=>⟨bL (by rw[Uh];omega),?_⟩);refine comp_map (g:=λ d=>match d with| .tup [_,x]=>x|_=> .aD) aO _ (λ d hd K' q=>?_) ?_
   . obtain⟨p,_,rfl⟩:=UI.mp hd;exact⟨_,rfl,aA rfl rfl q⟩
   have eb:(F.map pairD).map (λ d=>match d with| .tup [_,x]=>x|_=> .aD)=aB (F.map Prod.snd):=by unfold aB;rw[Vb,Vb];rfl
   rw[eb];refine c8 rfl ⟨Ux rfl,?_⟩;refine k (F.map Prod.fst) (F.map Prod.snd) F.length s ⟨by simp,λ q hq=>?_⟩ hM.n1 hM.n8 (λ q hq x hx=>?_) (by simp) (λ x hx=>?_) (λ x t=>?_) (B2.mono (by omega)) X2
   . obtain⟨p,hp,rfl⟩:=UI.mp hq;exact hM.dO p hp
   . obtain⟨p,hp,rfl⟩:=UI.mp hq;exact hM.bd p hp x hx
   . obtain⟨p,hp,rfl⟩:=UI.mp hx;exact Um (hM.BC p hp) (by decide)
   . rw[<-hM.kill x t];unfold wR Kl Mx.g;constructor
     . intro h i hi;have:=h F[i] (UL _);rw[Mx.aG (l:=F.map Prod.fst) (by rw[Uh];exact hi),Mx.aG (l:=F.map Prod.snd) (by rw[Uh];exact hi),VR,VR];exact this
     . intro h p hp;obtain⟨i,hi,rfl⟩:=UD.mp hp;have:=h i hi;rw[Mx.aG (l:=F.map Prod.fst) (by rw[Uh];exact hi),Mx.aG (l:=F.map Prod.snd) (by rw[Uh];exact hi),VR,VR]at this;exact this
 |r0::L1=>
  have ez:cZ (.lst ((r0::L1).map pairD)) (.lst [])=false:=by unfold cZ;rw[UY];unfold fX;rfl
  rw[ez];refine fb ?_;refine ql (by rfl) a2 (SS (λ K' q=>q) a1 (cJ (aH a1) ?_));rw[Uh];refine⟨n,_,_,rfl,B2,by simp at hl;omega,by simp only[UT];omega,by simp only[UT]at hl⊢;omega,λ i s3 i0 i1 B3 U3=>?_⟩;obtain⟨j,rfl⟩:=Vm i0;have hj:j<(r0::L1).length:=by omega
  have b1:s3[st6.length]?=some (.lst ((r0::L1).map pairD)):=(U3.same _ (by omega)).trans a1;have b2:s3[st6.length+1]?=some (.lst (F.map pairD)):=(U3.same _ (by omega)).trans a2;refine Tf b1 ⟨by omega,by omega⟩ (Cv (by rw[Uh];exact hj)) (by rw[UB,Uv hj];rfl) ?_;have b2':(s3.set st6.length (.lst (((r0::L1).map pairD).eraseIdx j)))[st6.length+1]?=some (.lst (F.map pairD)):=by rw[Ul (by omega)];exact b2
  refine nt b2' (by rw[V5,Uh];simp at hl;omega) ?_;have l3:=U3.len;have mem:(r0::L1)[j]∈r0::L1:=UL _;refine⟨L1.length,by simp,(r0::L1).eraseIdx j,F++[(r0::L1)[j]],rfl,?_,?_,by rw[List.length_eraseIdx,Ur hj];simp,by rw[List.length_eraseIdx,Ur hj];simp at hl⊢;omega,λ p hp=>hL p (List.mem_of_mem_eraseIdx hp),λ p hp=>?_,λ p hp=>?_,((B3.cell (by rw[Ul (by omega),Ul (by omega)])).mono (by simp;omega)),((X2.trans (XU.upd U3)).set (by omega)).set (by omega)⟩
  . rw[Ul (by omega),Uq (by omega)];congr 2;exact xV _ _
  . rw[Uq (by rw[UC];omega),<-tV]
  . rcases Vf.mp hp with h|h
    . exact hF p h
    . rw[Vw.mp h];exact hL _ mem
  . rcases hLF p hp with h|h
    . rcases mem_erase hj h with h|h
      . exact .inl h
      . exact .inr (UM _ (Vw.mpr h))
    . exact .inr (Vp _ h)
abbrev Lf:cy:=GG Qb
def Bu:List Str:=["_law_script","_law_hand_here","_law_turn_here","_law_rows","_law_due","_law_others","_law_more","_law_one","_law_other"]
def Ru:DS:=(aJ (bo 1 (ay tf (af (ae 0) ao)))
 (aJ (jd (eg (af (dC (.int 2)) ao)) (bI 2) (aJ (CM (f_ 3 4) (ay vx (af (ae 1) ao)))
 (aJ (CM (f_ 5 6) (ay mw (af (ae 1) (af (ae 3) (af (ae 4) ao)))))
 (aJ (bo 7 (ay qY (af (ae 3) (af (ae 4) ao))))
 (aJ (bo 8 (ay qY (af (ae 5) (af (ae 6) ao))))
 (aJ (dz (mW (bh (aw uJ (aw aW (ae 7) (dC (.int 0))) (aw aW (ae 8) (dC (.int 0))))) (mW (f7 (bh (ay gX (af (ae 3) (af (ae 4) (af (ae 7) ao)))))) (f7 (bh (ay gX (af (ae 5) (af (ae 6) (af (ae 8) ao)))))))) (bc (dC (.bl false))) de)
 (aJ (dz (uc (bh (aw iW (aw aW (ae 7) (dC (.int 0))) (dC (.str "told")))) (bh (aw uJ (hO (ae 7) (gT (dC (.int 1))) (gT (dC (.int 3)))) (hO (ae 8) (gT (dC (.int 1))) (gT (dC (.int 3))))))) (bc (dC (.bl false))) de)
 (dz (uc (bh (aw iW (aw aW (ae 7) (dC (.int 0))) (dC (.str "told")))) (f7 (bh (ay gX (af (ae 3) (af (ae 4) (af (aw dD (aw dD (hO (ae 7) iJ (gT (dC (.int 1)))) (hO (ae 8) (gT (dC (.int 1))) (gT (dC (.int 3))))) (hO (ae 7) (gT (dC (.int 3))) iJ)) ao))))))) (bc (dC (.bl false))) de))))))))
 (bc (dC (.bl true)))))
def wx.same{A A':List (List Int)}{N w w':Nat}{r r' a a':List Int}{F F':List (List Int)}{m f m' f' top top':Nat}{c c':Mx.B3}(T:wx A N w r a F m f c top)(T':wx A' N w' r' a' F' m' f' c' top')
 (h:∀(x:Nat->Int) (t:Int),(∀q,q<w->(Mx.S N λ n=>x n*Mx.g A n q)=t*r.getD q 0)↔(∀q,q<w'->(Mx.S N λ n=>x n*Mx.g A' n q)=t*r'.getD q 0)):F=F'/\a=a':=by
 have L:∀x,Mx.dm F m N x↔Mx.dm F' m' N x:=λ x=>by
  rw[<-T.Ah x,<-T'.Ah x];have:=h x 0;simp only[VO]at this;exact this
 have h1:∀k,k<m->Mx.dm F' m' N (Mx.g F k):=λ k hk=>(L _).mp (Mx.dm.row hk);have h2:∀k,k<m'->Mx.dm F m N (Mx.g F' k):=λ k hk=>(L _).mpr (Mx.dm.row hk);have em:=T.wg.st.many T'.wg.st h1 h2;subst em;have eF:F=F':=T.wg.is.ext T'.wg.is λ i j hi hj=>T.wg.st.only T'.wg.st h1 h2 T.red T'.red hi j hj;subst eF;refine⟨rfl,Mx.zk T.la T'.la λ q hq=>?_⟩;have s1:∀q,q<w->(Mx.S N λ n=>a.getD n 0*Mx.g A n q)=1*r.getD q 0:=λ q hq=>by rw[V0];exact T.sum q hq
 have s2:∀q,q<w->(Mx.S N λ n=>a'.getD n 0*Mx.g A n q)=1*r.getD q 0:=(h (λ n=>a'.getD n 0) 1).mpr λ q hq=>by rw[V0];exact T'.sum q hq
 have v:Mx.dm F m N λ n=>a.getD n 0-a'.getD n 0:=(T.Ah _).mp λ q hq=>by
  have e5:(Mx.S N λ n=>(a.getD n 0-a'.getD n 0)*Mx.g A n q)=(Mx.S N λ n=>a.getD n 0*Mx.g A n q)-Mx.S N λ n=>a'.getD n 0*Mx.g A n q:=by
   rw[VQ,<-Mx.tO,<-Mx.gF];exact Mx.aC λ n _=>by rw[Int.sub_mul,VQ]
  rw[e5,s1 q hq,s2 q hq,YA]
 have z:=T.wg.st.QF v (λ k hk=>by
  obtain⟨x1,x2⟩:=T.En k hk;obtain⟨y1,y2⟩:=T'.En k hk;omega) q hq
 omega
def wx.not{A':List (List Int)}{N w':Nat}{r':List Int}{x:Nat->Int}{ps:List Rat}(hw:∀n,n<N->Mx.Wh (Mx.dq ps w' (Mx.g A' n)))(hn:¬Mx.Wh (Mx.dq ps w' λ c=>r'.getD c 0))(h:∀q,q<w'->(Mx.S N λ n=>x n*Mx.g A' n q)=1*r'.getD q 0):False:=by
 have e:Mx.dq ps w' (λ c=>r'.getD c 0)=Mx.dq ps w' λ q=>Mx.S N λ n=>x n*Mx.g A' n q:=Mx.xD λ q hq=>by rw[h q hq,V0]
 rw[e,Mx.Cb]at hn;exact hn (Mx.E5 λ i hi=>(hw i hi).mul _)
def Nq{a:List Int}{F:List (List Int)}:pl 40 (.tup [aY a,bQ F])=true:=by
 unfold pl;simp only[V2,List.all_nil,Yb];rw[pD,xN];rfl
def PY:Ug Lf 1 Ru Bu:=by
 rintro ds st K ⟨ns,rfl,hl,hst,k⟩;refine⟨rfl,?_⟩;have l0:st.length=1:=by rw[hst];rfl
 have t0:st[0]?=some (gG false):=by rw[hst];rfl
 clear hst;refine⟨ns,rfl,hl,λ st1 B1 X1=>?_⟩;have t1:st1[0]?=some (gG false):=(X1.same 0 (by omega)).trans t0;rw[l0]at B1⊢;refine ft ⟨by decide,by decide⟩ ?_;refine lQ 2 (λ j σ s=>∃(v2 v3 v4 v5 v6 v7 v8:Option D) (f:Bool),σ=[some (.lst (aB ns)),some (.ref 1),v2,v3,v4,v5,v6,v7,v8]/\Hk s 1 (1000*j)/\s[0]?=some (gG f)) ?_ ?_ ⟨none,none,none,none,none,none,none,false,rfl,B1.mono (by omega),t1⟩
 . rintro σ s ⟨v2,v3,v4,v5,v6,v7,v8,f,rfl,_,_⟩;exact k s
 rintro j σ s rest hj ⟨v2,v3,v4,v5,v6,v7,v8,f,rfl,B,t⟩ next
 refine⟨_,rfl,?_⟩;refine⟨1,_,rfl,B,by omega,λ R r N w s2 iR N1 N8 w1 w8 bR lr br B2 X2=>⟨_,rfl,?_⟩⟩;refine⟨1,_,R,r,N,w,rfl,B2,by omega,iR,N1,N8,w1,w8,bR,lr,br,λ R' r' w' s3 iR' w1' w8' bR' lr' br' hS B3 X3=>⟨_,rfl,?_⟩⟩;have hB:=B.lt;have X23:=X2.trans X3;have t3:s3[0]?=some (gG f):=(X23.same 0 (by omega) (by decide)).trans t;have iA:=Mx.fM iR;have iA':=Mx.fM iR';have eR:Mx.dg (Mx.dg R N) w=R:=si iR;have eR':Mx.dg (Mx.dg R' N) w'=R':=si iR'
 have tb:∀ {R:List (List Int)} {w B:Nat},Mx.cj w N R->(∀r∈R,∀x∈r,x.natAbs<=B)->∀r∈Mx.dg R N,∀x∈r,x.natAbs<=B:=λ{R w B} iR bR q hq x hx=>by
  have iT:=Mx.fM iR;have lR:=iR.len;obtain⟨i,hi,rfl⟩:=UD.mp hq;obtain⟨c,hc,rfl⟩:=UD.mp hx;have li:i<N:=by rw[<-iT.len];exact hi
  have lc:c<w:=by rw[<-iT.dO _ hq];exact hc
  have e:=Mx.mB iR lc li;unfold Mx.g at e;rw[Mx.aG hi,Mx.aG hc]at e;rw[e];have hm:R.getD c []∈R:=by rw[Mx.aG (by omega)];exact UL _
  exact bR _ hm _ (getD_mem (by rw[iR.dO _ hm];exact li))
 have P1:zZ (Mx.dg R N) N w r:=⟨iA,N1,N8,w8,tb iR λ q hq x hx=>Um (bR q hq x hx) (by decide),lr,λ x hx=>Um (br x hx) (by decide)⟩
 have P2:zZ (Mx.dg R' N) N w' r':=⟨iA',N1,N8,w8',tb iR' bR',lr',br'⟩
 have hS':∀(x:Nat->Int) (t:Int),(∀q,q<w->(Mx.S N λ n=>x n*Mx.g (Mx.dg R N) n q)=t*r.getD q 0)↔(∀q,q<w'->(Mx.S N λ n=>x n*Mx.g (Mx.dg R' N) n q)=t*r'.getD q 0):=λ x t=>by
  have e1:∀ {R:List (List Int)} {w:Nat} {r:List Int},Mx.cj w N R->((∀q,q<w->(Mx.S N λ n=>x n*Mx.g (Mx.dg R N) n q)=t*r.getD q 0)↔wR N w R r x t):=λ{R w r} iR=>by
   have:∀q,q<w->(Mx.S N λ n=>x n*Mx.g (Mx.dg R N) n q)=Mx.S N λ n=>x n*Mx.g R q n:=λ q hq=>Mx.aC λ n hn=>by rw[Mx.mB iR hq hn]
   unfold wR;exact⟨λ h q hq=>(this q hq).symm.trans (h q hq),λ h q hq=>(this q hq).trans (h q hq)⟩
  rw[e1 iR,e1 iR'];exact hS x t
 clear hS bR bR' br br';generalize Mx.dg R N=A at P1 hS' eR;generalize Mx.dg R' N=A' at P2 hS' eR';subst eR eR';refine⟨_,A,r,N,w,f,rfl,rfl,P1,w1,t3,λ s4 y1 K1 hy1=>?_⟩;obtain⟨f4,t4⟩:=K1.tb;refine⟨_,A',r',N,w',f4,rfl,rfl,P2,w1',t4,λ s5 y2 K2 hy2=>?_⟩;obtain⟨f5,t5⟩:=K2.tb;have hB3:=B3.lt;have l4:=K1.le;have l5:=K2.le;have B5:Hk s5 1 (1000*j+200+200):=(B3.cell (K1.fr 1 hB3 (by decide))).cell (K2.fr 1 (by omega) (by decide));clear K1 K2 t4;have fin:∀s':ag,Ext s5 s'->Hk s' 1 (1000*((j+1:Nat):Int))/\s'[0]?=some (gG f5):=λ s' X=>⟨(B5.cell (X.same 1 (by omega))).mono (by omega),(X.same 0 (by omega)).trans t5⟩
 rcases id hy1 with⟨a,F,m,fq,c,top,T1,rfl⟩|⟨ps,rfl,lp,hP,hw,hn⟩
 . rcases id hy2 with⟨a',F',m',fq',c',top',T2,rfl⟩|⟨ps,rfl,lp,hP,hw,hn⟩
   . obtain⟨rfl,rfl⟩:=T1.same T2 hS';refine aA rfl rfl (aA rfl rfl (tj rfl ?_));refine⟨A,r,N,w,_,rfl,P1,w1,hy1,λ s6 X6=>?_⟩;refine⟨A',r',N,w',_,rfl,P2,w1',hy2,λ s7 X7=>?_⟩;refine aA rfl rfl (qF rfl rfl (fb (gf (gf ?_))));refine tj Nq ?_;refine aA rfl rfl (qF rfl rfl (fb (gf (gf ?_))));refine EO (bL (Ux rfl)) (gf (EO (bL (Ux rfl)) ?_));exact⟨A,r,N,w,_,rfl,P1,w1,hy1,λ s8 X8=>next _ _ ⟨_,_,_,_,_,_,_,f5,rfl,fin s8 ((X6.trans X7).trans X8)⟩⟩
   . exact(wx.not hw hn ((hS' (λ n=>a.getD n 0) 1).mp λ q hq=>by rw[V0];exact T1.sum q hq)).elim
 . rcases id hy2 with⟨a',F',m',fq',c',top',T2,rfl⟩|⟨ps',rfl,lp',hP',hw',hn'⟩
   . exact(wx.not hw hn ((hS' (λ n=>a'.getD n 0) 1).mpr λ q hq=>by rw[V0];exact T2.sum q hq)).elim
   . refine aA rfl rfl (aA rfl rfl (tj rfl ?_));refine⟨A,r,N,w,_,rfl,P1,w1,hy1,λ s6 X6=>?_⟩;refine⟨A',r',N,w',_,rfl,P2,w1',hy2,λ s7 X7=>?_⟩;refine aA rfl rfl (qF rfl rfl ?_);refine aA rfl rfl (qF rfl rfl ?_);exact next _ _ ⟨_,_,_,_,_,_,_,f5,rfl,fin s7 (X6.trans X7)⟩
end Prog
namespace Row
open PySem L2 L3 Prog
open PySem.Spec hiding items?
open PyProof.Rows hiding St
def uS:(("int":Str))≠"__name__":=by decide+kernel
def oK:(("isinstance":Str))≠"__name__":=by decide+kernel
def Nh:(("bool":Str))≠"__name__":=by decide+kernel
def c6:(("tuple":Str))≠"__name__":=by decide+kernel
def nv:(("list":Str))≠"__name__":=by decide+kernel
def cL:(("len":Str))≠"__name__":=by decide+kernel
def oy:(("all":Str))≠"__name__":=by decide+kernel
def vg:(("abs":Str))≠"__name__":=by decide+kernel
def HP:(("sum":Str))≠"__name__":=by decide+kernel
structure Bl(mg:Str->Option Value):Prop where
 yu:mg "int"=none
 pZ:mg "isinstance"=none
 OA:mg "bool"=none
 dn:mg "tuple"=none
 pV:mg "list"=none
 c9:mg "len"=none
 q_:mg "all"=none
 yI:mg "abs"=none
 pd:mg "zip"=none
 eK:mg "range"=none
 Ls:mg "sum"=none
 wM:mg "enumerate"=none
 Jl:mg "sorted"=none
structure Kl(K:PySem.W.Frag)(mg:Str->Option Value):Prop where
 ba:ClsAt K mg "Bench" aL
 cH:g0 K aL "body"
 fg:g0 K aL "turn"
 cQ:g0 K aL "back_columns"
def ff:VS (ai jB) nJ ["int","isinstance","bool"]:=⟨by decide+kernel⟩
def Cj:aQ nJ ["thing"] (ai jB):=⟨rfl,rfl,rfl,by decide+kernel,rfl,by decide+kernel,by decide+kernel⟩
def ia:VS (ai jw) nP ["tuple","list","isinstance"]:=⟨by decide+kernel⟩
def Ds:aQ nP ["thing"] (ai jw):=⟨rfl,rfl,rfl,by decide+kernel,rfl,by decide+kernel,by decide+kernel⟩
def fD:VS (ai gp) ko ["is_listed","len"]:=⟨by decide+kernel⟩
def yo:aQ ko ["thing","many"] (ai gp):=⟨rfl,rfl,rfl,by decide+kernel,rfl,by decide+kernel,by decide+kernel⟩
def fT:VS (ai fV) k6 ["is_listed_of","all"]:=⟨by decide+kernel⟩
def zA:aQ k6 ["thing","many"] (ai fV):=⟨rfl,rfl,rfl,by decide+kernel,rfl,by decide+kernel,by decide+kernel⟩
def d3:VS (ai mZ) tY ["abs"]:=⟨by decide+kernel⟩
def lK:aQ tY ["one","other"] (ai mZ):=⟨rfl,rfl,rfl,by decide+kernel,rfl,by decide+kernel,by decide+kernel⟩
def jq:VS (ai sM) yl ["common"]:=⟨by decide+kernel⟩
def mR:aQ yl ["top","bottom"] (ai sM):=⟨rfl,rfl,rfl,by decide+kernel,rfl,by decide+kernel,by decide+kernel⟩
def ou:VS (ai sq) yK ["part"]:=⟨by decide+kernel⟩
def LL:aQ yK ["one","other"] (ai sq):=⟨rfl,rfl,rfl,by decide+kernel,rfl,by decide+kernel,by decide+kernel⟩
def lP:VS (ai pA) vI ["part"]:=⟨by decide+kernel⟩
def JH:aQ vI ["one","other"] (ai pA):=⟨rfl,rfl,rfl,by decide+kernel,rfl,by decide+kernel,by decide+kernel⟩
def pB:VS (ai pP) vE ["part"]:=⟨by decide+kernel⟩
def Js:aQ vE ["one","other"] (ai pP):=⟨rfl,rfl,rfl,by decide+kernel,rfl,by decide+kernel,by decide+kernel⟩
def sN:VS (ai r9) yR ["part"]:=⟨by decide+kernel⟩
def Mj:aQ yR ["one","other"] (ai r9):=⟨rfl,rfl,rfl,by decide+kernel,rfl,by decide+kernel,by decide+kernel⟩
def MO:VS (ai pC) vR []:=⟨by decide+kernel⟩
def Jq:aQ vR ["n"] (ai pC):=⟨rfl,rfl,rfl,by decide+kernel,rfl,by decide+kernel,by decide+kernel⟩
def i8:VS (ai lJ) rl ["are_numbers","common"]:=⟨by decide+kernel⟩
def FR:aQ rl ["thing"] (ai lJ):=⟨rfl,rfl,rfl,by decide+kernel,rfl,by decide+kernel,by decide+kernel⟩
def uF:VS (ai jW) qO ["tuple"]:=⟨by decide+kernel⟩
def Gy:aQ qO ["rows"] (ai jW):=⟨rfl,rfl,rfl,by decide+kernel,rfl,by decide+kernel,by decide+kernel⟩
def zH:VS (ai mV) vY ["zip"]:=⟨by decide+kernel⟩
def Jw:aQ vY ["row","times","other"] (ai mV):=⟨rfl,rfl,rfl,by decide+kernel,rfl,by decide+kernel,by decide+kernel⟩
def fj:VS (ai nj) t6 ["zip","added","tuple"]:=⟨by decide+kernel⟩
def rm:aQ t6 ["weights","rows","wide"] (ai nj):=⟨rfl,rfl,rfl,by decide+kernel,rfl,by decide+kernel,by decide+kernel⟩
def j4:VS (ai j6) rB ["len","tuple"]:=⟨by decide+kernel⟩
def yQ:aQ rB ["one","other"] (ai j6):=⟨rfl,rfl,rfl,by decide+kernel,rfl,by decide+kernel,by decide+kernel⟩
def xO:VS (ai ly) tM ["tuple"]:=⟨by decide+kernel⟩
def GK:aQ tM ["rows","place"] (ai ly):=⟨rfl,rfl,rfl,by decide+kernel,rfl,by decide+kernel,by decide+kernel⟩
def kR:VS (ai fW) kU ["range","tuple"]:=⟨by decide+kernel⟩
def zS:aQ kU ["rows","wide"] (ai fW):=⟨rfl,rfl,rfl,by decide+kernel,rfl,by decide+kernel,by decide+kernel⟩
def o9:VS (ai jc) pj ["range","tuple"]:=⟨by decide+kernel⟩
def DQ:aQ pj ["n","place"] (ai jc):=⟨rfl,rfl,rfl,by decide+kernel,rfl,by decide+kernel,by decide+kernel⟩
def nF:VS (ai ik) nG ["range","tuple"]:=⟨by decide+kernel⟩
def Bz:aQ nG ["n"] (ai ik):=⟨rfl,rfl,rfl,by decide+kernel,rfl,by decide+kernel,by decide+kernel⟩
def za:VS (ai tx) Bq ["zip","sum"]:=⟨by decide+kernel⟩
def Pq:aQ Bq ["one","other"] (ai tx):=⟨rfl,rfl,rfl,by decide+kernel,rfl,by decide+kernel,by decide+kernel⟩
def fJ:VS (ai ke) og ["is_listed","len","all"]:=⟨by decide+kernel⟩
def F5:aQ og ["thing","many","wide"] (ai ke):=⟨rfl,rfl,rfl,by decide+kernel,rfl,by decide+kernel,by decide+kernel⟩
def b_:VS (ai kD) oW ["is_listed","len","is_rows","product","unit_rows"]:=⟨by decide+kernel⟩
def wu:aQ oW ["turn","back"] (ai kD):=⟨rfl,rfl,rfl,by decide+kernel,rfl,by decide+kernel,by decide+kernel⟩
def fm:VS (ai iL) mF ["is_rows","are_back"]:=⟨by decide+kernel⟩
def AY:aQ mF ["turn","back","many"] (ai iL):=⟨rfl,rfl,rfl,by decide+kernel,rfl,by decide+kernel,by decide+kernel⟩
def qy:VS (ai l8) qD ["enumerate"]:=⟨by decide+kernel⟩
def yT:aQ qD ["row"] (ai l8):=⟨rfl,rfl,rfl,by decide+kernel,rfl,by decide+kernel,by decide+kernel⟩
def cm:VS (ai fU) kZ ["enumerate","lead_of","all"]:=⟨by decide+kernel⟩
def iV:aQ kZ ["rows"] (ai fU):=⟨rfl,rfl,rfl,by decide+kernel,rfl,by decide+kernel,by decide+kernel⟩
def dU:VS (ai fk) jM ["len","is_standing"]:=⟨by decide+kernel⟩
def qb:aQ jM ["rows"] (ai fk):=⟨rfl,rfl,rfl,by decide+kernel,rfl,by decide+kernel,by decide+kernel⟩
def ka:VS (ai eY) gY []:=⟨by decide+kernel⟩
def jI:aQ gY ["top","bottom"] (ai eY):=⟨rfl,rfl,rfl,by decide+kernel,rfl,by decide+kernel,by decide+kernel⟩
def dJ:VS (ai jv) nQ ["list"]:=⟨by decide+kernel⟩
def uP:aQ nQ ["rows","k","other"] (ai jv):=⟨rfl,rfl,rfl,by decide+kernel,rfl,by decide+kernel,by decide+kernel⟩
def G0:VS (ai kb) qC []:=⟨by decide+kernel⟩
def Fb:aQ qC ["row"] (ai kb):=⟨rfl,rfl,rfl,by decide+kernel,rfl,by decide+kernel,by decide+kernel⟩
def cq:VS (ai dG) ja ["len","unit_rows"]:=⟨by decide+kernel⟩
def wm:aQ ja ["self","rows"] (ai dG):=⟨rfl,rfl,rfl,by decide+kernel,rfl,by decide+kernel,by decide+kernel⟩
def a9:VS (ai iE) mq ["added"]:=⟨by decide+kernel⟩
def AU:aQ mq ["self","k","times","other"] (ai iE):=⟨rfl,rfl,rfl,by decide+kernel,rfl,by decide+kernel,by decide+kernel⟩
def bG:VS (ai fC) i_ ["exchanged"]:=⟨by decide+kernel⟩
def wo:aQ i_ ["self","k","other"] (ai fC):=⟨rfl,rfl,rfl,by decide+kernel,rfl,by decide+kernel,by decide+kernel⟩
def aZ:VS (ai eJ) gE ["negated"]:=⟨by decide+kernel⟩
def t9:aQ gE ["self","k"] (ai eJ):=⟨rfl,rfl,rfl,by decide+kernel,rfl,by decide+kernel,by decide+kernel⟩
def dP:VS (ai dN) ip ["len","range","sorted"]:=⟨by decide+kernel⟩
def nZ:aQ ip ["self","top","place"] (ai dN):=⟨rfl,rfl,rfl,by decide+kernel,rfl,by decide+kernel,by decide+kernel⟩
def aF:VS (ai gn) kC ["len","nearest_quotient"]:=⟨by decide+kernel⟩
def gZ:aQ kC ["self","top","place"] (ai gn):=⟨rfl,rfl,rfl,by decide+kernel,rfl,by decide+kernel,by decide+kernel⟩
def cB:VS (ai eH) gD ["range"]:=⟨by decide+kernel⟩
def f9:aQ gD ["self","top","place"] (ai eH):=⟨rfl,rfl,rfl,by decide+kernel,rfl,by decide+kernel,by decide+kernel⟩
def bg:VS (ai kj) pv ["Bench","len","range","turned_over","as_rows"]:=⟨by decide+kernel⟩
def ju:aQ pv ["rows"] (ai kj):=⟨rfl,rfl,rfl,by decide+kernel,rfl,by decide+kernel,by decide+kernel⟩
def bS:VS (ai l_) qX ["list","lead_of","added","tuple"]:=⟨by decide+kernel⟩
def gb:aQ qX ["form","row"] (ai l_):=⟨rfl,rfl,rfl,by decide+kernel,rfl,by decide+kernel,by decide+kernel⟩
def vT:VS (ai pG) vJ ["weighed"]:=⟨by decide+kernel⟩
def Jf:aQ vJ ["form","row"] (ai pG):=⟨rfl,rfl,rfl,by decide+kernel,rfl,by decide+kernel,by decide+kernel⟩
def cW:VS (ai jA) nR ["whole","zip","times","plus"]:=⟨by decide+kernel⟩
def mK:aQ nR ["parts","row"] (ai jA):=⟨rfl,rfl,rfl,by decide+kernel,rfl,by decide+kernel,by decide+kernel⟩
def eP:VS (ai jy) nK ["lead_of","abs"]:=⟨by decide+kernel⟩
def uM:aQ nK ["form","rest","place"] (ai jy):=⟨rfl,rfl,rfl,by decide+kernel,rfl,by decide+kernel,by decide+kernel⟩
def ax:VS (ai fR) jT ["lead_of","whole","len","bottom_at","part","range","parts_dot","minus","over","tuple"]:=⟨by decide+kernel⟩
def fA:aQ jT ["form","rest"] (ai fR):=⟨rfl,rfl,rfl,by decide+kernel,rfl,by decide+kernel,by decide+kernel⟩
def hZ:VS (ai ij) nV ["is_listed_of","all"]:=⟨by decide+kernel⟩
def Cf:aQ nV ["thing","many"] (ai ij):=⟨rfl,rfl,rfl,by decide+kernel,rfl,by decide+kernel,by decide+kernel⟩
def Ga:VS (ai kh) pw []:=⟨by decide+kernel⟩
def DX:aQ pw ["one"] (ai kh):=⟨rfl,rfl,rfl,by decide+kernel,rfl,by decide+kernel,by decide+kernel⟩
def c5:VS (ai gv) mh ["len","are_parts","parts_dot","is_whole","all"]:=⟨by decide+kernel⟩
def A5:aQ mh ["rows","row","parts"] (ai gv):=⟨rfl,rfl,rfl,by decide+kernel,rfl,by decide+kernel,by decide+kernel⟩
def eV:VS (ai gq) km ["len","standing"]:=⟨by decide+kernel⟩
def yS:aQ km ["turn","many"] (ai gq):=⟨rfl,rfl,rfl,by decide+kernel,rfl,by decide+kernel,by decide+kernel⟩
def aT:VS (ai ma) qB ["len","turned_over","standing","weighed","lead_of","parts_against","steps_behind","sum_by","falls"]:=⟨by decide+kernel⟩
def g7:aQ qB ["rows","due"] (ai ma):=⟨rfl,rfl,rfl,by decide+kernel,rfl,by decide+kernel,by decide+kernel⟩
def kP:VS (ai h8) nO ["zip","all"]:=⟨by decide+kernel⟩
def CF:aQ nO ["rows","due","row"] (ai h8):=⟨rfl,rfl,rfl,by decide+kernel,rfl,by decide+kernel,by decide+kernel⟩
def cO:VS (ai gz) mD ["len","is_rows","is_standing","all"]:=⟨by decide+kernel⟩
def uk:aQ mD ["rows","steps"] (ai gz):=⟨rfl,rfl,rfl,by decide+kernel,rfl,by decide+kernel,by decide+kernel⟩
def bX:VS (ai gj) ku ["len","are_numbers","is_answer","falls","tuple"]:=⟨by decide+kernel⟩
def yJ:aQ ku ["rows","due","answer","steps"] (ai gj):=⟨rfl,rfl,rfl,by decide+kernel,rfl,by decide+kernel,by decide+kernel⟩
def bf:VS (ai gy) mx ["len","is_turn_of","turned_over","product","standing_head","all"]:=⟨by decide+kernel⟩
def oH:aQ mx ["rows","steps","turn","back"] (ai gy):=⟨rfl,rfl,rfl,by decide+kernel,rfl,by decide+kernel,by decide+kernel⟩
def aK:VS (ai fP) jP ["is_listed_of","len","turned_over","parts_show","steps_show","answer_shows","turn_shows"]:=⟨by decide+kernel⟩
def xo:aQ jP ["rows","due","told"] (ai fP):=⟨rfl,rfl,rfl,by decide+kernel,rfl,by decide+kernel,by decide+kernel⟩
def fh:VS (ai ky) o3 ["abs","int"]:=⟨by decide+kernel⟩
def rE:aQ o3 ["_law_script"] (ai ky):=⟨rfl,rfl,rfl,by decide+kernel,rfl,by decide+kernel,by decide+kernel⟩
def cA:VS (ai kE) o8 ["len"]:=⟨by decide+kernel⟩
def nU:aQ o8 ["_law_hand_here","_law_many"] (ai kE):=⟨rfl,rfl,rfl,by decide+kernel,rfl,by decide+kernel,by decide+kernel⟩
def ot:VS (ai j5) qV ["zip","sum"]:=⟨by decide+kernel⟩
def Gi:aQ qV ["_law_one","_law_other"] (ai j5):=⟨rfl,rfl,rfl,by decide+kernel,rfl,by decide+kernel,by decide+kernel⟩
def o4:VS (ai jb) pe ["len","range"]:=⟨by decide+kernel⟩
def D2:aQ pe ["_law_rows"] (ai jb):=⟨rfl,rfl,rfl,by decide+kernel,rfl,by decide+kernel,by decide+kernel⟩
def aP:VS (ai gc) oV ["range","_law_take","int","zip"]:=⟨by decide+kernel⟩
def gh:aQ oV ["_law_hand_here","_law_size"] (ai gc):=⟨rfl,rfl,rfl,by decide+kernel,rfl,by decide+kernel,by decide+kernel⟩
def aI:VS (ai d8) qR ["_law_take","range","tuple","zip"]:=⟨by decide+kernel⟩
def fi:aQ qR ["_law_hand_here"] (ai d8):=⟨rfl,rfl,rfl,by decide+kernel,rfl,by decide+kernel,by decide+kernel⟩
def ak:VS (ai cX) jU ["len","_law_turn","_law_over","tuple","_law_dot","_law_take","zip","list"]:=⟨by decide+kernel⟩
def d7:aQ jU ["_law_hand_here","_law_rows","_law_due"] (ai cX):=⟨rfl,rfl,rfl,by decide+kernel,rfl,by decide+kernel,by decide+kernel⟩
def cx:VS (ai qI) Bu ["_law_hand","range","_law_any","_law_otherwise","answers","shows_answers"]:=⟨by decide+kernel⟩
def pS:aQ Bu ["_law_script"] (ai qI):=⟨rfl,rfl,rfl,by decide+kernel,rfl,by decide+kernel,by decide+kernel⟩
structure Ev(w:World)(mg:Str->Option Value)(h:Heap):Prop where
 X:(KX w.params).In h
 G:h.Ns mainGlobals mg
section
variable {w:World}{mg:Str->Option Value}{h base:Heap}(e:Ev w mg h)
include e
theorem Bt:Bl mg:=⟨Vl e.X e.G (by kernel_rfl),Vl e.X e.G (by kernel_rfl),Vl e.X e.G (by kernel_rfl),Vl e.X e.G (by kernel_rfl),Vl e.X e.G (by kernel_rfl),Vl e.X e.G (by kernel_rfl),Vl e.X e.G (by kernel_rfl),Vl e.X e.G (by kernel_rfl),Vl e.X e.G (by kernel_rfl),Vl e.X e.G (by kernel_rfl),Vl e.X e.G (by kernel_rfl),Vl e.X e.G (by kernel_rfl),Vl e.X e.G (by kernel_rfl)⟩
theorem Qt:Kl (KX w.params) mg:=⟨⟨⟨by kernel_rfl,by kernel_rfl,by kernel_rfl,by kernel_rfl⟩,PySem.W.mg_of e.X e.G (by kernel_rfl),by kernel_rfl,by kernel_rfl⟩,Hd.na (by kernel_rfl),Hd.na (by kernel_rfl),Hd.na (by kernel_rfl)⟩
theorem wW:bD (KX w.params) mg "is_number" "is_number" jB ["thing"] 21 (Hd.fd jB "is_number" "is_number" uq 20):=Hd.oN e.X e.G (by kernel_rfl) λ _ _ _ _ _ _ _=>rfl
theorem DF:a_ PW w (KX w.params) mg base cz 1 21 (Hd.fd jB "is_number" "is_number" uq 20) ["thing"] (cD rL):=by
 have B:=Bt e;have Q:=Qt e;exact bE (N:=nJ) (wW e).fn Cj (λ cdv A outer s H E hr=>(az (aR (rj (cK Gw (aa (ff.nm 0) (aa (FN B.yu rfl uS (ff.d 0) (ff.g 0)) aj)) B.pZ rfl oK (ff.d 1) (ff.g 1)) (qW (RL (cK Gw (aa (ff.nm 0) (aa (FN B.OA rfl Nh (ff.d 2) (ff.g 2)) aj)) B.pZ rfl oK (ff.d 1) (ff.g 1)))))))) Dd
theorem nA:bD (KX w.params) mg "is_listed" "is_listed" jw ["thing"] 28 (Hd.fd jw "is_listed" "is_listed" uq 27):=Hd.oN e.X e.G (by kernel_rfl) λ _ _ _ _ _ _ _=>rfl
theorem rJ:a_ PW w (KX w.params) mg base cz 1 28 (Hd.fd jw "is_listed" "is_listed" uq 27) ["thing"] (cD kJ):=by
 have B:=Bt e;have Q:=Qt e;exact bE (N:=nP) (nA e).fn Ds (λ cdv A outer s H E hr=>(az (aR (cK Gw (aa (ia.nm 0) (aa (ix (aa (FN B.pV rfl nv (ia.d 1) (ia.g 1)) (aa (FN B.dn rfl c6 (ia.d 0) (ia.g 0)) aj))) aj)) B.pZ rfl oK (ia.d 2) (ia.g 2))))) Cd
theorem iO:bD (KX w.params) mg "is_listed_of" "is_listed_of" gp ["thing","many"] 35 (Hd.fd gp "is_listed_of" "is_listed_of" uq 34):=Hd.i6 e.X e.G (by kernel_rfl) λ _ _ _ _ _ _ _ _=>rfl
theorem ki:a_ PW w (KX w.params) mg base cz 2 35 (Hd.fd gp "is_listed_of" "is_listed_of" uq 34) ["thing","many"] (cD gm):=by
 have B:=Bt e;have Q:=Qt e;exact bE (N:=ko) (iO e).fn yo (λ cdv A outer s H E hr=>(az (aR (rj (aM (nA e) (rJ e) (hr.mono (by decide)) (aa (fD.nm 0) aj) (fD.d 0) (fD.g 0)) (qW (jS (jD hr) (bH _) (cK dc (aa (fD.nm 0) aj) B.c9 rfl cL (fD.d 1) (fD.g 1)) (fD.nm 1))))))) yP
theorem kQ:bD (KX w.params) mg "are_numbers" "are_numbers" fV ["thing","many"] 40 (Hd.fd fV "are_numbers" "are_numbers" uq 39):=Hd.i6 e.X e.G (by kernel_rfl) λ _ _ _ _ _ _ _ _=>rfl
theorem oJ:a_ PW w (KX w.params) mg base cz 3 40 (Hd.fd fV "are_numbers" "are_numbers" uq 39) ["thing","many"] (cD gL):=by
 have B:=Bt e;have Q:=Qt e;exact bE (N:=k6) (kQ e).fn zA (λ cdv A outer s H E hr=>(az (aR (rj (aM (iO e) (ki e) (hr.mono (by decide)) (aa (fT.nm 0) (aa (fT.nm 1) aj)) (fT.d 0) (fT.g 0)) (qW (cK (rp rfl) (aa (cV (Nc:=["each"]) (a7.look (ai fV) ["thing","many"] (by decide+kernel)) (e9 (fT.nm 0)) (λ _ _ _ _=>(df (show(["each"]:List Str).Nodup by decide+kernel))) (λ _ _ _ _=>bY) (λ _ _ _ _=>(aM (wW e) (DF e) (hr.mono (by decide)) (aa cu aj) (by decide+kernel) rfl)) bZ) aj) B.q_ rfl oy (fT.d 1) (fT.g 1))))))) zO
theorem xk:bD (KX w.params) mg "common" "common" mZ ["one","other"] 47 (Hd.fd mZ "common" "common" jL 46):=Hd.i6 e.X e.G (by kernel_rfl) λ _ _ _ _ _ _ _ _=>rfl
theorem Dh:a_ PW w (KX w.params) mg base cz 1 47 (Hd.fd mZ "common" "common" jL 46) ["one","other"] (cD tw):=by
 have B:=Bt e;have Q:=Qt e
 exact bE (N:=tY) (xk e).fn lK (λ cdv A outer s H E hr=>(au (aV lK.nd (d3.l 2) (cK yr (aa (d3.nm 0) aj) B.yI rfl vg (d3.d 0) (d3.g 0)))
  (au (aV lK.nd (d3.l 3) (cK yr (aa (d3.nm 1) aj) B.yI rfl vg (d3.d 0) (d3.g 0)))
  (au (w9 (cN Fe (bH _) (d3.nm 3) aq) (au (aV lK.nd (d3.l 4) (bz pk (d3.nm 2) (d3.nm 3)))
  (au (aV lK.nd (d3.l 2) (d3.nm 3))
  (az (aV lK.nd (d3.l 3) (d3.nm 4))))))
  (az (aR (d3.nm 2))))))) Iy
theorem r_:bD (KX w.params) mg "part" "part" sM ["top","bottom"] 54 (Hd.fd sM "part" "part" jL 53):=Hd.i6 e.X e.G (by kernel_rfl) λ _ _ _ _ _ _ _ _=>rfl
theorem vd:a_ PW w (KX w.params) mg base cz 2 54 (Hd.fd sM "part" "part" jL 53) ["top","bottom"] (cD qj):=by
 have B:=Bt e;have Q:=Qt e
 exact bE (N:=yl) (r_ e).fn mR (λ cdv A outer s H E hr=>(au (aV mR.nd (jq.l 2) (aM (xk e) (Dh e) (hr.mono (by decide)) (aa (jq.nm 0) (aa (jq.nm 1) aj)) (jq.d 0) (jq.g 0)))
  (au (dw (cN tZ (bH _) (jq.nm 1) aq) (az (aV mR.nd (jq.l 2) (kn (jq.nm 2)))) cU)
  (az (aR (ix (aa (bz (sQ hr rfl mR.gen mR.co) (jq.nm 0) (jq.nm 2)) (aa (bz (sQ hr rfl mR.gen mR.co) (jq.nm 1) (jq.nm 2)) aj)))))))) Mg
theorem Hy:bD (KX w.params) mg "plus" "plus" sq ["one","other"] 61 (Hd.fd sq "plus" "plus" jL 60):=Hd.i6 e.X e.G (by kernel_rfl) λ _ _ _ _ _ _ _ _=>rfl
theorem Og:a_ PW w (KX w.params) mg base cz 3 61 (Hd.fd sq "plus" "plus" jL 60) ["one","other"] (cD Dt):=by
 have B:=Bt e;have Q:=Qt e;exact bE (N:=yK) (Hy e).fn LL (λ cdv A outer s H E hr=>(az (aR (aM (r_ e) (vd e) (hr.mono (by decide)) (aa (bz fw (bz dR (aN (ou.nm 0) aq) (aN (ou.nm 1) aq)) (bz dR (aN (ou.nm 1) aq) (aN (ou.nm 0) aq))) (aa (bz dR (aN (ou.nm 0) aq) (aN (ou.nm 1) aq)) aj)) (ou.d 0) (ou.g 0))))) LM
theorem Er:bD (KX w.params) mg "minus" "minus" pA ["one","other"] 68 (Hd.fd pA "minus" "minus" jL 67):=Hd.i6 e.X e.G (by kernel_rfl) λ _ _ _ _ _ _ _ _=>rfl
theorem Mu:a_ PW w (KX w.params) mg base cz 3 68 (Hd.fd pA "minus" "minus" jL 67) ["one","other"] (cD zV):=by
 have B:=Bt e;have Q:=Qt e;exact bE (N:=vI) (Er e).fn JH (λ cdv A outer s H E hr=>(az (aR (aM (r_ e) (vd e) (hr.mono (by decide)) (aa (bz rk (bz dR (aN (lP.nm 0) aq) (aN (lP.nm 1) aq)) (bz dR (aN (lP.nm 1) aq) (aN (lP.nm 0) aq))) (aa (bz dR (aN (lP.nm 0) aq) (aN (lP.nm 1) aq)) aj)) (lP.d 0) (lP.g 0))))) Kf
theorem ES:bD (KX w.params) mg "times" "times" pP ["one","other"] 75 (Hd.fd pP "times" "times" jL 74):=Hd.i6 e.X e.G (by kernel_rfl) λ _ _ _ _ _ _ _ _=>rfl
theorem LX:a_ PW w (KX w.params) mg base cz 3 75 (Hd.fd pP "times" "times" jL 74) ["one","other"] (cD zI):=by
 have B:=Bt e;have Q:=Qt e;exact bE (N:=vE) (ES e).fn Js (λ cdv A outer s H E hr=>(az (aR (aM (r_ e) (vd e) (hr.mono (by decide)) (aa (bz dR (aN (pB.nm 0) aq) (aN (pB.nm 1) aq)) (aa (bz dR (aN (pB.nm 0) aq) (aN (pB.nm 1) aq)) aj)) (pB.d 0) (pB.g 0))))) Kw
theorem GB:bD (KX w.params) mg "over" "over" r9 ["one","other"] 82 (Hd.fd r9 "over" "over" jL 81):=Hd.i6 e.X e.G (by kernel_rfl) λ _ _ _ _ _ _ _ _=>rfl
theorem Ph:a_ PW w (KX w.params) mg base cz 3 82 (Hd.fd r9 "over" "over" jL 81) ["one","other"] (cD BP):=by
 have B:=Bt e;have Q:=Qt e;exact bE (N:=yR) (GB e).fn Mj (λ cdv A outer s H E hr=>(az (aR (aM (r_ e) (vd e) (hr.mono (by decide)) (aa (bz dR (aN (sN.nm 0) aq) (aN (sN.nm 1) aq)) (aa (bz dR (aN (sN.nm 0) aq) (aN (sN.nm 1) aq)) aj)) (sN.d 0) (sN.g 0))))) LN
theorem pN:bD (KX w.params) mg "whole" "whole" pC ["n"] 89 (Hd.fd pC "whole" "whole" jL 88):=Hd.oN e.X e.G (by kernel_rfl) λ _ _ _ _ _ _ _=>rfl
theorem sO:a_ PW w (KX w.params) mg base cz 1 89 (Hd.fd pC "whole" "whole" jL 88) ["n"] (cD mS):=by
 have B:=Bt e;have Q:=Qt e;exact bE (N:=vR) (pN e).fn Jq (λ cdv A outer s H E hr=>(az (aR (ix (aa (MO.nm 0) (aa aq aj)))))) JD
theorem AA:bD (KX w.params) mg "is_part" "is_part" lJ ["thing"] 96 (Hd.fd lJ "is_part" "is_part" jL 95):=Hd.oN e.X e.G (by kernel_rfl) λ _ _ _ _ _ _ _=>rfl
theorem Hv:a_ PW w (KX w.params) mg base cz 4 96 (Hd.fd lJ "is_part" "is_part" jL 95) ["thing"] (cD uO):=by
 have B:=Bt e;have Q:=Qt e;exact bE (N:=rl) (AA e).fn FR (λ cdv A outer s H E hr=>(az (aR (rj (aM (kQ e) (oJ e) (hr.mono (by decide)) (aa (i8.nm 0) (aa aq aj)) (i8.d 0) (i8.g 0)) (rj (jS Ci (bH _) (aN (i8.nm 0) aq) aq) (qW (jS (jD hr) (bH _) (aM (xk e) (Dh e) (hr.mono (by decide)) (aa (aN (i8.nm 0) aq) (aa (aN (i8.nm 0) aq) aj)) (i8.d 1) (i8.g 1)) aq))))))) Fs
theorem vi:bD (KX w.params) mg "as_rows" "as_rows" jW ["rows"] 101 (Hd.fd jW "as_rows" "as_rows" fF 100):=Hd.oN e.X e.G (by kernel_rfl) λ _ _ _ _ _ _ _=>rfl
theorem Ak:a_ PW w (KX w.params) mg base cz 1 101 (Hd.fd jW "as_rows" "as_rows" fF 100) ["rows"] (cD qK):=by
 have B:=Bt e;have Q:=Qt e;exact bE (N:=qO) (vi e).fn Gy (λ cdv A outer s H E hr=>(az (aR (eQ dB (aa (cV (Nc:=["row"]) (a7.look (ai jW) ["rows"] (by decide+kernel)) (e9 (uF.nm 0)) (λ _ _ _ _=>(df (show(["row"]:List Str).Nodup by decide+kernel))) (λ _ _ _ _=>bY) (λ _ _ _ _=>(eQ dB (aa cu aj) B.dn rfl c6 (by decide+kernel) rfl)) bZ) aj) B.dn rfl c6 (uF.d 0) (uF.g 0))))) Gm
theorem pF:bD (KX w.params) mg "added" "added" mV ["row","times","other"] 106 (Hd.fd mV "added" "added" fF 105):=Hd.wB e.X e.G (by kernel_rfl) λ _ _ _ _ _ _ _ _ _=>rfl
theorem sj:a_ PW w (KX w.params) mg base cz 1 106 (Hd.fd mV "added" "added" fF 105) ["row","times","other"] (cD mX):=by
 have B:=Bt e;have Q:=Qt e;exact bE (N:=vY) (pF e).fn Jw (λ cdv A outer s H E hr=>(az (aR (cV (Nc:=["one","two","times"]) (a7.look (ai mV) ["row","times","other"] (by decide+kernel)) (oX (zH.g 0) B.pd (aa (zH.nm 0) (aa (zH.nm 2) aj))) (λ _ _ _ _=>(jO rfl (show(["one","two","times"]:List Str).Nodup by decide+kernel))) (λ _ _ _ _=>bY) (λ _ _ _ _=>(bz fw cu (bz dR cu cu))) ni)))) J3
theorem w_:bD (KX w.params) mg "sum_by" "sum_by" nj ["weights","rows","wide"] 113 (Hd.fd nj "sum_by" "sum_by" fF 112):=Hd.wB e.X e.G (by kernel_rfl) λ _ _ _ _ _ _ _ _ _=>rfl
theorem BM:a_ PW w (KX w.params) mg base cz 2 113 (Hd.fd nj "sum_by" "sum_by" fF 112) ["weights","rows","wide"] (cD sZ):=by
 have B:=Bt e;have Q:=Qt e
 exact bE (N:=t6) (w_ e).fn rm (λ cdv A outer s H E hr=>(au (aV rm.nd (fj.l 3) (bz dR (vZ (aa aq aj)) (fj.nm 2)))
  (au (g6 (oX (fj.g 0) B.pd (aa (fj.nm 0) (aa (fj.nm 1) aj))) (jO rfl rm.nd) (az (aV rm.nd (fj.l 3) (aM (pF e) (sj e) (hr.mono (by decide)) (aa (fj.nm 3) (aa (fj.nm 4) (aa (fj.nm 5) aj))) (fj.d 1) (fj.g 1)))))
  (az (aR (eQ dB (aa (fj.nm 3) aj) B.dn rfl c6 (fj.d 2) (fj.g 2))))))) Hb
theorem vf:bD (KX w.params) mg "product" "product" j6 ["one","other"] 118 (Hd.fd j6 "product" "product" fF 117):=Hd.i6 e.X e.G (by kernel_rfl) λ _ _ _ _ _ _ _ _=>rfl
theorem AH:a_ PW w (KX w.params) mg base cz 3 118 (Hd.fd j6 "product" "product" fF 117) ["one","other"] (cD qS):=by
 have B:=Bt e;have Q:=Qt e
 exact bE (N:=rB) (vf e).fn yQ (λ cdv A outer s H E hr=>(au (aV yQ.nd (j4.l 2) (cK dc (aa (aN (j4.nm 1) aq) aj) B.c9 rfl cL (j4.d 0) (j4.g 0)))
  (az (aR (eQ dB (aa (cV (Nc:=["weights","other","wide"]) (a7.look (ai j6) ["one","other","wide"] (by decide+kernel)) (e9 (j4.nm 0)) (λ _ _ _ _=>(df (show(["weights","other","wide"]:List Str).Nodup by decide+kernel))) (λ _ _ _ _=>bY) (λ _ _ _ _=>(aM (w_ e) (BM e) (hr.mono (by decide)) (aa cu (aa cu (aa cu aj))) (by decide+kernel) rfl)) bZ) aj) B.dn rfl c6 (j4.d 1) (j4.g 1)))))) FI
theorem BK:bD (KX w.params) mg "column" "column" ly ["rows","place"] 123 (Hd.fd ly "column" "column" fF 122):=Hd.i6 e.X e.G (by kernel_rfl) λ _ _ _ _ _ _ _ _=>rfl
theorem Jh:a_ PW w (KX w.params) mg base cz 1 123 (Hd.fd ly "column" "column" fF 122) ["rows","place"] (cD xg):=by
 have B:=Bt e;have Q:=Qt e;exact bE (N:=tM) (BK e).fn GK (λ cdv A outer s H E hr=>(az (aR (eQ dB (aa (cV (Nc:=["row","place"]) (a7.look (ai ly) ["rows","place"] (by decide+kernel)) (e9 (xO.nm 0)) (λ _ _ _ _=>(df (show(["row","place"]:List Str).Nodup by decide+kernel))) (λ _ _ _ _=>bY) (λ _ _ _ _=>(aN cu cu)) bZ) aj) B.dn rfl c6 (xO.d 0) (xO.g 0))))) GQ
theorem js:bD (KX w.params) mg "turned_over" "turned_over" fW ["rows","wide"] 128 (Hd.fd fW "turned_over" "turned_over" fF 127):=Hd.i6 e.X e.G (by kernel_rfl) λ _ _ _ _ _ _ _ _=>rfl
theorem kW:a_ PW w (KX w.params) mg base cz 2 128 (Hd.fd fW "turned_over" "turned_over" fF 127) ["rows","wide"] (cD gH):=by
 have B:=Bt e;have Q:=Qt e;exact bE (N:=kU) (js e).fn zS (λ cdv A outer s H E hr=>(az (aR (eQ dB (aa (cV (Nc:=["place","rows"]) (a7.look (ai fW) ["rows","wide"] (by decide+kernel)) (eC (kR.g 0) B.eK (aa (kR.nm 1) aj)) (λ _ _ _ _=>(df (show(["place","rows"]:List Str).Nodup by decide+kernel))) (λ _ _ _ _=>bY) (λ _ _ _ _=>(aM (BK e) (Jh e) (hr.mono (by decide)) (aa cu (aa cu aj)) (by decide+kernel) rfl)) bZ) aj) B.dn rfl c6 (kR.d 1) (kR.g 1))))) zP
theorem yF:bD (KX w.params) mg "unit_row" "unit_row" jc ["n","place"] 133 (Hd.fd jc "unit_row" "unit_row" fF 132):=Hd.i6 e.X e.G (by kernel_rfl) λ _ _ _ _ _ _ _ _=>rfl
theorem Ft:a_ PW w (KX w.params) mg base cz 1 133 (Hd.fd jc "unit_row" "unit_row" fF 132) ["n","place"] (cD td):=by
 have B:=Bt e;have Q:=Qt e;exact bE (N:=pj) (yF e).fn DQ (λ cdv A outer s H E hr=>(az (aR (eQ dB (aa (cV (Nc:=["k","place"]) (a7.look (ai jc) ["n","place"] (by decide+kernel)) (eC (o9.g 0) B.eK (aa (o9.nm 0) aj)) (λ _ _ _ _=>(df (show(["k","place"]:List Str).Nodup by decide+kernel))) (λ _ _ _ _=>bY) (λ _ _ _ _=>(Fv (cN (jD hr) (bH _) cu cu) aq aq)) bZ) aj) B.dn rfl c6 (o9.d 1) (o9.g 1))))) D8
theorem nI:bD (KX w.params) mg "unit_rows" "unit_rows" ik ["n"] 138 (Hd.fd ik "unit_rows" "unit_rows" fF 137):=Hd.oN e.X e.G (by kernel_rfl) λ _ _ _ _ _ _ _=>rfl
theorem rS:a_ PW w (KX w.params) mg base cz 2 138 (Hd.fd ik "unit_rows" "unit_rows" fF 137) ["n"] (cD kO):=by
 have B:=Bt e;have Q:=Qt e;exact bE (N:=nG) (nI e).fn Bz (λ cdv A outer s H E hr=>(az (aR (eQ dB (aa (cV (Nc:=["place","n"]) (a7.look (ai ik) ["n"] (by decide+kernel)) (eC (nF.g 0) B.eK (aa (nF.nm 0) aj)) (λ _ _ _ _=>(df (show(["place","n"]:List Str).Nodup by decide+kernel))) (λ _ _ _ _=>bY) (λ _ _ _ _=>(aM (yF e) (Ft e) (hr.mono (by decide)) (aa cu (aa cu aj)) (by decide+kernel) rfl)) bZ) aj) B.dn rfl c6 (nF.d 1) (nF.g 1))))) BF
theorem La:bD (KX w.params) mg "dot" "dot" tx ["one","other"] 143 (Hd.fd tx "dot" "dot" fF 142):=Hd.i6 e.X e.G (by kernel_rfl) λ _ _ _ _ _ _ _ _=>rfl
theorem Qw:a_ PW w (KX w.params) mg base cz 1 143 (Hd.fd tx "dot" "dot" fF 142) ["one","other"] (cD Bm):=by
 have B:=Bt e;have Q:=Qt e;exact bE (N:=Bq) (La e).fn Pq (λ cdv A outer s H E hr=>(az (aR (cK (Lr rfl) (aa (cV (Nc:=["left","right"]) (a7.look (ai tx) ["one","other"] (by decide+kernel)) (oX (za.g 0) B.pd (aa (za.nm 0) (aa (za.nm 1) aj))) (λ _ _ _ _=>(jO rfl (show(["left","right"]:List Str).Nodup by decide+kernel))) (λ _ _ _ _=>bY) (λ _ _ _ _=>(bz dR cu cu)) ni) aj) B.Ls rfl HP (za.d 1) (za.g 1))))) Gz
theorem nY:bD (KX w.params) mg "is_rows" "is_rows" ke ["thing","many","wide"] 148 (Hd.fd ke "is_rows" "is_rows" fF 147):=Hd.wB e.X e.G (by kernel_rfl) λ _ _ _ _ _ _ _ _ _=>rfl
theorem qL:a_ PW w (KX w.params) mg base cz 4 148 (Hd.fd ke "is_rows" "is_rows" fF 147) ["thing","many","wide"] (cD lZ):=by
 have B:=Bt e;have Q:=Qt e
 exact bE (N:=og) (nY e).fn F5 (λ cdv A outer s H E hr=>(au (dw (fK (eO (aM (nA e) (rJ e) (hr.mono (by decide)) (aa (fJ.nm 0) aj) (fJ.d 0) (fJ.g 0)))) (az (aR iH)) cU)
  (au (dw (k9 (yc (cN C3 (bH _) (fJ.nm 1) oU) (vO (cN Fe (bH _) (cK dc (aa (fJ.nm 0) aj) B.c9 rfl cL (fJ.d 1) (fJ.g 1)) (fJ.nm 1))))) (az (aR iH)) cU)
  (az (aR (cK (rp rfl) (aa (cV (Nc:=["row","wide"]) (a7.look (ai ke) ["thing","many","wide"] (by decide+kernel)) (e9 (fJ.nm 0)) (λ _ _ _ _=>(df (show(["row","wide"]:List Str).Nodup by decide+kernel))) (λ _ _ _ _=>bY) (λ _ _ _ _=>(aM (kQ e) (oJ e) (hr.mono (by decide)) (aa cu (aa cu aj)) (by decide+kernel) rfl)) bZ) aj) B.q_ rfl oy (fJ.d 2) (fJ.g 2))))))) Gf
theorem yq:bD (KX w.params) mg "are_back" "are_back" kD ["turn","back"] 155 (Hd.fd kD "are_back" "are_back" fF 154):=Hd.i6 e.X e.G (by kernel_rfl) λ _ _ _ _ _ _ _ _=>rfl
theorem E8:a_ PW w (KX w.params) mg base cz 5 155 (Hd.fd kD "are_back" "are_back" fF 154) ["turn","back"] (cD tG):=by
 have B:=Bt e;have Q:=Qt e
 exact bE (N:=oW) (yq e).fn wu (λ cdv A outer s H E hr=>(au (dw (fK (eO (aM (nA e) (rJ e) (hr.mono (by decide)) (aa (b_.nm 0) aj) (b_.d 0) (b_.g 0)))) (az (aR iH)) cU)
  (au (aV wu.nd (b_.l 2) (cK dc (aa (b_.nm 0) aj) B.c9 rfl cL (b_.d 1) (b_.g 1)))
  (au (dw (k9 (nN (fK (eO (aM (nY e) (qL e) (hr.mono (by decide)) (aa (b_.nm 0) (aa (b_.nm 2) (aa (b_.nm 2) aj))) (b_.d 2) (b_.g 2)))) (oz (fK (eO (aM (nY e) (qL e) (hr.mono (by decide)) (aa (b_.nm 1) (aa (b_.nm 2) (aa (b_.nm 2) aj))) (b_.d 2) (b_.g 2))))))) (az (aR iH)) cU)
  (az (aR (Sw (jS (jD hr) (bH _) (b_.nm 2) aq) (qW (jS (jD hr) (bH _) (aM (vf e) (AH e) (hr.mono (by decide)) (aa (b_.nm 0) (aa (b_.nm 1) aj)) (b_.d 3) (b_.g 3)) (aM (nI e) (rS e) (hr.mono (by decide)) (aa (b_.nm 2) aj) (b_.d 4) (b_.g 4))))))))))) Dz
theorem u4:bD (KX w.params) mg "is_turn_of" "is_turn_of" iL ["turn","back","many"] 162 (Hd.fd iL "is_turn_of" "is_turn_of" fF 161):=Hd.wB e.X e.G (by kernel_rfl) λ _ _ _ _ _ _ _ _ _=>rfl
theorem Cy:a_ PW w (KX w.params) mg base cz 6 162 (Hd.fd iL "is_turn_of" "is_turn_of" fF 161) ["turn","back","many"] (cD pW):=by
 have B:=Bt e;have Q:=Qt e;exact bE (N:=mF) (u4 e).fn AY (λ cdv A outer s H E hr=>(az (aR (rj (aM (nY e) (qL e) (hr.mono (by decide)) (aa (fm.nm 0) (aa (fm.nm 2) (aa (fm.nm 2) aj))) (fm.d 0) (fm.g 0)) (qW (aM (yq e) (E8 e) (hr.mono (by decide)) (aa (fm.nm 0) (aa (fm.nm 1) aj)) (fm.d 1) (fm.g 1))))))) A4
theorem gR:bD (KX w.params) mg "lead_of" "lead_of" l8 ["row"] 169 (Hd.fd l8 "lead_of" "lead_of" dX 168):=Hd.oN e.X e.G (by kernel_rfl) λ _ _ _ _ _ _ _=>rfl
theorem i7:a_ PW w (KX w.params) mg base cz 1 169 (Hd.fd l8 "lead_of" "lead_of" dX 168) ["row"] (cD gg):=by
 have B:=Bt e;have Q:=Qt e
 exact bE (N:=qD) (gR e).fn yT (λ cdv A outer s H E hr=>(au (g6 (IV (qy.g 0) B.wM (aa (qy.nm 0) aj)) (jO rfl yT.nd) (az (dw (cN Fe (bH _) (qy.nm 2) aq) (az (aR (qy.nm 1))) cU)))
  (az (aR oU)))) Gk
theorem oF:bD (KX w.params) mg "is_standing" "is_standing" fU ["rows"] 174 (Hd.fd fU "is_standing" "is_standing" dX 173):=Hd.oN e.X e.G (by kernel_rfl) λ _ _ _ _ _ _ _=>rfl
theorem ur:a_ PW w (KX w.params) mg base cz 2 174 (Hd.fd fU "is_standing" "is_standing" dX 173) ["rows"] (cD kY):=by
 have B:=Bt e;have Q:=Qt e
 exact bE (N:=kZ) (oF e).fn iV (λ cdv A outer s H E hr=>(au (aV iV.nd (cm.l 1) (kn aq))
  (au (g6 (IV (cm.g 0) B.wM (aa (cm.nm 0) aj)) (jO rfl iV.nd) (au (aV iV.nd (cm.l 4) (aM (gR e) (i7 e) (hr.mono (by decide)) (aa (cm.nm 3) aj) (cm.d 1) (cm.g 1)))
  (au (dw (k9 (nN (cN Kk (bH _) (cm.nm 4) oU) (nN (cN Ob (bH _) (cm.nm 4) (cm.nm 1)) (oz (cN tZ (bH _) (aN (cm.nm 3) (cm.nm 4)) aq))))) (az (aR iH)) cU)
  (au (dw (fK (eO (cK (rp rfl) (aa (cV (Nc:=["above","lead","row"]) (a7.look (ai fU) ["rows","ahead","k","row","lead"] (by decide+kernel)) (e9 (gK (cm.nm 0) kB (fE (cm.nm 2)))) (λ _ _ _ _=>(df (show(["above","lead","row"]:List Str).Nodup by decide+kernel))) (λ _ _ _ _=>bY) (λ _ _ _ _=>(Mi Ob tZ aq (aN cu cu) (aN cu cu))) bZ) aj) B.q_ rfl oy (cm.d 2) (cm.g 2)))) (az (aR iH)) cU)
  (az (aV iV.nd (cm.l 1) (cm.nm 4)))))))
  (az (aR iH))))) zi
theorem qZ:bD (KX w.params) mg "standing_head" "standing_head" fk ["rows"] 179 (Hd.fd fk "standing_head" "standing_head" dX 178):=Hd.oN e.X e.G (by kernel_rfl) λ _ _ _ _ _ _ _=>rfl
theorem yx:a_ PW w (KX w.params) mg base cz 3 179 (Hd.fd fk "standing_head" "standing_head" dX 178) ["rows"] (cD mi):=by
 have B:=Bt e;have Q:=Qt e
 exact bE (N:=jM) (qZ e).fn qb (λ cdv A outer s H E hr=>(au (aV qb.nd (dU.l 1) (gK (dU.nm 0) kB (fE (cK dc (aa (cV (Nc:=["row"]) (a7.look (ai fk) ["rows","head"] (by decide+kernel)) (e9 (dU.nm 0)) (λ _ _ _ _=>(df (show(["row"]:List Str).Nodup by decide+kernel))) (λ _ _ _ _=>(HD (cN C3 (bH _) (aM (gR e) (i7 e) (hr.mono (by decide)) (aa cu aj) (by decide+kernel) rfl) oU))) (λ _ _ _ _=>cu) bZ) aj) B.c9 rfl cL (dU.d 0) (dU.g 0)))))
  (az (aR (Fv (eO (aM (oF e) (ur e) (hr.mono (by decide)) (aa (dU.nm 1) aj) (dU.d 1) (dU.g 1))) (dU.nm 1) oU))))) xa
theorem nX:bD (KX w.params) mg "nearest_quotient" "nearest_quotient" eY ["top","bottom"] 186 (Hd.fd eY "nearest_quotient" "nearest_quotient" dX 185):=Hd.i6 e.X e.G (by kernel_rfl) λ _ _ _ _ _ _ _ _=>rfl
theorem uV:a_ PW w (KX w.params) mg base cz 1 186 (Hd.fd eY "nearest_quotient" "nearest_quotient" dX 185) ["top","bottom"] (cD j9):=by
 have B:=Bt e;have Q:=Qt e;exact bE (N:=gY) (nX e).fn jI (λ cdv A outer s H E hr=>(az (aR (bz (sQ hr rfl jI.gen jI.co) (bz fw (bz dR aq (ka.nm 0)) (ka.nm 1)) (bz dR aq (ka.nm 1)))))) uy
theorem nS:bD (KX w.params) mg "exchanged" "exchanged" jv ["rows","k","other"] 193 (Hd.fd jv "exchanged" "exchanged" dX 192):=Hd.wB e.X e.G (by kernel_rfl) λ _ _ _ _ _ _ _ _ _=>rfl
theorem rP:a_ PW w (KX w.params) mg base cz 1 193 (Hd.fd jv "exchanged" "exchanged" dX 192) ["rows","k","other"] (cD kI):=by
 have B:=Bt e;have Q:=Qt e
 exact bE (N:=nQ) (nS e).fn uP (λ cdv A outer s H E hr=>(au (aV uP.nd (dJ.l 3) (eQ EU (aa (dJ.nm 0) aj) B.pV rfl nv (dJ.d 0) (dJ.g 0)))
  (au (fB (aN (dJ.nm 0) (dJ.nm 2)) (dJ.nm 3) (dJ.nm 1))
  (au (fB (aN (dJ.nm 0) (dJ.nm 1)) (dJ.nm 3) (dJ.nm 2))
  (az (aR (dJ.nm 3))))))) Dg
theorem qM:bD (KX w.params) mg "negated" "negated" kb ["row"] 198 (Hd.fd kb "negated" "negated" dX 197):=Hd.oN e.X e.G (by kernel_rfl) λ _ _ _ _ _ _ _=>rfl
theorem vc:a_ PW w (KX w.params) mg base cz 1 198 (Hd.fd kb "negated" "negated" dX 197) ["row"] (cD oo):=by
 have B:=Bt e;have Q:=Qt e;exact bE (N:=qC) (qM e).fn Fb (λ cdv A outer s H E hr=>(az (aR (cV (Nc:=["number"]) (a7.look (ai kb) ["row"] (by decide+kernel)) (e9 (G0.nm 0)) (λ _ _ _ _=>(df (show(["number"]:List Str).Nodup by decide+kernel))) (λ _ _ _ _=>bY) (λ _ _ _ _=>(kn cu)) bZ)))) Fy
theorem je:MethAt (KX w.params) aL "__init__" "Bench.__init__" dG ["self","rows"] 210 (Hd.fd dG "__init__" "Bench.__init__" dX 209):=Hd.R7 (by kernel_rfl) λ _ _ _ _ _ _ _ _=>rfl
theorem xG:a_ PW w (KX w.params) mg base cz 3 210 (Hd.fd dG "__init__" "Bench.__init__" dX 209) ["self","rows"] (cD lH):=by
 have B:=Bt e;have Q:=Qt e
 exact bE (N:=ja) (je e).fn wm (λ cdv A outer s H E hr=>(au (pH Q.ba.cl Q.cH (cq.nm 0) (v_ (Nc:=["row"]) (a7.look (ai dG) ["self","rows"] (by decide+kernel)) (e9 (cq.nm 1)) (λ _ _ _ _=>(df (show(["row"]:List Str).Nodup by decide+kernel))) (λ _ _ _ _=>bY) (λ _ _ _ _=>(eQ yG (aa cu aj) B.pV rfl nv (by decide+kernel) rfl)) bZ))
  (au (pH Q.ba.cl Q.fg (cq.nm 0) (v_ (Nc:=["row"]) (a7.look (ai dG) ["self","rows"] (by decide+kernel)) (e9 (aM (nI e) (rS e) (hr.mono (by decide)) (aa (cK dc (aa (cq.nm 1) aj) B.c9 rfl cL (cq.d 0) (cq.g 0)) aj) (cq.d 1) (cq.g 1))) (λ _ _ _ _=>(df (show(["row"]:List Str).Nodup by decide+kernel))) (λ _ _ _ _=>bY) (λ _ _ _ _=>(eQ yG (aa cu aj) B.pV rfl nv (by decide+kernel) rfl)) bZ))
  (az (pH Q.ba.cl Q.cQ (cq.nm 0) (v_ (Nc:=["row"]) (a7.look (ai dG) ["self","rows"] (by decide+kernel)) (e9 (aM (nI e) (rS e) (hr.mono (by decide)) (aa (cK dc (aa (cq.nm 1) aj) B.c9 rfl cL (cq.d 0) (cq.g 0)) aj) (cq.d 1) (cq.g 1))) (λ _ _ _ _=>(df (show(["row"]:List Str).Nodup by decide+kernel))) (λ _ _ _ _=>bY) (λ _ _ _ _=>(eQ yG (aa cu aj) B.pV rfl nv (by decide+kernel) rfl)) bZ)))))) wk
theorem j0:MethAt (KX w.params) aL "take" "Bench.take" iE ["self","k","times","other"] 217 (Hd.fd iE "take" "Bench.take" dX 216):=Hd.T3 (by kernel_rfl) λ _ _ _ _ _ _ _ _ _ _=>rfl
theorem uE:a_ PW w (KX w.params) mg base cz 2 217 (Hd.fd iE "take" "Bench.take" dX 216) ["self","k","times","other"] (cD mr):=by
 have B:=Bt e;have Q:=Qt e
 exact bE (N:=mq) (j0 e).fn AU (λ cdv A outer s H E hr=>(au (fB (aM (pF e) (sj e) (hr.mono (by decide)) (aa (aN (dS Q.ba.cl Q.cH (a9.nm 0)) (a9.nm 1)) (aa (kn (a9.nm 2)) (aa (aN (dS Q.ba.cl Q.cH (a9.nm 0)) (a9.nm 3)) aj))) (a9.d 0) (a9.g 0)) (dS Q.ba.cl Q.cH (a9.nm 0)) (a9.nm 1))
  (au (fB (aM (pF e) (sj e) (hr.mono (by decide)) (aa (aN (dS Q.ba.cl Q.fg (a9.nm 0)) (a9.nm 1)) (aa (kn (a9.nm 2)) (aa (aN (dS Q.ba.cl Q.fg (a9.nm 0)) (a9.nm 3)) aj))) (a9.d 0) (a9.g 0)) (dS Q.ba.cl Q.fg (a9.nm 0)) (a9.nm 1))
  (az (fB (aM (pF e) (sj e) (hr.mono (by decide)) (aa (aN (dS Q.ba.cl Q.cQ (a9.nm 0)) (a9.nm 3)) (aa (a9.nm 2) (aa (aN (dS Q.ba.cl Q.cQ (a9.nm 0)) (a9.nm 1)) aj))) (a9.d 0) (a9.g 0)) (dS Q.ba.cl Q.cQ (a9.nm 0)) (a9.nm 3)))))) A9
theorem lh:MethAt (KX w.params) aL "exchange" "Bench.exchange" fC ["self","k","other"] 224 (Hd.fd fC "exchange" "Bench.exchange" dX 223):=Hd.Ln (by kernel_rfl) λ _ _ _ _ _ _ _ _ _=>rfl
theorem xl:a_ PW w (KX w.params) mg base cz 2 224 (Hd.fd fC "exchange" "Bench.exchange" dX 223) ["self","k","other"] (cD k_):=by
 have B:=Bt e;have Q:=Qt e
 exact bE (N:=i_) (lh e).fn wo (λ cdv A outer s H E hr=>(au (pH Q.ba.cl Q.cH (bG.nm 0) (aM (nS e) (rP e) (hr.mono (by decide)) (aa (dS Q.ba.cl Q.cH (bG.nm 0)) (aa (bG.nm 1) (aa (bG.nm 2) aj))) (bG.d 0) (bG.g 0)))
  (au (pH Q.ba.cl Q.fg (bG.nm 0) (aM (nS e) (rP e) (hr.mono (by decide)) (aa (dS Q.ba.cl Q.fg (bG.nm 0)) (aa (bG.nm 1) (aa (bG.nm 2) aj))) (bG.d 0) (bG.g 0)))
  (az (pH Q.ba.cl Q.cQ (bG.nm 0) (aM (nS e) (rP e) (hr.mono (by decide)) (aa (dS Q.ba.cl Q.cQ (bG.nm 0)) (aa (bG.nm 1) (aa (bG.nm 2) aj))) (bG.d 0) (bG.g 0))))))) we
theorem jE:MethAt (KX w.params) aL "change_sign" "Bench.change_sign" eJ ["self","k"] 231 (Hd.fd eJ "change_sign" "Bench.change_sign" dX 230):=Hd.R7 (by kernel_rfl) λ _ _ _ _ _ _ _ _=>rfl
theorem uA:a_ PW w (KX w.params) mg base cz 2 231 (Hd.fd eJ "change_sign" "Bench.change_sign" dX 230) ["self","k"] (cD jK):=by
 have B:=Bt e;have Q:=Qt e
 exact bE (N:=gE) (jE e).fn t9 (λ cdv A outer s H E hr=>(au (fB (aM (qM e) (vc e) (hr.mono (by decide)) (aa (aN (dS Q.ba.cl Q.cH (aZ.nm 0)) (aZ.nm 1)) aj) (aZ.d 0) (aZ.g 0)) (dS Q.ba.cl Q.cH (aZ.nm 0)) (aZ.nm 1))
  (au (fB (aM (qM e) (vc e) (hr.mono (by decide)) (aa (aN (dS Q.ba.cl Q.fg (aZ.nm 0)) (aZ.nm 1)) aj) (aZ.d 0) (aZ.g 0)) (dS Q.ba.cl Q.fg (aZ.nm 0)) (aZ.nm 1))
  (az (fB (aM (qM e) (vc e) (hr.mono (by decide)) (aa (aN (dS Q.ba.cl Q.cQ (aZ.nm 0)) (aZ.nm 1)) aj) (aZ.d 0) (aZ.g 0)) (dS Q.ba.cl Q.cQ (aZ.nm 0)) (aZ.nm 1)))))) tX
theorem iw:MethAt (KX w.params) aL "live_rows" "Bench.live_rows" dN ["self","top","place"] 236 (Hd.fd dN "live_rows" "Bench.live_rows" dX 235):=Hd.Ln (by kernel_rfl) λ _ _ _ _ _ _ _ _ _=>rfl
theorem oO:a_ PW w (KX w.params) mg base cz 3 236 (Hd.fd dN "live_rows" "Bench.live_rows" dX 235) ["self","top","place"] (cD iq):=by
 have B:=Bt e;have Q:=Qt e;have hC:PySem.W.codeHdIn (KX w.params) 235 233=true:=by kernel_rfl
 exact Pn (N:=ip) (Hd.fc (by kernel_rfl)) nZ (λ A outer s H E hr=>(au (MY nZ.nd (dP.l 3) (Nc:=["k","self","place"]) (a7.look (ai dN) ["self","top","place","live"] (by decide+kernel)) (Je (dP.g 1) B.eK (aa (dP.nm 1) (aa (cK dc (aa (dS Q.ba.cl Q.cH (dP.nm 0)) aj) B.c9 rfl cL (dP.d 0) (dP.g 0)) aj))) (λ _ _ _ _=>(df (show(["k","self","place"]:List Str).Nodup by decide+kernel))) (λ _ _ _ _=>(HD (cN Fe (bH _) (aN (aN (dS Q.ba.cl Q.cH cu) cu) cu) aq))) (λ _ _ _ _=>cu) bZ)
  (az (aR (LQ (c0:=235) (ph.look (Nc:=["k","self","place"]) (fr:=[none,some 0,some 2]) (p:="k") (a7.look (ai dN) ["self","top","place","live"] (by decide+kernel))) rfl hr rfl hC (λ _ _ _ _=>(cK yr (aa (aN (aN (dS Q.ba.cl Q.cH cu) cu) cu) aj) B.yI rfl vg (by decide+kernel) rfl)) (dP.nm 3) (dP.g 2) B.Jl))))) u0
theorem m6:MethAt (KX w.params) aL "gather" "Bench.gather" gn ["self","top","place"] 243 (Hd.fd gn "gather" "Bench.gather" dX 242):=Hd.Ln (by kernel_rfl) λ _ _ _ _ _ _ _ _ _=>rfl
theorem zQ:a_ PW w (KX w.params) mg base cz 4 243 (Hd.fd gn "gather" "Bench.gather" dX 242) ["self","top","place"] (cD m_):=by
 have B:=Bt e;have Q:=Qt e
 exact bE (N:=kC) (m6 e).fn gZ (λ cdv A outer s H E hr=>(au (aV gZ.nd (aF.l 3) (oq (aF.nm 0) Q.ba.cl (iw e).me (oO e) (hr.mono (by decide)) (iw e).bd (aa (aF.nm 1) (aa (aF.nm 2) aj))))
  (au (w9 (cN Ci (bH _) (cK dc (aa (aF.nm 3) aj) B.c9 rfl cL (aF.d 0) (aF.g 0)) aq) (au (aV gZ.nd (aF.l 4) (aN (aF.nm 3) (kn aq)))
  (au (aV gZ.nd (aF.l 5) (aN (aF.nm 3) (kn aq)))
  (au (gM (oq (aF.nm 0) Q.ba.cl (j0 e).me (uE e) (hr.mono (by decide)) (j0 e).bd (aa (aF.nm 4) (aa (aM (nX e) (uV e) (hr.mono (by decide)) (aa (aN (aN (dS Q.ba.cl Q.cH (aF.nm 0)) (aF.nm 4)) (aF.nm 2)) (aa (aN (aN (dS Q.ba.cl Q.cH (aF.nm 0)) (aF.nm 5)) (aF.nm 2)) aj)) (aF.d 1) (aF.g 1)) (aa (aF.nm 5) aj)))))
  (az (aV gZ.nd (aF.l 3) (oq (aF.nm 0) Q.ba.cl (iw e).me (oO e) (hr.mono (by decide)) (iw e).bd (aa (aF.nm 1) (aa (aF.nm 2) aj)))))))))
  (au (dw (cN (jD hr) (bH _) (cK dc (aa (aF.nm 3) aj) B.c9 rfl cL (aF.d 0) (aF.g 0)) aq) (az (aR iH)) cU)
  (au (gM (oq (aF.nm 0) Q.ba.cl (lh e).me (xl e) (hr.mono (by decide)) (lh e).bd (aa (aF.nm 1) (aa (aN (aF.nm 3) aq) aj))))
  (au (dw (cN tZ (bH _) (aN (aN (dS Q.ba.cl Q.cH (aF.nm 0)) (aF.nm 1)) (aF.nm 2)) aq) (az (gM (oq (aF.nm 0) Q.ba.cl (jE e).me (uA e) (hr.mono (by decide)) (jE e).bd (aa (aF.nm 1) aj)))) cU)
  (az (aR iH)))))))) x9
theorem jF:MethAt (KX w.params) aL "lower_above" "Bench.lower_above" eH ["self","top","place"] 250 (Hd.fd eH "lower_above" "Bench.lower_above" dX 249):=Hd.Ln (by kernel_rfl) λ _ _ _ _ _ _ _ _ _=>rfl
theorem uz:a_ PW w (KX w.params) mg base cz 3 250 (Hd.fd eH "lower_above" "Bench.lower_above" dX 249) ["self","top","place"] (cD jG):=by
 have B:=Bt e;have Q:=Qt e;exact bE (N:=gD) (jF e).fn f9 (λ cdv A outer s H E hr=>(az (g6 (eC (cB.g 0) B.eK (aa (cB.nm 1) aj)) (df f9.nd) (az (gM (oq (cB.nm 0) Q.ba.cl (j0 e).me (uE e) (hr.mono (by decide)) (j0 e).bd (aa (cB.nm 3) (aa (bz (sQ hr rfl f9.gen f9.co) (aN (aN (dS Q.ba.cl Q.cH (cB.nm 0)) (cB.nm 3)) (cB.nm 2)) (aN (aN (dS Q.ba.cl Q.cH (cB.nm 0)) (cB.nm 1)) (cB.nm 2))) (aa (cB.nm 1) aj))))))))) tS
theorem tm:bD (KX w.params) mg "standing" "standing" kj ["rows"] 264 (Hd.fd kj "standing" "standing" dX 263):=Hd.oN e.X e.G (by kernel_rfl) λ _ _ _ _ _ _ _=>rfl
theorem yO:a_ PW w (KX w.params) mg base cz 5 264 (Hd.fd kj "standing" "standing" dX 263) ["rows"] (cD oY):=by
 have B:=Bt e;have Q:=Qt e
 exact bE (N:=pv) (tm e).fn ju (λ cdv A outer s H E hr=>(au (aV ju.nd (bg.l 1) (N6 ⟨Q.ba.T5,(je e).me.at_,(je e).me.fn,Q.ba.kp⟩ (xG e) (hr.mono (by decide)) (bg.g 0) Q.ba.mg (je e).bd (aa (bg.nm 0) aj) (bg.d 0)))
  (au (aV ju.nd (bg.l 2) aq)
  (au (g6 (eC (bg.g 2) B.eK (aa (cK dc (aa (aN (bg.nm 0) aq) aj) B.c9 rfl cL (bg.d 1) (bg.g 1)) aj)) (df ju.nd) (az (dw (eO (oq (bg.nm 1) Q.ba.cl (m6 e).me (zQ e) (hr.mono (by decide)) (m6 e).bd (aa (bg.nm 2) (aa (bg.nm 3) aj)))) (au (gM (oq (bg.nm 1) Q.ba.cl (jF e).me (uz e) (hr.mono (by decide)) (jF e).bd (aa (bg.nm 2) (aa (bg.nm 3) aj))))
  (az (PX ju.nd (bg.l 2) aq O7))) cU)))
  (au (aV ju.nd (bg.l 4) (aM (js e) (kW e) (hr.mono (by decide)) (aa (dS Q.ba.cl Q.cQ (bg.nm 1)) (aa (cK dc (aa (bg.nm 0) aj) B.c9 rfl cL (bg.d 1) (bg.g 1)) aj)) (bg.d 3) (bg.g 3)))
  (az (aR (ix (aa (aM (vi e) (Ak e) (hr.mono (by decide)) (aa (gK (dS Q.ba.cl Q.cH (bg.nm 1)) kB (fE (bg.nm 2))) aj) (bg.d 4) (bg.g 4)) (aa (aM (vi e) (Ak e) (hr.mono (by decide)) (aa (dS Q.ba.cl Q.fg (bg.nm 1)) aj) (bg.d 4) (bg.g 4)) (aa (bg.nm 4) aj))))))))))) D4
theorem uI:bD (KX w.params) mg "weighed" "weighed" l_ ["form","row"] 271 (Hd.fd l_ "weighed" "weighed" dX 270):=Hd.i6 e.X e.G (by kernel_rfl) λ _ _ _ _ _ _ _ _=>rfl
theorem Ae:a_ PW w (KX w.params) mg base cz 2 271 (Hd.fd l_ "weighed" "weighed" dX 270) ["form","row"] (cD qx):=by
 have B:=Bt e;have Q:=Qt e
 exact bE (N:=qX) (uI e).fn gb (λ cdv A outer s H E hr=>(au (aV gb.nd (bS.l 2) (yy aj))
  (au (aV gb.nd (bS.l 3) (eQ yG (aa (bS.nm 1) aj) B.pV rfl nv (bS.d 0) (bS.g 0)))
  (au (g6 (e9 (bS.nm 0)) (df gb.nd) (au (aV gb.nd (bS.l 5) (aM (gR e) (i7 e) (hr.mono (by decide)) (aa (bS.nm 4) aj) (bS.d 1) (bS.g 1)))
  (au (aV gb.nd (bS.l 6) (bz (sQ hr rfl gb.gen gb.co) (aN (bS.nm 3) (bS.nm 5)) (aN (bS.nm 4) (bS.nm 5))))
  (au (gM (jZ (bS.nm 2) (bS.nm 6)))
  (az (aV gb.nd (bS.l 3) (aM (pF e) (sj e) (hr.mono (by decide)) (aa (bS.nm 3) (aa (kn (bS.nm 6)) (aa (bS.nm 4) aj))) (bS.d 2) (bS.g 2))))))))
  (az (aR (ix (aa (eQ dB (aa (bS.nm 2) aj) B.dn rfl c6 (bS.d 3) (bS.g 3)) (aa (eQ dB (aa (bS.nm 3) aj) B.dn rfl c6 (bS.d 3) (bS.g 3)) aj))))))))) FO
theorem wa:bD (KX w.params) mg "falls" "falls" pG ["form","row"] 278 (Hd.fd pG "falls" "falls" dX 277):=Hd.i6 e.X e.G (by kernel_rfl) λ _ _ _ _ _ _ _ _=>rfl
theorem zf:a_ PW w (KX w.params) mg base cz 3 278 (Hd.fd pG "falls" "falls" dX 277) ["form","row"] (cD sI):=by
 have B:=Bt e;have Q:=Qt e;exact bE (N:=vJ) (wa e).fn Jf (λ cdv A outer s H E hr=>(az (aR (aN (aM (uI e) (Ae e) (hr.mono (by decide)) (aa (vT.nm 0) (aa (vT.nm 1) aj)) (vT.d 0) (vT.g 0)) aq)))) JV
theorem nH:bD (KX w.params) mg "parts_dot" "parts_dot" jA ["parts","row"] 285 (Hd.fd jA "parts_dot" "parts_dot" mO 284):=Hd.i6 e.X e.G (by kernel_rfl) λ _ _ _ _ _ _ _ _=>rfl
theorem rG:a_ PW w (KX w.params) mg base cz 4 285 (Hd.fd jA "parts_dot" "parts_dot" mO 284) ["parts","row"] (cD kK):=by
 have B:=Bt e;have Q:=Qt e
 exact bE (N:=nR) (nH e).fn mK (λ cdv A outer s H E hr=>(au (aV mK.nd (cW.l 2) (aM (pN e) (sO e) (hr.mono (by decide)) (aa aq aj) (cW.d 0) (cW.g 0)))
  (au (g6 (oX (cW.g 1) B.pd (aa (cW.nm 0) (aa (cW.nm 1) aj))) (jO rfl mK.nd) (az (aV mK.nd (cW.l 2) (aM (Hy e) (Og e) (hr.mono (by decide)) (aa (cW.nm 2) (aa (aM (ES e) (LX e) (hr.mono (by decide)) (aa (cW.nm 3) (aa (aM (pN e) (sO e) (hr.mono (by decide)) (aa (cW.nm 4) aj) (cW.d 0) (cW.g 0)) aj)) (cW.d 2) (cW.g 2)) aj)) (cW.d 3) (cW.g 3)))))
  (az (aR (cW.nm 2)))))) C7
theorem wz:bD (KX w.params) mg "bottom_at" "bottom_at" jy ["form","rest","place"] 292 (Hd.fd jy "bottom_at" "bottom_at" mO 291):=Hd.wB e.X e.G (by kernel_rfl) λ _ _ _ _ _ _ _ _ _=>rfl
theorem DV:a_ PW w (KX w.params) mg base cz 2 292 (Hd.fd jy "bottom_at" "bottom_at" mO 291) ["form","rest","place"] (cD rT):=by
 have B:=Bt e;have Q:=Qt e
 exact bE (N:=nK) (wz e).fn uM (λ cdv A outer s H E hr=>(au (g6 (e9 (eP.nm 0)) (df uM.nd) (az (dw (cN (jD hr) (bH _) (aM (gR e) (i7 e) (hr.mono (by decide)) (aa (eP.nm 3) aj) (eP.d 0) (eP.g 0)) (eP.nm 2)) (az (aR (aN (eP.nm 3) (eP.nm 2)))) cU)))
  (az (aR (bz dR aq (cK yr (aa (aN (eP.nm 1) (eP.nm 2)) aj) B.yI rfl vg (eP.d 1) (eP.g 1))))))) Dr
theorem rh:bD (KX w.params) mg "parts_against" "parts_against" fR ["form","rest"] 299 (Hd.fd fR "parts_against" "parts_against" mO 298):=Hd.i6 e.X e.G (by kernel_rfl) λ _ _ _ _ _ _ _ _=>rfl
theorem x4:a_ PW w (KX w.params) mg base cz 5 299 (Hd.fd fR "parts_against" "parts_against" mO 298) ["form","rest"] (cD mm):=by
 have B:=Bt e;have Q:=Qt e
 exact bE (N:=jT) (rh e).fn fA (λ cdv A outer s H E hr=>(au (aV fA.nd (ax.l 2) (aM (gR e) (i7 e) (hr.mono (by decide)) (aa (ax.nm 1) aj) (ax.d 0) (ax.g 0)))
  (au (aV fA.nd (ax.l 3) (bz PN (vZ (aa (aM (pN e) (sO e) (hr.mono (by decide)) (aa aq aj) (ax.d 1) (ax.g 1)) aj)) (cK dc (aa (ax.nm 1) aj) B.c9 rfl cL (ax.d 2) (ax.g 2))))
  (au (fB (aM (r_ e) (vd e) (hr.mono (by decide)) (aa aq (aa (aM (wz e) (DV e) (hr.mono (by decide)) (aa (ax.nm 0) (aa (ax.nm 1) (aa (ax.nm 2) aj))) (ax.d 3) (ax.g 3)) aj)) (ax.d 4) (ax.g 4)) (ax.nm 3) (ax.nm 2))
  (au (g6 (Kz (ax.g 5) B.eK (aa (bz rk (cK dc (aa (ax.nm 0) aj) B.c9 rfl cL (ax.d 2) (ax.g 2)) aq) (aa (kn aq) (aa (kn aq) aj)))) (df fA.nd) (au (aV fA.nd (ax.l 5) (aM (gR e) (i7 e) (hr.mono (by decide)) (aa (aN (ax.nm 0) (ax.nm 4)) aj) (ax.d 0) (ax.g 0)))
  (az (dw (cN tZ (bH _) (ax.nm 5) (ax.nm 2)) (au (aV fA.nd (ax.l 6) (aM (Er e) (Mu e) (hr.mono (by decide)) (aa (aM (pN e) (sO e) (hr.mono (by decide)) (aa aq aj) (ax.d 1) (ax.g 1)) (aa (aM (nH e) (rG e) (hr.mono (by decide)) (aa (ax.nm 3) (aa (aN (ax.nm 0) (ax.nm 4)) aj)) (ax.d 6) (ax.g 6)) aj)) (ax.d 7) (ax.g 7)))
  (az (fB (aM (GB e) (Ph e) (hr.mono (by decide)) (aa (ax.nm 6) (aa (aM (pN e) (sO e) (hr.mono (by decide)) (aa (aN (aN (ax.nm 0) (ax.nm 4)) (ax.nm 5)) aj) (ax.d 1) (ax.g 1)) aj)) (ax.d 8) (ax.g 8)) (ax.nm 3) (ax.nm 5)))) cU))))
  (az (aR (eQ dB (aa (ax.nm 3) aj) B.dn rfl c6 (ax.d 9) (ax.g 9))))))))) w6
theorem wC:bD (KX w.params) mg "are_parts" "are_parts" ij ["thing","many"] 304 (Hd.fd ij "are_parts" "are_parts" mO 303):=Hd.i6 e.X e.G (by kernel_rfl) λ _ _ _ _ _ _ _ _=>rfl
theorem DP:a_ PW w (KX w.params) mg base cz 5 304 (Hd.fd ij "are_parts" "are_parts" mO 303) ["thing","many"] (cD rO):=by
 have B:=Bt e;have Q:=Qt e;exact bE (N:=nV) (wC e).fn Cf (λ cdv A outer s H E hr=>(az (aR (rj (aM (iO e) (ki e) (hr.mono (by decide)) (aa (hZ.nm 0) (aa (hZ.nm 1) aj)) (hZ.d 0) (hZ.g 0)) (qW (cK (rp rfl) (aa (cV (Nc:=["each"]) (a7.look (ai ij) ["thing","many"] (by decide+kernel)) (e9 (hZ.nm 0)) (λ _ _ _ _=>(df (show(["each"]:List Str).Nodup by decide+kernel))) (λ _ _ _ _=>bY) (λ _ _ _ _=>(aM (AA e) (Hv e) (hr.mono (by decide)) (aa cu aj) (by decide+kernel) rfl)) bZ) aj) B.q_ rfl oy (hZ.d 1) (hZ.g 1))))))) Dx
theorem tQ:bD (KX w.params) mg "is_whole" "is_whole" kh ["one"] 311 (Hd.fd kh "is_whole" "is_whole" mO 310):=Hd.oN e.X e.G (by kernel_rfl) λ _ _ _ _ _ _ _=>rfl
theorem xT:a_ PW w (KX w.params) mg base cz 1 311 (Hd.fd kh "is_whole" "is_whole" mO 310) ["one"] (cD pq):=by
 have B:=Bt e;have Q:=Qt e;exact bE (N:=pw) (tQ e).fn DX (λ cdv A outer s H E hr=>(az (aR (jS (jD hr) (bH _) (aN (Ga.nm 0) aq) aq)))) D1
theorem uN:bD (KX w.params) mg "parts_show" "parts_show" gv ["rows","row","parts"] 316 (Hd.fd gv "parts_show" "parts_show" mO 315):=Hd.wB e.X e.G (by kernel_rfl) λ _ _ _ _ _ _ _ _ _=>rfl
theorem Ck:a_ PW w (KX w.params) mg base cz 6 316 (Hd.fd gv "parts_show" "parts_show" mO 315) ["rows","row","parts"] (cD pX):=by
 have B:=Bt e;have Q:=Qt e
 exact bE (N:=mh) (uN e).fn A5 (λ cdv A outer s H E hr=>(au (dw (k9 (nN (fK (eO (aM (wC e) (DP e) (hr.mono (by decide)) (aa (c5.nm 2) (aa (cK dc (aa (c5.nm 1) aj) B.c9 rfl cL (c5.d 0) (c5.g 0)) aj)) (c5.d 1) (c5.g 1)))) (oz (eO (aM (tQ e) (xT e) (hr.mono (by decide)) (aa (aM (nH e) (rG e) (hr.mono (by decide)) (aa (c5.nm 2) (aa (c5.nm 1) aj)) (c5.d 2) (c5.g 2)) aj) (c5.d 3) (c5.g 3)))))) (az (aR iH)) cU)
  (az (aR (cK (rp rfl) (aa (cV (Nc:=["each","parts"]) (a7.look (ai gv) ["rows","row","parts"] (by decide+kernel)) (e9 (c5.nm 0)) (λ _ _ _ _=>(df (show(["each","parts"]:List Str).Nodup by decide+kernel))) (λ _ _ _ _=>bY) (λ _ _ _ _=>(aM (tQ e) (xT e) (hr.mono (by decide)) (aa (aM (nH e) (rG e) (hr.mono (by decide)) (aa cu (aa cu aj)) (by decide+kernel) rfl) aj) (by decide+kernel) rfl)) bZ) aj) B.q_ rfl oy (c5.d 4) (c5.g 4)))))) AS
theorem su:bD (KX w.params) mg "steps_behind" "steps_behind" gq ["turn","many"] 323 (Hd.fd gq "steps_behind" "steps_behind" Eo 322):=Hd.i6 e.X e.G (by kernel_rfl) λ _ _ _ _ _ _ _ _=>rfl
theorem zg:a_ PW w (KX w.params) mg base cz 6 323 (Hd.fd gq "steps_behind" "steps_behind" Eo 322) ["turn","many"] (cD nh):=by
 have B:=Bt e;have Q:=Qt e;exact bE (N:=km) (su e).fn yS (λ cdv A outer s H E hr=>(az (aR (Fv (cN tZ (bH _) (eV.nm 1) (cK dc (aa (eV.nm 0) aj) B.c9 rfl cL (eV.d 0) (eV.g 0))) (aN (aM (tm e) (yO e) (hr.mono (by decide)) (aa (gK (eV.nm 0) (fE (eV.nm 1)) kB) aj) (eV.d 1) (eV.g 1)) aq) (ix aj))))) xZ
theorem uK:bD (KX w.params) mg "answers" "answers" ma ["rows","due"] 330 (Hd.fd ma "answers" "answers" Eo 329):=Hd.i6 e.X e.G (by kernel_rfl) λ _ _ _ _ _ _ _ _=>rfl
theorem AD:a_ PW w (KX w.params) mg base cz 7 330 (Hd.fd ma "answers" "answers" Eo 329) ["rows","due"] (cD qY):=by
 have B:=Bt e;have Q:=Qt e
 exact bE (N:=qB) (uK e).fn g7 (λ cdv A outer s H E hr=>(au (aV g7.nd (aT.l 2) (cK dc (aa (aN (aT.nm 0) aq) aj) B.c9 rfl cL (aT.d 0) (aT.g 0)))
  (au (aV g7.nd (aT.l 3) (aM (tm e) (yO e) (hr.mono (by decide)) (aa (aM (js e) (kW e) (hr.mono (by decide)) (aa (aT.nm 0) (aa (aT.nm 2) aj)) (aT.d 1) (aT.g 1)) aj) (aT.d 2) (aT.g 2)))
  (au (aV g7.nd (aT.l 4) (aN (aT.nm 3) aq))
  (au (aV g7.nd (aT.l 5) (aN (aT.nm 3) aq))
  (au (aV g7.nd (aT.l 6) (aM (uI e) (Ae e) (hr.mono (by decide)) (aa (aT.nm 4) (aa (aT.nm 1) aj)) (aT.d 3) (aT.g 3)))
  (au (dw (cN C3 (bH _) (aM (gR e) (i7 e) (hr.mono (by decide)) (aa (aN (aT.nm 6) aq) aj) (aT.d 4) (aT.g 4)) oU) (az (aR (ix (aa vW (aa (aM (rh e) (x4 e) (hr.mono (by decide)) (aa (aT.nm 4) (aa (aN (aT.nm 6) aq) aj)) (aT.d 5) (aT.g 5)) aj))))) cU)
  (au (aV g7.nd (aT.l 7) (aM (su e) (zg e) (hr.mono (by decide)) (aa (aT.nm 5) (aa (cK dc (aa (aT.nm 4) aj) B.c9 rfl cL (aT.d 0) (aT.g 0)) aj)) (aT.d 6) (aT.g 6)))
  (au (aV g7.nd (aT.l 8) (aM (wa e) (zf e) (hr.mono (by decide)) (aa (aT.nm 7) (aa (aM (w_ e) (BM e) (hr.mono (by decide)) (aa (aN (aT.nm 6) aq) (aa (gK (aT.nm 5) kB (fE (cK dc (aa (aT.nm 4) aj) B.c9 rfl cL (aT.d 0) (aT.g 0)))) (aa (aT.nm 2) aj))) (aT.d 7) (aT.g 7)) aj)) (aT.d 8) (aT.g 8)))
  (az (aR (ix (aa vW (aa (aT.nm 8) (aa (aT.nm 7) (aa (aT.nm 5) (aa (aN (aT.nm 3) aq) aj))))))))))))))))) F0
theorem rF:bD (KX w.params) mg "is_answer" "is_answer" h8 ["rows","due","row"] 335 (Hd.fd h8 "is_answer" "is_answer" qc 334):=Hd.wB e.X e.G (by kernel_rfl) λ _ _ _ _ _ _ _ _ _=>rfl
theorem wX:a_ PW w (KX w.params) mg base cz 2 335 (Hd.fd h8 "is_answer" "is_answer" qc 334) ["rows","due","row"] (cD nW):=by
 have B:=Bt e;have Q:=Qt e;exact bE (N:=nO) (rF e).fn CF (λ cdv A outer s H E hr=>(az (aR (cK (rp rfl) (aa (cV (Nc:=["each","number","row"]) (a7.look (ai h8) ["rows","due","row"] (by decide+kernel)) (oX (kP.g 0) B.pd (aa (kP.nm 0) (aa (kP.nm 1) aj))) (λ _ _ _ _=>(jO rfl (show(["each","number","row"]:List Str).Nodup by decide+kernel))) (λ _ _ _ _=>bY) (λ _ _ _ _=>(jS (jD hr) (bH _) (aM (La e) (Qw e) (hr.mono (by decide)) (aa cu (aa cu aj)) (by decide+kernel) rfl) cu)) ni) aj) B.q_ rfl oy (kP.d 1) (kP.g 1))))) BO
theorem uQ:bD (KX w.params) mg "steps_show" "steps_show" gz ["rows","steps"] 340 (Hd.fd gz "steps_show" "steps_show" qc 339):=Hd.i6 e.X e.G (by kernel_rfl) λ _ _ _ _ _ _ _ _=>rfl
theorem Dq:a_ PW w (KX w.params) mg base cz 5 340 (Hd.fd gz "steps_show" "steps_show" qc 339) ["rows","steps"] (cD qg):=by
 have B:=Bt e;have Q:=Qt e
 exact bE (N:=mD) (uQ e).fn uk (λ cdv A outer s H E hr=>(au (dw (k9 (nN (fK (eO (aM (nY e) (qL e) (hr.mono (by decide)) (aa (cO.nm 1) (aa oU (aa (cK dc (aa (aN (cO.nm 0) aq) aj) B.c9 rfl cL (cO.d 0) (cO.g 0)) aj))) (cO.d 1) (cO.g 1)))) (oz (fK (eO (aM (oF e) (ur e) (hr.mono (by decide)) (aa (cO.nm 1) aj) (cO.d 2) (cO.g 2))))))) (az (aR iH)) cU)
  (au (aV uk.nd (cO.l 2) (bz dR (ix (aa aq aj)) (cK dc (aa (cO.nm 0) aj) B.c9 rfl cL (cO.d 0) (cO.g 0))))
  (az (aR (cK (rp rfl) (aa (cV (Nc:=["step","rows","noughts"]) (a7.look (ai gz) ["rows","steps","noughts"] (by decide+kernel)) (e9 (cO.nm 1)) (λ _ _ _ _=>(df (show(["step","rows","noughts"]:List Str).Nodup by decide+kernel))) (λ _ _ _ _=>bY) (λ _ _ _ _=>(aM (rF e) (wX e) (hr.mono (by decide)) (aa cu (aa cu (aa cu aj))) (by decide+kernel) rfl)) bZ) aj) B.q_ rfl oy (cO.d 3) (cO.g 3))))))) AW
theorem r8:bD (KX w.params) mg "answer_shows" "answer_shows" gj ["rows","due","answer","steps"] 347 (Hd.fd gj "answer_shows" "answer_shows" qc 346):=Hd.So e.X e.G (by kernel_rfl) λ _ _ _ _ _ _ _ _ _ _=>rfl
theorem zJ:a_ PW w (KX w.params) mg base cz 4 347 (Hd.fd gj "answer_shows" "answer_shows" qc 346) ["rows","due","answer","steps"] (cD nq):=by
 have B:=Bt e;have Q:=Qt e
 exact bE (N:=ku) (r8 e).fn yJ (λ cdv A outer s H E hr=>(au (dw (k9 (nN (fK (eO (aM (kQ e) (oJ e) (hr.mono (by decide)) (aa (bX.nm 2) (aa (cK dc (aa (aN (bX.nm 0) aq) aj) B.c9 rfl cL (bX.d 0) (bX.g 0)) aj)) (bX.d 1) (bX.g 1)))) (oz (fK (eO (aM (rF e) (wX e) (hr.mono (by decide)) (aa (bX.nm 0) (aa (bX.nm 1) (aa (bX.nm 2) aj))) (bX.d 2) (bX.g 2))))))) (az (aR iH)) cU)
  (az (aR (jS (jD hr) (bH _) (aM (wa e) (zf e) (hr.mono (by decide)) (aa (bX.nm 3) (aa (bX.nm 2) aj)) (bX.d 3) (bX.g 3)) (eQ dB (aa (bX.nm 2) aj) B.dn rfl c6 (bX.d 4) (bX.g 4))))))) y9
theorem vh:bD (KX w.params) mg "turn_shows" "turn_shows" gy ["rows","steps","turn","back"] 352 (Hd.fd gy "turn_shows" "turn_shows" qc 351):=Hd.So e.X e.G (by kernel_rfl) λ _ _ _ _ _ _ _ _ _ _=>rfl
theorem CH:a_ PW w (KX w.params) mg base cz 7 352 (Hd.fd gy "turn_shows" "turn_shows" qc 351) ["rows","steps","turn","back"] (cD pY):=by
 have B:=Bt e;have Q:=Qt e
 exact bE (N:=mx) (vh e).fn oH (λ cdv A outer s H E hr=>(au (aV oH.nd (bf.l 4) (cK dc (aa (aN (bf.nm 0) aq) aj) B.c9 rfl cL (bf.d 0) (bf.g 0)))
  (au (dw (fK (eO (aM (u4 e) (Cy e) (hr.mono (by decide)) (aa (bf.nm 2) (aa (bf.nm 3) (aa (bf.nm 4) aj))) (bf.d 1) (bf.g 1)))) (az (aR iH)) cU)
  (au (aV oH.nd (bf.l 5) (aM (qZ e) (yx e) (hr.mono (by decide)) (aa (aM (vf e) (AH e) (hr.mono (by decide)) (aa (bf.nm 2) (aa (aM (js e) (kW e) (hr.mono (by decide)) (aa (bf.nm 0) (aa (bf.nm 4) aj)) (bf.d 2) (bf.g 2)) aj)) (bf.d 3) (bf.g 3)) aj) (bf.d 4) (bf.g 4)))
  (au (dw (cN Kk (bH _) (bf.nm 5) oU) (az (aR iH)) cU)
  (az (aR (cK (rp rfl) (aa (cV (Nc:=["row","steps"]) (a7.look (ai gy) ["rows","steps","turn","back","wide","head"] (by decide+kernel)) (e9 (gK (bf.nm 2) (fE (cK dc (aa (bf.nm 5) aj) B.c9 rfl cL (bf.d 0) (bf.g 0))) kB)) (λ _ _ _ _=>(df (show(["row","steps"]:List Str).Nodup by decide+kernel))) (λ _ _ _ _=>bY) (λ _ _ _ _=>(jS Kk (bH _) (aM (gR e) (i7 e) (hr.mono (by decide)) (aa (aM (wa e) (zf e) (hr.mono (by decide)) (aa cu (aa cu aj)) (by decide+kernel) rfl) aj) (by decide+kernel) rfl) oU)) bZ) aj) B.q_ rfl oy (bf.d 5) (bf.g 5))))))))) A8
theorem jQ:bD (KX w.params) mg "shows_answers" "shows_answers" fP ["rows","due","told"] 359 (Hd.fd fP "shows_answers" "shows_answers" qc 358):=Hd.wB e.X e.G (by kernel_rfl) λ _ _ _ _ _ _ _ _ _=>rfl
theorem mE:a_ PW w (KX w.params) mg base cz 8 359 (Hd.fd fP "shows_answers" "shows_answers" qc 358) ["rows","due","told"] (cD gX):=by
 have B:=Bt e;have Q:=Qt e
 exact bE (N:=jP) (jQ e).fn xo (λ cdv A outer s H E hr=>(au (dw (eO (aM (iO e) (ki e) (hr.mono (by decide)) (aa (aK.nm 2) (aa aq aj)) (aK.d 0) (aK.g 0))) (az (aR (rj (jS (jD hr) (bH _) (aN (aK.nm 2) aq) vW) (qW (aM (uN e) (Ck e) (hr.mono (by decide)) (aa (aM (js e) (kW e) (hr.mono (by decide)) (aa (aK.nm 0) (aa (cK dc (aa (aN (aK.nm 0) aq) aj) B.c9 rfl cL (aK.d 1) (aK.g 1)) aj)) (aK.d 2) (aK.g 2)) (aa (aK.nm 1) (aa (aN (aK.nm 2) aq) aj))) (aK.d 3) (aK.g 3)))))) cU)
  (au (dw (k9 (nN (fK (eO (aM (iO e) (ki e) (hr.mono (by decide)) (aa (aK.nm 2) (aa aq aj)) (aK.d 0) (aK.g 0)))) (oz (cN (FQ hr) (bH _) (aN (aK.nm 2) aq) vW)))) (az (aR iH)) cU)
  (au (dw (k9 (nN (fK (eO (aM (uQ e) (Dq e) (hr.mono (by decide)) (aa (aK.nm 0) (aa (aN (aK.nm 2) aq) aj)) (aK.d 4) (aK.g 4)))) (oz (fK (eO (aM (r8 e) (zJ e) (hr.mono (by decide)) (aa (aK.nm 0) (aa (aK.nm 1) (aa (aN (aK.nm 2) aq) (aa (aN (aK.nm 2) aq) aj)))) (aK.d 5) (aK.g 5))))))) (az (aR iH)) cU)
  (az (aR (aM (vh e) (CH e) (hr.mono (by decide)) (aa (aK.nm 0) (aa (aN (aK.nm 2) aq) (aa (aN (aK.nm 2) aq) (aa (aN (aK.nm 2) aq) aj)))) (aK.d 6) (aK.g 6)))))))) xy
theorem yA:bD (KX w.params) mg "_law_hand" "_law_hand" ky ["_law_script"] 366 (Hd.fd ky "_law_hand" "_law_hand" jn 365):=Hd.oN e.X e.G (by kernel_rfl) λ _ _ _ _ _ _ _=>rfl
theorem Gp:a_ PW w (KX w.params) mg base cz 1 366 (Hd.fd ky "_law_hand" "_law_hand" jn 365) ["_law_script"] (cD tf):=by
 have B:=Bt e;have Q:=Qt e
 exact bE (N:=o3) (yA e).fn rE (λ cdv A outer s H E hr=>(au (aV rE.nd (fh.l 1) (bz fw (gK (fh.nm 0) kB (fE aq)) (vZ (aa aq aj))))
  (au (aV rE.nd (fh.l 2) (cK yr (aa (aN (fh.nm 1) aq) aj) B.yI rfl vg (fh.d 0) (fh.g 0)))
  (az (aR (yy (aa (fh.nm 1) (aa aq (aa (bz dR (fh.nm 2) (eQ Bv (aa (jS SD (bH _) (fh.nm 2) (bz RP aq aq)) aj) B.yu rfl uS (fh.d 1) (fh.g 1))) aj))))))))) DZ
theorem cR:bD (KX w.params) mg "_law_take" "_law_take" kE ["_law_hand_here","_law_many"] 373 (Hd.fd kE "_law_take" "_law_take" jn 372):=Hd.i6 e.X e.G (by kernel_rfl) λ _ _ _ _ _ _ _ _=>rfl
theorem c7:a_ PW w (KX w.params) mg base cz 1 373 (Hd.fd kE "_law_take" "_law_take" jn 372) ["_law_hand_here","_law_many"] (cD cv):=by
 have B:=Bt e;have Q:=Qt e
 exact bE (N:=o8) (cR e).fn nU (λ cdv A outer s H E hr=>(au (dw (cN Ci (bH _) (aN (cA.nm 0) aq) aq) (au (aV nU.nd (cA.l 2) (bz pk (aN (cA.nm 0) aq) (cA.nm 1)))
  (au (fB (bz HC (aN (cA.nm 0) aq) (cA.nm 1)) (cA.nm 0) aq)
  (az (aR (cA.nm 2))))) cU)
  (au (fB (bz fw (aN (cA.nm 0) aq) aq) (cA.nm 0) aq)
  (au (aV nU.nd (cA.l 3) (aN (aN (cA.nm 0) aq) (bz pk (aN (cA.nm 0) aq) (cK dc (aa (aN (cA.nm 0) aq) aj) B.c9 rfl cL (cA.d 0) (cA.g 0)))))
  (au (aV nU.nd (cA.l 4) (bz pk (bz dR (bz fw (bz fw (bz pk (cA.nm 3) aq) (bz dR aq (aN (cA.nm 0) aq))) aq) aq) aq))
  (az (aR (bz pk (bz HC (bz pk (bz dR (cA.nm 4) (bz fw (bz pk (cA.nm 4) aq) aq)) aq) aq) (cA.nm 1))))))))) DU
theorem rf:bD (KX w.params) mg "_law_dot" "_law_dot" j5 ["_law_one","_law_other"] 378 (Hd.fd j5 "_law_dot" "_law_dot" jn 377):=Hd.i6 e.X e.G (by kernel_rfl) λ _ _ _ _ _ _ _ _=>rfl
theorem vo:a_ PW w (KX w.params) mg base cz 1 378 (Hd.fd j5 "_law_dot" "_law_dot" jn 377) ["_law_one","_law_other"] (cD oa):=by
 have B:=Bt e;have Q:=Qt e;exact bE (N:=qV) (rf e).fn Gi (λ cdv A outer s H E hr=>(az (aR (cK (Lr rfl) (aa (cV (Nc:=["_law_a","_law_b"]) (a7.look (ai j5) ["_law_one","_law_other"] (by decide+kernel)) (oX (ot.g 0) B.pd (aa (ot.nm 0) (aa (ot.nm 1) aj))) (λ _ _ _ _=>(jO rfl (show(["_law_a","_law_b"]:List Str).Nodup by decide+kernel))) (λ _ _ _ _=>bY) (λ _ _ _ _=>(bz dR cu cu)) ni) aj) B.Ls rfl HP (ot.d 1) (ot.g 1))))) Fd
theorem xX:bD (KX w.params) mg "_law_over" "_law_over" jb ["_law_rows"] 388 (Hd.fd jb "_law_over" "_law_over" jn 387):=Hd.oN e.X e.G (by kernel_rfl) λ _ _ _ _ _ _ _=>rfl
theorem F4:a_ PW w (KX w.params) mg base cz 1 388 (Hd.fd jb "_law_over" "_law_over" jn 387) ["_law_rows"] (cD uh):=by
 have B:=Bt e;have Q:=Qt e;exact bE (N:=pe) (xX e).fn D2 (λ cdv A outer s H E hr=>(az (aR (cV (Nc:=["_law_k","_law_rows"]) (a7.look (ai jb) ["_law_rows"] (by decide+kernel)) (eC (o4.g 1) B.eK (aa (cK dc (aa (aN (o4.nm 0) aq) aj) B.c9 rfl cL (o4.d 0) (o4.g 0)) aj)) (λ _ _ _ _=>(df (show(["_law_k","_law_rows"]:List Str).Nodup by decide+kernel))) (λ _ _ _ _=>bY) (λ _ _ _ _=>(eQ dB (aa (cV (Nc:=["_law_row","_law_k"]) (a7.Fp (by decide+kernel)) (e9 cu) (λ _ _ _ _=>(df (show(["_law_row","_law_k"]:List Str).Nodup by decide+kernel))) (λ _ _ _ _=>bY) (λ _ _ _ _=>(aN cu cu)) bZ) aj) B.dn rfl c6 (by decide+kernel) rfl)) bZ)))) DN
theorem ye:bD (KX w.params) mg "_law_turn" "_law_turn" gc ["_law_hand_here","_law_size"] 393 (Hd.fd gc "_law_turn" "_law_turn" jn 392):=Hd.i6 e.X e.G (by kernel_rfl) λ _ _ _ _ _ _ _ _=>rfl
theorem Gq:a_ PW w (KX w.params) mg base cz 2 393 (Hd.fd gc "_law_turn" "_law_turn" jn 392) ["_law_hand_here","_law_size"] (cD s_):=by
 have B:=Bt e;have Q:=Qt e
 exact bE (N:=oV) (ye e).fn gh (λ cdv A outer s H E hr=>(au (CD gh.nd (aP.l 2) (Nc:=["_law_i","_law_size"]) (a7.look (ai gc) ["_law_hand_here","_law_size","_law_turn_here","_law_back","_law_k","_law_i","_law_j","_law_many","_law_row"] (by decide+kernel)) (eC (aP.g 0) B.eK (aa (aP.nm 1) aj)) (λ _ _ _ _=>(df (show(["_law_i","_law_size"]:List Str).Nodup by decide+kernel))) (λ _ _ _ _=>bY) (λ _ _ _ _=>(cV (Nc:=["_law_j","_law_i"]) (a7.Fp (by decide+kernel)) (eC rfl B.eK (aa cu aj)) (λ _ _ _ _=>(df (show(["_law_j","_law_i"]:List Str).Nodup by decide+kernel))) (λ _ _ _ _=>bY) (λ _ _ _ _=>(eQ Bv (aa (jS (jD hr) (bH _) cu cu) aj) B.yu rfl uS (by decide+kernel) rfl)) bZ)) bZ)
  (au (CD gh.nd (aP.l 3) (Nc:=["_law_i","_law_size"]) (a7.look (ai gc) ["_law_hand_here","_law_size","_law_turn_here","_law_back","_law_k","_law_i","_law_j","_law_many","_law_row"] (by decide+kernel)) (eC (aP.g 0) B.eK (aa (aP.nm 1) aj)) (λ _ _ _ _=>(df (show(["_law_i","_law_size"]:List Str).Nodup by decide+kernel))) (λ _ _ _ _=>bY) (λ _ _ _ _=>(v_ (Nc:=["_law_j","_law_i"]) (a7.Fp (by decide+kernel)) (eC rfl B.eK (aa cu aj)) (λ _ _ _ _=>(df (show(["_law_j","_law_i"]:List Str).Nodup by decide+kernel))) (λ _ _ _ _=>bY) (λ _ _ _ _=>(eQ Bv (aa (jS (jD hr) (bH _) cu cu) aj) B.yu rfl uS (by decide+kernel) rfl)) bZ)) bZ)
  (au (g6 (eC (aP.g 0) B.eK (aa (bz dR (bz fw (aP.nm 1) (aM (cR e) (c7 e) (hr.mono (by decide)) (aa (aP.nm 0) (aa aq aj)) (aP.d 1) (aP.g 1))) (eQ Bv (aa (jS Ci (bH _) (aP.nm 1) aq) aj) B.yu rfl uS (aP.d 2) (aP.g 2))) aj)) (df gh.nd) (au (aV gh.nd (aP.l 5) (aM (cR e) (c7 e) (hr.mono (by decide)) (aa (aP.nm 0) (aa (aP.nm 1) aj)) (aP.d 1) (aP.g 1)))
  (au (aV gh.nd (aP.l 6) (bz pk (bz fw (bz fw (aP.nm 5) aq) (aM (cR e) (c7 e) (hr.mono (by decide)) (aa (aP.nm 0) (aa (bz rk (aP.nm 1) aq) aj)) (aP.d 1) (aP.g 1))) (aP.nm 1)))
  (au (aV gh.nd (aP.l 7) (aN (vZ (aa (kn aq) (aa (kn aq) (aa aq (aa aq aj))))) (aM (cR e) (c7 e) (hr.mono (by decide)) (aa (aP.nm 0) (aa aq aj)) (aP.d 1) (aP.g 1))))
  (au (Ie (cV (Nc:=["_law_a","_law_b","_law_many"]) (a7.look (ai gc) ["_law_hand_here","_law_size","_law_turn_here","_law_back","_law_k","_law_i","_law_j","_law_many","_law_row"] (by decide+kernel)) (oX (aP.g 3) B.pd (aa (aN (aP.nm 2) (aP.nm 5)) (aa (aN (aP.nm 2) (aP.nm 6)) aj))) (λ _ _ _ _=>(jO rfl (show(["_law_a","_law_b","_law_many"]:List Str).Nodup by decide+kernel))) (λ _ _ _ _=>bY) (λ _ _ _ _=>(bz fw cu (bz dR cu cu))) ni) (aP.nm 2) (aP.nm 5))
  (az (g6 (e9 (aP.nm 3)) (df gh.nd) (az (fB (bz rk (aN (aP.nm 8) (aP.nm 6)) (bz dR (aP.nm 7) (aN (aP.nm 8) (aP.nm 5)))) (aP.nm 8) (aP.nm 6))))))))))
  (az (Ov (Mb (aR (ix (aa (aP.nm 2) (aa (aP.nm 3) aj))))))))))) DH
theorem Ay:bD (KX w.params) mg "_law_any" "_law_any" d8 ["_law_hand_here"] 398 (Hd.fd d8 "_law_any" "_law_any" jn 397):=Hd.oN e.X e.G (by kernel_rfl) λ _ _ _ _ _ _ _=>rfl
theorem HK:a_ PW w (KX w.params) mg base cz 2 398 (Hd.fd d8 "_law_any" "_law_any" jn 397) ["_law_hand_here"] (cD vx):=by
 have B:=Bt e;have Q:=Qt e
 exact bE (N:=qR) (Ay e).fn fi (λ cdv A outer s H E hr=>(au (BJ fi.nd (by decide) (show(ai d8).names.lookup ("_law_size":Str)=some .local by decide+kernel) (show(ai d8).names.lookup ("_law_many":Str)=some .local by decide+kernel) (aa (bz fw aq (aM (cR e) (c7 e) (hr.mono (by decide)) (aa (aI.nm 0) (aa aq aj)) (aI.d 0) (aI.g 0))) (aa (bz fw aq (aM (cR e) (c7 e) (hr.mono (by decide)) (aa (aI.nm 0) (aa aq aj)) (aI.d 0) (aI.g 0))) aj)))
  (au (dw (cN (jD hr) (bH _) (aM (cR e) (c7 e) (hr.mono (by decide)) (aa (aI.nm 0) (aa aq aj)) (aI.d 0) (aI.g 0)) aq) (az (BJ fi.nd (by decide) (show(ai d8).names.lookup ("_law_size":Str)=some .local by decide+kernel) (show(ai d8).names.lookup ("_law_many":Str)=some .local by decide+kernel) (aa (bz fw aq (aM (cR e) (c7 e) (hr.mono (by decide)) (aa (aI.nm 0) (aa aq aj)) (aI.d 0) (aI.g 0))) (aa (bz fw aq (aM (cR e) (c7 e) (hr.mono (by decide)) (aa (aI.nm 0) (aa aq aj)) (aI.d 0) (aI.g 0))) aj)))) cU)
  (au (aV fi.nd (aI.l 3) (aN (vZ (aa aq (aa aq (aa aq aj)))) (aM (cR e) (c7 e) (hr.mono (by decide)) (aa (aI.nm 0) (aa aq aj)) (aI.d 0) (aI.g 0))))
  (au (aV fi.nd (aI.l 4) (yy aj))
  (au (g6 (eC (aI.g 1) B.eK (aa (aI.nm 2) aj)) (df fi.nd) (au (aV fi.nd (aI.l 6) (eQ dB (aa (cV (Nc:=["_law_j","_law_hand_here","_law_most"]) (a7.look (ai d8) ["_law_hand_here","_law_size","_law_many","_law_most","_law_rows","_law_k","_law_row","_law_due","_law_numbers"] (by decide+kernel)) (eC (aI.g 1) B.eK (aa (aI.nm 1) aj)) (λ _ _ _ _=>(df (show(["_law_j","_law_hand_here","_law_most"]:List Str).Nodup by decide+kernel))) (λ _ _ _ _=>bY) (λ _ _ _ _=>(bz rk (aM (cR e) (c7 e) (hr.mono (by decide)) (aa cu (aa (bz fw (bz dR aq cu) aq) aj)) (by decide+kernel) rfl) cu)) bZ) aj) B.dn rfl c6 (aI.d 2) (aI.g 2)))
  (au (dw (k9 (yc (cN Ci (bH _) (aI.nm 5) aq) (vO (cN (jD hr) (bH _) (aM (cR e) (c7 e) (hr.mono (by decide)) (aa (aI.nm 0) (aa aq aj)) (aI.d 0) (aI.g 0)) aq)))) (az (aV fi.nd (aI.l 6) (eQ dB (aa (cV (Nc:=["_law_a","_law_b"]) (a7.look (ai d8) ["_law_hand_here","_law_size","_law_many","_law_most","_law_rows","_law_k","_law_row","_law_due","_law_numbers"] (by decide+kernel)) (oX (aI.g 3) B.pd (aa (aN (aI.nm 4) aq) (aa (aN (aI.nm 4) (kn aq)) aj))) (λ _ _ _ _=>(jO rfl (show(["_law_a","_law_b"]:List Str).Nodup by decide+kernel))) (λ _ _ _ _=>bY) (λ _ _ _ _=>(bz rk (bz dR aq cu) cu)) ni) aj) B.dn rfl c6 (aI.d 2) (aI.g 2)))) cU)
  (az (gM (jZ (aI.nm 4) (aI.nm 6)))))))
  (au (aV fi.nd (aI.l 7) (eQ dB (aa (cV (Nc:=["_law_k","_law_hand_here","_law_most"]) (a7.look (ai d8) ["_law_hand_here","_law_size","_law_many","_law_most","_law_rows","_law_k","_law_row","_law_due","_law_numbers"] (by decide+kernel)) (eC (aI.g 1) B.eK (aa (aI.nm 2) aj)) (λ _ _ _ _=>(df (show(["_law_k","_law_hand_here","_law_most"]:List Str).Nodup by decide+kernel))) (λ _ _ _ _=>bY) (λ _ _ _ _=>(bz rk (aM (cR e) (c7 e) (hr.mono (by decide)) (aa cu (aa (bz fw (bz dR aq cu) aq) aj)) (by decide+kernel) rfl) cu)) bZ) aj) B.dn rfl c6 (aI.d 2) (aI.g 2)))
  (au (dw (cN (jD hr) (bH _) (aM (cR e) (c7 e) (hr.mono (by decide)) (aa (aI.nm 0) (aa aq aj)) (aI.d 0) (aI.g 0)) aq) (au (ML fi.nd (aI.l 8) (cV (Nc:=["_law_j","_law_hand_here"]) (a7.look (ai d8) ["_law_hand_here","_law_size","_law_many","_law_most","_law_rows","_law_k","_law_row","_law_due","_law_numbers"] (by decide+kernel)) (eC (aI.g 1) B.eK (aa (aI.nm 1) aj)) (λ _ _ _ _=>(df (show(["_law_j","_law_hand_here"]:List Str).Nodup by decide+kernel))) (λ _ _ _ _=>bY) (λ _ _ _ _=>(bz rk (aM (cR e) (c7 e) (hr.mono (by decide)) (aa cu (aa aq aj)) (by decide+kernel) rfl) aq)) bZ))
  (az (aV fi.nd (aI.l 7) (eQ dB (aa (cV (Nc:=["_law_row","_law_numbers"]) (a7.look (ai d8) ["_law_hand_here","_law_size","_law_many","_law_most","_law_rows","_law_k","_law_row","_law_due","_law_numbers"] (by decide+kernel)) (e9 (aI.nm 4)) (λ _ _ _ _=>(df (show(["_law_row","_law_numbers"]:List Str).Nodup by decide+kernel))) (λ _ _ _ _=>bY) (λ _ _ _ _=>(aM (rf e) (vo e) (hr.mono (by decide)) (aa cu (aa cu aj)) (by decide+kernel) rfl)) bZ) aj) B.dn rfl c6 (aI.d 2) (aI.g 2))))) cU)
  (az (aR (ix (aa (eQ dB (aa (aI.nm 4) aj) B.dn rfl c6 (aI.d 2) (aI.g 2)) (aa (aI.nm 7) aj))))))))))))) FV
theorem qP:bD (KX w.params) mg "_law_otherwise" "_law_otherwise" cX ["_law_hand_here","_law_rows","_law_due"] 403 (Hd.fd cX "_law_otherwise" "_law_otherwise" jn 402):=Hd.wB e.X e.G (by kernel_rfl) λ _ _ _ _ _ _ _ _ _=>rfl
theorem y8:a_ PW w (KX w.params) mg base cz 3 403 (Hd.fd cX "_law_otherwise" "_law_otherwise" jn 402) ["_law_hand_here","_law_rows","_law_due"] (cD mw):=by
 have B:=Bt e;have Q:=Qt e
 exact bE (N:=jU) (qP e).fn d7 (λ cdv A outer s H E hr=>(au (BR (aM (ye e) (Gq e) (hr.mono (by decide)) (aa (ak.nm 0) (aa (cK dc (aa (ak.nm 1) aj) B.c9 rfl cL (ak.d 0) (ak.g 0)) aj)) (ak.d 1) (ak.g 1)) (jO rfl d7.nd))
  (au (aV d7.nd (ak.l 5) (yy aj))
  (au (g6 (e9 (ak.nm 3)) (df d7.nd) (au (aV d7.nd (ak.l 7) (eQ dB (aa (cV (Nc:=["_law_column","_law_weights"]) (a7.look (ai cX) ["_law_hand_here","_law_rows","_law_due","_law_turn_here","_law_back","_law_made","_law_weights","_law_row","_law_one","_law_other","_law_left","_law_found"] (by decide+kernel)) (e9 (aM (xX e) (F4 e) (hr.mono (by decide)) (aa (ak.nm 1) aj) (ak.d 2) (ak.g 2))) (λ _ _ _ _=>(df (show(["_law_column","_law_weights"]:List Str).Nodup by decide+kernel))) (λ _ _ _ _=>bY) (λ _ _ _ _=>(aM (rf e) (vo e) (hr.mono (by decide)) (aa cu (aa cu aj)) (by decide+kernel) rfl)) bZ) aj) B.dn rfl c6 (ak.d 3) (ak.g 3)))
  (az (gM (jZ (ak.nm 5) (ix (aa (ak.nm 7) (aa (aM (rf e) (vo e) (hr.mono (by decide)) (aa (ak.nm 6) (aa (ak.nm 2) aj)) (ak.d 4) (ak.g 4)) aj))))))))
  (au (dw (cN tZ (bH _) (cK dc (aa (ak.nm 5) aj) B.c9 rfl cL (ak.d 0) (ak.g 0)) aq) (az (gM (jZ (ak.nm 5) (ix (aa (bz dR (ix (aa aq aj)) (cK dc (aa (aN (ak.nm 1) aq) aj) B.c9 rfl cL (ak.d 0) (ak.g 0))) (aa aq aj)))))) cU)
  (au (dw (cN tZ (bH _) (cK dc (aa (ak.nm 5) aj) B.c9 rfl cL (ak.d 0) (ak.g 0)) aq) (au (BJ d7.nd (by decide) (show(ai cX).names.lookup ("_law_one":Str)=some .local by decide+kernel) (show(ai cX).names.lookup ("_law_other":Str)=some .local by decide+kernel) (aa (aN (ak.nm 5) aq) (aa (aN (ak.nm 5) (aM (cR e) (c7 e) (hr.mono (by decide)) (aa (ak.nm 0) (aa (cK dc (aa (ak.nm 5) aj) B.c9 rfl cL (ak.d 0) (ak.g 0)) aj)) (ak.d 5) (ak.g 5))) aj)))
  (az (gM (jZ (ak.nm 5) (ix (aa (eQ dB (aa (cV (Nc:=["_law_a","_law_b"]) (a7.look (ai cX) ["_law_hand_here","_law_rows","_law_due","_law_turn_here","_law_back","_law_made","_law_weights","_law_row","_law_one","_law_other","_law_left","_law_found"] (by decide+kernel)) (oX (ak.g 6) B.pd (aa (aN (ak.nm 8) aq) (aa (aN (ak.nm 9) aq) aj))) (λ _ _ _ _=>(jO rfl (show(["_law_a","_law_b"]:List Str).Nodup by decide+kernel))) (λ _ _ _ _=>bY) (λ _ _ _ _=>(bz fw cu cu)) ni) aj) B.dn rfl c6 (ak.d 3) (ak.g 3)) (aa (bz fw (aN (ak.nm 8) aq) (aN (ak.nm 9) aq)) aj))))))) cU)
  (au (dw (cN tZ (bH _) (cK dc (aa (ak.nm 5) aj) B.c9 rfl cL (ak.d 0) (ak.g 0)) aq) (az (gM (jZ (ak.nm 5) (aN (ak.nm 5) (aM (cR e) (c7 e) (hr.mono (by decide)) (aa (ak.nm 0) (aa (cK dc (aa (ak.nm 5) aj) B.c9 rfl cL (ak.d 0) (ak.g 0)) aj)) (ak.d 5) (ak.g 5)))))) cU)
  (au (aV d7.nd (ak.l 10) (eQ EU (aa (ak.nm 5) aj) B.pV rfl nv (ak.d 7) (ak.g 7)))
  (au (aV d7.nd (ak.l 11) (yy aj))
  (au (w9 (cN (QI hr) (bH _) (ak.nm 10) (vZ aj)) (az (gM (jZ (ak.nm 11) (N0 (ak.nm 10) (aM (cR e) (c7 e) (hr.mono (by decide)) (aa (ak.nm 0) (aa (cK dc (aa (ak.nm 10) aj) B.c9 rfl cL (ak.d 0) (ak.g 0)) aj)) (ak.d 5) (ak.g 5)))))))
  (az (aR (ix (aa (eQ dB (aa (cV (Nc:=["_law_pair"]) (a7.look (ai cX) ["_law_hand_here","_law_rows","_law_due","_law_turn_here","_law_back","_law_made","_law_weights","_law_row","_law_one","_law_other","_law_left","_law_found"] (by decide+kernel)) (e9 (ak.nm 11)) (λ _ _ _ _=>(df (show(["_law_pair"]:List Str).Nodup by decide+kernel))) (λ _ _ _ _=>bY) (λ _ _ _ _=>(aN cu aq)) bZ) aj) B.dn rfl c6 (ak.d 3) (ak.g 3)) (aa (eQ dB (aa (cV (Nc:=["_law_pair"]) (a7.look (ai cX) ["_law_hand_here","_law_rows","_law_due","_law_turn_here","_law_back","_law_made","_law_weights","_law_row","_law_one","_law_other","_law_left","_law_found"] (by decide+kernel)) (e9 (ak.nm 11)) (λ _ _ _ _=>(df (show(["_law_pair"]:List Str).Nodup by decide+kernel))) (λ _ _ _ _=>bY) (λ _ _ _ _=>(aN cu aq)) bZ) aj) B.dn rfl c6 (ak.d 3) (ak.g 3)) aj))))))))))))))) xh
theorem Qu:bD (KX w.params) mg "law" "law" qI ["_law_script"] 410 (Hd.fd qI "law" "law" jn 409):=Hd.oN e.X e.G (by kernel_rfl) λ _ _ _ _ _ _ _=>rfl
theorem QO:a_ PW w (KX w.params) mg base cz 9 410 (Hd.fd qI "law" "law" jn 409) ["_law_script"] (cD Lf):=by
 have B:=Bt e;have Q:=Qt e
 exact bE (N:=Bu) (Qu e).fn pS (λ cdv A outer s H E hr=>(au (aV pS.nd (cx.l 1) (aM (yA e) (Gp e) (hr.mono (by decide)) (aa (cx.nm 0) aj) (cx.d 0) (cx.g 0)))
  (au (g6 (eC (cx.g 1) B.eK (aa aq aj)) (df pS.nd) (au (BR (aM (Ay e) (HK e) (hr.mono (by decide)) (aa (cx.nm 1) aj) (cx.d 2) (cx.g 2)) (jO rfl pS.nd))
  (au (BR (aM (qP e) (y8 e) (hr.mono (by decide)) (aa (cx.nm 1) (aa (cx.nm 3) (aa (cx.nm 4) aj))) (cx.d 3) (cx.g 3)) (jO rfl pS.nd))
  (au (aV pS.nd (cx.l 7) (aM (uK e) (AD e) (hr.mono (by decide)) (aa (cx.nm 3) (aa (cx.nm 4) aj)) (cx.d 4) (cx.g 4)))
  (au (aV pS.nd (cx.l 8) (aM (uK e) (AD e) (hr.mono (by decide)) (aa (cx.nm 5) (aa (cx.nm 6) aj)) (cx.d 4) (cx.g 4)))
  (au (dw (k9 (nN (cN (FQ hr) (bH _) (aN (cx.nm 7) aq) (aN (cx.nm 8) aq)) (nN (fK (eO (aM (jQ e) (mE e) (hr.mono (by decide)) (aa (cx.nm 3) (aa (cx.nm 4) (aa (cx.nm 7) aj))) (cx.d 5) (cx.g 5)))) (oz (fK (eO (aM (jQ e) (mE e) (hr.mono (by decide)) (aa (cx.nm 5) (aa (cx.nm 6) (aa (cx.nm 8) aj))) (cx.d 5) (cx.g 5)))))))) (az (aR iH)) cU)
  (au (dw (k9 (yc (cN (jD hr) (bH _) (aN (cx.nm 7) aq) vW) (vO (cN (FQ hr) (bH _) (gK (cx.nm 7) (fE aq) (fE aq)) (gK (cx.nm 8) (fE aq) (fE aq)))))) (az (aR iH)) cU)
  (az (dw (k9 (yc (cN (jD hr) (bH _) (aN (cx.nm 7) aq) vW) (vO (fK (eO (aM (jQ e) (mE e) (hr.mono (by decide)) (aa (cx.nm 3) (aa (cx.nm 4) (aa (bz fw (bz fw (gK (cx.nm 7) kB (fE aq)) (gK (cx.nm 8) (fE aq) (fE aq))) (gK (cx.nm 7) (fE aq) kB)) aj))) (cx.d 5) (cx.g 5))))))) (az (aR iH)) cU)))))))))
  (az (aR iH))))) PY
end
def dL:DefRec:=match qI with
 | .FunctionDef n a b _ _ _ sc _ _ pos=>⟨n,a,b,sc,pos⟩
 |_=>⟨"",L2.lO (.Pass ⟨0,0,0,0⟩),[],L2.ai (.Pass ⟨0,0,0,0⟩),⟨0,0,0,0⟩⟩
def Jt:PySem.Challenge.rw_latticeworks_k58_whole_equations_put_oth.wellSaid=true:=by decide+kernel
end Row
open PySem PySem.W PyProof.Rows
set_option maxRecDepth 100000 in
set_option maxHeartbeats 0 in
theorem PySem.Challenge.cw_latticeworks_k58_whole_equations_put_oth_holds : PySem.Challenge.rw_latticeworks_k58_whole_equations_put_oth.Holds := by
 refine PySem.W.holds_law Row.Jt λ Jt=>?_;refine PySem.W.holds_open (r:=PySem.Challenge.rw_latticeworks_k58_whole_equations_put_oth.row) (q:=PySem.W.view Row.PW [1,2,3,4,6,7,8,9,10,11,12,13,15,16,17,18,19,20,21,22,23,24,25,26,28,29,30,31,32,33,34,35,36,37,39,40,41,42,43,44,46,47,49,50,51,52,53,55,56,57,58,59,60,61,62,63]) (loose:=[]) (Xt:=λ _=>true) (XP:=λ _ _=>True) (YP:=(PySem.W.kmHook Row.KX Row.KA (λ _=>rfl) [233]).says) (d:=Row.dL) (kwd:=[]) Row.left ((PySem.W.kmHook Row.KX Row.KA (λ _=>rfl) [233]).of) ((PySem.W.kmHook Row.KX Row.KA (λ _=>rfl) [233]).keeps) (λ _ _=>trivial) (λ _ _ _ _ _=>trivial) (by kernel_rfl) (by kernel_rfl) (by kernel_rfl) (λ s _=>PySem.W.recFacts_of (R:=[]) rfl) (by kernel_rfl) Jt (by decide+kernel) ⟨rfl,rfl,rfl,rfl,rfl,by decide+kernel⟩ ?hw ?hc;case hw=>w_witness2
 refine L2.Q0 (n:=63) (k:=9) (x:="_law_script") (ts:=[(235,233)]) (K:=Row.KX) (sp:=λ w=>L3.Hw (Row.KX w.params) [(235,233)]) rfl (by decide) (by kernel_rfl) ⟨rfl,by decide,by decide⟩ (by kernel_rfl) rfl (λ w h Y=>⟨PySem.W.km_in_of Y,⟨(λ q hq=>by rcases UK.mp hq with rfl|hq;kernel_rfl;cases hq),(λ q hq=>by rcases UK.mp hq with rfl|hq;kernel_rfl;cases hq),λ q hq=>PySem.W.km_tabs_of Y _ (XN (f:=Prod.snd) hq)⟩⟩) ?F λ _ _ a ns hl hE=>⟨a,ns,rfl,hE,hl,λ _=>rfl⟩
 intro w mg fa h X G hmg;have e2:=hmg.symm.trans (PySem.W.mg_of (v:= .ref 410) X G (by kernel_rfl));cases e2;exact⟨Hd.fd Row.qI "law" "law" Row.jn 409,λ s v=> .of_eq rfl,λ base _ _=>(Row.QO ⟨X,G⟩).imp λ vs H Q E h=>L3.Hg (tl:=[(233,⟨126,32,126,66⟩,"Bench.live_rows.<locals>.<lambda>")]) (by kernel_rfl) rfl (by decide) h⟩
