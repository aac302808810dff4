import PyProof.Rows.All
import Wide.All
import OpenK.AllK
import Wide.FinOn
import Lean
import PyProof.EqAt
import PyProof.EqKinds
import PyProof.TupleCall
import PyProof.NeKinds
import KE.KUnpack
import PyProof.CallStr
import PySem.Challenge.RW_latticeworks_k69_shared_papers
set_option Elab.async false
set_option autoImplicit true
set_option relaxedAutoImplicit true
set_option linter.all false
set_option maxRecDepth 100000
def VO:=@List.length_map
def VP:=@Nat.le_of_ble_eq_true
def VQ:=@Nat.le_refl
def VR:=@PySem.wpAny_bind
def VT:=@if_neg
def VU:=@if_pos
def VV:=@List.getElem?_eq_some_iff
def VW:=@List.getElem?_set_ne
def VX:=@Nat.le_trans
def VY:=@PySem.Heap.get?_push_of_some
def VZ:=@List.getElem?_append_left
def V0:=@List.getElem?_eq_getElem
def V1:=@List.getD_eq_getElem?_getD
def V2:=@List.size_toArray
def V3:=@List.length_append
def V4:=@List.mem_cons
def V5:=@List.mem_cons_of_mem
def V6:=@Ne.symm
def V7:=@List.getElem?_set_self
def V8:=@PySem.wpAny_pure
def V9:=@List.mem_map
def V_:=@List.mem_cons_self
def Wa:=@List.mem_of_getElem?
def Wb:=@List.length_set
def Wc:=@Nat.pow_le_pow_right
def Wd:=@PySem.Heap.lt_size
def We:=@decide_eq_false
def Wf:=@List.mem_append
def Wg:=@Nat.zero_le
def Wh:=@List.not_mem_nil
def Wi:=@Int.toNat_natCast
def Wj:=@Nat.lt_of_lt_of_le
def Wk:=@List.mem_singleton
def Wl:=@List.length_take
def Wm:=@List.all_eq_true
def Wn:=@List.getElem?_map
def Wo:=@List.mem_append_right
def Wq:=@PySem.Heap.get?_push_size
def Wr:=@decide_eq_true
def Ws:=@List.length_cons
def Wt:=@List.mem_iff_getElem
def Wu:=@List.getElem?_append_right
def Wv:=@Bool.and_eq_true
def Ww:=@List.map_cons
def Wx:=@Nat.add_sub_cancel_left
def Wy:=@Nat.ne_of_lt
def Wz:=@Nat.not_lt_zero
def WA:=@Nat.lt_succ_self
def WB:=@List.map_map
def WC:=@Nat.mul_le_mul_right
def WD:=@Nat.le_of_not_lt
def WE:=@List.append_nil
def WG:=@Bool.false_ne_true
def WH:=@PySem.W.mg_none_of
def WI:=@List.mem_or_eq_of_mem_set
def WJ:=@List.map_append
def WK:=@Nat.mul_le_mul_left
def WL:=@Nat.mul_le_mul
def WM:=@List.lookup_cons
def WN:=@PySem.mem_of_lookup
def WO:=@Nat.mul_assoc
def WQ:=@Option.some.inj
def WR:=@Int.mul_zero
def WS:=@List.range_succ_eq_map
def WT:=@Int.eq_ofNat_of_zero_le
def WU:=@List.map_congr_left
def WV:=@List.length_drop
def WW:=@Int.fmod_nonneg_of_pos
def WX:=@List.replicate_succ
def WY:=@List.all_cons
def WZ:=@PyProof.Rows.wpS_bind
def W2:=@Nat.le_of_lt
def W3:=@Nat.lt_succ_of_lt
def W4:=@Int.zero_mul
def W5:=@List.mem_append_left
def W6:=@List.drop_eq_getElem_cons
def W7:=@List.mem_of_mem_take
def W8:=@List.drop_eq_nil_of_le
def W9:=@List.filter_append
def W_:=@Bool.true_and
def Xa:=@not_false_eq_true
def Xb:=@PyProof.Rows.slot_tuple_getitem
def Xd:=@Bool.false_eq_true
def Xe:=@List.cons.injEq
def Xf:=@PySem.wpAny_field
def Xg:=@Array.length_toList
def Xh:=@PySem.Heap.size_push
def Xi:=@Int.natAbs_neg
def Xj:=@Int.natAbs_mul
def Xk:=@PySem.W.kia_one
def Xl:=@Int.fmod_lt_of_pos
def Xm:=@PySem.wpAny_callSpecial?_slot
def Xn:=@or_false
def Xo:=@List.take_of_length_le
def Xp:=@List.nodup_cons
def Xq:=@List.eq_nil_of_length_eq_zero
def Xr:=@congrArg
def Xs:=@Nat.lt_irrefl
def Xu:=@List.length_eq_zero_iff
def Xv:=@List.flatten_cons
def Xw:=@PyProof.Rows.wpS_pure
def Xx:=@Nat.mul_left_comm
def Xy:=@Classical.not_imp
def Xz:=@PyProof.Rows.callWith_type1
def XA:=@Nat.le_antisymm
def XB:=@PySem.Heap.SameBut.update
def XC:=@PySem.wpAny_mono
def XD:=@List.map_take
def XE:=@List.mem_range
def XF:=@List.pairwise_cons
def XG:=@Classical.choose_spec
def XH:=@Classical.byContradiction
def XI:=@Nat.pow_add
def XJ:=@List.getElem?_take_of_lt
def XM:=@Nat.sub_self
def XN:=@PySem.wpAny_truthy_bool
def XO:=@List.append_assoc
def XQ:=@List.getElem?_cons_succ
def XR:=@Nat.le_mul_of_pos_right
def XS:=@beq_eq_false_iff_ne
def XT:=@if_false
def XW:=@PySem.wpAny_call_entry
def XX:=@PySem.wpAny_seqItems
def XY:=@List.getElem_mem
def XZ:=@beq_iff_eq
def X3:=@PySem.W.cellsFrom_some
def X_:=@Nat.ne_of_gt
def Yb:=@Nat.mul_comm
def Yc:=@PySem.wpAny_pyIter_tuple
def Yd:=@PySem.wpAny_setField_rec
def Ye:=@Nat.zero_add
def Yg:=@Nat.lt_trans
def Yh:=@List.getElem?_concat_length
def Yi:=@PySem.wpAny_passesOwn
def Yj:=@List.length_replicate
def Yk:=@if_true
def Yl:=@List.any_cons
def Ym:=@PySem.F.slot_tuple_iterator_next
def Yn:=@Int.fdiv_eq_ediv_of_nonneg
def Yo:=@PySem.wpAny_newObj_type
def Yp:=@Option.isSome_iff_exists
def Yq:=@Int.add_zero
def Yr:=@PySem.wpAny_holding
def Ys:=@PySem.wpAny_Call_Name_kw
def Yt:=@PySem.call_meets
def Yu:=@Option.map_some
def Yv:=@Nat.lt_of_le_of_lt
def Yw:=@List.length_nil
def Yx:=@Nat.le_succ
def Yy:=@and_true
def Yz:=@List.drop_of_length_le
def YA:=@Nat.lt_trichotomy
def YB:=@List.length_range
def YC:=@Int.zero_add
def YD:=@Int.mul_comm
def YE:=@Int.ne_of_gt
def YF:=@List.take_append_drop
def YG:=@PySem.F.slot_tuple_mul
def YH:=@Bool.and_eq_true_iff
def YI:=@Classical.not_forall
def YJ:=@List.filterMap_cons
def YK:=@List.map_eq_nil_iff
def YL:=@PyProof.Rows.get?_update_seq
def YM:=@List.mem_filterMap
def YN:=@PySem.F.args_tuple_add_2
def YO:=@List.all_map
def YQ:=@not_or
def YR:=@Nat.pow_succ
def YS:=@Int.sub_eq_add_neg
def YT:=@Nat.lt_or_gt_of_ne
def YU:=@List.getElem?_drop
def YV:=@Bool.false_and
def YW:=@PySem.wpAny_rule
def YX:=@Nat.add_le_add
def YY:=@List.getElem?_replicate
def YZ:=@PySem.F.entry_tuple_add
def Y0:=@PySem.W.kitx_list
def Y1:=@PySem.W.kitx_dict
def Y2:=@PySem.wpAny_pyIter_list
def Y3:=@List.pairwise_map
def Y4:=@decide_eq_true_eq
def Y5:=@List.getElem?_set
def Y6:=@Int.mul_one
def Y7:=@PySem.sizeLine_eq
def Y8:=@PySem.F.slot_tuple_add
def Y9:=@Int.neg_mul
def Y_:=@Nat.le_mul_of_pos_left
def Za:=@Nat.mul_add
def Zb:=@List.zipWith_cons_cons
def Zc:=@Int.mul_assoc
def Zd:=@List.cons.inj
def Ze:=@beq_self_eq_true
def Zf:=@decide_eq_decide
def Zg:=@List.take_succ_eq_append_getElem
def Zh:=@Array.getElem?_toList
def Zi:=@List.getElem?_eq_none
def Zj:=@List.lookup_cons_self
def Zk:=@Int.mul_fdiv_add_fmod
def Zl:=@List.set_append_right
def Zm:=@List.length_filter_le
def Zn:=@PySem.wpAny_execs_nil
def Zo:=@Bool.eq_iff_iff
def Zp:=@Nat.le_of_eq
def Zq:=@List.of_mem_zip
def Zr:=@List.map_nil
def Zs:=@List.nil_append
def Zt:=@PySem.F.slot_int_rmul
def Zu:=@PySem.wpAny_ite_false
def Zv:=@bne_iff_ne
def Zw:=@Bool.or_eq_true
def Zx:=@PySem.wpAny_updateSeq_pair
def Zy:=@PySem.F.slot_zip_next
def Zz:=@PyProof.Rows.wpS_forRange
def ZA:=@decide_false
def ZC:=@Nat.lt_or_ge
def ZD:=@List.mem_of_mem_drop
def ZE:=@List.range_succ
def ZF:=@Nat.min_eq_left
def ZG:=@List.filter_nil
def ZH:=@PySem.W.plainGet_of
def ZI:=@List.getElem?_range
def ZJ:=@List.mem_map_of_mem
def ZK:=@List.filter_eq_self
def ZL:=@PySem.F.args_tuple_iterator_next_1
def ZM:=@decide_true
def ZN:=@PySem.W.callWith_K
def ZO:=@PySem.F.args_tuple_mul_2
def ZP:=@PySem.F.entry_tuple_iterator_next
def ZQ:=@Nat.mul_right_comm
def ZR:=@PySem.Calls.Name_function_global
def ZS:=@PySem.wpAny_standAt
def ZT:=@PySem.wpAny_onRaise
def ZU:=@PySem.wpAny_attempt
def ZV:=@PyProof.Rows.listUpdate_at
def ZW:=@List.map_drop
def ZX:=@Nat.le_of_succ_le
def ZY:=@Option.some.injEq
def ZZ:=@PySem.F.entry_tuple_mul
def Z0:=@of_decide_eq_true
def Z9:=@PySem.typeIs_int
def Z_:=@PySem.wpAny_binaryOp_repeat_ref
def aaa:=@List.getElem?_eq_none_iff
def aab:=@List.pairwise_iff_getElem
def aac:=@PySem.codeAny_mono
def aad:=@PySem.noFill_tuple_add
def aae:=@List.cons_append
def aaf:=@Nat.min_self
def aag:=@List.getElem_map
def aah:=@Nat.min_eq_right
def aai:=@List.eq_of_mem_replicate
def aaj:=@PySem.F.plainAttrs_list
def aak:=@List.pairwise_singleton
def aal:=@List.filter_cons_of_neg
def aam:=@List.filter_cons_of_pos
def aan:=@List.mem_filter
def aao:=@List.forIn_cons
def aap:=@List.length_zip
def aaq:=@beq_false_of_ne
def aar:=@Prod.mk.inj
def aas:=@PySem.wpAny_letGo
def aat:=@Int.le_refl
def aau:=@Int.one_mul
def aav:=@Nat.mul_pos
def aaw:=@Int.ediv_eq_zero_of_lt
def aax:=@List.filter_eq_nil_iff
def aay:=@List.length_singleton
def aaz:=@PySem.fitsIndex_both
def aaA:=@List.forIn_nil
def aaB:=@Bool.and_false
def aaC:=@List.nodup_nil
def aaD:=@List.contains_iff_mem
def aaE:=@Int.eq_of_sub_eq_zero
def aaF:=@Int.natAbs_pos
def aaG:=@List.drop_zero
def aaH:=@List.filterMap_append
def aaI:=@Prod.mk.injEq
def aaJ:=@Nat.succ_mul
def aaK:=@Nat.sub_zero
namespace L2
open PySem PySem.Spec PyProof.Rows
abbrev Key:=Sum Int Str
def M9:Key->Value->Bool
 | .inl k,v=>Value.isInt k v
 | .inr x,v=>Value.isStrOf x v
def US(w:World):Key->Int
 | .inl k=>hashInt k
 | .inr x=>hashStr w x
theorem eO:∀ {k:Key} {v:Value},M9 k v=true->(∃i t,k=Sum.inl i/\v=Value.int i t)\/(∃x t,k=Sum.inr x/\v=Value.str x t)
 | .inl i,v,h=>by
   obtain⟨t,e⟩:=Value.isInt_shape (k:=i) (v:=v) h;exact .inl ⟨i,t,rfl,e⟩
 | .inr x,v,h=>by
   obtain⟨t,e⟩:=Value.isStrOf_shape (x:=x) (v:=v) h;exact .inr ⟨x,t,rfl,e⟩
theorem O5(a b:Int):decide ((Sum.inl a:Key)=Sum.inl b)=(a==b):=by
 by_cases e:a=b
 . subst e;simp
 . have h:¬(Sum.inl a:Key)=Sum.inl b:=λ q=>e (Sum.inl.inj q);rw[We h];exact(XS.mpr e).symm
theorem PH(a b:Str):decide ((Sum.inr a:Key)=Sum.inr b)=decide (a=b):=by
 by_cases e:a=b
 . subst e;simp
 . have h:¬(Sum.inr a:Key)=Sum.inr b:=λ q=>e (Sum.inr.inj q);rw[We h,We e]
theorem Qr(a:Int)(b:Str):decide ((Sum.inl a:Key)=Sum.inr b)=false:=We (λ q=>nomatch q)
theorem QR(a:Str)(b:Int):decide ((Sum.inr a:Key)=Sum.inl b)=false:=We (λ q=>nomatch q)
def E2(prog:Program)(w:World):PySem.KeyKind prog w Key where
 is:=M9
 hash:=US w
 inj:=λ v a b ha hb=>by
  rcases eO ha with⟨i,t,rfl,rfl⟩|⟨x,t,rfl,rfl⟩
  . rcases eO hb with⟨j,u,rfl,e⟩|⟨y,u,rfl,e⟩
    . injection e with e1 _;rw[e1]
    . exact nomatch e
  . rcases eO hb with⟨j,u,rfl,e⟩|⟨y,u,rfl,e⟩
    . exact nomatch e
    . injection e with e1 _;rw[e1]
 byValue:=λ k v h=>by
  rcases eO h with⟨i,t,rfl,rfl⟩|⟨x,t,rfl,rfl⟩<;>rfl
 pyHash:=λ hv h=>by
  rcases eO hv with⟨i,t,rfl,rfl⟩|⟨x,t,rfl,rfl⟩
  . exact wpAny_pyHash_int h
  . exact wpAny_pyHash_str h
 eqBool:=λ hu hv h=>by
  rcases eO hu with⟨i,t,rfl,rfl⟩|⟨x,t,rfl,rfl⟩
  . rcases eO hv with⟨j,u,rfl,rfl⟩|⟨y,u,rfl,rfl⟩
    . rw[O5]at h;exact wpAny_eqBool_int h
    . rw[Qr]at h;exact SeqAt.EqAt.int_str i t y u _ _ _ _ h
  . rcases eO hv with⟨j,u,rfl,rfl⟩|⟨y,u,rfl,rfl⟩
    . rw[QR]at h;exact SeqAt.EqAt.str_int x t j u _ _ _ _ h
    . rw[PH]at h;exact wpAny_eqBool_str h
 «strs» :=λ k x t v h=>by
  rcases eO h with⟨i,u,rfl,e⟩|⟨y,u,rfl,e⟩
  . exact nomatch e
  . injection e with e1 _;subst e1;cases v<;>rfl
inductive V where
 |ao|bl (b:Bool)|int (i:Int)|str (x:Str)|uV (b:Array UInt8)|uW (b:UInt64)|ref (a:Addr)|ty (n:String)
 deriving DecidableEq
def RelV:V->Value->Prop
 | .ao,u=>u=Value.none
 | .bl b,u=>u=Value.bool b
 | .int i,u=>∃t,u=Value.int i t
 | .str x,u=>∃t,u=Value.str x t
 | .uV b,u=>∃t,u=Value.bytes b t
 | .uW b,u=>∃t,u=Value.float b t
 | .ref a,u=>u=Value.ref a
 | .ty n,u=>u=Value.type n
abbrev Vals:List V->List Value->Prop:=Paired RelV
theorem Vals.length(r:Vals xs us):xs.length=us.length:=Paired.length r
theorem Vals.get:∀ {xs:List V} {us:List Value} {i:Nat} {x:V},Vals xs us->xs[i]?=some x->∃u,us[i]?=some u/\RelV x u
 |_,_,_,_,.nil,e=>by simp at e
 |_,_,0,_,.cons r _,e=>by simp at e;subst e;exact⟨_,rfl,r⟩
 |_,_,i+1,x,.cons _ t,e=>by
  obtain⟨u,h1,h2⟩:=Vals.get (i:=i) (x:=x) t (by simpa using e);exact⟨u,by simpa using h1,h2⟩
theorem Vals.set(r:RelV x u):∀ {xs:List V} {us:List Value} (i:Nat),Vals xs us->Vals (xs.set i x) (us.set i u)
 |_,_,_,.nil=> .nil
 |_,_,0,.cons _ t=> .cons r t
 |_,_,i+1,.cons q t=> .cons q (Vals.set r i t)
theorem Vals.append:∀ {xs ys:List V} {us ws:List Value},Vals xs us->Vals ys ws->Vals (xs++ys) (us++ws)
 |_,_,_,_,.nil,s=>s
 |_,_,_,_,.cons r t,s=> .cons r (Vals.append t s)
theorem Vals.take:∀ {xs:List V} {us:List Value} (n:Nat),Vals xs us->Vals (xs.take n) (us.take n)
 |_,_,0,_=> .nil
 |_,_,_+1,.nil=> .nil
 |_,_,n+1,.cons r t=> .cons r (Vals.take n t)
theorem Vals.drop:∀ {xs:List V} {us:List Value} (n:Nat),Vals xs us->Vals (xs.drop n) (us.drop n)
 |_,_,0,r=>r
 |_,_,_+1,.nil=> .nil
 |_,_,n+1,.cons _ t=>Vals.drop n t
def oH:Option V->Option Value->Prop
 |some v,some u=>RelV v u
 |none,none=>True
 |_,_=>False
def KV{κ:Type}:List (κ×V)->List (κ×Value)->Prop:=Paired λ(p:κ×V) (q:κ×Value)=>p.1=q.1/\RelV p.2 q.2
def kV:Key->V
 | .inl i=> .int i
 | .inr x=> .str x
inductive HO where
 |lst (xs:List V)
 |tup (xs:List V)
 |dK (kvs:List (Key×V))|dT (kvs:List (List Key×V))
 |set (S:Int->Bool) (n:Nat)
 |ins (C dx:Addr) (fs:List (Str×V))
 |own (x:Addr)
 |xd (fs:List (Str×V))
 |met (f x:Addr)
 |Qs (lo hi:Int)
 |eJ (o:Obj) (u:HO)
 |jB (ps:Array Value)
 |ext (φ:Heap->Prop)
abbrev Hp:=Addr->Option HO
def upd(H:Hp)(a:Addr)(o:HO):Hp:=λ b=>if b=a then some o else H b
theorem aS:upd H a o a=some o:=by unfold upd;rw[VU rfl]
theorem ay(h:b≠a):upd H a o b=H b:=by unfold upd;rw[VT h]
theorem O0:upd (upd H a o) a u=upd H a u:=by
 funext b;unfold upd;split<;>rfl
theorem cV{H:Hp}{a b:Addr}{o:HO}(h:H a=some o)(h':H b=none):a≠b:=by
 intro e;subst e;rw[h]at h';cases h'
section
variable (P:Program)(w:World)
def cX(H:Hp)(h:Heap)(a:Addr):HO->Prop
 | .lst xs=>xs.length<=sizeLine/\∃(aj:List Value) (n:Nat),Vals xs aj/\h.get? a=some {cls:= .type "list",data:= .seq aj.toArray n}
 | .tup xs=>xs.length<=sizeLine/\∃aj:List Value,Vals xs aj/\IsTup h a aj.toArray
 | .dK kvs=>kvs.length<=sizeLine/\(a==sysModules)=false/\∃vs,KV kvs vs/\h.DictOf (E2 P w) a vs
 | .dT kvs=>kvs.length<=sizeLine/\(a==sysModules)=false/\∃xs:List (List Key×Addr×Value),
    Paired (λ(p:List Key×V) (q:List Key×Addr×Value)=>p.1=q.1/\H q.2.1=some (.tup (p.1.map kV))/\RelV p.2 q.2.2) kvs xs/\
    ∃o es ep,h.get? a=some o/\o.ExactDict/\o.data= .dict es ep/\es.toList=xs.map (entryOfKey (tupleKind (E2 P w)))/\(xs.map (·.1)).Nodup
 | .set S n=>h.SetOf (intKind P w) a S n
 | .ins C dx fs=>H dx=some (.own a)/\fs.length<=1000/\dx≠a/\h.get? a=some (PySem.W.instObj C dx)/\
    ∃mA,h.Ns1 dx mA/\(∀f,oH (fs.lookup f) (mA f))/\PySem.Within mA (fs.map (·.1))
 | .own _=>∃o,h.get? a=some o
 | .xd fs=>∃mA,h.Ns1 a mA/\∀f,oH (fs.lookup f) (mA f)
 | .Qs lo hi=>∃t u v,h.get? a=some {cls:= .type "range",data:= .fields #[.int lo t,.int hi u,.int 1 v]}
 | .eJ o u=>h.get? a=some o/\cX H h a u
 | .jB ps=>h.get? a=some {cls:= .none,data:= .fields ps}
 | .met f x=>h.get? a=some (PySem.W.methodObj (.ref f) (.ref x))
 | .ext φ=>φ h/\(∃o,h.get? a=some o)/\∀h1 h2:Heap,φ h1->(∀o,h1.get? a=some o->h2.get? a=some o)->φ h2
def gK(H:Hp)(h:Heap):Prop:=∀a o,H a=some o->cX P w H h a o
end
section
variable {P:Program}{w:World}{H H':Hp}{h h':Heap}{a:Addr}{o:HO}
theorem cX.lt(x:cX P w H h a o):a<h.objs.size:=by
 cases o with
 |lst xs=>obtain⟨_,_,_,_,e⟩:=x;exact Wd e
 |tup xs=>obtain⟨_,_,_,p⟩:=x;exact p.lt
 |dK kvs=>obtain⟨_,_,_,_,o,_,_,e,_⟩:=x;exact Wd e
 |dT kvs=>obtain⟨_,_,_,_,o,_,_,e,_⟩:=x;exact Wd e
 |set S n=>obtain⟨o,_,_,_,e,_⟩:=x;exact Wd e
 |ins C dx fs=>obtain⟨_,_,_,e,_⟩:=x;exact Wd e
 |own y=>obtain⟨_,e⟩:=x;exact Wd e
 |xd fs=>obtain⟨_,⟨_,_,_,e,_⟩,_⟩:=x;exact Wd e
 |Qs lo hi=>obtain⟨_,_,_,e⟩:=x;exact Wd e
 |eJ ob u=>obtain⟨e,_⟩:=x;exact Wd e
 |jB ps=>exact Wd (show h.get? a=some _ from x)
 |met f y=>exact Wd (show h.get? a=some _ from x)
 |ext φ=>obtain⟨_,⟨_,e⟩,_⟩:=x;exact Wd e
theorem Paired.K7{α β:Type}{F G:α->β->Prop}:∀ {l₁:List α} {l₂:List β},Paired F l₁ l₂->(∀a b,F a b->G a b)->Paired G l₁ l₂
 |_,_,.nil,_=> .nil
 |_,_,.cons r t,f=> .cons (f _ _ r) (Paired.K7 t f)
theorem cX.ot(x:cX P w H h a o)(k:∀b u,(b=a\/H b=some (.own a))->h.get? b=some u->h'.get? b=some u)
 (ho:∀b,H b=some (.own a)->H' b=some (.own a)) (ht:∀b xs,H b=some (.tup xs)->H' b=some (.tup xs)):cX P w H' h' a o:=by
 induction o with
 |lst xs=>obtain⟨z,aj,n,r,e⟩:=x;exact⟨z,aj,n,r,k _ _ (.inl rfl) e⟩
 |tup xs=>obtain⟨z,aj,r,ob,e,c⟩:=x;exact⟨z,aj,r,ob,k _ _ (.inl rfl) e,c⟩
 |dK kvs=>obtain⟨z,y,vs,r,ob,es,ep,e,c⟩:=x;exact⟨z,y,vs,r,ob,es,ep,k _ _ (.inl rfl) e,c⟩
 |dT kvs=>
  obtain⟨z,y,xs,r,ob,es,ep,e,c⟩:=x;exact⟨z,y,xs,Paired.K7 r λ p q z=>⟨z.1,ht _ _ z.2.1,z.2.2⟩,ob,es,ep,k _ _ (.inl rfl) e,c⟩
 |set S n=>obtain⟨ob,es,ep,t,e,c⟩:=x;exact⟨ob,es,ep,t,k _ _ (.inl rfl) e,c⟩
 |ins C dx fs=>
  obtain⟨d,z,ne,e,mA,⟨od,es,ep,e2,c⟩,r⟩:=x;exact⟨ho _ d,z,ne,k _ _ (.inl rfl) e,mA,⟨od,es,ep,k _ _ (.inr d) e2,c⟩,r⟩
 |own y=>obtain⟨ob,e⟩:=x;exact⟨ob,k _ _ (.inl rfl) e⟩
 |xd fs=>obtain⟨mA,⟨od,es,ep,e,c⟩,r⟩:=x;exact⟨mA,⟨od,es,ep,k _ _ (.inl rfl) e,c⟩,r⟩
 |Qs lo hi=>obtain⟨t,u,v,e⟩:=x;exact⟨t,u,v,k _ _ (.inl rfl) e⟩
 |eJ ob u ih=>obtain⟨e,q⟩:=x;exact⟨k _ _ (.inl rfl) e,ih q⟩
 |jB ps=>
  have e:h.get? a=some {cls:= .none,data:= .fields ps}:=x;show h'.get? a=some {cls:= .none,data:= .fields ps};exact k a _ (.inl rfl) e
 |met f y=>
  have e:h.get? a=some (PySem.W.methodObj (.ref f) (.ref y)):=x;show h'.get? a=some (PySem.W.methodObj (.ref f) (.ref y));exact k a _ (.inl rfl) e
 |ext φ=>obtain⟨p,⟨o,e⟩,st⟩:=x;exact⟨st _ _ p λ o q=>k _ _ (.inl rfl) q,⟨o,k _ _ (.inl rfl) e⟩,st⟩
theorem gK.lt(x:gK P w H h)(e:H a=some o):a<h.objs.size:=(x a o e).lt
theorem gK.fresh(x:gK P w H h)(e:h.objs.size<=a):H a=none:=by
 cases q:H a with
 |none=>rfl
 |some u=>exact absurd (Wj (x.lt q) e) (Xs _)
theorem gK.kept(x:gK P w H h)(k:∀b u,h.get? b=some u->h'.get? b=some u):gK P w H h':=λ a o e=>
 (x a o e).ot (λ b u _ q=>k b u q) (λ _ q=>q) λ _ _ q=>q
theorem gK.laid(x:gK P w H h)(k:∀b u,h.get? b=some u->h'.get? b=some u)(hp:h.objs.size<=a)(new:cX P w (upd H a o) h' a o):gK P w (upd H a o) h':=λ b u e=>by
 have hn:=x.fresh hp;by_cases hb:b=a
 . subst hb;rw[aS]at e;cases e;exact new
 . rw[ay hb]at e;exact(x b u e).ot (λ c v _ q=>k c v q) (λ c q=>by rw[ay (cV q hn)];exact q) λ c xs q=>by rw[ay (cV q hn)];exact q
end
def Rd(H:Hp)(a:Addr)(u:HO):Prop:=H a=some u\/∃o,H a=some (.eJ o u)
theorem Rd.of(h:H a=some u):Rd H a u:= .inl h
theorem Rd.ok(r:Rd H a u)(x:gK P w H h):cX P w H h a u:=by
 rcases r with r|⟨o,r⟩
 . exact x a u r
 . obtain⟨_,q⟩:=x a _ r;exact q
def LX:Option HO->Prop
 |some (.lst _)=>True
 |some (.dK _)=>True
 |some (.dT _)=>True
 |some (.set _ _)=>True
 |some (.ins _ _ _)=>True
 |some (.ext _)=>True
 |_=>False
section
variable {P:Program}{w:World}{H:Hp}{h h':Heap}{x e:Addr}{o':HO}
theorem gK.write(ok:gK P w H h)(mu:LX (H x))(he:e=x\/H e=some (.own x))(k:∀b u,b≠e->h.get? b=some u->h'.get? b=some u)(heo:∃u,h'.get? e=some u)
 (new:cX P w (upd H x o') h' x o'):gK P w (upd H x o') h':=λ b u q=>by
 have nown:∀c y,H c=some (.own y)->c≠x:=λ c y r z=>by subst z;rw[r]at mu;exact mu
 have ntup:∀c xs,H c=some (.tup xs)->c≠x:=λ c xs r z=>by subst z;rw[r]at mu;exact mu
 by_cases hb:b=x
 . subst hb;rw[aS]at q;cases q;exact new
 . rw[ay hb]at q;by_cases hbe:b=e
   . have q':H b=some (.own x):=by
      rcases he with z|z
      . exact absurd (hbe.trans z) hb
      . rw[hbe];exact z
     rw[q]at q';cases q';obtain⟨v,hv⟩:=heo;exact⟨v,by rw[hbe];exact hv⟩
   . refine(ok b u q).ot (λ c v hc r=>k c v ?_ r) (λ c r=>by rw[ay (nown c b r)];exact r) λ c xs r=>by rw[ay (ntup c xs r)];exact r
     rcases hc with rfl|hc
     . exact hbe
     . rintro rfl;rcases he with z|z
       . exact nown c b hc z
       . rw[hc]at z;cases z;exact hb rfl
end
structure Un(fs ex:List Addr)(H H':Hp)(h h':Heap):Prop where
 keep:∀b o,h.get? b=some o->H b=none->b∉fs->b∉ex->h'.get? b=some o
 slot:∀b o,h.get? b=some o->H b=none->b∈fs->b∉ex->∃sl,h'.get? b=some {o with slots:=sl}
 free:∀b o,h.get? b=some o->H b=none->b∉ex->H' b=none
 there:∀b o,h.get? b=some o->b∉ex->∃o',h'.get? b=some o'
 oM:∀b xs,H b=some (.tup xs)->H' b=some (.tup xs)
 nA:∀b o u,H b=some (.eJ o u)->H' b=some (.eJ o u)
 nM:∀b ps,H b=some (.jB ps)->∃more,H' b=some (.jB (ps++more))
section
variable {fs fs' ex ex':List Addr}{H H1 H2:Hp}{h h1 h2 h':Heap}{a x e:Addr}{o:HO}
theorem Un.any(u:Un fs ex H H1 h h1)(q:h.get? b=some ob)(n:H b=none)(hx:b∉ex):∃sl,h1.get? b=some {ob with slots:=sl}:=by
 by_cases hb:b∈fs
 . exact u.slot b ob q n hb hx
 . exact⟨ob.slots,u.keep b ob q n hb hx⟩
theorem Un.kept(k:∀b u,h.get? b=some u->h'.get? b=some u):Un fs ex H H h h':=
 ⟨λ b ob q _ _ _=>k b ob q,λ b ob q _ _ _=>⟨ob.slots,k b ob q⟩,λ _ _ _ n _=>n,λ b ob q _=>⟨ob,k b ob q⟩,λ _ _ q=>q,λ _ _ _ q=>q,λ _ ps q=>⟨#[],by rw[q];simp⟩⟩
theorem Un.refl:Un fs ex H H h h:=Un.kept λ _ _ q=>q
theorem Un.laid(k:∀b u,h.get? b=some u->h'.get? b=some u)(hp:h.objs.size<=a)(hn:H a=none):Un fs ex H (upd H a o) h h' where
 keep:=λ b u q _ _ _=>k b u q
 slot:=λ b u q _ _ _=>⟨u.slots,k b u q⟩
 free:=λ b u q n _=>by rw[ay (Wy (Wj (Wd q) hp))];exact n
 there:=λ b u q _=>⟨u,k b u q⟩
 oM:=λ b xs q=>by rw[ay (cV q hn)];exact q
 nA:=λ b u xs q=>by rw[ay (cV q hn)];exact q
 nM:=λ b ps q=>⟨#[],by rw[ay (cV q hn),q];simp⟩
theorem Un.write(mu:LX (H x))(he:e=x\/H e=some (.own x))(k:∀b u,b≠e->h.get? b=some u->h'.get? b=some u)(heo:∃u,h'.get? e=some u):Un fs ex H (upd H x o) h h':=by
 have hx:∀b,H b=none->b≠x:=λ b n z=>by subst z;rw[n]at mu;exact mu
 have hb:∀b,H b=none->b≠e:=λ b n z=>by
  subst z;rcases he with r|r
  . exact hx b n r
  . rw[n]at r;cases r
 have hm:∀b u,H b=some u->¬LX (some u)->b≠x:=λ b u q nm z=>by subst z;rw[q]at mu;exact nm mu
 refine⟨λ b u q n _ _=>k b u (hb b n) q,λ b u q n _ _=>⟨u.slots,k b u (hb b n) q⟩,λ b u q n _=>by rw[ay (hx b n)];exact n,λ b u q _=>?_,
  λ b xs q=>by rw[ay (hm b _ q λ z=>z)];exact q,λ b u xs q=>by rw[ay (hm b _ q λ z=>z)];exact q,λ b ps q=>⟨#[],by rw[ay (hm b _ q λ z=>z),q];simp⟩⟩
 by_cases hbe:b=e
 . subst hbe;exact heo
 . exact⟨u,k b u hbe q⟩
end
def M5(h:Heap)(H:Hp):List Addr:=(List.range h.objs.size).filter λ a=>(H a).isSome
def oE(h:Heap)(H:Hp):Heap:=PySem.W.hideAll h (M5 h H)
theorem HS(h:Heap)(H:Hp):(oE h H).objs.size=h.objs.size:=PySem.W.hideAll_size _ _
theorem p_(e:h.get? b=some o)(n:H b=none):(oE h H).get? b=some o:=
 PySem.W.hideAll_get _ e λ hm=>by
  have q:(H b).isSome=true:=(aan.mp hm).2;rw[n]at q;simp at q
theorem OT(e:(oE h H).get? b=some o):h.get? b=some o/\H b=none:=by
 have e':h.get? b=some o:=PySem.W.of_hideAll (M5 h H) e;refine⟨e',?_⟩;cases q:H b with
 |none=>rfl
 |some x=>
  have hm:b∈M5 h H:=aan.mpr ⟨XE.mpr (Wd e'),by simp[q]⟩;have z:(oE h H).get? b=none:=PySem.W.hideAll_none (M5 h H) hm;rw[z]at e;cases e
def OR(g h:Heap)(L:Addr):List (Addr×Obj):=(List.range h.objs.size).filterMap λ a=>if a=L\/(g.get? a).isSome=true then none else(h.get? a).map λ o=>(a,o)
def rest(g h:Heap)(L d:Addr):List (Addr×Obj):=(OR g h L).filter λ p=>decide (p.1≠d)
structure Mod(K:PySem.W.Frag)(mg:Str->Option Value)(base:Heap):Prop where
 Hu:K.In base
 glob:base.Ns mainGlobals mg
 blt:∃mb,base.Ns builtinsNs mb/\∀x:Str,x≠"__name__"->mb x=bootBuiltins x
 nolimit:base.NoLimit
 seer:base.NoSeer
 bmain:∃bm ob,mg "__builtins__"=some (.ref bm)/\bm≠builtinsNs/\base.get? bm=some ob/\ob.cls= .type "module"/\ob.dict=some builtinsNs/\ob.data= .plain
structure Cx where
 prog:Program
 w:World
 K:PySem.W.Frag
 mg:Str->Option Value
 base:Heap
 A:Around
 N:List Str
 s₀:Shared
 H₀:Hp
 env:Env
 outer:List Env
 stack:List Env
 ex:List Addr
 fn:Str->Bool
 calm:Bool
 pn:List (Addr×Obj)
 xe:Value->Shared->Prop
def pA(l:List Env):List Addr:=l.filterMap (·.frame)
abbrev Cx.fs(X:Cx):List Addr:=pA X.outer
def Di(sc:Scope)(x:Str):Prop:=sc.names.lookup x=some .local\/sc.names.lookup x=some .cell\/sc.names.lookup x=some .free
def Loc(sc:Scope)(x:Str):Prop:=sc.names.lookup x=some .local\/sc.names.lookup x=some .cell
def Look(env:Env)(h:Heap)(m:Str->Option Value)(x:Str)(u:Value):Prop:=
 (env.kindOf x=some .local/\m x=some u)\/((env.kindOf x=some .cell\/env.kindOf x=some .free)/\∃c,env.cells.lookup x=some c/\h.IsCell c (some u))
structure Cx.Ok(X:Cx):Prop where
 mod:Mod X.K X.mg X.base
 kind:X.env.scope.kind= .function
 glob:X.env.globals=mainGlobals
 blt:X.env.builtins=builtinsNs
 above:X.s₀.heap.objs.size<=X.env.locals
 inj:∀x y c,X.env.cells.lookup x=some c->X.env.cells.lookup y=some c->x=y
 has:∀x,(X.env.kindOf x=some .cell\/X.env.kindOf x=some .free)->∃c,X.env.cells.lookup x=some c
 Ct:∀x c,X.fn x=true->X.env.cells.lookup x=some c->X.s₀.heap.objs.size<=c
 hd:X.calm=true->X.A.handled=none
 frames:X.A.frames=some X.stack
 D_:X.stack=X.outer\/(X.stack=X.env::X.outer/\X.env.frame=some X.env.locals)
 Jg:∀b∈X.ex,b≠X.env.locals/\∀x c,X.env.cells.lookup x=some c->c≠b
 bs:∀b o,X.base.get? b=some o->X.s₀.heap.get? b=some o/\X.H₀ b=none
 rO:X.base.objs.size<=X.s₀.heap.objs.size
 vU:∀b o,X.base.get? b=some o->b∉X.ex
 vt:∀b∈X.ex,b∉X.fs
 jQ:X.s₀.heap.FunFrames X.base X.outer
 wO:∀b∈X.fs,X.H₀ b=none
 gt:X.prog.given.tree=none
structure Inv(X:Cx)(pins:List (Addr×Obj))(σ:List (Option V))(H:Hp)(s:Shared):Prop where
 ok:X.Ok
 os:s.os=X.s₀.os
 bare:AllBare s.gens
 base:Un X.fs X.ex X.H₀ H X.s₀.heap s.heap
 loc:∃m,s.heap.Ns X.env.locals m/\∀(i:Nat) (x:Str) (v:V),X.N[i]?=some x->σ[i]?=some (some v)->Di X.env.scope x->∃u,RelV v u/\Look X.env s.heap m x u
 cell:∀x c,X.env.cells.lookup x=some c->∃v,s.heap.IsCell c v
 free:H X.env.locals=none
 hJ:∀x c,X.env.cells.lookup x=some c->H c=none
 pin:∀p∈X.pn++pins,s.heap.get? p.1=some p.2/\H p.1=none/\p.1≠X.env.locals/\p.1∉X.fs/\∀v,p.2.data≠ .cell v
 aC:gK X.prog X.w H s.heap
 len:σ.length=X.N.length
section
variable {X:Cx}{pins:List (Addr×Obj)}{σ:List (Option V)}{H H':Hp}{s:Shared}{h':Heap}
theorem Cx.Ok.UW(ok:X.Ok)(e:X.base.get? b=some o):b∉X.fs:=λ hb=>by
 have:=(ok.jQ.mem hb).1;rw[e]at this;cases this
theorem Inv.bs(I:Inv X pins σ H s):∀b o,X.base.get? b=some o->s.heap.get? b=some o/\H b=none:=λ b o e=>
 ⟨I.base.keep b o (I.ok.bs b o e).1 (I.ok.bs b o e).2 (I.ok.UW e) (I.ok.vU b o e),I.base.free b o (I.ok.bs b o e).1 (I.ok.bs b o e).2 (I.ok.vU b o e)⟩
theorem Inv.bk(I:Inv X pins σ H s):∀b o,X.base.get? b=some o->s.heap.get? b=some o:=λ b o e=>(I.bs b o e).1
theorem Inv.mod(I:Inv X pins σ H s):Mod X.K X.mg X.base:=I.ok.mod
theorem Inv.gu(I:Inv X pins σ H s):X.K.In s.heap:=I.ok.mod.Hu.keeps I.bk
theorem Inv.nolimit(I:Inv X pins σ H s):s.heap.NoLimit:=I.ok.mod.nolimit.keeps I.bk
theorem Inv.lt(I:Inv X pins σ H s):X.env.locals<s.heap.objs.size:=let⟨_,hn,_⟩:=I.loc;hn.lt
theorem Inv.sz(I:Inv X pins σ H s):X.s₀.heap.objs.size<=s.heap.objs.size:=VX I.ok.above (W2 I.lt)
theorem Inv.Q1(I:Inv X pins σ H s)(h:s.heap.objs.size<=a):a∉X.fs:=λ hb=>by
 obtain⟨_,o,ho,_⟩:=I.ok.jQ.mem hb;exact absurd (Wj (Wd ho) (VX I.sz h)) (Xs _)
theorem Inv.CJ(I:Inv X pins σ H s):∀x c,X.env.cells.lookup x=some c->c≠X.env.locals:=λ x c e z=>by
 obtain⟨v,o,ho,hd⟩:=I.cell x c e;obtain⟨m,⟨o',es,ep,ho',hd',_⟩,_⟩:=I.loc;rw[z,ho']at ho;cases ho;rw[hd']at hd;cases hd
theorem Inv.jQ(I:Inv X pins σ H s):s.heap.FunFrames X.base X.outer:=by
 have all:∀(l:List Env),(∀b∈pA l,b∈X.fs)->X.s₀.heap.FunFrames X.base l->s.heap.FunFrames X.base l:=by
  intro l;induction l with
  |nil=>intro _ _;trivial
  |cons env r ih=>
   intro hs hl;obtain⟨hk,⟨L,o,hf,hn,ho,hd⟩,hr⟩:=hl;have hL:L∈X.fs:=hs L (by unfold pA;rw[YJ,hf];exact V_);obtain⟨sl,e⟩:=I.base.slot L o ho (I.ok.wO L hL) hL λ z=>I.ok.vt L z hL;exact⟨hk,⟨L,_,hf,hn,e,hd⟩,ih (λ b hb=>hs b (by unfold pA;rw[YJ,hf];exact V5 _ hb)) hr⟩
 exact all X.outer (λ _ hb=>hb) I.ok.jQ
theorem Inv.stack(I:Inv X pins σ H s):s.heap.FunFrames X.base X.stack:=by
 rcases I.ok.D_ with e|⟨e,hf⟩
 . rw[e];exact I.jQ
 . rw[e];obtain⟨m,hn,_⟩:=I.loc;refine .cons (by rw[I.ok.kind];decide) hf hn ?_ I.jQ;exact Heap.get?_none_of_le (VX I.ok.rO I.ok.above)
theorem Inv.AY(I:Inv X pins σ H s):∀b∈pA X.stack,b∈X.env.locals::X.fs:=λ b hb=>by
 rcases I.ok.D_ with e|⟨e,hf⟩
 . rw[e]at hb;exact V5 _ hb
 . rw[e]at hb;unfold pA at hb;rw[YJ,hf]at hb;exact hb
theorem Inv.yz(I:Inv X pins σ H s):∀b∈pA X.stack,H b=none:=λ b hb=>by
 rcases V4.mp (I.AY b hb)with e|hb
 . rw[e];exact I.free
 . obtain⟨_,o,ho,_⟩:=I.ok.jQ.mem hb;exact I.base.free b o ho (I.ok.wO b hb) λ z=>I.ok.vt b z hb
theorem Inv.step{g':Array GenState}{t':Nat}{d':Drawn}{ch:List Addr}(I:Inv X pins σ H s)
 (hch:∀b∈ch,(b∈X.ex\/X.s₀.heap.objs.size<=b)/\b≠X.env.locals/\(∀x c,X.env.cells.lookup x=some c->c≠b)/\∀p∈X.pn++pins,p.1≠b)
 (keep:∀b o,b≠X.env.locals->b∉X.fs->b∉ch->s.heap.get? b=some o->H b=none->h'.get? b=some o)
 (slot:∀b o,b≠X.env.locals->b∈X.fs->b∉ch->s.heap.get? b=some o->H b=none->∃sl,h'.get? b=some {o with slots:=sl}) (free:∀b o,b∉ch->s.heap.get? b=some o->H b=none->H' b=none)
 (there:∀b o,b∉ch->s.heap.get? b=some o->∃o',h'.get? b=some o')
 (oM:∀b xs,H b=some (.tup xs)->H' b=some (.tup xs)) (nA:∀b o u,H b=some (.eJ o u)->H' b=some (.eJ o u)) (nM:∀b ps,H b=some (.jB ps)->∃more,H' b=some (.jB (ps++more)))
 (ns:∀m,s.heap.Ns X.env.locals m->h'.Ns X.env.locals m) (aC:gK X.prog X.w H' h') (hg:AllBare g'):
 Inv X pins σ H' {s with heap:=h',gens:=g',drawn:=d',toks:=t'}:=by
 have neL:∀b o,X.s₀.heap.get? b=some o->b≠X.env.locals:=λ b o e=>Wy (Wj (Wd e) I.ok.above)
 have neC:∀b o,X.s₀.heap.get? b=some o->b∉X.ex->b∉ch:=λ b o e hx hb=>by
  rcases(hch b hb).1 with z|z
  . exact hx z
  . exact absurd (Wj (Wd e) z) (Xs _)
 have cellK:∀x c,X.env.cells.lookup x=some c->∀v,s.heap.IsCell c v->h'.IsCell c v:=λ x c e v ⟨o,ho,hd⟩=>by
  have nch:c∉ch:=λ z=>(hch c z).2.2.1 x c e rfl;by_cases hc:c∈X.fs
  . obtain⟨sl,q⟩:=slot c o (I.CJ x c e) hc nch ho (I.hJ x c e);exact⟨_,q,hd⟩
  . exact⟨o,keep c o (I.CJ x c e) hc nch ho (I.hJ x c e),hd⟩
 refine⟨I.ok,I.os,hg,⟨λ b o e n hb hx=>?_,λ b o e n hb hx=>?_,λ b o e n hx=>?_,λ b o e hx=>?_,λ b xs e=>oM b xs (I.base.oM b xs e),λ b o xs e=>nA b o xs (I.base.nA b o xs e),λ b ps e=>?_⟩,?_,λ x c e=>?_,?_,λ x c e=>?_,λ p hp=>?_,aC,I.len⟩
 . exact keep b o (neL b o e) hb (neC b o e hx) (I.base.keep b o e n hb hx) (I.base.free b o e n hx)
 . obtain⟨sl,e1⟩:=I.base.slot b o e n hb hx;obtain⟨sl',e2⟩:=slot b _ (neL b o e) hb (neC b o e hx) e1 (I.base.free b o e n hx);exact⟨sl',e2⟩
 . obtain⟨o',e1⟩:=I.base.there b o e hx;exact free b o' (neC b o e hx) e1 (I.base.free b o e n hx)
 . obtain⟨o',e1⟩:=I.base.there b o e hx;exact there b o' (neC b o e hx) e1
 . obtain⟨m1,e1⟩:=I.base.nM b ps e;obtain⟨m2,e2⟩:=nM b _ e1;exact⟨m1++m2,by rw[e2,Array.append_assoc]⟩
 . obtain⟨m,hn,hl⟩:=I.loc;refine⟨m,ns m hn,λ i x v e1 e2 e3=>?_⟩;obtain⟨u,r,l⟩:=hl i x v e1 e2 e3;refine⟨u,r,?_⟩;rcases l with l|⟨k,c,e,z⟩
   . exact .inl l
   . exact .inr ⟨k,c,e,cellK x c e _ z⟩
 . obtain⟨v,z⟩:=I.cell x c e;exact⟨v,cellK x c e v z⟩
 . obtain⟨m,⟨o,_,_,ho,_⟩,_⟩:=I.loc;exact free _ o (λ z=>(hch _ z).2.1 rfl) ho I.free
 . obtain⟨v,o,ho,hd⟩:=I.cell x c e;exact free c o (λ z=>(hch c z).2.2.1 x c e rfl) ho (I.hJ x c e)
 . obtain⟨e,n,ne,nf,d⟩:=I.pin p hp;have nch:p.1∉ch:=λ z=>(hch p.1 z).2.2.2 p hp rfl;exact⟨keep p.1 p.2 ne nf nch e n,free p.1 p.2 nch e n,ne,nf,d⟩
theorem Inv.un{t':Nat}(I:Inv X pins σ H s)(u:Un X.fs [] H H' s.heap h')(aC:gK X.prog X.w H' h'):Inv X pins σ H' {s with heap:=h',toks:=t'}:=by
 obtain⟨m,⟨o,es,ep,ho,r⟩,_⟩:=id I.loc;obtain⟨sl,hL⟩:=u.any ho I.free (by simp)
 exact I.step (g':=s.gens) (d':=s.drawn) (ch:=[]) (λ _ z=>nomatch z) (λ b o _ hb _ e n=>u.keep b o e n hb (by simp)) (λ b o _ hb _ e n=>u.slot b o e n hb (by simp)) (λ b o _ e n=>u.free b o e n (by simp)) (λ b o _ e=>u.there b o e (by simp)) u.oM u.nA u.nM (λ m' hm=>by
  obtain⟨o',es',ep',ho',r'⟩:=hm;rw[ho]at ho';cases ho';exact⟨_,es',ep',hL,r'⟩) aC I.bare
theorem Inv.call{g':Array GenState}{t':Nat}{d':Drawn}{ch:List Addr}(I:Inv X pins σ H s)(u:Un (pA X.stack) ch H H' s.heap h')(aC:gK X.prog X.w H' h')(hg:AllBare g')
 (hch:∀b∈ch,(b∈X.ex\/X.s₀.heap.objs.size<=b)/\b≠X.env.locals/\(∀x c,X.env.cells.lookup x=some c->c≠b)/\∀p∈X.pn++pins,p.1≠b):
 Inv X pins σ H' {s with heap:=h',gens:=g',drawn:=d',toks:=t'}:=by
 obtain⟨m,⟨o,es,ep,ho,r⟩,_⟩:=id I.loc;obtain⟨sl,hL⟩:=u.any ho I.free λ z=>(hch _ z).2.1 rfl
 exact I.step (ch:=ch) hch (λ b o hL hb hc e n=>u.keep b o e n (λ z=>(V4.mp (I.AY b z)).elim hL hb) hc) (λ b o _ _ hc e n=>u.any e n hc) (λ b o hc e n=>u.free b o e n hc) (λ b o hc e=>u.there b o e hc) u.oM u.nA u.nM (λ m' hm=>by
  obtain⟨o',es',ep',ho',r'⟩:=hm;rw[ho]at ho';cases ho';exact⟨_,es',ep',hL,r'⟩) aC hg
theorem Inv.turned{t':Nat}{it:Addr}(I:Inv X pins σ H s)(k:∀b o,b≠it->s.heap.get? b=some o->h'.get? b=some o)(hn:H it=none)(hL:it≠X.env.locals)
 (h1:it∈X.ex\/X.s₀.heap.objs.size<=it) (h2:∀x c,X.env.cells.lookup x=some c->c≠it) (h3:∀p∈X.pn++pins,p.1≠it):Inv X pins σ H {s with heap:=h',toks:=t'}:=by
 have nit:∀b u,H b=some u->b≠it:=λ b u e z=>by rw[z,hn]at e;cases e
 refine I.step (g':=s.gens) (d':=s.drawn) (ch:=[it]) (λ b hb=>?_) (λ b o _ _ hc e _=>k b o (λ z=>hc (by simp[z])) e) (λ b o _ _ hc e _=>⟨o.slots,k b o (λ z=>hc (by simp[z])) e⟩) (λ _ _ _ _ n=>n)
  (λ b o hc e=>⟨o,k b o (λ z=>hc (by simp[z])) e⟩) (λ _ _ e=>e) (λ _ _ _ e=>e) (λ b ps e=>⟨#[],by rw[e];simp⟩) (λ m hm=>?_) (λ b u e=>?_) I.bare
 . have e:b=it:=by simpa using hb
   subst e;exact⟨h1,hL,h2,h3⟩
 . obtain⟨o,es,ep,ho,r⟩:=hm;exact⟨o,es,ep,k _ o (V6 hL) ho,r⟩
 . refine(I.aC b u e).ot (λ c v hc q=>k c v ?_ q) (λ _ q=>q) λ _ _ q=>q;rcases hc with z|z
   . rw[z];exact nit b u e
   . exact nit c _ z
theorem Inv.tok(I:Inv X pins σ H s)(t:Nat):Inv X pins σ H {s with toks:=t}:=I.un (h':=s.heap) (t':=t) Un.refl I.aC
theorem Inv.kept(I:Inv X pins σ H s)(k:∀b u,s.heap.get? b=some u->h'.get? b=some u):Inv X pins σ H {s with heap:=h',toks:=t'}:=I.un (Un.kept k) (I.aC.kept k)
theorem Inv.laid(I:Inv X pins σ H s)(k:∀b u,s.heap.get? b=some u->h'.get? b=some u)(hp:s.heap.objs.size<=a)(new:cX X.prog X.w (upd H a o) h' a o):
 Inv X pins σ (upd H a o) {s with heap:=h',toks:=t'}:=I.un (Un.laid k hp (I.aC.fresh hp)) (I.aC.laid k hp new)
theorem Inv.write{x e:Addr}(I:Inv X pins σ H s)(mu:LX (H x))(he:e=x\/H e=some (.own x))(k:∀b u,b≠e->s.heap.get? b=some u->h'.get? b=some u)(heo:∃u,h'.get? e=some u)
 (new:cX X.prog X.w (upd H x o) h' x o):Inv X pins σ (upd H x o) {s with heap:=h',toks:=t'}:=I.un (Un.write mu he k heo) (I.aC.write mu he k heo new)
theorem Inv.um(I:Inv X pins σ H s)(h:∀p∈pins',s.heap.get? p.1=some p.2/\H p.1=none/\p.1≠X.env.locals/\p.1∉X.fs/\∀v,p.2.data≠ .cell v):Inv X pins' σ H s:=
 ⟨I.ok,I.os,I.bare,I.base,I.loc,I.cell,I.free,I.hJ,λ p hp=>(Wf.mp hp).elim (λ z=>I.pin p (W5 _ z)) (h p),I.aC,I.len⟩
theorem Co{N:List Str}(hN:N.Nodup){i j:Nat}{x:Str}(a:N[i]?=some x)(b:N[j]?=some x):i=j:=by
 obtain⟨h1,e1⟩:=VV.mp a;obtain⟨h2,e2⟩:=VV.mp b;exact(List.getElem_inj hN).mp (e1.trans e2.symm)
theorem yR{M:Model}{A:Around}{E:Value->Shared->Prop}{i:Nat}{x:Str}{v:V}{u:Value}{Q:Unit->Shared->Prop}(I:Inv X pins σ H s)(hN:X.N.Nodup)(hi:X.N[i]?=some x)(hx:Loc X.env.scope x)(r:RelV v u)
 (h:∀s',Inv X pins (σ.set i (some v)) H s'->(∃a,Heap.SameBut a s.heap s'.heap/\(a=X.env.locals\/X.env.cells.lookup x=some a))->Q () s') (hf:X.fn x=true\/X.env.scope.names.lookup x=some .local:=by first|exact .inl rfl|exact .inr rfl|assumption):wpAny M A (storeName X.env x u) Q E s:=by
 obtain⟨m,hn,hl⟩:=id I.loc;have hcls:(X.env.scope.kind== .class||(X.env.scope.kind== .module&&X.env.locals != X.env.globals))=false:=by rw[I.ok.kind];rfl
 have hiσ:i<σ.length:=by rw[I.len];exact(VV.mp hi).1
 have CJ:=I.CJ
 have tracked:∀ {a:Addr} {h':Heap},(∃o,s.heap.get? a=some o/\H a=none)->Heap.SameBut a s.heap h'->gK X.prog X.w H h':=λ{a h'} ha hs b ob e=>by
  obtain⟨_,_,hfree⟩:=ha;refine(I.aC b ob e).ot (λ c w' hc q=>(hs.2 c ?_).trans q) (λ _ q=>q) λ _ _ q=>q;rintro rfl;rcases hc with rfl|hc
  . rw[hfree]at e;cases e
  . rw[hfree]at hc;cases hc
 rcases hx with hk|hk
 . refine wpAny_storeName_local hk hn (λ h' hn' hs=>?_) hcls;obtain⟨oL,_,_,hoL,_⟩:=id hn;refine h _ ⟨I.ok,I.os,I.bare,⟨λ b o e n hb hx=>?_,λ b o e n hb hx=>?_,I.base.free,λ b o e hx=>?_,I.base.oM,I.base.nA,I.base.nM⟩,⟨_,hn',λ j y v' e1 e2 e3=>?_⟩,λ y c e=>?_,I.free,I.hJ,λ p hp=>?_,tracked ⟨oL,hoL,I.free⟩ hs,by simpa using I.len⟩ ⟨_,hs,.inl rfl⟩
   . exact(hs.2 b (Wy (Wj (Wd e) I.ok.above))).trans (I.base.keep b o e n hb hx)
   . obtain⟨sl,e1⟩:=I.base.slot b o e n hb hx;exact⟨sl,(hs.2 b (Wy (Wj (Wd e) I.ok.above))).trans e1⟩
   . obtain⟨o',e1⟩:=I.base.there b o e hx;exact⟨o',(hs.2 b (Wy (Wj (Wd e) I.ok.above))).trans e1⟩
   . by_cases hj:j=i
     . subst hj;rw[hi]at e1;cases e1;rw[V7 hiσ]at e2;cases e2;exact⟨u,r,.inl ⟨hk,by simp⟩⟩
     . rw[VW (V6 hj)]at e2;obtain⟨u',r',q⟩:=hl j y v' e1 e2 e3;refine⟨u',r',?_⟩;rcases q with⟨k,e⟩|⟨k,c,e,z⟩
       . refine .inl ⟨k,?_⟩;have:y≠x:=λ e=>hj (Co hN e1 (e▸hi));simp[this,e]
       . exact .inr ⟨k,c,e,z.sameBut hs (CJ y c e)⟩
   . obtain⟨w',z⟩:=I.cell y c e;exact⟨w',z.sameBut hs (CJ y c e)⟩
   . obtain⟨e,n,ne,nf,d⟩:=I.pin p hp;exact⟨(hs.2 p.1 ne).trans e,n,ne,nf,d⟩
 . have hfn:X.fn x=true:=by
    rcases hf with z|z
    . exact z
    . rw[z]at hk;cases hk
   obtain⟨c,hc⟩:=I.ok.has x (.inl hk);obtain⟨w',z⟩:=I.cell x c hc;refine wpAny_storeName_cell I.ok.kind hk hc z (λ h' hc' hs=>?_);obtain⟨oc,hoc,hocd⟩:=id z;refine h {s with heap:=h'} ⟨I.ok,I.os,I.bare,⟨λ b o e n hb hx=>?_,λ b o e n hb hx=>?_,I.base.free,λ b o e hx=>?_,I.base.oM,I.base.nA,I.base.nM⟩,⟨m,hn.sameBut hs (V6 (CJ x c hc)),λ j y v' e1 e2 e3=>?_⟩,λ y c' e=>?_,I.free,I.hJ,λ p hp=>?_,tracked ⟨oc,hoc,I.hJ x c hc⟩ hs,by simpa using I.len⟩ ⟨c,hs,.inr hc⟩
   . exact(hs.2 b (Wy (Wj (Wd e) (I.ok.Ct x c hfn hc)))).trans (I.base.keep b o e n hb hx)
   . obtain⟨sl,e1⟩:=I.base.slot b o e n hb hx;exact⟨sl,(hs.2 b (Wy (Wj (Wd e) (I.ok.Ct x c hfn hc)))).trans e1⟩
   . obtain⟨o',e1⟩:=I.base.there b o e hx;exact⟨o',(hs.2 b (Wy (Wj (Wd e) (I.ok.Ct x c hfn hc)))).trans e1⟩
   . by_cases hj:j=i
     . subst hj;rw[hi]at e1;cases e1;rw[V7 hiσ]at e2;cases e2;exact⟨u,r,.inr ⟨.inl hk,c,hc,hc'⟩⟩
     . rw[VW (V6 hj)]at e2;obtain⟨u',r',q⟩:=hl j y v' e1 e2 e3;refine⟨u',r',?_⟩;rcases q with q|⟨k,c',e,z'⟩
       . exact .inl q
       . refine .inr ⟨k,c',e,z'.sameBut hs ?_⟩;rintro rfl;exact hj (Co hN e1 (I.ok.inj _ _ _ e hc▸hi))
   . by_cases hcc:c'=c
     . subst hcc;exact⟨_,hc'⟩
     . obtain⟨w2,z2⟩:=I.cell y c' e;exact⟨w2,z2.sameBut hs hcc⟩
   . obtain⟨e,n,ne,nf,d⟩:=I.pin p hp;refine⟨(hs.2 p.1 ?_).trans e,n,ne,nf,d⟩;intro q;rw[q,hoc]at e;have q':oc=p.2:=WQ e;exact d w' (by rw[<-q'];exact hocd)
theorem v9{M:Model}{A:Around}{E:Value->Shared->Prop}{i:Nat}{x:Str}{v:V}{u:Value}{Q:Unit->Shared->Prop}(I:Inv X pins σ H s)(hN:X.N.Nodup)(hi:X.N[i]?=some x)(hx:Loc X.env.scope x)(r:RelV v u)
 (h:∀s',Inv X pins (σ.set i (some v)) H s'->Q () s') (hf:X.fn x=true\/X.env.scope.names.lookup x=some .local:=by first|exact .inl rfl|exact .inr rfl|assumption):wpAny M A (storeName X.env x u) Q E s:=
 yR I hN hi hx r (λ s' I' _=>h s' I') hf
theorem Inv.GJ(I:Inv X pins σ H s)(ho:s'.os=s.os)(u:Un (pA X.stack) ch H H' s.heap s'.heap)(aC:gK X.prog X.w H' s'.heap)(hg:AllBare s'.gens)
 (hch:∀b∈ch,(b∈X.ex\/X.s₀.heap.objs.size<=b)/\b≠X.env.locals/\(∀x c,X.env.cells.lookup x=some c->c≠b)/\∀p∈X.pn++pins,p.1≠b):Inv X pins σ H' s':=by
 obtain⟨h',g',d',t',o'⟩:=s';have e:o'=s.os:=ho;subst e;exact I.call (g':=g') (t':=t') (d':=d') u aC hg hch
end
abbrev XK:=Value->Option Addr->Hp->Prop
abbrev St:=List (Option V)
abbrev VK:=V->Hp->Prop
abbrev TE:=St->Hp->VK->Prop
abbrev TT:=St->Hp->(Bool->Hp->Prop)->Prop
abbrev TA:=St->Hp->(List V->Hp->Prop)->Prop
structure Ends where
 nx:St->Hp->Prop
 rt:VK
 bk:St->Hp->Prop:=λ _ _=>False
 ct:St->Hp->Prop:=λ _ _=>False
abbrev TS:=Ends->St->Hp->Prop
def EP(X:Cx)(pins:List (Addr×Obj))(σ:St)(Q:VK)(u:Value)(s':Shared):Prop:=∃v H',Inv X pins σ H' s'/\RelV v u/\Q v H'
def TP(X:Cx)(pins:List (Addr×Obj))(σ:St)(Q:Bool->Hp->Prop)(b:Bool)(s':Shared):Prop:=∃H',Inv X pins σ H' s'/\Q b H'
def AP(X:Cx)(pins:List (Addr×Obj))(σ:St)(Q:List V->Hp->Prop)(us:List Value)(s':Shared):Prop:=∃vs H',Inv X pins σ H' s'/\Vals vs us/\Q vs H'
def SP(X:Cx)(pins:List (Addr×Obj))(D:Ends)(f:Flow)(s':Shared):Prop:=
 match f with
 | .next=>∃σ' H',Inv X pins σ' H' s'/\D.nx σ' H'
 | .brk=>∃σ' H',Inv X pins σ' H' s'/\D.bk σ' H'
 | .cont=>∃σ' H',Inv X pins σ' H' s'/\D.ct σ' H'
 | .ret u=>∃v σ' H',Inv X pins σ' H' s'/\RelV v u/\D.rt v H'
def PE(X:Cx)(e:Expr)(t:TE):Prop:=
 ∀(pins:List (Addr×Obj)) (s:Shared) (σ:St) (H:Hp) (Q:VK),Inv X pins σ H s->t σ H Q->wpAny (model X.prog X.w) X.A (eval e X.env) (EP X pins σ Q) X.xe s
def PT(X:Cx)(e:Expr)(t:TT):Prop:=
 ∀(pins:List (Addr×Obj)) (s:Shared) (σ:St) (H:Hp) (Q:Bool->Hp->Prop),Inv X pins σ H s->t σ H Q->wpAny (model X.prog X.w) X.A (isTrue e X.env (eval e X.env)) (TP X pins σ Q) X.xe s
def PW(X:Cx)(e:Expr)(t:TT):Prop:=
 ∀(whole:Sem Value) (pins:List (Addr×Obj)) (s:Shared) (σ:St) (H:Hp) (Q:Bool->Hp->Prop),Inv X pins σ H s->t σ H Q->wpAny (model X.prog X.w) X.A (isTrue e X.env whole) (TP X pins σ Q) X.xe s
theorem PW.pt{e:Expr}(h:PW X e t):PT X e t:=h _
def PA(X:Cx)(es:List Expr)(t:TA):Prop:=
 ∀(pos:Pos) (pins:List (Addr×Obj)) (s:Shared) (σ:St) (H:Hp) (Q:List V->Hp->Prop),Inv X pins σ H s->t σ H Q->wpAny (model X.prog X.w) X.A (spliced (backTo pos (starEach es X.env))) (AP X pins σ Q) X.xe s
def PS(X:Cx)(st:Stmt)(t:TS):Prop:=
 ∀(pins:List (Addr×Obj)) (s:Shared) (σ:St) (H:Hp) (D:Ends),Inv X pins σ H s->t D σ H->wpAny (model X.prog X.w) X.A (exec st X.env) (SP X pins D) X.xe s
def gw(X:Cx)(st:List Stmt)(t:TS):Prop:=
 ∀(pins:List (Addr×Obj)) (s:Shared) (σ:St) (H:Hp) (D:Ends),Inv X pins σ H s->t D σ H->wpAny (model X.prog X.w) X.A (execs st X.env) (SP X pins D) X.xe s
theorem bI{α:Type}{t:Sem α}{Q Q':α->Shared->Prop}{M:Model}{A:Around}{E:Value->Shared->Prop}{s:Shared}(h:wpAny M A t Q E s)(hQ:∀a s,Q a s->Q' a s):wpAny M A t Q' E s:=XC h hQ λ _ _ x=>x
section
variable {X:Cx}
def O4(i:Nat):TE:=λ σ H Q=>∃v,σ[i]?=some (some v)/\Q v H
def tC(v:V):TE:=λ _ H Q=>Q v H
theorem Rr(hN:X.N[i]?=some x)(hv:Di X.env.scope x)(hd:(x==("__debug__":Str))=false:=by decide)(hcd:(x==("__classdict__":Str))=false:=by decide):PE X (.Name x pos) (O4 i):=by
 intro pins s σ H Q I h;obtain⟨v,e,h⟩:=h;obtain⟨m,hn,hl⟩:=I.loc;obtain⟨u,r,l⟩:=hl i x v hN e hv;have fin:EP X pins σ Q u s:=⟨v,H,I,r,h⟩
 rcases l with⟨hk,hm⟩|⟨hk,c,hc,hcell⟩
 . exact wpAny_Name (wpAny_loadName_local I.ok.kind hk hn hm fin) hd
 . rcases hk with hk|hk
   . exact wpAny_Name (wpAny_loadName_cell I.ok.kind hk hc hcell fin) hd
   . exact wpAny_Name (wpAny_loadName_free I.ok.kind hk hc hcell fin hcd) hd
theorem Rh{i j pos}:PE X (.Constant (.int i) j pos) (tC (.int i)):=λ _ _ _ H _ I h=>wpAny_Constant_int ⟨.int i,H,I.tok _,⟨_,rfl⟩,h⟩
theorem RU{b j pos}:PE X (.Constant (.bool b) j pos) (tC (.bl b)):=λ _ _ _ H _ I h=>Constant_bool ⟨.bl b,H,I,rfl,h⟩
theorem Rl{j pos}:PE X (.Constant .none j pos) (tC .ao):=λ _ _ _ H _ I h=>Constant_none ⟨.ao,H,I,rfl,h⟩
theorem PX{x j pos}:PE X (.Constant (.str x) j pos) (tC (.str x)):=λ _ _ _ H _ I h=>Calls.Constant_str ⟨.str x,H,I.tok _,⟨_,rfl⟩,h⟩
def Gl(X:Cx)(x:Str):Prop:=X.env.kindOf x=some .globalImplicit
theorem Eh(I:Inv X pins σ H s)(hg:Gl X x)(hm:X.mg x=some u)(h:Q u s)
 (hd:(x==("__debug__":Str))=false:=by decide):wpAny (model X.prog X.w) X.A (eval (.Name x pos) X.env) Q E s:=
 ZR I.ok.kind hg (Calls.loadGlobal_global (by rw[I.ok.glob];exact I.mod.glob.keeps I.bk) hm h) hd
theorem lg{E:Value->Shared->Prop}{pins:List (Addr×Obj)}{s:Shared}{σ:St}{H:Hp}{x:Str}{u:Value}{pos:Pos}{Q:Value->Shared->Prop}(I:Inv X pins σ H s)(hg:Gl X x)(hm:X.mg x=none)(hv:bootBuiltins x=some u)(h:Q u s)
 (hn:x≠"__name__":=by decide) (hd:(x==("__debug__":Str))=false:=by decide):wpAny (model X.prog X.w) X.A (eval (.Name x pos) X.env) Q E s:=by
 obtain⟨mb,h1,h2⟩:=I.mod.blt;exact ZR I.ok.kind hg (Calls.loadGlobal_builtin (by rw[I.ok.glob];exact I.mod.glob.keeps I.bk) hm (by rw[I.ok.blt];exact h1.keeps I.bk) ((h2 x hn).trans hv) h) hd
theorem Nx(hg:Gl X x)(hm:X.mg x=none)(hv:bootBuiltins x=some u)(r:RelV v u)(hn:x≠"__name__":=by decide)(hd:(x==("__debug__":Str))=false:=by decide):PE X (.Name x pos) (tC v):=
 λ _ _ _ H _ I h=>lg I hg hm hv ⟨v,H,I,r,h⟩ hn hd
variable {a b:Expr}{ta tb:TE}{pos:Pos}
def tB(t:TE):TT:=λ σ H Q=>t σ H λ x H1=>∃c,x= .bl c/\Q c H1
theorem Qg{e:Expr}{t:TE}(h:PE X e t)(he:∀whole,isTrue e X.env whole=(do let v <-whole;standAt e.pos;holding [v] (truthy v)):=by intro _;rfl):PT X e (tB t):=by
 intro pins s σ H Q I hw;refine isTrue_plain (bI (h pins s σ H _ I hw) λ v s1 ⟨x,H1,I1,r1,q1⟩=>?_) (he _);obtain⟨d,rfl,q⟩:=q1;cases r1;exact XN ⟨H1,I1,q⟩
variable {tA tB':TT}{rest:List Expr}
def PY(t u:TT):TT:=λ σ H Q=>t σ H λ c H1=>if c=true then u σ H1 Q else Q false H1
def T9(t u:TT):TT:=λ σ H Q=>t σ H λ c H1=>if c=true then Q true H1 else u σ H1 Q
def UZ(t:TT):TT:=λ σ H Q=>t σ H λ c H1=>Q (!c) H1
theorem pw_and1(ha:PT X a tA):PW X (.BoolOp .And [a] pos) tA:=by
 intro wh pins s σ H Q I h;refine isTrue_and (bI (ha pins s σ H Q I h) λ c s1 e=>?_);cases c with
 |true=>exact isTrue_and_nil e
 |false=>exact e
theorem pw_or1(ha:PT X a tA):PW X (.BoolOp .Or [a] pos) tA:=by
 intro wh pins s σ H Q I h;refine isTrue_or (bI (ha pins s σ H Q I h) λ c s1 e=>?_);cases c with
 |false=>exact isTrue_or_nil e
 |true=>exact e
theorem pw_and(ha:PT X a tA)(hb:PW X (.BoolOp .And (b::rest) pos) tB'):PW X (.BoolOp .And (a::b::rest) pos) (PY tA tB'):=by
 intro wh pins s σ H Q I h;refine isTrue_and (bI (ha pins s σ H _ I h) λ c s1 ⟨H1,I1,q1⟩=>?_);cases c with
 |true=>exact hb wh pins s1 σ H1 Q I1 q1
 |false=>exact⟨H1,I1,q1⟩
theorem pw_or(ha:PT X a tA)(hb:PW X (.BoolOp .Or (b::rest) pos) tB'):PW X (.BoolOp .Or (a::b::rest) pos) (T9 tA tB'):=by
 intro wh pins s σ H Q I h;refine isTrue_or (bI (ha pins s σ H _ I h) λ c s1 ⟨H1,I1,q1⟩=>?_);cases c with
 |true=>exact⟨H1,I1,q1⟩
 |false=>exact hb wh pins s1 σ H1 Q I1 q1
theorem Qn(ha:PT X a tA):PT X (.UnaryOp .Not a pos) (UZ tA):=by
 intro pins s σ H Q I h;exact isTrue_not (ha pins s σ H (λ c H1=>Q (!c) H1) I h)
def SA(ta tb:TE):TE:=λ σ H Q=>ta σ H λ x H1=>∃c,x= .bl c/\if c=true then tb σ H1 Q else Q (.bl false) H1
def UU(ta tb:TE):TE:=λ σ H Q=>ta σ H λ x H1=>∃c,x= .bl c/\if c=true then Q (.bl true) H1 else tb σ H1 Q
def R6(ta:TE):TE:=λ σ H Q=>ta σ H λ x H1=>∃c,x= .bl c/\Q (.bl (!c)) H1
theorem Pq{op}(h:PE X a t):PE X (.BoolOp op [a] pos) t:=λ pins s σ H Q I hw=>BoolOp_one (h pins s σ H Q I hw)
theorem Pc(ha:PE X a ta)(hb:PE X (.BoolOp .And (b::rest) pos) tb):PE X (.BoolOp .And (a::b::rest) pos) (SA ta tb):=by
 intro pins s σ H Q I h;refine BoolOp_and (bI (ha pins s σ H _ I h) λ v s1 ⟨x,H1,I1,r1,q1⟩=>?_);obtain⟨c,rfl,q1⟩:=q1;cases r1;refine XN ?_;cases c with
 |true=>exact hb pins s1 σ H1 Q I1 q1
 |false=>exact⟨.bl false,H1,I1,rfl,q1⟩
theorem Tj(ha:PE X a ta)(hb:PE X (.BoolOp .Or (b::rest) pos) tb):PE X (.BoolOp .Or (a::b::rest) pos) (UU ta tb):=by
 intro pins s σ H Q I h;refine BoolOp_or (bI (ha pins s σ H _ I h) λ v s1 ⟨x,H1,I1,r1,q1⟩=>?_);obtain⟨c,rfl,q1⟩:=q1;cases r1;refine XN ?_;cases c with
 |false=>exact hb pins s1 σ H1 Q I1 q1
 |true=>exact⟨.bl true,H1,I1,rfl,q1⟩
theorem Ql(ha:PE X a ta):PE X (.UnaryOp .Not a pos) (R6 ta):=by
 intro pins s σ H Q I h;refine UnaryOp_ (bI (ha pins s σ H _ I h) λ v s1 ⟨x,H1,I1,r1,q1⟩=>?_);obtain⟨c,rfl,q1⟩:=q1;cases r1;exact not_of (XN ⟨.bl (!c),H1,I1,rfl,q1⟩)
def VC(t:TT)(ta tb:TE):TE:=λ σ H Q=>t σ H λ c H1=>if c=true then ta σ H1 Q else tb σ H1 Q
theorem Lc{c:Expr}(hc:PT X c tA)(ha:PE X a ta)(hb:PE X b tb):PE X (.IfExp c a b pos) (VC tA ta tb):=by
 intro pins s σ H Q I h;refine wpAny_IfExp (bI (hc pins s σ H _ I h) λ d s1 ⟨H1,I1,q1⟩=>?_);cases d with
 |true=>exact ha pins s1 σ H1 Q I1 q1
 |false=>exact hb pins s1 σ H1 Q I1 q1
end
def ll(K:PySem.W.Frag)(H:Hp)(a:Addr)(xs:List V):Prop:=
 Rd H a (.lst xs)\/
  ∃(o:Obj) (aj:Array Value) (n:Nat),K.lookup a=some o/\o.cls= .type "list"/\o.dict=none/\o.data= .seq aj n/\aj.size<=sizeLine/\Vals xs aj.toList
def hZ(K:PySem.W.Frag)(H:Hp)(a:Addr)(xs:List V):Prop:=
 Rd H a (.tup xs)\/
  ∃(o:Obj) (aj:Array Value) (n:Nat),K.lookup a=some o/\o.cls= .type "tuple"/\o.data= .seq aj n/\aj.size<=sizeLine/\Vals xs aj.toList
def Uv:Value->Option V
 | .none=>some .ao
 | .bool b=>some (.bl b)
 | .int i _=>some (.int i)
 | .str x _=>some (.str x)
 | .bytes b _=>some (.uV b)
 | .float b _=>some (.uW b)
 | .ref a=>some (.ref a)
 | .type n=>some (.ty n)
 |_=>none
theorem RelV.abs(r:RelV x u):Uv u=some x:=by
 cases x with
 |ao=>cases r;rfl
 |bl _=>cases r;rfl
 |int _=>obtain⟨t,rfl⟩:=r;rfl
 |str _=>obtain⟨t,rfl⟩:=r;rfl
 |uV _=>obtain⟨t,rfl⟩:=r;rfl
 |uW _=>obtain⟨t,rfl⟩:=r;rfl
 |ref _=>cases r;rfl
 |ty _=>cases r;rfl
theorem RelV.inj(r:RelV x u)(q:RelV y u):x=y:=WQ (r.abs.symm.trans q.abs)
theorem Vals.inj:∀ {xs ys:List V} {us:List Value},Vals xs us->Vals ys us->xs=ys
 |_,_,_,.nil,.nil=>rfl
 |_,_,_,.cons r t,.cons r' t'=>by rw[r.inj r',Vals.inj t t']
section
variable {X:Cx}{pins:List (Addr×Obj)}{σ:St}{H:Hp}{s:Shared}{a:Addr}{xs ys:List V}
theorem ll.of{K:PySem.W.Frag}(h:H a=some (.lst xs)):ll K H a xs:= .inl (.inl h)
theorem hZ.of{K:PySem.W.Frag}(h:H a=some (.tup xs)):hZ K H a xs:= .inl (.inl h)
theorem Inv.list(I:Inv X pins σ H s)(h:ll X.K H a xs):∃aj:List Value,Vals xs aj/\PlainL s.heap a aj.toArray/\xs.length<=sizeLine:=by
 rcases h with h|⟨o,aj,n,hk,hc,hd,hs,hz,r⟩
 . obtain⟨z,aj,n,r,e⟩:=h.ok I.aC;exact⟨aj,r,⟨_,n,e,rfl,rfl,rfl⟩,z⟩
 . refine⟨aj.toList,r,⟨o,n,I.gu a o hk,hc,hd,by simpa using hs⟩,?_⟩;have e:=r.length;simp only[Xg]at e;omega
theorem Inv.tuple(I:Inv X pins σ H s)(h:hZ X.K H a xs):∃aj:List Value,Vals xs aj/\IsTup s.heap a aj.toArray/\xs.length<=sizeLine:=by
 rcases h with h|⟨o,aj,n,hk,hc,hs,hz,r⟩
 . obtain⟨z,aj,r,p⟩:=h.ok I.aC;exact⟨aj,r,p,z⟩
 . refine⟨aj.toList,r,⟨o,I.gu a o hk,hc,n,by simpa using hs⟩,?_⟩;have e:=r.length;simp only[Xg]at e;omega
theorem Inv.BY(I:Inv X pins σ H s)(h:ll X.K H a xs)(h':ll X.K H a ys):xs=ys:=by
 obtain⟨aj,r,⟨o,n,e,_,_,d⟩,_⟩:=I.list h;obtain⟨its',r',⟨o',n',e',_,_,d'⟩,_⟩:=I.list h';rw[e]at e';cases e';rw[d]at d';injection d' with d1 _;have:aj=its':=by simpa using Xr Array.toList d1
 subst this;exact r.inj r'
theorem Inv.zx(I:Inv X pins σ H s)(h:hZ X.K H a xs)(h':hZ X.K H a ys):xs=ys:=by
 obtain⟨aj,r,⟨o,e,_,n,d⟩,_⟩:=I.tuple h;obtain⟨its',r',⟨o',e',_,n',d'⟩,_⟩:=I.tuple h';rw[e]at e';cases e';rw[d]at d';injection d' with d1 _;have:aj=its':=by simpa using Xr Array.toList d1
 subst this;exact r.inj r'
end
abbrev Cx.oQ(X:Cx)(E:Value->Shared->Prop):Cx:={X with xe:=E}
abbrev Cx.vb(X:Cx):Cx:=X.oQ λ _ _=>False
theorem Cx.Ok.oQ{X:Cx}(ok:X.Ok)(E:Value->Shared->Prop):(X.oQ E).Ok:=
 ⟨ok.mod,ok.kind,ok.glob,ok.blt,ok.above,ok.inj,ok.has,ok.Ct,ok.hd,ok.frames,ok.D_,ok.Jg,ok.bs,ok.rO,ok.vU,ok.vt,ok.jQ,ok.wO,ok.gt⟩
theorem Cx.Ok.kW{X:Cx}{E:Value->Shared->Prop}(ok:(X.oQ E).Ok):X.Ok:=
 ⟨ok.mod,ok.kind,ok.glob,ok.blt,ok.above,ok.inj,ok.has,ok.Ct,ok.hd,ok.frames,ok.D_,ok.Jg,ok.bs,ok.rO,ok.vU,ok.vt,ok.jQ,ok.wO,ok.gt⟩
section
variable {X:Cx}{pins:List (Addr×Obj)}{σ:St}{H:Hp}{s:Shared}{E:Value->Shared->Prop}
theorem Inv.oQ(I:Inv X pins σ H s)(E:Value->Shared->Prop):Inv (X.oQ E) pins σ H s:=⟨I.ok.oQ E,I.os,I.bare,I.base,I.loc,I.cell,I.free,I.hJ,I.pin,I.aC,I.len⟩
theorem Inv.kW(I:Inv (X.oQ E) pins σ H s):Inv X pins σ H s:=⟨I.ok.kW,I.os,I.bare,I.base,I.loc,I.cell,I.free,I.hJ,I.pin,I.aC,I.len⟩
theorem SP.kW{D:Ends}(h:SP (X.oQ E) pins D f s'):SP X pins D f s':=by
 cases f with
 |next=>obtain⟨σ',H',I,q⟩:=h;exact⟨σ',H',I.kW,q⟩
 |brk=>obtain⟨σ',H',I,q⟩:=h;exact⟨σ',H',I.kW,q⟩
 |cont=>obtain⟨σ',H',I,q⟩:=h;exact⟨σ',H',I.kW,q⟩
 |ret u=>obtain⟨v,σ',H',I,r,q⟩:=h;exact⟨v,σ',H',I.kW,r,q⟩
theorem gw.vb{st:List Stmt}{t:TS}(h:gw X.vb st t):gw X st t:=λ pins s σ H D I hw=>
 XC (h pins s σ H D (I.oQ _) hw) (λ _ _ q=>q.kW) λ _ _ z=>False.elim z
end
section
variable {X:Cx}{st:Stmt}{rest:List Stmt}{t u:TS}{e:Expr}{te:TE}{pos:Pos}
def Sz:TS:=λ D σ H=>D.nx σ H
def UP(t u:TS):TS:=λ D σ H=>t {D with nx:=u D} σ H
theorem N_:gw X [] Sz:=λ _ _ σ H _ I h=>Zn ⟨σ,H,I,h⟩
theorem Lf(h1:PS X st t)(h2:gw X rest u):gw X (st::rest) (UP t u):=by
 intro pins s σ H D I h;refine wpAny_execs_cons (bI (h1 pins s σ H {D with nx:=u D} I h) λ f s1 q=>?_);cases f with
 |next=>
  obtain⟨σ',H',I',q⟩:=q;exact h2 pins s1 σ' H' D I' q
 |ret v=>exact q
 |brk=>exact q
 |cont=>exact q
theorem NJ(h1:PS X st t):gw X [st] t:=by
 intro pins s σ H D I h;refine wpAny_execs_cons (bI (h1 pins s σ H D I h) λ f s1 q=>?_);cases f with
 |next=>exact Zn q
 |ret v=>exact q
 |brk=>exact q
 |cont=>exact q
theorem Inv.quiet(I:Inv X pins σ H s):interactive X.env=false:=by simp[interactive,I.ok.kind]
def SH(te:TE):TS:=λ D σ H=>te σ H λ _ H1=>D.nx σ H1
theorem OI(he:PE X e te)(hs:swapsWith e none pos.line X.env=pure false:=by rfl):PS X (.Expr e pos) (SH te):=by
 intro pins s σ H D I h;exact wpAny_Expr_any (bI (he pins s σ H _ I h) λ v s1 ⟨x,H1,I1,r1,q1⟩=>⟨σ,H1,I1,q1⟩) I.quiet hs
def UI(te:TE):TS:=λ D σ H=>te σ H D.rt
theorem Ph(he:PE X e te):PS X (.Return (some e) pos) (UI te):=by
 intro pins s σ H D I h;exact wpAny_Return_some (bI (he pins s σ H _ I h) λ v s1 ⟨x,H1,I1,r1,q1⟩=>⟨x,σ,H1,I1,r1,q1⟩)
def Ul(c:TT)(t u:TS):TS:=λ D σ H=>c σ H λ b H1=>if b=true then t D σ H1 else u D σ H1
theorem R0{c:Expr}{a b:List Stmt}{tc:TT}(hc:PT X c tc)(ha:gw X a t)(hb:gw X b u):PS X (.If c a b pos) (Ul tc t u):=by
 intro pins s σ H D I h;refine wpAny_If (bI (hc pins s σ H _ I h) λ d s1 ⟨H1,I1,q1⟩=>?_);cases d with
 |true=>exact ha pins s1 σ H1 D I1 q1
 |false=>exact hb pins s1 σ H1 D I1 q1
end
abbrev TG:=V->St->Hp->(St->Hp->Prop)->Prop
abbrev A_:=List V->St->Hp->(St->Hp->Prop)->Prop
def PG(X:Cx)(target:Expr)(t:TG):Prop:=
 ∀(pins:List (Addr×Obj)) (s:Shared) (σ:St) (H:Hp) (v:V) (u:Value) (Q:St->Hp->Prop),Inv X pins σ H s->RelV v u->t v σ H Q->
  wpAny (model X.prog X.w) X.A (assign target X.env u) (λ _ s'=>∃σ' H',Inv X pins σ' H' s'/\Q σ' H') X.xe s
def JF(X:Cx)(ts:List Expr)(t:A_):Prop:=
 ∀(pins:List (Addr×Obj)) (s:Shared) (σ:St) (H:Hp) (vs:List V) (us:List Value) (Q:St->Hp->Prop),Inv X pins σ H s->Vals vs us->t vs σ H Q->
  wpAny (model X.prog X.w) X.A (assignInOrder ((assignEach ts X.env).map (·.2)) us) (λ _ s'=>∃σ' H',Inv X pins σ' H' s'/\Q σ' H') X.xe s
abbrev Km:=V->V->V->Hp->(Hp->Prop)->Prop
def QT(X:Cx)(t:Km):Prop:=
 ∀(pins:List (Addr×Obj)) (s:Shared) (σ:St) (H:Hp) (o i v:V) (ov iv u:Value) (Q:Hp->Prop),Inv X pins σ H s->RelV o ov->RelV i iv->RelV v u->t o i v H Q->
  wpAny (model X.prog X.w) X.A (setItem ov iv u) (λ _ s'=>∃H',Inv X pins σ H' s'/\Q H') X.xe s
abbrev MR:=V->V->Hp->VK->Prop
def PZ(X:Cx)(op:Operator)(t:MR):Prop:=
 ∀(pins:List (Addr×Obj)) (s:Shared) (σ:St) (H:Hp) (x y:V) (v u:Value) (Q:VK),Inv X pins σ H s->RelV x v->RelV y u->t x y H Q->
  wpAny (model X.prog X.w) X.A (inplaceOp op v u) (EP X pins σ Q) X.xe s
section
variable {X:Cx}{pos:Pos}
def kP(i:Nat):TG:=λ v σ H Q=>Q (σ.set i (some v)) H
theorem xX(hN:X.N.Nodup)(hi:X.N[i]?=some x)(hx:Loc X.env.scope x)(hf:X.fn x=true\/X.env.scope.names.lookup x=some .local:=by first|exact .inl rfl|exact .inr rfl|assumption):PG X (.Name x pos) (kP i):=by
 intro pins s σ H v u Q I r h;exact wpAny_assign_Name (v9 I hN hi hx r (λ s' I'=>⟨_,H,I',h⟩) hf)
def J9:A_:=λ vs σ H Q=>vs=[]/\Q σ H
def xH(t:TG)(u:A_):A_:=λ vs σ H Q=>∃v r,vs=v::r/\t v σ H λ σ' H'=>u r σ' H' Q
theorem D7:JF X [] J9:=by
 intro pins s σ H vs us Q I r h;obtain⟨e,h⟩:=h;subst e;cases r;exact assignInOrder_nil ⟨σ,H,I,h⟩
theorem pZ{e:Expr}{es:List Expr}{t:TG}{u:A_}(h1:PG X e t)(h2:JF X es u)
 (hs:(assignEach (e::es) X.env).map (·.2)=assign e X.env::(assignEach es X.env).map (·.2):=by rfl):JF X (e::es) (xH t u):=by
 intro pins s σ H vs us Q I r h;obtain⟨v,vr,e1,h⟩:=h;subst e1;cases r with
 |cons r rr=>
  rw[hs];refine assignInOrder_cons (bI (h1 pins s σ H _ _ _ I r h) λ _ s1 ⟨σ1,H1,I1,q1⟩=>?_);exact h2 pins s1 σ1 H1 _ _ Q I1 rr q1
def Rj(K:PySem.W.Frag)(n:Nat)(t:A_):TG:=λ v σ H Q=>∃a xs,v= .ref a/\hZ K H a xs/\xs.length=n/\t xs σ H Q
theorem G8{k:Nat}(hc:X.calm=true)(h:JF X es t)
 (hn:(assignEach es X.env).length=n:=by rfl) (hst:(assignEach es X.env).findIdx? (·.1)=none:=by rfl):PG X (.Tuple es k pos) (Rj X.K n t):=by
 intro pins s σ H v u Q I r hw;obtain⟨a,xs,e1,hq,hl,hw⟩:=hw;subst e1;cases r;obtain⟨aj,rv,ht,hz⟩:=I.tuple hq;refine assign_Tuple_tuple (I.ok.hd hc) ht (by simp[hn,<-hl,rv.length]) hst λ h' hx=>?_;have I1:Inv X pins σ H {s with heap:=h'}:=I.kept (t':=s.toks) λ b o e=>hx b o (Wy (Wd e)) e;exact h pins _ σ H xs _ Q I1 (by simpa using rv) hw
def yf(to ti:TE)(t:Km):TG:=λ v σ H Q=>to σ H λ o H1=>ti σ H1 λ i H2=>t o i v H2 λ H3=>Q σ H3
theorem wJ{o i:Expr}{to ti:TE}{t:Km}(ho:PE X o to)(hi:PE X i ti)(hs:QT X t)
 (ha:∀v,assign (.Subscript o i pos) X.env v=(do
   let ov <-holding [v] (eval o X.env)
   let iv <-holding [v,ov] (eval i X.env)
   standAt pos
   holding [v,ov,iv] (setItem ov iv v)
   release [v,ov,iv] []):=by intro _;rfl):PG X (.Subscript o i pos) (yf to ti t):=by
 intro pins s σ H v u Q I r h;rw[ha];refine VR (Yr (bI (ho pins s σ H _ I h) λ ov s1 ⟨x,H1,I1,r1,q1⟩=>?_));refine VR (Yr (bI (hi pins s1 σ H1 _ I1 q1) λ iv s2 ⟨y,H2,I2,r2,q2⟩=>?_));refine VR (ZS (VR (Yr (bI (hs pins s2 σ H2 x y v ov iv u _ I2 r1 r2 r q2) λ _ s3 ⟨H3,I3,q3⟩=>?_))));exact wpAny_release ⟨σ,H3,I3,q3⟩
def kv(te:TE)(g:TG):TS:=λ D σ H=>te σ H λ x H1=>g x σ H1 D.nx
theorem wK{tg e:Expr}{te:TE}{g:TG}(he:PE X e te)(hg:PG X tg g)(hs:swapsWithSole [tg] e pos.line X.env=pure false:=by rfl)(hw:swappedStores [tg] e X.env=pure none:=by rfl)
 (h1:(assignEach [tg] X.env).map (·.2)=[assign tg X.env]:=by rfl):PS X (.Assign [tg] e pos) (kv te g):=by
 intro pins s σ H D I h;refine wpAny_Assign_stores (bI (he pins s σ H _ I h) λ v s1 ⟨x,H1,I1,r1,q1⟩=>?_) hs hw;rw[h1];exact bI (hg pins s1 σ H1 x v _ I1 r1 q1) λ _ s2 q=>q
theorem QM{i:Nat}{x:Str}{e:Expr}{te:TE}{pos':Pos}(hN:X.N.Nodup)(hi:X.N[i]?=some x)(hx:Loc X.env.scope x)(he:PE X e te)(hs:swapsWith e (some (.Name x pos')) pos.line X.env=pure false:=by rfl)(hf:X.fn x=true\/X.env.scope.names.lookup x=some .local:=by first|exact .inl rfl|exact .inr rfl|assumption):
 PS X (.Assign [.Name x pos'] e pos) (kv te (kP i)):=by
 intro pins s σ H D I h;refine wpAny_Assign_Name (bI (he pins s σ H _ I h) λ v s1 ⟨y,H1,I1,r1,q1⟩=>?_) hs;exact v9 I1 hN hi hx r1 (λ s2 I2=>⟨_,H1,I2,q1⟩) hf
def Py(i:Nat)(te:TE)(ti:MR):TS:=λ D σ H=>∃x,σ[i]?=some (some x)/\te σ H λ y H1=>ti x y H1 λ z H2=>D.nx (σ.set i (some z)) H2
theorem Qp{i:Nat}{x:Str}{e:Expr}{te:TE}{op:Operator}{ti:MR}{pos':Pos}(hN:X.N.Nodup)(hi:X.N[i]?=some x)(hx:Loc X.env.scope x)(he:PE X e te)(ho:PZ X op ti)(hf:X.fn x=true\/X.env.scope.names.lookup x=some .local:=by first|exact .inl rfl|exact .inr rfl|assumption):
 PS X (.AugAssign (.Name x pos') op e pos) (Py i te ti):=by
 intro pins s σ H D I h;obtain⟨v,e1,h⟩:=h;obtain⟨m,hn,hl⟩:=I.loc;have vis:Di X.env.scope x:=by rcases hx with k|k;exact .inl k;exact .inr (.inl k)
 obtain⟨u,r,l⟩:=hl i x v hi e1 vis;refine wpAny_AugAssign_Name ?_
 have go:wpAny (model X.prog X.w) X.A (eval e X.env) (λ w s₂=>wpAny (model X.prog X.w) X.A (inplaceOp op u w) (λ r s₃=>wpAny (model X.prog X.w) X.A (storeName X.env x r) (λ _=>SP X pins D .next) X.xe s₃) X.xe s₂) X.xe s:=by
  refine bI (he pins s σ H _ I h) λ w s1 ⟨y,H1,I1,r1,q1⟩=>?_;refine bI (ho pins s1 σ H1 v y u w _ I1 r r1 q1) λ z s2 ⟨zv,H2,I2,r2,q2⟩=>?_;exact v9 I2 hN hi hx r2 (λ s3 I3=>⟨_,H2,I3,q2⟩) hf
 rcases l with⟨hk,hm⟩|⟨hk,c,hc,hcell⟩
 . exact wpAny_loadName_local I.ok.kind hk hn hm go
 . rcases hk with hk|hk
   . exact wpAny_loadName_cell I.ok.kind hk hc hcell go
   . rcases hx with k|k
     . have:X.env.scope.names.lookup x=some .free:=hk;rw[k]at this;cases this
     . have:X.env.scope.names.lookup x=some .free:=hk;rw[k]at this;cases this
def PU(f:Int->Int->Int):MR:=λ x y H Q=>∃i j,x= .int i/\y= .int j/\Q (.int (f i j)) H
theorem Rt:PZ X .Add (PU λ i j=>i+j):=by
 intro pins s σ H x y v u Q I r1 r2 h;obtain⟨i,j,e1,e2,q⟩:=h;subst e1;subst e2;obtain⟨t,rfl⟩:=r1;obtain⟨t',rfl⟩:=r2;exact iadd_int ⟨.int _,H,I.tok _,⟨_,rfl⟩,q⟩
def IV(c:TT)(tb:TS):TS:=λ D σ H=>∃W:Nat->St->Hp->Prop,(∃m,W m σ H)/\∀m σ H,W m σ H->
 c σ H λ b H1=>if b=true then∃N:St->Hp->Prop,(∀σ' H',N σ' H'->∃m',m'<m/\W m' σ' H')/\tb {D with nx:=N,ct:=N,bk:=D.nx} σ H1 else D.nx σ H1
theorem Li{c:Expr}{body:List Stmt}{tc:TT}{tb:TS}(hp:PassesOwn (model X.prog X.w) X.A X.env X.xe)(hc:PT X c tc)(hb:gw X body tb):PS X (.While c body [] pos) (IV tc tb):=by
 intro pins s σ H D I h;obtain⟨W,⟨m0,w0⟩,turn⟩:=h;refine wpAny_While (codeAny_whileLoop (λ n s'=>∃σ' H',Inv X pins σ' H' s'/\W n σ' H') ?_ m0 ⟨σ,H,I,w0⟩);rintro n s1 ⟨σ1,H1,I1,w1⟩;refine Yi hp (bI (hc pins s1 σ1 H1 _ I1 (turn n σ1 H1 w1)) λ b s2 ⟨H2,I2,q2⟩=>?_);cases b with
 |true=>
  obtain⟨N,hN,q2⟩:=q2;rw[VU rfl];refine Yi hp (bI (hb pins s2 σ1 H2 _ I2 q2) λ f s3 q3=>?_);cases f with
  |next=>
   obtain⟨σ3,H3,I3,n3⟩:=q3;obtain⟨m',hm,w3⟩:=hN σ3 H3 n3;exact⟨m',hm,σ3,H3,I3,w3⟩
  |cont=>
   obtain⟨σ3,H3,I3,n3⟩:=q3;obtain⟨m',hm,w3⟩:=hN σ3 H3 n3;exact⟨m',hm,σ3,H3,I3,w3⟩
  |brk=>exact q3
  |ret v=>exact q3
 |false=>
  rw[VT WG];exact Zn ⟨σ1,H2,I2,q2⟩
end
structure It where
 go:Nat->Hp->Prop
 oV:Nat->Hp->V->Hp->Prop
 stop:Nat->Hp->Prop
def ka(X:Cx)(pins:List (Addr×Obj))(H:Hp)(b:Addr):Prop:=
 H b=none/\b≠X.env.locals/\b∉X.fs/\(b∈X.ex\/X.s₀.heap.objs.size<=b)/\(∀x c,X.env.cells.lookup x=some c->c≠b)/\∀p∈X.pn++pins,p.1≠b
theorem Inv.xZ(I:Inv X pins σ H s)(hb:s.heap.objs.size<=b)(hn:H' b=none):ka X pins H' b:=by
 refine⟨hn,X_ (Wj I.lt hb),I.Q1 hb,.inr (VX I.sz hb),λ x c e z=>?_,λ p hp z=>?_⟩
 . obtain⟨v,q⟩:=I.cell x c e;exact absurd (Wj q.lt (by rw[z];exact hb)) (Xs _)
 . exact absurd (Wj (Wd (I.pin p hp).1) (by rw[z];exact hb)) (Xs _)
structure Turn(P:Program)(w:World)(K:PySem.W.Frag)(tg:Expr)(J:It)(fp:List Addr)(it:Addr)(tn:Nat->Heap->Prop):Prop where
 mem:it∈fp
 obj:∀i h,tn i h->∀b∈fp,∃o,h.get? b=some o/\∀v,o.data≠ .cell v
 keep:∀i h h',tn i h->(∀b∈fp,∀o,h.get? b=some o->h'.get? b=some o)->tn i h'
 item:∀(X:Cx),X.prog=P->X.w=w->X.K=K->X.calm=true->∀(i:Nat) (pins:List (Addr×Obj)) (s:Shared) (σ:St) (H:Hp) (E:Value->Shared->Prop),Inv X pins σ H s->(∀b∈fp,ka X pins H b)->tn i s.heap->J.go i H->
  wpAny (model P w) X.A (pyNext (.ref it)) (λ r s1=>∃u,r=some u/\
   wpAny (model P w) X.A (letOwnedTupleGo tg (.ref it) u) (λ _ s2=>∃x H',Inv X pins σ H' s2/\RelV x u/\J.oV i H x H'/\tn (i+1) s2.heap/\∀b∈fp,H' b=none) E s1) E s
 done:∀(X:Cx),X.prog=P->X.w=w->X.K=K->X.calm=true->∀(i:Nat) (pins:List (Addr×Obj)) (s:Shared) (σ:St) (H:Hp) (E:Value->Shared->Prop),Inv X pins σ H s->(∀b∈fp,ka X pins H b)->tn i s.heap->J.stop i H->
  wpAny (model P w) X.A (pyNext (.ref it)) (λ r s1=>r=none/\Inv X pins σ H s1) E s
 self:∀(A:Around) (i:Nat) (s:Shared) (Q:Value->Shared->Prop) (E:Value->Shared->Prop),tn i s.heap->Q (.ref it) s->wpAny (model P w) A (pyIter (.ref it)) Q E s
abbrev TI:=St->Hp->(It->Hp->Prop)->Prop
def Mq(X:Cx)(pins:List (Addr×Obj))(σ:St)(tg:Expr)(R:It->Hp->Prop)(itv:Value)(s2:Shared):Prop:=
 ∃(it:Addr) (fp:List Addr) (tn:Nat->Heap->Prop) (J:It) (H':Hp),itv= .ref it/\Inv X pins σ H' s2/\Turn X.prog X.w X.K tg J fp it tn/\tn 0 s2.heap/\(∀b∈fp,ka X pins H' b)/\R J H'
def PI(X:Cx)(tg iter:Expr)(wi:TI):Prop:=
 ∀(pins:List (Addr×Obj)) (s:Shared) (σ:St) (H:Hp) (R:It->Hp->Prop),Inv X pins σ H s->wi σ H R->
  wpAny (model X.prog X.w) X.A (eval iter X.env) (λ v s1=>wpAny (model X.prog X.w) X.A (pyIter v) (Mq X pins σ tg R) X.xe s1) X.xe s
theorem Fs(ho:s.heap.get? it=some o)(hc:o.cls= .type n)(hd:o.data= .fields vs)
 (hn: ["enumerate","zip","dict_itemiterator","dict_reverseitemiterator","odict_iterator","itertools.zip_longest","itertools.pairwise"].contains n=false) (hQ:Q () s):wpAny M A (letOwnedTupleGo tg (.ref it) u) Q E s:=by
 unfold letOwnedTupleGo
 cases tg<;>first
  |exact V8 hQ
  |(cases u<;>first
     |exact V8 hQ
     |(refine VR (wpAny_load ho ?_)
       rw[hc,hd];show wpAny M A (if(["enumerate","zip","dict_itemiterator","dict_reverseitemiterator","odict_iterator","itertools.zip_longest","itertools.pairwise"].contains n&&vs[0]?==some (rawInt _))=true then _ else _) Q E s;rw[VT (by intro h;rw[hn,YV]at h;cases h)];exact V8 hQ))
def O7(K:PySem.W.Frag)(a:Addr):It:=
 ⟨λ i H=>∃xs x,ll K H a xs/\xs[i]?=some x,λ i H x H'=>H'=H/\∀xs,ll K H a xs->xs[i]?=some x,λ i H=>∃xs,ll K H a xs/\xs.length<=i⟩
def P_(K:PySem.W.Frag)(a:Addr):It:=
 ⟨λ i H=>∃xs x,hZ K H a xs/\xs[i]?=some x,λ i H x H'=>H'=H/\∀xs,hZ K H a xs->xs[i]?=some x,λ i H=>∃xs,hZ K H a xs/\xs.length<=i⟩
def zO(lo:Int)(n:Nat):It:=⟨λ i _=>i<n,λ i H x H'=>H'=H/\x= .int (lo+i),λ i _=>n<=i⟩
theorem IJ{P:Program}{w:World}{K:PySem.W.Frag}{tg:Expr}(a it:Addr):Turn P w K tg (O7 K a) [it] it (λ i h=>h.IsListIter it a i) where
 mem:=by simp
 obj:=λ i h st b hb=>by
  have e:b=it:=by simpa using hb
  subst e;obtain⟨o,e,c,d⟩:=st;exact⟨o,e,λ v z=>by rw[d]at z;cases z⟩
 keep:=λ i h h' st k=>st.at λ o e=>k it (by simp) o e
 item:=by
  intro X hP hw hK hc i pins s σ H E I hf st hg;subst hP hw hK;obtain⟨xs,x,hq,hx⟩:=hg;obtain⟨aj,rv,p,hz⟩:=I.list hq;obtain⟨u,hu,ru⟩:=rv.get hx;obtain⟨f0,f1,f2,f3,f4,f5⟩:=hf it (by simp);refine wpAny_pyNext_list_item st p.isList (x:=u) (by simpa using hu) λ h' st' sb=>?_;have I1:Inv X pins σ H {s with heap:=h'}:=I.turned (t':=s.toks) (λ b o hb e=>(sb.2 b hb).trans e) f0 f1 f3 f4 f5;obtain⟨o,e,c,d⟩:=id st';exact⟨u,rfl,Fs (s:={s with heap:=h'}) e c d (by decide) ⟨x,H,I1,ru,⟨rfl,λ ys hy=>by rw[I.BY hy hq];exact hx⟩,st',λ b hb=>(hf b hb).1⟩⟩
 done:=by
  intro X hP hw hK hc i pins s σ H E I hf st hg;subst hP hw hK;obtain⟨xs,hq,hx⟩:=hg;obtain⟨aj,rv,p,hz⟩:=I.list hq;obtain⟨f0,f1,f2,f3,f4,f5⟩:=hf it (by simp);have hl:=rv.length;exact wpAny_pyNext_list_end (I.ok.hd hc) st p.isList (by simp;omega) λ h' eb=>⟨rfl,I.turned (t':=s.toks) (λ b o hb e=>eb b o hb e) f0 f1 f3 f4 f5⟩
 self:=λ _ _ _ _ _ st h=>wpAny_pyIter_listiter st h
theorem Fy{P:Program}{w:World}{K:PySem.W.Frag}{tg:Expr}(a it:Addr):Turn P w K tg (P_ K a) [it] it (λ i h=>h.IsTupleIter it a i) where
 mem:=by simp
 obj:=λ i h st b hb=>by
  have e:b=it:=by simpa using hb
  subst e;obtain⟨o,e,c,d⟩:=st;exact⟨o,e,λ v z=>by rw[d]at z;cases z⟩
 keep:=λ i h h' st k=>st.at λ o e=>k it (by simp) o e
 item:=by
  intro X hP hw hK hc i pins s σ H E I hf st hg;subst hP hw hK;obtain⟨xs,x,hq,hx⟩:=hg;obtain⟨aj,rv,p,hz⟩:=I.tuple hq;obtain⟨u,hu,ru⟩:=rv.get hx;obtain⟨f0,f1,f2,f3,f4,f5⟩:=hf it (by simp);refine wpAny_pyNext_tuple_item st (show s.heap.IsTuple a aj.toArray from p) (x:=u) (by simpa using hu) λ h' st' sb=>?_;have I1:Inv X pins σ H {s with heap:=h'}:=I.turned (t':=s.toks) (λ b o hb e=>(sb.2 b hb).trans e) f0 f1 f3 f4 f5;obtain⟨o,e,c,d⟩:=id st';exact⟨u,rfl,Fs (s:={s with heap:=h'}) e c d (by decide) ⟨x,H,I1,ru,⟨rfl,λ ys hy=>by rw[I.zx hy hq];exact hx⟩,st',λ b hb=>(hf b hb).1⟩⟩
 done:=by
  intro X hP hw hK hc i pins s σ H E I hf st hg;subst hP hw hK;obtain⟨xs,hq,hx⟩:=hg;obtain⟨aj,rv,p,hz⟩:=I.tuple hq;obtain⟨f0,f1,f2,f3,f4,f5⟩:=hf it (by simp);have hl:=rv.length;exact wpAny_pyNext_tuple_end (I.ok.hd hc) st (show s.heap.IsTuple a aj.toArray from p) (by simp;omega) λ h' eb=>⟨rfl,I.turned (t':=s.toks) (λ b o hb e=>eb b o hb e) f0 f1 f3 f4 f5⟩
 self:=λ _ _ _ _ _ st h=>wpAny_pyIter_tupleiter st h
theorem FD{P:Program}{w:World}{K:PySem.W.Frag}{tg:Expr}(it:Addr)(lo:Int)(n:Nat):Turn P w K tg (zO lo n) [it] it (λ i h=>IsRangeIter h it (lo+(i:Nat)*1) ((n:Int)-(i:Nat)) 1) where
 mem:=by simp
 obj:=λ i h st b hb=>by
  have e:b=it:=by simpa using hb
  subst e
  exact⟨_,st,λ v z=>by
   have z':Data.fields _=Data.cell v:=z;cases z'⟩
 keep:=λ i h h' st k=>k it (by simp) _ st
 item:=by
  intro X hP hw hK hc i pins s σ H E I hf st hg;subst hP hw hK;obtain⟨f0,f1,f2,f3,f4,f5⟩:=hf it (by simp);have W:=Walks.range (prog:=X.prog) (w:=X.w) (I.ok.hd hc) it lo 1 n;refine W.item i s _ _ hg st λ v h' tk hv st' kk=>?_;obtain⟨t,rfl⟩:=hv;have I1:Inv X pins σ H {s with heap:=h',toks:=tk}:=I.turned (λ b o hb e=>kk b o (by simpa using hb) e) f0 f1 f3 f4 f5;refine⟨_,rfl,Fs (s:={s with heap:=h',toks:=tk}) (n:="range_iterator") st' rfl rfl (by decide) ⟨.int (lo+i),H,I1,⟨t,?_⟩,⟨rfl,rfl⟩,st',λ b hb=>(hf b hb).1⟩⟩;rw[Y6]
 done:=by
  intro X hP hw hK hc i pins s σ H E I hf st hg;subst hP hw hK;obtain⟨f0,f1,f2,f3,f4,f5⟩:=hf it (by simp);exact wpAny_pyNext_range_end (I.ok.hd hc) st (by have:n<=i:=hg;omega) λ h' eb=>⟨rfl,I.turned (t':=s.toks) (λ b o hb e=>eb b o hb e) f0 f1 f3 f4 f5⟩
 self:=λ _ _ _ _ _ st h=>wpAny_pyIter_rangeiter st h
section
variable {X:Cx}{tg:Expr}
theorem CV{pins:List (Addr×Obj)}{σ:St}{H:Hp}{s:Shared}{R:It->Hp->Prop}{E:Value->Shared->Prop}{lo hi:Int}{t u v:Tok}{tk:Nat}(I:Inv X pins σ H s)(h1: -(2^62)<=lo)(h2:lo<2^62)(h3: -(2^62)<=hi)(h4:hi<2^62)
 (q:R (zO lo (hi-lo).toNat) H):wpAny (model X.prog X.w) X.A (pyIter (.ref s.heap.objs.size)) (Mq X pins σ tg R) E {s with heap:=s.heap.push {cls:= .type "range",data:= .fields #[.int lo t,.int hi u,.int 1 v]},toks:=tk}:=by
 refine wpAny_pyIter_range (IsRange.new ..) (small_one h1 h2 h3 h4) ?_;have I1:Inv X pins σ H {s with heap:=s.heap.push {cls:= .type "range",data:= .fields #[.int lo t,.int hi u,.int 1 v]},toks:=tk}:=I.kept λ b o e=>VY _ e
 refine⟨(s.heap.push {cls:= .type "range",data:= .fields #[.int lo t,.int hi u,.int 1 v]}).objs.size,[(s.heap.push {cls:= .type "range",data:= .fields #[.int lo t,.int hi u,.int 1 v]}).objs.size],_,_,H,rfl,
  I1.kept (t':=tk) λ b o e=>VY _ e,FD _ lo (hi-lo).toNat,?_,λ b hb=>?_,q⟩
 . have e1:lo+((0:Nat):Int)*1=lo:=by simp
   have e2:(((hi-lo).toNat:Nat):Int)-((0:Nat):Int)=Builtin.Range.rangeSize lo hi 1:=by rw[rangeSize_one];split<;>omega
   show IsRangeIter _ _ (lo+((0:Nat):Int)*1) ((((hi-lo).toNat:Nat):Int)-((0:Nat):Int)) 1;rw[e1,e2];exact Wq _ rfl
 . have e:b=(s.heap.push {cls:= .type "range",data:= .fields #[.int lo t,.int hi u,.int 1 v]}).objs.size:=by simpa using hb
   subst e;exact I1.xZ (VQ _) (I1.aC.fresh (VQ _))
def Gw(ta:TA):TI:=λ σ H R=>ta σ H λ vs H1=>∃j:Int,vs=[.int j]/\ -(2^62)<=j/\j<2^62/\R (zO 0 j.toNat) H1
def GB(ta:TA):TI:=λ σ H R=>ta σ H λ vs H1=>∃i j:Int,vs=[.int i,.int j]/\(-(2^62)<=i/\i<2^62/\ -(2^62)<=j/\j<2^62)/\R (zO i (j-i).toNat) H1
theorem JH{a:Expr}{ta:TA}{p pos:Pos}(hg:Gl X "range")(hm:X.mg "range"=none)(ha:PA X [a] ta)(hs:starEach [a] X.env=[(false,eval a X.env)]:=by rfl):PI X tg (.Call (.Name "range" p) [a] [] pos) (Gw ta):=by
 intro pins s σ H R I h;refine Call_ (lg I hg hm boot_range (Xz (bI (ha pos pins s σ H _ I h) λ us s1 ⟨vs,H1,I1,r1,q1⟩=>?_) hs rfl));obtain⟨j,e,q1,q2,q⟩:=q1;subst e;cases r1 with
 |cons r rr=>
  cases rr;obtain⟨t,rfl⟩:=r;exact call_range_1 (CV I1 (by omega) (by omega) q1 q2 (by simpa using q))
theorem HQ{a b:Expr}{ta:TA}{p pos:Pos}(hg:Gl X "range")(hm:X.mg "range"=none)(ha:PA X [a,b] ta)(hs:starEach [a,b] X.env=[(false,eval a X.env),(false,eval b X.env)]:=by rfl)(hs2:starEach [b] X.env=[(false,eval b X.env)]:=by rfl):
 PI X tg (.Call (.Name "range" p) [a,b] [] pos) (GB ta):=by
 intro pins s σ H R I h;refine Call_ (lg I hg hm boot_range (Xz (bI (ha pos pins s σ H _ I h) λ us s1 ⟨vs,H1,I1,r1,q1⟩=>?_) (by rw[hs,hs2]) (by rw[hs2];rfl)));obtain⟨i,j,e,⟨q1,q2,q3,q4⟩,q⟩:=q1;subst e;cases r1 with
 |cons r rr=>
  cases rr with
  |cons r' rr=>
   cases rr;obtain⟨t,rfl⟩:=r;obtain⟨t',rfl⟩:=r';exact call_range_2 (CV I1 q1 q2 q3 q4 q)
def Qe(wi:TI)(g:TG)(tb:TS):TS:=λ D σ H=>wi σ H λ J H1=>∃W:Nat->Nat->St->Hp->Prop,(∃m,W 0 m σ H1)/\∀i m σ H,W i m σ H->
 (J.stop i H/\D.nx σ H)\/(J.go i H/\∃N:St->Hp->Prop,(∀σ' H',N σ' H'->∃m',m'<m/\W (i+1) m' σ' H')/\∀x H',J.oV i H x H'->g x σ H' λ σ2 H2=>tb {D with nx:=N,ct:=N,bk:=D.nx} σ2 H2)
def tR(fp:List Addr)(h:Heap):List (Addr×Obj):=fp.filterMap λ b=>(h.get? b).map λ o=>(b,o)
theorem mL(hb:b∈fp)(e:h.get? b=some o):(b,o)∈tR fp h:=YM.mpr ⟨b,hb,by rw[e];rfl⟩
theorem Jt(hp:p∈tR fp h):p.1∈fp/\h.get? p.1=some p.2:=by
 obtain⟨b,hb,e⟩:=YM.mp hp;cases q:h.get? b with
 |none=>rw[q]at e;cases e
 |some o=>
  rw[q]at e;have e':(b,o)=p:=WQ e;subst e';exact⟨hb,q⟩
theorem Inv.pinned(I:Inv X pins σ H s)(hf:∀b∈fp,ka X pins H b)(ho:∀b∈fp,∃o,s.heap.get? b=some o/\∀v,o.data≠ .cell v):Inv X (pins++tR fp s.heap) σ H s:=
 I.um λ p hp=>(Wf.mp hp).elim (λ z=>I.pin p (Wo _ z)) λ z=>by
  obtain⟨hb,e⟩:=Jt z;obtain⟨f0,f1,f2,_⟩:=hf p.1 hb;obtain⟨o,e',d⟩:=ho p.1 hb;rw[e]at e';cases e';exact⟨e,f0,f1,f2,d⟩
theorem Inv.gG{pins pl:List (Addr×Obj)}(I:Inv X (pins++pl) σ H s):Inv X pins σ H s:=I.um λ p hp=>I.pin p (Wo _ (W5 _ hp))
theorem O_{iter:Expr}{body:List Stmt}{wi:TI}{g:TG}{tb:TS}{pos:Pos}(hp:PassesOwn (model X.prog X.w) X.A X.env X.xe)(hc:X.calm=true)(hi:PI X tg iter wi)(hg:PG X tg g)(hb:gw X body tb)
 (hs:∀x,foldedSetIterable iter X.env x=pure x:=by intro _;rfl):PS X (.For tg iter body [] pos) (Qe wi g tb):=by
 intro pins s σ H D I h;refine wpAny_For (bI (hi pins s σ H _ I h) λ v s1 h1=>bI h1 λ itv s2 h2=>?_) hs;obtain⟨it,fp,tn,J,H2,e,I2,T,st2,f2,W,⟨m0,w0⟩,turn⟩:=h2;subst e;have stat:∀ {H':Hp},(∀b∈fp,H' b=none)->∀b∈fp,ka X pins H' b:=λ hn b hb=>⟨hn b hb,(f2 b hb).2⟩
 refine codeAny_forLoop_any (λ n s'=>∃i σ' H',Inv X pins σ' H' s'/\tn i s'.heap/\(∀b∈fp,H' b=none)/\W i n σ' H') ?_ m0 ⟨0,σ,H2,I2,st2,λ b hb=>(f2 b hb).1,w0⟩;rintro n s3 ⟨i,σ3,H3,I3,st3,fr3,w3⟩;rcases turn i n σ3 H3 w3 with⟨stop,qn⟩|⟨go,N,hN,step⟩
 . refine Yi hp (bI (T.done X rfl rfl rfl hc i pins s3 σ3 H3 X.xe I3 (stat fr3) st3 stop) λ r s4 ⟨hr,I4⟩=>?_);subst hr;exact Zn ⟨σ3,H3,I4,qn⟩
 . refine Yi hp (bI (T.item X rfl rfl rfl hc i pins s3 σ3 H3 X.xe I3 (stat fr3) st3 go) λ r s4 ⟨u,hr,h4⟩=>?_);subst hr;refine Yi hp (bI h4 λ _ s5 ⟨x,H5,I5,r5,y5,st5,fr5⟩=>?_);have I5':=I5.pinned (stat fr5) (T.obj _ _ st5);refine Yi hp (bI (hg _ s5 σ3 H5 x u _ I5' r5 (step x H5 y5)) λ _ s6 ⟨σ6,H6,I6,q6⟩=>?_);refine Yi hp (bI (hb _ s6 σ6 H6 _ I6 q6) λ f s7 q7=>?_)
   have again:∀ {σ7:St} {H7:Hp},Inv X (pins++tR fp s5.heap) σ7 H7 s7->N σ7 H7->∃m,m<n/\∃i σ' H',Inv X pins σ' H' s7/\tn i s7.heap/\(∀b∈fp,H' b=none)/\W i m σ' H':=λ{σ7 H7} I7 n7=>by
    obtain⟨m',hm,w7⟩:=hN σ7 H7 n7;refine⟨m',hm,i+1,σ7,H7,I7.gG,T.keep _ _ _ st5 λ b hb o e=>(I7.pin (b,o) (Wo _ (Wo _ (mL hb e)))).1,λ b hb=>?_,w7⟩;obtain⟨o,e,d⟩:=T.obj _ _ st5 b hb;exact(I7.pin (b,o) (Wo _ (Wo _ (mL hb e)))).2.1
   cases f with
   |next=>obtain⟨σ7,H7,I7,n7⟩:=q7;exact again I7 n7
   |cont=>obtain⟨σ7,H7,I7,n7⟩:=q7;exact again I7 n7
   |brk=>obtain⟨σ7,H7,I7,q7⟩:=q7;exact⟨σ7,H7,I7.gG,q7⟩
   |ret v=>obtain⟨x7,σ7,H7,I7,r7,q7⟩:=q7;exact⟨x7,σ7,H7,I7.gG,r7,q7⟩
end
theorem oh{lo:Int}{n:Nat}{g:TG}{tb:TS}{D:Ends}{σ:St}{H:Hp}(Pv:Nat->St->Hp->Prop)(h0:Pv 0 σ H)
 (hs:∀i σ H,i<n->Pv i σ H->g (.int (lo+i)) σ H λ σ2 H2=>tb {D with nx:=Pv (i+1),ct:=Pv (i+1),bk:=D.nx} σ2 H2) (hd:∀σ H,Pv n σ H->D.nx σ H):
 ∃W:Nat->Nat->St->Hp->Prop,(∃m,W 0 m σ H)/\∀i m σ H,W i m σ H->
  ((zO lo n).stop i H/\D.nx σ H)\/((zO lo n).go i H/\∃N:St->Hp->Prop,(∀σ' H',N σ' H'->∃m',m'<m/\W (i+1) m' σ' H')/\∀x H',(zO lo n).oV i H x H'->g x σ H' λ σ2 H2=>tb {D with nx:=N,ct:=N,bk:=D.nx} σ2 H2):=by
 refine⟨λ i m σ H=>m=n-i/\i<=n/\Pv i σ H,⟨n,by simp,Wg _,h0⟩,?_⟩;rintro i m σ H ⟨rfl,hi,p⟩;by_cases hlt:i<n
 . refine .inr ⟨hlt,Pv (i+1),λ σ' H' p'=>⟨n-(i+1),by omega,rfl,hlt,p'⟩,λ x H' y=>?_⟩;obtain⟨e,y⟩:=y;subst e y;exact hs i σ _ hlt p
 . have e:i=n:=by omega
   subst e;exact .inl ⟨VQ _,hd σ H p⟩
abbrev R2:=V->V->Hp->VK->Prop
def br(X:Cx)(f:Value->Value->Sem Value)(r:R2):Prop:=
 ∀(pins:List (Addr×Obj)) (s:Shared) (σ:St) (H:Hp) (x y:V) (v u:Value) (Q:VK),Inv X pins σ H s->RelV x v->RelV y u->r x y H Q->
  wpAny (model X.prog X.w) X.A (f v u) (EP X pins σ Q) X.xe s
def EX(X:Cx)(f:Value->Sem Value)(r:V->Hp->VK->Prop):Prop:=
 ∀(pins:List (Addr×Obj)) (s:Shared) (σ:St) (H:Hp) (x:V) (v:Value) (Q:VK),Inv X pins σ H s->RelV x v->r x H Q->
  wpAny (model X.prog X.w) X.A (f v) (EP X pins σ Q) X.xe s
def bf(X:Cx)(f:Value)(r:List V->Hp->VK->Prop):Prop:=
 ∀(pins:List (Addr×Obj)) (s:Shared) (σ:St) (H:Hp) (xs:List V) (us:List Value) (Q:VK),Inv X pins σ H s->Vals xs us->r xs H Q->
  wpAny (model X.prog X.w) X.A (call f us) (EP X pins σ Q) X.xe s
def Js(r:R2)(ta tb:TE):TE:=λ σ H Q=>ta σ H λ x H1=>tb σ H1 λ y H2=>r x y H2 Q
def T7(r:V->Hp->VK->Prop)(ta:TE):TE:=λ σ H Q=>ta σ H λ x H1=>r x H1 Q
def rI(C:Int->Int->Prop)(g:Int->Int->V):R2:=λ x y H Q=>∃i j,x= .int i/\y= .int j/\C i j/\Q (g i j) H
def wY(g:Int->Int->V):R2:=λ x y H Q=>∃i j,x= .int i/\y= .int j/\Q (g i j) H
def rU(g:Int->V):V->Hp->VK->Prop:=λ x H Q=>∃i,x= .int i/\Q (g i) H
section
variable {X:Cx}{a b c:Expr}{ta tb tc:TE}{pos:Pos}
theorem KU(ha:PE X a ta)(hb:PE X b tb){pins:List (Addr×Obj)}{s:Shared}{σ:St}{H:Hp}{R:V->V->Hp->Prop}(I:Inv X pins σ H s)
 (h:ta σ H λ x H1=>tb σ H1 λ y H2=>R x y H2) {Q:Value->Shared->Prop} {f:Value->Value->Sem Value}
 (hf:∀v u s2 x y H2,Inv X pins σ H2 s2->RelV x v->RelV y u->R x y H2->wpAny (model X.prog X.w) X.A (f v u) Q X.xe s2):
 wpAny (model X.prog X.w) X.A (eval a X.env) (λ v s₁=>wpAny (model X.prog X.w) X.A (eval b X.env) (λ u s₂=>wpAny (model X.prog X.w) X.A (f v u) Q X.xe s₂) X.xe s₁) X.xe s:=by
 refine bI (ha pins s σ H _ I h) λ v s1 ⟨x,H1,I1,r1,q1⟩=>?_;refine bI (hb pins s1 σ H1 _ I1 q1) λ u s2 ⟨y,H2,I2,r2,q2⟩=>?_;exact hf v u s2 x y H2 I2 r1 r2 q2
theorem Ss{op:Operator}{r:R2}(ho:br X (binaryOp op) r)(ha:PE X a ta)(hb:PE X b tb):PE X (.BinOp a op b pos) (Js r ta tb):=by
 intro pins s σ H Q I h;exact wpAny_BinOp (KU ha hb I h λ v u s2 x y H2 I2 rx ry q=>ho pins s2 σ H2 x y v u Q I2 rx ry q)
theorem Tb{op:UnaryOp}{r:V->Hp->VK->Prop}(ho:EX X (unaryOp op) r)(ha:PE X a ta):PE X (.UnaryOp op a pos) (T7 r ta):=by
 intro pins s σ H Q I h;exact UnaryOp_ (bI (ha pins s σ H _ I h) λ v s1 ⟨x,H1,I1,r1,q1⟩=>ho pins s1 σ H1 x v Q I1 r1 q1)
theorem Nh{f:Value->Value->Sem Value}{g:Int->Int->Int}
 (rule:∀(i j:Int) (t u:Tok) (s:Shared) (Q:Value->Shared->Prop) (E:Value->Shared->Prop),C i j->Q (.int (g i j) s.toks) {s with toks:=s.toks+1}->wpAny (model X.prog X.w) X.A (f (.int i t) (.int j u)) Q E s):
 br X f (rI C λ i j=> .int (g i j)):=by
 intro pins s σ H x y v u Q I rx ry h;obtain⟨i,j,rfl,rfl,hc,q⟩:=h;obtain⟨t,rfl⟩:=rx;obtain⟨t',rfl⟩:=ry;exact rule i j t t' s _ _ hc ⟨.int (g i j),H,I.tok _,⟨_,rfl⟩,q⟩
theorem QL{f:Value->Value->Sem Value}{g:Int->Int->Int}
 (rule:∀(i j:Int) (t u:Tok) (s:Shared) (Q:Value->Shared->Prop) (E:Value->Shared->Prop),Q (.int (g i j) s.toks) {s with toks:=s.toks+1}->wpAny (model X.prog X.w) X.A (f (.int i t) (.int j u)) Q E s):
 br X f (wY λ i j=> .int (g i j)):=by
 intro pins s σ H x y v u Q I rx ry h;obtain⟨i,j,rfl,rfl,q⟩:=h;obtain⟨t,rfl⟩:=rx;obtain⟨t',rfl⟩:=ry;exact rule i j t t' s _ _ ⟨.int (g i j),H,I.tok _,⟨_,rfl⟩,q⟩
theorem Ft{f:Value->Value->Sem Value}{g:Int->Int->Bool}
 (rule:∀(i j:Int) (t u:Tok) (s:Shared) (Q:Value->Shared->Prop) (E:Value->Shared->Prop),Q (.bool (g i j)) s->wpAny (model X.prog X.w) X.A (f (.int i t) (.int j u)) Q E s):
 br X f (wY λ i j=> .bl (g i j)):=by
 intro pins s σ H x y v u Q I rx ry h;obtain⟨i,j,rfl,rfl,q⟩:=h;obtain⟨t,rfl⟩:=rx;obtain⟨t',rfl⟩:=ry;exact rule i j t t' s _ _ ⟨.bl (g i j),H,I,rfl,q⟩
def KO(i j:Int):Prop:=0<=j/\j<=1000000/\i.natAbs<2^64
theorem QB:br X (binaryOp .Add) (wY λ i j=> .int (i+j)):=QL λ _ _ _ _ _ _ _ q=>add_int q
theorem QO:br X (binaryOp .Sub) (wY λ i j=> .int (i-j)):=QL λ _ _ _ _ _ _ _ q=>sub_int q
theorem Oo:br X (binaryOp .Mod) (rI (λ _ j=>j≠0) λ i j=> .int (i.fmod j)):=Nh λ _ _ _ _ _ _ _ hc q=>mod_int' hc q
theorem QS:br X (binaryOp .Pow) (rI KO λ i j=> .int (i^j.toNat)):=Nh λ _ _ _ _ _ _ _ hc q=>pow_int_small hc.1 hc.2.1 hc.2.2 q
theorem Vp{f:Value->Sem Value}{g:Int->Int}
 (rule:∀(i:Int) (t:Tok) (s:Shared) (Q:Value->Shared->Prop) (E:Value->Shared->Prop),Q (.int (g i) s.toks) {s with toks:=s.toks+1}->wpAny (model X.prog X.w) X.A (f (.int i t)) Q E s):
 EX X f (rU λ i=> .int (g i)):=by
 intro pins s σ H x v Q I rx h;obtain⟨i,rfl,q⟩:=h;obtain⟨t,rfl⟩:=rx;exact rule i t s _ _ ⟨.int (g i),H,I.tok _,⟨_,rfl⟩,q⟩
theorem Pb:EX X (unaryOp .USub) (rU λ i=> .int (-i)):=Vp λ _ _ _ _ _ q=>neg_int q
end
def Uo:V->V->Bool
 | .ao,.ao=>true| .ao,.int _=>true| .int _,.ao=>true| .ao,.bl _=>true| .bl _,.ao=>true| .ao,.str _=>true| .str _,.ao=>true
 | .int _,.int _=>true| .bl _,.bl _=>true| .str _,.str _=>true| .uV _,.uV _=>true
 | .int _,.str _=>true| .str _,.int _=>true| .bl _,.str _=>true| .str _,.bl _=>true
 |_,_=>false
def Vi:R2:=λ x y H Q=>Uo x y=true/\Q (.bl (!decide (x=y))) H
theorem OD:decide (V.int i=V.int j)=(i==j):=by
 rw[Zo];simp
theorem QH:decide (V.bl i=V.bl j)=(i==j):=by
 rw[Zo];simp
theorem NL:decide (V.str i=V.str j)=(i==j):=by
 rw[Zo];simp
theorem OW:decide (V.uV i=V.uV j)=(i.toList==j.toList):=by
 rw[Zo];cases i;cases j;simp
section
variable {X:Cx}{a b c:Expr}{ta tb tc:TE}{pos:Pos}
theorem eP{k k':Bool}(I:Inv X pins σ H s)(q:Q (.bl k) H)(e:k=k'):EP X pins σ Q (.bool k') s:=by
 subst e;exact⟨.bl k,H,I,rfl,q⟩
theorem Sf:br X (compareOp .NotEq) Vi:=by
 intro pins s σ H x y v u Q I rx ry h;obtain⟨hs,q⟩:=h;cases x with
 |ao=>
  cases rx;cases y with
  |ao=>cases ry;exact PySem.EqNone.ne_none_none (eP I q (by simp))
  |bl j=>cases ry;exact PySem.EqNone.ne_none_bool (eP I q (by simp))
  |int j=>obtain⟨t',rfl⟩:=ry;exact PySem.EqNone.ne_none_int (eP I q (by simp))
  |str j=>obtain⟨t',rfl⟩:=ry;exact PySem.EqNone.ne_none_str (eP I q (by simp))
  |_=>exact absurd (show false=true from hs) WG
 |bl i=>
  cases rx;cases y with
  |ao=>cases ry;exact PySem.EqNone.ne_bool_none (eP I q (by simp))
  |bl j=>cases ry;exact ne_bool (eP I q (Xr not QH))
  |str j=>obtain⟨t',rfl⟩:=ry;exact PySem.EqMixed.ne_bool_str (eP I q (by simp))
  |_=>exact absurd (show false=true from hs) WG
 |int i=>
  obtain⟨t,rfl⟩:=rx;cases y with
  |ao=>cases ry;exact PySem.EqNone.ne_int_none (eP I q (by simp))
  |int j=>obtain⟨t',rfl⟩:=ry;exact ne_int (eP I q (Xr not OD))
  |str j=>obtain⟨t',rfl⟩:=ry;exact PySem.EqMixed.ne_int_str (eP I q (by simp))
  |_=>exact absurd (show false=true from hs) WG
 |str i=>
  obtain⟨t,rfl⟩:=rx;cases y with
  |ao=>cases ry;exact PySem.EqNone.ne_str_none (eP I q (by simp))
  |bl j=>cases ry;exact PySem.EqMixed.ne_str_bool (eP I q (by simp))
  |int j=>obtain⟨t',rfl⟩:=ry;exact PySem.EqMixed.ne_str_int (eP I q (by simp))
  |str j=>obtain⟨t',rfl⟩:=ry;exact ne_str (eP I q (Xr not NL))
  |_=>exact absurd (show false=true from hs) WG
 |uV i=>
  obtain⟨t,rfl⟩:=rx;cases y with
  |uV j=>obtain⟨t',rfl⟩:=ry;exact PySem.W.ne_bytes (eP I q (Xr not OW))
  |_=>exact absurd (show false=true from hs) WG
 |_=>cases y<;>exact absurd (show false=true from hs) WG
theorem Sj:br X (compareOp .Lt) (wY λ i j=> .bl (decide (i<j))):=Ft λ _ _ _ _ _ _ _ q=>lt_int q
theorem RG:br X (compareOp .LtE) (wY λ i j=> .bl (decide (i<=j))):=Ft λ _ _ _ _ _ _ _ q=>le_int q
theorem SM:br X (compareOp .Gt) (wY λ i j=> .bl (decide (j<i))):=Ft λ _ _ _ _ _ _ _ q=>gt_int q
theorem Se:br X (compareOp .GtE) (wY λ i j=> .bl (decide (j<=i))):=Ft λ _ _ _ _ _ _ _ q=>ge_int q
theorem Pk:br X (compareOp .Is) (λ x y H Q=>y= .ao/\Q (.bl (decide (x= .ao))) H):=by
 intro pins s σ H x y v u Q I rx ry h;obtain⟨rfl,q⟩:=h;cases ry;refine is_none_gen (eP I q ?_)
 cases x<;>first
  |(cases rx;rfl)
  |(obtain⟨t,rfl⟩:=rx;rfl)
theorem NK:br X (compareOp .IsNot) (λ x y H Q=>y= .ao/\Q (.bl (!decide (x= .ao))) H):=by
 intro pins s σ H x y v u Q I rx ry h;obtain⟨rfl,q⟩:=h;cases ry;refine isnot_none_gen (eP I q ?_)
 cases x<;>first
  |(cases rx;rfl)
  |(obtain⟨t,rfl⟩:=rx;rfl)
theorem jS(b:Expr)(h:op≠ .In:=by decide)(h2:op≠ .NotIn:=by decide):behindInMarks op b=false:=by
 have e1:(op==CmpOp.In)=false:=by cases op<;>first|rfl|exact absurd rfl h
 have e2:(op==CmpOp.NotIn)=false:=by cases op<;>first|rfl|exact absurd rfl h2
 cases b<;>simp[behindInMarks,e1,e2]
theorem Np{op:CmpOp}{r:R2}(ho:br X (compareOp op) r)(ha:PE X a ta)(hb:PE X b tb)(hm:behindInMarks op b=false):PE X (.Compare a [op] [b] pos) (Js r ta tb):=by
 intro pins s σ H Q I h;exact wpAny_Compare1 (KU ha hb I h λ v u s2 x y H2 I2 rx ry q=>ho pins s2 σ H2 x y v u Q I2 rx ry q) hm
def S7(t:TE):TT:=λ σ H Q=>t σ H λ x H'=>∃k,x= .bl k/\Q k H'
theorem Ot{op:CmpOp}{r:R2}(ho:br X (compareOp op) r)(ha:PE X a ta)(hb:PE X b tb)(hm:behindInMarks op b=false):PT X (.Compare a [op] [b] pos) (S7 (Js r ta tb)):=by
 intro pins s σ H Q I h
 refine wpAny_isTrue_Compare1 (bI (ha pins s σ H _ I h) λ v s1 ⟨x,H1,I1,r1,q1⟩=>bI (hb pins s1 σ H1 _ I1 q1) λ u s2 ⟨y,H2,I2,r2,q2⟩=>
  bI (ho pins s2 σ H2 x y v u _ I2 r1 r2 q2) λ c s3 ⟨z,H3,I3,r3,k,e,q3⟩=>?_) hm
 subst e;cases r3;exact XN ⟨H3,I3,q3⟩
def Hn(r r':R2)(ta tb tc:TE):TE:=λ σ H Q=>ta σ H λ x H1=>tb σ H1 λ y H2=>r x y H2 λ z H3=>∃k,z= .bl k/\
 (if k=true then tc σ H3 λ w' H4=>r' y w' H4 Q else Q (.bl false) H3)
theorem LD{op op':CmpOp}{r r':R2}(ho:br X (compareOp op) r)(ho':br X (compareOp op') r')(ha:PE X a ta)(hb:PE X b tb)(hc:PE X c tc)
 (hm:lastMarks [op,op'] [b,c]=false:=by with_unfolding_all rfl):PE X (.Compare a [op,op'] [b,c] pos) (Hn r r' ta tb tc):=by
 intro pins s σ H Q I h
 refine Compare_chain (bI (ha pins s σ H _ I h) λ v s1 ⟨x,H1,I1,r1,q1⟩=>chain_link (bI (hb pins s1 σ H1 _ I1 q1) λ u s2 ⟨y,H2,I2,r2,q2⟩=>
  bI (ho pins s2 σ H2 x y v u _ I2 r1 r2 q2) λ d s3 ⟨z,H3,I3,r3,k,e,q3⟩=>?_)) hm
 subst e;cases r3;refine XN ?_;cases k with
 |false=>exact ite_ff ⟨.bl false,H3,I3,rfl,q3⟩
 |true=>exact ite_tt (chain_last (bI (hc pins s3 σ H3 _ I3 q3) λ w' s4 ⟨z',H4,I4,r4,q4⟩=>ho' pins s4 σ H4 y z' u w' Q I4 r2 r4 q4))
theorem sy:(sizeLine:Nat)<2^63:=by rw[Y7];decide
theorem GF:br X (binaryOp .Add) (λ x y H Q=>∃i j,x= .str i/\y= .str j/\i.length+j.length<=sizeLine/\Q (.str (i++j)) H):=by
 intro pins s σ H x y v u Q I rx ry h;obtain⟨i,j,rfl,rfl,hz,q⟩:=h;obtain⟨t,rfl⟩:=rx;obtain⟨t',rfl⟩:=ry;exact add_str (λ t' tk=>⟨.str (i++j),H,I.tok _,⟨_,rfl⟩,q⟩) hz
theorem vals1(r:Vals [x] us):∃u,us=[u]/\RelV x u:=by
 cases r with
 |cons r1 r2=>cases r2;exact⟨_,rfl,r1⟩
theorem vals2(r:Vals [x,y] us):∃u w',us=[u,w']/\RelV x u/\RelV y w':=by
 cases r with
 |cons r1 r2=>
  cases r2 with
  |cons r3 r4=>cases r4;exact⟨_,_,rfl,r1,r3⟩
theorem Kj:bf X (.builtin "abs") (λ xs H Q=>∃i,xs=[.int i]/\Q (.int (if i<0 then-i else i)) H):=by
 intro pins s σ H xs us Q I r h;obtain⟨i,rfl,q⟩:=h;obtain⟨u,rfl,t,rfl⟩:=vals1 r;exact call_abs_int λ u tk=>⟨.int (if i<0 then-i else i),H,I.tok _,⟨_,rfl⟩,q⟩
theorem HK(hc:X.calm=true):bf X (.builtin "max") (λ xs H Q=>∃i j,xs=[.int i,.int j]/\Q (.int (if j>i then j else i)) H):=by
 intro pins s σ H xs us Q I r h;obtain⟨i,j,rfl,q⟩:=h;obtain⟨u,w',rfl,⟨t,rfl⟩,⟨t',rfl⟩⟩:=vals2 r;refine max_two_ints (I.ok.hd hc) λ h' tk k=>⟨_,H,I.kept k,?_,q⟩
 by_cases hj:j>i
 . rw[VU hj,VU hj];exact⟨_,rfl⟩
 . rw[VT hj,VT hj];exact⟨_,rfl⟩
theorem Hz(hc:X.calm=true):bf X (.builtin "min") (λ xs H Q=>∃i j,xs=[.int i,.int j]/\Q (.int (if j<i then j else i)) H):=by
 intro pins s σ H xs us Q I r h;obtain⟨i,j,rfl,q⟩:=h;obtain⟨u,w',rfl,⟨t,rfl⟩,⟨t',rfl⟩⟩:=vals2 r;refine min_two_ints (I.ok.hd hc) λ h' tk k=>⟨_,H,I.kept k,?_,q⟩
 by_cases hj:j<i
 . rw[VU hj,VU hj];exact⟨_,rfl⟩
 . rw[VT hj,VT hj];exact⟨_,rfl⟩
theorem H0:bf X (.type "int") (λ xs H Q=>(∃i,xs=[.int i]/\Q (.int i) H)\/∃k,xs=[.bl k]/\Q (.int (if k then 1 else 0)) H):=by
 intro pins s σ H xs us Q I r h;rcases h with⟨i,rfl,q⟩|⟨k,rfl,q⟩
 . obtain⟨u,rfl,t,rfl⟩:=vals1 r;exact call_int_int ⟨.int i,H,I,⟨_,rfl⟩,q⟩
 . obtain⟨u,rfl,r1⟩:=vals1 r;cases r1;exact call_int_bool ⟨.int (if k then 1 else 0),H,I.tok _,⟨_,rfl⟩,q⟩
theorem BB:bf X (.type "str") (λ xs H Q=>∃i,xs=[.int i]/\i.natAbs.log2<1920/\Q (.str (toString i)) H):=by
 intro pins s σ H xs us Q I r h;obtain⟨i,rfl,hz,q⟩:=h;obtain⟨u,rfl,t,rfl⟩:=vals1 r;exact PySem.P.str_of_int hz ⟨.str _,H,I.tok _,⟨_,rfl⟩,q⟩
end
structure vO(h:Heap)(x dx C:Addr)(mA:Str->Option Value):Prop where
 obj:h.get? x=some (PySem.W.instObj C dx)
 ns:h.Ns1 dx mA
 ne:dx≠x
theorem Ip{h:Heap}{dx:Addr}{mA:Str->Option Value}(n:h.Ns1 dx mA):∃od,h.get? dx=some od/\∀name,PySem.W.lookIn name od=some (mA name):=by
 obtain⟨o,es,ep,ho,hd,hk,_,hm⟩:=n;refine⟨o,ho,λ name=>?_⟩;have e:=hm name;unfold nsFind findBy at e;rw[<-Array.find?_toList]at e;unfold PySem.W.lookIn;rw[hd];dsimp only;split
 . rename_i y q;rw[q]at e;exact Xr some e
 . rename_i q;rw[q]at e
   have a:es.toList.any (·.refKey)=false:=by
    rw[List.any_eq_false];intro y hy;obtain⟨z,t,hkey⟩:=hk y (Array.mem_toList_iff.mp hy);simp[DictEntry.refKey,hkey]
   have a':¬es.toList.any (·.refKey)=true:=by rw[a];exact WG
   rw[VT a'];exact Xr some e
theorem vO.look{mA:Str->Option Value}(I:vO h x dx C mA):∃od,PySem.W.InstAt h x (PySem.W.instObj C dx) C (some od)/\∀name,PySem.W.lookIn name od=some (mA name):=
 let⟨od,ho,hl⟩:=Ip I.ns
 ⟨od,⟨I.obj,rfl,rfl,ho⟩,hl⟩
section
variable {prog:Program}{w:World}{A:Around}{E:Value->Shared->Prop}{s:Shared}{K:PySem.W.Frag}{x dx C f:Addr}{mA:Str->Option Value}{name:Str}{v:Value}
theorem get_map(X:K.In s.heap)(I:vO s.heap x dx C mA)(hg:PySem.W.plainGet K C name=true)(hh:PySem.W.hasDictIn K C=true)
 (ha:PySem.W.findIn K (.ref C) name=some none) (hv:mA name=some v) (hv':PySem.W.handedIn v=true) (h:Q v {s with toks:=s.toks+1}):
 wpAny (model prog w) A (getAttr (.ref x) name expr) Q E s:=by
 obtain⟨od,J,hl⟩:=I.look;exact PySem.W.get_value X J (ZH hg).1 (PySem.W.findObj_own hh ha rfl (by rw[hl,hv])) hv' h
theorem La{pl:Sem Bool}(X:K.In s.heap)(I:vO s.heap x dx C mA)(hg:PySem.W.plainGet K C name=true)
 (hf:PySem.W.findIn K (.ref C) name=some (some (.ref f))) (ht:PySem.W.isFn K (.ref f)=true) (hv:mA name=none) (h:Q (.ref f,[.ref x]) s):
 wpAny (model prog w) A (getMethod (.ref x) name pl) Q E s:=by
 obtain⟨od,J,hl⟩:=I.look;exact PySem.W.method_fn X J (ZH hg).1 (ZH hg).2 hf (XZ.mp ht) (by show(PySem.W.lookIn name od).map (·.isSome)=some false;rw[hl,hv];rfl) h
theorem gL{ns:List Str}{Q:Unit->Shared->Prop}(X:K.In s.heap)(I:vO s.heap x dx C mA)
 (hs:PySem.W.findIn K (.ref C) "__setattr__"=some (some (.builtin "object.__setattr__"))) (hp:PySem.W.plainOver K C=true) (ht:PySem.W.takerIn K C name=some none) (hh:PySem.W.hasDictIn K C=true)
 (hw:PySem.Within mA ns) (hsz:ns.length<=sizeLine)
 (h:∀h',vO h' x dx C (λ y=>if y=name then some v else mA y)->Heap.SameBut dx s.heap h'->Q () {s with heap:=h',toks:=s.toks+2}):
 wpAny (model prog w) A (setAttr (.ref x) name v) Q E s:=by
 obtain⟨od,J,hl⟩:=I.look;refine PySem.W.set_plain X J hs (PySem.W.osa_open (s:={s with toks:=s.toks+1}) (r:=none) X J hp ht λ b=>?_);obtain⟨cd,hc,hd'⟩:=PySem.W.any_some hh;have hx:s.heap.get? x=some ⟨.ref C,some dx,.plain,#[]⟩:=I.obj;refine VR (V8 (VR (VR (wpAny_loadPart hx (VR (PySem.W.Looks.here (s:={s with toks:=s.toks+1}) (PySem.W.looks_clsIn X hc) ?_))))));rw[hd'];refine V8 (a:=some dx) (VR (V8 (VR ?_)));refine wpAny_nsSet1 (s:={s with toks:=s.toks+1}) I.ns λ h' hn2 hs2=>?_;obtain⟨oD,esD,epD,hoD,hdD,hcD⟩:=hn2.count (PySem.Within.cons name v hw);refine VR (wpAny_lookBehind hoD (by rw[hdD];exact pastItsLine_dict (VX hcD (by rw[Ws];omega))) ?_);exact V8 (h _ ⟨(hs2.2 _ (V6 I.ne)).trans I.obj,hn2,I.ne⟩ hs2)
theorem Lw(X:K.In s.heap)(hm:PySem.W.makesIn K C=true)
 (hi:PySem.W.findIn K (.ref C) "__init__"=some (some (.ref f))) (hf:PySem.W.typeIn K (.ref f)=some (.type "function"))
 (h:codeAny (model prog w) (A.under (.builtin "type.__call__" ⟨.ref C::vs,kw⟩)) (.call (.ref f) ⟨.ref (s.heap.objs.size+1)::vs,kw⟩) (PySem.W.InitBack (s.heap.objs.size+1) R)
   {s with heap:=(s.heap.push PySem.W.emptyDict).push (PySem.W.instObj C s.heap.objs.size)}):
 codeAny (model prog w) A (.call (.ref C) ⟨vs,kw⟩) R s:=by
 obtain⟨hh,g,d,t,os⟩:=s;exact PySem.W.make_core (PySem.W.makes_of X hm) (PySem.W.looks_findIn X hi) (λ self=>PySem.W.bind_fn X self hf) (.inl rfl) h
end
def gd(f:Str)(v:V):List (Str×V)->List (Str×V)
 | []=>[(f,v)]
 |(g,x)::r=>if g=f then(g,v)::r else(g,x)::gd f v r
theorem uT(f g:Str)(v:V):∀fs:List (Str×V),(gd f v fs).lookup g=if g=f then some v else fs.lookup g
 | []=>by
   show List.lookup g [(f,v)]=_;by_cases h:g=f
   . have hb:(g==f)=true:=XZ.mpr h;simp only[List.lookup,hb,VU h]
   . have hb:(g==f)=false:=XS.mpr h;simp only[List.lookup,hb,VT h]
 |(k,x)::r=>by
  have ih:=uT f g v r;rw[show gd f v ((k,x)::r)=(if k=f then(k,v)::r else(k,x)::gd f v r)from rfl];by_cases hk:k=f
  . rw[VU hk];by_cases h:g=k
    . have hb:(g==k)=true:=XZ.mpr h;simp only[List.lookup,hb,VU (h.trans hk)]
    . have hb:(g==k)=false:=XS.mpr h;simp only[List.lookup,hb,VT (λ e:g=f=>h (e.trans hk.symm))]
  . rw[VT hk];by_cases h:g=k
    . have hb:(g==k)=true:=XZ.mpr h;simp only[List.lookup,hb,VT (λ e:g=f=>hk (h.symm.trans e))]
    . have hb:(g==k)=false:=XS.mpr h;simp only[List.lookup,hb];exact ih
theorem tF(f:Str)(v:V):∀fs:List (Str×V),f∈(gd f v fs).map (·.1)/\∀g,g∈fs.map (·.1)->g∈(gd f v fs).map (·.1)
 | []=>⟨by simp[gd],λ g h=>by simp at h⟩
 |(k,x)::r=>by
  obtain⟨i1,i2⟩:=tF f v r;rw[show gd f v ((k,x)::r)=(if k=f then(k,v)::r else(k,x)::gd f v r)from rfl];by_cases hk:k=f
  . rw[VU hk];subst hk;exact⟨by simp,λ g h=>by simpa using h⟩
  . rw[VT hk];refine⟨?_,λ g h=>?_⟩
    . rw[Ww];exact V5 _ i1
    . rw[Ww]at h⊢;rcases V4.mp h with e|e
      . exact V4.mpr (.inl e)
      . exact V5 _ (i2 g e)
theorem uZ(f:Str)(v:V):∀fs:List (Str×V),(gd f v fs).length<=fs.length+1
 | []=>by simp[gd]
 |(k,x)::r=>by
  have ih:=uZ f v r;rw[show gd f v ((k,x)::r)=(if k=f then(k,v)::r else(k,x)::gd f v r)from rfl];by_cases hk:k=f
  . rw[VU hk,Ws,Ws];omega
  . rw[VT hk,Ws,Ws];omega
theorem oH.some_of(r:oH (some v) o):∃u,o=some u/\RelV v u:=by
 cases o with
 |none=>exact(show False from r).elim
 |some u=>exact⟨u,rfl,r⟩
theorem oH.none_of(r:oH none o):o=none:=by
 cases o with
 |none=>rfl
 |some u=>exact(show False from r).elim
theorem Hk(r:RelV v u):PySem.W.handedIn u=true:=by
 cases v with
 |ao=>cases (show u=Value.none from r);rfl
 |bl b=>cases (show u=Value.bool b from r);rfl
 |int i=>obtain⟨t,e⟩:=(show∃t,u=Value.int i t from r);cases e;rfl
 |str x=>obtain⟨t,e⟩:=(show∃t,u=Value.str x t from r);cases e;rfl
 |uV b=>obtain⟨t,e⟩:=(show∃t,u=Value.bytes b t from r);cases e;rfl
 |uW b=>obtain⟨t,e⟩:=(show∃t,u=Value.float b t from r);cases e;rfl
 |ref a=>cases (show u=Value.ref a from r);rfl
 |ty n=>cases (show u=Value.type n from r);rfl
section
variable {P:Program}{w:World}{H H':Hp}{h h':Heap}{a C dx:Addr}{fs fs':List (Str×V)}
theorem oX(aC:gK P w H h)(e:H a=some (.ins C dx fs)):∃mA,vO h a dx C mA/\(∀f,oH (fs.lookup f) (mA f))/\PySem.Within mA (fs.map (·.1))/\fs.length<=1000/\H dx=some (.own a):=by
 obtain⟨d,z,ne,ob,mA,n,r,q⟩:=(show cX P w H h a (.ins C dx fs)from aC a _ e)
 exact⟨mA,⟨ob,n,ne⟩,r,q,z,d⟩
end
structure nF(K:PySem.W.Frag)(C:Addr):Prop where
 pg:PySem.W.plainGet K C Str.empty=true
 hd:PySem.W.hasDictIn K C=true
 po:PySem.W.plainOver K C=true
 sa:PySem.W.findIn K (.ref C) "__setattr__"=some (some (.builtin "object.__setattr__"))
theorem nF.get{K:PySem.W.Frag}{C:Addr}(c:nF K C)(f:Str):PySem.W.plainGet K C f=true:=c.pg
def fJ(K:PySem.W.Frag)(C:Addr)(f:Str):Prop:=PySem.W.findIn K (.ref C) f=some none
theorem fJ.Tc{K:PySem.W.Frag}{C:Addr}{f:Str}(n:fJ K C f):PySem.W.takerIn K C f=some none:=by
 unfold PySem.W.takerIn;rw[show PySem.W.findIn K (.ref C) f=some none from n];rfl
structure Meth(K:PySem.W.Frag)(C:Addr)(m:Str)(f:Addr):Prop where
 at_:PySem.W.findIn K (.ref C) m=some (some (.ref f))
 fn:PySem.W.isFn K (.ref f)=true
 kp:PySem.W.keepIn K (.ref f)=true
section
variable {X:Cx}{pins:List (Addr×Obj)}{σ:St}{H:Hp}{s:Shared}{a C dx:Addr}{fs:List (Str×V)}{f:Str}{v:V}{A:Around}{E:Value->Shared->Prop}
theorem FC(I:Inv X pins σ H s)(e:H a=some (.ins C dx fs))(c:nF X.K C)(n:fJ X.K C f)(l:fs.lookup f=some v)
 (h:∀u s',Inv X pins σ H s'->RelV v u->Q u s'):wpAny (model X.prog X.w) A (getAttr (.ref a) f b) Q E s:=by
 obtain⟨mA,O,r,_,_,_⟩:=oX I.aC e;obtain⟨u,hu,ru⟩:=oH.some_of (v:=v) (o:=mA f) (by rw[<-l];exact r f);exact get_map I.gu O (c.get f) c.hd n hu (Hk ru) (h u _ (I.tok _) ru)
theorem FR{g:Addr}{pl:Sem Bool}(I:Inv X pins σ H s)(e:H a=some (.ins C dx fs))(c:nF X.K C)(k:Meth X.K C m g)(l:fs.lookup m=none)
 (h:Q (.ref g,[.ref a]) s):wpAny (model X.prog X.w) A (getMethod (.ref a) m pl) Q E s:=by
 obtain⟨mA,O,r,_,_,_⟩:=oX I.aC e;have hn:mA m=none:=oH.none_of (by rw[<-l];exact r m);exact La I.gu O (c.get m) k.at_ k.fn hn h
theorem Fu(I:Inv X pins σ H s)(e:H a=some (.ins C dx fs))(c:nF X.K C)(n:fJ X.K C f)(hl:fs.length<1000)(ry:RelV y u)
 (h:∀s',Inv X pins σ (upd H a (.ins C dx (gd f y fs))) s'->Q () s'):wpAny (model X.prog X.w) A (setAttr (.ref a) f u) Q E s:=by
 obtain⟨mA,O,r,wi,_,ho⟩:=oX I.aC e;have hz:(fs.map (·.1)).length<=sizeLine:=by rw[VO,Y7];omega
 refine gL I.gu O c.sa c.po n.Tc c.hd wi hz λ h' O' sb=>h _ ?_;have hd:∃o,h'.get? dx=some o:=let⟨o,_,_,e',_⟩:=O'.ns;⟨o,e'⟩
 refine I.write (x:=a) (e:=dx) (by rw[e];exact True.intro) (.inr ho) (λ b q hb z=>(sb.2 b hb).trans z) hd ?_;refine⟨by rw[ay O.ne];exact ho,?_,O.ne,O'.obj,_,O'.ns,λ g=>?_,λ g hg=>?_⟩
 . have:=uZ f y fs;omega
 . show oH ((gd f y fs).lookup g) (if g=f then some u else mA g);rw[uT];by_cases q:g=f
   . rw[VU q,VU q];exact ry
   . rw[VT q,VT q];exact r g
 . by_cases q:g=f
   . rw[q];exact(tF f y fs).1
   . refine(tF f y fs).2 g (wi g λ z=>hg ?_);show(if g=f then some u else mA g)=none;rw[VT q];exact z
theorem Inv.made(I:Inv X pins σ H s):Inv X pins σ (upd (upd H s.heap.objs.size (.own (s.heap.objs.size+1))) (s.heap.objs.size+1) (.ins C s.heap.objs.size []))
 {s with heap:=(s.heap.push PySem.W.emptyDict).push (PySem.W.instObj C s.heap.objs.size)}:=by
 have e1:(s.heap.push PySem.W.emptyDict).get? s.heap.objs.size=some PySem.W.emptyDict:=Wq s.heap rfl
 have e2:((s.heap.push PySem.W.emptyDict).push (PySem.W.instObj C s.heap.objs.size)).get? (s.heap.objs.size+1)=some (PySem.W.instObj C s.heap.objs.size):=by
  have:=Wq (s.heap.push PySem.W.emptyDict) (o:=PySem.W.instObj C s.heap.objs.size) rfl;rwa [Xh]at this
 have e3:(s.heap.push PySem.W.emptyDict).Ns s.heap.objs.size (λ _=>none):=⟨PySem.W.emptyDict,#[],_,e1,rfl,(λ e he=>absurd he (by simp)),λ _=>rfl⟩
 have I1:=I.laid (a:=s.heap.objs.size) (o:= .own (s.heap.objs.size+1)) (h':=s.heap.push PySem.W.emptyDict) (t':=s.toks) (λ b u q=>VY _ q) (VQ _) ⟨_,e1⟩;refine I1.laid (a:=s.heap.objs.size+1) (o:= .ins C s.heap.objs.size []) (t':=s.toks) (λ b u q=>VY _ q) (Zp (Xh _ _)) ?_;have ne:s.heap.objs.size≠s.heap.objs.size+1:=Wy (WA _);refine⟨by rw[ay ne,aS],Wg _,ne,e2,λ _=>none,(Heap.Ns1.of_empty e3).at λ o q=>VY _ q,λ _=>True.intro,λ y hy=>absurd rfl hy⟩
theorem Oa{e:Expr}{f:Str}{s:Shared}(hb:attributeBase e f env (eval e env)=eval e env)
 (h:wpAny (model prog w) A (eval e env) (λ o s₁=>wpAny (model prog w) A (getAttr o f true) Q E s₁) E s):wpAny (model prog w) A (eval (.Attribute e f pos) env) Q E s:=
 Attribute_any_ h (by rw[arm_eval_Attribute,hb])
end
def UK(K:PySem.W.Frag)(ta:TE)(f:Str):TE:=λ σ H Q=>ta σ H λ x H1=>∃a C dx fs v,x= .ref a/\H1 a=some (.ins C dx fs)/\nF K C/\fJ K C f/\fs.lookup f=some v/\Q v H1
def UE(K:PySem.W.Frag)(ta tv:TE)(f:Str):TS:=λ D σ H=>tv σ H λ y H1=>ta σ H1 λ x H2=>∃a C dx fs,x= .ref a/\H2 a=some (.ins C dx fs)/\nF K C/\fJ K C f/\fs.length<1000/\
 D.nx σ (upd H2 a (.ins C dx (gd f y fs)))
section
variable {X:Cx}{o e value:Expr}{f:Str}{pos pos' tpos:Pos}{ta tv:TE}
theorem Qb(he:PE X e ta)(hb:attributeBase e f X.env (eval e X.env)=eval e X.env):PE X (.Attribute e f pos) (UK X.K ta f):=by
 intro pins s σ H Q I h;refine Oa hb (bI (he pins s σ H _ I h) λ u s1 ⟨x,H1,I1,rx,a,C,dx,fs,v,ex,ea,c,n,l,q⟩=>?_);subst ex;obtain rfl:u=Value.ref a:=rx;exact FC I1 ea c n l λ u' s2 I2 ru=>⟨v,H1,I2,ru,q⟩
theorem Qh(ha:PE X o ta)(hv:PE X value tv)(hs:swapsWith value (some (.Attribute o f pos')) pos.line X.env=pure false):PS X (.Assign [.Attribute o f pos'] value pos) (UE X.K ta tv f):=by
 intro pins s σ H D I h;refine plainObj_wpAny_Assign_Attribute (bI (hv pins s σ H _ I h) λ u s1 ⟨y,H1,I1,ry,q⟩=>bI (ha pins s1 σ H1 _ I1 q) λ ov s2 ⟨x,H2,I2,rx,a,C,dx,fs,ex,ea,c,n,l,q2⟩=>?_) hs;subst ex;obtain rfl:ov=Value.ref a:=rx;exact Fu I2 ea c n l ry λ s3 I3=>⟨σ,_,I3,q2⟩
end
section
variable {X:Cx}{pins:List (Addr×Obj)}{σ:St}{H:Hp}{s:Shared}{A:Around}{E:Value->Shared->Prop}{Q:Value->Shared->Prop}{c:Value}{b:Bool}
inductive iQ(K:PySem.W.Frag)(H:Hp):V->Value->Prop where
 |ao:iQ K H .ao (.type "NoneType")
 |bl (x:Bool):iQ K H (.bl x) (.type "bool")
 |int (i:Int):iQ K H (.int i) (.type "int")
 |str (x:Str):iQ K H (.str x) (.type "str")
 |uW (x:UInt64):iQ K H (.uW x) (.type "float")
 |lst {a:Addr} {xs:List V} (e:H a=some (.lst xs)):iQ K H (.ref a) (.type "list")
 |eJ {a:Addr} {o:Obj} {xs:List V} (e:H a=some (.eJ o (.lst xs))):iQ K H (.ref a) (.type "list")
 |tup {a:Addr} {xs:List V} (e:H a=some (.tup xs)):iQ K H (.ref a) (.type "tuple")
 |dK {a:Addr} {kvs:List (Key×V)} (e:H a=some (.dK kvs)):iQ K H (.ref a) (.type "dict")
 |dT {a:Addr} {kvs:List (List Key×V)} (e:H a=some (.dT kvs)):iQ K H (.ref a) (.type "dict")
 |ins {a C dx:Addr} {fs:List (Str×V)} (e:H a=some (.ins C dx fs)) (cl:nF K C) (ha:PySem.W.findIn K (.ref C) "__class__"=some (some (.builtin "object.__class__")))
   (hn:PySem.W.specialIn K (.builtin "object.__class__") "__get__"=some (some (.builtin "getset_descriptor.__get__"))) (htk:PySem.W.takesIn K (.builtin "object.__class__")=some true)
   (hm:PySem.W.mroIn K C (.type "object")=some true):iQ K H (.ref a) (.ref C)
theorem IX(I:Inv X pins σ H s)(rx:RelV x u)(ty:iQ X.K H x t)(e:PySem.W.kitOne X.K t c=some b)(h:∀tk,Q (.bool b) {s with toks:=tk}):
 wpAny (model X.prog X.w) A (call (.builtin "isinstance") [u,c]) Q E s:=by
 cases ty with
 |ao=>cases (show u=Value.none from rx);exact Xk PySem.W.kitx_none I.gu True.intro e (λ z=>nomatch z) h
 |bl y=>cases (show u=Value.bool y from rx);exact Xk PySem.W.kitx_bool I.gu True.intro e (λ z=>nomatch z) h
 |int i=>obtain⟨t,q⟩:=(show∃t,u=Value.int i t from rx);cases q;exact Xk PySem.W.kitx_int I.gu True.intro e (λ z=>nomatch z) h
 |str y=>obtain⟨t,q⟩:=(show∃t,u=Value.str y t from rx);cases q;exact Xk PySem.W.kitx_str I.gu True.intro e (λ z=>nomatch z) h
 |uW y=>obtain⟨t,q⟩:=(show∃t,u=Value.float y t from rx);cases q;exact Xk PySem.W.kitx_float I.gu True.intro e (λ z=>nomatch z) h
 | @lst a xs ea=>
   cases (show u=Value.ref a from rx);obtain⟨_,_,n,_,h1⟩:=(show cX X.prog X.w H s.heap a (.lst xs)from I.aC a _ ea)
   exact Xk Y0 I.gu ⟨_,h1,rfl⟩ e (λ z=>nomatch z) h
 | @eJ a ob xs ea=>
   cases (show u=Value.ref a from rx);obtain⟨_,_,_,n,_,h1⟩:=(show cX X.prog X.w H s.heap a (.eJ ob (.lst xs))from I.aC a _ ea)
   exact Xk Y0 I.gu ⟨_,h1,rfl⟩ e (λ z=>nomatch z) h
 | @tup a xs ea=>
   cases (show u=Value.ref a from rx);obtain⟨_,_,_,p⟩:=(show cX X.prog X.w H s.heap a (.tup xs)from I.aC a _ ea)
   obtain⟨o,h1,h2,_⟩:=p;exact Xk PySem.W.kitx_tuple I.gu ⟨o,h1,h2⟩ e (λ z=>nomatch z) h
 | @dK a kvs ea=>
   cases (show u=Value.ref a from rx);obtain⟨_,_,vs,_,p⟩:=(show cX X.prog X.w H s.heap a (.dK kvs)from I.aC a _ ea)
   obtain⟨o,es,ep,h1,h2,_⟩:=p;exact Xk Y1 I.gu ⟨o,h1,h2.1⟩ e (λ z=>nomatch z) h
 | @dT a kvs ea=>
   cases (show u=Value.ref a from rx);obtain⟨_,_,xs,_,o,es,ep,h1,h2,_⟩:=(show cX X.prog X.w H s.heap a (.dT kvs)from I.aC a _ ea)
   exact Xk Y1 I.gu ⟨o,h1,h2.1⟩ e (λ z=>nomatch z) h
 | @ins a C dx fs ea cl ha hn htk hm=>
   cases (show u=Value.ref a from rx);obtain⟨mA,O,_⟩:=oX I.aC ea;obtain⟨od,J,_⟩:=O.look;exact Xk (PySem.W.kitx_own (cl.get _) cl.hd ha hn htk hm) I.gu J e (λ z=>nomatch z) h
end
structure cF(k:Nat)(A:Around):Prop where
 hd:A.handled=none
 dp:A.depth+3*k+105<recursionLimit
 un:A.units+16*k+200<cLine
theorem cF.mono{j k:Nat}(r:cF k A)(h:j<=k):cF j A:=⟨r.hd,by have:=r.dp;omega,by have:=r.un;omega⟩
theorem cF.deeper{k:Nat}(r:cF (k+1) A)(env:Env):cF k (A.deeper env):=
 ⟨r.hd,by have:=r.dp;show A.depth+1+3*k+105<_;omega,by have:=r.un;show A.units+3+16*k+200<_;omega⟩
theorem Gn{A:Around}{C:Addr}{us:List Value}{kw:List (Str×Value)}:(A.under (.builtin "type.__call__" ⟨.ref C::us,kw⟩)).depth=A.depth+1:=by
 first|rfl|simp[Around.under,Code.weight,Code.isCreation,Code.isGuard,Code.isCaller,Code.frames,Code.isFrame,guardIds]
theorem Gq{A:Around}{C:Addr}{us:List Value}{kw:List (Str×Value)}:(A.under (.builtin "type.__call__" ⟨.ref C::us,kw⟩)).units=A.units+1:=by
 first|rfl|simp[Around.under,Code.cUnits,Code.frames,Code.isFrame]
theorem cF.make{k:Nat}(r:cF (k+1) A)(C:Addr)(us:List Value)(kw:List (Str×Value)):cF k (A.under (.builtin "type.__call__" ⟨.ref C::us,kw⟩)):=
 ⟨r.hd,by have:=r.dp;rw[Gn];omega,by have:=r.un;rw[Gq];omega⟩
theorem cF.depth{k:Nat}(r:cF k A):A.depth<recursionLimit:=by have:=r.dp;omega
theorem cF.units{k:Nat}(r:cF k A):A.units+64<cLine:=by have:=r.un;omega
def UC:TA:=λ _ H Q=>Q [] H
def RI(ta:TE)(tr:TA):TA:=λ σ H Q=>ta σ H λ x H1=>tr σ H1 λ xs H2=>Q (x::xs) H2
section
variable {X:Cx}{e:Expr}{es:List Expr}{te:TE}{t:TA}{pos:Pos}
theorem QU:PA X [] UC:=λ _ _ _ _ H Q I h=>Calls.spliced_nil ⟨[],H,I,.nil,h⟩
theorem Nl(ha:PE X e te)(hr:PA X es t)(hs:starEach (e::es) X.env=(false,eval e X.env)::starEach es X.env:=by rfl):PA X (e::es) (RI te t):=by
 intro pos pins s σ H Q I h;rw[hs];show wpAny _ _ (spliced ((false,eval e X.env)::backTo pos (starEach es X.env))) _ _ s;refine Calls.spliced_cons (bI (ha pins s σ H _ I h) λ u s1 ⟨x,H1,I1,r1,q1⟩=>?_);exact bI (hr pos pins s1 σ H1 _ I1 q1) λ us s2 ⟨xs,H2,I2,r2,q2⟩=>⟨x::xs,H2,I2,.cons r1 r2,q2⟩
def Ut(t:TA):TE:=λ σ H Q=>t σ H λ xs H1=>xs.length<=sizeLine/\∀p,H1 p=none->Q (.ref p) (upd H1 p (.tup xs))
def UB(t:TA):TE:=λ σ H Q=>t σ H λ xs H1=>xs.length<=sizeLine/\∀p,H1 p=none->Q (.ref p) (upd H1 p (.lst xs))
theorem Pg{x1}(h:PA X es t):PE X (.Tuple es x1 pos) (Ut t):=by
 intro pins s σ H Q I hq;refine wpAny_Tuple_spliced (bI (h pos pins s σ H _ I hq) λ us s1 ⟨xs,H1,I1,r,z,q⟩=>⟨by rw[<-r.length];exact z,?_⟩);have hf:H1 s1.heap.objs.size=none:=I1.aC.fresh (VQ _);refine⟨.ref s1.heap.objs.size,upd H1 s1.heap.objs.size (.tup xs),I1.laid (t':=s1.toks) (λ b u e=>VY _ e) (VQ _) ?_,rfl,q _ hf⟩;exact⟨z,us,r,⟨_,Wq _ rfl,rfl,_,rfl⟩⟩
theorem GZ(h:PA X es t):PE X (.List es pos) (UB t):=by
 intro pins s σ H Q I hq;refine wpAny_List_spliced (bI (h pos pins s σ H _ I hq) λ us s1 ⟨xs,H1,I1,r,z,q⟩=>⟨by rw[<-r.length];exact z,?_⟩);have hf:H1 s1.heap.objs.size=none:=I1.aC.fresh (VQ _);refine⟨.ref s1.heap.objs.size,upd H1 s1.heap.objs.size (.lst xs),I1.laid (t':=s1.toks) (λ b u e=>VY _ e) (VQ _) ?_,rfl,q _ hf⟩;exact⟨z,us,0,r,Wq _ rfl⟩
end
abbrev Sp:=List V->Hp->VK->XK->Prop
abbrev uN:=List Env->Hp->Shared->XK->Value->Shared->Prop
structure vV(P:Program)(w:World)(K:PySem.W.Frag)(mg:Str->Option Value)(base:Heap)(A:Around)(outer:List Env)(s:Shared)(H:Hp):Prop where
 frames:A.frames=some outer
 mod:Mod K mg base
 bs:∀b o,base.get? b=some o->s.heap.get? b=some o/\H b=none
 rO:base.objs.size<=s.heap.objs.size
 jQ:s.heap.FunFrames base outer
 wO:∀b∈pA outer,H b=none
 aC:gK P w H s.heap
 bare:AllBare s.gens
 gt:P.given.tree=none
def CE(outer:List Env)(P:Program)(w:World)(H:Hp)(s:Shared)(Q:VK)(u:Value)(s':Shared):Prop:=
 ∃v H',s'.os=s.os/\AllBare s'.gens/\Un (pA outer) [] H H' s.heap s'.heap/\gK P w H' s'.heap/\RelV v u/\Q v H'
def CR(CX:uN)(outer:List Env)(P:Program)(w:World)(H:Hp)(s:Shared)(Q:VK)(E:XK)(r:Result)(s':Shared):Prop:=
 match r with
 | .ok (.ret u)=>CE outer P w H s Q u s'
 | .ok _=>False
 | .error e=>CX outer H s E e s'
structure dz(P:Program)(w:World)(K:PySem.W.Frag)(mg:Str->Option Value)(base:Heap)(CX:uN)(k:Nat)(f:Addr)(fd:FuncData)(ps:List Str)(sp:Sp):Prop where
 len:∀vs H Q E,sp vs H Q E->vs.length=ps.length
 run:∀(A:Around) (outer:List Env) (s:Shared) (H:Hp) (args:Args) (us:List Value) (vs:List V) (Q:VK) (E:XK),cF k A->vV P w K mg base A outer s H->BindsTo s fd args (ps.zip us)->Vals vs us->sp vs H Q E->
  codeAny (model P w) A (.call (.ref f) args) (CR CX outer P w H s Q E) s
theorem dz.imp{P:Program}{w:World}{K:PySem.W.Frag}{mg:Str->Option Value}{base:Heap}{CX:uN}{k:Nat}{f:Addr}{fd:FuncData}{ps:List Str}{sp sp':Sp}(F:dz P w K mg base CX k f fd ps sp)
 (h:∀vs H Q E,sp' vs H Q E->sp vs H Q E):dz P w K mg base CX k f fd ps sp':=
 ⟨λ vs H Q E q=>F.len vs H Q E (h _ _ _ _ q),λ A outer s H args us vs Q E hr he hb hv hs=>F.run A outer s H args us vs Q E hr he hb hv (h _ _ _ _ hs)⟩
theorem vV.make{P:Program}{w:World}{K:PySem.W.Frag}{mg:Str->Option Value}{base:Heap}{A:Around}{outer:List Env}{s:Shared}{H:Hp}(e:vV P w K mg base A outer s H)(C:Addr)(us:List Value)(kw:List (Str×Value)):
 vV P w K mg base (A.under (.builtin "type.__call__" ⟨.ref C::us,kw⟩)) outer s H:=⟨by first|exact e.frames|(simpa[Around.under,Code.envs,Code.isFrame,pushEnvs]using e.frames),e.mod,e.bs,e.rO,e.jQ,e.wO,e.aC,e.bare,e.gt⟩
section
variable {X:Cx}{pins:List (Addr×Obj)}{σ:St}{H:Hp}{s s':Shared}
theorem Inv.Rp(I:Inv X pins σ H s):vV X.prog X.w X.K X.mg X.base X.A X.stack s H:=
 ⟨I.ok.frames,I.ok.mod,I.bs,VX I.ok.rO I.sz,I.stack,I.yz,I.aC,I.bare,I.ok.gt⟩
theorem Inv.after(I:Inv X pins σ H s)(h:CE X.stack X.prog X.w H s Q u s'):EP X pins σ Q u s':=by
 obtain⟨v,H',os,bare,un,aC,r,q⟩:=h;obtain⟨hh,g,d,t,os'⟩:=s';obtain rfl:os'=s.os:=os;exact⟨v,H',I.call (h':=hh) (g':=g) (d':=d) (t':=t) (ch:=[]) un aC bare (λ b z=>absurd z (by simp)),r,q⟩
end
def Ms(sp:Sp)(dvs:List V)(E:XK)(t:TA):TE:=λ σ H Q=>t σ H λ vs H1=>sp (vs++dvs) H1 Q E
def L8(C:Addr)(m:Str)(sp:Sp)(dvs:List V)(E:XK)(ta:TE)(t:TA):TE:=λ σ H Q=>ta σ H λ x H1=>∃a dx fs,x= .ref a/\H1 a=some (.ins C dx fs)/\fs.lookup m=none/\
 t σ H1 λ vs H2=>sp (x::(vs++dvs)) H2 Q E
def Mj(C:Addr)(sp:Sp)(dvs:List V)(E:XK)(t:TA):TE:=λ σ H Q=>t σ H λ vs H1=>∀x dx,H1 x=none->H1 dx=none->dx≠x->
 sp (.ref x::(vs++dvs)) (upd (upd H1 dx (.own x)) x (.ins C dx [])) (λ v H2=>v= .ao/\Q (.ref x) H2) E
def Binds(K:PySem.W.Frag)(fd:FuncData)(ps:List Str)(ds:List Value):Prop:=
 ∀(s:Shared) (us:List Value),K.In s.heap->(us++ds).length=ps.length->BindsTo s fd ⟨us,[]⟩ (ps.zip (us++ds))
theorem Binds.all{K:PySem.W.Frag}{fd:FuncData}{ps:List Str}(h:∀us:List Value,us.length=ps.length->bindArgs fd ⟨us,[]⟩=pure (ps.zip us)):Binds K fd ps []:=λ s us _ hl=>by
 rw[WE]at hl⊢;exact .of_eq (h us hl)
def Passes(CX:uN)(X:Cx)(E:XK):Prop:=∀(pins:List (Addr×Obj)) (σ:St) (H:Hp) (s:Shared) (e:Value) (s':Shared),Inv X pins σ H s->CX X.stack H s E e s'->X.xe e s'
section
variable {X:Cx}{CX:uN}{k:Nat}{f C:Addr}{fd:FuncData}{ps:List Str}{sp:Sp}{dvs:List V}{ds:List Value}{E:XK}{x m:Str}{p pos apos:Pos}{e o:Expr}{es:List Expr}{ta:TE}{t:TA}
theorem Hl(F:dz X.prog X.w X.K X.mg X.base CX k f fd ps sp)(hr:cF k X.A)(hb:Binds X.K fd ps ds)(hd:Vals dvs ds)(hx:Passes CX X E)
 (I:Inv X pins σ H s) (r:Vals vs us) (h:sp (vs++dvs) H Q E):wpAny (model X.prog X.w) X.A (call (.ref f) us) (EP X pins σ Q) X.xe s:=by
 have r2:Vals (vs++dvs) (us++ds):=r.append hd;have hl:(us++ds).length=ps.length:=by rw[<-r2.length];exact F.len _ _ _ _ h
 refine wpAny_call (aac (F.run X.A X.stack s H ⟨us,[]⟩ (us++ds) (vs++dvs) Q E hr I.Rp (hb s us I.gu hl) r2 h) λ r s' hq=>?_);cases r with
 |error e=>exact hx pins σ H s e s' I hq
 |ok fl=>
  cases fl with
  |ret u=>exact I.after hq
  |next=>exact False.elim hq
  |brk=>exact False.elim hq
  |cont=>exact False.elim hq
theorem Ox(F:dz X.prog X.w X.K X.mg X.base CX k f fd ps sp)(hr:cF k X.A)(hg:Gl X x)(hm:X.mg x=some (.ref f))(hk:PySem.W.keepIn X.K (.ref f)=true)(hb:Binds X.K fd ps ds)(hd:Vals dvs ds)(hx:Passes CX X E)
 (ha:PA X (e::es) t) (hdb:(x==("__debug__":Str))=false:=by decide) (he:starEach (e::es) X.env=(false,eval e X.env)::starEach es X.env:=by rfl) (hpl:(backTo pos (starEach es X.env)).any (·.1)=false:=by rfl):
 PE X (.Call (.Name x p) (e::es) [] pos) (Ms sp dvs E t):=by
 intro pins s σ H Q I h;refine Ys (Eh I hg hm ?_ hdb);refine ZN (h₀:=X.base) I.ok.mod.Hu hk (bI (ha pos pins s σ H _ I h) λ us s1 ⟨vs,H1,I1,r,q⟩=>⟨I1.gu,?_⟩) he hpl;exact Hl F hr hb hd hx I1 r q
theorem Nz{pl:Sem Bool}(he:PE X o ta)(c:nF X.K C)(hm:Meth X.K C m f)(F:dz X.prog X.w X.K X.mg X.base CX k f fd ps sp)(hr:cF k X.A)(hb:Binds X.K fd ps ds)(hd:Vals dvs ds)(hx:Passes CX X E)(ha:PA X (e::es) t)
 (hst:starEach (e::es) X.env=(false,eval e X.env)::starEach es X.env:=by rfl) (hpl:(backTo pos (starEach es X.env)).any (·.1)=false:=by rfl)
 (ht:eval (.Call (.Attribute o m apos) (e::es) [] pos) X.env=(do
   let ov <-eval o X.env
   standAt apos.atName
   let(f,first) <-holding [ov] (getMethod ov m pl)
   callWith pos f first (backTo pos (starEach (e::es) X.env)) (backToKw pos (keywordEach [] X.env))):=by rfl):
 PE X (.Call (.Attribute o m apos) (e::es) [] pos) (L8 C m sp dvs E ta t):=by
 intro pins s σ H Q I h;refine PySem.W.methodCall_KW (pl:=pl) (bI (he pins s σ H _ I h) λ u s1 ⟨x,H1,I1,rx,a,dx,fs,ex,ea,l,q⟩=>?_) ht;subst ex;obtain rfl:u=Value.ref a:=rx;refine FR I1 ea c hm l ?_;refine ZN (first:=[.ref a]) (h₀:=X.base) I.ok.mod.Hu hm.kp (bI (ha pos pins s1 σ H1 _ I1 q) λ us s2 ⟨vs,H2,I2,r,q2⟩=>⟨I2.gu,?_⟩) hst hpl;exact Hl (us:= .ref a::us) (vs:= .ref a::vs) F hr hb hd hx I2 (.cons rfl r) q2
structure Mk(K:PySem.W.Frag)(C f:Addr):Prop where
 makes:PySem.W.makesIn K C=true
 init:PySem.W.findIn K (.ref C) "__init__"=some (some (.ref f))
 fn:PySem.W.isFn K (.ref f)=true
 kp:PySem.W.keepIn K (.ref C)=true
theorem Kg(M:Mk X.K C f)(F:dz X.prog X.w X.K X.mg X.base CX k f fd ps sp)(hr:cF (k+1) X.A)(hb:Binds X.K fd ps ds)(hd:Vals dvs ds)
 (hx:Passes CX X E) (I:Inv X pins σ H s) (r:Vals vs us)
 (h:∀x dx,H x=none->H dx=none->dx≠x->sp (.ref x::(vs++dvs)) (upd (upd H dx (.own x)) x (.ins C dx [])) (λ v H2=>v= .ao/\Q (.ref x) H2) E):
 wpAny (model X.prog X.w) X.A (call (.ref C) us) (EP X pins σ Q) X.xe s:=by
 have hq:=h (s.heap.objs.size+1) s.heap.objs.size (I.aC.fresh (Yx _)) (I.aC.fresh (VQ _)) (Wy (WA _));have I2:=Inv.made (C:=C) I;have r2:Vals (V.ref (s.heap.objs.size+1)::(vs++dvs)) (Value.ref (s.heap.objs.size+1)::(us++ds)):= .cons rfl (r.append hd)
 have hl:(Value.ref (s.heap.objs.size+1)::us++ds).length=ps.length:=by
  have e:=r2.length;rw[F.len _ _ _ _ hq]at e;exact e.symm
 refine wpAny_call (Lw (f:=f) I.gu M.makes M.init (XZ.mp M.fn) (aac (F.run _ X.stack _ _ ⟨Value.ref (s.heap.objs.size+1)::us,[]⟩ (Value.ref (s.heap.objs.size+1)::(us++ds)) _ _ E (hr.make C us [])
  (I2.Rp.make C us []) (hb _ (Value.ref (s.heap.objs.size+1)::us) I2.gu hl) r2 hq) λ r s' hq'=>?_))
 cases r with
 |error e=>exact hx pins σ _ _ e s' I2 hq'
 |ok fl=>
  cases fl with
  |ret u=>
   obtain⟨v,H',I3,rv,ev,q3⟩:=I2.after hq';subst ev;exact⟨rv,⟨V.ref (s.heap.objs.size+1),H',I3,rfl,q3⟩⟩
  |next=>exact False.elim hq'
  |brk=>exact False.elim hq'
  |cont=>exact False.elim hq'
theorem O3(M:Mk X.K C f)(F:dz X.prog X.w X.K X.mg X.base CX k f fd ps sp)(hr:cF (k+1) X.A)(hg:Gl X x)(hm:X.mg x=some (.ref C))(hb:Binds X.K fd ps ds)(hd:Vals dvs ds)(hx:Passes CX X E)
 (ha:PA X (e::es) t) (hdb:(x==("__debug__":Str))=false:=by decide) (he:starEach (e::es) X.env=(false,eval e X.env)::starEach es X.env:=by rfl) (hpl:(backTo pos (starEach es X.env)).any (·.1)=false:=by rfl):
 PE X (.Call (.Name x p) (e::es) [] pos) (Mj C sp dvs E t):=by
 intro pins s σ H Q I h;refine Ys (Eh I hg hm ?_ hdb);refine ZN (h₀:=X.base) I.ok.mod.Hu M.kp (bI (ha pos pins s σ H _ I h) λ us s1 ⟨vs,H1,I1,r,q⟩=>⟨I1.gu,?_⟩) he hpl;exact Kg M F hr hb hd hx I1 r q
end
section
variable {X:Cx}{CX:uN}{k:Nat}{f C:Addr}{fd:FuncData}{ps ks:List Str}{sp:Sp}{E:XK}{x m:Str}{p pos apos kpos:Pos}{e o:Expr}{es:List Expr}{kws:List Keyword}{te ta:TE}{t tk:TA}{nm:Option Str}
variable {g:List Value->List Value->List Value}{gV:List V->List V->List V}
end
structure kD(N P:List Str)(sc:Scope):Prop where
 kind:sc.kind= .function
 co:sc.isCoroutine=false
 gen:sc.isGenerator=false
 nd:N.Nodup
 pre:N.take P.length=P
 par:∀x∈P,sc.names.lookup x=some .local\/sc.names.lookup x=some .cell
 QD:∀y∈sc.names,y.2≠ .free
theorem y_{kindOf:Str->Option NameKind}:∀ {binds:List (Str×Value)} {m:Str->Option Value},(∀v,(x,v)∉binds)->bindL kindOf binds m x=m x
 | [],_,_=>rfl
 |(n,v)::r,m,h=>by
  unfold bindL;rw[y_ λ w hw=>h w (V5 _ hw)];split
  . have:x≠n:=by rintro rfl;exact h v V_
    simp[this]
  . rfl
theorem zj{kindOf:Str->Option NameKind}:∀ {binds:List (Str×Value)} {m:Str->Option Value},(∀v,(x,v)∉binds)->bindC kindOf binds m x=m x
 | [],_,_=>rfl
 |(n,v)::r,m,h=>by
  unfold bindC;rw[zj λ w hw=>h w (V5 _ hw)];split
  . rfl
  . have:x≠n:=by rintro rfl;exact h v V_
    simp[this]
theorem zi{kindOf:Str->Option NameKind}:∀ {P:List Str} {vs:List Value} {i:Nat} {m:Str->Option Value},P.Nodup->P[i]?=some x->vs[i]?=some v->kindOf x=some .local->
 bindL kindOf (P.zip vs) m x=some v
 | [],_,_,_,_,h,_,_=>by simp at h
 |_::_,[],_,_,_,_,h,_=>by simp at h
 |p::P,w::vs,0,m,nd,h1,h2,hk=>by
  simp at h1 h2;subst h1;subst h2;show bindL kindOf ((p,w)::P.zip vs) m p=_;unfold bindL;rw[y_ λ v hv=>(Xp.mp nd).1 (Zq hv).1,VU hk];simp
 |p::P,w::vs,i+1,m,nd,h1,h2,hk=>by
  show bindL kindOf ((p,w)::P.zip vs) m x=_;unfold bindL;exact zi (i:=i) (Xp.mp nd).2 (by simpa using h1) (by simpa using h2) hk
theorem ze{kindOf:Str->Option NameKind}:∀ {P:List Str} {vs:List Value} {i:Nat} {m:Str->Option Value},P.Nodup->P[i]?=some x->vs[i]?=some v->kindOf x≠some .local->
 bindC kindOf (P.zip vs) m x=some v
 | [],_,_,_,_,h,_,_=>by simp at h
 |_::_,[],_,_,_,_,h,_=>by simp at h
 |p::P,w::vs,0,m,nd,h1,h2,hk=>by
  simp at h1 h2;subst h1;subst h2;show bindC kindOf ((p,w)::P.zip vs) m p=_;unfold bindC;rw[zj λ v hv=>(Xp.mp nd).1 (Zq hv).1,VT hk];simp
 |p::P,w::vs,i+1,m,nd,h1,h2,hk=>by
  show bindC kindOf ((p,w)::P.zip vs) m x=_;unfold bindC;exact ze (i:=i) (Xp.mp nd).2 (by simpa using h1) (by simpa using h2) hk
def start(N:List Str)(vs:List V):St:=vs.map some++List.replicate (N.length-vs.length) none
def oy(CX:uN)(P:Program)(w:World)(K:PySem.W.Frag)(mg:Str->Option Value)(base:Heap)(N:List Str)(qual:Str)(scope:Scope)(f:Addr)(cd:Value)(A:Around)(outer:List Env)(s:Shared)(H:Hp)(E:XK):Cx where
 prog:=P
 w:=w
 K:=K
 mg:=mg
 base:=base
 A:=A.deeper (envOfC qual scope s.heap.objs.size f cd)
 N:=N
 s₀:=s
 H₀:=H
 env:=envOfC qual scope s.heap.objs.size f cd
 outer:=outer
 stack:=envOfC qual scope s.heap.objs.size f cd::outer
 ex:=[]
 calm:=true
 fn:=λ _=>true
 pn:=[]
 xe:=λ e s'=>wpAny (model P w) (A.deeper (envOfC qual scope s.heap.objs.size f cd)) (leaving (envOfC qual scope s.heap.objs.size f cd) e) (λ _ s''=>CX outer H s E e s'') (λ e' s''=>CX outer H s E e' s'') s'
theorem BX{sc:Scope}{n:Nat}{x:Str}(h:sc.names.lookup x=some .cell):∃c,(cellsFrom n sc.names []).lookup x=some c:=by
 have q:=X3 sc.names n [] (.inl h);exact Yp.mp q
theorem HD{CX:uN}{P:Program}{w:World}{K:PySem.W.Frag}{mg:Str->Option Value}{base:Heap}{N ps:List Str}{qual:Str}{scope:Scope}{f:Addr}{cd:Value}{A:Around}{outer:List Env}{s s1:Shared}{H:Hp}{E:XK}{us:List Value}{vs:List V}
 (S:kD N ps scope) (hd:A.handled=none) (e0:vV P w K mg base A outer s H) (hl:vs.length=ps.length) (r:Vals vs us)
 (x:InCallC s s.heap.objs.size (bindL (envOfC qual scope s.heap.objs.size f cd).kindOf (ps.zip us) λ _=>none) (cellsFrom (s.heap.objs.size+1) scope.names []) (bindC (envOfC qual scope s.heap.objs.size f cd).kindOf (ps.zip us) λ _=>none) s1):
 Inv (oy CX P w K mg base N qual scope f cd A outer s H E) [] (start N vs) H s1:=by
 have hpl:ps.length<=N.length:=by have:=Xr List.length S.pre;rw[Wl]at this;omega
 obtain⟨h1,tk,rfl,hk⟩:=x.done;have noA:∀b:Addr,b∉(oy CX P w K mg base N qual scope f cd A outer s H E).ex:=λ b z=>absurd (show b∈([]:List Addr)from z) (by simp)
 refine⟨⟨e0.mod,S.kind,rfl,rfl,VQ _,λ y z c h1 h2=>?_,λ y hy=>?_,λ y c _ h=>?_,λ _=>hd,Around.frames_deeper e0.frames,.inr ⟨rfl,rfl⟩,λ b z=>absurd z (noA b),e0.bs,e0.rO,λ b _ _=>noA b,λ b z=>absurd z (noA b),e0.jQ,e0.wO,e0.gt⟩,
  rfl,e0.bare,Un.kept hk,⟨_,x.toInCall.ns,λ i y v h1 h2 h3=>?_⟩,λ y c h=>⟨_,x.cell y c h⟩,e0.aC.fresh (VQ _),λ y c h=>?_,λ p hp=>absurd (show p∈([]:List (Addr×Obj))from hp) (by simp),e0.aC.kept hk,?_⟩
 . exact name_of_addr x.apart (WN h1) (WN h2)
 . have hy:scope.names.lookup y=some .cell\/scope.names.lookup y=some .free:=hy;rcases hy with hy|hy
   . exact BX hy
   . exact absurd rfl (S.QD _ (WN hy))
 . exact W2 (x.above y c (WN h))
 . have hi:i<vs.length:=by
    unfold start at h2;by_cases hi:i<vs.length
    . exact hi
    . rw[Wu (by simpa using hi)]at h2;rw[YY]at h2;split at h2<;>cases h2
   have ha:vs[i]?=some v:=by
    unfold start at h2;rw[VZ (by simpa using hi),Wn]at h2;cases e:vs[i]? with
    |none=>rw[e]at h2;cases h2
    |some a=>rw[e]at h2;cases h2;rfl
   obtain⟨u,hu,rv⟩:=r.get ha
   have hp:ps[i]?=some y:=by
    rw[<-S.pre,XJ (by omega)];exact h1
   have ndP:ps.Nodup:=by rw[<-S.pre];exact S.nd.sublist (List.take_sublist _ _)
   refine⟨u,rv,?_⟩;rcases S.par y (Wa hp)with k|k
   . exact .inl ⟨k,zi ndP hp hu k⟩
   . obtain⟨c,e⟩:=BX (n:=s.heap.objs.size+1) k;refine .inr ⟨.inl k,c,e,?_⟩;have q:=x.cell y c e;rw[ze ndP hp hu (by show scope.names.lookup y≠_;rw[k];decide)]at q;exact q
 . exact e0.aC.fresh (W2 (x.above y c (WN h)))
 . unfold start;show _=N.length;rw[V3,VO,Yj];omega
theorem Na{CX:uN}{P:Program}{w:World}{K:PySem.W.Frag}{mg:Str->Option Value}{base:Heap}{k:Nat}{f:Addr}{name qual:Str}{params:Arguments}{body:List Stmt}{scope:Scope}{dV kV doc pm cdv ct oc:Value}{an od:Option Addr}
 {osl:Array (Option Value)} {N ps:List Str} {sp:Sp} (lk:K.lookup f=some ⟨oc,od,.func (PySem.W.fnOf name qual params body scope dV kV doc pm an cdv ct),osl⟩) (hcd:PySem.W.codeIn K cdv qual=true) (S:kD N ps scope)
 (len:∀vs H Q E,sp vs H Q E->vs.length=ps.length)
 (hbody:∀(A:Around) (outer:List Env) (s:Shared) (H:Hp) (vs:List V) (Q:VK) (E:XK),cF k (A.deeper (envOfC qual scope s.heap.objs.size f cdv))->sp vs H Q E->
   ∃t,gw (oy CX P w K mg base N qual scope f cdv A outer s H E) body t/\t {nx:=λ _ H'=>Q .ao H',rt:=Q} (start N vs) H):
 dz P w K mg base CX (k+1) f (PySem.W.fnOf name qual params body scope dV kV doc pm an cdv ct) ps sp:=by
 refine⟨len,λ A outer s H args us vs Q E hr e0 hb r hsp=>?_⟩;have hl:=len _ _ _ _ hsp;have KX:K.In s.heap:=e0.mod.Hu.keeps λ b o e=>(e0.bs b o e).1;have lim:s.heap.NoLimit:=e0.mod.nolimit.keeps λ b o e=>(e0.bs b o e).1
 have hkind:∀y∈ps.zip us,scope.names.lookup y.1=some .local\/(scope.names.lookup y.1=some .cell/\((cellsFrom (s.heap.objs.size+1) scope.names []).lookup y.1).isSome=true):=λ⟨n,v⟩ hy=>by
  rcases S.par n (Zq hy).1 with q|q
  . exact .inl q
  . exact .inr ⟨q,X3 _ _ _ (.inl q)⟩
 refine codeAny_call_function hr.depth (KX _ _ lk) rfl S.co S.gen rfl (PySem.W.codeRec_of KX hcd) (hb _ _ _ _ ?_);refine wpAny_newFunctionEnv_cells S.kind hkind λ env he s1 x=>?_;subst he;refine⟨lim.keeps x.toInCall.keep,codeAny_func ?_⟩;obtain⟨t,ht,hq⟩:=hbody A outer s H vs Q E (hr.deeper _) hsp;have I:Inv (oy CX P w K mg base N qual scope f cdv A outer s H E) [] (start N vs) H s1:=HD S hr.hd e0 hl r x;refine XC (ht [] s1 (start N vs) H _ I hq) (λ fl s' hs=>?_) λ e s' hs=>hs
 have fin:∀ {σ':St} {H':Hp} {v:V} {u:Value},Inv (oy CX P w K mg base N qual scope f cdv A outer s H E) [] σ' H' s'->RelV v u->Q v H'->CE outer P w H s Q u s':=
  λ{σ' H' v u} J rv q=>⟨v,H',J.os,J.bare,J.base,J.aC,rv,q⟩
 cases fl with
 |ret u=>
  obtain⟨v,σ',H',J,rv,q⟩:=hs;exact fin J rv q
 |next=>
  obtain⟨σ',H',J,q⟩:=hs;exact fin (v:=V.ao) (u:=Value.none) J rfl q
 |brk=>
  obtain⟨_,_,_,q⟩:=hs;exact False.elim q
 |cont=>
  obtain⟨_,_,_,q⟩:=hs;exact False.elim q
section
variable {X:Cx}{x:Str}{p pos:Pos}{e:Expr}{es:List Expr}{t:TA}{id T:String}{r:List V->Hp->VK->Prop}
def P7(r:List V->Hp->VK->Prop)(t:TA):TE:=λ σ H Q=>t σ H λ vs H1=>r vs H1 Q
theorem KN(hc:bf X (.builtin id) r)(hg:Gl X x)(hm:X.mg x=none)(hv:bootBuiltins x=some (.builtin id))(ha:PA X (e::es) t)(hn:x≠"__name__":=by decide)(hdb:(x==("__debug__":Str))=false:=by decide)
 (he:starEach (e::es) X.env=(false,eval e X.env)::starEach es X.env:=by rfl) (hpl:(backTo pos (starEach es X.env)).any (·.1)=false:=by rfl):PE X (.Call (.Name x p) (e::es) [] pos) (P7 r t):=by
 intro pins s σ H Q I h;refine Ys (lg I hg hm hv ?_ hn hdb);exact PyProof.Rows.callWith_builtin1 (bI (ha pos pins s σ H _ I h) λ us s1 ⟨vs,H1,I1,r1,q1⟩=>hc pins s1 σ H1 vs us Q I1 r1 q1) he hpl
theorem Ig(hc:bf X (.type T) r)(hg:Gl X x)(hm:X.mg x=none)(hv:bootBuiltins x=some (.type T))(ha:PA X (e::es) t)(hn:x≠"__name__":=by decide)(hdb:(x==("__debug__":Str))=false:=by decide)
 (he:starEach (e::es) X.env=(false,eval e X.env)::starEach es X.env:=by rfl) (hpl:(backTo pos (starEach es X.env)).any (·.1)=false:=by rfl):PE X (.Call (.Name x p) (e::es) [] pos) (P7 r t):=by
 intro pins s σ H Q I h;refine Ys (lg I hg hm hv ?_ hn hdb);exact Xz (bI (ha pos pins s σ H _ I h) λ us s1 ⟨vs,H1,I1,r1,q1⟩=>hc pins s1 σ H1 vs us Q I1 r1 q1) he hpl
end
end L2
namespace HT
open PySem PyProof.Rows
section
open PySem.SeqAt
open PySem.AutoSeq1 (wpAny_loadPart')
open PySem.MeetsSeq PySem.MeetsSeq2 PySem.MeetsSeq3
end
section
variable {prog:Program}{w:World}{A:Around}{E:Value->Shared->Prop}{s:Shared}
theorem Nu(ht:IsTup s.heap t vs.toArray)(hb:IsTup s.heap b ws.toArray)(hv:vs≠ [])
 (h1:ws=[]->Q (.ref t) s) (h2:ws≠ []->Q (.ref s.heap.objs.size) {s with heap:=s.heap.push {cls:= .type "tuple",data:= .seq (vs++ws).toArray}})
 (hsz:vs.length+ws.length<=sizeLine):wpAny (model prog w) A (binaryOp .Add (.ref t) (.ref b)) Q E s:=by
 obtain⟨⟨cls,dd,data,sl⟩,ho,hc,n,hd⟩:=id ht;obtain⟨⟨cls2,dd2,data2,sl2⟩,ho2,hc2,n2,hd2⟩:=id hb;simp only at hc hd hc2 hd2;subst hc hd hc2 hd2;have e:vs.toArray++ws.toArray=(vs++ws).toArray:=by simp
 by_cases hw:ws=[]
 . exact concat_meets ⟨_,ho,rfl⟩ ⟨_,ho2,rfl⟩ aad seq_tuple_add Y8 YZ (YN _ _)
    (tuple_addW1 t b vs.toArray ws.toArray n n2 dd dd2 sl sl2 (by simpa using hv) (by simp[hw])) ⟨ho,ho2,h1 hw⟩
 . refine concat_meets ⟨_,ho,rfl⟩ ⟨_,ho2,rfl⟩ aad seq_tuple_add Y8 YZ (YN _ _)
    (tuple_addW2 t b vs.toArray ws.toArray n n2 dd dd2 sl sl2 (by simpa using hv) (by simpa using hw) (by rw[V2,V2];exact hsz)) ⟨ho,ho2,?_⟩
   rw[e];exact h2 hw
def bL(n d:Nat):Option Int->Nat
 |none=>d
 |some v=>if v<0 then(v+(n:Int)).toNat else min v.toNat n
theorem qj(n d:Nat):bL n d none=d:=rfl
theorem uq(n d k:Nat):bL n d (some (k:Int))=min k n:=by
 show(if(k:Int)<0 then((k:Int)+(n:Int)).toNat else min (k:Int).toNat n)=min k n;rw[VT (by omega),Wi]
theorem Qd(n d:Nat)(hd:d<=n)(o:Option Int):bL n d o<=n:=by
 cases o with
 |none=>exact hd
 |some v=>
  show(if v<0 then(v+(n:Int)).toNat else min v.toNat n)<=n;by_cases hv:v<0
  . rw[VU hv];omega
  . rw[VT hv];exact Nat.min_le_right _ _
theorem E5(v:Int)(n d:Nat):(if v<0 then max (v+(n:Int)) 0 else min v (n:Int))=((bL n d (some v):Nat):Int):=by
 show(if v<0 then max (v+(n:Int)) 0 else min v (n:Int))=(((if v<0 then(v+(n:Int)).toNat else min v.toNat n):Nat):Int)
 by_cases hv:v<0
 . simp only[VU hv];omega
 . simp only[VT hv];omega
theorem FN(lo hi:Option Int)(n:Nat):Builtin.Slice.sliceAdjust lo hi 1 (n:Int)=(((bL n 0 lo:Nat):Int),((bL n n hi:Nat):Int)):=by
 have h1:¬((1:Int)<0):=by omega
 unfold Builtin.Slice.sliceAdjust;simp only[h1,XT];refine Prod.ext ?_ ?_
 . cases lo with
   |none=>rfl
   |some v=>exact E5 v n 0
 . cases hi with
   |none=>rfl
   |some v=>exact E5 v n n
theorem F9(i j:Nat):Builtin.Slice.slicePlaces (i:Int) (j:Int) 1=j-i:=by
 unfold Builtin.Slice.slicePlaces;have h1:(1:Int)>0:=by omega
 simp only[h1,Yk,Int.ediv_one];split<;>omega
theorem xj(p:IsPart v o)(h:Q o s):wpAny (model prog w) A (Builtin.Slice.slicePartIndex v) Q E s:=by
 cases p with
 |none=>exact slicePart_none h
 |int i t=>exact slicePart_int h
theorem nj{sl:Addr}{vl vu:Value}{lo hi:Option Int}{n:Nat}{Q:Int×Int×Nat->Shared->Prop}(hs:s.heap.IsSliceOf sl vl vu .none)(pl:IsPart vl lo)(pu:IsPart vu hi)
 (h:Q (((bL n 0 lo:Nat):Int),1,bL n n hi-bL n 0 lo) s):wpAny (model prog w) A (Builtin.Slice.sliceApplied (.ref sl) (pure (n:Int))) Q E s:=by
 obtain⟨os,hos,hcs,hds⟩:=id hs;unfold Builtin.Slice.sliceApplied Builtin.Slice.sliceFields;refine VR (VR (Xf hos hds (x:=vl) rfl (VR (Xf hos hds (x:=vu) rfl (VR (Xf hos hds (x:= .none) rfl (V8 ?_)))))));refine VR (slicePart_none ?_);show wpAny _ _ (if((1:Int)==0)=true then _ else _) _ _ s;rw[VT (by decide)];refine VR (xj pl (VR (xj pu (VR (V8 ?_)))));show wpAny _ _ (match Builtin.Slice.sliceAdjust lo hi 1 (n:Int)with|(lo,hi)=>pure (lo,(1:Int),Builtin.Slice.slicePlaces lo hi 1)) _ _ s;rw[FN lo hi n];show wpAny _ _ (pure (((bL n 0 lo:Nat):Int),(1:Int),Builtin.Slice.slicePlaces ((bL n 0 lo:Nat):Int) ((bL n n hi:Nat):Int) 1)) _ _ s;rw[F9];exact V8 h
theorem Kx(xs:Array Value)(i k:Nat):((List.range k).filterMap λ(m:Nat)=>xs[((i:Int)+(m:Int)*1).toNat]?).toArray=((xs.toList.drop i).take k).toArray:=by
 have e:(λ(m:Nat)=>xs[((i:Int)+(m:Int)*1).toNat]?)=λ m=>xs[i+m]?:=by
  funext m;have:((i:Int)+(m:Int)*1).toNat=i+m:=by omega
  rw[this]
 rw[e];have:=pick_run xs i k;rw[List.filterMap_map]at this;have e2:((λ x=>xs[x]?)∘λ x=>i+x)=λ m=>xs[i+m]?:=rfl;rw[e2]at this;rw[this]
theorem uF{t sl:Addr}{items:Array Value}{vl vu:Value}{lo hi:Option Int}{Q:Value->Shared->Prop}(ht:IsTup s.heap t items)(hs:s.heap.IsSliceOf sl vl vu .none)(pl:IsPart vl lo)(pu:IsPart vu hi)
 (hw:¬(bL items.size 0 lo=0/\bL items.size items.size hi=items.size))
 (h:Q (.ref s.heap.objs.size) {s with heap:=s.heap.push {cls:= .type "tuple",data:= .seq ((items.toList.drop (bL items.size 0 lo)).take (bL items.size items.size hi-bL items.size 0 lo)).toArray}})
 (hsz:items.size<=sizeLine):wpAny (model prog w) A (getItem (.ref t) (.ref sl)) Q E s:=by
 have htake:sizeOk (.seq ((items.toList.drop (bL items.size 0 lo)).take (bL items.size items.size hi-bL items.size 0 lo)).toArray):=by
  show((items.toList.drop (bL items.size 0 lo)).take (bL items.size items.size hi-bL items.size 0 lo)).toArray.size<=sizeLine;rw[V2,Wl,WV,Xg];omega
 have hj:bL items.size items.size hi<=items.size:=Qd _ _ (VQ _) hi;obtain⟨os,hos,hcs,hds⟩:=id hs;have hTs:s.TypeIs (.ref sl) "slice":=⟨os,hos,hcs⟩
 unfold getItem;try with_reducible refine Yr ?_
 first|refine VR (V8 ?_)|skip
 refine VR (wpAny_sequenceKey ht.typeIs (by decide) ?_)
 refine VR (Xm (name:=Str.ofString "__getitem__") ht.typeIs Xb
  (XW Xb ht.typeIs entry_tuple_getitem ?_ (args_tuple_getitem _ _)))
 show wpAny _ _ (Builtin.Tuple.tupleItemsOf (.ref t) >>= _) _ _ s;refine VR (tupleItemsOf_ ht ?_);refine VR (wpAny_typeOf hTs ?_);rw[VU (by decide)];refine VR (nj hs pl pu ?_)
 have hno:¬((((bL items.size 0 lo:Nat):Int)==0&&(1:Int)==1&&(bL items.size items.size hi-bL items.size 0 lo)==items.size)=true):=by
  intro q;rw[Wv,Wv]at q;have q1:((bL items.size 0 lo:Nat):Int)=0:=eq_of_beq q.1.1;have q2:bL items.size items.size hi-bL items.size 0 lo=items.size:=eq_of_beq q.2;exact hw ⟨by omega,by omega⟩
 show wpAny _ _ (if(((bL items.size 0 lo:Nat):Int)==0&&(1:Int)==1&&(bL items.size items.size hi-bL items.size 0 lo)==items.size)=true then _ else _) _ _ s;rw[VT hno,Kx]
 first
  |exact VR (m:=Builtin.Tuple.tupleExact _) (Yo (V8 ⟨_,rfl,V8 h⟩) htake)
  |exact VR (m:=Builtin.Tuple.tupleExact _) (Yo (VR (V8 (V8 ⟨_,rfl,V8 h⟩))) htake)
  |exact VR (VR (m:=Builtin.Tuple.tupleExact _) (Yo (V8 (V8 ⟨_,rfl,V8 h⟩)) htake))
  |exact VR (VR (m:=Builtin.Tuple.tupleExact _) (Yo (V8 ⟨_,rfl,V8 h⟩) htake))
end
end HT
namespace L2
open PySem PySem.Spec PyProof.Rows
abbrev TO:=St->Hp->(Option Int->Hp->Prop)->Prop
def PO(X:Cx)(e:Option Expr)(t:TO):Prop:=
 ∀(pins:List (Addr×Obj)) (s:Shared) (σ:St) (H:Hp) (Q:Option Int->Hp->Prop),Inv X pins σ H s->t σ H Q->
  wpAny (model X.prog X.w) X.A (evalPart e X.env) (λ u s'=>∃o H',Inv X pins σ H' s'/\IsPart u o/\Q o H') X.xe s
def N9:TO:=λ _ H Q=>Q none H
def SN(t:TE):TO:=λ σ H Q=>t σ H λ x H1=>∃i,x= .int i/\Q (some i) H1
section
variable {X:Cx}{e:Expr}{te:TE}{lo hi:Option Expr}{tl th:TO}{pos p2:Pos}
theorem Oq:PO X none N9:=by
 intro pins s σ H Q I h;rw[evalPart_none];exact V8 ⟨none,H,I,.none,h⟩
theorem NQ(h:PE X e te):PO X (some e) (SN te):=by
 intro pins s σ H Q I hw;rw[evalPart_some];refine bI (h pins s σ H _ I hw) λ u s1 ⟨x,H1,I1,r1,q1⟩=>?_;obtain⟨i,rfl,q⟩:=q1;obtain⟨t,rfl⟩:=r1;exact⟨some i,H1,I1,.int i t,q⟩
def Ir(X:Cx)(r:V->Option Int->Option Int->Hp->VK->Prop):Prop:=
 ∀(pins:List (Addr×Obj)) (s:Shared) (σ:St) (H:Hp) (x:V) (v vl vu:Value) (lo hi:Option Int) (sl:Addr) (Q:VK),Inv X pins σ H s->RelV x v->s.heap.IsSliceOf sl vl vu .none->IsPart vl lo->IsPart vu hi->r x lo hi H Q->
  ∃T id,typeLookup (.type T) "__getitem__"=pure (some (.builtin id))/\s.TypeIs v T/\wpAny (model X.prog X.w) X.A (getItem v (.ref sl)) (EP X pins σ Q) X.xe s
def Vh(r:V->Option Int->Option Int->Hp->VK->Prop)(te:TE)(tl th:TO):TE:=λ σ H Q=>te σ H λ x H1=>tl σ H1 λ l H2=>th σ H2 λ u H3=>r x l u H3 Q
theorem Kh(hr:Ir X r)(he:PE X e te)(hl:PO X lo tl)(hu:PO X hi th):PE X (.Subscript e (.Slice lo hi none p2) pos) (Vh r te tl th):=by
 intro pins s σ H Q I h;refine Subscript_ (bI (he pins s σ H _ I h) λ v s1 ⟨x,H1,I1,r1,q1⟩=>?_);refine wpAny_Slice (bI (hl pins s1 σ H1 _ I1 q1) λ vl s2 ⟨l,H2,I2,pl,q2⟩=>bI (hu pins s2 σ H2 _ I2 q2) λ vu s3 ⟨u,H3,I3,pu,q3⟩=>?_);rw[evalPart_none];refine V8 ?_;have I4:Inv X pins σ H3 {s3 with heap:=s3.heap.push {cls:= .type "slice",data:= .fields #[vl,vu,.none]}}:=I3.kept (t':=s3.toks) λ b ob q=>VY _ q;obtain⟨T,id,hT,ht,hg⟩:=hr pins {s3 with heap:=s3.heap.push {cls:= .type "slice",data:= .fields #[vl,vu,.none]}} σ H3 x v vl vu l u s3.heap.objs.size Q I4 r1 (Heap.IsSliceOf.new ..) pl pu q3;show wpAny (model X.prog X.w) X.A (subscriptTail e (.Slice lo hi none p2) v (.ref s3.heap.objs.size)) (EP X pins σ Q) X.xe {s3 with heap:=s3.heap.push {cls:= .type "slice",data:= .fields #[vl,vu,.none]}};exact tail_any (ops:=[.ref s3.heap.objs.size,v]) ht hT hg (by with_unfolding_all rfl)
def pM(xs:List V)(lo hi:Option Int):List V:=(xs.drop (HT.bL xs.length 0 lo)).take (HT.bL xs.length xs.length hi-HT.bL xs.length 0 lo)
theorem u3(xs:List V)(lo hi:Option Int):(pM xs lo hi).length<=xs.length:=by
 unfold pM;rw[Wl,WV];omega
def UO(K:PySem.W.Frag):V->Option Int->Option Int->Hp->VK->Prop:=λ x lo hi H Q=>∃a xs,x= .ref a/\hZ K H a xs/\
 ¬(HT.bL xs.length 0 lo=0/\HT.bL xs.length xs.length hi=xs.length)/\∀p,H p=none->Q (.ref p) (upd H p (.tup (pM xs lo hi)))
theorem QE:Ir X (UO X.K):=by
 intro pins s σ H x v vl vu lo hi sl Q I rx hs pl pu h;obtain⟨a,xs,rfl,hx,hw,q⟩:=h;cases rx;obtain⟨aj,r,ht,hz⟩:=I.tuple hx;have hlen:aj.toArray.size=xs.length:=by rw[V2];exact r.length.symm
 refine⟨"tuple",_,Xb.lookup,ht.typeIs,?_⟩;refine HT.uF ht hs pl pu (by rw[hlen];exact hw) ?_ (by rw[hlen];exact hz);rw[hlen];refine⟨.ref s.heap.objs.size,_,I.laid (t':=s.toks) (o:= .tup (pM xs lo hi)) (λ b ob q=>VY _ q) (VQ _) ?_,rfl,q _ (I.aC.fresh (VQ _))⟩;exact⟨VX (u3 xs lo hi) hz,_,(r.drop (HT.bL xs.length 0 lo)).take (HT.bL xs.length xs.length hi-HT.bL xs.length 0 lo),IsTup.new _ _⟩
def SX(K:PySem.W.Frag):R2:=λ x y H Q=>∃a b xs ys,x= .ref a/\y= .ref b/\hZ K H a xs/\hZ K H b ys/\xs≠ []/\xs.length+ys.length<=sizeLine/\
 (ys=[]->Q (.ref a) H)/\(ys≠ []->∀p,H p=none->Q (.ref p) (upd H p (.tup (xs++ys))))
theorem Vals.uB(r:Vals xs us):us=[]↔xs=[]:=by
 cases r with
 |nil=>simp
 |cons _ _=>simp
theorem Ov:br X (binaryOp .Add) (SX X.K):=by
 intro pins s σ H x y v u Q I rx ry h;obtain⟨a,b,xs,ys,rfl,rfl,ha,hb,hx,hz,q1,q2⟩:=h;cases rx;cases ry;obtain⟨aj,r1,p1,_⟩:=I.tuple ha;obtain⟨its2,r2,p2,_⟩:=I.tuple hb;refine HT.Nu p1 p2 (λ z=>hx (r1.uB.mp z)) (λ z=>⟨.ref a,H,I,rfl,q1 (r2.uB.mp z)⟩) (λ z=>?_) (by rw[<-r1.length,<-r2.length];exact hz);refine⟨.ref s.heap.objs.size,_,I.laid (t':=s.toks) (o:= .tup (xs++ys)) (λ b ob q=>VY _ q) (VQ _) ?_,rfl,q2 (λ w=>z (r2.uB.mpr w)) _ (I.aC.fresh (VQ _))⟩;exact⟨by rw[V3];exact hz,_,r1.append r2,IsTup.new _ _⟩
end
def j4(n:Nat)(i:Int):Option Nat:=if 0<=i then(if i<n then some i.toNat else none)else if-(n:Int)<=i then some (i+n).toNat else none
def e_{α:Type}(xs:List α)(i:Int):Option α:=(j4 xs.length i).bind λ j=>xs[j]?
theorem yj(h:j4 n i=some j):seqIndex? i n=some j/\j<n/\ -(n:Int)<=i/\i<n:=by
 unfold j4 at h;by_cases h0:0<=i
 . rw[VU h0]at h;by_cases h1:i<n
   . rw[VU h1]at h;have e:i.toNat=j:=WQ h;exact⟨by rw[seqIndex_of h0 h1,e],by omega,by omega,h1⟩
   . rw[VT h1]at h;cases h
 . rw[VT h0]at h;by_cases h1: -(n:Int)<=i
   . rw[VU h1]at h;have e:(i+n).toNat=j:=WQ h;exact⟨by rw[seqIndex_neg (by omega) h1,e],by omega,h1,by omega⟩
   . rw[VT h1]at h;cases h
theorem yc{α:Type}{xs:List α}{i:Int}{v:α}(h:e_ xs i=some v):∃j,seqIndex? i xs.length=some j/\xs[j]?=some v/\j<xs.length/\ -(xs.length:Int)<=i/\i<xs.length:=by
 unfold e_ at h;cases e:j4 xs.length i with
 |none=>rw[e]at h;cases h
 |some j=>
  rw[e]at h;obtain⟨h1,h2,h3,h4⟩:=yj e;exact⟨j,h1,h,h2,h3,h4⟩
theorem j8{α:Type}{xs:List α}{j:Nat}{v:α}(h:xs[j]?=some v):e_ xs (j:Int)=some v:=by
 have hj:j<xs.length:=(VV.mp h).1
 have e:j4 xs.length (j:Int)=some j:=by
  unfold j4;rw[VU (by omega),VU (by omega)];simp
 unfold e_;rw[e];exact h
def uC(b:Expr):Prop:=∀o i,subscripted b false o i=operate [o,i] (getItem o i)
def Mv(X:Cx)(r:R2):Prop:=
 ∀(value slice:Expr) (pins:List (Addr×Obj)) (s:Shared) (σ:St) (H:Hp) (x y:V) (v u:Value) (Q:VK),Inv X pins σ H s->RelV x v->RelV y u->r x y H Q->
  subscripted slice false v u=operate [v,u] (getItem v u)->wpAny (model X.prog X.w) X.A (subscriptTail value slice v u) (EP X pins σ Q) X.xe s
def Q0(X:Cx)(id:String)(r:V->List V->Hp->VK->Prop):Prop:=
 ∀(pins:List (Addr×Obj)) (s:Shared) (σ:St) (H:Hp) (x:V) (xs:List V) (v:Value) (us:List Value) (Q:VK),Inv X pins σ H s->RelV x v->Vals xs us->r x xs H Q->
  wpAny (model X.prog X.w) X.A (call (.builtin id) (v::us)) (EP X pins σ Q) X.xe s
section
variable {X:Cx}{a b:Expr}{ta tb:TE}{pos:Pos}
theorem Th(hr:Mv X r)(ha:PE X a ta)(hb:PE X b tb)(hs:uC b):PE X (.Subscript a b pos) (Js r ta tb):=by
 intro pins s σ H Q I h;exact Subscript_ (KU ha hb I h λ v u s2 x y H2 I2 rx ry q=>hr a b pins s2 σ H2 x y v u Q I2 rx ry q (hs _ _))
def Vd(K:PySem.W.Frag):R2:=λ x y H Q=>∃p xs i v,x= .ref p/\y= .int i/\ll K H p xs/\e_ xs i=some v/\Q v H
def UM(K:PySem.W.Frag):R2:=λ x y H Q=>∃p xs i v,x= .ref p/\y= .int i/\hZ K H p xs/\e_ xs i=some v/\Q v H
theorem E1:Mv X (Vd X.K):=by
 intro value slice pins s σ H x y v u Q I rx ry h hs;obtain⟨p,xs,i,z,rfl,rfl,hq,he,q⟩:=h;cases rx;obtain⟨t,rfl⟩:=ry;obtain⟨aj,r,pl,hz⟩:=I.list hq;obtain⟨j,h1,h2,h3,h4,h5⟩:=yc he;obtain⟨w,ew,rw'⟩:=r.get h2;have hl:=r.length;have hn:=sy;have fin:EP X pins σ Q w s:=⟨z,H,I,rw',q⟩
 by_cases h0:0<=i
 . have hj:i.toNat=j:=by
    rw[seqIndex_of h0 h5]at h1;exact WQ h1
   exact item_listR pl.isList h0 (by omega) (by rw[hj];simpa using ew) fin hs
 . have hj:(i+(aj.toArray.size:Int)).toNat=j:=by
    rw[seqIndex_neg (by omega) h4]at h1;rw[V2,<-hl];exact WQ h1
   exact subscriptTail_builtinR (x:=w) pl.isList.typeIs slot_list_getitem.lookup
    (wpAny_getItem_list_neg (Q:=λ r s'=>r=w/\EP X pins σ Q r s') pl.isList (by omega) (by rw[V2]<;>omega) (by omega) (by rw[hj];simpa using ew) ⟨rfl,fin⟩) hs
theorem PD:Mv X (UM X.K):=by
 intro value slice pins s σ H x y v u Q I rx ry h hs;obtain⟨p,xs,i,z,rfl,rfl,hq,he,q⟩:=h;cases rx;obtain⟨t,rfl⟩:=ry;obtain⟨aj,r,pl,hz⟩:=I.tuple hq;obtain⟨j,h1,h2,h3,h4,h5⟩:=yc he;obtain⟨w,ew,rw'⟩:=r.get h2;have hl:=r.length;have hn:=sy;have fin:EP X pins σ Q w s:=⟨z,H,I,rw',q⟩
 exact subscriptTail_builtinR (x:=w) pl.typeIs slot_tuple_getitem.lookup
  (getItem_tuple (j:=j) (Q:=λ r s'=>r=w/\EP X pins σ Q r s') pl (by omega) (by omega) (by rw[V2,<-hl];exact h1) (by simpa using ew) ⟨rfl,fin⟩) hs
theorem FX(aj:List Value)(n j:Nat)(u:Value):Obj.mapSeq (·.setIfInBounds j u) {cls:= .type "list",data:= .seq aj.toArray n}= {cls:= .type "list",data:= .seq (aj.set j u).toArray n}:=by
 simp[Obj.mapSeq]
theorem Inv.lst(I:Inv X pins σ H s)(h:H p=some (.lst xs)):
 ∃(aj:List Value) (n:Nat),Vals xs aj/\s.heap.get? p=some {cls:= .type "list",data:= .seq aj.toArray n}/\xs.length<=sizeLine:=by
 obtain⟨z,aj,n,r,e⟩:=I.aC p _ h;exact⟨aj,n,r,e,z⟩
theorem Inv.QN{pins:List (Addr×Obj)}{σ:St}{H:Hp}{s:Shared}{p:Addr}{xs ys:List V}{aj its':List Value}{n n':Nat}{f:Obj->Obj}(I:Inv X pins σ H s)(h:H p=some (.lst xs))
 (ho:s.heap.get? p=some {cls:= .type "list",data:= .seq aj.toArray n}) (hf:f {cls:= .type "list",data:= .seq aj.toArray n}= {cls:= .type "list",data:= .seq its'.toArray n'}) (r:Vals ys its') (hz:ys.length<=sizeLine) (t:Nat):
 Inv X pins σ (upd H p (.lst ys)) {s with heap:=s.heap.update p f,toks:=t}:=by
 have e:(s.heap.update p f).get? p=some {cls:= .type "list",data:= .seq its'.toArray n'}:=by
  rw[Heap.get?_update_self f ho (by rw[hf]<;>rfl),hf]
 refine I.write (x:=p) (e:=p) (by rw[h];trivial) (.inl rfl) (λ b u hb q=>(Heap.get?_update_other _ _ (V6 hb)).trans q) ⟨_,e⟩ ?_;exact⟨hz,its',n',r,e⟩
def uD:V->V->V->Hp->(Hp->Prop)->Prop:=λ o i v H Q=>∃p xs k j,o= .ref p/\i= .int k/\H p=some (.lst xs)/\j4 xs.length k=some j/\Q (upd H p (.lst (xs.set j v)))
theorem set_list:QT X uD:=by
 intro pins s σ H o i v ov iv u Q I ro ri rv h;obtain⟨p,xs,k,j,rfl,rfl,hp,hj,q⟩:=h;cases ro;obtain⟨t,rfl⟩:=ri;obtain⟨aj,n,r,ho,hz⟩:=I.lst hp;obtain⟨h1,h2,h3,h4⟩:=yj hj;have hl:=r.length;have hn:=sy
 have I':Inv X pins σ (upd H p (.lst (xs.set j v))) {s with heap:=s.heap.update p (Obj.mapSeq (·.setIfInBounds j u))}:=
  I.QN hp ho (FX aj n j u) (r.set rv j) (by rw[Wb];exact hz) s.toks
 by_cases h0:0<=k
 . have hk:k.toNat=j:=by
    rw[seqIndex_of h0 h4]at h1;exact WQ h1
   exact PySem.W.ki_setAt ho h0 (by omega) (by rw[V2,<-hl];exact h4) (by rw[hk];exact⟨_,I',q⟩)
 . have hk:(k+(aj.toArray.size:Int)).toNat=j:=by
    rw[seqIndex_neg (by omega) h3]at h1;rw[V2,<-hl];exact WQ h1
   exact PySem.W.ki_setBack ho (by omega) (by rw[V2,<-hl];exact h3) (by omega) (by rw[hk];exact⟨_,I',q⟩)
theorem CQ(lo hi:Option Int)(n:Nat):(sliceBounds lo hi none n).1=((HT.bL n 0 lo:Nat):Int)/\(sliceBounds lo hi none n).2.1=((HT.bL n n hi:Nat):Int)/\(sliceBounds lo hi none n).2.2=1:=by
 refine⟨?_,?_,rfl⟩
 . cases lo with
   |none=>simp[sliceBounds,HT.bL]
   |some i=>
    simp only[sliceBounds,HT.bL,Option.getD_none,show(1:Int)>0 by decide,Yk];by_cases h:i<0
    . simp only[h,Yk]<;>omega
    . simp only[h,XT]<;>omega
 . cases hi with
   |none=>simp[sliceBounds,HT.bL]
   |some i=>
    simp only[sliceBounds,HT.bL,Option.getD_none,show(1:Int)>0 by decide,Yk];by_cases h:i<0
    . simp only[h,Yk]<;>omega
    . simp only[h,XT]<;>omega
theorem An(aj:List Value)(lo hi:Option Int):slicePick aj.toArray lo hi none=((aj.drop (HT.bL aj.length 0 lo)).take (HT.bL aj.length aj.length hi-HT.bL aj.length 0 lo)).toArray:=by
 obtain⟨h1,h2,h3⟩:=CQ lo hi aj.toArray.size;unfold slicePick;rw[h1,h2,h3];simp only[sliceRange_one,pick_run,V2]<;>rfl
def Up(K:PySem.W.Frag):V->Option Int->Option Int->Hp->VK->Prop:=λ x lo hi H Q=>∃a xs,x= .ref a/\ll K H a xs/\∀p,H p=none->Q (.ref p) (upd H p (.lst (pM xs lo hi)))
theorem EO:Ir X (Up X.K):=by
 intro pins s σ H x v vl vu lo hi sl Q I rx hs pl pu h;obtain⟨a,xs,rfl,hx,q⟩:=h;cases rx;obtain⟨aj,r,ht,hz⟩:=I.list hx;have hlen:=r.length;refine⟨"list",_,slot_list_getitem.lookup,ht.isList.typeIs,?_⟩;refine wpAny_getItem_list_slice ht.isList hs pl pu .none (by simp) ?_ (by rw[V2]<;>omega);rw[An,<-hlen];refine⟨.ref s.heap.objs.size,_,I.laid (t':=s.toks) (o:= .lst (pM xs lo hi)) (λ b ob q=>VY _ q) (VQ _) ?_,rfl,q _ (I.aC.fresh (VQ _))⟩;exact⟨VX (u3 xs lo hi) hz,_,0,(r.drop (HT.bL xs.length 0 lo)).take (HT.bL xs.length xs.length hi-HT.bL xs.length 0 lo),Wq _ rfl⟩
theorem BN:bf X (.builtin "len") (λ xs H Q=>∃p ys,xs=[.ref p]/\(ll X.K H p ys\/hZ X.K H p ys)/\Q (.int ys.length) H):=by
 intro pins s σ H xs us Q I r h;obtain⟨p,ys,rfl,hq,q⟩:=h;obtain⟨u,rfl,rx⟩:=vals1 r;cases rx;have hn:=sy;rcases hq with hq|hq
 . obtain⟨aj,r',pl,hz⟩:=I.list hq;have hlen:=r'.length;exact Calls.call_len_list pl.isList (by simp only[V2]<;>omega) ⟨.int ys.length,H,I.tok _,⟨s.toks+1,by rw[V2,hlen]⟩,q⟩
 . obtain⟨aj,r',pl,hz⟩:=I.tuple hq;have hlen:=r'.length;exact len_tuple pl (by simp only[V2]<;>omega) ⟨.int ys.length,H,I.tok _,⟨s.toks+1,by rw[V2,hlen]⟩,q⟩
theorem BC:bf X (.builtin "len") (λ xs H Q=>∃z,xs=[.str z]/\z.length<=sizeLine/\Q (.int z.length) H):=by
 intro pins s σ H xs us Q I r h;obtain⟨z,rfl,hz,q⟩:=h;obtain⟨u,rfl,t,rfl⟩:=vals1 r;have hn:=sy;exact len_str (by omega) ⟨.int z.length,H,I.tok _,⟨_,rfl⟩,q⟩
theorem su:bf X (.type "list") (λ xs H Q=>∃p ys,xs=[.ref p]/\(ll X.K H p ys\/hZ X.K H p ys)/\∀l,H l=none->Q (.ref l) (upd H l (.lst ys))):=by
 intro pins s σ H xs us Q I r h;obtain⟨p,ys,rfl,hq,q⟩:=h;obtain⟨u,rfl,rx⟩:=vals1 r;cases rx
 have fin:∀(aj:List Value),Vals ys aj->ys.length<=sizeLine->∀(h':Heap) (c':Nat),(∀b o',s.heap.get? b=some o'->h'.get? b=some o')->
  h'.get? s.heap.objs.size=some {cls:= .type "list",dict:=none,data:= .seq aj.toArray c',slots:= #[]}->EP X pins σ Q (.ref s.heap.objs.size) {s with heap:=h'}:=λ aj r' hz h' c' kp e=>
  ⟨.ref s.heap.objs.size,_,I.laid (t':=s.toks) kp (VQ _) (show cX X.prog X.w _ h' _ (.lst ys)from⟨hz,aj,c',r',e⟩),rfl,q _ (I.aC.fresh (VQ _))⟩
 rcases hq with hq|hq
 . obtain⟨aj,r',pl,hz⟩:=I.list hq;have hlen:=r'.length;obtain⟨o,ho,hc,n,hd⟩:=pl.isList;exact call_list_seq p (.inl rfl) ho hc hd (λ h' c' kp e=>fin aj r' hz h' c' kp e) (by simp only[V2]<;>omega)
 . obtain⟨aj,r',pl,hz⟩:=I.tuple hq;have hlen:=r'.length;obtain⟨o,ho,hc,n,hd⟩:=pl;exact call_list_seq p (.inr rfl) ho hc hd (λ h' c' kp e=>fin aj r' hz h' c' kp e) (by simp only[V2]<;>omega)
theorem Aa:bf X (.type "tuple") (λ xs H Q=>∃p ys,xs=[.ref p]/\((ll X.K H p ys/\∀l,H l=none->Q (.ref l) (upd H l (.tup ys)))\/(hZ X.K H p ys/\Q (.ref p) H))):=by
 intro pins s σ H xs us Q I r h;obtain⟨p,ys,rfl,h⟩:=h;obtain⟨u,rfl,rx⟩:=vals1 r;cases rx;rcases h with⟨hq,q⟩|⟨hq,q⟩
 . obtain⟨aj,r',pl,hz⟩:=I.list hq;have hlen:=r'.length;refine call_tuple_list pl.isList (λ h' kp=>?_) (by simp only[V2]<;>omega);have I1:Inv X pins σ H {s with heap:=h'}:=I.kept (t':=s.toks) kp
   have I2:Inv X pins σ (upd H h'.objs.size (.tup ys)) {s with heap:=h'.push {cls:= .type "tuple",data:= .seq aj.toArray}}:=
    I1.laid (t':=s.toks) (λ b o e=>VY _ e) (VQ _) (show cX X.prog X.w _ _ _ (.tup ys)from⟨hz,aj,r',IsTup.new _ _⟩)
   exact⟨.ref h'.objs.size,_,I2,rfl,q _ (I1.aC.fresh (VQ _))⟩
 . obtain⟨aj,r',pl,hz⟩:=I.tuple hq;exact call_tuple_same pl ⟨.ref p,H,I,rfl,q⟩
def Ue(K:PySem.W.Frag)(T:String)(x:V)(H:Hp):Prop:=match x with
 | .str _=>T="str"
 | .int _=>T="int"
 | .ref p=>(T="list"/\∃xs,ll K H p xs)\/(T="tuple"/\∃o,K.lookup p=some o/\o.cls= .type "tuple"/\o.dict=none)\/
    (T="dict"/\((∃kvs,H p=some (.dK kvs))\/∃kvs,H p=some (.dT kvs)))\/(T="set"/\∃S n,H p=some (.set S n))
 |_=>False
theorem P8(I:Inv X pins σ H s)(r:RelV x v)(ty:Ue X.K T x H):
 s.TypeIs v T/\∀a,v= .ref a->∃ob,s.heap.get? a=some ob/\ob.dict=none:=by
 cases x with
 |str z=>
  obtain⟨t,rfl⟩:=r;cases (show T="str" from ty);exact⟨typeIs_str s z t,λ _ e=>nomatch e⟩
 |int i=>
  obtain⟨t,rfl⟩:=r;cases (show T="int" from ty);exact⟨Z9 s i t,λ _ e=>nomatch e⟩
 |ref p=>
  cases r;rcases ty with⟨rfl,xs,hq⟩|⟨rfl,o,hk,hc,hd⟩|⟨rfl,hk⟩|⟨rfl,S,n,hk⟩
  . obtain⟨aj,_,pl,_⟩:=I.list hq;refine⟨pl.isList.typeIs,λ a e=>?_⟩;cases e;obtain⟨o,n,e,c,hd,_⟩:=pl;exact⟨o,e,hd⟩
  . refine⟨⟨o,I.gu p o hk,hc⟩,λ a e=>?_⟩;cases e;exact⟨o,I.gu _ o hk,hd⟩
  . have z:∃o,s.heap.get? p=some o/\o.ExactDict:=by
     rcases hk with⟨kvs,hk⟩|⟨kvs,hk⟩
     . obtain⟨_,_,_,_,o,_,_,e,ex,_⟩:=I.aC p _ hk;exact⟨o,e,ex⟩
     . obtain⟨_,_,_,_,o,_,_,e,ex,_⟩:=I.aC p _ hk;exact⟨o,e,ex⟩
    obtain⟨o,e,ex⟩:=z;refine⟨⟨o,e,ex.1⟩,λ a e2=>?_⟩;cases e2;exact⟨o,e,ex.2.1⟩
  . obtain⟨o,_,_,_,e,ex,_⟩:=I.aC p _ hk;refine⟨⟨o,e,ex.1⟩,λ a e2=>?_⟩;cases e2;exact⟨o,e,ex.2.1⟩
 |_=>exact False.elim ty
def QZ(K:PySem.W.Frag)(T:String)(r:V->List V->Hp->VK->Prop)(to:TE)(t:TA):TE:=λ σ H Q=>to σ H λ x H1=>Ue K T x H1/\t σ H1 λ xs H2=>r x xs H2 Q
variable {o e:Expr}{es:List Expr}{to:TE}{t:TA}{name:Str}{apos cpos:Pos}{T id:String}{r:V->List V->Hp->VK->Prop}
theorem MV(pa:PlainAttrs T)(slot:Slot T name id)(hty:typeOf (.builtin id)=pure (.type "method_descriptor"))(hm:Q0 X id r)(ho:PE X o to)(ha:PA X (e::es) t)
 (hbase:attributeBase o name X.env (eval o X.env)=eval o X.env:=by rfl)
 (hfew:((backTo cpos (starEach (e::es) X.env)).all (λ x=> !x.1)&&(backToKw cpos (keywordEach [] X.env)).all (λ x=>x.1.isSome)
   &&decide ((e::es).length+([]:List Keyword).length+(if([]:List Keyword).isEmpty then 0 else 1)<30))=true:=by rfl)
 (hline:(apos.endLine==cpos.line)=true:=by rfl) (hs:starEach (e::es) X.env=(false,eval e X.env)::starEach es X.env:=by rfl) (hplain:(backTo cpos (starEach es X.env)).any (·.1)=false:=by rfl):
 PE X (.Call (.Attribute o name apos) (e::es) [] cpos) (QZ X.K T r to t):=by
 intro pins s σ H Q I h;refine wpAny_Call_method_late hbase hfew hline rfl (bI (ho pins s σ H _ I h) λ v s1 ⟨x,H1,I1,r1,ty,q1⟩=>?_);obtain⟨h1,h2⟩:=P8 I1 r1 ty;refine⟨T,id,pa,slot,hty,h1,h2,?_⟩;have hA:=ha cpos pins s1 σ H1 _ I1 q1;rw[hs]at hA⊢;refine Calls.callWith_builtin (by show(false||(backTo cpos (starEach es X.env)).any (·.1))=false;rw[hplain]<;>rfl) (Calls.evalArgs_plain ?_);exact bI hA λ us s2 ⟨vs,H2,I2,r2,q2⟩=>hm pins s2 σ H2 x vs v us Q I2 r1 r2 q2
/-xs.append(e),list.index on a module's tuple .. are Q0 facts of 06m-/
end
def Qc(X:Cx)(id:String)(r:V->List V->Hp->VK->Prop):Prop:=
 ∀(pins:List (Addr×Obj)) (s:Shared) (σ:St) (H:Hp) (x:V) (xs:List V) (v:Value) (us:List Value) (Q:VK),Inv X pins σ H s->RelV x v->Vals xs us->r x xs H Q->
  wpAny (model X.prog X.w) X.A (call (.builtin id) (v::us)) (EP X pins σ Q) X.xe s
theorem Vals.one:∀ {x:V} {us:List Value},Vals [x] us->∃u,us=[u]/\RelV x u
 |_,_,.cons r .nil=>⟨_,rfl,r⟩
theorem Vals.eraseIdx:∀ {xs:List V} {us:List Value} (i:Nat),Vals xs us->Vals (xs.eraseIdx i) (us.eraseIdx i)
 |_,_,_,.nil=> .nil
 |_,_,0,.cons _ t=>t
 |_,_,i+1,.cons r t=> .cons r (Vals.eraseIdx i t)
theorem Vals.rep(h:Vals xs us):∀k:Nat,Vals (List.replicate k xs).flatten (List.replicate k us).flatten
 |0=> .nil
 |k+1=>by
  rw[WX,WX,Xv,Xv];exact Vals.append h (Vals.rep h k)
theorem y6{α:Type}:∀(l:List α) (i:Nat),(l.eraseIdx i).length<=l.length
 | [],_=>VQ _
 |_::_,0=>Yx _
 |_::r,i+1=>Nat.succ_le_succ (y6 r i)
theorem foldl_rep(aj:List Value):∀(k:Nat) (acc:List Value),
 List.foldl (λ x1 x2=>x1++x2) acc.toArray (List.replicate k aj.toArray)=(acc++(List.replicate k aj).flatten).toArray
 |0,acc=>by simp
 |k+1,acc=>by
  have e:acc.toArray++aj.toArray=(acc++aj).toArray:=by simp
  have e2:(acc++aj)++(List.replicate k aj).flatten=acc++(List.replicate (k+1) aj).flatten:=by
   rw[WX,Xv,XO]
  rw[<-e2,<-foldl_rep aj k (acc++aj),<-e,WX,List.foldl_cons]
section
variable {X:Cx}{pins:List (Addr×Obj)}{σ:St}{H:Hp}{s:Shared}{l b:Addr}{xs ys zs:List V}
theorem Inv.LN{aj its':List Value}{n:Nat}{f:Array Value->Array Value}{t':Nat}(I:Inv X pins σ H s)(hH:H l=some (.lst xs))
 (e:s.heap.get? l=some {cls:= .type "list",data:= .seq aj.toArray n}) (hf:f aj.toArray=its'.toArray) (hv:Vals ys its') (hz:ys.length<=sizeLine):
 Inv X pins σ (upd H l (.lst ys)) {s with heap:=s.heap.update l (Obj.mapSeq f),toks:=t'}:=by
 have q:=PySem.IsL.update e f;rw[hf]at q;refine I.write (x:=l) (e:=l) (by rw[hH];exact trivial) (.inl rfl) (λ b' u hb hu=>(Heap.get?_update_other s.heap (Obj.mapSeq f) (V6 hb)).trans hu) ⟨_,q⟩ ?_;exact⟨hz,its',_,hv,q⟩
theorem Inv.Kc(I:Inv X pins σ H s)(hv:Vals ys aj)(hz:ys.length<=sizeLine):
 Inv X pins σ (upd H s.heap.objs.size (.lst ys)) {s with heap:=s.heap.push {cls:= .type "list",data:= .seq aj.toArray},toks:=t'}:=
 I.laid (λ _ _ q=>VY _ q) (VQ _) ⟨hz,aj,0,hv,Wq _ rfl⟩
theorem Inv.fresh(I:Inv X pins σ H s):H s.heap.objs.size=none:=I.aC.fresh (VQ _)
theorem Inv.J4(I:Inv X pins σ H s)(hH:H l=some (.lst xs)):xs.length<=sizeLine/\∃(aj:List Value) (n:Nat),Vals xs aj/\xs.length=aj.length/\s.heap.get? l=some {cls:= .type "list",data:= .seq aj.toArray n}:=by
 obtain⟨z,aj,n,r,e⟩:=I.aC l _ hH;exact⟨z,aj,n,r,r.length,e⟩
theorem LM(h:n<=sizeLine):Builtin.List.listTooLong n=false:=by
 unfold Builtin.List.listTooLong;exact We (by omega)
end
section
variable {X:Cx}
def EG:V->List V->Hp->VK->Prop:=λ x vs H Q=>∃l xs y,x= .ref l/\vs=[y]/\H l=some (.lst xs)/\xs.length<sizeLine/\Q .ao (upd H l (.lst (xs++[y])))
theorem zf:Qc X "list.append" EG:=by
 intro pins s σ H x vs v us Q I rx rv h;obtain⟨l,xs,y,rfl,rfl,hH,hz,q⟩:=h;cases rx;obtain⟨u,rfl,ru⟩:=rv.one;obtain⟨z,aj,n,r,hl,e⟩:=I.J4 hH;refine Yt F.slot_list_append ⟨_,e,rfl⟩ F.entry_list_append (F.args_list_append_2 _ _) (PySem.list_append l aj.toArray n u (by rw[V2];omega)) ⟨e,?_⟩;refine⟨.ao,_,I.LN (its':=aj++[u]) hH e (by simp) (r.append (.cons ru .nil)) ?_,rfl,q⟩;rw[V3,aay];omega
def Jc:V->List V->Hp->VK->Prop:=λ x vs H Q=>∃l xs i k y,x= .ref l/\vs=[.int i]/\H l=some (.lst xs)/\ -(2^63)<=i/\i<2^63/\seqIndex? i xs.length=some k/\xs[k]?=some y/\Q y (upd H l (.lst (xs.eraseIdx k)))
theorem Kr:Qc X "list.pop" Jc:=by
 intro pins s σ H x vs v us Q I rx rv h;obtain⟨l,xs,i,k,y,rfl,rfl,hH,h1,h2,hk,hy,q⟩:=h;cases rx;obtain⟨u,rfl,ru⟩:=rv.one;obtain⟨t,rfl⟩:=ru;obtain⟨z,aj,n,r,hl,e⟩:=I.J4 hH;obtain⟨w,hw,rw'⟩:=r.get hy
 refine Yt F.slot_list_pop ⟨_,e,rfl⟩ F.entry_list_pop (F.args_list_pop_2 _ _)
  (MeetsSeq.list_pop_at l aj.toArray n i t k w (aaz h1 h2) (by rw[V2,<-hl];exact hk) (by rw[<-Zh];exact hw) (by rw[V2];omega)) ⟨e,?_⟩
 refine⟨y,_,I.LN (its':=aj.eraseIdx k) hH e ?_ (r.eraseIdx k) ?_,rw',q⟩
 . show aj.toArray.eraseIdxIfInBounds k=(aj.eraseIdx k).toArray;rw[List.eraseIdxIfInBounds_toArray]
 . have:=y6 xs k;omega
theorem len_rep{α:Type}(xs:List α)(k:Nat):(List.replicate k xs).flatten.length=k*xs.length:=by
 induction k with
 |zero=>simp
 |succ k ih=>rw[WX,Xv,V3,ih,aaJ,Nat.add_comm]
end
section
variable {prog:Program}{w:World}{A:Around}{E:Value->Shared->Prop}{s:Shared}
set_option maxRecDepth 100000 in
end
section
variable {X:Cx}
end
end L2
namespace Att
open PySem PySem.W PySem.Calls PyProof.Rows
theorem wQ:∀(ns:List Int) (vs:List Value),WellAll P h vs (ns.map WData.int)->IntsAre vs ns:=by
 intro ns;induction ns with
 |nil=>
  intro vs w;rw[Zr]at w;cases w;exact .nil
 |cons n ns ih=>
  intro vs w;rw[Ww]at w;cases w with
  |cons a b=>
   cases a;exact .cons _ _ (ih _ b)
theorem Io{l:OpenLaw}{n:Nat}(hn:l.most=some n){P:Params}{h:Heap}{args:List WData}{vals:List Value}
 (hpre:l.row.toRowW.claim.pre args=true) (hwl:WellAll P h vals args):
 ∃a vs ns,vals=[Value.ref a]/\args=[WData.list (ns.map WData.int)]/\h.get? a=some {cls:= .type "list",data:= .seq vs.toArray}/\IntsAre vs ns/\ns.length<=n:=by
 have hsh:WShape.hasAll [] args [.list .int]=true:=(pre_splitW hpre).1;have hc:l.pre.holds [] {args:=args}=true:=(pre_splitW hpre).2;obtain⟨d,r,rfl,h1,h2⟩:=hasAllW_cons hsh;obtain rfl:=hasAllW_nil h2;obtain⟨xs,rfl,h3⟩:=hasW_list h1;obtain⟨ns,rfl⟩:=items_int h3
 have hlen:ns.length<=n:=by
  unfold OpenLaw.pre at hc
  have h4:(WTm.not (.lt (.lit (.int (n:Int))) (.len (.arg 0)))).holds [] {args:=[.list (ns.map .int)]}=true:=by
   have h4:=(holds_andW hc).1;rw[hn]at h4;exact h4
  have h5:=condW_of h4 (w_not (w_lt w_lit (w_len_list (w_arg rfl))));rw[VO]at h5;refine WD λ q=>?_;have q':(n:Int)<((ns.length:Nat):Int):=by omega
  first
   |(rw[Wr q']at h5;exact absurd h5 (by decide))
   |(simp at h5;omega)
 cases hwl with
 |cons w1 w2=>
  cases w2;cases w1 with
  |list ho hall=>exact⟨_,_,ns,rfl,rfl,ho,wQ ns _ hall,hlen⟩
theorem Ic(l:OpenLaw)(args:List WData):l.row.toRowW.claim.post args (.bool true) args=true:=
 postW_of (r:=l.row.toRowW) (X:=(true==true))
  (show WShape.has [] (.bool true) .bool=true by first|rfl|decide|simp[WShape.has,WShape.arms,WShape.armsAll])
  (show(WTm.eq .res (.lit (.bool true))).value [] {args:=args,res:=some (.bool true),after:=args}=some (.bool (true==true))from w_eq_bool (w_res rfl) w_lit) rfl
theorem DJ{l:OpenLaw}{n:Nat}{q:Program}{loose:List Str}{XP:(Str->Option Value)->Heap->Prop}{YP:World->Heap->Prop}{d:DefRec}
 (hn:l.most=some n) (hdf:d.params.defaults=[])
 (call:∀(w:World) (s₀ s₁:Shared) (mg mb:Str->Option Value) (fa:Addr) (o:Obj) (pm cd doc:Value) (a:Addr) (vs:List Value) (ns:List Int),
   Ground q loose [] XP w s₀ mg mb s₁.heap->YP w s₁.heap->
   s₁.heap.get? fa=some o->o.data= .func (docDef d.name d.params d.body d.scope pm cd doc)->s₁.heap.CodeRec cd d.name->mg d.name=some (.ref fa)->
   s₁.heap.get? a=some {cls:= .type "list",data:= .seq vs.toArray}->IntsAre vs ns->ns.length<=n->s₁.gens= #[]->
   codeAny (model l.prog w) callerA (.call (.ref fa) ⟨[.ref a],[]⟩) (λ r s'=>r= .ok (.ret (.bool true))/\OldK s₁.heap s'.heap/\s'.os=s₁.os/\AllBare s'.gens) s₁):
 WalkO q loose XP YP l.row.toRowW d [] (λ f vs=>PySem.call f vs):=by
 intro w s₀ s₁ mg mb G Y fa o pm cd doc dV kV ho hd hcd hD hmg hg args vals as hpre hlay hrd hwl hlo;obtain rfl:dV= .none:=Dflts.none hD hdf;obtain rfl:kV= .none:=Dflts.noKw hD;obtain⟨a,vs,ns,rfl,rfl,hobj,hints,hlen⟩:=Io hn hpre hwl;refine enter_call (aac (call w s₀ s₁ mg mb fa o pm cd doc a vs ns G Y ho (fd_plain hd) hcd hmg hobj hints hlen hg) λ r s' hq=>?_);obtain⟨rfl,h2,h3,h4⟩:=hq;exact⟨.inl ⟨.bool true,.bool true,[],rfl,λ _=>rfl,.bool true,Ic l _,λ _=>⟨List.Pairwise.nil,λ _ hm=>(nomatch hm)⟩⟩,h2,h3,h4⟩
section
variable {prog:Program}{w:World}{A:Around}{E:Value->Shared->Prop}{s:Shared}{K:Frag}
end
end Att
namespace L2
open PySem PySem.Spec PyProof.Rows
theorem kU:∀ {vs:List Value} {ns:List Int},IntsAre vs ns->Vals (ns.map V.int) vs
 |_,_,.nil=> .nil
 |_,_,.cons n t h=> .cons ⟨t,rfl⟩ (kU h)
end L2
/-THE LAST THEOREM (shape;LID,My.*are yours):
 My.Adr:a structure of the addresses that your layer names (classes,functions);My.Txt K t:a structure (Prop) of the equations over K;
 My.txt_mk:{K} {implicit addresses ..} (e1:nsIn K mainGlobals "law"=some (some (.ref f))) (e2:K.lookup f=some ⟨oc,od,.func (fnOf "law" "law" params body scope dV kV doc pm an cdv ct),sl⟩) (e3:codeIn K cdv "law"=true) .. :∃t,My.Txt K t
set_option maxRecDepth 100000 in
set_option maxHeartbeats 0 in
(the tactic k_is has no namespace:write k_is)-/
namespace L2
open PySem PySem.Spec PyProof.Rows
def inClass(s:Stmt)(j:Nat):Stmt:=match s with
 | .ClassDef _ _ _ body _ _ _ _ _ _ _=>body.getD j (.Pass ⟨0,0,0,0⟩)
 |_=> .Pass ⟨0,0,0,0⟩
def iz(s:Stmt):Arguments:=match s with
 | .FunctionDef _ a _ _ _ _ _ _ _ _=>a
 |_=>{posonlyargs:=[],args:=[],vararg:=none,kwonlyargs:=[],kw_defaults:=[],kwarg:=none,defaults:=[]}
def fu(s:Stmt):List Stmt:=match s with
 | .FunctionDef _ _ b _ _ _ _ _ _ _=>b
 |_=>[]
def a9(s:Stmt):Scope:=match s with
 | .FunctionDef _ _ _ _ _ _ sc _ _ _=>sc
 |_=>{kind:= .function,names:=[],isGenerator:=false,isCoroutine:=false}
abbrev gq:uN:=λ _ _ _ _ _ _=>False
abbrev E0:XK:=λ _ _ _=>False
theorem Gj:Passes gq X E0:=λ _ _ _ _ _ _ _ h=>h.elim
structure nN(K:PySem.W.Frag)(x qual:Str)(st:Stmt)(f:Addr)(fd:FuncData):Prop where
 ex:∃(oc:Value) (od:Option Addr) (kV doc pm:Value) (an:Option Addr) (cdv ct:Value) (osl:Array (Option Value)),
  fd=PySem.W.fnOf x qual (iz st) (fu st) (a9 st) .none kV doc pm an cdv ct/\K.lookup f=some ⟨oc,od,.func fd,osl⟩/\PySem.W.codeIn K cdv qual=true
 kp:PySem.W.keepIn K (.ref f)=true
section
variable {P:Program}{w:World}{K:PySem.W.Frag}{mg:Str->Option Value}{base:Heap}
theorem nN.ok{x qual:Str}{st:Stmt}{f:Addr}{fd:FuncData}{N ps:List Str}{k:Nat}{sp:Sp}(F:nN K x qual st f fd)(S:kD N ps (a9 st))(len:∀vs H Q E,sp vs H Q E->vs.length=ps.length)
 (hbody:∀(cdv:Value) (A:Around) (outer:List Env) (s:Shared) (H:Hp) (vs:List V) (Q:VK) (E:XK),cF k (A.deeper (envOfC qual (a9 st) s.heap.objs.size f cdv))->sp vs H Q E->
   ∃t,gw (oy gq P w K mg base N qual (a9 st) f cdv A outer s H E).vb (fu st) t/\t {nx:=λ _ H'=>Q .ao H',rt:=Q} (start N vs) H):dz P w K mg base gq (k+1) f fd ps sp:=by
 obtain⟨oc,od,kV,doc,pm,an,cdv,ct,osl,rfl,lk,hcd⟩:=F.ex;refine Na lk hcd S len λ A outer s H vs Q E hr hsp=>?_;obtain⟨t,h,q⟩:=hbody cdv A outer s H vs Q E hr hsp;exact⟨t,h.vb,q⟩
theorem nN.binds{x qual:Str}{st:Stmt}{f:Addr}{fd:FuncData}{ps:List Str}(F:nN K x qual st f fd)
 (h:∀(kV doc pm:Value) (an:Option Addr) (cdv ct:Value) (us:List Value),us.length=ps.length->bindArgs (PySem.W.fnOf x qual (iz st) (fu st) (a9 st) .none kV doc pm an cdv ct) ⟨us,[]⟩=pure (ps.zip us)):Binds K fd ps []:=by
 obtain⟨oc,od,kV,doc,pm,an,cdv,ct,osl,rfl,lk,hcd⟩:=F.ex;exact .all (h kV doc pm an cdv ct)
theorem IF{x qual:Str}{st:Stmt}{f:Addr}{oc:Value}{od an:Option Addr}{osl:Array (Option Value)}{kV doc pm cdv ct:Value}(l:K.lookup f=some ⟨oc,od,.func (PySem.W.fnOf x qual (iz st) (fu st) (a9 st) .none kV doc pm an cdv ct),osl⟩)
 (c:PySem.W.codeIn K cdv qual=true) (k:PySem.W.keepIn K (.ref f)=true):nN K x qual st f (PySem.W.fnOf x qual (iz st) (fu st) (a9 st) .none kV doc pm an cdv ct):=⟨⟨oc,od,kV,doc,pm,an,cdv,ct,osl,rfl,l,c⟩,k⟩
end
section
variable {X:Cx}
end
theorem ji{A B:Prop}(h:B):if false=true then A else B:=by
 rw[VT WG];exact h
theorem b_{A B:Prop}(h:A):if true=true then A else B:=by
 rw[VU rfl];exact h
def Kz(H H':Hp):Prop:=∀b o,H b=some o->H' b=some o
end L2
set_option maxHeartbeats 4000000
namespace Hd
open PySem PySem.W PySem.Calls PyProof.Rows
noncomputable def bt (P:Params):BT:=(.node (boot_o_0 P) (.node (boot_o_1 P) (.node (boot_o_3 P) (.node (boot_o_7 P) .nil .nil) .nil) (.node (boot_o_5 P) (.node (boot_o_9 P) .nil .nil) .nil)) (.node (boot_o_2 P) (.node (boot_o_4 P) (.node (boot_o_8 P) .nil .nil) .nil) (.node (boot_o_6 P) (.node (boot_o_10 P) .nil .nil) .nil)))
theorem QG(P:Params):absHeap (bt P) 11 (boot_heap P).life=boot_heap P:=by kernel_rfl
noncomputable def run (p:Program) (w:World) (n:Nat) (ann:Option Value):Nat->SharedT->Thread->Option SharedT
 |0,_,_=>none
 |k+1,s,t=>match through t with
  |true=>some s
  |false=>match Fast.tw6613529449190102663 n ann t with
   |false=>none
   |true=>match Fast.tw10156331382660048174 (Fast.tw11892475500146522536 Fast.tw14364793385576792824) p w s t with
    |some (s',t')=>run p w n ann k s' t'
    |none=>none
theorem IB:∀ {k:Nat} {s s':SharedT} {t:Thread},run p w n ann k s t=some s'->topRun treeTable p w n ann k s.abs t=some s'.abs
 |0,_,_,_,h=>by cases h
 |k+1,s,s',t,h=>by
  unfold run at h;unfold topRun;cases he:through t with
  |true=>rw[he]at h;cases h;rfl
  |false=>
   rw[he]at h;rw[<-Fast.te6613529449190102663,<-Fast.te10156331382660048174,<-Fast.te11892475500146522536,<-Fast.te14364793385576792824]at h;cases hk:stepOk n ann t with
   |false=>simp only[hk]at h;cases h
   |true=>
    simp only[hk]at h;cases hs:stepT (denote treeTable) p w s t with
    |none=>rw[hs]at h;cases h
    |some r=>obtain⟨s2,t2⟩:=r;rw[hs]at h;rw[stepT_spec hs];exact IB h
noncomputable def b0 (w:World) (os:OsState):SharedT:=⟨bt w.params,11,(boot_heap w.params).life,⟨[]⟩,boot_drawn,boot_toks,os⟩
theorem Q2(w:World)(os:OsState):(b0 w os).abs=⟨boot_heap w.params,⟨[]⟩,boot_drawn,boot_toks,os⟩:=by
 unfold b0 SharedT.abs;dsimp only;rw[QG]
theorem left{α:Type}{Yf:Shared->α}{Ya:World->α}
 (e:opening p=plainProg p.main.scope.names) (f:∀s,fenceModules? p s=some s) (hN:Nat.ble 600 N=true)
 (h:∀(w:World) (os:OsState),(run p w 11 (some (.ref 6)) N (b0 w os) (topStub p)).bind (λ s=>match staticsOk (importedModules p.main.body) (boot_heap w.params) s.abs.heap&&namesBound p s.abs.heap&&gensDone s.abs&&laidKept (boot_heap w.params) s.abs.heap with
   |true=>some (Fast.tw4187177175401517315 q loose (importedModules p.main.body) (λ _=>true) true s.abs,Yf s.abs)
   |false=>none)=some (openGood q loose,Ya w)):LeftO p q loose (λ _=>true) Yf Ya N:=λ w=>by
 obtain⟨⟨hp,gs,d,k,os⟩,e1,e2⟩:=Option.map_eq_some_iff.mp (boot_open e hN f w);obtain⟨rfl,rfl,rfl,rfl⟩:hp=boot_heap w.params/\gs=⟨[]⟩/\d=boot_drawn/\k=boot_toks:=by simpa using e2
 obtain⟨s,r1,r2⟩:=Option.bind_eq_some_iff.mp (h w os);have r3:=IB r1;rw[Q2]at r3;rw[<-Fast.te4187177175401517315]at r2;unfold openEnds;rw[e1];show(topFrom treeTable p w N _).map _=_;unfold topFrom;rw[show((boot_heap w.params).isNs mainGlobals&&(⟨[]⟩:Array GenState).size==0)=true from by kernel_rfl];dsimp only;rw[show(boot_heap w.params).objs.size=11 from by kernel_rfl,show(boot_heap w.params).nsMap mainGlobals "__annotations__"=some (.ref 6)from by kernel_rfl,r3];show((match staticsOk (importedModules p.main.body) (boot_heap w.params) s.abs.heap&&namesBound p s.abs.heap&&gensDone s.abs&&laidKept (boot_heap w.params) s.abs.heap with|true=>some s.abs|false=>none):Option Shared).map _=_;cases z:(staticsOk (importedModules p.main.body) (boot_heap w.params) s.abs.heap&&namesBound p s.abs.heap&&gensDone s.abs&&laidKept (boot_heap w.params) s.abs.heap)with
 |false=>rw[z]at r2;cases r2
 |true=>rw[z]at r2;exact r2
def fo(st:Stmt)(x q:Str)(pm cd:Value):Obj:=⟨.type "function",none,.func (fnOf x q (L2.iz st) (L2.fu st) (L2.a9 st) .none .none .none pm none cd .none),#[]⟩
abbrev e(x:Str)(t:Nat)(v:Value):Str×Nat×Value:=(x,t,v)
abbrev k(a:Addr)(o:Obj):Addr×Obj:=(a,o)
def no(P:Params)(n:Nat)(l:List (Str×Nat×Value)):Obj:=⟨.type "dict",none,.dict (l.map λ e=>⟨PyData.keyHash P e.1,.str e.1 e.2.1,e.2.2⟩).toArray n,#[]⟩
def fd(st:Stmt)(x q:Str)(pm:Value)(c:Addr):FuncData:=fnOf x q (L2.iz st) (L2.fu st) (L2.a9 st) .none .none .none pm none (.ref c) .none
def fq(st:Stmt)(x q:Str)(pm:Value)(c:Addr):Obj:=⟨.type "function",none,.func (fd st x q pm c),#[]⟩
def co(x q:Str)(t:Nat)(line argc:Int)(a b:Addr)(u v:Value)(d:Addr)(i:Int)(z:Nat):Obj:=⟨.type "code",none,.fields #[.str x t,.str q (t+1),.str "/claim/cut.py" (t+2),.int line 0,.int argc 0,.int 0 0,.int 0 0,.int 3 0,.ref a,.bool true,.int 181 0,.ref b,.none,u,v,.ref d,.int i 0,.int line 0,.str "/claim/cut.py" z],#[]⟩
end Hd
namespace Row
open PySem L2
open PySem.Spec hiding items?
open PyProof.Rows hiding St
def top(i:Nat):Stmt:=PySem.Challenge.pw_latticeworks_k69_shared_papers.main.body.getD i (.Pass ⟨0,0,0,0⟩)
abbrev PW:Program:=PySem.Challenge.pw_latticeworks_k69_shared_papers
abbrev oA:Stmt:=top 1
abbrev ox:Stmt:=top 2
abbrev kc:Stmt:=top 3
abbrev lS:Stmt:=top 4
abbrev sv:Stmt:=top 6
abbrev yq:Stmt:=top 7
abbrev vY:Stmt:=top 8
abbrev sJ:Stmt:=top 9
abbrev vF:Stmt:=top 10
abbrev lO:Stmt:=top 11
abbrev pP:Stmt:=top 12
abbrev oo:Stmt:=top 13
abbrev lR:Stmt:=top 14
abbrev sT:Stmt:=top 15
abbrev pJ:Stmt:=top 16
abbrev mZ:Stmt:=top 17
abbrev rV:Stmt:=top 19
abbrev lL:Stmt:=top 20
abbrev jH:Stmt:=top 21
abbrev hO:Stmt:=top 22
abbrev oC:Stmt:=top 23
abbrev sM:Stmt:=top 24
abbrev cT:Stmt:=inClass (top 25) 0
abbrev iu:Stmt:=inClass (top 25) 1
abbrev fw:Stmt:=inClass (top 25) 2
abbrev eC:Stmt:=inClass (top 25) 3
abbrev c_:Stmt:=inClass (top 25) 4
abbrev f7:Stmt:=inClass (top 25) 5
abbrev ef:Stmt:=inClass (top 25) 6
abbrev pN:Stmt:=top 26
abbrev yK:Stmt:=top 28
abbrev pU:Stmt:=top 29
abbrev v_:Stmt:=top 30
abbrev ju:Stmt:=top 31
abbrev rQ:Stmt:=top 32
abbrev vL:Stmt:=top 33
abbrev kq:Stmt:=top 35
abbrev pL:Stmt:=top 36
abbrev oK:Stmt:=top 37
abbrev kr:Stmt:=top 38
abbrev qG:Stmt:=top 40
abbrev qf:Stmt:=top 41
abbrev nS:Stmt:=top 42
abbrev qH:Stmt:=top 43
abbrev ou:Stmt:=top 44
abbrev nt:Stmt:=top 45
abbrev sD:Stmt:=top 46
abbrev l_:Stmt:=top 47
abbrev rN:Stmt:=top 48
abbrev lW:Stmt:=top 49
abbrev lJ:Stmt:=top 50
abbrev lZ:Stmt:=top 51
abbrev lQ:Stmt:=top 52
abbrev si:Stmt:=top 53
abbrev fS:Stmt:=top 54
abbrev sN:Stmt:=top 55
abbrev pV:Stmt:=top 56
abbrev nG:Stmt:=top 57
abbrev oq:Stmt:=top 58
abbrev m7:Stmt:=top 59
abbrev oB:Stmt:=top 60
abbrev wk:Stmt:=top 61
def zK:Value:=(.str "latticeworks.kinds" 187)
def g_:Value:=(.str "latticeworks.rows" 217)
def eS:Value:=(.str "latticeworks.standing" 305)
def qU:Value:=(.str "latticeworks.spaces" 447)
def yS:Value:=(.str "latticeworks.sharedcheck" 493)
def cU:Value:=(.str "law_latticeworks_k69_shared_papers" 526)
def KX(P:Params):PySem.W.Frag:=[Hd.k 3 (Hd.no P 65 [Hd.e "__name__" 165 (.str "law_latticeworks_k69_shared_papers" 526),Hd.e "__doc__" 166 .none,Hd.e "__package__" 167 .none,Hd.e "__loader__" 168 (.builtin "__main__.__loader__#opaque"),Hd.e "__spec__" 169 .none,Hd.e "__annotations__" 170 (.ref 6),Hd.e "__builtins__" 171 (.ref 4),Hd.e "__file__" 173 (.str "/claim/cut.py" 172),Hd.e "__cached__" 174 .none,Hd.e "is_number" 195 (.ref 21),Hd.e "is_listed" 202 (.ref 28),Hd.e "is_listed_of" 210 (.ref 35),Hd.e "are_numbers" 216 (.ref 40),Hd.e "as_rows" 224 (.ref 45),Hd.e "added" 230 (.ref 50),Hd.e "sum_by" 242 (.ref 57),Hd.e "product" 248 (.ref 62),Hd.e "column" 254 (.ref 67),Hd.e "turned_over" 260 (.ref 72),Hd.e "unit_row" 266 (.ref 77),Hd.e "unit_rows" 272 (.ref 82),Hd.e "nought_rows" 280 (.ref 89),Hd.e "is_rows" 286 (.ref 94),Hd.e "are_back" 295 (.ref 101),Hd.e "is_turn_of" 304 (.ref 108),Hd.e "lead_of" 315 (.ref 115),Hd.e "is_standing" 321 (.ref 120),Hd.e "standing_head" 327 (.ref 125),Hd.e "nearest_quotient" 335 (.ref 132),Hd.e "exchanged" 345 (.ref 139),Hd.e "negated" 351 (.ref 144),Hd.e "Bench" 435 (.ref 199),Hd.e "standing" 446 (.ref 210),Hd.e "space" 456 (.ref 217),Hd.e "together" 464 (.ref 224),Hd.e "paired" 470 (.ref 229),Hd.e "behind_noughts" 476 (.ref 234),Hd.e "doubled" 484 (.ref 241),Hd.e "shared" 492 (.ref 248),Hd.e "shared_paper" 503 (.ref 255),Hd.e "is_space" 511 (.ref 262),Hd.e "turned_by" 519 (.ref 269),Hd.e "shows_shared" 525 (.ref 274),Hd.e "_law_hand" 535 (.ref 281),Hd.e "_law_draw" 547 (.ref 288),Hd.e "_law_number" 555 (.ref 295),Hd.e "_law_rows" 561 (.ref 300),Hd.e "_law_width" 568 (.ref 307),Hd.e "_law_stands" 574 (.ref 312),Hd.e "_law_sum" 587 (.ref 319),Hd.e "_law_product" 593 (.ref 324),Hd.e "_law_two" 599 (.ref 329),Hd.e "_law_is_list" 607 (.ref 336),Hd.e "_law_is_rows" 613 (.ref 341),Hd.e "_law_is_told" 621 (.ref 348),Hd.e "_law_is_back" 627 (.ref 353),Hd.e "_law_due" 633 (.ref 358),Hd.e "_law_lists" 639 (.ref 363),Hd.e "_law_odd" 646 (.ref 370),Hd.e "_law_bent" 652 (.ref 375),Hd.e "_law_signed" 658 (.ref 380),Hd.e "_law_tolds" 672 (.ref 387),Hd.e "_law_papers" 678 (.ref 392),Hd.e "_law_right" 689 (.ref 399),Hd.e "law" 704 (.ref 406)]),
 Hd.k 20 (Hd.co "is_number" "is_number" 189 2 1 15 16 (.ref 17) (.ref 18) 19 193 194),
 Hd.k 21 (Hd.fq oA "is_number" "is_number" zK 20),
 Hd.k 27 (Hd.co "is_listed" "is_listed" 196 4 1 22 23 (.ref 24) (.ref 25) 26 200 201),
 Hd.k 28 (Hd.fq ox "is_listed" "is_listed" zK 27),
 Hd.k 34 (Hd.co "is_listed_of" "is_listed_of" 203 6 2 29 30 (.ref 31) (.ref 32) 33 208 209),
 Hd.k 35 (Hd.fq kc "is_listed_of" "is_listed_of" zK 34),
 Hd.k 39 (Hd.co "are_numbers" "are_numbers" 211 8 2 36 37 .none .none 38 214 215),
 Hd.k 40 (Hd.fq lS "are_numbers" "are_numbers" zK 39),
 Hd.k 44 (Hd.co "as_rows" "as_rows" 219 11 1 41 42 .none .none 43 222 223),
 Hd.k 45 (Hd.fq sv "as_rows" "as_rows" g_ 44),
 Hd.k 49 (Hd.co "added" "added" 225 13 3 46 47 .none .none 48 228 229),
 Hd.k 50 (Hd.fq yq "added" "added" g_ 49),
 Hd.k 56 (Hd.co "sum_by" "sum_by" 231 15 3 51 52 (.ref 53) (.ref 54) 55 240 241),
 Hd.k 57 (Hd.fq vY "sum_by" "sum_by" g_ 56),
 Hd.k 61 (Hd.co "product" "product" 243 20 2 58 59 .none .none 60 246 247),
 Hd.k 62 (Hd.fq sJ "product" "product" g_ 61),
 Hd.k 66 (Hd.co "column" "column" 249 23 2 63 64 .none .none 65 252 253),
 Hd.k 67 (Hd.fq vF "column" "column" g_ 66),
 Hd.k 71 (Hd.co "turned_over" "turned_over" 255 25 2 68 69 .none .none 70 258 259),
 Hd.k 72 (Hd.fq lO "turned_over" "turned_over" g_ 71),
 Hd.k 76 (Hd.co "unit_row" "unit_row" 261 27 2 73 74 .none .none 75 264 265),
 Hd.k 77 (Hd.fq pP "unit_row" "unit_row" g_ 76),
 Hd.k 81 (Hd.co "unit_rows" "unit_rows" 267 29 1 78 79 .none .none 80 270 271),
 Hd.k 82 (Hd.fq oo "unit_rows" "unit_rows" g_ 81),
 Hd.k 88 (Hd.co "nought_rows" "nought_rows" 273 31 2 83 84 (.ref 85) (.ref 86) 87 278 279),
 Hd.k 89 (Hd.fq lR "nought_rows" "nought_rows" g_ 88),
 Hd.k 93 (Hd.co "is_rows" "is_rows" 281 33 3 90 91 .none .none 92 284 285),
 Hd.k 94 (Hd.fq sT "is_rows" "is_rows" g_ 93),
 Hd.k 100 (Hd.co "are_back" "are_back" 287 39 2 95 96 (.ref 97) (.ref 98) 99 293 294),
 Hd.k 101 (Hd.fq pJ "are_back" "are_back" g_ 100),
 Hd.k 107 (Hd.co "is_turn_of" "is_turn_of" 296 46 3 102 103 (.ref 104) (.ref 105) 106 302 303),
 Hd.k 108 (Hd.fq mZ "is_turn_of" "is_turn_of" g_ 107),
 Hd.k 114 (Hd.co "lead_of" "lead_of" 307 49 1 109 110 (.ref 111) (.ref 112) 113 313 314),
 Hd.k 115 (Hd.fq rV "lead_of" "lead_of" eS 114),
 Hd.k 119 (Hd.co "is_standing" "is_standing" 316 54 1 116 117 .none .none 118 319 320),
 Hd.k 120 (Hd.fq lL "is_standing" "is_standing" eS 119),
 Hd.k 124 (Hd.co "standing_head" "standing_head" 322 64 1 121 122 .none .none 123 325 326),
 Hd.k 125 (Hd.fq jH "standing_head" "standing_head" eS 124),
 Hd.k 131 (Hd.co "nearest_quotient" "nearest_quotient" 328 67 2 126 127 (.ref 128) (.ref 129) 130 333 334),
 Hd.k 132 (Hd.fq hO "nearest_quotient" "nearest_quotient" eS 131),
 Hd.k 138 (Hd.co "exchanged" "exchanged" 336 69 3 133 134 (.ref 135) (.ref 136) 137 343 344),
 Hd.k 139 (Hd.fq oC "exchanged" "exchanged" eS 138),
 Hd.k 143 (Hd.co "negated" "negated" 346 74 1 140 141 .none .none 142 349 350),
 Hd.k 144 (Hd.fq sM "negated" "negated" eS 143),
 Hd.k 155 (Hd.co "__init__" "Bench.__init__" 364 78 2 152 153 .none .none 154 367 368),
 Hd.k 156 (Hd.fq cT "__init__" "Bench.__init__" eS 155),
 Hd.k 162 (Hd.co "take" "Bench.take" 370 83 4 157 158 (.ref 159) (.ref 160) 161 377 378),
 Hd.k 163 (Hd.fq iu "take" "Bench.take" eS 162),
 Hd.k 169 (Hd.co "exchange" "Bench.exchange" 380 88 3 164 165 (.ref 166) (.ref 167) 168 386 387),
 Hd.k 170 (Hd.fq fw "exchange" "Bench.exchange" eS 169),
 Hd.k 176 (Hd.co "change_sign" "Bench.change_sign" 389 93 2 171 172 (.ref 173) (.ref 174) 175 394 395),
 Hd.k 177 (Hd.fq eC "change_sign" "Bench.change_sign" eS 176),
 Hd.k 181 (Hd.co "live_rows" "Bench.live_rows" 397 98 3 178 179 .none .none 180 400 401),
 Hd.k 182 (Hd.fq c_ "live_rows" "Bench.live_rows" eS 181),
 Hd.k 188 (Hd.co "gather" "Bench.gather" 403 102 3 183 184 (.ref 185) (.ref 186) 187 412 413),
 Hd.k 189 (Hd.fq f7 "gather" "Bench.gather" eS 188),
 Hd.k 195 (Hd.co "lower_above" "Bench.lower_above" 415 116 3 190 191 (.ref 192) (.ref 193) 194 422 423),
 Hd.k 196 (Hd.fq ef "lower_above" "Bench.lower_above" eS 195),
 Hd.k 198 (Hd.no P 4 [Hd.e "__module__" 359 (.str "latticeworks.standing" 305),Hd.e "__firstlineno__" 363 (.int (76) 362),Hd.e "__init__" 369 (.ref 156),Hd.e "take" 379 (.ref 163),Hd.e "exchange" 388 (.ref 170),Hd.e "change_sign" 396 (.ref 177),Hd.e "live_rows" 402 (.ref 182),Hd.e "gather" 414 (.ref 189),Hd.e "lower_above" 424 (.ref 196),Hd.e "__static_attributes__" 428 (.ref 197),Hd.e "__dict__" 430 (.ref 200),Hd.e "__weakref__" 432 (.ref 201),Hd.e "__doc__" 433 .none]),
 Hd.k 199 (⟨(.type "type"),none,.cls {name:="Bench",bases:=[(.type "object")],mro:=[(.ref 199),(.type "object")],ns:=198,qualname:="Bench",hasDict:=true,subclasses:=[],abstract:=false,hasDel:=false},#[none,none,(some (.str "Bench" 352)),(some (.str "Bench" 360)),(some (.builtin "object.__new__")),(some (.bool true))]⟩),
 Hd.k 209 (Hd.co "standing" "standing" 436 119 1 204 205 (.ref 206) (.ref 207) 208 444 445),
 Hd.k 210 (Hd.fq pN "standing" "standing" eS 209),
 Hd.k 216 (Hd.co "space" "space" 449 129 2 211 212 (.ref 213) (.ref 214) 215 454 455),
 Hd.k 217 (Hd.fq yK "space" "space" qU 216),
 Hd.k 223 (Hd.co "together" "together" 457 131 2 218 219 (.ref 220) (.ref 221) 222 462 463),
 Hd.k 224 (Hd.fq pU "together" "together" qU 223),
 Hd.k 228 (Hd.co "paired" "paired" 465 133 2 225 226 .none .none 227 468 469),
 Hd.k 229 (Hd.fq v_ "paired" "paired" qU 228),
 Hd.k 233 (Hd.co "behind_noughts" "behind_noughts" 471 135 2 230 231 .none .none 232 474 475),
 Hd.k 234 (Hd.fq ju "behind_noughts" "behind_noughts" qU 233),
 Hd.k 240 (Hd.co "doubled" "doubled" 477 139 2 235 236 (.ref 237) (.ref 238) 239 482 483),
 Hd.k 241 (Hd.fq rQ "doubled" "doubled" qU 240),
 Hd.k 247 (Hd.co "shared" "shared" 485 141 2 242 243 (.ref 244) (.ref 245) 246 490 491),
 Hd.k 248 (Hd.fq vL "shared" "shared" qU 247),
 Hd.k 254 (Hd.co "shared_paper" "shared_paper" 495 144 2 249 250 (.ref 251) (.ref 252) 253 501 502),
 Hd.k 255 (Hd.fq kq "shared_paper" "shared_paper" yS 254),
 Hd.k 261 (Hd.co "is_space" "is_space" 504 147 2 256 257 (.ref 258) (.ref 259) 260 509 510),
 Hd.k 262 (Hd.fq pL "is_space" "is_space" yS 261),
 Hd.k 268 (Hd.co "turned_by" "turned_by" 512 151 2 263 264 (.ref 265) (.ref 266) 267 517 518),
 Hd.k 269 (Hd.fq oK "turned_by" "turned_by" yS 268),
 Hd.k 273 (Hd.co "shows_shared" "shows_shared" 520 153 4 270 271 .none .none 272 523 524),
 Hd.k 274 (Hd.fq kr "shows_shared" "shows_shared" yS 273),
 Hd.k 280 (Hd.co "_law_hand" "_law_hand" 528 163 1 275 276 (.ref 277) (.ref 278) 279 533 534),
 Hd.k 281 (Hd.fq qG "_law_hand" "_law_hand" cU 280),
 Hd.k 287 (Hd.co "_law_draw" "_law_draw" 536 166 2 282 283 (.ref 284) (.ref 285) 286 545 546),
 Hd.k 288 (Hd.fq qf "_law_draw" "_law_draw" cU 287),
 Hd.k 294 (Hd.co "_law_number" "_law_number" 548 179 2 289 290 (.ref 291) (.ref 292) 293 553 554),
 Hd.k 295 (Hd.fq nS "_law_number" "_law_number" cU 294),
 Hd.k 299 (Hd.co "_law_rows" "_law_rows" 556 185 3 296 297 .none .none 298 559 560),
 Hd.k 300 (Hd.fq qH "_law_rows" "_law_rows" cU 299),
 Hd.k 306 (Hd.co "_law_width" "_law_width" 562 190 1 301 302 (.ref 303) (.ref 304) 305 566 567),
 Hd.k 307 (Hd.fq ou "_law_width" "_law_width" cU 306),
 Hd.k 311 (Hd.co "_law_stands" "_law_stands" 569 194 1 308 309 .none .none 310 572 573),
 Hd.k 312 (Hd.fq nt "_law_stands" "_law_stands" cU 311),
 Hd.k 318 (Hd.co "_law_sum" "_law_sum" 575 204 3 313 314 (.ref 315) (.ref 316) 317 585 586),
 Hd.k 319 (Hd.fq sD "_law_sum" "_law_sum" cU 318),
 Hd.k 323 (Hd.co "_law_product" "_law_product" 588 210 3 320 321 .none .none 322 591 592),
 Hd.k 324 (Hd.fq l_ "_law_product" "_law_product" cU 323),
 Hd.k 328 (Hd.co "_law_two" "_law_two" 594 212 3 325 326 .none .none 327 597 598),
 Hd.k 329 (Hd.fq rN "_law_two" "_law_two" cU 328),
 Hd.k 335 (Hd.co "_law_is_list" "_law_is_list" 600 223 2 330 331 (.ref 332) (.ref 333) 334 605 606),
 Hd.k 336 (Hd.fq lW "_law_is_list" "_law_is_list" cU 335),
 Hd.k 340 (Hd.co "_law_is_rows" "_law_is_rows" 608 225 3 337 338 .none .none 339 611 612),
 Hd.k 341 (Hd.fq lJ "_law_is_rows" "_law_is_rows" cU 340),
 Hd.k 347 (Hd.co "_law_is_told" "_law_is_told" 614 232 2 342 343 (.ref 344) (.ref 345) 346 619 620),
 Hd.k 348 (Hd.fq lZ "_law_is_told" "_law_is_told" cU 347),
 Hd.k 352 (Hd.co "_law_is_back" "_law_is_back" 622 236 3 349 350 .none .none 351 625 626),
 Hd.k 353 (Hd.fq lQ "_law_is_back" "_law_is_back" cU 352),
 Hd.k 357 (Hd.co "_law_due" "_law_due" 628 240 4 354 355 .none .none 356 631 632),
 Hd.k 358 (Hd.fq si "_law_due" "_law_due" cU 357),
 Hd.k 362 (Hd.co "_law_lists" "_law_lists" 634 252 1 359 360 .none .none 361 637 638),
 Hd.k 363 (Hd.fq fS "_law_lists" "_law_lists" cU 362),
 Hd.k 369 (Hd.co "_law_odd" "_law_odd" 640 256 1 364 365 (.ref 366) (.ref 367) 368 644 645),
 Hd.k 370 (Hd.fq sN "_law_odd" "_law_odd" cU 369),
 Hd.k 374 (Hd.co "_law_bent" "_law_bent" 647 258 2 371 372 .none .none 373 650 651),
 Hd.k 375 (Hd.fq pV "_law_bent" "_law_bent" cU 374),
 Hd.k 379 (Hd.co "_law_signed" "_law_signed" 653 284 1 376 377 .none .none 378 656 657),
 Hd.k 380 (Hd.fq nG "_law_signed" "_law_signed" cU 379),
 Hd.k 386 (Hd.co "_law_tolds" "_law_tolds" 659 287 4 381 382 (.ref 383) (.ref 384) 385 670 671),
 Hd.k 387 (Hd.fq oq "_law_tolds" "_law_tolds" cU 386),
 Hd.k 391 (Hd.co "_law_papers" "_law_papers" 673 293 2 388 389 .none .none 390 676 677),
 Hd.k 392 (Hd.fq m7 "_law_papers" "_law_papers" cU 391),
 Hd.k 398 (Hd.co "_law_right" "_law_right" 679 300 4 393 394 (.ref 395) (.ref 396) 397 687 688),
 Hd.k 399 (Hd.fq oB "_law_right" "_law_right" cU 398),
 Hd.k 405 (Hd.co "law" "law" 690 303 1 400 401 (.ref 402) (.ref 403) 404 702 703),
 Hd.k 406 (Hd.fq wk "law" "law" cU 405)]
def KA:List Addr:=[3,20,21,27,28,34,35,39,40,44,45,49,50,56,57,61,62,66,67,71,72,76,77,81,82,88,89,93,94,100,101,107,108,114,115,119,120,124,125,131,132,138,139,143,144,155,156,162,163,169,170,176,177,181,182,188,189,195,196,198,199,209,210,216,217,223,224,228,229,233,234,240,241,247,248,254,255,261,262,268,269,273,274,280,281,287,288,294,295,299,300,306,307,311,312,318,319,323,324,328,329,335,336,340,341,347,348,352,353,357,358,362,363,369,370,374,375,379,380,386,387,391,392,398,399,405,406]
set_option maxHeartbeats 0 in
theorem left:PySem.W.LeftO PW (PySem.W.view PW [1,2,3,4,6,7,8,9,10,11,12,13,14,15,16,17,19,20,21,22,23,24,25,26,28,29,30,31,32,33,35,36,37,38,40,41,42,43,44,45,46,47,48,49,50,51,52,53,54,55,56,57,58,59,60,61]) [] (λ _=>true) (PySem.W.kmHook Row.KX Row.KA (λ _=>rfl) [179]).obs (PySem.W.kmHook Row.KX Row.KA (λ _=>rfl) [179]).val 4228:=
 Hd.left (by kernel_rfl) (λ s=>by kernel_rfl) rfl λ w os=>by kernel_rfl
end Row
namespace L3
open PySem PySem.Spec PyProof.Rows L2
section
variable {prog:Program}{w:World}{A:Around}{R:Result->Shared->Prop}{s:Shared}
theorem Dw(I:Nat->Shared->Prop)
 (turn:∀n s,I n s->wpAny (model prog w) A (pyNext it) (λ r s₁=>match r with
   |none=>R (.ok .next) s₁
   |some v=>wpAny (model prog w) A (letOwnedTupleGo target it v) (λ _ s₀=>wpAny (model prog w) A (assign target env v) (λ _ s₂=>
     wpAny (model prog w) A (forIn ifs true λ c r=>if r=true then do let ok <-isTrue c env (eval c env);pure (ForInStep.yield ok)else pure (ForInStep.yield r)) (λ ok s₃=>
      if ok=true then wpAny (model prog w) A (eval elt env) (λ x s₄=>
       wpAny (model prog w) A (call (.builtin "list.append") [acc,x]) (λ _ s₅=>∃m,m<n/\I m s₅) (λ _ _=>False) s₄) (λ _ _=>False) s₃
      else∃m,m<n/\I m s₃) (λ _ _=>False) s₂) (λ _ _=>False) s₀) (λ _ _=>False) s₁) (λ _ _=>False) s)
 (n:Nat) (h:I n s):
 codeAny (model prog w) A (.compLoop (.ListComp elt [⟨target,iter,ifs,0⟩] scope pos) 0 it acc env) R s:=by
 refine codeAny_loop rfl I (λ n s hI=>?_) n h;show wpAny _ A ((compTurn (.ListComp elt [⟨target,iter,ifs,0⟩] scope pos) 0 it acc env).onRaise (λ x=>do noteFrame x env;theTreesLotGoes x)) _ _ s;refine wpAny_noted ?_;rw[compTurn_list];refine VR (ZS (VR (XC (turn n s hI) (λ r s₁ h₁=>?_) λ _ _ h'=>h'.elim)));cases r with
 |none=>exact V8 h₁
 |some v=>
  refine VR (XC h₁ (λ _ s₀ h₀=>?_) λ _ _ h'=>h'.elim);refine VR (XC h₀ (λ _ s₂ h₂=>VR (XC h₂ (λ ok s₃ h₃=>?_) λ _ _ h'=>h'.elim)) λ _ _ h'=>h'.elim);cases ok with
  |false=>exact V8 ⟨rfl,h₃⟩
  |true=>
   exact VR (VR (XC h₃ (λ x s₄ h₄=>VR (XC h₄ (λ _ s₅ h₅=>V8 (V8 ⟨rfl,h₅⟩)) λ _ _ h'=>h'.elim)) λ _ _ h'=>h'.elim))
end
def cS(cells:List (Str×Addr)):List (Str×NameKind)->List (Str×Addr)->List (Str×Addr)
 | [],acc=>acc
 |(n,k)::r,acc=>if k== .free then(match cells.lookup n with|some c=>cS cells r ((n,c)::acc)|none=>cS cells r acc)else cS cells r acc
theorem cL:∀(names:List (Str×NameKind)) (acc:List (Str×Addr)),(∀x c,acc.lookup x=some c->cells.lookup x=some c)->
 ∀x c,(cS cells names acc).lookup x=some c->cells.lookup x=some c
 | [],acc,h,x,c,e=>h x c e
 |(n,k)::r,acc,h,x,c,e=>by
  unfold cS at e;split at e
  . split at e
    . rename_i d q;refine cL r _ (λ y b e'=>?_) x c e;rw[WM]at e';split at e'
      . rename_i z;cases e';have z':y=n:=by simpa using z
        rw[z'];exact q
      . exact h y b e'
    . exact cL r _ h x c e
  . exact cL r _ h x c e
theorem iq:∀(names:List (Str×NameKind)) (acc:List (Str×Addr)),(∃c,cells.lookup x=some c)->((x,NameKind.free)∈names\/∃c,acc.lookup x=some c)->
 ∃c,(cS cells names acc).lookup x=some c
 | [],acc,_,h=>by
   rcases h with h|h
   . simp at h
   . exact h
 |(n,k)::r,acc,hc,h=>by
  unfold cS;split
  . rename_i hk;split
    . rename_i d q;refine iq r _ hc ?_;rcases h with h|⟨c,h⟩
      . rcases V4.mp h with e|e
        . cases e;exact .inr ⟨d,by simp[WM]⟩
        . exact .inl e
      . refine .inr ?_;rw[WM];split
        . exact⟨_,rfl⟩
        . exact⟨c,h⟩
    . rename_i q;refine iq r _ hc ?_;rcases h with h|h
      . rcases V4.mp h with e|e
        . cases e;obtain⟨c,hc⟩:=hc;rw[hc]at q;cases q
        . exact .inl e
      . exact .inr h
  . rename_i hk;refine iq r _ hc ?_;rcases h with h|h
    . rcases V4.mp h with e|e
      . cases e;exact absurd rfl hk
      . exact .inl e
    . exact .inr h
theorem lE(h:∀x∈scope.names,x.2= .free->∃c,env.cells.lookup x.1=some c):closureFor scope env=pure (cS env.cells scope.names []):=by
 have key:∀(names:List (Str×NameKind)) (acc:List (Str×Addr)),(∀x∈names,x.2= .free->∃c,env.cells.lookup x.1=some c)->
  (forIn names acc (λ(x:Str×NameKind) (cs:List (Str×Addr))=>if(x.2==NameKind.free)=true then(do let a <-cellOf env x.1;pure (ForInStep.yield ((x.1,a)::cs)):Sem (ForInStep (List (Str×Addr))))else pure (ForInStep.yield cs)))=(pure (cS env.cells names acc):Sem (List (Str×Addr))):=by
  intro names;induction names with
  |nil=>intro acc _;rfl
  |cons p r ih=>
   intro acc hh;obtain⟨n,k⟩:=p;rw[aao];have ih':=ih;by_cases hk:(k==NameKind.free)=true
   . obtain⟨c,e⟩:=hh (n,k) V_ (by simpa using hk);simp only[hk,Yk]
     have e1:cellOf env n=pure c:=by
      unfold cellOf;rw[e]
     rw[e1];simp only[pure_bind];rw[ih _ λ x hx=>hh x (V5 _ hx)];conv=>rhs;unfold cS
     simp only[hk,Yk];rw[show env.cells.lookup n=some c from e]
   . have hk':(k==NameKind.free)=false:=by simpa using hk
     simp only[hk',Xd,XT,pure_bind];rw[ih _ λ x hx=>hh x (V5 _ hx)];conv=>rhs;unfold cS
     simp only[hk',Xd,XT]
 unfold closureFor;have:=key scope.names [] h;rw[bind_pure]
 first
  |exact this
  |(simp only[bind_pure]at this⊢;exact this)
end L3
namespace L3
open PySem PySem.Spec L2
open PyProof.Rows hiding St
theorem iK(env:Env):∀(names:List (Str×NameKind)) (x:Str),
 (names.map λ(n,k)=>if(k==NameKind.free&&env.scope.kind== .function&&env.kindOf n==some .cell)then(n,NameKind.cell)else(n,k)).lookup x=
   (names.lookup x).map λ k=>if(k==NameKind.free&&env.scope.kind== .function&&env.kindOf x==some .cell)then NameKind.cell else k
 | [],_=>rfl
 |(n,k)::r,x=>by
  show List.lookup x ((if(k==NameKind.free&&env.scope.kind== .function&&env.kindOf n==some .cell)=true then(n,NameKind.cell)else(n,k))::_)=_;cases hx:x==n with
  |true=>
   have e:x=n:=by simpa using hx
   subst e;by_cases hc:(k==NameKind.free&&env.scope.kind== .function&&env.kindOf x==some .cell)=true
   . rw[VU hc];simp only[WM,Ze,Yu];rw[VU hc]
   . rw[VT hc];simp only[WM,Ze,Yu];rw[VT hc]
  |false=>
   by_cases hc:(k==NameKind.free&&env.scope.kind== .function&&env.kindOf n==some .cell)=true
   . rw[VU hc];simp only[WM,hx];exact iK env r x
   . rw[VT hc];simp only[WM,hx];exact iK env r x
theorem CY(h:scope.names.lookup x=some .free):(relabel scope env).names.lookup x=some .cell\/(relabel scope env).names.lookup x=some .free:=by
 have e:(relabel scope env).names.lookup x=_:=iK env scope.names x;rw[e,h];simp only[Yu];split
 . exact .inl rfl
 . exact .inr rfl
theorem Cv(h:(relabel scope env).names.lookup x=some .cell\/(relabel scope env).names.lookup x=some .free):(x,NameKind.free)∈scope.names\/scope.names.lookup x=some .cell:=by
 have e:(relabel scope env).names.lookup x=_:=iK env scope.names x;rw[e]at h;cases q:scope.names.lookup x with
 |none=>rw[q]at h;rcases h with h|h<;>cases h
 |some k=>
  rw[q]at h;simp only[Yu]at h;have m:=WN q;by_cases hc:(k==NameKind.free&&env.scope.kind== .function&&env.kindOf x==some .cell)=true
  . have:k= .free:=by
     simp only[Wv]at hc;simpa using hc.1.1
    subst this;exact .inl m
  . rw[VT hc]at h;rcases h with h|h
    . cases h;exact .inr rfl
    . cases h;exact .inl m
theorem fN:∀(names:List (Str×NameKind)) (L:Nat) (acc:List (Str×Addr)),cellsFrom L names acc=cellsFrom L names []++acc
 | [],_,_=>rfl
 |(n,k)::r,L,acc=>by
  unfold cellsFrom;by_cases hk:(k==NameKind.cell)=true
  . rw[VU hk,VU hk,fN r (L+1) ((n,L)::acc),fN r (L+1) [(n,L)],XO];rfl
  . rw[VT hk,VT hk];exact fN r L acc
theorem rR:∀ {names:List (Str×NameKind)} {L:Nat} {x:Str} {c:Addr},(x,c)∈cellsFrom L names []->(x,NameKind.cell)∈names
 | [],_,_,_,h=>by unfold cellsFrom at h;cases h
 |(n,k)::r,L,x,c,h=>by
  unfold cellsFrom at h;by_cases hk:(k==NameKind.cell)=true
  . rw[VU hk,fN]at h;have hk':k= .cell:=by simpa using hk
    subst hk';rcases Wf.mp h with h|h
    . exact V5 _ (rR h)
    . have:(x,c)=(n,L):=by simpa using h
      cases this;exact V_
  . rw[VT hk]at h;exact V5 _ (rR h)
theorem qD:∀ {l1 l2:List (Str×Addr)} {x:Str} {c:Addr},(l1++l2).lookup x=some c->l1.lookup x=some c\/(l1.lookup x=none/\l2.lookup x=some c)
 | [],_,_,_,h=> .inr ⟨rfl,h⟩
 |(n,d)::l1,l2,x,c,h=>by
  rw[aae,WM]at h;rw[WM];cases hx:x==n with
  |true=>rw[hx]at h;exact .inl h
  |false=>rw[hx]at h;exact qD h
theorem u6:∀ {l1 l2:List (Str×Addr)} {x:Str},l1.lookup x=none->(l1++l2).lookup x=l2.lookup x
 | [],_,_,_=>rfl
 |(n,d)::l1,l2,x,h=>by
  rw[WM]at h;rw[aae,WM];cases hx:x==n with
  |true=>rw[hx]at h;cases h
  |false=>rw[hx]at h;exact u6 h
def k6(scope:Scope)(C:Addr)(cl:List (Str×Addr)):List (Str×Addr):=cellsFrom (C+1) scope.names cl
theorem hV{cl:List (Str×Addr)}(h:(k6 scope C cl).lookup x=some c):(x,c)∈cellsFrom (C+1) scope.names []\/cl.lookup x=some c:=by
 unfold k6 at h;rw[fN]at h;rcases qD h with h|h
 . exact .inl (WN h)
 . exact .inr h.2
theorem Pm(names:List (Str×NameKind))(h:Heap)(e:h.objs.size=C+1):CellsOk (pushCells h names) (C+1) (cellsFrom (C+1) names []):=by
 have:=cellsFrom_ok names h (C+1) [] ⟨λ _ _ hm=>(nomatch hm),List.Pairwise.nil⟩ (by rw[e];exact VQ _);rw[e]at this;exact this
theorem ni:∀ {L:Nat},C<=L->(x,c)∈cellsFrom L names []->C<=c:=by
 induction names with
 |nil=>intro L _ h;unfold cellsFrom at h;cases h
 |cons p r ih=>
  obtain⟨n,k⟩:=p;intro L hL h;unfold cellsFrom at h;by_cases hk:(k==NameKind.cell)=true
  . rw[VU hk,fN]at h;rcases Wf.mp h with h|h
    . exact ih (VX hL (Yx L)) h
    . have:(x,c)=(n,L):=by simpa using h
      cases this;exact hL
  . rw[VT hk]at h;exact ih hL h
theorem own_apart:∀ {L:Nat},(x,c)∈cellsFrom L names []->(y,c)∈cellsFrom L names []->x=y:=by
 induction names with
 |nil=>intro L h;unfold cellsFrom at h;cases h
 |cons p r ih=>
  obtain⟨n,k⟩:=p;intro L h1 h2;unfold cellsFrom at h1 h2;by_cases hk:(k==NameKind.cell)=true
  . rw[VU hk,fN]at h1 h2;rcases Wf.mp h1 with g1|g1<;>rcases Wf.mp h2 with g2|g2
    . exact ih g1 g2
    . have e2:(y,c)=(n,L):=by simpa using g2
      have ec:c=L:=(aar e2).2;have:=ni (C:=L+1) (VQ _) g1;rw[ec]at this;exact absurd this (Nat.not_succ_le_self _)
    . have e1:(x,c)=(n,L):=by simpa using g1
      have ec:c=L:=(aar e1).2;have:=ni (C:=L+1) (VQ _) g2;rw[ec]at this;exact absurd this (Nat.not_succ_le_self _)
    . have e1:(x,c)=(n,L):=by simpa using g1
      have e2:(y,c)=(n,L):=by simpa using g2
      exact(aar e1).1.trans (aar e2).1.symm
  . rw[VT hk]at h1 h2;exact ih h1 h2
theorem vo{cl:List (Str×Addr)}
 (hQ:Q (newEnv scope s.heap.objs.size globals (k6 scope s.heap.objs.size cl) qual none .none (some env) builtinsNs) {s with heap:=pushCells (s.heap.push {cls:= .type "dict",data:= .dict #[]}) scope.names}):
 wpAny M A (newFunctionEnv scope globals cl [] qual none .none (some env)) Q E s:=by
 simp only[newFunctionEnv,Option.isSome_some,Yk];refine VR (wpAny_alloc ?_);refine VR (wpAny_layCells _ (λ name kind cells=>by cases hkc:kind==NameKind.cell<;>simp[hkc]) _ _ _ _ ?_);rw[show({s with heap:=s.heap.push {cls:= .type "dict",data:= .dict #[]}}:Shared).heap.objs.size=s.heap.objs.size+1 from Xh ..];rw[aaA];exact VR (V8 (V8 hQ))
structure cA(X:Cx)(scope:Scope)(Nc:List Str)(fr:List (Option Nat)):Prop where
 kind:scope.kind= .function
 cells:∀x∈scope.names,x.2= .cell->scope.names.lookup x.1=some .cell
 names:∀x∈scope.names,x.2= .local->scope.names.lookup x.1=some .local
 free:∀x∈scope.names,x.2= .free->X.env.kindOf x.1=some .cell\/X.env.kindOf x.1=some .free
 len:fr.length=Nc.length
 map:∀(i j:Nat) (x:Str),Nc[i]?=some x->fr[i]?=some (some j)->X.N[j]?=some x/\scope.names.lookup x=some .free/\(X.env.kindOf x=some .cell\/X.env.kindOf x=some .free)
def σC(fr:List (Option Nat))(σ:St):St:=fr.map λ o=>o.bind λ j=>(σ[j]?).join
def bp(X:Cx)(scope:Scope)(Nc:List Str)(C:Addr)(s:Shared)(H:Hp)(ex:List Addr):Cx:=
 {X with N:=Nc,s₀:=s,H₀:=H,env:=compEnvC scope (k6 scope C (cS X.env.cells scope.names [])) C X.env,outer:=X.stack,stack:=X.stack,ex:=ex,fn:=λ x=>scope.names.lookup x==some .cell,pn:=[],xe:=λ _ _=>False}
def uf(wi:TI)(fr:List (Option Nat))(g:TG)(c:TT)(te:TE):TE:=λ σ H Q=>wi σ H λ J H1=>∀l,H1 l=none->
 ∃W:Nat->Nat->L2.St->Hp->Prop,(∃m,W 0 m (σC fr σ) (upd H1 l (.lst [])))/\∀i m σ H,W i m σ H->
  (J.stop i H/\Q (.ref l) H)\/(J.go i H/\∃N:L2.St->Hp->Prop,(∀σ' H',N σ' H'->∃m',m'<m/\W (i+1) m' σ' H')/\∀x H',J.oV i H x H'->
    g x σ H' λ σ2 H2=>c σ2 H2 λ b H3=>if b=true then te σ2 H3 λ y H4=>∃ys,H4 l=some (.lst ys)/\ys.length<sizeLine/\N σ2 (upd H4 l (.lst (ys++[y])))else N σ2 H3)
def tK(X:Cx)(ifs:List Expr)(t:TT):Prop:=
 ∀(pins:List (Addr×Obj)) (s:Shared) (σ:St) (H:Hp) (Q:Bool->Hp->Prop),Inv X pins σ H s->t σ H Q->
  wpAny (model X.prog X.w) X.A (forIn ifs true λ c r=>if r=true then do let ok <-isTrue c X.env (eval c X.env);pure (ForInStep.yield ok)else pure (ForInStep.yield r)) (TP X pins σ Q) X.xe s
def Ts:TT:=λ _ H Q=>Q true H
theorem Ob:tK X [] Ts:=λ _ _ _ H _ I h=>wpAny_tests_nil ⟨H,I,h⟩
theorem Oc(h:PT X c t):tK X [c] t:=λ pins s σ H Q I q=>wpAny_tests_one (h pins s σ H Q I q)
section
variable {X:Cx}{scope:Scope}{Nc:List Str}{fr:List (Option Nat)}{pins:List (Addr×Obj)}{σ:St}{H:Hp}{s:Shared}
theorem Q5(S:cA X scope Nc fr)(I:Inv X pins σ H s)(hC:C=s.heap.objs.size)(hf:∀b∈fp,ka X pins H b)(hlt:∀b∈fp,b<s.heap.objs.size)(hnc:∀b∈fp,∀x c,X.env.cells.lookup x=some c->c≠b):
 (bp X scope Nc C s H fp).Ok where
 mod:=I.ok.mod
 kind:=S.kind
 glob:=I.ok.glob
 blt:=I.ok.blt
 above:=Zp hC.symm
 inj:=λ x y c h1 h2=>by
  have low:∀ {z},(cS X.env.cells scope.names []).lookup z=some c->c<s.heap.objs.size:=λ{z} hz=>by
   obtain⟨v,q⟩:=I.cell z c (cL _ [] (λ _ _ e=>by cases e) z c hz);exact q.lt
  rcases hV h1 with h1|h1<;>rcases hV h2 with h2|h2
  . exact own_apart h1 h2
  . have a:=ni (C:=C+1) (VQ _) h1;have b:c<C:=by rw[hC];exact low h2
    exact absurd a (Nat.not_le_of_gt (W3 b))
  . have a:=ni (C:=C+1) (VQ _) h2;have b:c<C:=by rw[hC];exact low h1
    exact absurd a (Nat.not_le_of_gt (W3 b))
  . exact I.ok.inj x y c (cL _ [] (λ _ _ e=>by cases e) x c h1) (cL _ [] (λ _ _ e=>by cases e) y c h2)
 has:=λ x hx=>by
  rcases Cv hx with m|m
  . obtain⟨c,e⟩:=iq scope.names [] (I.ok.has x (S.free _ m rfl)) (.inl m);exact Yp.mp (X3 _ _ _ (.inr (by rw[e];rfl)))
  . exact Yp.mp (X3 _ _ _ (.inl m))
 Ct:=λ x c hf h=>by
  have hl:scope.names.lookup x=some .cell:=by
   have:(scope.names.lookup x==some .cell)=true:=hf;simpa using this
  obtain⟨c',e⟩:=Yp.mp (X3 (x:=x) scope.names (C+1) [] (.inl hl))
  have h':(cellsFrom (C+1) scope.names []++cS X.env.cells scope.names []).lookup x=some c:=by
   rw[<-fN];exact h
  rcases qD h' with q|q
  . have:=ni (C:=C+1) (VQ _) (WN q);show s.heap.objs.size<=c;rw[<-hC];exact ZX this
  . rw[q.1]at e;cases e
 hd:=I.ok.hd
 frames:=I.ok.frames
 D_:= .inl rfl
 Jg:=λ b hb=>⟨by rw[show(bp X scope Nc C s H fp).env.locals=s.heap.objs.size from hC];exact Wy (hlt b hb),λ x c h=>by
  rcases hV h with h|h
  . have a:=ni (C:=C+1) (VQ _) h;have b':b<C:=by rw[hC];exact hlt b hb
    exact X_ (Wj b' (ZX a))
  . exact hnc b hb x c (cL _ [] (λ _ _ e=>by cases e) x c h)⟩
 bs:=I.bs
 rO:=VX I.ok.rO I.sz
 vU:=λ b o e hb=>by
  have hn:=(hf b hb).2.2.2.1;rcases hn with hn|hn
  . exact I.ok.vU b o e hn
  . exact absurd (Wd (I.ok.bs b o e).1) (Nat.not_lt.mpr hn)
 vt:=λ b hb z=>by
  have q:=I.AY b z;rcases V4.mp q with q|q
  . exact(hf b hb).2.1 q
  . exact(hf b hb).2.2.1 q
 jQ:=I.stack
 wO:=λ b hb=>I.yz b hb
 gt:=I.ok.gt
theorem ER{i:Nat}{v:V}(h:(σC fr σ)[i]?=some (some v)):∃j,fr[i]?=some (some j)/\σ[j]?=some (some v):=by
 unfold σC at h;rw[Wn]at h;cases q:fr[i]? with
 |none=>rw[q]at h;cases h
 |some o=>
  rw[q]at h;cases o with
  |none=>simp at h
  |some j=>
   simp only[Yu,ZY,Option.bind_some]at h;refine⟨j,rfl,?_⟩;cases r:σ[j]? with
   |none=>rw[r]at h;cases h
   |some u=>rw[r]at h;simp at h;rw[h]
theorem K6{s':Shared}{h':Heap}{C:Addr}{fp:List Addr}{t':Nat}(S:cA X scope Nc fr)(I:Inv X pins σ H s)(hC:C=s.heap.objs.size)(ok:(bp X scope Nc C s H fp).Ok)(hfr:∀b∈fp,H b=none)
 (k:∀b o,s.heap.get? b=some o->h'.get? b=some o) (hn:h'.Ns C (λ _=>none)) (hcs:∀x c,(x,c)∈cellsFrom (C+1) scope.names []->h'.IsCell c none):Inv (bp X scope Nc C s H fp) [] (σC fr σ) H {s with heap:=h',toks:=t'} where
 ok:=ok
 os:=rfl
 bare:=I.bare
 base:=Un.kept k
 loc:=⟨_,hn,λ i x v h1 h2 h3=>by
  obtain⟨j,q1,q2⟩:=ER h2;obtain⟨n1,n2,n3⟩:=S.map i j x h1 q1;obtain⟨m,hm,hl⟩:=I.loc
  have vis:Di X.env.scope x:=by
   rcases n3 with z|z
   . exact .inr (.inl z)
   . exact .inr (.inr z)
  obtain⟨u,r,lk⟩:=hl j x v n1 q2 vis;refine⟨u,r,?_⟩;rcases lk with⟨z,_⟩|⟨z,c,e,ic⟩
  . rcases n3 with y|y
    . rw[y]at z;cases z
    . rw[y]at z;cases z
  . refine .inr ⟨CY n2,?_⟩;obtain⟨c',e'⟩:=iq scope.names [] ⟨c,e⟩ (.inl (WN n2));have e2:=cL _ [] (λ _ _ e=>by cases e) x c' e';rw[e]at e2;cases e2;refine⟨c,?_,ic.keeps k⟩;show(k6 scope C (cS X.env.cells scope.names [])).lookup x=some c;unfold k6;rw[fN,u6 ?_]
    . exact e'
    . cases q:(cellsFrom (C+1) scope.names []).lookup x with
      |none=>rfl
      |some c2=>
       have:=S.cells _ (rR (WN q)) rfl;rw[n2]at this;cases this⟩
 cell:=λ x c h=>by
  rcases hV h with h|h
  . exact⟨_,hcs x c h⟩
  obtain⟨v,q⟩:=I.cell x c (cL _ [] (λ _ _ e=>by cases e) x c h);exact⟨v,q.keeps k⟩
 free:=by show H C=none;rw[hC];exact I.aC.fresh (VQ _)
 hJ:=λ x c h=>by
  rcases hV h with h|h
  . have a:=ni (C:=C+1) (VQ _) h;exact I.aC.fresh (by rw[<-hC];exact ZX a)
  . exact I.hJ x c (cL _ [] (λ _ _ e=>by cases e) x c h)
 pin:=λ p hp=>by cases hp
 aC:=I.aC.kept k
 len:=by unfold σC;rw[VO];exact S.len
theorem Inv.forget(I:Inv X pins σ H s)(f:ka X pins H C)(hs:Heap.SameBut C s.heap h'):Inv X pins σ H {s with heap:=h'}:=by
 refine I.GJ (s':={s with heap:=h'}) (ch:=[C]) rfl ?_ ?_ I.bare λ b hb=>?_
 . have ne:∀b,b∉[C]->b≠C:=λ b hb z=>hb (by simp[z]);exact{keep:=λ b o q _ _ hx=>(hs.2 b (ne b hx)).trans q,slot:=λ b o q _ _ hx=>⟨o.slots,(hs.2 b (ne b hx)).trans q⟩,free:=λ b o q n _=>n,there:=λ b o q hx=>⟨o,(hs.2 b (ne b hx)).trans q⟩,oM:=λ _ _ e=>e,nA:=λ _ _ _ e=>e,nM:=λ b ps e=>⟨#[],by rw[e];simp⟩}
 . intro a o q;have na:∀b u,H b=some u->b≠C:=λ b u q z=>by rw[z,f.1]at q;cases q
   refine(I.aC a o q).ot (λ b u hb e=>?_) (λ _ q=>q) λ _ _ q=>q;rw[hs.2 b ?_]
   . exact e
   . rcases hb with rfl|hb
     . exact na _ _ q
     . exact na _ _ hb
 . have:b=C:=by simpa using hb
   subst this;exact⟨f.2.2.2.1,f.2.1,f.2.2.2.2.1,f.2.2.2.2.2⟩
theorem xQ{elt tg iter:Expr}{ifs:List Expr}{wi:TI}{g:TG}{c:TT}{te:TE}{pos:Pos}{Q:VK}{RR:Value->Addr->Result->Shared->Prop}(hx:X.xe=λ _ _=>False)(hc:X.calm=true)(S:cA X scope Nc fr)(hi:PI X tg iter wi)
 (hg:∀C s H ex,PG (bp X scope Nc C s H ex) tg g) (ht:∀C s H ex,tK (bp X scope Nc C s H ex) ifs c) (he:∀C s H ex,PE (bp X scope Nc C s H ex) elt te) (I:Inv X pins σ H s) (h:uf wi fr g c te σ H Q)
 (fin:∀(l C:Addr) (s6:Shared) (H5:Hp) (m:Str->Option Value),s6.heap.Ns C m->ka X pins H5 C->Inv X pins σ H5 s6->Q (.ref l) H5->RR (.ref l) C (.ok .next) s6):
 wpAny (model X.prog X.w) X.A (eval iter X.env) (λ x s₁=>wpAny (model X.prog X.w) X.A (pyIter x) (λ it s₂=>wpAny (model X.prog X.w) X.A (newList []) (λ acc s₃=>
  wpAny (model X.prog X.w) X.A (newFunctionEnv scope X.env.globals (cS X.env.cells scope.names []) [] X.env.qual none .none (some X.env)) (λ cenv s₄=>
   codeAny (model X.prog X.w) X.A (.compStart (.ListComp elt [⟨tg,iter,ifs,0⟩] scope pos) 0 it acc {cenv with scope:=relabel scope X.env}) (RR acc cenv.locals) s₄) X.xe s₃) X.xe s₂) X.xe s₁) X.xe s:=by
 refine bI (hi pins s σ H _ I h) λ v s1 h1=>bI h1 λ itv s2 h2=>?_;obtain⟨it,fp,tn,J,H2,e,I2,T,st2,f2,hR⟩:=h2;subst e;refine wpAny_newList ?_ (Wg _);have I3:=I2.Kc (t':=s2.toks) (aj:=[]) (ys:=[]) .nil (Wg _);generalize e3:({s2 with heap:=s2.heap.push {cls:= .type "list",data:= .seq ([]:List Value).toArray}}:Shared)=s3;have I3:Inv X pins σ (upd H2 s2.heap.objs.size (.lst [])) s3:=by rw[<-e3];exact I3
 have ml:s2.heap.objs.size<s3.heap.objs.size:=by rw[<-e3];show _<(s2.heap.push _).objs.size;rw[Xh];omega
 have k3:∀b o,s2.heap.get? b=some o->s3.heap.get? b=some o:=λ b o q=>by rw[<-e3];exact VY _ q
 obtain⟨W,⟨m0,w0⟩,turn⟩:=hR s2.heap.objs.size (I2.aC.fresh (VQ _));refine vo ?_;have hn:(pushCells (s3.heap.push {cls:= .type "dict",data:= .dict #[]}) scope.names).Ns s3.heap.objs.size (λ _=>none):=(Heap.Ns.new s3.heap (.type "dict")).keeps (pushCells_keeps _ _);have hcs:∀x c,(x,c)∈cellsFrom (s3.heap.objs.size+1) scope.names []->(pushCells (s3.heap.push {cls:= .type "dict",data:= .dict #[]}) scope.names).IsCell c none:=λ x c h=>((Pm scope.names _ (Xh ..)).empty x c h).1;have k4:∀b o,s3.heap.get? b=some o->(pushCells (s3.heap.push {cls:= .type "dict",data:= .dict #[]}) scope.names).get? b=some o:=λ b o q=>pushCells_keeps _ _ b o (VY _ q);generalize(pushCells (s3.heap.push {cls:= .type "dict",data:= .dict #[]}) scope.names)=h' at hn hcs k4⊢;have hobj:∀b∈fp,∃o,s2.heap.get? b=some o/\∀v,o.data≠ .cell v:=T.obj _ _ st2;have hlt2:∀b∈fp,b<s3.heap.objs.size:=λ b hb=>let⟨o,q,_⟩:=hobj b hb;Wd (k3 b o q)
 have hnl:∀b∈fp,b≠s2.heap.objs.size:=λ b hb=>by
  obtain⟨o,q,_⟩:=hobj b hb;exact Wy (Wd q)
 have f3:∀b∈fp,ka X pins (upd H2 s2.heap.objs.size (.lst [])) b:=λ b hb=>⟨by rw[ay (hnl b hb)];exact(f2 b hb).1,(f2 b hb).2⟩
 have ok:=Q5 (C:=s3.heap.objs.size) (fp:=fp) S I3 rfl f3 hlt2 λ b hb=>(f2 b hb).2.2.2.2.1
 have I4:Inv (bp X scope Nc s3.heap.objs.size s3 (upd H2 s2.heap.objs.size (.lst [])) fp) [] (σC fr σ) (upd H2 s2.heap.objs.size (.lst [])) {s3 with heap:=h',toks:=s3.toks}:=
  K6 (s':=s3) S I3 rfl ok (λ b hb=>(f3 b hb).1) k4 hn hcs
 have st4:tn 0 h':=T.keep _ _ _ st2 λ b _ o q=>k4 b o (k3 b o q);generalize hXc:bp X scope Nc s3.heap.objs.size s3 (upd H2 s2.heap.objs.size (.lst [])) fp=Xc at I4;have hgc:PG Xc tg g:=by rw[<-hXc];exact hg _ _ _ _
 have htc:tK Xc ifs c:=by rw[<-hXc];exact ht _ _ _ _
 have hec:PE Xc elt te:=by rw[<-hXc];exact he _ _ _ _
 have xP:Xc.prog=X.prog:=by rw[<-hXc];rfl
 have xW:Xc.w=X.w:=by rw[<-hXc];rfl
 have xK:Xc.K=X.K:=by rw[<-hXc];rfl
 have xc:Xc.calm=true:=by rw[<-hXc];exact hc
 have xA:Xc.A=X.A:=by rw[<-hXc];rfl
 have xE:Xc.env=compEnvC scope (k6 scope s3.heap.objs.size (cS X.env.cells scope.names [])) s3.heap.objs.size X.env:=by rw[<-hXc];rfl
 have xx:Xc.xe=λ _ _=>False:=by rw[<-hXc];rfl
 have fpc:∀ {H':Hp},(∀b∈fp,H' b=none)->∀b∈fp,ka Xc [] H' b:=λ{H'} hn b hb=>by
  rw[<-hXc];refine⟨hn b hb,Wy (hlt2 b hb),ok.vt b hb,.inl hb,(ok.Jg b hb).2,λ p hp=>by cases hp⟩
 have loop:codeAny (model X.prog X.w) X.A (.compLoop (.ListComp elt [⟨tg,iter,ifs,0⟩] scope pos) 0 (.ref it) (.ref s2.heap.objs.size) (compEnvC scope (k6 scope s3.heap.objs.size (cS X.env.cells scope.names [])) s3.heap.objs.size X.env))
  (RR (.ref s2.heap.objs.size) s3.heap.objs.size) {s3 with heap:=h',toks:=s3.toks}:=by
  refine Dw (λ n s'=>∃i σ' H',Inv Xc [] σ' H' s'/\tn i s'.heap/\(∀b∈fp,H' b=none)/\W i n σ' H') ?_ m0 ⟨0,_,_,I4,st4,λ b hb=>(f3 b hb).1,w0⟩;rintro n s5 ⟨i,σ5,H5,I5,st5,fr5,w5⟩;rcases turn i n σ5 H5 w5 with⟨stop,qn⟩|⟨go,N,hN,step⟩
  . have q:=T.done Xc xP xW xK xc i [] s5 σ5 H5 (λ _ _=>False) I5 (fpc fr5) st5 stop;rw[xA]at q;refine bI q λ r s6 ⟨hr,I6⟩=>?_;subst hr;obtain⟨m,hm,_⟩:=I6.loc;rw[xE]at hm;have free6:H5 s3.heap.objs.size=none:=by have:=I6.free;rw[xE]at this;exact this
    have un6:Un (pA X.stack) fp (upd H2 s2.heap.objs.size (.lst [])) H5 s3.heap s6.heap:=by have:=I6.base;rw[<-hXc]at this;exact this
    have os6:s6.os=s3.os:=by have:=I6.os;rw[<-hXc]at this;exact this
    have hok6:gK X.prog X.w H5 s6.heap:=by have:=I6.aC;rw[xP,xW]at this;exact this
    have J:=I3.GJ (s':=s6) (ch:=fp) os6 un6 hok6 I6.bare λ b hb=>⟨(f3 b hb).2.2.2.1,(f3 b hb).2.1,(f3 b hb).2.2.2.2.1,(f3 b hb).2.2.2.2.2⟩
    exact fin _ _ s6 H5 m hm (I3.xZ (VQ _) free6) J qn
  . have q:=T.item Xc xP xW xK xc i [] s5 σ5 H5 (λ _ _=>False) I5 (fpc fr5) st5 go;rw[xA]at q;refine bI q λ r s6 ⟨u,hr,h6⟩=>?_;subst hr;refine bI h6 λ _ s7 ⟨x,H7,I7,r7,y7,st7,fr7⟩=>?_;have I7':=I7.pinned (fpc fr7) (T.obj _ _ st7);have q8:=hgc _ s7 σ5 H7 x u _ I7' r7 (step x H7 y7);rw[xP,xW,xA,xE,xx]at q8;refine bI q8 λ _ s8 ⟨σ8,H8,I8,q8⟩=>?_;have q9:=htc _ s8 σ8 H8 _ I8 q8;rw[xP,xW,xA,xE,xx]at q9;refine bI q9 λ b s9 ⟨H9,I9,q9⟩=>?_
    have again:∀ {H':Hp} {s':Shared},Inv Xc ([]++tR fp s7.heap) σ8 H' s'->N σ8 H'->∃m,m<n/\∃i σ' H',Inv Xc [] σ' H' s'/\tn i s'.heap/\(∀b∈fp,H' b=none)/\W i m σ' H':=λ{H' s'} J nn=>by
     obtain⟨m',hm,w7⟩:=hN σ8 H' nn;refine⟨m',hm,i+1,σ8,H',J.gG,T.keep _ _ _ st7 λ b hb o e=>(J.pin (b,o) (Wo _ (Wo _ (mL hb e)))).1,λ b hb=>?_,w7⟩;obtain⟨o,e,d⟩:=T.obj _ _ st7 b hb;exact(J.pin (b,o) (Wo _ (Wo _ (mL hb e)))).2.1
    cases b with
    |false=>exact again I9 q9
    |true=>
     have qe:=hec _ s9 σ8 H9 _ I9 q9;rw[xP,xW,xA,xE,xx]at qe;refine bI qe λ y s10 ⟨vy,H10,I10,ry,ys,hy,hlt,qN⟩=>?_;have qa:=zf (X:=Xc) _ s10 σ8 H10 (.ref s2.heap.objs.size) [vy] (.ref s2.heap.objs.size) [y] (λ _ H'=>N σ8 H') I10 rfl (.cons ry .nil) ⟨_,ys,vy,rfl,rfl,hy,hlt,qN⟩;rw[xP,xW,xA,xx]at qa;exact bI qa λ _ s11 ⟨_,H11,I11,_,q11⟩=>again I11 q11
 refine codeAny_compStart_list ?_ ?_
 . exact loop
 . exact T.self _ 0 _ _ _ st4 loop
theorem D8{g:TG}(hx:X.xe=λ _ _=>False)(hc:X.calm=true)(S:cA X scope Nc fr)(hi:PI X tg iter wi)
 (hg:∀C s H ex,PG (bp X scope Nc C s H ex) tg g) (ht:∀C s H ex,tK (bp X scope Nc C s H ex) ifs c) (he:∀C s H ex,PE (bp X scope Nc C s H ex) elt te)
 (hs:∀x,foldedSetIterable iter X.env x=pure x:=by intro _;rfl):PE X (.ListComp elt [⟨tg,iter,ifs,0⟩] scope pos) (uf wi fr g c te):=by
 intro pins s σ H Q I h;rw[eval_ListComp];have hcl:closureFor scope X.env=pure (cS X.env.cells scope.names []):=lE λ x hx hk=>I.ok.has x.1 (S.free x hx hk);refine wpAny_comprehension_free rfl hs hcl S.kind S.names ?_;exact xQ (RR:=λ acc C=>compPost (model X.prog X.w) X.A X.xe none (EP X pins σ Q) acc C) hx hc S hi hg ht he I h λ l C s6 H5 m hm f J q=>⟨m,hm,λ h'' hs''=>⟨.ref l,H5,Inv.forget J f hs'',rfl,q⟩⟩
theorem Eo{g:TG}(hx:X.xe=λ _ _=>False)(hc:X.calm=true)(S:cA X scope Nc fr)(hi:PI X tg iter wi)
 (hg:∀C s H ex,PG (bp X scope Nc C s H ex) tg g) (ht:∀C s H ex,tK (bp X scope Nc C s H ex) ifs c) (he:∀C s H ex,PE (bp X scope Nc C s H ex) elt te) (hN:X.N.Nodup) (hni:X.N[i]?=some x) (hl:Loc X.env.scope x) (hf:X.fn x=true\/X.env.scope.names.lookup x=some .local)
 (hsw:swapsWith (.ListComp elt [⟨tg,iter,ifs,0⟩] scope pos) (some (.Name x pos')) spos.line X.env=pure true)
 (hs:∀x,foldedSetIterable iter X.env x=pure x:=by intro _;rfl):PS X (.Assign [.Name x pos'] (.ListComp elt [⟨tg,iter,ifs,0⟩] scope pos) spos) (kv (uf wi fr g c te) (kP i)):=by
 intro pins s σ H D I h;have hcl:closureFor scope X.env=pure (cS X.env.cells scope.names []):=lE λ x hx hk=>I.ok.has x.1 (S.free x hx hk);rw[exec_Assign_Name_used _ _ _ _ hsw];refine VR (ZS (VR ?_));show wpAny _ X.A (do let _ <-comprehension (.ListComp elt [⟨tg,iter,ifs,0⟩] scope pos) scope X.env _ (newList []) false (eval iter X.env) (some (assign (.Name x pos') X.env))) _ _ s
 refine VR (XC (wpAny_comprehension_free (use:=some (assign (.Name x pos') X.env)) (Q:=λ _ s'=>SP X pins D .next s') rfl hs hcl S.kind S.names
  (xQ (RR:=λ acc C=>compPost (model X.prog X.w) X.A X.xe (some (assign (.Name x pos') X.env)) (λ _ s'=>SP X pins D .next s') acc C) hx hc S hi hg ht he I h λ l C s6 H5 m hm f J q=>?_)) (λ _ s' hq=>V8 (V8 hq)) λ _ _ e=>e)
 show wpAny _ X.A (assign (.Name x pos') X.env (.ref l)) _ _ _;refine wpAny_assign_Name (yR J hN hni hl (show RelV (.ref l) (.ref l)from rfl) (λ s7 J7 hch=>?_) hf);obtain⟨a,hsame,ha⟩:=hch
 have hCa:C≠a:=by
  rcases ha with rfl|ha
  . exact f.2.1
  . exact λ z=>f.2.2.2.2.1 x a ha z.symm
 refine⟨m,hm.sameBut hsame hCa,λ h'' hs''=>⟨σ.set i (some (.ref l)),H5,Inv.forget J7 f hs'',q⟩⟩
end
inductive D where
 |ao|bl (b:Bool)|int (i:Int)|str (x:Str)|ty (n:String)|ref (n:Nat)|lst (xs:List D)|tup (xs:List D)
inductive Cell where
 |lst (xs:List D)|ins (C:Addr) (fs:List (Str×D))|dead
  |tab (P:Addr) (pos:Pos) (qual:Str) (b:Bool)
abbrev ae:=List Cell
abbrev bo:=List (Option D)
mutual
def Rep(α:List (Option Addr))(H:Hp):D->V->Prop
 | .ao,v=>v= .ao
 | .bl b,v=>v= .bl b
 | .int i,v=>v= .int i
 | .str x,v=>v= .str x
 | .ty n,v=>v= .ty n
 | .ref n,v=>α[n]?=some none\/∃a,α[n]?=some (some a)/\v= .ref a
 | .lst xs,v=>∃a vs,v= .ref a/\some a∉α/\Rd H a (.lst vs)/\aD α H xs vs
 | .tup xs,v=>∃a vs,v= .ref a/\some a∉α/\H a=some (.tup vs)/\aD α H xs vs
def aD(α:List (Option Addr))(H:Hp):List D->List V->Prop
 | [],vs=>vs=[]
 |d::ds,vs=>∃v r,vs=v::r/\Rep α H d v/\aD α H ds r
end
theorem aV:∀ {ds:List D} {vs:List V},aD α H ds vs↔Paired (Rep α H) ds vs
 | [],vs=>by
   unfold aD;constructor
   . rintro rfl;exact .nil
   . intro h;cases h;rfl
 |d::ds,vs=>by
  unfold aD;constructor
  . rintro⟨v,r,rfl,h1,h2⟩;exact .cons h1 (aV.mp h2)
  . intro h;cases h with|cons h1 h2=>exact⟨_,_,rfl,h1,aV.mpr h2⟩
section
variable {α:List (Option Addr)}{H:Hp}
theorem aD.length(h:aD α H ds vs):ds.length=vs.length:=Paired.length (aV.mp h)
theorem wd{A B:Type}{F:A->B->Prop}:∀ {xs:List A} {ys:List B} {i:Nat} {x:A},Paired F xs ys->xs[i]?=some x->∃y,ys[i]?=some y/\F x y
 |_,_,_,_,.nil,e=>by simp at e
 |_,_,0,_,.cons r _,e=>by simp at e;subst e;exact⟨_,rfl,r⟩
 |_,_,i+1,x,.cons _ t,e=>by
  obtain⟨u,h1,h2⟩:=wd (i:=i) (x:=x) t (by simpa using e);exact⟨u,by simpa using h1,h2⟩
theorem fD{A B:Type}{F:A->B->Prop}:∀ {xs xs':List A} {ys ys':List B},Paired F xs ys->Paired F xs' ys'->Paired F (xs++xs') (ys++ys')
 |_,_,_,_,.nil,s=>s
 |_,_,_,_,.cons r t,s=> .cons r (fD t s)
theorem u9{A B:Type}{F:A->B->Prop}:∀ {xs:List A} {ys:List B} (n:Nat),Paired F xs ys->Paired F (xs.take n) (ys.take n)
 |_,_,0,_=> .nil
 |_,_,_+1,.nil=> .nil
 |_,_,n+1,.cons r t=> .cons r (u9 n t)
theorem uX{A B:Type}{F:A->B->Prop}:∀ {xs:List A} {ys:List B} (n:Nat),Paired F xs ys->Paired F (xs.drop n) (ys.drop n)
 |_,_,0,r=>r
 |_,_,_+1,.nil=> .nil
 |_,_,n+1,.cons _ t=>uX n t
theorem qx{A B:Type}{F:A->B->Prop}{x:A}{y:B}(r:F x y):∀ {xs:List A} {ys:List B} (i:Nat),Paired F xs ys->Paired F (xs.set i x) (ys.set i y)
 |_,_,_,.nil=> .nil
 |_,_,0,.cons _ t=> .cons r t
 |_,_,i+1,.cons q t=> .cons q (qx r i t)
theorem kK{A B:Type}{F:A->B->Prop}{xs:List A}{ys:List B}(h:Paired F xs ys):∀k:Nat,Paired F (List.replicate k xs).flatten (List.replicate k ys).flatten
 |0=> .nil
 |k+1=>by
  rw[WX,WX,Xv,Xv];exact fD h (kK h k)
theorem aD.get{ds:List D}{vs:List V}{i:Nat}{d:D}(h:aD α H ds vs)(e:ds[i]?=some d):∃v,vs[i]?=some v/\Rep α H d v:=wd (aV.mp h) e
end
structure Step(α:List (Option Addr))(H:Hp)(α':List (Option Addr))(H':Hp):Prop where
 ext:∀b o,some b∉α->H b=some o->H' b=some o
 pre:∀(n:Nat) (x:Option Addr),α[n]?=some x->α'[n]?=some x\/α'[n]?=some none
 new:∀b,some b∈α'->some b∉α->H b=none
theorem Step.refl:Step α H α H:=⟨λ _ _ _ h=>h,λ _ _ h=> .inl h,λ _ h n=>absurd h n⟩
theorem Step.trans(a:Step α H α1 H1)(b:Step α1 H1 α2 H2):Step α H α2 H2 where
 ext:=λ c o hc e=>b.ext c o (λ z=>by rw[a.new c z hc]at e;cases e) (a.ext c o hc e)
 pre:=λ n x e=>by
  rcases a.pre n x e with h|h
  . exact b.pre n x h
  . rcases b.pre n none h with h'|h'
    . exact .inr h'
    . exact .inr h'
 new:=λ c hc n=>by
  by_cases h1:some c∈α1
  . exact a.new c h1 n
  . have:=b.new c hc h1;cases q:H c with
    |none=>rfl
    |some o=>rw[a.ext c o n q]at this;cases this
theorem Step.laid(h:H p=none):Step α H α (upd H p o):=
 ⟨λ b u _ e=>by rw[ay (cV e h)];exact e,λ _ _ h=> .inl h,λ _ h n=>absurd h n⟩
theorem Step.cell(h:H p=none):Step α H (α++[some p]) (upd H p o):=
 ⟨λ b u _ e=>by rw[ay (cV e h)];exact e,λ n x e=> .inl (by rw[VZ (VV.mp e).1];exact e),λ b hb n=>by
  rcases Wf.mp hb with z|z
  . exact absurd z n
  . have:b=p:=by simpa using z
    subst this;exact h⟩
theorem Step.write(h:some p∈α):Step α H α (upd H p o):=
 ⟨λ b u n e=>by rw[ay (λ z=>by subst z;exact n h)];exact e,λ _ _ h=> .inl h,λ _ h n=>absurd h n⟩
theorem Step.eJ:Step α H (α.set n none) H:=
 ⟨λ _ _ _ h=>h,λ m x e=>by
  by_cases hm:n=m
  . subst hm;exact .inr (V7 (VV.mp e).1)
  . exact .inl (by rw[VW hm];exact e),λ b hb hn=>by
  rcases WI hb with z|z
  . exact absurd z hn
  . cases z⟩
mutual
theorem Rep.step(s:Step α H α' H'):∀ {d:D} {v:V},Rep α H d v->Rep α' H' d v
 | .ao,_,h=>by unfold Rep at h⊢;exact h
 | .bl _,_,h=>by unfold Rep at h⊢;exact h
 | .int _,_,h=>by unfold Rep at h⊢;exact h
 | .str _,_,h=>by unfold Rep at h⊢;exact h
 | .ty _,_,h=>by unfold Rep at h⊢;exact h
 | .ref n,_,h=>by
   unfold Rep at h⊢;rcases h with h|⟨a,e,r⟩
   . rcases s.pre _ _ h with z|z<;>exact .inl z
   . rcases s.pre _ _ e with z|z
     . exact .inr ⟨a,z,r⟩
     . exact .inl z
 | .lst xs,_,h=>by
   unfold Rep at h⊢;obtain⟨a,vs,e,n,r,q⟩:=h;refine⟨a,vs,e,λ z=>?_,?_,aD.step s q⟩
   . have:=s.new a z n;rcases r with r|⟨o,r⟩<;>(rw[this]at r;cases r)
   . rcases r with r|⟨o,r⟩
     . exact .inl (s.ext _ _ n r)
     . exact .inr ⟨o,s.ext _ _ n r⟩
 | .tup xs,_,h=>by
   unfold Rep at h⊢;obtain⟨a,vs,e,n,r,q⟩:=h;exact⟨a,vs,e,(λ z=>by rw[s.new a z n]at r;exact nomatch r),s.ext _ _ n r,aD.step s q⟩
theorem aD.step(s:Step α H α' H'):∀ {ds:List D} {vs:List V},aD α H ds vs->aD α' H' ds vs
 | [],_,h=>by unfold aD at h⊢;exact h
 |d::ds,_,h=>by
  unfold aD at h⊢;obtain⟨v,r,e,h1,h2⟩:=h;exact⟨v,r,e,Rep.step s h1,aD.step s h2⟩
end
structure bQ(G F H:Hp):Prop where
 eq:∀b,H b=(G b).or (F b)
 Dh:∀b o,G b=some o->F b=none
section
variable {G F H:Hp}
theorem bQ.get(P:bQ G F H)(h:G b=some o):H b=some o:=by rw[P.eq b,h];rfl
theorem bQ.same(P:bQ G F H):Kz G H:=λ _ _ h=>P.get h
theorem bQ.none(P:bQ G F H)(h:H b=none):G b=none/\F b=none:=by
 have e:=P.eq b;rw[h]at e;cases q:G b with
 |none=>rw[q]at e;exact⟨rfl,e.symm⟩
 |some o=>rw[q]at e;cases e
theorem bQ.frame(P:bQ G F H)(h:F b=some o):H b=some o/\G b=Option.none:=by
 have hn:G b=Option.none:=by
  cases q:G b with
  |none=>rfl
  |some u=>rw[P.Dh b u q]at h;cases h
 exact⟨by rw[P.eq b,hn,h];rfl,hn⟩
theorem bQ.laid(P:bQ G F H)(h:H p=Option.none):bQ (upd G p o) F (upd H p o):=by
 obtain⟨h1,h2⟩:=P.none h;refine⟨λ b=>?_,λ b u e=>?_⟩
 . by_cases hb:b=p
   . subst hb;rw[aS,aS];rfl
   . rw[ay hb,ay hb];exact P.eq b
 . by_cases hb:b=p
   . subst hb;exact h2
   . rw[ay hb]at e;exact P.Dh b u e
theorem bQ.write(P:bQ G F H)(h:G p=some o):bQ (upd G p o') F (upd H p o'):=by
 refine⟨λ b=>?_,λ b u e=>?_⟩
 . by_cases hb:b=p
   . subst hb;rw[aS,aS];rfl
   . rw[ay hb,ay hb];exact P.eq b
 . by_cases hb:b=p
   . subst hb;exact P.Dh b o h
   . rw[ay hb]at e;exact P.Dh b u e
theorem bQ.hide(P:bQ G F H)(h:H p=Option.none):bQ G (upd F p o) (upd H p o):=by
 obtain⟨h1,h2⟩:=P.none h;refine⟨λ b=>?_,λ b u e=>?_⟩
 . by_cases hb:b=p
   . subst hb;rw[aS,aS,h1];rfl
   . rw[ay hb,ay hb];exact P.eq b
 . by_cases hb:b=p
   . subst hb;rw[h1]at e;cases e
   . rw[ay hb];exact P.Dh b u e
theorem bQ.Vr(P:bQ G F H)(h:F p=some o):bQ G (upd F p o') (upd H p o'):=by
 have h1:=(P.frame h).2;refine⟨λ b=>?_,λ b u e=>?_⟩
 . by_cases hb:b=p
   . subst hb;rw[aS,aS,h1];rfl
   . rw[ay hb,ay hb];exact P.eq b
 . by_cases hb:b=p
   . subst hb;rw[h1]at e;cases e
   . rw[ay hb];exact P.Dh b u e
theorem bQ.show(P:bQ G (upd F p o) H)(h:F p=Option.none):bQ (upd G p o) F H:=by
 have h1:=(P.frame (b:=p) aS)
 refine⟨λ b=>?_,λ b u e=>?_⟩
 . by_cases hb:b=p
   . subst hb;rw[aS,h1.1];rfl
   . rw[ay hb,P.eq b,ay hb]
 . by_cases hb:b=p
   . subst hb;exact h
   . rw[ay hb]at e;have:=P.Dh b u e;rw[ay hb]at this;exact this
end
mutual
theorem Rep.mono(s:Kz G H):∀ {d:D} {v:V},Rep α G d v->Rep α H d v
 | .ao,_,h=>by unfold Rep at h⊢;exact h
 | .bl _,_,h=>by unfold Rep at h⊢;exact h
 | .int _,_,h=>by unfold Rep at h⊢;exact h
 | .str _,_,h=>by unfold Rep at h⊢;exact h
 | .ty _,_,h=>by unfold Rep at h⊢;exact h
 | .ref n,_,h=>by unfold Rep at h⊢;exact h
 | .lst xs,_,h=>by
   unfold Rep at h⊢;obtain⟨a,vs,e,n,r,q⟩:=h;refine⟨a,vs,e,n,?_,aD.mono s q⟩;rcases r with r|⟨o,r⟩
   . exact .inl (s _ _ r)
   . exact .inr ⟨o,s _ _ r⟩
 | .tup xs,_,h=>by
   unfold Rep at h⊢;obtain⟨a,vs,e,n,r,q⟩:=h;exact⟨a,vs,e,n,s _ _ r,aD.mono s q⟩
theorem aD.mono(s:Kz G H):∀ {ds:List D} {vs:List V},aD α G ds vs->aD α H ds vs
 | [],_,h=>by unfold aD at h⊢;exact h
 |d::ds,_,h=>by
  unfold aD at h⊢;obtain⟨v,r,e,h1,h2⟩:=h;exact⟨v,r,e,Rep.mono s h1,aD.mono s h2⟩
end
def je(α:List (Option Addr))(H:Hp):List (Str×D)->List (Str×V)->Prop:=Paired λ p q=>p.1=q.1/\Rep α H p.2 q.2
def jV(α:List (Option Addr))(H:Hp)(a:Addr):Cell->Prop
 | .lst xs=>∃vs,H a=some (.lst vs)/\aD α H xs vs
 | .ins C fs=>∃dx vs,H a=some (.ins C dx vs)/\je α H fs vs
 | .dead=>False
 | .tab P pos qual b=>a=P/\∃ps:Array Value,H a=some (.jB ps)/\TriplesOk ps.toList/\
    ((b=false/\codeAmong pos ps.toList=none)\/(b=true/\∃c o vs t,codeAmong pos ps.toList=some (.ref c)/\some c∉α/\H c=some (.eJ o (.own c))/\o.data= .fields vs/\vs[1]?=some (.str qual t)))
structure aJ(α:List (Option Addr))(st:ae)(H:Hp):Prop where
 len:α.length=st.length
 nd:∀(i j:Nat) (a:Addr),α[i]?=some (some a)->α[j]?=some (some a)->i=j
 at':∀(n:Nat) (c:Cell),st[n]?=some c->(c= .dead/\α[n]?=some none)\/∃a,α[n]?=some (some a)/\jV α H a c
theorem je.step(s:Step α H α' H')(h:je α H ds vs):je α' H' ds vs:=Paired.K7 h λ _ _ z=>⟨z.1,z.2.step s⟩
theorem jV.same(s:Step α H α' H')(e:H' a=H a)(h:jV α H a c):jV α' H' a c:=by
 cases c with
 |lst xs=>obtain⟨vs,h1,h2⟩:=h;exact⟨vs,e.trans h1,h2.step s⟩
 |ins C fs=>obtain⟨dx,vs,h1,h2⟩:=h;exact⟨dx,vs,e.trans h1,h2.step s⟩
 |dead=>exact h.elim
 |tab P pos qual b=>
  obtain⟨z,ps,h1,h2,h3⟩:=h;refine⟨z,ps,e.trans h1,h2,?_⟩;rcases h3 with h3|⟨hb,c,o,vs,t,q1,q2,q3,q4⟩
  . exact .inl h3
  . exact .inr ⟨hb,c,o,vs,t,q1,(λ y=>by rw[s.new c y q2]at q3;cases q3),s.ext c _ q2 q3,q4⟩
theorem jV.some(h:jV α H a c):∃o,H a=some o:=by
 cases c with
 |lst xs=>obtain⟨vs,h1,h2⟩:=h;exact⟨_,h1⟩
 |ins C fs=>obtain⟨dx,vs,h1,h2⟩:=h;exact⟨_,h1⟩
 |dead=>exact h.elim
 |tab P pos qual b=>obtain⟨_,ps,h1,_⟩:=h;exact⟨_,h1⟩
theorem dh{α:List (Option Addr)}{H:Hp}{n:Nat}{v:V}{a:Addr}(e:α[n]?=Option.some (Option.some a))(r:Rep α H (.ref n) v):v= .ref a:=by
 unfold Rep at r;rcases r with r|⟨b,eb,rfl⟩
 . rw[e]at r;cases r
 . rw[e]at eb;cases eb;rfl
section
variable {α:List (Option Addr)}{st:ae}{H:Hp}
theorem aJ.eV(S:aJ α st H){n:Nat}{xs:List D}(e:st[n]?=Option.some (.lst xs)):∃a,α[n]?=Option.some (Option.some a)/\∃vs,H a=Option.some (.lst vs)/\aD α H xs vs:=by
 rcases S.at' n _ e with⟨z,_⟩|z
 . cases z
 . exact z
theorem aJ.AO(S:aJ α st H){n:Nat}{C:Addr}{fs:List (Str×D)}(e:st[n]?=Option.some (.ins C fs)):∃a,α[n]?=Option.some (Option.some a)/\∃dx vs,H a=Option.some (.ins C dx vs)/\je α H fs vs:=by
 rcases S.at' n _ e with⟨z,_⟩|z
 . cases z
 . exact z
theorem aJ.mem(S:aJ α st H)(h:Option.some a∈α):∃(n:Nat) (c:Cell),α[n]?=Option.some (Option.some a)/\st[n]?=Option.some c/\jV α H a c:=by
 obtain⟨n,hn,e⟩:=Wt.mp h;have hl:n<st.length:=by rw[<-S.len];exact hn
 have e':α[n]?=Option.some (Option.some a):=by rw[V0 hn,e]
 rcases S.at' n st[n] (by simp[hl])with⟨_,q⟩|⟨a',q,ca⟩
 . rw[e']at q;cases q
 . rw[e']at q;cases q;exact⟨n,_,e',by simp[hl],ca⟩
theorem aJ.jW(S:aJ α st H)(h:H p=none):Option.some p∉α:=λ z=>by
 obtain⟨n,c,_,_,ca⟩:=S.mem z;obtain⟨o,e⟩:=ca.some;rw[h]at e;cases e
theorem aJ.laid(S:aJ α st H)(h:H p=none):aJ α st (upd H p o):=
 ⟨S.len,S.nd,λ n c e=>by
  rcases S.at' n c e with z|⟨a,q,ca⟩
  . exact .inl z
  . exact .inr ⟨a,q,ca.same (Step.laid h) (ay (by obtain⟨u,z⟩:=ca.some;exact cV z h))⟩⟩
theorem aJ.cell(S:aJ α st H)(h:H p=none)(hc:jV (α++[Option.some p]) (upd H p o) p c):aJ (α++[Option.some p]) (st++[c]) (upd H p o) where
 len:=by rw[V3,V3,S.len];rfl
 nd:=λ i j a ei ej=>by
  have key:∀(i:Nat) (a:Addr),(α++[Option.some p])[i]?=Option.some (Option.some a)->(i<α.length/\α[i]?=Option.some (Option.some a))\/(i=α.length/\a=p):=by
   intro i a e;by_cases hi:i<α.length
   . rw[VZ hi]at e;exact .inl ⟨hi,e⟩
   . rw[Wu (WD hi)]at e
     have h0:i-α.length=0:=by
      cases q:i-α.length with
      |zero=>rfl
      |succ k=>rw[q]at e;simp at e
     rw[h0]at e;have:p=a:=by simpa using e
     exact .inr ⟨by omega,this.symm⟩
  rcases key i a ei with⟨h1,e1⟩|⟨h1,e1⟩<;>rcases key j a ej with⟨h2,e2⟩|⟨h2,e2⟩
  . exact S.nd i j a e1 e2
  . subst e2;exact absurd (Wa e1) (S.jW h)
  . subst e1;exact absurd (Wa e2) (S.jW h)
  . omega
 at':=λ n d e=>by
  by_cases hn:n<st.length
  . rw[VZ hn]at e;have hl:n<α.length:=by rw[S.len];exact hn
    rcases S.at' n d e with⟨z,q⟩|⟨a,q,ca⟩
    . exact .inl ⟨z,by rw[VZ hl];exact q⟩
    . exact .inr ⟨a,by rw[VZ hl];exact q,ca.same (Step.cell h) (ay (by obtain⟨u,z⟩:=ca.some;exact cV z h))⟩
  . rw[Wu (WD hn)]at e
    have h0:n-st.length=0:=by
     cases q:n-st.length with
     |zero=>rfl
     |succ k=>rw[q]at e;simp at e
    rw[h0]at e;have hd:c=d:=by simpa using e
    subst hd;refine .inr ⟨p,?_,hc⟩;rw[Wu (by rw[S.len];exact WD hn),S.len,h0];rfl
theorem aJ.write(S:aJ α st H)(e:α[n]?=Option.some (Option.some p))(hc:jV α (upd H p o) p c):aJ α (st.set n c) (upd H p o) where
 len:=by rw[Wb];exact S.len
 nd:=S.nd
 at':=λ m d q=>by
  have hp:Option.some p∈α:=Wa e;by_cases hm:m=n
  . subst hm
    have hl:m<st.length:=by
     have:=(VV.mp q).1;rw[Wb]at this;exact this
    rw[V7 hl]at q;cases q;exact .inr ⟨p,e,hc⟩
  . rw[VW (V6 hm)]at q;rcases S.at' m d q with z|⟨a,r,ca⟩
    . exact .inl z
    . refine .inr ⟨a,r,ca.same (Step.write hp) (ay λ z=>?_)⟩;subst z;exact hm (S.nd m n _ r e)
theorem aJ.eJ(S:aJ α st H)(hn:n<st.length):aJ (α.set n none) (st.set n .dead) H where
 len:=by rw[Wb,Wb];exact S.len
 nd:=λ i j a ei ej=>by
  have key:∀(i:Nat),(α.set n none)[i]?=Option.some (Option.some a)->α[i]?=Option.some (Option.some a):=by
   intro i e;by_cases hi:n=i
   . subst hi;rw[V7 (by rw[S.len];exact hn)]at e;cases e
   . rw[VW hi]at e;exact e
  exact S.nd i j a (key i ei) (key j ej)
 at':=λ m d q=>by
  by_cases hm:n=m
  . subst hm;rw[V7 hn]at q;cases q;exact .inl ⟨rfl,V7 (by rw[S.len];exact hn)⟩
  . rw[VW hm]at q;rcases S.at' m d q with⟨z,r⟩|⟨a,r,ca⟩
    . exact .inl ⟨z,by rw[VW hm];exact r⟩
    . exact .inr ⟨a,by rw[VW hm];exact r,ca.same Step.eJ rfl⟩
theorem aJ.Ex(S:aJ α st H){n:Nat}{xs:List D}{v:V}(e:st[n]?=Option.some (.lst xs))(r:Rep α H (.ref n) v):Rep (α.set n none) H (.lst xs) v:=by
 obtain⟨a,ea,vs,h1,h2⟩:=S.eV e;have:=dh ea r;subst this;unfold Rep;refine⟨a,vs,rfl,λ z=>?_,.inl h1,h2.step Step.eJ⟩;obtain⟨m,hm,em⟩:=Wt.mp z;have em':(α.set n none)[m]?=Option.some (Option.some a):=by rw[V0 hm,em]
 by_cases hx:n=m
 . subst hx;rw[V7 (VV.mp ea).1]at em';cases em'
 . rw[VW hx]at em';exact hx (S.nd n m a ea em')
end
abbrev DK:=D->ae->Prop
abbrev DE:=bo->ae->DK->Prop
abbrev DT:=bo->ae->(Bool->ae->Prop)->Prop
abbrev DA:=bo->ae->(List D->ae->Prop)->Prop
structure kG where
 nx:bo->ae->Prop
 rt:DK
 bk:bo->ae->Prop:=λ _ _=>False
 ct:bo->ae->Prop:=λ _ _=>False
abbrev DS:=kG->bo->ae->Prop
structure dm(α:List (Option Addr))(H:Hp)(σd:bo)(σ:L2.St):Prop where
 len:σd.length=σ.length
 at':∀(i:Nat) (d:D),σd[i]?=some (some d)->∃v,σ[i]?=some (some v)/\Rep α H d v
theorem dm.step(s:Step α H α' H')(h:dm α H σd σ):dm α' H' σd σ:=
 ⟨h.len,λ i d e=>let⟨v,q,r⟩:=h.at' i d e;⟨v,q,r.step s⟩⟩
theorem dm.set(h:dm α H σd σ)(i:Nat)(r:Rep α H d v):dm α H (σd.set i (some d)) (σ.set i (some v)):=by
 refine⟨by rw[Wb,Wb,h.len],λ j e q=>?_⟩;have hl:=h.len;by_cases hj:j=i
 . subst hj
   have hlt:j<σd.length:=by
    have:=(VV.mp q).1;rw[Wb]at this;exact this
   rw[V7 hlt]at q;cases q;exact⟨v,V7 (by omega),r⟩
 . rw[VW (V6 hj)]at q;rw[VW (V6 hj)];exact h.at' j e q
def LK(α:List (Option Addr))(G F:Hp)(K:DK)(Q:VK):Prop:=∀d st',K d st'->∀α' G' H' v,Step α G α' G'->bQ G' F H'->aJ α' st' G'->Rep α' G' d v->Q v H'
def LW(α:List (Option Addr))(G F:Hp)(K:Bool->ae->Prop)(Q:Bool->Hp->Prop):Prop:=∀b st',K b st'->∀α' G' H',Step α G α' G'->bQ G' F H'->aJ α' st' G'->Q b H'
def Vw(α:List (Option Addr))(G F:Hp)(K:List D->ae->Prop)(Q:List V->Hp->Prop):Prop:=∀ds st',K ds st'->∀α' G' H' vs,Step α G α' G'->bQ G' F H'->aJ α' st' G'->aD α' G' ds vs->Q vs H'
inductive TL(t:DE)(σ:L2.St)(H:Hp)(Q:VK):Prop
 |mk (α:List (Option Addr)) (σd:bo) (st:ae) (K:DK) (G F:Hp) (P:bQ G F H) (R:dm α G σd σ) (S:aJ α st G) (h:t σd st K) (k:LK α G F K Q):TL t σ H Q
def LE(t:DE):TE:=TL t
inductive T4(t:DT)(σ:L2.St)(H:Hp)(Q:Bool->Hp->Prop):Prop
 |mk (α:List (Option Addr)) (σd:bo) (st:ae) (K:Bool->ae->Prop) (G F:Hp) (P:bQ G F H) (R:dm α G σd σ) (S:aJ α st G) (h:t σd st K) (k:LW α G F K Q):T4 t σ H Q
def LT(t:DT):TT:=T4 t
inductive Ua(t:DA)(σ:L2.St)(H:Hp)(Q:List V->Hp->Prop):Prop
 |mk (α:List (Option Addr)) (σd:bo) (st:ae) (K:List D->ae->Prop) (G F:Hp) (P:bQ G F H) (R:dm α G σd σ) (S:aJ α st G) (h:t σd st K) (k:Vw α G F K Q):Ua t σ H Q
def LA(t:DA):TA:=Ua t
theorem LK.here{α:List (Option Addr)}{G F H:Hp}{K:DK}{Q:VK}(h:LK α G F K Q)(P:bQ G F H){d:D}{st:ae}{v:V}(k:K d st)(S:aJ α st G)(r:Rep α G d v):Q v H:=h d st k α G H v Step.refl P S r
theorem LK.at{α α1:List (Option Addr)}{G F G1:Hp}{K:DK}{Q:VK}(h:LK α G F K Q)(s:Step α G α1 G1):LK α1 G1 F K Q:=λ d st' k α' G' H' v s' P S r=>h d st' k α' G' H' v (s.trans s') P S r
theorem LW.at{α α1:List (Option Addr)}{G F G1:Hp}{K:Bool->ae->Prop}{Q:Bool->Hp->Prop}(h:LW α G F K Q)(s:Step α G α1 G1):LW α1 G1 F K Q:=λ d st' k α' G' H' s' P S=>h d st' k α' G' H' (s.trans s') P S
section
variable {X:Cx}{a b c e:Expr}{es:List Expr}{ta tb tc te:DE}{pos:Pos}
theorem PE.imp(h:PE X e t)(f:∀σ H Q,t' σ H Q->t σ H Q):PE X e t':=λ pins s σ H Q I q=>h pins s σ H Q I (f σ H Q q)
theorem PT.imp(h:PT X e t)(f:∀σ H Q,t' σ H Q->t σ H Q):PT X e t':=λ pins s σ H Q I q=>h pins s σ H Q I (f σ H Q q)
theorem PW.imp(h:PW X e t)(f:∀σ H Q,t' σ H Q->t σ H Q):PW X e t':=λ w pins s σ H Q I q=>h w pins s σ H Q I (f σ H Q q)
theorem PA.imp(h:PA X es t)(f:∀σ H Q,t' σ H Q->t σ H Q):PA X es t':=λ p pins s σ H Q I q=>h p pins s σ H Q I (f σ H Q q)
def ab(i:Nat):DE:=λ σ st K=>match σ[i]? with|some (some d)=>K d st|_=>False
def dC(d:D):DE:=λ _ st K=>K d st
theorem S9{i:Nat}{x:Str}(h:PE X (.Name x pos) (O4 i)):PE X (.Name x pos) (LE (ab i)):=PE.imp h λ σ H Q ⟨α,σd,st,K,G,F,P,R,S,t,k⟩=>by
 unfold ab at t;split at t
 . rename_i d q;obtain⟨v,e,r⟩:=R.at' i d q;exact⟨v,e,k.here P t S r⟩
 . exact t.elim
theorem pC{v:V}{d:D}(h:PE X e (tC v))(r:∀α H,Rep α H d v):PE X e (LE (dC d)):=PE.imp h λ σ H Q ⟨α,σd,st,K,G,F,P,R,S,t,k⟩=>k.here P t S (r α G)
theorem S8:PE X (.Constant (.int i) j pos) (LE (dC (.int i))):=pC Rh λ _ _=>by unfold Rep;rfl
theorem Ur:PE X (.Constant (.bool i) j pos) (LE (dC (.bl i))):=pC RU λ _ _=>by unfold Rep;rfl
theorem To:PE X (.Constant (.str i) j pos) (LE (dC (.str i))):=pC PX λ _ _=>by unfold Rep;rfl
theorem SD:PE X (.Constant .none j pos) (LE (dC .ao)):=pC Rl λ _ _=>by unfold Rep;rfl
abbrev cJ:=D->D->ae->DK->Prop
abbrev Ci:=D->ae->DK->Prop
abbrev dY:=List D->ae->DK->Prop
inductive TZ(r:cJ)(x y:V)(H:Hp)(Q:VK):Prop
 |mk (α:List (Option Addr)) (d e:D) (st:ae) (K:DK) (G F:Hp) (P:bQ G F H) (rx:Rep α G d x) (ry:Rep α G e y) (S:aJ α st G) (h:r d e st K) (k:LK α G F K Q):TZ r x y H Q
def LR(r:cJ):R2:=TZ r
inductive Qf(r:Ci)(x:V)(H:Hp)(Q:VK):Prop
 |mk (α:List (Option Addr)) (d:D) (st:ae) (K:DK) (G F:Hp) (P:bQ G F H) (rx:Rep α G d x) (S:aJ α st G) (h:r d st K) (k:LK α G F K Q):Qf r x H Q
def Mh(r:Ci):V->Hp->VK->Prop:=Qf r
inductive QJ(r:dY)(xs:List V)(H:Hp)(Q:VK):Prop
 |mk (α:List (Option Addr)) (ds:List D) (st:ae) (K:DK) (G F:Hp) (P:bQ G F H) (rx:aD α G ds xs) (S:aJ α st G) (h:r ds st K) (k:LK α G F K Q):QJ r xs H Q
def ff(r:dY):List V->Hp->VK->Prop:=QJ r
def ai(r:cJ)(ta tb:DE):DE:=λ σ st K=>ta σ st λ x st1=>tb σ st1 λ y st2=>r x y st2 K
def g9(r:Ci)(ta:DE):DE:=λ σ st K=>ta σ st λ x st1=>r x st1 K
theorem LE.op(h:LE (ai r ta tb) σ H Q):Js (LR r) (LE ta) (LE tb) σ H Q:=by
 obtain⟨α,σd,st,K,G,F,P,R,S,t,k⟩:=h;refine⟨α,σd,st,_,G,F,P,R,S,t,λ d st1 q α1 G1 H1 v s1 P1 S1 r1=>?_⟩;refine⟨α1,σd,st1,_,G1,F,P1,R.step s1,S1,q,λ d2 st2 q2 α2 G2 H2 v2 s2 P2 S2 r2=>?_⟩;exact⟨α2,d,d2,st2,K,G2,F,P2,r1.step s2,r2,S2,q2,(k.at s1).at s2⟩
theorem LE.un(h:LE (g9 r ta) σ H Q):T7 (Mh r) (LE ta) σ H Q:=by
 obtain⟨α,σd,st,K,G,F,P,R,S,t,k⟩:=h;refine⟨α,σd,st,_,G,F,P,R,S,t,λ d st1 q α1 G1 H1 v s1 P1 S1 r1=>?_⟩;exact⟨α1,d,st1,K,G1,F,P1,r1,S1,q,k.at s1⟩
theorem U0(ho:br X (binaryOp op) (LR r))(ha:PE X a (LE ta))(hb:PE X b (LE tb)):PE X (.BinOp a op b pos) (LE (ai r ta tb)):=PE.imp (Ss ho ha hb) λ _ _ _ h=>LE.op h
theorem Va(ho:EX X (unaryOp op) (Mh r))(ha:PE X a (LE ta)):PE X (.UnaryOp op a pos) (LE (g9 r ta)):=PE.imp (Tb ho ha) λ _ _ _ h=>LE.un h
theorem S0(ho:br X (compareOp op) (LR r))(ha:PE X a (LE ta))(hb:PE X b (LE tb))(hm:behindInMarks op b=false:=by first|exact jS _|rfl):PE X (.Compare a [op] [b] pos) (LE (ai r ta tb)):=PE.imp (Np ho ha hb hm) λ _ _ _ h=>LE.op h
def aE(t:DE):DT:=λ σ st K=>t σ st λ d st1=>match d with| .bl b=>K b st1|_=>False
theorem LT.test(h:LT (aE te) σ H Q):LE te σ H λ x H'=>∃k,x= .bl k/\Q k H':=by
 obtain⟨α,σd,st,K,G,F,P,R,S,t,k⟩:=h;refine⟨α,σd,st,_,G,F,P,R,S,t,λ d st1 q α1 G1 H1 v s1 P1 S1 r1=>?_⟩;cases d with
 |bl b=>
  unfold Rep at r1;exact⟨b,r1,k b st1 q α1 G1 H1 s1 P1 S1⟩
 |_=>exact q.elim
theorem P9(ho:br X (compareOp op) (LR r))(ha:PE X a (LE ta))(hb:PE X b (LE tb))(hm:behindInMarks op b=false:=by first|exact jS _|rfl):PT X (.Compare a [op] [b] pos) (LT (aE (ai r ta tb))):=PT.imp (Ot ho ha hb hm) λ σ H Q h=>by
 have q:=LT.test h;exact LE.op (Q:=λ x H'=>∃k,x= .bl k/\Q k H') q
theorem Q9(he:PE X e (LE te))(hv:∀whole,isTrue e X.env whole=(do let v <-whole;standAt e.pos;holding [v] (truthy v)):=by intro _;rfl):PT X e (LT (aE te)):=PT.imp (Qg he hv) λ σ H Q h=>LT.test h
def cO(t:DT):DT:=λ σ st K=>t σ st λ b st1=>K (!b) st1
def mq(t u:DT):DT:=λ σ st K=>t σ st λ b st1=>if b=true then u σ st1 K else K false st1
def gF(t u:DT):DT:=λ σ st K=>t σ st λ b st1=>if b=true then K true st1 else u σ st1 K
theorem RC(ha:PT X a (LT t)):PT X (.UnaryOp .Not a pos) (LT (cO t)):=PT.imp (Qn ha) λ σ H Q ⟨α,σd,st,K,G,F,P,R,S,t,k⟩=>
 ⟨α,σd,st,_,G,F,P,R,S,t,λ b st1 q α1 G1 H1 s1 P1 S1=>k _ st1 q α1 G1 H1 s1 P1 S1⟩
theorem LT.and(h:LT (mq t u) σ H Q):PY (LT t) (LT u) σ H Q:=by
 obtain⟨α,σd,st,K,G,F,P,R,S,t,k⟩:=h;refine⟨α,σd,st,_,G,F,P,R,S,t,λ b st1 q α1 G1 H1 s1 P1 S1=>?_⟩;cases b with
 |true=>exact⟨α1,σd,st1,K,G1,F,P1,R.step s1,S1,q,k.at s1⟩
 |false=>exact k _ st1 q α1 G1 H1 s1 P1 S1
theorem LT.or(h:LT (gF t u) σ H Q):T9 (LT t) (LT u) σ H Q:=by
 obtain⟨α,σd,st,K,G,F,P,R,S,t,k⟩:=h;refine⟨α,σd,st,_,G,F,P,R,S,t,λ b st1 q α1 G1 H1 s1 P1 S1=>?_⟩;cases b with
 |false=>exact⟨α1,σd,st1,K,G1,F,P1,R.step s1,S1,q,k.at s1⟩
 |true=>exact k _ st1 q α1 G1 H1 s1 P1 S1
theorem NV(ha:PT X a (LT t)):PW X (.BoolOp .And [a] pos) (LT t):=pw_and1 ha
theorem QI(ha:PT X a (LT t)):PW X (.BoolOp .Or [a] pos) (LT t):=pw_or1 ha
theorem O9(ha:PT X a (LT t))(hb:PW X (.BoolOp .And (b::es) pos) (LT u)):PW X (.BoolOp .And (a::b::es) pos) (LT (mq t u)):=PW.imp (pw_and ha hb) λ _ _ _ h=>LT.and h
theorem Sq(ha:PT X a (LT t))(hb:PW X (.BoolOp .Or (b::es) pos) (LT u)):PW X (.BoolOp .Or (a::b::es) pos) (LT (gF t u)):=PW.imp (pw_or ha hb) λ _ _ _ h=>LT.or h
def ix(ta tb:DE):DE:=λ σ st K=>ta σ st λ d st1=>match d with| .bl b=>if b=true then tb σ st1 K else K (.bl false) st1|_=>False
def F8(ta tb:DE):DE:=λ σ st K=>ta σ st λ d st1=>match d with| .bl b=>if b=true then K (.bl true) st1 else tb σ st1 K|_=>False
def wL(t:DT):DE:=λ σ st K=>t σ st λ b st1=>K (.bl (!b)) st1
theorem Tp(ha:PE X a (LE ta)):PE X (.BoolOp op [a] pos) (LE ta):=Pq ha
theorem R9(ha:PE X a (LE ta))(hb:PE X (.BoolOp .And (b::es) pos) (LE tb)):PE X (.BoolOp .And (a::b::es) pos) (LE (ix ta tb)):=PE.imp (Pc ha hb) λ σ H Q ⟨α,σd,st,K,G,F,P,R,S,t,k⟩=>by
 refine⟨α,σd,st,_,G,F,P,R,S,t,λ d st1 q α1 G1 H1 v s1 P1 S1 r1=>?_⟩;cases d with
 |bl b=>
  unfold Rep at r1;refine⟨b,r1,?_⟩;cases b with
  |true=>exact⟨α1,σd,st1,K,G1,F,P1,R.step s1,S1,q,k.at s1⟩
  |false=>exact k _ st1 q α1 G1 H1 _ s1 P1 S1 (by unfold Rep;rfl)
 |_=>exact q.elim
theorem Uh(ha:PE X a (LE ta))(hb:PE X (.BoolOp .Or (b::es) pos) (LE tb)):PE X (.BoolOp .Or (a::b::es) pos) (LE (F8 ta tb)):=PE.imp (Tj ha hb) λ σ H Q ⟨α,σd,st,K,G,F,P,R,S,t,k⟩=>by
 refine⟨α,σd,st,_,G,F,P,R,S,t,λ d st1 q α1 G1 H1 v s1 P1 S1 r1=>?_⟩;cases d with
 |bl b=>
  unfold Rep at r1;refine⟨b,r1,?_⟩;cases b with
  |false=>exact⟨α1,σd,st1,K,G1,F,P1,R.step s1,S1,q,k.at s1⟩
  |true=>exact k _ st1 q α1 G1 H1 _ s1 P1 S1 (by unfold Rep;rfl)
 |_=>exact q.elim
theorem Tz(ha:PE X a (LE ta)):PE X (.UnaryOp .Not a pos) (LE (wL (aE ta))):=PE.imp (Ql ha) λ σ H Q ⟨α,σd,st,K,G,F,P,R,S,t,k⟩=>by
 refine⟨α,σd,st,_,G,F,P,R,S,t,λ d st1 q α1 G1 H1 v s1 P1 S1 r1=>?_⟩;cases d with
 |bl b=>
  unfold Rep at r1;exact⟨b,r1,k _ st1 q α1 G1 H1 _ s1 P1 S1 (by unfold Rep;rfl)⟩
 |_=>exact q.elim
def BR(t:DT)(ta tb:DE):DE:=λ σ st K=>t σ st λ b st1=>if b=true then ta σ st1 K else tb σ st1 K
theorem RL(hc:PT X c (LT t))(ha:PE X a (LE ta))(hb:PE X b (LE tb)):PE X (.IfExp c a b pos) (LE (BR t ta tb)):=PE.imp (Lc hc ha hb) λ σ H Q ⟨α,σd,st,K,G,F,P,R,S,t,k⟩=>by
 refine⟨α,σd,st,_,G,F,P,R,S,t,λ b st1 q α1 G1 H1 s1 P1 S1=>?_⟩;cases b with
 |true=>exact⟨α1,σd,st1,K,G1,F,P1,R.step s1,S1,q,k.at s1⟩
 |false=>exact⟨α1,σd,st1,K,G1,F,P1,R.step s1,S1,q,k.at s1⟩
def af:DA:=λ _ st K=>K [] st
def aa(ta:DE)(tr:DA):DA:=λ σ st K=>ta σ st λ x st1=>tr σ st1 λ xs st2=>K (x::xs) st2
theorem sr:PA X [] (LA af):=PA.imp QU λ σ H Q ⟨α,σd,st,K,G,F,P,R,S,t,k⟩=>k [] st t α G H [] Step.refl P S (by unfold aD;rfl)
theorem mT{tr:DA}(ha:PE X e (LE te))(hr:PA X es (LA tr))(hs:starEach (e::es) X.env=(false,eval e X.env)::starEach es X.env:=by rfl):PA X (e::es) (LA (aa te tr)):=PA.imp (Nl ha hr hs) λ σ H Q ⟨α,σd,st,K,G,F,P,R,S,t,k⟩=>by
 refine⟨α,σd,st,_,G,F,P,R,S,t,λ d st1 q α1 G1 H1 v s1 P1 S1 r1=>?_⟩;refine⟨α1,σd,st1,_,G1,F,P1,R.step s1,S1,q,λ ds st2 q2 α2 G2 H2 vs s2 P2 S2 r2=>?_⟩;exact k _ st2 q2 α2 G2 H2 (v::vs) (s1.trans s2) P2 S2 (by unfold aD;exact⟨v,vs,rfl,r1.step s2,r2⟩)
def bZ(t:DA):DE:=λ σ st K=>t σ st λ ds st1=>ds.length<=sizeLine/\K (.tup ds) st1
def fy(t:DA):DE:=λ σ st K=>t σ st λ ds st1=>ds.length<=sizeLine/\K (.lst ds) st1
def Lz(t:DA):DE:=λ σ st K=>t σ st λ ds st1=>ds.length<=sizeLine/\K (.ref st1.length) (st1++[.lst ds])
theorem LK.tup{α:List (Option Addr)}{G F H:Hp}{K:DK}{Q:VK}{ds:List D}{vs:List V}{st:ae}{p:Addr}(k:LK α G F K Q)(P:bQ G F H)(q:K (.tup ds) st)(S:aJ α st G)(r:aD α G ds vs)(hp:H p=none):Q (.ref p) (upd H p (.tup vs)):=
 have hg:=(P.none hp).1
 k _ st q α _ _ _ (Step.laid hg) (P.laid hp) (S.laid hg) (by unfold Rep;exact⟨p,vs,rfl,S.jW hg,aS,r.step (Step.laid hg)⟩)
theorem LK.lst{α:List (Option Addr)}{G F H:Hp}{K:DK}{Q:VK}{ds:List D}{vs:List V}{st:ae}{p:Addr}(k:LK α G F K Q)(P:bQ G F H)(q:K (.lst ds) st)(S:aJ α st G)(r:aD α G ds vs)(hp:H p=none):Q (.ref p) (upd H p (.lst vs)):=
 have hg:=(P.none hp).1
 k _ st q α _ _ _ (Step.laid hg) (P.laid hp) (S.laid hg) (by unfold Rep;exact⟨p,vs,rfl,S.jW hg,.of aS,r.step (Step.laid hg)⟩)
theorem LK.new{α:List (Option Addr)}{G F H:Hp}{K:DK}{Q:VK}{ds:List D}{vs:List V}{st:ae}{p:Addr}(k:LK α G F K Q)(P:bQ G F H)(q:K (.ref st.length) (st++[.lst ds]))(S:aJ α st G)(r:aD α G ds vs)(hp:H p=none):Q (.ref p) (upd H p (.lst vs)):=
 have hg:=(P.none hp).1
 k _ _ q (α++[some p]) _ _ _ (Step.cell hg) (P.laid hp) (S.cell hg ⟨vs,aS,r.step (Step.cell hg)⟩) (by
  unfold Rep;refine .inr ⟨p,?_,rfl⟩;rw[Wu (by rw[S.len];exact VQ _),S.len,XM];rfl)
theorem SS(h:PA X es (LA t)):PE X (.Tuple es n pos) (LE (bZ t)):=PE.imp (Pg h) λ σ H Q ⟨α,σd,st,K,G,F,P,R,S,t,k⟩=>
 ⟨α,σd,st,_,G,F,P,R,S,t,λ ds st1 q α1 G1 H1 vs s1 P1 S1 r1=>⟨by rw[<-r1.length];exact q.1,λ p hp=>(k.at s1).tup P1 q.2 S1 r1 hp⟩⟩
theorem Sv(h:PA X es (LA t)):PE X (.List es pos) (LE (fy t)):=PE.imp (GZ h) λ σ H Q ⟨α,σd,st,K,G,F,P,R,S,t,k⟩=>
 ⟨α,σd,st,_,G,F,P,R,S,t,λ ds st1 q α1 G1 H1 vs s1 P1 S1 r1=>⟨by rw[<-r1.length];exact q.1,λ p hp=>(k.at s1).lst P1 q.2 S1 r1 hp⟩⟩
theorem RK(h:PA X es (LA t)):PE X (.List es pos) (LE (Lz t)):=PE.imp (GZ h) λ σ H Q ⟨α,σd,st,K,G,F,P,R,S,t,k⟩=>
 ⟨α,σd,st,_,G,F,P,R,S,t,λ ds st1 q α1 G1 H1 vs s1 P1 S1 r1=>⟨by rw[<-r1.length];exact q.1,λ p hp=>(k.at s1).new P1 q.2 S1 r1 hp⟩⟩
abbrev bw:=List D->ae->DK->Prop
inductive Rx(T:bw)(vs:List V)(H:Hp)(Q:VK):Prop
 |mk (α:List (Option Addr)) (ds:List D) (st:ae) (K:DK) (G F:Hp) (P:bQ G F H) (rx:aD α G ds vs) (S:aJ α st G) (h:T ds st K) (k:LK α G F K Q):Rx T vs H Q
def ik(S:bw):Sp:=λ vs H Q _=>Rx S vs H Q
def ak(S:bw)(t:DA):DE:=λ σ st K=>t σ st λ ds st1=>S ds st1 K
theorem LE.call{S:bw}(h:LE (ak S t) σ H Q):Ms (ik S) [] E0 (LA t) σ H Q:=by
 obtain⟨α,σd,st,K,G,F,P,R,S,t,k⟩:=h;refine⟨α,σd,st,_,G,F,P,R,S,t,λ ds st1 q α1 G1 H1 vs s1 P1 S1 r1=>?_⟩;try dsimp only
 rw[WE];exact⟨α1,ds,st1,K,G1,F,P1,r1,S1,q,k.at s1⟩
theorem Qa{S:bw}{k:Nat}{fd:FuncData}(F:dz X.prog X.w X.K X.mg X.base gq k f fd ps (ik S))(hr:cF k X.A)(hg:Gl X x)(hm:X.mg x=some (.ref f))(hk:PySem.W.keepIn X.K (.ref f)=true)(hb:Binds X.K fd ps [])
 (ha:PA X (e::es) (LA t)) (hdb:(x==("__debug__":Str))=false:=by decide) (he:starEach (e::es) X.env=(false,eval e X.env)::starEach es X.env:=by rfl) (hpl:(backTo pos (starEach es X.env)).any (·.1)=false:=by rfl):
 PE X (.Call (.Name x p) (e::es) [] pos) (LE (ak S t)):=PE.imp (Ox F hr hg hm hk hb .nil Gj ha hdb he hpl) λ _ _ _ h=>LE.call h
def aU(r:dY)(t:DA):DE:=λ σ st K=>t σ st λ ds st1=>r ds st1 K
theorem LE.cb(h:LE (aU r t) σ H Q):P7 (ff r) (LA t) σ H Q:=by
 obtain⟨α,σd,st,K,G,F,P,R,S,t,k⟩:=h;refine⟨α,σd,st,_,G,F,P,R,S,t,λ ds st1 q α1 G1 H1 vs s1 P1 S1 r1=>?_⟩;exact⟨α1,ds,st1,K,G1,F,P1,r1,S1,q,k.at s1⟩
end
section
variable {X:Cx}
theorem br.imp{f:Value->Value->Sem Value}(h:br X f r)(k:∀x y H Q,r' x y H Q->r x y H Q):br X f r':=λ pins s σ H x y v u Q I rx ry q=>h pins s σ H x y v u Q I rx ry (k x y H Q q)
theorem bf.imp(h:bf X f r)(k:∀xs H Q,r' xs H Q->r xs H Q):bf X f r':=λ pins s σ H xs us Q I rs q=>h pins s σ H xs us Q I rs (k xs H Q q)
def uM(C:Int->Int->Prop)(g:Int->Int->D):cJ:=λ x y st K=>match x,y with| .int i,.int j=>C i j/\K (g i j) st|_,_=>False
theorem jP{f:Value->Value->Sem Value}{C:Int->Int->Prop}{g:Int->Int->D}{g':Int->Int->V}(hg:∀i j α H,Rep α H (g i j) (g' i j))(h:br X f (rI C g')):br X f (LR (uM C g)):=br.imp h λ x y H Q ⟨α,d,e,st,K,G,F',P,r1,r2,S,q,k⟩=>by
 cases d<;>cases e<;>first
  |exact q.elim
  |(unfold Rep at r1 r2;exact⟨_,_,r1,r2,q.1,k.here P q.2 S (hg _ _ _ _)⟩)
abbrev T2:Int->Int->Prop:=λ _ _=>True
theorem xq{g:Int->Int->V}{f:Value->Value->Sem Value}(h:br X f (wY g)):br X f (rI T2 g):=br.imp h λ x y H Q ⟨i,j,e1,e2,_,q⟩=>⟨i,j,e1,e2,q⟩
abbrev Mr:cJ:=uM T2 λ i j=> .int (i-j)
abbrev Hb:cJ:=uM (λ _ j=>j≠0/\j.natAbs.log2<9000) λ i j=> .int (i.fdiv j)
abbrev MY:cJ:=uM (λ _ j=>j≠0) λ i j=> .int (i.fmod j)
abbrev Mf:cJ:=uM KO λ i j=> .int (i^j.toNat)
abbrev PJ:cJ:=uM T2 λ i j=> .bl (decide (i<j))
abbrev PV:cJ:=uM T2 λ i j=> .bl (decide (i<=j))
abbrev PC:cJ:=uM T2 λ i j=> .bl (decide (j<i))
abbrev Qk:cJ:=uM T2 λ i j=> .bl (decide (j<=i))
theorem Sd:br X (binaryOp .Sub) (LR Mr):=jP (λ _ _ _ _=>by unfold Rep;rfl) (xq QO)
theorem Rw:br X (binaryOp .FloorDiv) (LR Hb):=jP (λ _ _ _ _=>by unfold Rep;rfl) (Nh λ i j _ _ _ _ _ hc q=>floordiv_int hc.1 q (.inl (PyProof.noPylong_of_log2 hc.2)))
theorem S_:br X (binaryOp .Mod) (LR MY):=jP (λ _ _ _ _=>by unfold Rep;rfl) Oo
theorem RQ:br X (binaryOp .Pow) (LR Mf):=jP (λ _ _ _ _=>by unfold Rep;rfl) QS
theorem UG:br X (compareOp .Lt) (LR PJ):=jP (λ _ _ _ _=>by unfold Rep;rfl) (xq Sj)
theorem UR:br X (compareOp .LtE) (LR PV):=jP (λ _ _ _ _=>by unfold Rep;rfl) (xq RG)
theorem UX:br X (compareOp .Gt) (LR PC):=jP (λ _ _ _ _=>by unfold Rep;rfl) (xq SM)
theorem UY:br X (compareOp .GtE) (LR Qk):=jP (λ _ _ _ _=>by unfold Rep;rfl) (xq Se)
def Nf:Ci:=λ x st K=>match x with| .int i=>K (.int (-i)) st|_=>False
theorem RH:EX X (unaryOp .USub) (Mh Nf):=λ pins s σ H x v Q I rx ⟨α,d,st,K,G,F',P,r,S,q,k⟩=>by
 cases d<;>first
  |exact q.elim
  |(unfold Rep at r;exact Pb pins s σ H x v Q I rx ⟨_,r,k.here P q S (by unfold Rep;rfl)⟩)
theorem Inv.yD(I:Inv X pins σ H s)(h:Rd H l (.lst xs)):
 xs.length<=sizeLine/\∃(aj:List Value) (n:Nat),Vals xs aj/\xs.length=aj.length/\s.heap.get? l=some {cls:= .type "list",data:= .seq aj.toArray n}:=by
 obtain⟨z,aj,n,r,e⟩:=h.ok I.aC;exact⟨z,aj,n,r,r.length,e⟩
theorem f6(P:bQ G F H)(h:Rd G a u):Rd H a u:=by
 rcases h with h|⟨o,h⟩
 . exact .inl (P.get h)
 . exact .inr ⟨o,P.get h⟩
theorem OH:br X (binaryOp .Add) (λ x y H Q=>∃l b xs zs,x= .ref l/\y= .ref b/\Rd H l (.lst xs)/\Rd H b (.lst zs)/\xs.length+zs.length<=sizeLine/\∀p,H p=none->Q (.ref p) (upd H p (.lst (xs++zs)))):=by
 intro pins s σ H x y v u Q I rx ry h;obtain⟨l,b,xs,zs,rfl,rfl,hH,hB,hz,q⟩:=h;cases rx;cases ry;obtain⟨z,aj,n,r,hl,e⟩:=Inv.yD I hH;obtain⟨z2,its2,n2,r2,hl2,e2⟩:=Inv.yD I hB;refine PySem.P.add_list e e2 ?_ (by rw[V2,V2];omega);have ea:aj.toArray++its2.toArray=(aj++its2).toArray:=by simp
 rw[ea];exact⟨.ref _,_,I.Kc (t':=s.toks) (r.append r2) (by rw[V3];omega),rfl,q _ I.fresh⟩
theorem EI:br X (binaryOp .Mult) (λ x y H Q=>∃l k xs,x= .ref l/\y= .int k/\Rd H l (.lst xs)/\ -(2^63)<=k/\k<2^63/\xs.length*k.toNat<=sizeLine/\
 ∀p,H p=none->Q (.ref p) (upd H p (.lst (List.replicate k.toNat xs).flatten))):=by
 intro pins s σ H x y v u Q I rx ry h;obtain⟨l,k,xs,rfl,rfl,hH,h1,h2,hz,q⟩:=h;cases rx;obtain⟨t,rfl⟩:=ry;obtain⟨z,aj,n,r,hl,e⟩:=Inv.yD I hH;have hlen:aj.toArray.size*k.toNat<=sizeLine:=by rw[V2,<-hl];exact hz
 have hcap:¬aj.toArray.size*k.toNat>(2^63-1)/8:=by
  have:(sizeLine:Nat)<=(2^63-1)/8:=by decide
  omega
 have hfit:¬(!Builtin.List.listFitsIndex k)=true:=by
  rw[aaz h1 h2];exact WG
 have hlong:¬Builtin.List.listTooLong (aj.toArray.size*k.toNat)=true:=by
  rw[LM hlen];exact WG
 have hnew:List.foldl (λ x1 x2=>x1++x2) #[] (List.replicate (if aj.toArray.isEmpty=true then 0 else k.toNat) aj.toArray)=(List.replicate k.toNat aj).flatten.toArray:=by
  have f0:∀m:Nat,List.foldl (λ x1 x2=>x1++x2) #[] (List.replicate m aj.toArray)=(List.replicate m aj).flatten.toArray:=λ m=>by
   have:=foldl_rep aj m [];rw[Zs]at this;exact this
  rw[f0];cases aj with
  |nil=>simp
  |cons a r'=>rw[VT (by simp)]
 refine Z_ (T:="list") (U:="int") (by decide) ⟨_,e,rfl⟩ (λ s'=>Z9 s' k t) noFill_list_mul F.fills_int_mul Zt repeat_list F.slot_int_index.lookup
  (Yt Zt (Z9 s k t) F.entry_int_rmul (F.args_int_rmul_2 _ _) (int___rmul___int_list k t l aj.toArray n)
    ⟨e,rfl,⟨_,e,rfl⟩,Yt F.slot_list_mul ⟨_,e,rfl⟩ F.entry_list_mul (F.args_list_mul_2 _ _) (AutoListH.list___mul___list_int_3 l aj.toArray n k t hfit hcap hlong) ⟨e,?_⟩⟩)
 rw[hnew];exact⟨.ref _,_,I.Kc (t':=s.toks) (r.rep k.toNat) (by rw[len_rep,Yb];exact hz),rfl,q _ I.fresh⟩
theorem LF:br X (binaryOp .Add) (λ x y H Q=>∃a b xs ys,x= .ref a/\y= .ref b/\H a=some (.tup xs)/\H b=some (.tup ys)/\xs.length+ys.length<=sizeLine/\
 (xs=[]->Q (.ref b) H)/\(xs≠ []->ys=[]->Q (.ref a) H)/\(xs≠ []->ys≠ []->∀p,H p=none->Q (.ref p) (upd H p (.tup (xs++ys))))):=by
 intro pins s σ H x y v u Q I rx ry h;obtain⟨a,b,xs,ys,rfl,rfl,ha,hb,hz,q0,q1,q2⟩:=h;by_cases hx:xs=[]
 . cases rx;cases ry;obtain⟨aj,r1,p1,_⟩:=I.tuple (.of ha);obtain⟨its2,r2,p2,_⟩:=I.tuple (.of hb);obtain⟨⟨cls,dd,data,sl⟩,ho,hc,n,hd⟩:=id p1;obtain⟨⟨cls2,dd2,data2,sl2⟩,ho2,hc2,n2,hd2⟩:=id p2;simp only at hc hd hc2 hd2;subst hc hd hc2 hd2;have hi:aj=[]:=(L2.Vals.uB r1).mpr hx
   exact concat_meets ⟨_,ho,rfl⟩ ⟨_,ho2,rfl⟩ aad seq_tuple_add Y8 YZ (YN _ _)
    (tuple_addW0 a b aj.toArray its2.toArray n n2 dd dd2 sl sl2 (by simp[hi])) ⟨ho,ho2,⟨.ref b,H,I,rfl,q0 hx⟩⟩
 . exact Ov pins s σ H _ _ v u Q I rx ry ⟨a,b,xs,ys,rfl,rfl,.of ha,.of hb,hx,hz,q1 hx,q2 hx⟩
theorem ye:fillsNumberSlot (.type "tuple") "mul"=pure false:=
 PySem.fillsNumberSlot_seq (id:="tuple.__mul__") (r:=some (.builtin "tuple.__rmul__")) YG.lookup (by decide+kernel) F.slot_tuple_rmul.lookup (by decide+kernel)
theorem FT:seqRepeat? (.type "tuple")=pure (some (.builtin "tuple.__mul__")):=by
 unfold seqRepeat?;rw[PySem.seqSlot_of (T:="tuple") (name:="__mul__") (id:="tuple.__mul__") YG.lookup (by decide+kernel),PySem.seqSlot_of (T:="tuple") (name:="__rmul__") (id:="tuple.__rmul__") F.slot_tuple_rmul.lookup (by decide+kernel)];rfl
theorem Bi(a:Int)(t:Tok)(l:Addr)(aj:Array Value)(n:Nat)(dd:Option Addr)(sl:Array (Option Value)):Meets (Builtin.«int.__rmul__» ⟨[.int a t,.ref l],[]⟩) (λ _ R s=>s.heap.get? l=some {cls:= .type "tuple",dict:=dd,data:= .seq aj n,slots:=sl}/\R (.ok (.ret Value.notImplemented)) s):=
 .of_wp λ P w A R s h=>by
  obtain⟨hp,g,d,tk,os⟩:=s;obtain⟨hl,h⟩:=h
  wp_walk
  exact⟨_,rfl,h⟩
theorem Be(l:Addr)(aj:Array Value)(n:Nat)(dd:Option Addr)(sl:Array (Option Value))(x:Int)(u:Tok)(h0:(decide (x< -(2^63))||decide (x>=2^63))=false)(h1:(aj.isEmpty||x==1)=true):
 Meets (Builtin.«tuple.__mul__» ⟨[.ref l,.int x u],[]⟩) (λ _ R s=>s.heap.get? l=some {cls:= .type "tuple",dict:=dd,data:= .seq aj n,slots:=sl}/\R (.ok (.ret (.ref l))) s):=
 .of_wp λ P w A R s h=>by
  obtain⟨hp,g,d,tk,os⟩:=s;obtain⟨hl,h⟩:=h
  wp_walk
  refine Zu (by rw[h0];rfl) ?_
  wp_walk
  exact⟨_,rfl,h⟩
theorem De(l:Addr)(aj:Array Value)(n:Nat)(dd:Option Addr)(sl:Array (Option Value))(x:Int)(u:Tok)(h0:(decide (x< -(2^63))||decide (x>=2^63))=false)(h1:(aj.isEmpty||x==1)=false)(h2:(decide (x<=0)||aj.isEmpty)=true):
 Meets (Builtin.«tuple.__mul__» ⟨[.ref l,.int x u],[]⟩) (λ _ R s=>s.heap.get? l=some {cls:= .type "tuple",dict:=dd,data:= .seq aj n,slots:=sl}/\R (.ok (.ret (.ref s.heap.objs.size))) {s with heap:=s.heap.push {cls:= .type "tuple",data:= .seq #[]}}):=
 .of_wp λ P w A R s h=>by
  obtain⟨hp,g,d,tk,os⟩:=s;obtain⟨hl,h⟩:=h
  wp_walk
  refine Zu (by rw[h0];rfl) ?_
  wp_walk
  exact⟨_,rfl,h⟩
theorem C6(l:Addr)(aj:Array Value)(n:Nat)(dd:Option Addr)(sl:Array (Option Value))(x:Int)(u:Tok)(h0:(decide (x< -(2^63))||decide (x>=2^63))=false)(h1:(aj.isEmpty||x==1)=false)(h2:(decide (x<=0)||aj.isEmpty)=false)(h3:¬((aj.size:Int)*x>(2^63-1)/8))(h4:Builtin.Tuple.tupleTooMany (aj.size*x)=false)
 (hz:(List.foldl (λ x1 x2=>x1++x2) #[] (List.replicate x.toNat aj)).size<=sizeLine):
 Meets (Builtin.«tuple.__mul__» ⟨[.ref l,.int x u],[]⟩) (λ _ R s=>s.heap.get? l=some {cls:= .type "tuple",dict:=dd,data:= .seq aj n,slots:=sl}/\R (.ok (.ret (.ref s.heap.objs.size))) {s with heap:=s.heap.push {cls:= .type "tuple",data:= .seq (List.foldl (λ x1 x2=>x1++x2) #[] (List.replicate x.toNat aj))}}):=
 .of_wp λ P w A R s h=>by
  obtain⟨hp,g,d,tk,os⟩:=s;obtain⟨hl,h⟩:=h
  wp_walk
  refine Zu (by rw[h0];rfl) ?_
  wp_walk
  refine Zu (We h3) ?_
  wp_walk
  exact⟨_,rfl,h⟩
theorem Nn:br X (binaryOp .Mult) (λ x y H Q=>∃l k xs,x= .ref l/\y= .int k/\H l=some (.tup xs)/\ -(2^63)<=k/\k<2^63/\xs.length*k.toNat<=sizeLine/\
 ((xs=[]\/k=1)->Q (.ref l) H)/\(¬(xs=[]\/k=1)->∀p,H p=none->Q (.ref p) (upd H p (.tup (List.replicate k.toNat xs).flatten)))):=by
 intro pins s σ H x y v u Q I rx ry h;obtain⟨l,k,xs,rfl,rfl,hH,h1,h2,hz,q1,q2⟩:=h;cases rx;obtain⟨t,rfl⟩:=ry;obtain⟨aj,r,p1,_⟩:=I.tuple (.of hH);obtain⟨⟨cls,dd,data,sl⟩,ho,hc,n,hd⟩:=id p1;simp only at hc hd;subst hc hd;have hl:xs.length=aj.length:=r.length
 have f0:(decide (k< -(2^63))||decide (k>=2^63))=false:=by
  rw[We (by omega),We (by omega)];rfl
 refine Z_ (T:="tuple") (U:="int") (by decide) ⟨_,ho,rfl⟩ (λ s'=>Z9 s' k t) ye F.fills_int_mul Zt FT F.slot_int_index.lookup
  (Yt Zt (Z9 s k t) F.entry_int_rmul (F.args_int_rmul_2 _ _) (Bi k t l aj.toArray n dd sl) ⟨ho,rfl,⟨_,ho,rfl⟩,?_⟩)
 by_cases hs:xs=[]\/k=1
 . have f1:(aj.toArray.isEmpty||k==1)=true:=by
    rcases hs with z|z
    . have:aj=[]:=Xu.mp (by rw[<-hl,z];rfl);rw[this];rfl
    . rw[z];simp
   exact Yt YG ⟨_,ho,rfl⟩ ZZ (ZO _ _) (Be l aj.toArray n dd sl k t f0 f1) ⟨ho,⟨.ref l,H,I,rfl,q1 hs⟩⟩
 . have hne:aj≠ []:=λ z=>hs (.inl (Xu.mp (by rw[hl,z];rfl)));have hk1:k≠1:=λ z=>hs (.inr z);have e1:aj.toArray.isEmpty=false:=by simpa using hne
   have f1:(aj.toArray.isEmpty||k==1)=false:=by rw[e1];simpa using hk1
   have new:∀(us:List Value) (ys:List V),Vals ys us->ys.length<=sizeLine->Inv X pins σ (upd H s.heap.objs.size (.tup ys)) {s with heap:=s.heap.push {cls:= .type "tuple",data:= .seq us.toArray}}:=λ us ys hv hy=>
    I.laid (t':=s.toks) (λ _ _ q=>VY _ q) (VQ _) ⟨hy,us,hv,⟨_,Wq _ rfl,rfl,_,rfl⟩⟩
   by_cases h0:k<=0
   . have f2:(decide (k<=0)||aj.toArray.isEmpty)=true:=by rw[Wr h0];rfl
     refine Yt YG ⟨_,ho,rfl⟩ ZZ (ZO _ _) (De l aj.toArray n dd sl k t f0 f1 f2) ⟨ho,?_⟩;have ez:k.toNat=0:=by omega
     rw[ez]at q2;exact⟨.ref _,_,new [] [] .nil (Wg _),rfl,q2 hs _ I.fresh⟩
   . have f2:(decide (k<=0)||aj.toArray.isEmpty)=false:=by rw[We h0,e1];rfl
     have hk:(k.toNat:Int)=k:=by omega
     have hlen:aj.toArray.size*k.toNat<=sizeLine:=by rw[V2,<-hl];exact hz
     have hsz:((aj.toArray.size:Nat):Int)*k<=(sizeLine:Int):=by
      rw[<-hk]
      exact_mod_cast hlen
     have f3:¬(((aj.toArray.size:Nat):Int)*k>(2^63-1)/8):=by
      have:((sizeLine:Nat):Int)<=(2^63-1)/8:=by decide
      omega
     have f4:Builtin.Tuple.tupleTooMany (((aj.toArray.size:Nat):Int)*k)=false:=by
      unfold Builtin.Tuple.tupleTooMany;exact We (by omega)
     have hnew:List.foldl (λ x1 x2=>x1++x2) #[] (List.replicate k.toNat aj.toArray)=(List.replicate k.toNat aj).flatten.toArray:=by
      have:=foldl_rep aj k.toNat [];rw[Zs]at this;exact this
     have hfl:(List.replicate k.toNat aj).flatten.length=aj.length*k.toNat:=by rw[len_rep,Yb]
     refine Yt YG ⟨_,ho,rfl⟩ ZZ (ZO _ _) (C6 l aj.toArray n dd sl k t f0 f1 f2 f3 f4 (by rw[hnew,V2,hfl];exact hlen)) ⟨ho,?_⟩;rw[hnew];exact⟨.ref _,_,new _ _ (r.rep k.toNat) (by rw[len_rep,Yb];exact hz),rfl,q2 hs _ I.fresh⟩
def M6:cJ:=λ x y st K=>match x,y with
 | .int i,.int j=>K (.int (i+j)) st
 | .tup xs,.tup ys=>xs.length+ys.length<=sizeLine/\K (.tup (xs++ys)) st
 | .lst xs,.lst ys=>xs.length+ys.length<=sizeLine/\K (.lst (xs++ys)) st
 | .str x,.str y=>x.length+y.length<=sizeLine/\K (.str (x++y)) st
 |_,_=>False
theorem Tq:br X (binaryOp .Add) (LR M6):=λ pins s σ H x y v u Q I rx ry ⟨α,d,e,st,K,G,F',P,r1,r2,S,q,k⟩=>by
 cases d<;>cases e<;>try exact q.elim
 . unfold Rep at r1 r2;exact QB pins s σ H x y v u Q I rx ry ⟨_,_,r1,r2,k.here P q S (by unfold Rep;rfl)⟩
 . unfold Rep at r1 r2;exact GF pins s σ H x y v u Q I rx ry ⟨_,_,r1,r2,q.1,k.here P q.2 S (by unfold Rep;rfl)⟩
 . unfold Rep at r1 r2;obtain⟨a,vs,rfl,na,ha,ra⟩:=r1;obtain⟨b,ws,rfl,nb,hb,rb⟩:=r2;refine OH pins s σ H _ _ v u Q I rx ry ⟨a,b,vs,ws,rfl,rfl,f6 P ha,f6 P hb,by rw[<-ra.length,<-rb.length];exact q.1,λ p hp=>?_⟩;exact k.lst P q.2 S (aV.mpr (fD (aV.mp ra) (aV.mp rb))) hp
 . rename_i xs ys;unfold Rep at r1 r2;obtain⟨a,vs,rfl,na,ha,ra⟩:=r1;obtain⟨b,ws,rfl,nb,hb,rb⟩:=r2;have hl1:=ra.length;have hl2:=rb.length;refine LF pins s σ H _ _ v u Q I rx ry ⟨a,b,vs,ws,rfl,rfl,P.get ha,P.get hb,by rw[<-hl1,<-hl2];exact q.1,λ z=>?_,λ _ z=>?_,λ _ _ p hp=>?_⟩
   . refine k.here P q.2 S ?_;unfold Rep;have:xs=[]:=by rw[z]at hl1;exact Xu.mp hl1
     subst this;exact⟨b,ws,rfl,nb,hb,rb⟩
   . refine k.here P q.2 S ?_;unfold Rep;have:ys=[]:=by rw[z]at hl2;exact Xu.mp hl2
     subst this;rw[WE];exact⟨a,vs,rfl,na,ha,ra⟩
   . exact k.tup P q.2 S (aV.mpr (fD (aV.mp ra) (aV.mp rb))) hp
def MK:cJ:=λ x y st K=>match x,y with
 | .int i,.int j=>IntMulOk i j/\K (.int (i*j)) st
 | .lst xs,.int k=>(-(2^63)<=k/\k<2^63/\xs.length*k.toNat<=sizeLine)/\K (.lst (List.replicate k.toNat xs).flatten) st
 | .tup xs,.int k=>(-(2^63)<=k/\k<2^63/\xs.length*k.toNat<=sizeLine)/\K (.tup (List.replicate k.toNat xs).flatten) st
 |_,_=>False
theorem Tu:br X (binaryOp .Mult) (LR MK):=λ pins s σ H x y v u Q I rx ry ⟨α,d,e,st,K,G,F',P,r1,r2,S,q,k⟩=>by
 cases d<;>cases e<;>try exact q.elim
 . unfold Rep at r1 r2;have h:br X (binaryOp .Mult) (rI IntMulOk λ i j=> .int (i*j)):=Nh λ _ _ _ _ _ _ _ hc q=>mul_int q hc;exact h pins s σ H x y v u Q I rx ry ⟨_,_,r1,r2,q.1,k.here P q.2 S (by unfold Rep;rfl)⟩
 . unfold Rep at r1 r2;obtain⟨a,vs,rfl,na,ha,ra⟩:=r1;refine EI pins s σ H _ _ v u Q I rx ry ⟨a,_,vs,rfl,r2,f6 P ha,q.1.1,q.1.2.1,by rw[<-ra.length];exact q.1.2.2,λ p hp=>?_⟩;exact k.lst P q.2 S (aV.mpr (kK (aV.mp ra) _)) hp
 . rename_i xs m;have r1':=r1;unfold Rep at r1 r2;obtain⟨a,vs,rfl,na,ha,ra⟩:=r1;refine Nn pins s σ H _ _ v u Q I rx ry ⟨a,_,vs,rfl,r2,P.get ha,q.1.1,q.1.2.1,by rw[<-ra.length];exact q.1.2.2,λ hs=>?_,λ _ p hp=>k.tup P q.2 S (aV.mpr (kK (aV.mp ra) _)) hp⟩
   have e:(List.replicate m.toNat xs).flatten=xs:=by
    rcases hs with z|z
    . have:xs=[]:=Xu.mp (by rw[ra.length,z];rfl);rw[this];simp
    . rw[z];simp
   have q2:=q.2;rw[e]at q2;exact k.here P q2 S r1'
def live(st:ae):D->Bool
 | .ref n=>(match st[n]? with|some (.lst _)=>true|some (.ins _ _)=>true|_=>false)
 |_=>true
theorem vB{α:List (Option Addr)}{H:Hp}{st:ae}{n:Nat}{v:V}(S:aJ α st H)(h:live st (.ref n)=true)(r:Rep α H (.ref n) v):∃a,v= .ref a:=by
 unfold live at h;simp only at h;split at h
 . rename_i e;obtain⟨a,ea,_⟩:=S.eV e;exact⟨a,dh ea r⟩
 . rename_i e;obtain⟨a,ea,_⟩:=S.AO e;exact⟨a,dh ea r⟩
 . cases h
def N1:cJ:=λ x y st K=>match y with| .ao=>live st x=true/\K (.bl (match x with| .ao=>false|_=>true)) st|_=>False
theorem NN:br X (compareOp .IsNot) (LR N1):=br.imp NK λ x y H Q ⟨α,d,e,st,K,G,F',P,r1,r2,S,q,k⟩=>by
 cases e<;>try exact q.elim
 unfold Rep at r2;refine⟨r2,k.here P q.2 S ?_⟩;unfold Rep;cases d
 case ref n=>
  obtain⟨a,rfl⟩:=vB S q.1 r1;rfl
 all_goals(unfold Rep at r1;first|(rw[r1];rfl)|(obtain⟨a,vs,rfl,_⟩:=r1;rfl))
def qu:cJ:=λ x y st K=>match y with
 | .int i=>(match x with
   | .lst xs=>(match e_ xs i with|some d=>K d st|none=>False)
   | .tup xs=>(match e_ xs i with|some d=>K d st|none=>False)
   | .ref n=>(match st[n]? with|some (.lst xs)=>(match e_ xs i with|some d=>K d st|none=>False)|_=>False)
   |_=>False)
 |_=>False
theorem aD.e_{α:List (Option Addr)}{H:Hp}{ds:List D}{vs:List V}{i:Int}{d:D}(h:aD α H ds vs)(e:L2.e_ ds i=some d):∃v,L2.e_ vs i=some v/\Rep α H d v:=by
 unfold L2.e_ at e⊢;rw[<-h.length];cases q:j4 ds.length i with
 |none=>rw[q]at e;cases e
 |some j=>rw[q]at e;exact h.get e
theorem UJ:Mv X (LR qu):=λ value slice pins s σ H x y v u Q I rx ry ⟨α,d,e,st,K,G,F',P,r1,r2,S,q,k⟩ hs=>by
 cases e<;>try exact q.elim
 unfold Rep at r2;cases d<;>try exact q.elim
 . rename_i i n;unfold qu at q;simp only at q;split at q
   . split at q
     . rename_i xs e1 _ d' e2;obtain⟨a,ea,vs,hv,rv⟩:=S.eV e1;have r1':=dh ea r1;subst r1';obtain⟨z,ez,rz⟩:=rv.e_ e2;exact E1 value slice pins s σ H _ _ v u Q I rx ry ⟨a,vs,_,z,rfl,r2,.of (P.get hv),ez,k.here P q S rz⟩ hs
     . exact q.elim
   . exact q.elim
 . unfold qu at q;simp only at q;split at q
   . rename_i xs d' e2;unfold Rep at r1;obtain⟨a,vs,rfl,na,ha,ra⟩:=r1;obtain⟨z,ez,rz⟩:=ra.e_ e2;exact E1 value slice pins s σ H _ _ v u Q I rx ry ⟨a,vs,_,z,rfl,r2,.inl (f6 P ha),ez,k.here P q S rz⟩ hs
   . exact q.elim
 . unfold qu at q;simp only at q;split at q
   . rename_i xs d' e2;unfold Rep at r1;obtain⟨a,vs,rfl,na,ha,ra⟩:=r1;obtain⟨z,ez,rz⟩:=ra.e_ e2;exact PD value slice pins s σ H _ _ v u Q I rx ry ⟨a,vs,_,z,rfl,r2,.of (P.get ha),ez,k.here P q S rz⟩ hs
   . exact q.elim
theorem UT(ha:PE X a (LE ta))(hb:PE X b (LE tb))(hs:uC b:=by intro _ _;rfl):PE X (.Subscript a b pos) (LE (ai qu ta tb)):=PE.imp (Th UJ ha hb hs) λ _ _ _ h=>LE.op h
def items?(st:ae):D->Option (List D)
 | .lst xs=>some xs
 | .tup xs=>some xs
 | .ref n=>(match st[n]? with|some (.lst xs)=>some xs|_=>none)
 |_=>none
@[simp] theorem Ug(st:ae)(xs:List D):items? st (.lst xs)=some xs:=rfl
@[simp] theorem TR(st:ae)(xs:List D):items? st (.tup xs)=some xs:=rfl
@[simp] theorem items_int(st:ae)(i:Int):items? st (.int i)=none:=rfl
@[simp] theorem UL(st:ae)(i:Bool):items? st (.bl i)=none:=rfl
@[simp] theorem items_str(st:ae)(i:Str):items? st (.str i)=none:=rfl
@[simp] theorem Ub(st:ae):items? st .ao=none:=rfl
theorem ax{st:ae}{n:Nat}{xs:List D}(h:st[n]?=some (.lst xs)):items? st (.ref n)=some xs:=by unfold items?;simp only[h]
theorem oi{α:List (Option Addr)}{H:Hp}{st:ae}{d:D}{v:V}{xs:List D}(S:aJ α st H)(r:Rep α H d v)(e:items? st d=some xs):
 ∃p vs,v= .ref p/\aD α H xs vs/\(Rd H p (.lst vs)\/H p=some (.tup vs)):=by
 cases d<;>try(cases e;done)
 . unfold items? at e;simp only at e;split at e
   . rename_i ys q;cases e;obtain⟨a,ea,vs,h1,h2⟩:=S.eV q;have r':=dh ea r;subst r';exact⟨a,vs,rfl,h2,.inl (.of h1)⟩
   . cases e
 . cases e;unfold Rep at r;obtain⟨a,vs,rfl,_,h1,h2⟩:=r;exact⟨a,vs,rfl,h2,.inl h1⟩
 . cases e;unfold Rep at r;obtain⟨a,vs,rfl,_,h1,h2⟩:=r;exact⟨a,vs,rfl,h2,.inr h1⟩
theorem GD{K:PySem.W.Frag}{G F H:Hp}(P:bQ G F H){p:Addr}{vs:List V}(h:Rd G p (.lst vs)\/G p=some (.tup vs)):ll K H p vs\/hZ K H p vs:=h.elim (λ z=> .inl (.inl (f6 P z))) λ z=> .inr (.of (P.get z))
theorem fO(r:aD α H ds xs)(e:ds=[d]):∃v,xs=[v]/\Rep α H d v:=by
 subst e;unfold aD at r;obtain⟨v,q,rfl,h1,h2⟩:=r;unfold aD at h2;subst h2;exact⟨v,rfl,h1⟩
theorem mE{d e:D}(r:aD α H ds xs)(q:ds=[d,e]):∃v u,xs=[v,u]/\Rep α H d v/\Rep α H e u:=by
 subst q;unfold aD at r;obtain⟨v,q,rfl,h1,h2⟩:=r;obtain⟨u,rfl,h3⟩:=fO h2 rfl;exact⟨v,u,rfl,h1,h3⟩
def AU:dY:=λ ds st K=>match ds with
 | [.str x]=>x.length<=sizeLine/\K (.int x.length) st
 | [d]=>(match items? st d with|some xs=>K (.int xs.length) st|none=>False)
 |_=>False
theorem Sn:bf X (.builtin "len") (ff AU):=λ pins s σ H xs us Q I rs ⟨α,ds,st,K,G,F',P,r,S,q,k⟩=>by
 unfold AU at q;split at q
 . rename_i x;obtain⟨v,rfl,r1⟩:=fO r rfl;unfold Rep at r1;subst r1;exact BC pins s σ H _ us Q I rs ⟨x,rfl,q.1,k.here P q.2 S (by unfold Rep;rfl)⟩
 . rename_i d _;split at q
   . rename_i ys e;obtain⟨v,rfl,r1⟩:=fO r rfl;obtain⟨p,vs,rfl,r2,h⟩:=oi S r1 e;refine BN pins s σ H _ us Q I rs ⟨p,vs,rfl,GD P h,k.here P q S (by unfold Rep;rw[r2.length])⟩
   . exact q.elim
 . exact q.elim
def TY(g:Int->Int):dY:=λ ds st K=>match ds with| [.int i]=>K (.int (g i)) st|_=>False
abbrev Gu:dY:=TY λ i=>if i<0 then-i else i
theorem R7:bf X (.builtin "abs") (ff Gu):=bf.imp Kj λ xs H Q ⟨α,ds,st,K,G,F',P,r,S,q,k⟩=>by
 unfold Gu TY at q;split at q
 . obtain⟨v,rfl,r1⟩:=fO r rfl;unfold Rep at r1;subst r1;exact⟨_,rfl,k.here P q S (by unfold Rep;rfl)⟩
 . exact q.elim
def Ge(g:Int->Int->Int):dY:=λ ds st K=>match ds with| [.int i,.int j]=>K (.int (g i j)) st|_=>False
abbrev Fm:dY:=Ge λ i j=>if j>i then j else i
abbrev Fp:dY:=Ge λ i j=>if j<i then j else i
theorem Ta(hc:X.calm=true):bf X (.builtin "max") (ff Fm):=bf.imp (HK hc) λ xs H Q ⟨α,ds,st,K,G,F',P,r,S,q,k⟩=>by
 unfold Fm Ge at q;split at q
 . obtain⟨v,u,rfl,r1,r2⟩:=mE r rfl;unfold Rep at r1 r2;subst r1 r2;exact⟨_,_,rfl,k.here P q S (by unfold Rep;rfl)⟩
 . exact q.elim
theorem SY(hc:X.calm=true):bf X (.builtin "min") (ff Fp):=bf.imp (Hz hc) λ xs H Q ⟨α,ds,st,K,G,F',P,r,S,q,k⟩=>by
 unfold Fp Ge at q;split at q
 . obtain⟨v,u,rfl,r1,r2⟩:=mE r rfl;unfold Rep at r1 r2;subst r1 r2;exact⟨_,_,rfl,k.here P q S (by unfold Rep;rfl)⟩
 . exact q.elim
def Fq:dY:=λ ds st K=>match ds with| [.int i]=>K (.int i) st| [.bl b]=>K (.int (if b then 1 else 0)) st|_=>False
theorem Sg:bf X (.type "int") (ff Fq):=bf.imp H0 λ xs H Q ⟨α,ds,st,K,G,F',P,r,S,q,k⟩=>by
 unfold Fq at q;split at q
 . obtain⟨v,rfl,r1⟩:=fO r rfl;unfold Rep at r1;subst r1;exact .inl ⟨_,rfl,k.here P q S (by unfold Rep;rfl)⟩
 . obtain⟨v,rfl,r1⟩:=fO r rfl;unfold Rep at r1;subst r1;exact .inr ⟨_,rfl,k.here P q S (by unfold Rep;rfl)⟩
 . exact q.elim
def ud:dY:=λ ds st K=>match ds with| [d]=>(match items? st d with|some xs=>K (.tup xs) st|none=>False)|_=>False
theorem Of:bf X (.type "tuple") (ff ud):=bf.imp Aa λ xs H Q ⟨α,ds,st,K,G,F',P,r,S,q,k⟩=>by
 unfold ud at q;split at q
 . rename_i d;split at q
   . rename_i ys e;obtain⟨v,rfl,r1⟩:=fO r rfl;cases d with
     |tup zs=>
      cases e;have r0:=r1;unfold Rep at r1;obtain⟨a,vs,rfl,na,h1,h2⟩:=r1;exact⟨a,vs,rfl,.inr ⟨.of (P.get h1),k.here P q S r0⟩⟩
     |_=>
      obtain⟨p,vs,rfl,r2,h⟩:=oi S r1 e;refine⟨p,vs,rfl,?_⟩;rcases h with h|h
      . exact .inl ⟨.inl (f6 P h),λ l hl=>k.tup P q S r2 hl⟩
      . first
         |(cases e;done)
         |(exfalso
           unfold items? at e;simp only at e
           first
            |(split at e
              . rename_i z;obtain⟨a,ea,vs',h1,h2⟩:=S.eV z;have e':=dh ea r1;cases e';rw[h]at h1;cases h1
              . cases e)
            |(unfold Rep at r1
              obtain⟨a,vs',e',_,h1,_⟩:=r1;cases e';rcases h1 with h1|⟨o,h1⟩<;>(rw[h]at h1;cases h1)))
   . exact q.elim
 . exact q.elim
def xw:dY:=λ ds st K=>match ds with| [d]=>(match items? st d with|some xs=>K (.lst xs) st|none=>False)|_=>False
theorem Pd:bf X (.type "list") (ff xw):=bf.imp su λ xs H Q ⟨α,ds,st,K,G,F',P,r,S,q,k⟩=>by
 unfold xw at q;split at q
 . split at q
   . rename_i ys e;obtain⟨v,rfl,r1⟩:=fO r rfl;obtain⟨p,vs,rfl,r2,h⟩:=oi S r1 e;exact⟨p,vs,rfl,GD P h,λ l hl=>k.lst P q S r2 hl⟩
   . exact q.elim
 . exact q.elim
def ur:dY:=λ ds st K=>match ds with| [d]=>(match items? st d with|some xs=>K (.ref st.length) (st++[.lst xs])|none=>False)|_=>False
theorem OK:bf X (.type "list") (ff ur):=bf.imp su λ xs H Q ⟨α,ds,st,K,G,F',P,r,S,q,k⟩=>by
 unfold ur at q;split at q
 . split at q
   . rename_i ys e;obtain⟨v,rfl,r1⟩:=fO r rfl;obtain⟨p,vs,rfl,r2,h⟩:=oi S r1 e;exact⟨p,vs,rfl,GD P h,λ l hl=>k.new P q S r2 hl⟩
   . exact q.elim
 . exact q.elim
def i6:List D->Option (List Bool)
 | []=>some []
 | .bl b::r=>(i6 r).map (b:: ·)
 |_::_=>none
def kM:List D->Option (List Int)
 | []=>some []
 | .int b::r=>(kM r).map (b:: ·)
 |_::_=>none
theorem wo:∀ {ds:List D} {vs:List V} {bs:List Bool},aD α H ds vs->i6 ds=some bs->vs=bs.map V.bl
 | [],vs,bs,r,e=>by
   unfold aD at r;cases e;exact r
 |d::ds,vs,bs,r,e=>by
  unfold aD at r;obtain⟨v,q,rfl,h1,h2⟩:=r;cases d<;>try(cases e;done)
  unfold i6 at e;cases z:i6 ds with
  |none=>rw[z]at e;cases e
  |some cs=>
   rw[z]at e;cases e;unfold Rep at h1;rw[h1,wo h2 z];rfl
theorem sQ:∀ {ds:List D} {vs:List V} {bs:List Int},aD α H ds vs->kM ds=some bs->vs=bs.map V.int
 | [],vs,bs,r,e=>by
   unfold aD at r;cases e;exact r
 |d::ds,vs,bs,r,e=>by
  unfold aD at r;obtain⟨v,q,rfl,h1,h2⟩:=r;cases d<;>try(cases e;done)
  unfold kM at e;cases z:kM ds with
  |none=>rw[z]at e;cases e
  |some cs=>
   rw[z]at e;cases e;unfold Rep at h1;rw[h1,sQ h2 z];rfl
theorem xI:∀ {bs:List Bool} {us:List Value},Vals (bs.map V.bl) us->us=bs.map Value.bool
 | [],_,.nil=>rfl
 |b::bs,_,.cons h t=>by
  have h:_=Value.bool b:=h;rw[h,xI t];rfl
def AG:dY:=λ ds st K=>match ds with| [.lst xs]=>(match i6 xs with|some bs=>K (.bl (bs.all id)) st|none=>False)|_=>False
theorem range_all{α:Type}(l:List α)(f:α->Bool)(tr:Nat->Bool)(h:∀i x,l[i]?=some x->tr i=f x):(List.range l.length).all tr=l.all f:=by
 induction l generalizing tr with
 |nil=>rfl
 |cons a l ih=>
  rw[Ws,WS,WY,WY,YO,h 0 a rfl];congr 1;exact ih (tr∘Nat.succ) λ i x e=>h (i+1) x (by simpa using e)
theorem RJ(hc:X.calm=true):bf X (.builtin "all") (ff AG):=λ pins s σ H xs us Q I rs ⟨α,ds,st,K,G,F',P,r,S,q,k⟩=>by
 unfold AG at q;split at q
 . rename_i ys;split at q
   . rename_i bs e;obtain⟨v,rfl,r1⟩:=fO r rfl;unfold Rep at r1;obtain⟨a,vs,rfl,na,h1,h2⟩:=r1;obtain⟨u,rfl,ru⟩:=vals1 rs;cases ru;have hv:=wo h2 e;subst hv;obtain⟨z,aj,n,rv,hl,eo⟩:=Inv.yD I (f6 P h1);have hits:=xI rv;subst hits;have isL:s.heap.IsList a (bs.map Value.bool).toArray:=⟨_,eo,rfl,n,rfl⟩
     refine call_all_walk (Y2 isL ?_);have hne:a≠s.heap.objs.size:=Wy (Wd eo);refine⟨s.heap.objs.size,_,_,_,_,_,λ i=>(bs[i]?).getD true,rfl,Walks.list (A:=X.A.in1) (I.ok.hd hc) _ a hne (bs.map Value.bool).toArray,⟨⟨_,Wq _ rfl,rfl,rfl⟩,⟨_,VY _ eo,rfl,n,rfl⟩⟩,?_,?_⟩
     . intro i w s' Q' E' hP hQ;rw[List.getElem?_toArray,Wn]at hP;cases zb:bs[i]? with
       |none=>rw[zb]at hP;cases hP
       |some b=>
        rw[zb]at hP;cases hP;simp only[zb]at hQ;exact XN hQ
     . intro h' tk hk
       have kp:∀b o,s.heap.get? b=some o->h'.get? b=some o:=λ b o q=>hk b o (by
        intro hb;have:b=s.heap.objs.size:=by simpa using hb
        exact absurd (Wd q) (by rw[this];exact Xs _)) (VY _ q)
       have ea:(List.range (bs.map Value.bool).toArray.size).all (λ i=>(bs[i]?).getD true)=bs.all id:=by
        rw[V2,VO];exact range_all bs id _ λ i x e=>by rw[e];rfl
       rw[ea];exact⟨.bl (bs.all id),H,I.kept (t':=tk) kp,rfl,k.here P q S (by unfold Rep;rfl)⟩
   . exact q.elim
 . exact q.elim
def fh(st:ae):D->Option String
 | .ao=>some "NoneType"
 | .bl _=>some "bool"
 | .int _=>some "int"
 | .str _=>some "str"
 | .lst _=>some "list"
 | .tup _=>some "tuple"
 | .ref n=>(match st[n]? with|some (.lst _)=>some "list"|_=>none)
 | .ty _=>none
@[simp] theorem Vf(st:ae)(xs:List D):fh st (.lst xs)=some "list":=rfl
@[simp] theorem VD(st:ae)(xs:List D):fh st (.tup xs)=some "tuple":=rfl
@[simp] theorem ty_int(st:ae)(i:Int):fh st (.int i)=some "int":=rfl
@[simp] theorem VM(st:ae)(i:Bool):fh st (.bl i)=some "bool":=rfl
@[simp] theorem ty_str(st:ae)(i:Str):fh st (.str i)=some "str":=rfl
@[simp] theorem Vv(st:ae):fh st .ao=some "NoneType":=rfl
def qI(t c:String):Bool:=t==c||(t=="bool"&&c=="int")
theorem Bx{α:List (Option Addr)}{H:Hp}{st:ae}{K:PySem.W.Frag}{d:D}{v:V}{t:String}(S:aJ α st H)(r:Rep α H d v)(e:fh st d=some t):iQ K H v (.type t):=by
 cases d<;>unfold fh at e<;>try(cases e;done)
 . unfold Rep at r;cases e;subst r;exact .ao
 . unfold Rep at r;cases e;subst r;exact .bl _
 . unfold Rep at r;cases e;subst r;exact .int _
 . unfold Rep at r;cases e;subst r;exact .str _
 . simp only at e;split at e
   . rename_i z;cases e;obtain⟨a,ea,vs',h1,h2⟩:=S.eV z;have r':=dh ea r;subst r';exact .lst h1
   . cases e
 . cases e;unfold Rep at r;obtain⟨a,vs,rfl,na,h1,h2⟩:=r;rcases h1 with h1|⟨o,h1⟩
   . exact .lst h1
   . exact .eJ h1
 . cases e;unfold Rep at r;obtain⟨a,vs,rfl,na,h1,h2⟩:=r;exact .tup h1
theorem ED{G F H:Hp}{K:PySem.W.Frag}(P:bQ G F H){x:V}{t:Value}(h:iQ K G x t):iQ K H x t:=by
 cases h with
 |ao=>exact .ao
 |bl x=>exact .bl x
 |int x=>exact .int x
 |str x=>exact .str x
 |uW x=>exact .uW x
 |lst e=>exact .lst (P.get e)
 |eJ e=>exact .eJ (P.get e)
 |tup e=>exact .tup (P.get e)
 |dK e=>exact .dK (P.get e)
 |dT e=>exact .dT (P.get e)
 |ins e a b c d f=>exact .ins (P.get e) a b c d f
def iJ:List String:=["NoneType","bool","int","str","list","tuple"]
def ky:List String:=["bool","int","str","list","tuple"]
theorem Ee(K:PySem.W.Frag)(ht:t∈iJ)(hc:c∈ky):PySem.W.kitOne K (.type t) (.type c)=some (qI t c):=by
 simp only[iJ,ky,V4,Wh,Xn]at ht hc;rcases ht with rfl|rfl|rfl|rfl|rfl|rfl<;>rcases hc with rfl|rfl|rfl|rfl|rfl<;>with_unfolding_all rfl
theorem jt{st:ae}{d:D}{t:String}(e:fh st d=some t):t∈iJ:=by
 cases d<;>unfold fh at e<;>first
  |(cases e;done)
  |(cases e;decide)
  |(simp only at e;split at e<;>cases e;decide)
theorem kitx_of(I:Inv X pins σ H s)(rx:RelV x u)(ty:iQ X.K H x (.type t)):
 ∃Hh:Heap->Prop,PySem.W.KitX X.K u (.type t) Hh/\Hh s.heap/\u≠ .builtin "__main__.__loader__#opaque":=by
 cases ty with
 |ao=>cases (show u=Value.none from rx);exact⟨_,PySem.W.kitx_none,True.intro,λ z=>nomatch z⟩
 |bl y=>cases (show u=Value.bool y from rx);exact⟨_,PySem.W.kitx_bool,True.intro,λ z=>nomatch z⟩
 |int i=>obtain⟨t,q⟩:=(show∃t,u=Value.int i t from rx);cases q;exact⟨_,PySem.W.kitx_int,True.intro,λ z=>nomatch z⟩
 |str y=>obtain⟨t,q⟩:=(show∃t,u=Value.str y t from rx);cases q;exact⟨_,PySem.W.kitx_str,True.intro,λ z=>nomatch z⟩
 |uW y=>obtain⟨t,q⟩:=(show∃t,u=Value.float y t from rx);cases q;exact⟨_,PySem.W.kitx_float,True.intro,λ z=>nomatch z⟩
 | @lst a xs ea=>
   cases (show u=Value.ref a from rx);obtain⟨_,_,n,_,h1⟩:=(show cX X.prog X.w H s.heap a (.lst xs)from I.aC a _ ea)
   exact⟨_,Y0,⟨_,h1,rfl⟩,λ z=>nomatch z⟩
 | @eJ a ob xs ea=>
   cases (show u=Value.ref a from rx);obtain⟨_,_,_,n,_,h1⟩:=(show cX X.prog X.w H s.heap a (.eJ ob (.lst xs))from I.aC a _ ea)
   exact⟨_,Y0,⟨_,h1,rfl⟩,λ z=>nomatch z⟩
 | @tup a xs ea=>
   cases (show u=Value.ref a from rx);obtain⟨_,_,_,p⟩:=(show cX X.prog X.w H s.heap a (.tup xs)from I.aC a _ ea)
   obtain⟨o,h1,h2,_⟩:=p;exact⟨_,PySem.W.kitx_tuple,⟨o,h1,h2⟩,λ z=>nomatch z⟩
 | @dK a kvs ea=>
   cases (show u=Value.ref a from rx);obtain⟨_,_,vs,_,p⟩:=(show cX X.prog X.w H s.heap a (.dK kvs)from I.aC a _ ea)
   obtain⟨o,es,ep,h1,h2,_⟩:=p;exact⟨_,Y1,⟨o,h1,h2.1⟩,λ z=>nomatch z⟩
 | @dT a kvs ea=>
   cases (show u=Value.ref a from rx);obtain⟨_,_,xs,_,o,es,ep,h1,h2,_⟩:=(show cX X.prog X.w H s.heap a (.dT kvs)from I.aC a _ ea)
   exact⟨_,Y1,⟨o,h1,h2.1⟩,λ z=>nomatch z⟩
def mP:List D->Option (List String)
 | []=>some []
 | .ty b::r=>(mP r).map (b:: ·)
 |_::_=>none
theorem Ca:∀ {ds:List D} {vs:List V} {bs:List String},aD α H ds vs->mP ds=some bs->vs=bs.map V.ty
 | [],vs,bs,r,e=>by
   unfold aD at r;cases e;exact r
 |d::ds,vs,bs,r,e=>by
  unfold aD at r;obtain⟨v,q,rfl,h1,h2⟩:=r;cases d<;>try(cases e;done)
  unfold mP at e;cases z:mP ds with
  |none=>rw[z]at e;cases e
  |some cs=>
   rw[z]at e;cases e;unfold Rep at h1;rw[h1,Ca h2 z];rfl
theorem C3:∀ {bs:List String} {us:List Value},Vals (bs.map V.ty) us->us=bs.map Value.type
 | [],_,.nil=>rfl
 |b::bs,_,.cons h t=>by
  have h:_=Value.type b:=h;rw[h,C3 t];rfl
theorem Ec(K:PySem.W.Frag)(ht:t∈iJ):∀cs:List String,(∀c∈cs,c∈ky)->PySem.W.kitAny K (.type t) (cs.map Value.type)=some (cs.any (qI t))
 | [],_=>rfl
 |c::cs,h=>by
  show(match PySem.W.kitOne K (.type t) (.type c)with|some true=>some true|some false=>PySem.W.kitAny K (.type t) (cs.map Value.type)|none=>none)=_;rw[Ee K ht (h c V_),Yl];cases qI t c with
  |true=>rfl
  |false=>exact Ec K ht cs λ c hc=>h c (V5 _ hc)
def xn:dY:=λ ds st K=>match ds with
 | [d,.ty c]=>(match fh st d with|some t=>c∈ky/\K (.bl (qI t c)) st|none=>False)
 | [d,.tup cs]=>(match fh st d,mP cs with|some t,some cl=>(∀c∈cl,c∈ky)/\K (.bl (cl.any (qI t))) st|_,_=>False)
 |_=>False
theorem Sh:bf X (.builtin "isinstance") (ff xn):=λ pins s σ H xs us Q I rs ⟨α,ds,st,K,G,F',P,r,S,q,k⟩=>by
 unfold xn at q;split at q
 . rename_i d c;split at q
   . rename_i t e;obtain⟨v,v2,rfl,r1,r2⟩:=mE r rfl;obtain⟨u,u2,rfl,ru,ru2⟩:=vals2 rs;unfold Rep at r2;subst r2;cases (show u2=Value.type c from ru2);exact IX I ru (ED P (Bx S r1 e)) (Ee _ (jt e) q.1) λ tk=>⟨.bl (qI t c),H,I.tok tk,rfl,k.here P q.2 S (by unfold Rep;rfl)⟩
   . exact q.elim
 . rename_i d cs;split at q
   . rename_i t cl e ec;obtain⟨v,v2,rfl,r1,r2⟩:=mE r rfl;obtain⟨u,u2,rfl,ru,ru2⟩:=vals2 rs;unfold Rep at r2;obtain⟨a,vs,rfl,na,h1,h2⟩:=r2;cases (show u2=Value.ref a from ru2);have hv:=Ca h2 ec;subst hv;obtain⟨Hh,Z,hh,hne⟩:=kitx_of I ru (ED P (Bx S r1 e));obtain⟨aj,r',pl,hz⟩:=I.tuple (hZ.of (P.get h1));have hi:=C3 r';subst hi;obtain⟨⟨cls,dd,data,sl⟩,ho,hc,n,hd⟩:=pl;simp only at hc hd;subst hc hd;exact PySem.W.kia_tup Z I.gu hh ho (Ec _ (jt e) cl q.1) hne λ tk=>⟨.bl _,H,I.tok tk,rfl,k.here P q.2 S (by unfold Rep;rfl)⟩
   . exact q.elim
 . exact q.elim
end
end L3
namespace L3
open PySem PySem.Spec L2 PySem.SeqAt
open PyProof.Rows hiding St
mutual
def cu:D->D->Bool
 | .ao,.ao=>true
 | .bl a,.bl b=>a==b
 | .bl a,.int b=>(if a then 1 else 0)==b
 | .int a,.bl b=>a==(if b then 1 else 0)
 | .int a,.int b=>a==b
 | .str a,.str b=>a==b
 | .lst xs,.lst ys=>fi xs ys
 | .tup xs,.tup ys=>fi xs ys
 |_,_=>false
def fi:List D->List D->Bool
 | [],[]=>true
 |x::xs,y::ys=>cu x y&&fi xs ys
 |_,_=>false
end
def pl:Nat->D->Bool
 |_,.ao=>true
 |_,.bl _=>true
 |_,.int _=>true
 |_,.str _=>true
 |n+1,.lst xs=>xs.all (pl n)
 |n+1,.tup xs=>xs.all (pl n)
 |_,_=>false
mutual
theorem vP:∀(n:Nat) (d:D),pl n d=true->cu d d=true
 |_,.ao,_=>rfl
 |_,.bl _,_=>by simp[cu]
 |_,.int _,_=>by simp[cu]
 |_,.str _,_=>by simp[cu]
 |n+1,.lst xs,h=>by unfold cu;exact tO n xs (by unfold pl at h;exact h)
 |n+1,.tup xs,h=>by unfold cu;exact tO n xs (by unfold pl at h;exact h)
 |0,.lst xs,h=>by cases h
 |0,.tup xs,h=>by cases h
 |_,.ref _,h=>by unfold pl at h;cases h
 |_,.ty _,h=>by unfold pl at h;cases h
theorem tO:∀(n:Nat) (xs:List D),xs.all (pl n)=true->fi xs xs=true
 |_,[],_=>by unfold fi;rfl
 |n,x::xs,h=>by
  rw[WY,Wv]at h;unfold fi;rw[vP n x h.1,tO n xs h.2];rfl
end
mutual
theorem Rep.inj:∀ {d e:D} {v:V} (n:Nat),pl n d=true->pl n e=true->Rep α H d v->Rep α H e v->d=e
 | .ao,e,v,n,_,he,h1,h2=>by
   unfold Rep at h1;subst h1;cases e<;>first|(unfold pl at he;cases he;done)|(unfold Rep at h2;cases h2;rfl)|(unfold Rep at h2;cases h2;done)|(unfold Rep at h2;obtain⟨_,_,h2,_⟩:=h2;cases h2)|rfl|(cases h2;done)|(obtain⟨_,_,h2,_⟩:=h2;cases h2)|(obtain⟨_,_,h2⟩:=h2;cases h2)
 | .bl b,e,v,n,_,he,h1,h2=>by
   unfold Rep at h1;subst h1;cases e<;>first|(unfold pl at he;cases he;done)|(unfold Rep at h2;cases h2;rfl)|(unfold Rep at h2;cases h2;done)|(unfold Rep at h2;obtain⟨_,_,h2,_⟩:=h2;cases h2)|(cases h2;rfl)|(cases h2;done)|(obtain⟨_,_,h2,_⟩:=h2;cases h2)|(obtain⟨_,_,h2⟩:=h2;cases h2)
 | .int b,e,v,n,_,he,h1,h2=>by
   unfold Rep at h1;subst h1;cases e<;>first|(unfold pl at he;cases he;done)|(unfold Rep at h2;cases h2;rfl)|(unfold Rep at h2;cases h2;done)|(unfold Rep at h2;obtain⟨_,_,h2,_⟩:=h2;cases h2)|(cases h2;rfl)|(cases h2;done)|(obtain⟨_,_,h2,_⟩:=h2;cases h2)|(obtain⟨_,_,h2⟩:=h2;cases h2)
 | .str b,e,v,n,_,he,h1,h2=>by
   unfold Rep at h1;subst h1;cases e<;>first|(unfold pl at he;cases he;done)|(unfold Rep at h2;cases h2;rfl)|(unfold Rep at h2;cases h2;done)|(unfold Rep at h2;obtain⟨_,_,h2,_⟩:=h2;cases h2)|(cases h2;rfl)|(cases h2;done)|(obtain⟨_,_,h2,_⟩:=h2;cases h2)|(obtain⟨_,_,h2⟩:=h2;cases h2)
 | .ty b,e,v,n,hd,he,h1,h2=>by unfold pl at hd;cases hd
 | .ref b,e,v,n,hd,he,h1,h2=>by unfold pl at hd;cases hd
 | .lst xs,e,v,0,hd,he,h1,h2=>by cases hd
 | .tup xs,e,v,0,hd,he,h1,h2=>by cases hd
 | .lst xs,e,v,n+1,hd,he,h1,h2=>by
   unfold Rep at h1;obtain⟨a,vs,rfl,na,ha,ra⟩:=h1;cases e<;>unfold Rep at h2<;>try(cases h2;done)
   . unfold pl at he;cases he
   . obtain⟨a',vs',e',na',ha',ra'⟩:=h2;cases e'
     have:vs=vs':=by
      rcases ha with ha|⟨o,ha⟩<;>rcases ha' with ha'|⟨o',ha'⟩<;>(rw[ha]at ha';first|(cases ha';rfl)|(cases ha';done))
     subst this;rw[aD.inj n (by unfold pl at hd;exact hd) (by unfold pl at he;exact he) ra ra']
   . obtain⟨a',vs',e',na',ha',ra'⟩:=h2;cases e';rcases ha with ha|⟨o,ha⟩<;>(rw[ha]at ha';cases ha')
 | .tup xs,e,v,n+1,hd,he,h1,h2=>by
   unfold Rep at h1;obtain⟨a,vs,rfl,na,ha,ra⟩:=h1;cases e<;>unfold Rep at h2<;>try(cases h2;done)
   . unfold pl at he;cases he
   . obtain⟨a',vs',e',na',ha',ra'⟩:=h2;cases e';rcases ha' with ha'|⟨o,ha'⟩<;>(rw[ha]at ha';cases ha')
   . obtain⟨a',vs',e',na',ha',ra'⟩:=h2;cases e';rw[ha]at ha';cases ha';rw[aD.inj n (by unfold pl at hd;exact hd) (by unfold pl at he;exact he) ra ra']
theorem aD.inj:∀ {ds es:List D} {vs:List V} (n:Nat),ds.all (pl n)=true->es.all (pl n)=true->aD α H ds vs->aD α H es vs->ds=es
 | [],es,vs,n,_,_,h1,h2=>by
   unfold aD at h1;subst h1;cases es with
   |nil=>rfl
   |cons e es=>unfold aD at h2;obtain⟨_,_,h,_⟩:=h2;cases h
 |d::ds,es,vs,n,hd,he,h1,h2=>by
  unfold aD at h1;obtain⟨v,r,rfl,r1,r2⟩:=h1;cases es with
  |nil=>unfold aD at h2;cases h2
  |cons e es=>
   unfold aD at h2;obtain⟨v',r',h,q1,q2⟩:=h2;cases h;rw[WY,Wv]at hd he;rw[Rep.inj n hd.1 he.1 r1 q1,aD.inj n hd.2 he.2 r2 q2]
end
theorem kl:∀ {xs ys:List D},xs.length≠ys.length->fi xs ys=false
 | [],[],h=>absurd rfl h
 | [],_::_,_=>by unfold fi;rfl
 |_::_,[],_=>by unfold fi;rfl
 |x::xs,y::ys,h=>by
  unfold fi;rw[kl (by simpa using h),aaB]
theorem nO:∀ {xs ys:List D},xs.length=ys.length->fi xs ys=(List.range xs.length).all λ j=>cu (xs.getD j .ao) (ys.getD j .ao)
 | [],[],_=>by unfold fi;rfl
 | [],_::_,h=>by cases h
 |_::_,[],h=>by cases h
 |x::xs,y::ys,h=>by
  unfold fi;rw[Ws,WS,WY,YO,nO (by simpa using h)];rfl
section
variable {X:Cx}{pins:List (Addr×Obj)}{σ:L2.St}{H:Hp}{s:Shared}{α:List (Option Addr)}
theorem jv(r:aD α H xs vs)(v:Vals vs aj)(j:Nat)(hj:j<aj.length):∃x,xs[j]?=some (xs.getD j .ao)/\Rep α H (xs.getD j .ao) x/\RelV x aj[j]:=by
 have h1:=r.length;have h2:=v.length;have hx:j<xs.length:=by omega
 have e:xs[j]?=some (xs.getD j .ao):=by rw[V0 hx,V1,V0 hx];rfl
 obtain⟨x,q,rr⟩:=r.get e;obtain⟨u,q2,rv⟩:=v.get q;rw[V0 hj]at q2;cases q2;exact⟨x,e,rr,rv⟩
theorem ij{xs:List D}{n:Nat}(h:xs.all (pl n)=true)(j:Nat):pl n (xs.getD j .ao)=true:=by
 rw[V1];cases e:xs[j]? with
 |none=>cases n<;>rfl
 |some d=>exact Wm.mp h d (Wa e)
def zX:D->Bool
 | .ao=>true
 | .bl _=>true
 | .int _=>true
 | .str _=>true
 |_=>false
theorem Ef{d e:D}(hd:zX d=true)(he:zX e=true)(rd:Rep α H d x)(re:Rep α H e y)(rx:RelV x u)(ry:RelV y v):RcAt A s u v (cu d e)/\EqAt A s u v (cu d e):=by
 cases d<;>cases e<;>try(first|(cases hd;done)|(cases he;done))
 all_goals(unfold Rep at rd re;subst rd re)
 all_goals(first|(obtain⟨t,rfl⟩:=rx;obtain⟨t',rfl⟩:=ry)|(obtain⟨t,rfl⟩:=rx;cases ry)|(cases rx;obtain⟨t,rfl⟩:=ry)|(cases rx;cases ry))
 all_goals unfold cu
 . exact⟨RcAt.none_none,EqAt.same _⟩
 . exact⟨RcAt.none_bool _,EqAt.none_bool _⟩
 . exact⟨RcAt.none_int _ _,EqAt.none_int _ _⟩
 . exact⟨RcAt.none_str _ _,EqAt.none_str _ _⟩
 . exact⟨RcAt.bool_none _,EqAt.bool_none _⟩
 . exact⟨RcAt.bool_bool _ _,EqAt.bool_bool _ _⟩
 . exact⟨RcAt.bool_int _ _ _,EqAt.bool_int _ _ _⟩
 . exact⟨RcAt.bool_str _ _ _,EqAt.bool_str _ _ _⟩
 . exact⟨RcAt.int_none _ _,EqAt.int_none _ _⟩
 . exact⟨RcAt.int_bool _ _ _,EqAt.int_bool _ _ _⟩
 . exact⟨RcAt.int_int _ _ _ _,EqAt.int_int _ _ _ _⟩
 . exact⟨RcAt.int_str _ _ _ _,EqAt.int_str _ _ _ _⟩
 . exact⟨RcAt.str_none _ _,EqAt.str_none _ _⟩
 . exact⟨RcAt.str_bool _ _ _,EqAt.str_bool _ _ _⟩
 . exact⟨RcAt.str_int _ _ _ _,EqAt.str_int _ _ _ _⟩
 . exact⟨RcAt.str_str _ _ _ _,EqAt.str_str _ _ _ _⟩
theorem lst_is(I:Inv X pins σ H s)(r:Rep α H (.lst xs) x)(rx:RelV x u):∃a vs aj,u= .ref a/\aD α H xs vs/\Vals vs aj/\s.heap.IsList a aj.toArray:=by
 unfold Rep at r;obtain⟨a,vs,rfl,na,ha,ra⟩:=r;cases rx;obtain⟨z,aj,n,rv,hl,eo⟩:=Inv.yD I ha;exact⟨a,vs,aj,rfl,ra,rv,⟨_,eo,rfl,n,rfl⟩⟩
theorem tup_is(I:Inv X pins σ H s)(r:Rep α H (.tup xs) x)(rx:RelV x u):∃a vs aj,u= .ref a/\aD α H xs vs/\Vals vs aj/\s.heap.IsTuple a aj.toArray:=by
 unfold Rep at r;obtain⟨a,vs,rfl,na,ha,ra⟩:=r;cases rx;obtain⟨aj,r',p,hz⟩:=I.tuple (hZ.of ha);exact⟨a,vs,aj,rfl,ra,r',p⟩
theorem yU(I:Inv X pins σ H s){e:D}(he:zX e=true)(rd:Rep α H (.lst xs) x)(re:Rep α H e y)(rx:RelV x u)(ry:RelV y v)(hu:A.units<cLine):
 (RcAt A s u v (cu (.lst xs) e)/\EqAt A s u v (cu (.lst xs) e))/\RcAt A s v u (cu e (.lst xs))/\EqAt A s v u (cu e (.lst xs)):=by
 obtain⟨a,vs,aj,rfl,_,_,hl⟩:=lst_is I rd rx;cases e<;>try(cases he;done)
 all_goals(unfold Rep at re;subst re)
 all_goals(first|(obtain⟨t,rfl⟩:=ry)|(cases ry))
 all_goals unfold cu
 . exact⟨⟨RcAt.list_none hl hu,EqAt.list_none hl hu⟩,RcAt.none_list hl hu,EqAt.none_list hl hu⟩
 . exact⟨⟨RcAt.list_bool _ hl hu,EqAt.list_bool _ hl hu⟩,RcAt.bool_list _ hl hu,EqAt.bool_list _ hl hu⟩
 . exact⟨⟨RcAt.list_int _ _ hl hu,EqAt.list_int _ _ hl hu⟩,RcAt.int_list _ _ hl hu,EqAt.int_list _ _ hl hu⟩
 . exact⟨⟨RcAt.list_str _ _ hl hu,EqAt.list_str _ _ hl hu⟩,RcAt.str_list _ _ hl hu,EqAt.str_list _ _ hl hu⟩
theorem zT(I:Inv X pins σ H s){e:D}(he:zX e=true)(rd:Rep α H (.tup xs) x)(re:Rep α H e y)(rx:RelV x u)(ry:RelV y v)(hu:A.units<cLine):
 (RcAt A s u v (cu (.tup xs) e)/\EqAt A s u v (cu (.tup xs) e))/\RcAt A s v u (cu e (.tup xs))/\EqAt A s v u (cu e (.tup xs)):=by
 obtain⟨a,vs,aj,rfl,_,_,hl⟩:=tup_is I rd rx;cases e<;>try(cases he;done)
 all_goals(unfold Rep at re;subst re)
 all_goals(first|(obtain⟨t,rfl⟩:=ry)|(cases ry))
 all_goals unfold cu
 . exact⟨⟨RcAt.tuple_none hl hu,EqAt.tuple_none hl hu⟩,RcAt.none_tuple hl hu,EqAt.none_tuple hl hu⟩
 . exact⟨⟨RcAt.tuple_bool _ hl hu,EqAt.tuple_bool _ hl hu⟩,RcAt.bool_tuple _ hl hu,EqAt.bool_tuple _ hl hu⟩
 . exact⟨⟨RcAt.tuple_int _ _ hl hu,EqAt.tuple_int _ _ hl hu⟩,RcAt.int_tuple _ _ hl hu,EqAt.int_tuple _ _ hl hu⟩
 . exact⟨⟨RcAt.tuple_str _ _ hl hu,EqAt.tuple_str _ _ hl hu⟩,RcAt.str_tuple _ _ hl hu,EqAt.str_tuple _ _ hl hu⟩
theorem Eu{d e:D}(hd:pl n d=true)(he:pl n e=true)(rd:Rep α H d x)(re:Rep α H e y)(rx:RelV x (.ref a))(ry:RelV y (.ref b))(h:RcAt A s (.ref a) (.ref b) (cu d e)):
 RcAt A s (.ref a) (.ref b) (cu d e)/\EqAt A s (.ref a) (.ref b) (cu d e):=by
 refine⟨h,?_⟩;by_cases hab:a=b
 . subst hab;have hx:x=y:=RelV.inj rx ry;subst hx;have:=Rep.inj n hd he rd re;subst this;rw[vP n d hd];exact EqAt.same _
 . exact EqAt.of_refs hab h
theorem AS(I:Inv X pins σ H s):∀(n:Nat) (A:Around) (d e:D) (x y:V) (u v:Value),pl n d=true->pl n e=true->Rep α H d x->Rep α H e y->RelV x u->RelV y v->A.units+n<cLine->
 RcAt A s u v (cu d e)/\EqAt A s u v (cu d e):=by
 intro n;induction n with
 |zero=>
  intro A d e x y u v hd he rd re rx ry hu;refine Ef ?_ ?_ rd re rx ry
  . cases d<;>first|rfl|(cases hd)
  . cases e<;>first|rfl|(cases he)
 |succ n ih=>
  intro A d e x y u v hd he rd re rx ry hu;have hu0:A.units<cLine:=by omega
  have hin:A.in1.units+n<cLine:=by rw[Around.in1_units];omega
  cases d<;>try(cases hd;done)
  case lst xs=>
   cases e<;>try(cases he;done)
   case lst ys=>
    have rd0:=rd;have re0:=re;have rx0:=rx;have ry0:=ry;obtain⟨a,vs,aj,rfl,r1,v1,l1⟩:=lst_is I rd rx;obtain⟨b,ws,jts,rfl,r2,v2,l2⟩:=lst_is I re ry;have e1:=r1.length;have e2:=v1.length;have e3:=r2.length;have e4:=v2.length;refine Eu hd he rd0 re0 rx0 ry0 ?_;unfold cu;by_cases hlen:xs.length=ys.length
    . rw[nO hlen];have hsz:aj.toArray.size=jts.toArray.size:=by simp only[V2];omega
      have hx:xs.length=aj.toArray.size:=by simp only[V2];omega
      rw[hx];refine RcAt.lists l1 l2 hsz hu0 λ j h1 h2=>?_;have h1':j<aj.length:=by simpa using h1
      have h2':j<jts.length:=by simpa using h2
      obtain⟨p,_,q1,q2⟩:=jv r1 v1 j h1';obtain⟨p',_,q1',q2'⟩:=jv r2 v2 j h2';exact(ih A.in1 _ _ p p' _ _ (ij (by unfold pl at hd;exact hd) j) (ij (by unfold pl at he;exact he) j) q1 q1' (by simpa using q2) (by simpa using q2') hin).2
    . rw[kl hlen];exact RcAt.lists_lengths l1 l2 (by simp only[V2,Zv,ne_eq];omega) hu0
   case tup ys=>
    obtain⟨a,vs,aj,rfl,r1,v1,l1⟩:=lst_is I rd rx;obtain⟨b,ws,jts,rfl,r2,v2,l2⟩:=tup_is I re ry;unfold cu;exact⟨RcAt.list_tuple l1 l2 hu0,EqAt.list_tuple l1 l2 hu0⟩
   all_goals exact(yU I rfl rd re rx ry hu0).1
  case tup xs=>
   cases e<;>try(cases he;done)
   case tup ys=>
    have rd0:=rd;have re0:=re;have rx0:=rx;have ry0:=ry;obtain⟨a,vs,aj,rfl,r1,v1,l1⟩:=tup_is I rd rx;obtain⟨b,ws,jts,rfl,r2,v2,l2⟩:=tup_is I re ry;have e1:=r1.length;have e2:=v1.length;have e3:=r2.length;have e4:=v2.length;refine Eu hd he rd0 re0 rx0 ry0 ?_;unfold cu
    have key:=RcAt.tuples (e:=λ j=>cu (xs.getD j .ao) (ys.getD j .ao)) l1 l2 hu0 λ j h1 h2=>by
     have h1':j<aj.length:=by simpa using h1
     have h2':j<jts.length:=by simpa using h2
     obtain⟨p,_,q1,q2⟩:=jv r1 v1 j h1';obtain⟨p',_,q1',q2'⟩:=jv r2 v2 j h2';exact(ih A.in1 _ _ p p' _ _ (ij (by unfold pl at hd;exact hd) j) (ij (by unfold pl at he;exact he) j) q1 q1' (by simpa using q2) (by simpa using q2') hin).2
    by_cases hlen:xs.length=ys.length
    . rw[nO hlen];have hsz:aj.toArray.size=jts.toArray.size:=by simp only[V2];omega
      have hx:xs.length=aj.toArray.size:=by simp only[V2];omega
      rw[hsz,aaf,Ze,Bool.and_true,<-hsz,<-hx]at key;exact key
    . rw[kl hlen];have hne:(aj.toArray.size==jts.toArray.size)=false:=by simp only[V2,XS,ne_eq];omega
      rw[hne,aaB]at key;exact key
   case lst ys=>
    obtain⟨a,vs,aj,rfl,r1,v1,l1⟩:=tup_is I rd rx;obtain⟨b,ws,jts,rfl,r2,v2,l2⟩:=lst_is I re ry;unfold cu;exact⟨RcAt.tuple_list l1 l2 hu0,EqAt.tuple_list l1 l2 hu0⟩
   all_goals exact(zT I rfl rd re rx ry hu0).1
  all_goals
   cases e<;>try(cases he;done)
   case lst ys=>exact(yU I rfl re rd ry rx hu0).2
   case tup ys=>exact(zT I rfl re rd ry rx hu0).2
   all_goals exact Ef rfl rfl rd re rx ry
def PF:cJ:=λ x y st K=>pl 40 x=true/\pl 40 y=true/\K (.bl (cu x y)) st
theorem UQ{k:Nat}(hr:cF k X.A):br X (compareOp .Eq) (LR PF):=λ pins s σ H x y v u Q I rx ry ⟨α,d,e,st,K,G,F',P,r1,r2,S,q,k⟩=>by
 have hu:=hr.units;exact(AS I 40 X.A d e x y v u q.1 q.2.1 (r1.mono P.same) (r2.mono P.same) rx ry (by omega)).1 _ _ _ _ ⟨.bl (cu d e),H,I,rfl,k.here P q.2.2 S (by unfold Rep;rfl)⟩
def Pp:cJ:=λ x y st K=>match x,y with
 | .int i,.int j=>K (.bl (!decide (i=j))) st
 | .bl i,.bl j=>K (.bl (!decide (i=j))) st
 | .str i,.str j=>K (.bl (!decide (i=j))) st
 |_,_=>False
theorem U_:br X (compareOp .NotEq) (LR Pp):=br.imp Sf λ x y H Q ⟨α,d,e,st,K,G,F',P,r1,r2,S,q,k⟩=>by
 cases d<;>cases e<;>try exact q.elim
 all_goals(unfold Rep at r1 r2;subst r1 r2)
 . exact⟨rfl,k.here P q S (by unfold Rep;congr 2;exact Zf.mpr ⟨λ h=>by cases h;rfl,λ h=>by rw[h]⟩)⟩
 . exact⟨rfl,k.here P q S (by unfold Rep;congr 2;exact Zf.mpr ⟨λ h=>by cases h;rfl,λ h=>by rw[h]⟩)⟩
 . exact⟨rfl,k.here P q S (by unfold Rep;congr 2;exact Zf.mpr ⟨λ h=>by cases h;rfl,λ h=>by rw[h]⟩)⟩
end
end L3
namespace L3
open PySem PySem.Spec L2
open PyProof.Rows hiding St
def LC(α:List (Option Addr))(G F:Hp)(K:bo->ae->Prop)(Q:L2.St->Hp->Prop):Prop:=∀σd' st',K σd' st'->∀α' G' H' σ',Step α G α' G'->bQ G' F H'->dm α' G' σd' σ'->aJ α' st' G'->Q σ' H'
structure AW(α:List (Option Addr))(G F:Hp)(DD:kG)(D:Ends):Prop where
 nx:LC α G F DD.nx D.nx
 rt:LK α G F DD.rt D.rt
 bk:LC α G F DD.bk D.bk
 ct:LC α G F DD.ct D.ct
inductive Ud(t:DS)(D:Ends)(σ:L2.St)(H:Hp):Prop
 |mk (α:List (Option Addr)) (σd:bo) (st:ae) (DD:kG) (G F:Hp) (P:bQ G F H) (R:dm α G σd σ) (S:aJ α st G) (h:t DD σd st) (k:AW α G F DD D):Ud t D σ H
def LS(t:DS):TS:=Ud t
theorem LC.at{α α1:List (Option Addr)}{G F G1:Hp}{K:bo->ae->Prop}{Q:L2.St->Hp->Prop}(h:LC α G F K Q)(s:Step α G α1 G1):LC α1 G1 F K Q:=λ d st' k α' G' H' v s' P R S=>h d st' k α' G' H' v (s.trans s') P R S
theorem LC.here{α:List (Option Addr)}{G F H:Hp}{K:bo->ae->Prop}{Q:L2.St->Hp->Prop}(h:LC α G F K Q)(P:bQ G F H){σd:bo}{st:ae}{σ:L2.St}(k:K σd st)(R:dm α G σd σ)(S:aJ α st G):Q σ H:=h σd st k α G H σ Step.refl P R S
theorem AW.at{D:Ends}(h:AW α G F DD D)(s:Step α G α1 G1):AW α1 G1 F DD D:=⟨h.nx.at s,h.rt.at s,h.bk.at s,h.ct.at s⟩
section
variable {X:Cx}{a b c e o i:Expr}{es:List Expr}{ta tb tc te:DE}{pos:Pos}{st:Stmt}{sts:List Stmt}{t u:DS}
theorem PS.imp{t t':TS}(h:PS X st t)(f:∀D σ H,t' D σ H->t D σ H):PS X st t':=λ pins s σ H D I q=>h pins s σ H D I (f D σ H q)
theorem gw.imp{t t':TS}(h:gw X sts t)(f:∀D σ H,t' D σ H->t D σ H):gw X sts t':=λ pins s σ H D I q=>h pins s σ H D I (f D σ H q)
def bO:DS:=λ D σ st=>D.nx σ st
def aB(t u:DS):DS:=λ D σ st=>t {D with nx:=u D} σ st
theorem NT:gw X [] (LS bO):=gw.imp N_ λ D σ H ⟨α,σd,st,DD,G,F,P,R,S,t,k⟩=>k.nx.here P t R S
theorem NO(h:PS X st (LS t)):gw X [st] (LS t):=NJ h
theorem Kw(h:PS X st (LS t))(h2:gw X sts (LS u)):gw X (st::sts) (LS (aB t u)):=gw.imp (Lf h h2) λ D σ H ⟨α,σd,st,DD,G,F,P,R,S,t,k⟩=>
 ⟨α,σd,st,_,G,F,P,R,S,t,λ σd' st' q α' G' H' σ' s' P' R' S'=>⟨α',σd',st',DD,G',F,P',R',S',q,k.at s'⟩,k.rt,k.bk,k.ct⟩
def aN(te:DE):DS:=λ D σ st=>te σ st D.rt
theorem Rn(h:PE X e (LE te)):PS X (.Return (some e) pos) (LS (aN te)):=PS.imp (Ph h) λ D σ H ⟨α,σd,st,DD,G,F,P,R,S,t,k⟩=>⟨α,σd,st,_,G,F,P,R,S,t,k.rt⟩
def jI(te:DE):DS:=λ D σ st=>te σ st λ _ st1=>D.nx σ st1
theorem OE(h:PE X e (LE te))(hs:swapsWith e none pos.line X.env=pure false:=by rfl):PS X (.Expr e pos) (LS (jI te)):=PS.imp (OI h hs) λ D σ H ⟨α,σd,st,DD,G,F,P,R,S,t,k⟩=>
 ⟨α,σd,st,_,G,F,P,R,S,t,λ d st1 q α1 G1 H1 v s1 P1 S1 r1=>(k.nx.at s1).here P1 q (R.step s1) S1⟩
def cf(c:DT)(t u:DS):DS:=λ D σ st=>c σ st λ b st1=>if b=true then t D σ st1 else u D σ st1
theorem RM{tc:DT}(hc:PT X c (LT tc))(ha:gw X x (LS t))(hb:gw X y (LS u)):PS X (.If c x y pos) (LS (cf tc t u)):=PS.imp (R0 hc ha hb) λ D σ H ⟨α,σd,st,DD,G,F,P,R,S,t,k⟩=>by
 refine⟨α,σd,st,_,G,F,P,R,S,t,λ b st1 q α1 G1 H1 s1 P1 S1=>?_⟩;cases b with
 |true=>exact⟨α1,σd,st1,DD,G1,F,P1,R.step s1,S1,q,k.at s1⟩
 |false=>exact⟨α1,σd,st1,DD,G1,F,P1,R.step s1,S1,q,k.at s1⟩
abbrev dU:=D->bo->Option bo
def aM(i:Nat):dU:=λ d σ=>some (σ.set i (some d))
def fI(i j:Nat):dU:=λ d σ=>match d with| .tup [x,y]=>some ((σ.set i (some x)).set j (some y))|_=>none
inductive T3(t:dU)(v:V)(σ:L2.St)(H:Hp)(Q:L2.St->Hp->Prop):Prop
 |mk (α:List (Option Addr)) (σd:bo) (st:ae) (d:D) (K:bo->ae->Prop) (G F:Hp) (P:bQ G F H) (R:dm α G σd σ) (S:aJ α st G) (r:Rep α G d v) (h:∃σ',t d σd=some σ'/\K σ' st) (k:LC α G F K Q):T3 t v σ H Q
def LG(t:dU):TG:=T3 t
theorem PG.imp{t t':TG}(h:PG X tg t)(f:∀v σ H Q,t' v σ H Q->t v σ H Q):PG X tg t':=λ pins s σ H v u Q I r q=>h pins s σ H v u Q I r (f v σ H Q q)
theorem OZ{tg:Expr}{i:Nat}(h:PG X tg (kP i)):PG X tg (LG (aM i)):=PG.imp h λ v σ H Q ⟨α,σd,st,d,K,G,F,P,R,S,r,⟨σ',e,q⟩,k⟩=>by
 cases e;exact k.here P q (R.set i r) S
theorem Ra{tg:Expr}{i j:Nat}(h:PG X tg (Rj X.K 2 (xH (kP i) (xH (kP j) J9)))):PG X tg (LG (fI i j)):=PG.imp h λ v σ H Q ⟨α,σd,st,d,K,G,F,P,R,S,r,⟨σ',e,q⟩,k⟩=>by
 unfold fI at e;split at e
 . rename_i x y;cases e;unfold Rep at r;obtain⟨a,vs,rfl,na,h1,h2⟩:=r;obtain⟨v1,v2,rfl,r1,r2⟩:=mE h2 rfl;exact⟨a,_,rfl,.of (P.get h1),rfl,v1,_,rfl,v2,_,rfl,rfl,k.here P q ((R.set i r1).set j r2) S⟩
 . cases e
def a6(i:Nat)(te:DE):DS:=λ D σ st=>te σ st λ d st1=>D.nx (σ.set i (some d)) st1
theorem Qw{i:Nat}(h:PS X st (kv (LE te) (kP i))):PS X st (LS (a6 i te)):=PS.imp h λ D σ H ⟨α,σd,st,DD,G,F,P,R,S,t,k⟩=>
 ⟨α,σd,st,_,G,F,P,R,S,t,λ d st1 q α1 G1 H1 v s1 P1 S1 r1=>(k.nx.at s1).here P1 q ((R.step s1).set i r1) S1⟩
def x4(tg:dU)(te:DE):DS:=λ D σ st=>te σ st λ d st1=>∃σ',tg d σ=some σ'/\D.nx σ' st1
theorem Qo(h:PS X st (kv (LE te) (LG tg))):PS X st (LS (x4 tg te)):=PS.imp h λ D σ H ⟨α,σd,st,DD,G,F,P,R,S,t,k⟩=>
 ⟨α,σd,st,_,G,F,P,R,S,t,λ d st1 q α1 G1 H1 v s1 P1 S1 r1=>⟨α1,σd,st1,d,DD.nx,G1,F,P1,R.step s1,S1,r1,q,k.nx.at s1⟩⟩
def GH(i:Nat)(r:cJ)(te:DE):DS:=λ D σ st=>match σ[i]? with|some (some x)=>te σ st λ y st1=>r x y st1 λ z st2=>D.nx (σ.set i (some z)) st2|_=>False
def Dl(f:Int->Int->Int):cJ:=λ x y st K=>match x,y with| .int i,.int j=>K (.int (f i j)) st|_,_=>False
theorem QV{i:Nat}{f:Int->Int->Int}(h:PS X st (Py i (LE te) (PU f))):PS X st (LS (GH i (Dl f) te)):=PS.imp h λ D σ H ⟨α,σd,st,DD,G,F,P,R,S,t,k⟩=>by
 unfold GH at t;split at t
 . rename_i x e;obtain⟨v,ev,rv⟩:=R.at' i x e;refine⟨v,ev,α,σd,st,_,G,F,P,R,S,t,λ y st1 q α1 G1 H1 w s1 P1 S1 r1=>?_⟩;cases x<;>cases y<;>try exact q.elim
   have rv':=rv;unfold Rep at rv r1;exact⟨_,_,rv,r1,(k.nx.at s1).here P1 q ((R.step s1).set i (by unfold Rep;rfl)) S1⟩
 . exact t.elim
def C7(x y d:D)(st:ae)(K:ae->Prop):Prop:=match x,y with
 | .ref n,.int k=>(match st[n]? with
   |some (.lst xs)=>(match j4 xs.length k with|some j=>K (st.set n (.lst (xs.set j d)))|none=>False)
   |_=>False)
 |_,_=>False
def QQ(to ti te:DE):DS:=λ D σ st=>te σ st λ d st1=>to σ st1 λ x st2=>ti σ st2 λ y st3=>C7 x y d st3 λ st4=>D.nx σ st4
theorem J8(h:PS X st (kv (LE te) (yf (LE to) (LE ti) uD))):PS X st (LS (QQ to ti te)):=PS.imp h λ D σ H ⟨α,σd,st,DD,G,F,P,R,S,t,k⟩=>by
 refine⟨α,σd,st,_,G,F,P,R,S,t,λ d st1 q α1 G1 H1 v s1 P1 S1 r1=>?_⟩;refine⟨α1,σd,st1,_,G1,F,P1,R.step s1,S1,q,λ x st2 q2 α2 G2 H2 v2 s2 P2 S2 r2=>?_⟩;refine⟨α2,σd,st2,_,G2,F,P2,(R.step s1).step s2,S2,q2,λ y st3 q3 α3 G3 H3 v3 s3 P3 S3 r3=>?_⟩;cases x<;>cases y<;>try exact q3.elim
 rename_i n kk;unfold C7 at q3;simp only at q3;split at q3
 . rename_i xs e;split at q3
   . rename_i j ej;obtain⟨p,ep,vs,hv,rv⟩:=S3.eV e;have r2':=dh ep (r2.step s3);subst r2';unfold Rep at r3;have hm:some p∈α3:=Wa ep;have rd:=(r1.step s2).step s3;refine⟨p,vs,kk,j,rfl,r3,P3.get hv,by rw[<-rv.length];exact ej,?_⟩;refine(((k.nx.at s1).at s2).at s3) σd _ q3 α3 (upd G3 p (.lst (vs.set j v))) _ σ (Step.write hm) (P3.write hv) ((((R.step s1).step s2).step s3).step (Step.write hm)) ?_;exact S3.write ep ⟨vs.set j v,aS,(aV.mpr (qx rd j (aV.mp rv))).step (Step.write hm)⟩
   . exact q3.elim
 . exact q3.elim
def tH(c:DT)(tb:DS):DS:=λ D σ st=>∃W:Nat->bo->ae->Prop,(∃m,W m σ st)/\∀m σ st,W m σ st->
 c σ st λ b st1=>if b=true then tb {D with nx:=λ σ' st'=>∃m',m'<m/\W m' σ' st',ct:=λ σ' st'=>∃m',m'<m/\W m' σ' st',bk:=D.nx} σ st1 else D.nx σ st1
theorem Lx{tc:DT}(h:PS X st (IV (LT tc) (LS t))):PS X st (LS (tH tc t)):=PS.imp h λ D σ H ⟨α,σd,st,DD,G,F,P,R,S,⟨W,⟨m0,w0⟩,turn⟩,k⟩=>by
 refine⟨λ m σ' H'=>∃α' σd' st' G',Step α G α' G'/\bQ G' F H'/\dm α' G' σd' σ'/\aJ α' st' G'/\W m σd' st',⟨m0,α,σd,st,G,Step.refl,P,R,S,w0⟩,?_⟩;rintro m σ1 H1 ⟨α1,σd1,st1,G1,s1,P1,R1,S1,w1⟩;refine⟨α1,σd1,st1,_,G1,F,P1,R1,S1,turn m σd1 st1 w1,λ b st2 q α2 G2 H2 s2 P2 S2=>?_⟩;cases b with
 |false=>exact((k.nx.at s1).at s2).here P2 q (R1.step s2) S2
 |true=>
  refine⟨λ σ' H'=>∃m',m'<m/\∃α' σd' st' G',Step α G α' G'/\bQ G' F H'/\dm α' G' σd' σ'/\aJ α' st' G'/\W m' σd' st',λ σ' H' z=>z,?_⟩;refine⟨α2,σd1,st2,_,G2,F,P2,R1.step s2,S2,q,?_⟩;refine⟨?_,(k.rt.at s1).at s2,(k.nx.at s1).at s2,?_⟩
  . rintro σd3 st3 ⟨m',hm,w3⟩ α3 G3 H3 σ3 s3 P3 R3 S3;exact⟨m',hm,α3,σd3,st3,G3,(s1.trans s2).trans s3,P3,R3,S3,w3⟩
  . rintro σd3 st3 ⟨m',hm,w3⟩ α3 G3 H3 σ3 s3 P3 R3 S3;exact⟨m',hm,α3,σd3,st3,G3,(s1.trans s2).trans s3,P3,R3,S3,w3⟩
abbrev DI:=bo->ae->(List D->(ae->Prop)->ae->Prop)->Prop
structure yo(J:It)(α:List (Option Addr))(G:Hp)(ok:ae->Prop)(xs:List D):Prop where
 stop:∀(n:Nat) α' G' F' H' st',Step α G α' G'->bQ G' F' H'->aJ α' st' G'->ok st'->xs.length<=n->J.stop n H'
 go:∀(n:Nat) d α' G' F' H' st',Step α G α' G'->bQ G' F' H'->aJ α' st' G'->ok st'->xs[n]?=some d->J.go n H'
 oV:∀(n:Nat) d α' G' F' H' st' x H'',Step α G α' G'->bQ G' F' H'->aJ α' st' G'->ok st'->xs[n]?=some d->J.oV n H' x H''->∃G'',Step α' G' α' G''/\bQ G'' F' H''/\aJ α' st' G''/\Rep α' G'' d x
def LI(t:DI):TI:=λ σ H R=>∃α σd st K G F,bQ G F H/\dm α G σd σ/\aJ α st G/\t σd st K/\∀xs ok st1,K xs ok st1->∀J α1 G1 H1,Step α G α1 G1->bQ G1 F H1->aJ α1 st1 G1->yo J α1 G1 ok xs->R J H1
def yG(d:D)(st1:ae)(K:List D->(ae->Prop)->ae->Prop):Prop:=match d with
 | .lst xs=>K xs (λ _=>True) st1
 | .tup xs=>K xs (λ _=>True) st1
 | .ref n=>(match st1[n]? with|some (.lst xs)=>K xs (λ st'=>st'[n]?=some (.lst xs)) st1|_=>False)
 |_=>False
def RT(t:DE):DI:=λ σ st K=>t σ st λ d st1=>yG d st1 K
theorem EE{K:PySem.W.Frag}{a:Addr}{α:List (Option Addr)}{G:Hp}{ok:ae->Prop}{xs:List D}
 (h:∀α' G' st',Step α G α' G'->aJ α' st' G'->ok st'->∃vs,Rd G' a (.lst vs)/\aD α' G' xs vs):yo (O7 K a) α G ok xs where
 stop:=λ n α' G' F' H' st' s P S o hn=>by
  obtain⟨vs,h1,h2⟩:=h α' G' st' s S o;exact⟨vs,.inl (f6 P h1),by rw[<-h2.length];exact hn⟩
 go:=λ n d α' G' F' H' st' s P S o hn=>by
  obtain⟨vs,h1,h2⟩:=h α' G' st' s S o;obtain⟨v,e,_⟩:=h2.get hn;exact⟨vs,v,.inl (f6 P h1),e⟩
 oV:=λ n d α' G' F' H' st' x H'' s P S o hn y=>by
  obtain⟨vs,h1,h2⟩:=h α' G' st' s S o;obtain⟨v,e,r⟩:=h2.get hn;obtain⟨rfl,y⟩:=y;have:=y vs (.inl (f6 P h1));rw[e]at this;cases this;exact⟨G',Step.refl,P,S,r⟩
theorem PR{K:PySem.W.Frag}{a:Addr}{α:List (Option Addr)}{G:Hp}{ok:ae->Prop}{xs:List D}
 (h:∀α' G' st',Step α G α' G'->aJ α' st' G'->ok st'->∃vs,G' a=some (.tup vs)/\aD α' G' xs vs):yo (P_ K a) α G ok xs where
 stop:=λ n α' G' F' H' st' s P S o hn=>by
  obtain⟨vs,h1,h2⟩:=h α' G' st' s S o;exact⟨vs,.of (P.get h1),by rw[<-h2.length];exact hn⟩
 go:=λ n d α' G' F' H' st' s P S o hn=>by
  obtain⟨vs,h1,h2⟩:=h α' G' st' s S o;obtain⟨v,e,_⟩:=h2.get hn;exact⟨vs,v,.of (P.get h1),e⟩
 oV:=λ n d α' G' F' H' st' x H'' s P S o hn y=>by
  obtain⟨vs,h1,h2⟩:=h α' G' st' s S o;obtain⟨v,e,r⟩:=h2.get hn;obtain⟨rfl,y⟩:=y;have:=y vs (.of (P.get h1));rw[e]at this;cases this;exact⟨G',Step.refl,P,S,r⟩
theorem Lu{a:Addr}(s:Step α G α' G')(na:some a∉α)(h1:Rd G a (.lst vs))(h2:aD α G xs vs):Rd G' a (.lst vs)/\aD α' G' xs vs:=by
 refine⟨?_,h2.step s⟩;rcases h1 with h|⟨o,h⟩
 . exact .inl (s.ext _ _ na h)
 . exact .inr ⟨o,s.ext _ _ na h⟩
theorem Qm{l tg:Expr}{tl:DE}(hl:PE X l (LE tl)):PI X tg l (LI (RT tl)):=by
 intro pins s σ H R I h;obtain⟨α,σd,st,K,G,F,P,RS,S,t,k⟩:=h;refine bI (hl pins s σ H (λ x H1=>∃d α1 G1 st1,Step α G α1 G1/\bQ G1 F H1/\aJ α1 st1 G1/\Rep α1 G1 d x/\yG d st1 K) I ⟨α,σd,st,_,G,F,P,RS,S,t,λ d st1 q α1 G1 H1 v s1 P1 S1 r1=>⟨d,α1,G1,st1,s1,P1,S1,r1,q⟩⟩) λ v s1 ⟨x,H1,I1,rx,d,α1,G1,st1,s1',P1,S1,r1,q⟩=>?_;unfold yG at q
 have viaL:∀ {a:Addr} {vs:List V},x= .ref a->Rd H1 a (.lst vs)->R (O7 X.K a) H1->wpAny (model X.prog X.w) X.A (pyIter v) (Mq X pins σ tg R) X.xe s1:=by
  intro a vs ex hr hR;subst ex;cases rx;obtain⟨aj,rv,p,hz⟩:=I1.list (.inl hr);refine Y2 p.isList ?_;refine⟨s1.heap.objs.size,[s1.heap.objs.size],_,_,H1,rfl,I1.kept (t':=s1.toks) λ b o e=>VY _ e,IJ a _,⟨_,Wq _ rfl,rfl,rfl⟩,λ b hb=>?_,hR⟩;have e:b=s1.heap.objs.size:=by simpa using hb
  subst e;exact I1.xZ (VQ _) (I1.aC.fresh (VQ _))
 have viaT:∀ {a:Addr} {vs:List V},x= .ref a->H1 a=some (.tup vs)->R (P_ X.K a) H1->wpAny (model X.prog X.w) X.A (pyIter v) (Mq X pins σ tg R) X.xe s1:=by
  intro a vs ex hr hR;subst ex;cases rx;obtain⟨aj,rv,p,hz⟩:=I1.tuple (hZ.of hr);refine Yc (show s1.heap.IsTuple a aj.toArray from p) ?_;refine⟨s1.heap.objs.size,[s1.heap.objs.size],_,_,H1,rfl,I1.kept (t':=s1.toks) λ b o e=>VY _ e,Fy a _,⟨_,Wq _ rfl,rfl,rfl⟩,λ b hb=>?_,hR⟩;have e:b=s1.heap.objs.size:=by simpa using hb
  subst e;exact I1.xZ (VQ _) (I1.aC.fresh (VQ _))
 cases d<;>try exact q.elim
 . rename_i n;simp only at q;split at q
   . rename_i xs e;obtain⟨a,ea,vs,h1,h2⟩:=S1.eV e;have r1':=dh ea r1;subst r1';refine viaL rfl (f6 P1 (.of h1)) (k _ _ st1 q _ α1 G1 H1 s1' P1 S1 (EE λ α' G' st' s S o=>?_));obtain⟨b,eb,ws,g1,g2⟩:=S.eV o
     have hb:b=a:=by
      rcases s.pre _ _ ea with z|z<;>(rw[z]at eb;cases eb)
      rfl
     subst hb;exact⟨ws,.of g1,g2⟩
   . exact q.elim
 . unfold Rep at r1;obtain⟨a,vs,rfl,na,ha,ra⟩:=r1;exact viaL rfl (f6 P1 ha) (k _ _ st1 q _ α1 G1 H1 s1' P1 S1 (EE λ α' G' st' s S o=>⟨vs,Lu s na ha ra⟩))
 . unfold Rep at r1;obtain⟨a,vs,rfl,na,ha,ra⟩:=r1;exact viaT rfl (P1.get ha) (k _ _ st1 q _ α1 G1 H1 s1' P1 S1 (PR λ α' G' st' s S o=>⟨vs,s.ext _ _ na ha,ra.step s⟩))
def du(lo:Int)(n:Nat):List D:=(List.range n).map λ(k:Nat)=>D.int (lo+(k:Int))
theorem wg{lo:Int}{n k:Nat}:(du lo n)[k]?=if k<n then some (.int (lo+(k:Int)))else none:=by
 unfold du;rw[Wn];by_cases h:k<n
 . rw[ZI h,VU h];rfl
 . rw[Zi (by simpa using h),VT h];rfl
theorem cv{lo:Int}{n:Nat}:(du lo n).length=n:=by unfold du;simp
theorem CI{α:List (Option Addr)}{G:Hp}{lo:Int}{n:Nat}:yo (zO lo n) α G (λ _=>True) (du lo n) where
 stop:=λ m α' G' F' H' st' s P S o hn=>by rw[cv]at hn;exact hn
 go:=λ m d α' G' F' H' st' s P S o hn=>by
  rw[wg]at hn;split at hn
  . assumption
  . cases hn
 oV:=λ m d α' G' F' H' st' x H'' s P S o hn y=>by
  obtain⟨rfl,rfl⟩:=y;rw[wg]at hn;split at hn
  . cases hn;exact⟨G',Step.refl,P,S,by unfold Rep;rfl⟩
  . cases hn
theorem PI.imp{t t':TI}(h:PI X tg iter t)(f:∀σ H R,t' σ H R->t σ H R):PI X tg iter t':=λ pins s σ H R I q=>h pins s σ H R I (f σ H R q)
def MT(ds:List D)(st1:ae)(K:List D->(ae->Prop)->ae->Prop):Prop:=match ds with
 | [.int j]=>(-(2^62)<=j/\j<2^62)/\K (du 0 j.toNat) (λ _=>True) st1
 |_=>False
def M4(ds:List D)(st1:ae)(K:List D->(ae->Prop)->ae->Prop):Prop:=match ds with
 | [.int i,.int j]=>(-(2^62)<=i/\i<2^62/\ -(2^62)<=j/\j<2^62)/\K (du i (j-i).toNat) (λ _=>True) st1
 |_=>False
def N3(t:DA):DI:=λ σ st K=>t σ st λ ds st1=>MT ds st1 K
def ON(t:DA):DI:=λ σ st K=>t σ st λ ds st1=>M4 ds st1 K
theorem Hy{t:DA}(h:PI X tg iter (Gw (LA t))):PI X tg iter (LI (N3 t)):=PI.imp h λ σ H R ⟨α,σd,st,K,G,F,P,RS,S,t,k⟩=>by
 refine⟨α,σd,st,_,G,F,P,RS,S,t,λ ds st1 q α1 G1 H1 vs s1 P1 S1 r1=>?_⟩;match ds,q,r1 with
 | [.int j],q,r1=>
   obtain⟨v,rfl,r2⟩:=fO r1 rfl;unfold Rep at r2;subst r2;exact⟨j,rfl,q.1.1,q.1.2,k _ _ st1 q.2 _ α1 G1 H1 s1 P1 S1 CI⟩
theorem Jq{t:DA}(h:PI X tg iter (GB (LA t))):PI X tg iter (LI (ON t)):=PI.imp h λ σ H R ⟨α,σd,st,K,G,F,P,RS,S,t,k⟩=>by
 refine⟨α,σd,st,_,G,F,P,RS,S,t,λ ds st1 q α1 G1 H1 vs s1 P1 S1 r1=>?_⟩;match ds,q,r1 with
 | [.int i,.int j],q,r1=>
   obtain⟨v,u,rfl,r2,r3⟩:=mE r1 rfl;unfold Rep at r2 r3;subst r2 r3;exact⟨i,j,rfl,q.1,k _ _ st1 q.2 _ α1 G1 H1 s1 P1 S1 CI⟩
def ib(tg:dU)(body:DS)(ok:ae->Prop)(E:kG):List D->bo->ae->Prop
 | [],σ,st=>ok st/\E.nx σ st
 |x::xs,σ,st=>ok st/\∃σ1,tg x σ=some σ1/\body {E with nx:=ib tg body ok E xs,ct:=ib tg body ok E xs,bk:=E.nx} σ1 st
def jj(src:DI)(tg:dU)(body:DS):DS:=λ D σ st=>src σ st λ xs ok st1=>ib tg body ok D xs σ st1
theorem Pt(h:PS X st (Qe (LI src) (LG tg) (LS t))):PS X st (LS (jj src tg t)):=PS.imp h λ D σ H ⟨α,σd,st,DD,G,F,P,R,S,tt,k⟩=>by
 refine⟨α,σd,st,_,G,F,P,R,S,tt,λ xs ok st1 q J α1 G1 H1 s1 P1 S1 it=>?_⟩;refine⟨λ i m σ' H'=>∃α' σd' st' G',Step α1 G1 α' G'/\bQ G' F H'/\dm α' G' σd' σ'/\aJ α' st' G'/\ib tg t ok DD (xs.drop i) σd' st'/\m=xs.length-i,⟨xs.length,α1,σd,st1,G1,Step.refl,P1,R.step s1,S1,q,rfl⟩,?_⟩;rintro i m σ2 H2 ⟨α2,σd2,st2,G2,s2,P2,R2,S2,q2,rfl⟩;cases e:xs[i]? with
 |none=>
  have hl:xs.length<=i:=aaa.mp e;rw[W8 hl]at q2;unfold ib at q2;exact .inl ⟨it.stop i α2 G2 F H2 st2 s2 P2 S2 q2.1 hl,((k.nx.at s1).at s2).here P2 q2.2 R2 S2⟩
 |some d=>
  have hl:i<xs.length:=(VV.mp e).1
  have ed:xs.drop i=d::xs.drop (i+1):=by
   rw[W6 hl];congr 1;rw[V0 hl]at e;exact WQ e
  rw[ed]at q2;unfold ib at q2;obtain⟨aC,σ3,e3,q3⟩:=q2;refine .inr ⟨it.go i d α2 G2 F H2 st2 s2 P2 S2 aC e,λ σ' H'=>∃α' σd' st' G',Step α1 G1 α' G'/\bQ G' F H'/\dm α' G' σd' σ'/\aJ α' st' G'/\ib tg t ok DD (xs.drop (i+1)) σd' st',?_,?_⟩
  . rintro σ' H' ⟨α',σd',st',G',z1,z2,z3,z4,z5⟩;exact⟨xs.length-(i+1),by omega,α',σd',st',G',z1,z2,z3,z4,z5,rfl⟩
  . intro x H' y;obtain⟨G3,s3,P3,S3,r3⟩:=it.oV i d α2 G2 F H2 st2 x H' s2 P2 S2 aC e y;refine⟨α2,σd2,st2,d,λ σ' st'=>σ'=σ3/\st'=st2,G3,F,P3,R2.step s3,S3,r3,⟨σ3,e3,rfl,rfl⟩,?_⟩;rintro σ' st' ⟨rfl,rfl⟩ α4 G4 H4 σ4 s4 P4 R4 S4;have s24:=(s2.trans s3).trans s4;refine⟨α4,σ',st',_,G4,F,P4,R4,S4,q3,?_,((k.rt.at s1).at s24),(k.nx.at s1).at s24,?_⟩
    . intro σd5 st5 q5 α5 G5 H5 σ5 s5 P5 R5 S5;exact⟨α5,σd5,st5,G5,s24.trans s5,P5,R5,S5,q5⟩
    . intro σd5 st5 q5 α5 G5 H5 σ5 s5 P5 R5 S5;exact⟨α5,σd5,st5,G5,s24.trans s5,P5,R5,S5,q5⟩
end
def fB(fr:List (Option Nat))(σ:bo):bo:=fr.map λ o=>o.bind λ j=>(σ[j]?).join
theorem dm.comp(h:dm α G σd σ):dm α G (fB fr σd) (σC fr σ):=by
 refine⟨by unfold fB σC;simp,λ i d e=>?_⟩;unfold fB at e;rw[Wn]at e;cases q:fr[i]? with
 |none=>rw[q]at e;cases e
 |some o=>
  rw[q]at e;cases o with
  |none=>simp at e
  |some j=>
   simp only[Yu,ZY,Option.bind_some]at e
   have ej:σd[j]?=some (some d):=by
    cases r:σd[j]? with
    |none=>rw[r]at e;cases e
    |some u=>rw[r]at e;simp at e;rw[e]
   obtain⟨v,ev,rv⟩:=h.at' j d ej;refine⟨v,?_,rv⟩;unfold σC;rw[Wn,q];simp[ev]
def bz(tg:dU)(c:DT)(te:DE)(ok:ae->Prop)(σc:bo):List D->List D->ae->(List D->ae->Prop)->Prop
 | [],acc,st,K=>ok st/\K acc st
 |x::xs,acc,st,K=>ok st/\∃σ2,tg x σc=some σ2/\c σ2 st λ b st1=>if b=true then te σ2 st1 λ y st2=>bz tg c te ok σc xs (acc++[y]) st2 K else bz tg c te ok σc xs acc st1 K
def bh(src:DI)(fr:List (Option Nat))(tg:dU)(c:DT)(te:DE):DE:=λ σ st K=>src σ st λ xs ok st1=>xs.length<=sizeLine/\bz tg c te ok (fB fr σ) xs [] st1 λ ys st2=>K (.lst ys) st2
def fG(src:DI)(fr:List (Option Nat))(tg:dU)(c:DT)(te:DE):DE:=λ σ st K=>src σ st λ xs ok st1=>xs.length<=sizeLine/\bz tg c te ok (fB fr σ) xs [] st1 λ ys st2=>K (.ref st2.length) (st2++[.lst ys])
def aW:DT:=λ _ st K=>K true st
def jZ(fr:List (Option Nat))(tg:dU):Prop:=∀(σ:bo) (d:D) (σ2:bo),tg d (fB fr σ)=some σ2->σ2.length=(fB fr σ).length/\∀(i:Nat) (e:D),(fB fr σ)[i]?=some (some e)->σ2[i]?=some (some e)
theorem s_{k:Nat}(h:fr[k]?=some none){e:D}(q:(fB fr σ)[k]?=some (some e)):False:=by
 unfold fB at q;rw[Wn,h]at q;simp at q
theorem j5{k:Nat}(h:fr[k]?=some none:=by rfl):jZ fr (aM k):=λ σ d σ2 e=>by
 cases e;refine⟨Wb,λ i x q=>?_⟩;by_cases hi:i=k
 . subst hi;exact(s_ h q).elim
 . rw[VW (V6 hi)];exact q
theorem Nm{k j:Nat}(h:fr[k]?=some none:=by rfl)(h':fr[j]?=some none:=by rfl):jZ fr (fI k j):=λ σ d σ2 e=>by
 unfold fI at e;split at e
 . cases e;refine⟨by rw[Wb,Wb],λ i x q=>?_⟩;by_cases hi:i=k
   . subst hi;exact(s_ h q).elim
   . by_cases hj:i=j
     . subst hj;exact(s_ h' q).elim
     . rw[VW (V6 hj),VW (V6 hi)];exact q
 . cases e
section
variable {X:Cx}
theorem Pa(h:PT X c (LT t)):tK X [c] (LT t):=Oc h
theorem JZ:tK X [] (LT aW):=λ pins s σ H Q I ⟨α,σd,st,K,G,F,P,R,S,t,k⟩=>Ob pins s σ H Q I (k true st t α G H Step.refl P S)
theorem LE.comp{src:DI}{fr:List (Option Nat)}{tg:dU}{c:DT}{te:DE}(fit:jZ fr tg){σ:L2.St}{H:Hp}{Q:VK}{α:List (Option Addr)}{σd:bo}{st:ae}{KE:List D->ae->Prop}{G F:Hp}(P:bQ G F H)(R:dm α G σd σ)(S:aJ α st G)
 (t:src σd st λ xs ok st1=>xs.length<=sizeLine/\bz tg c te ok (fB fr σd) xs [] st1 KE)
 (fin:∀ys st2 α2 G2 H2 l vs,KE ys st2->Step α G α2 G2->bQ G2 (upd F l (.lst vs)) H2->F l=none->aJ α2 st2 G2->aD α2 G2 ys vs->Q (.ref l) H2):
 uf (LI src) fr (LG tg) (LT c) (LE te) σ H Q:=by
 refine⟨α,σd,st,_,G,F,P,R,S,t,λ xs ok st1 q J α1 G1 H1 s1 P1 S1 it l hl=>?_⟩;obtain⟨hsz,q⟩:=q;obtain⟨hG,hF⟩:=P1.none hl
 refine⟨λ i m σ' H'=>∃α' st' G' acc vs,Step α1 G1 α' G'/\bQ G' (upd F l (.lst vs)) H'/\dm α' G' (fB fr σd) σ'/\aJ α' st' G'/\aD α' G' acc vs/\acc.length<=i/\i<=xs.length/\bz tg c te ok (fB fr σd) (xs.drop i) acc st' KE/\m=xs.length-i,
  ⟨xs.length,α1,st1,G1,[],[],Step.refl,P1.hide hl,(R.step s1).comp,S1,by unfold aD;rfl,VQ _,Wg _,q,rfl⟩,?_⟩
 rintro i m σ2 H2 ⟨α2,st2,G2,acc,vs,s2,P2,R2,S2,ra,hacc,hi,q2,rfl⟩;cases e:xs[i]? with
 |none=>
  have hl2:xs.length<=i:=aaa.mp e;rw[W8 hl2]at q2;unfold bz at q2;exact .inl ⟨it.stop i α2 G2 _ H2 st2 s2 P2 S2 q2.1 hl2,fin acc st2 α2 G2 H2 l vs q2.2 (s1.trans s2) P2 hF S2 ra⟩
 |some d=>
  have hl2:i<xs.length:=(VV.mp e).1
  have ed:xs.drop i=d::xs.drop (i+1):=by
   rw[W6 hl2];congr 1;rw[V0 hl2]at e;exact WQ e
  rw[ed]at q2;unfold bz at q2;obtain⟨aC,σ3,e3,q3⟩:=q2;refine .inr ⟨it.go i d α2 G2 _ H2 st2 s2 P2 S2 aC e,λ σ' H'=>∃α' st' G' acc vs,Step α1 G1 α' G'/\bQ G' (upd F l (.lst vs)) H'/\dm α' G' (fB fr σd) σ'/\aJ α' st' G'/\aD α' G' acc vs/\acc.length<=i+1/\bz tg c te ok (fB fr σd) (xs.drop (i+1)) acc st' KE,?_,?_⟩
  . rintro σ' H' ⟨α',st',G',acc',vs',z1,z2,z3,z4,z5,z6,z7⟩;exact⟨xs.length-(i+1),by omega,α',st',G',acc',vs',z1,z2,z3,z4,z5,z6,hl2,z7,rfl⟩
  . intro x H' y;obtain⟨G3,s3,P3,S3,r3⟩:=it.oV i d α2 G2 _ H2 st2 x H' s2 P2 S2 aC e y;refine⟨α2,fB fr σd,st2,d,λ σ' st'=>σ'=σ3/\st'=st2,G3,_,P3,R2.step s3,S3,r3,⟨σ3,e3,rfl,rfl⟩,?_⟩;rintro σ' st' ⟨rfl,rfl⟩ α4 G4 H4 σ4 s4 P4 R4 S4;have s24:=(s2.trans s3).trans s4;have Rc:dm α4 G4 (fB fr σd) σ4:=⟨by rw[<-(fit σd d σ' e3).1];exact R4.len,λ j z hz=>R4.at' j z ((fit σd d σ' e3).2 j z hz)⟩
    refine⟨α4,σ',st',_,G4,_,P4,R4,S4,q3,λ b st5 q5 α5 G5 H5 s5 P5 S5=>?_⟩;cases b with
    |false=>exact⟨α5,st5,G5,acc,vs,s24.trans s5,P5,Rc.step s5,S5,((ra.step s3).step s4).step s5,by omega,q5⟩
    |true=>
     refine⟨α5,σ',st5,_,G5,_,P5,R4.step s5,S5,q5,λ z st6 q6 α6 G6 H6 v6 s6 P6 S6 r6=>?_⟩;have hr:=(((ra.step s3).step s4).step s5).step s6;refine⟨vs,(P6.frame aS).1,by rw[<-hr.length];omega,α6,st6,G6,acc++[z],vs++[v6],(s24.trans s5).trans s6,?_,(Rc.step s5).step s6,S6,aV.mpr (fD (aV.mp hr) (.cons r6 .nil)),by rw[V3,aay];omega,q6⟩;have:=P6.Vr (p:=l) (o':= .lst (vs++[v6])) aS;rw[O0]at this;exact this
theorem QX{scope:Scope}{Nc:List Str}{elt tg iter:Expr}{ifs:List Expr}{pos:Pos}{src:DI}{fr:List (Option Nat)}{dtg:dU}{c:DT}{te:DE}(S:cA X scope Nc fr)(hi:PI X tg iter (LI src))
 (hg:∀C s H ex,PG (bp X scope Nc C s H ex) tg (LG dtg)) (ht:∀C s H ex,tK (bp X scope Nc C s H ex) ifs (LT c)) (he:∀C s H ex,PE (bp X scope Nc C s H ex) elt (LE te)) (fit:jZ fr dtg)
 (hx:X.xe=λ _ _=>False:=by rfl) (hc:X.calm=true:=by rfl) (hs:∀x,foldedSetIterable iter X.env x=pure x:=by intro _;rfl):PE X (.ListComp elt [⟨tg,iter,ifs,0⟩] scope pos) (LE (bh src fr dtg c te)):=
 PE.imp (D8 hx hc S hi hg ht he hs) λ σ H Q ⟨α,σd,st,K,G,F,P,R,S,t,k⟩=>LE.comp fit P R S t λ ys st2 α2 G2 H2 l vs q s2 P2 hl S2 r=>by
  have hg:G2 l=none:=(P2.frame aS).2;refine k _ st2 q α2 (upd G2 l (.lst vs)) H2 (.ref l) (s2.trans (Step.laid hg)) (P2.show hl) (S2.laid hg) ?_;unfold Rep;exact⟨l,vs,rfl,S2.jW hg,.of aS,r.step (Step.laid hg)⟩
theorem NF{scope:Scope}{Nc:List Str}{elt tg iter:Expr}{ifs:List Expr}{pos:Pos}{src:DI}{fr:List (Option Nat)}{dtg:dU}{c:DT}{te:DE}(S:cA X scope Nc fr)(hi:PI X tg iter (LI src))
 (hg:∀C s H ex,PG (bp X scope Nc C s H ex) tg (LG dtg)) (ht:∀C s H ex,tK (bp X scope Nc C s H ex) ifs (LT c)) (he:∀C s H ex,PE (bp X scope Nc C s H ex) elt (LE te)) (fit:jZ fr dtg)
 (hx:X.xe=λ _ _=>False:=by rfl) (hc:X.calm=true:=by rfl) (hs:∀x,foldedSetIterable iter X.env x=pure x:=by intro _;rfl):PE X (.ListComp elt [⟨tg,iter,ifs,0⟩] scope pos) (LE (fG src fr dtg c te)):=
 PE.imp (D8 hx hc S hi hg ht he hs) λ σ H Q ⟨α,σd,st,K,G,F,P,R,S,t,k⟩=>LE.comp fit P R S t λ ys st2 α2 G2 H2 l vs q s2 P2 hl S2 r=>by
  have hg:G2 l=none:=(P2.frame aS).2;refine k _ _ q (α2++[some l]) (upd G2 l (.lst vs)) H2 (.ref l) (s2.trans (Step.cell hg)) (P2.show hl) (S2.cell hg ⟨vs,aS,r.step (Step.cell hg)⟩) ?_;unfold Rep;refine .inr ⟨l,?_,rfl⟩;rw[Wu (by rw[S2.len];exact VQ _),S2.len,XM];rfl
theorem OY{st:Stmt}{k:Nat}{src:DI}{fr:List (Option Nat)}{dtg:dU}{c:DT}{te:DE}(fit:jZ fr dtg)(h:PS X st (kv (uf (LI src) fr (LG dtg) (LT c) (LE te)) (kP k))):PS X st (LS (a6 k (bh src fr dtg c te))):=
 PS.imp h λ D σ H ⟨α,σd,st,DD,G,F,P,R,S,t,q⟩=>LE.comp fit P R S t λ ys st2 α2 G2 H2 l vs qq s2 P2 hl S2 r=>by
  have hg:G2 l=none:=(P2.frame aS).2;have s3:=s2.trans (Step.laid (o:= .lst vs) hg);refine q.nx _ st2 qq α2 (upd G2 l (.lst vs)) H2 _ s3 (P2.show hl) ((R.step s3).set k ?_) (S2.laid hg);unfold Rep;exact⟨l,vs,rfl,S2.jW hg,.of aS,r.step (Step.laid hg)⟩
theorem KL{st:Stmt}{k:Nat}{src:DI}{fr:List (Option Nat)}{dtg:dU}{c:DT}{te:DE}(fit:jZ fr dtg)(h:PS X st (kv (uf (LI src) fr (LG dtg) (LT c) (LE te)) (kP k))):PS X st (LS (a6 k (fG src fr dtg c te))):=
 PS.imp h λ D σ H ⟨α,σd,st,DD,G,F,P,R,S,t,q⟩=>LE.comp fit P R S t λ ys st2 α2 G2 H2 l vs qq s2 P2 hl S2 r=>by
  have hg:G2 l=none:=(P2.frame aS).2;have s3:=s2.trans (Step.cell (o:= .lst vs) hg);refine q.nx _ _ qq (α2++[some l]) (upd G2 l (.lst vs)) H2 _ s3 (P2.show hl) ((R.step s3).set k ?_) (S2.cell hg ⟨vs,aS,r.step (Step.cell hg)⟩);unfold Rep;refine .inr ⟨l,?_,rfl⟩;rw[Wu (by rw[S2.len];exact VQ _),S2.len,XM];rfl
def aF(N:List Str)(ds:List D):bo:=ds.map some++List.replicate (N.length-ds.length) none
theorem dm.start(r:aD α G ds vs):dm α G (aF N ds) (L2.start N vs):=by
 have hl:=r.length;refine⟨by unfold aF L2.start;simp[hl],λ i d e=>?_⟩;unfold aF at e;by_cases hi:i<ds.length
 . rw[VZ (by simpa using hi),Wn]at e;cases q:ds[i]? with
   |none=>rw[q]at e;cases e
   |some x=>
    rw[q]at e;cases e;obtain⟨v,ev,rv⟩:=r.get q;refine⟨v,?_,rv⟩;unfold L2.start;rw[VZ (by rw[VO];omega),Wn,ev];rfl
 . rw[Wu (by simpa using hi),YY]at e;split at e<;>cases e
theorem Si{P:Program}{w:World}{K:PySem.W.Frag}{mg:Str->Option Value}{base:Heap}{x qual:Str}{st:Stmt}{f:Addr}{fd:FuncData}{N ps:List Str}{k:Nat}{sp:bw}{t:DS}(F:nN K x qual st f fd)(S:kD N ps (a9 st))
 (hbody:∀(cdv:Value) (A:Around) (outer:List Env) (s:Shared) (H:Hp) (E:XK),cF k (A.deeper (envOfC qual (a9 st) s.heap.objs.size f cdv))->gw (oy gq P w K mg base N qual (a9 st) f cdv A outer s H E).vb (fu st) (LS t))
 (hsp:∀ds st K,sp ds st K->ds.length=ps.length/\t {nx:=λ _ st'=>K .ao st',rt:=K} (aF N ds) st):dz P w K mg base gq (k+1) f fd ps (ik sp):=by
 refine F.ok S (λ vs H Q E h=>?_) λ cdv A outer s H vs Q E hr h=>⟨_,hbody cdv A outer s H E hr,?_⟩
 . obtain⟨α,ds,st,K,G,F,P,r,S,q,k⟩:=h;rw[<-r.length];exact(hsp ds st K q).1
 . obtain⟨α,ds,st,K,G,F,P,r,S,q,k⟩:=h;refine⟨α,aF N ds,st,_,G,F,P,dm.start r,S,(hsp ds st K q).2,?_,k,?_,?_⟩
   . intro σd' st' kk α' G' H' σ' s' P' R' S';exact k .ao st' kk α' G' H' .ao s' P' S' (by unfold Rep;rfl)
   . intro σd' st' kk;exact kk.elim
   . intro σd' st' kk;exact kk.elim
def pE(to te:DE):DE:=λ σ st K=>to σ st λ x st1=>match x with
 | .ref n=>(match st1[n]? with
   |some (.lst _)=>te σ st1 λ y st2=>∃y',[y]=[y']/\(match st2[n]? with|some (.lst xs)=>xs.length<sizeLine/\K .ao (st2.set n (.lst (xs++[y'])))|_=>False)
   |_=>False)
 |_=>False
end
structure kI(K:PySem.W.Frag)(mg:Str->Option Value)(x qual:Str)(st:Stmt)(ps:List Str)(f:Addr)(fd:FuncData):Prop where
 fn:nN K x qual st f fd
 mg:mg x=some (.ref f)
 bd:Binds K fd ps []
def iS(sc:Scope)(N:List Str)(scope:Scope)(Nc:List Str)(fr:List (Option Nat)):Bool:=
 (scope.kind== .function)&&scope.names.all (λ x=>x.2 != .cell||scope.names.lookup x.1==some .cell)&&scope.names.all (λ x=>x.2 != .local||scope.names.lookup x.1==some .local)&&
 scope.names.all (λ x=>x.2 != .free||sc.names.lookup x.1==some .cell||sc.names.lookup x.1==some .free)&&(fr.length==Nc.length)&&
 (List.range fr.length).all λ i=>match fr[i]?,Nc[i]? with
   |some (some j),some x=>(N[j]?==some x)&&(scope.names.lookup x==some .free)&&(sc.names.lookup x==some .cell||sc.names.lookup x==some .free)
   |_,_=>true
theorem cA.look(sc:Scope)(N:List Str)(h:iS sc N scope Nc fr=true)(hsc:X.env.scope=sc:=by rfl)(hN:X.N=N:=by rfl):cA X scope Nc fr:=by
 unfold iS at h;simp only[Wv]at h;obtain⟨⟨⟨⟨⟨h1,h2⟩,h3⟩,h4⟩,h5⟩,h6⟩:=h;subst hsc hN;refine⟨by simpa using h1,λ x hx hk=>?_,λ x hx hk=>?_,λ x hx hk=>?_,by simpa using h5,λ i j x e1 e2=>?_⟩
 . have:=Wm.mp h2 x hx;rw[hk]at this;simpa using this
 . have:=Wm.mp h3 x hx;rw[hk]at this;simpa using this
 . have:=Wm.mp h4 x hx;rw[hk]at this;have z:X.env.scope.names.lookup x.1=some .cell\/X.env.scope.names.lookup x.1=some .free:=by simpa using this
   exact z
 . have hi:i<fr.length:=(VV.mp e2).1;have:=Wm.mp h6 i (XE.mpr hi);rw[e1,e2]at this;simp only[Wv,Zw,XZ]at this;exact⟨this.1.1,this.1.2,this.2⟩
section
variable {X:Cx}
theorem UN{e:Expr}{es:List Expr}{pos p:Pos}{x:Str}{id:String}{r:dY}{t:DA}(hc:bf X (.builtin id) (ff r))(ha:PA X (e::es) (LA t))(hm:X.mg x=none)(hv:bootBuiltins x=some (.builtin id))(hg:Gl X x:=by rfl)(hn:x≠"__name__":=by decide)(hdb:(x==("__debug__":Str))=false:=by decide)
 (he:starEach (e::es) X.env=(false,eval e X.env)::starEach es X.env:=by rfl) (hpl:(backTo pos (starEach es X.env)).any (·.1)=false:=by rfl):PE X (.Call (.Name x p) (e::es) [] pos) (LE (aU r t)):=PE.imp (KN hc hg hm hv ha hn hdb he hpl) λ _ _ _ h=>LE.cb h
theorem Ui{e:Expr}(hc:bf X (.type T) (ff r))(ha:PA X (e::es) (LA t))(hm:X.mg x=none)(hv:bootBuiltins x=some (.type T))(hg:Gl X x:=by rfl)(hn:x≠"__name__":=by decide)(hdb:(x==("__debug__":Str))=false:=by decide)
 (he:starEach (e::es) X.env=(false,eval e X.env)::starEach es X.env:=by rfl) (hpl:(backTo pos (starEach es X.env)).any (·.1)=false:=by rfl):PE X (.Call (.Name x p) (e::es) [] pos) (LE (aU r t)):=PE.imp (Ig hc hg hm hv ha hn hdb he hpl) λ _ _ _ h=>LE.cb h
theorem Vc(hm:X.mg x=none)(hv:bootBuiltins x=some (.type T))(hg:Gl X x:=by rfl)(hn:x≠"__name__":=by decide)(hdb:(x==("__debug__":Str))=false:=by decide):PE X (.Name x pos) (LE (dC (.ty T))):=
 pC (v:= .ty T) (Nx hg hm hv rfl hn hdb) λ _ _=>by unfold Rep;rfl
theorem Ux{e:Expr}{es:List Expr}{pos p:Pos}{x qual:Str}{st:Stmt}{ps:List Str}{f:Addr}{fd:FuncData}{k:Nat}{S:bw}{t:DA}(A:kI X.K X.mg x qual st ps f fd)(F:dz X.prog X.w X.K X.mg X.base gq k f fd ps (ik S))(hr:cF k X.A)
 (ha:PA X (e::es) (LA t)) (hg:Gl X x:=by rfl) (hdb:(x==("__debug__":Str))=false:=by decide) (he:starEach (e::es) X.env=(false,eval e X.env)::starEach es X.env:=by rfl) (hpl:(backTo pos (starEach es X.env)).any (·.1)=false:=by rfl):
 PE X (.Call (.Name x p) (e::es) [] pos) (LE (ak S t)):=Qa F hr hg A.mg A.fn.kp A.bd ha hdb he hpl
theorem DG(r:RelV x v)(h:Q (.bool (v== .bool b)) s):wpAny M A (compareOp .Is v (.bool b)) Q E s:=by
 cases x
 case bl c=>
  cases r;have e:(Value.bool c==Value.bool b)=(c==b):=by cases c<;>cases b<;>rfl
  rw[e]at h;exact is_bool h
 all_goals first
  |(cases r;exact V8 h)
  |(obtain⟨t,rfl⟩:=r;exact V8 h)
def Bf(d:D)(b:Bool):Bool:=match d with| .bl c=>c==b|_=>false
def ML(d:D):Bool:=match d with| .ao=>true|_=>false
def MW:cJ:=λ x y st K=>match y with| .ao=>live st x=true/\K (.bl (ML x)) st| .bl b=>live st x=true/\K (.bl (Bf x b)) st|_=>False
theorem Ei{α:List (Option Addr)}{H:Hp}{st:ae}{d:D}{v:V}{u:Value}{b:Bool}(S:aJ α st H)(hl:live st d=true)(r:Rep α H d v)(ru:RelV v u):(u==Value.bool b)=Bf d b:=by
 cases d
 case ref n=>
  obtain⟨a,rfl⟩:=vB S hl r;cases ru;rfl
 all_goals unfold Rep at r
 case bl c=>
  subst r;cases ru;cases c<;>cases b<;>rfl
 all_goals first
  |(subst r;first|(cases ru;rfl)|(obtain⟨t,rfl⟩:=ru;rfl))
  |(obtain⟨a,vs,rfl,_⟩:=r;cases ru;rfl)
theorem Su:br X (compareOp .Is) (LR MW):=λ pins s σ H x y v u Q I rx ry ⟨α,d,e,st,K,G,F',P,r1,r2,S,q,k⟩=>by
 cases e<;>try exact q.elim
 . unfold Rep at r2;refine Pk pins s σ H x y v u Q I rx ry ⟨r2,k.here P q.2 S ?_⟩;unfold Rep;cases d
   case ref n=>
    obtain⟨a,rfl⟩:=vB S q.1 r1;rfl
   all_goals(unfold Rep at r1;first|(rw[r1];rfl)|(obtain⟨a,vs,rfl,_⟩:=r1;rfl))
 . rename_i b;unfold Rep at r2;subst r2;cases ry;refine DG rx ?_;rw[Ei S q.1 r1 rx];exact⟨.bl (Bf d b),H,I,rfl,k.here P q.2 S (by unfold Rep;rfl)⟩
def tJ(r r':cJ)(ta tb tc:DE):DE:=λ σ st K=>ta σ st λ x st1=>tb σ st1 λ y st2=>r x y st2 λ z st3=>match z with
 | .bl b=>if b=true then tc σ st3 λ w st4=>r' y w st4 K else K (.bl false) st3
 |_=>False
theorem LE.chain(h:LE (tJ r r' ta tb tc) σ H Q):Hn (LR r) (LR r') (LE ta) (LE tb) (LE tc) σ H Q:=by
 obtain⟨α,σd,st,K,G,F,P,R,S,t,k⟩:=h;refine⟨α,σd,st,_,G,F,P,R,S,t,λ d st1 q α1 G1 H1 v s1 P1 S1 r1=>?_⟩;refine⟨α1,σd,st1,_,G1,F,P1,R.step s1,S1,q,λ d2 st2 q2 α2 G2 H2 v2 s2 P2 S2 r2=>?_⟩;refine⟨α2,d,d2,st2,_,G2,F,P2,r1.step s2,r2,S2,q2,λ z st3 q3 α3 G3 H3 v3 s3 P3 S3 r3=>?_⟩;cases z<;>try exact q3.elim
 rename_i b;unfold Rep at r3;refine⟨b,r3,?_⟩;cases b with
 |false=>exact((k.at s1).at s2).at s3 _ st3 q3 α3 G3 H3 _ Step.refl P3 S3 (by unfold Rep;rfl)
 |true=>exact⟨α3,σd,st3,_,G3,F,P3,((R.step s1).step s2).step s3,S3,q3,λ d4 st4 q4 α4 G4 H4 v4 s4 P4 S4 r4=>⟨α4,d2,d4,st4,K,G4,F,P4,(r2.step s3).step s4,r4,S4,q4,(((k.at s1).at s2).at s3).at s4⟩⟩
theorem N5(ho:br X (compareOp op) (LR r))(ho':br X (compareOp op') (LR r'))(ha:PE X a (LE ta))(hb:PE X b (LE tb))(hc:PE X c (LE tc))
 (hm:lastMarks [op,op'] [b,c]=false:=by with_unfolding_all rfl):PE X (.Compare a [op,op'] [b,c] pos) (LE (tJ r r' ta tb tc)):=PE.imp (LD ho ho' ha hb hc hm) λ _ _ _ h=>LE.chain h
theorem LE.append(h:LE (pE to te) σ H Q):QZ X.K "list" EG (LE to) (LA (aa te af)) σ H Q:=by
 obtain⟨α,σd,st,K,G,F,P,R,S,t,k⟩:=h;refine⟨α,σd,st,_,G,F,P,R,S,t,λ x st1 q α1 G1 H1 v s1 P1 S1 r1=>?_⟩;cases x<;>try exact q.elim
 rename_i n;simp only at q;split at q
 . rename_i ys e;obtain⟨p,ep,vs,h1,h2⟩:=S1.eV e;have r1':=dh ep r1;subst r1';refine⟨.inl ⟨rfl,vs,.inl (.of (P1.get h1))⟩,α1,σd,st1,λ ds st2=>∃y,ds=[y]/\(match st2[n]? with|some (.lst xs)=>xs.length<sizeLine/\K .ao (st2.set n (.lst (xs++[y])))|_=>False),G1,F,P1,R.step s1,S1,?_,?_⟩
   . refine Eq.mp ?_ q;rfl
   . rintro ds st2 ⟨y,rfl,q2⟩ α2 G2 H2 ws s2 P2 S2 r2;obtain⟨w,rfl,rw'⟩:=fO r2 rfl;split at q2
     . rename_i xs e2;obtain⟨p2,ep2,us,g1,g2⟩:=S2.eV e2
       have:p2=p:=by
        rcases s2.pre _ _ ep with z|z<;>(rw[z]at ep2;cases ep2)
        rfl
       subst this;have hm:some p2∈α2:=Wa ep2;refine⟨p2,us,w,rfl,rfl,P2.get g1,by rw[<-g2.length];exact q2.1,?_⟩;refine((k.at s1).at s2) _ _ q2.2 α2 (upd G2 p2 (.lst (us++[w]))) _ .ao (Step.write hm) (P2.write g1) ?_ (by unfold Rep;rfl);exact S2.write ep2 ⟨us++[w],aS,(aV.mpr (fD (aV.mp g2) (.cons rw' .nil))).step (Step.write hm)⟩
     . exact q2.elim
 . exact q.elim
theorem Lo{o e:Expr}(ho:PE X o (LE to))(he:PE X e (LE te))(hbase:attributeBase o "append" X.env (eval o X.env)=eval o X.env:=by rfl)
 (hfew:((backTo cpos (starEach [e] X.env)).all (λ x=> !x.1)&&(backToKw cpos (keywordEach [] X.env)).all (λ x=>x.1.isSome)
   &&decide (([e]:List Expr).length+([]:List Keyword).length+(if([]:List Keyword).isEmpty then 0 else 1)<30))=true:=by rfl)
 (hline:(apos.endLine==cpos.line)=true:=by rfl) (hs:starEach [e] X.env=(false,eval e X.env)::starEach [] X.env:=by rfl) (hplain:(backTo cpos (starEach [] X.env)).any (·.1)=false:=by rfl):PE X (.Call (.Attribute o "append" apos) [e] [] cpos) (LE (pE to te)):=
 PE.imp (MV aaj PySem.F.slot_list_append PySem.F.type_list_append zf ho (mT he sr hs) hbase hfew hline hs hplain) λ _ _ _ h=>LE.append h
end
end L3
namespace L3
open PySem L2
open PySem.Spec hiding items?
open PyProof.Rows hiding St
section
variable {X:Cx}
@[irreducible] def cn:cJ:=M6
theorem GQ:br X (binaryOp .Add) (LR cn):=by unfold cn;exact Tq
@[irreducible] def nu:cJ:=Mr
theorem Mg:br X (binaryOp .Sub) (LR nu):=by unfold nu;exact Sd
@[irreducible] def dA:cJ:=MK
theorem AL:br X (binaryOp .Mult) (LR dA):=by unfold dA;exact Tu
@[irreducible] def om:cJ:=Hb
theorem HY:br X (binaryOp .FloorDiv) (LR om):=by unfold om;exact Rw
@[irreducible] def g4:cJ:=MY
theorem MN:br X (binaryOp .Mod) (LR g4):=by unfold g4;exact S_
@[irreducible] def vg:cJ:=Mf
theorem MJ:br X (binaryOp .Pow) (LR vg):=by unfold vg;exact RQ
@[irreducible] def oU:cJ:=PJ
theorem rZ:br X (compareOp .Lt) (LR oU):=by unfold oU;exact UG
@[irreducible] def zE:cJ:=PV
theorem vk:br X (compareOp .LtE) (LR zE):=by unfold zE;exact UR
@[irreducible] def lh:cJ:=PC
theorem rL:br X (compareOp .Gt) (LR lh):=by unfold lh;exact UX
@[irreducible] def uO:cJ:=Qk
theorem vw:br X (compareOp .GtE) (LR uO):=by unfold uO;exact UY
@[irreducible] def qM:cJ:=Pp
theorem Gx:br X (compareOp .NotEq) (LR qM):=by unfold qM;exact U_
@[irreducible] def CC:cJ:=MW
theorem Lv:br X (compareOp .Is) (LR CC):=by unfold CC;exact Su
@[irreducible] def dE:cJ:=PF
theorem GV{k:Nat}(hr:cF k X.A):br X (compareOp .Eq) (LR dE):=by unfold dE;exact UQ hr
@[irreducible] def e6:Ci:=Nf
theorem SW:EX X (unaryOp .USub) (Mh e6):=by unfold e6;exact RH
@[irreducible] def aK:cJ:=qu
theorem Uk(ha:PE X a (LE ta))(hb:PE X b (LE tb))(hs:uC b:=by intro _ _;rfl):PE X (.Subscript a b pos) (LE (ai aK ta tb)):=by unfold aK;exact UT ha hb hs
@[irreducible] def dc:dY:=AU
theorem mz:bf X (.builtin "len") (ff dc):=by unfold dc;exact Sn
@[irreducible] def tM:dY:=Gu
theorem Gp:bf X (.builtin "abs") (ff tM):=by unfold tM;exact R7
@[irreducible] def x3:dY:=Fm
theorem LY(hc:X.calm=true):bf X (.builtin "max") (ff x3):=by unfold x3;exact Ta hc
@[irreducible] def BP:dY:=Fp
theorem M3(hc:X.calm=true):bf X (.builtin "min") (ff BP):=by unfold BP;exact SY hc
@[irreducible] def l9:dY:=Fq
theorem Nd:bf X (.type "int") (ff l9):=by unfold l9;exact Sg
@[irreducible] def ck:dY:=ud
theorem E3:bf X (.type "tuple") (ff ck):=by unfold ck;exact Of
@[irreducible] def jR:dY:=xw
theorem sZ:bf X (.type "list") (ff jR):=by unfold jR;exact Pd
@[irreducible] def pF:dY:=ur
theorem ET:bf X (.type "list") (ff pF):=by unfold pF;exact OK
@[irreducible] def nC:dY:=AG
theorem Ma(hc:X.calm=true):bf X (.builtin "all") (ff nC):=by unfold nC;exact RJ hc
@[irreducible] def gn:dY:=xn
theorem FF:bf X (.builtin "isinstance") (ff gn):=by unfold gn;exact Sh
@[irreducible] def oF:D->ae->(List D->(ae->Prop)->ae->Prop)->Prop:=yG
def cq(t:DE):DI:=λ σ st K=>t σ st λ d st1=>oF d st1 K
theorem Qx{tl:DE}(hl:PE X l (LE tl)):PI X tg l (LI (cq tl)):=by unfold cq oF;exact Qm hl
@[irreducible] def AI:List D->ae->(List D->(ae->Prop)->ae->Prop)->Prop:=MT
@[irreducible] def AH:List D->ae->(List D->(ae->Prop)->ae->Prop)->Prop:=M4
def cG(t:DA):DI:=λ σ st K=>t σ st λ ds st1=>AI ds st1 K
def uc(t:DA):DI:=λ σ st K=>t σ st λ ds st1=>AH ds st1 K
theorem Ij(h:PI X tg iter (Gw (LA t))):PI X tg iter (LI (cG t)):=by unfold cG AI;exact Hy h
theorem IH(h:PI X tg iter (GB (LA t))):PI X tg iter (LI (uc t)):=by unfold uc AH;exact Jq h
@[irreducible] def vC:D->D->D->ae->(ae->Prop)->Prop:=C7
def cZ(to ti te:DE):DS:=λ D σ st=>te σ st λ d st1=>to σ st1 λ x st2=>ti σ st2 λ y st3=>vC x y d st3 λ st4=>D.nx σ st4
theorem CM{st:Stmt}{to ti te:DE}(h:PS X st (kv (LE te) (yf (LE to) (LE ti) uD))):PS X st (LS (cZ to ti te)):=by unfold cZ vC;exact J8 h
end
section
variable {st:ae}{K:DK}{i j:Int}{b c:Bool}{xs ys:List D}{d e:D}{n:Nat}
theorem dJ(k:K (.int (i+j)) st):cn (.int i) (.int j) st K:=by unfold cn;exact k
theorem jz(h:xs.length+ys.length<=sizeLine)(k:K (.tup (xs++ys)) st):cn (.tup xs) (.tup ys) st K:=by unfold cn;exact⟨h,k⟩
theorem mV(h:xs.length+ys.length<=sizeLine)(k:K (.lst (xs++ys)) st):cn (.lst xs) (.lst ys) st K:=by unfold cn;exact⟨h,k⟩
theorem oR(k:K (.int (i-j)) st):nu (.int i) (.int j) st K:=by unfold nu;exact⟨trivial,k⟩
theorem fM(h:IntMulOk i j)(k:K (.int (i*j)) st):dA (.int i) (.int j) st K:=by unfold dA;exact⟨h,k⟩
theorem Ow(h: -(2^63)<=i/\i<2^63/\xs.length*i.toNat<=sizeLine)(k:K (.lst (List.replicate i.toNat xs).flatten) st):dA (.lst xs) (.int i) st K:=by unfold dA;exact⟨h,k⟩
theorem ue(h: -(2^63)<=i/\i<2^63/\xs.length*i.toNat<=sizeLine)(k:K (.tup (List.replicate i.toNat xs).flatten) st):dA (.tup xs) (.int i) st K:=by unfold dA;exact⟨h,k⟩
theorem yg(h0:j≠0)(h:j.natAbs.log2<9000)(k:K (.int (i.fdiv j)) st):om (.int i) (.int j) st K:=by unfold om;exact⟨⟨h0,h⟩,k⟩
theorem kZ(h0:j≠0)(k:K (.int (i.fmod j)) st):g4 (.int i) (.int j) st K:=by unfold g4;exact⟨h0,k⟩
theorem Bj(h:KO i j)(k:K (.int (i^j.toNat)) st):vg (.int i) (.int j) st K:=by unfold vg;exact⟨h,k⟩
theorem tX(k:K (.bl (decide (i<j))) st):oU (.int i) (.int j) st K:=by unfold oU;exact⟨trivial,k⟩
theorem AN(k:K (.bl (decide (i<=j))) st):zE (.int i) (.int j) st K:=by unfold zE;exact⟨trivial,k⟩
theorem LZ(k:K (.bl (decide (j<i))) st):lh (.int i) (.int j) st K:=by unfold lh;exact⟨trivial,k⟩
theorem Fh(k:K (.bl (decide (j<=i))) st):uO (.int i) (.int j) st K:=by unfold uO;exact⟨trivial,k⟩
theorem MQ(k:K (.bl (!decide (i=j))) st):qM (.int i) (.int j) st K:=by unfold qM;exact k
theorem oY(h:live st d=true)(k:K (.bl (ML d)) st):CC d .ao st K:=by unfold CC;exact⟨h,k⟩
theorem qp(h1:pl 40 d=true)(h2:pl 40 e=true)(k:K (.bl (cu d e)) st):dE d e st K:=by unfold dE;exact⟨h1,h2,k⟩
theorem NS(a b:Int):(a==b)=decide (a=b):=by
 by_cases h:a=b
 . subst h;simp
 . simp[h]
theorem xB(k:K (.bl (decide (i=j))) st):dE (.int i) (.int j) st K:=by
 refine qp rfl rfl ?_;have:cu (.int i) (.int j)=decide (i=j):=by unfold cu;exact NS i j
 rw[this];exact k
theorem eH(k:K (.int (-i)) st):e6 (.int i) st K:=by unfold e6;exact k
theorem KI(h:items? st d=some xs)(a:e_ xs i=some e)(k:K e st):qu d (.int i) st K:=by
 cases d<;>unfold items? at h<;>first
  |(cases h;done)
  |(cases h;simp only[qu,a];exact k)
  |(simp only at h
    split at h
    . rename_i q;cases h;simp only[qu,q,a];exact k
    . cases h)
theorem aw(h:items? st d=some xs)(a:e_ xs i=some e)(k:K e st):aK d (.int i) st K:=by unfold aK;exact KI h a k
theorem cD(h:items? st d=some xs)(k:K (.int xs.length) st):dc [d] st K:=by
 unfold dc AU;split
 . rename_i z;cases z;cases h
 . rename_i z;cases z;rw[h];exact k
 . rename_i z1 z2;exact absurd rfl (z2 d)
theorem Nk(i:Int):(if i<0 then-i else i)=((i.natAbs:Nat):Int):=by split<;>omega
theorem wt(k:K (.int ((i.natAbs:Nat):Int)) st):tM [.int i] st K:=by unfold tM;show K (.int (if i<0 then-i else i)) st;rw[Nk];exact k
theorem Pw(k:K (.int (if j>i then j else i)) st):x3 [.int i,.int j] st K:=by unfold x3;exact k
theorem QP(k:K (.int (if j<i then j else i)) st):BP [.int i,.int j] st K:=by unfold BP;exact k
theorem iw(k:K (.int (if b then 1 else 0)) st):l9 [.bl b] st K:=by unfold l9;exact k
theorem cj(h:items? st d=some xs)(k:K (.tup xs) st):ck [d] st K:=by unfold ck ud;simp only[h];exact k
theorem jC(h:items? st d=some xs)(k:K (.lst xs) st):jR [d] st K:=by unfold jR xw;simp only[h];exact k
theorem BL(h:items? st d=some xs)(k:K (.ref st.length) (st++[.lst xs])):pF [d] st K:=by unfold pF ur;simp only[h];exact k
theorem o7(h:i6 xs=some bs)(k:K (.bl (bs.all id)) st):nC [.lst xs] st K:=by unfold nC AG;simp only[h];exact k
theorem gj{t c:String}(h:fh st d=some t)(hc:c∈ky)(k:K (.bl (qI t c)) st):gn [d,.ty c] st K:=by unfold gn xn;simp only[h];exact⟨hc,k⟩
theorem Er{cl:List String}(h:fh st d=some t)(h2:mP cs=some cl)(hc:∀c∈cl,c∈ky)(k:K (.bl (cl.any (qI t))) st):gn [d,.tup cs] st K:=by unfold gn xn;simp only[h,h2];exact⟨hc,k⟩
theorem gh{K:List D->(ae->Prop)->ae->Prop}(h:items? st d=some xs)(k:∀ok:ae->Prop,ok st->K xs ok st):oF d st K:=by
 unfold oF yG
 cases d<;>unfold items? at h<;>first
  |(cases h;done)
  |(cases h;exact k _ trivial)
  |(simp only at h
    split at h
    . rename_i q;cases h;simp only[q];exact k _ q
    . cases h)
theorem uh{K:List D->(ae->Prop)->ae->Prop}(k:K xs (λ _=>True) st):oF (.lst xs) st K:=by unfold oF;exact k
theorem eK{K:List D->(ae->Prop)->ae->Prop}(k:K xs (λ _=>True) st):oF (.tup xs) st K:=by unfold oF;exact k
theorem dW{K:List D->(ae->Prop)->ae->Prop}(h: -(2^62)<=j/\j<2^62)(k:K (du 0 j.toNat) (λ _=>True) st):AI [.int j] st K:=by unfold AI;exact⟨h,k⟩
theorem OC{K:List D->(ae->Prop)->ae->Prop}(h: -(2^62)<=i/\i<2^62/\ -(2^62)<=j/\j<2^62)(k:K (du i (j-i).toNat) (λ _=>True) st):AH [.int i,.int j] st K:=by unfold AH;exact⟨h,k⟩
theorem e8{K:ae->Prop}(h:st[n]?=some (.lst xs))(e:j4 xs.length i=some m)(k:K (st.set n (.lst (xs.set m d)))):vC (.ref n) (.int i) d st K:=by unfold vC C7;simp only[h,e];exact k
end
def JV(K:PySem.W.Frag):Bool:=K.all λ p=>p.2.cls != .type "list"
theorem vc:∀ {l:List (Addr×Obj)},l.lookup a=some o->(a,o)∈l
 | [],h=>by cases h
 |(b,u)::r,h=>by
  rw[WM]at h;split at h
  . rename_i z;cases h;have:a=b:=by simpa using z
    subst this;exact V_
  . exact V5 _ (vc h)
theorem Ay{K:PySem.W.Frag}(h:JV K=true){a:Addr}{o:Obj}(e:K.lookup a=some o):o.cls≠ .type "list":=by
 have:=Wm.mp h (a,o) (vc e);simpa using this
theorem zG:∀ns:List Int,aD α G (ns.map D.int) (ns.map V.int)
 | []=>by unfold aD;rfl
 |n::ns=>by
  rw[Ww,Ww];unfold aD;exact⟨_,_,rfl,by unfold Rep;rfl,zG ns⟩
def notStar:Expr->Bool
 | .Starred .. =>false
 |_=>true
theorem bx{e:Expr}(h:notStar e=true):starEach (e::es) env=(false,eval e env)::starEach es env:=by
 cases e<;>first|rfl|cases h
def gg:List Expr->Bool
 | []=>true
 |e::es=>notStar e&&gg es
theorem kE:∀ {es:List Expr},gg es=true->(backTo pos (starEach es env)).any (·.1)=false
 | [],_=>rfl
 |e::es,h=>by
  unfold gg at h;rw[Wv]at h;rw[bx h.1];have ih:=kE (pos:=pos) (env:=env) h.2;unfold backTo at ih⊢;rw[Ww,Yl,ih];rfl
def jd:Expr->Bool
 | .Slice .. =>false
 |_=>true
def sf:Expr->Bool
 | .Name .. =>true
 | .Call .. =>true
 | .Subscript .. =>true
 | .Attribute .. =>true
 |_=>false
def ke:Expr->Bool
 | .ListComp .. =>false
 | .SetComp .. =>false
 | .DictComp .. =>false
 |_=>true
section
variable {X:Cx}
theorem Lj(h:jd b=true):uC b:=by
 intro o i;cases b<;>first|rfl|cases h
theorem FJ{e:Expr}(h:sf e=true):∀whole,isTrue e X.env whole=(do let v <-whole;standAt e.pos;holding [v] (truthy v)):=by
 intro whole;cases e<;>first|(cases h;done)|rfl
theorem xU{e:Expr}(h:ke e=true):swapsWith e tg n env=pure false:=by
 cases e<;>first|(cases h;done)|rfl
theorem Ka{e:Expr}{tr:DA}(ha:PE X e (LE te))(hr:PA X es (LA tr))(hs:notStar e=true:=by rfl):PA X (e::es) (LA (aa te tr)):=mT ha hr (bx hs)
theorem SG{e:Expr}{es:List Expr}{pos p:Pos}{x:Str}{id:String}{r:dY}{t:DA}(hc:bf X (.builtin id) (ff r))(ha:PA X (e::es) (LA t))(hm:X.mg x=none)(hv:bootBuiltins x=some (.builtin id))(hn:x≠"__name__")(hdb:(x==("__debug__":Str))=false)(hg:Gl X x:=by rfl)(hs:notStar e=true:=by rfl)(hs2:gg es=true:=by rfl):
 PE X (.Call (.Name x p) (e::es) [] pos) (LE (aU r t)):=UN hc ha hm hv hg hn hdb (bx hs) (kE hs2)
theorem SV{e:Expr}(hc:bf X (.type T) (ff r))(ha:PA X (e::es) (LA t))(hm:X.mg x=none)(hv:bootBuiltins x=some (.type T))(hn:x≠"__name__")(hdb:(x==("__debug__":Str))=false)(hg:Gl X x:=by rfl)(hs:notStar e=true:=by rfl)(hs2:gg es=true:=by rfl):
 PE X (.Call (.Name x p) (e::es) [] pos) (LE (aU r t)):=Ui hc ha hm hv hg hn hdb (bx hs) (kE hs2)
theorem RV{e:Expr}{es:List Expr}{pos p:Pos}{x qual:Str}{st:Stmt}{ps:List Str}{f:Addr}{fd:FuncData}{k:Nat}{S:bw}{t:DA}(A:kI X.K X.mg x qual st ps f fd)(F:dz X.prog X.w X.K X.mg X.base gq k f fd ps (ik S))(hr:cF k X.A)
 (ha:PA X (e::es) (LA t)) (hdb:(x==("__debug__":Str))=false) (hg:Gl X x:=by rfl) (hs:notStar e=true:=by rfl) (hs2:gg es=true:=by rfl):
 PE X (.Call (.Name x p) (e::es) [] pos) (LE (ak S t)):=Ux A F hr ha hg hdb (bx hs) (kE hs2)
theorem RN(ha:PE X a (LE ta))(hb:PE X b (LE tb))(hs:jd b=true:=by rfl):PE X (.Subscript a b pos) (LE (ai aK ta tb)):=Uk ha hb (Lj hs)
theorem N7{e:Expr}(he:PE X e (LE te))(h:sf e=true:=by rfl):PT X e (LT (aE te)):=Q9 he (FJ h)
theorem Lh{e:Expr}(he:PE X e (LE te))(h:ke e=true:=by rfl):PS X (.Expr e pos) (LS (jI te)):=OE he (xU h)
theorem Od{e:Expr}(hN:X.N.Nodup)(hi:X.N[i]?=some x)(hx:Loc X.env.scope x)(he:PE X e te)(hf:X.fn x=true\/X.env.scope.names.lookup x=some .local:=by first|exact .inl rfl|exact .inr rfl)(h:ke e=true:=by rfl):
 PS X (.Assign [.Name x pos'] e pos) (kv te (kP i)):=QM hN hi hx he (xU h) hf
theorem Nv(hd:(x==("__debug__":Str))=false)(hcd:(x==("__classdict__":Str))=false)(hv:Di X.env.scope x)(hN:X.N[i]?=some x:=by rfl):PE X (.Name x pos) (LE (ab i)):=S9 (Rr hN hv hd hcd)
theorem QK{o i e:Expr}(he:PE X e te)(ho:PE X o to)(hi:PE X i ti)(h1:ke e=true:=by rfl)(h2:jd i=true:=by rfl):PS X (.Assign [.Subscript o i pos'] e pos) (kv te (yf to ti uD)):=
 wK he (wJ ho hi set_list (by intro v;cases i<;>first|rfl|cases h2)) (by unfold swapsWithSole;exact xU h1) (by cases e<;>rfl) rfl
end
@[irreducible] def JE(X:Cx)(e:Expr)(t:DE):Prop:=PE X e (LE t)
@[irreducible] def JT(X:Cx)(e:Expr)(t:DT):Prop:=PT X e (LT t)
@[irreducible] def JW(X:Cx)(e:Expr)(t:DT):Prop:=PW X e (LT t)
@[irreducible] def JA(X:Cx)(es:List Expr)(t:DA):Prop:=PA X es (LA t)
@[irreducible] def JS(X:Cx)(s:Stmt)(t:DS):Prop:=PS X s (LS t)
@[irreducible] def JB(X:Cx)(s:List Stmt)(t:DS):Prop:=gw X s (LS t)
@[irreducible] def JG(X:Cx)(e:Expr)(t:dU):Prop:=PG X e (LG t)
@[irreducible] def JI(X:Cx)(tg e:Expr)(t:DI):Prop:=PI X tg e (LI t)
@[irreducible] def JC(X:Cx)(es:List Expr)(t:DT):Prop:=tK X es (LT t)
section
variable {X:Cx}{a b c e o i:Expr}{es:List Expr}{ta tb tc te to ti:DE}{t u:DT}{ar:DA}{pos p pos':Pos}{s:Stmt}{ss:List Stmt}{T U:DS}
theorem IZ(hd:(x==("__debug__":Str))=false)(hcd:(x==("__classdict__":Str))=false)(hv:Di X.env.scope x)(hN:X.N[n]?=some x:=by rfl):JE X (.Name x pos) (ab n):=by unfold JE;exact Nv hd hcd hv hN
theorem nP{T:String}(hm:X.mg x=none)(hv:bootBuiltins x=some (.type T))(hn:x≠"__name__")(hdb:(x==("__debug__":Str))=false)(hg:Gl X x):JE X (.Name x pos) (dC (.ty T)):=by unfold JE;exact Vc hm hv hg hn hdb
theorem g7{k:Int}:JE X (.Constant (.int k) j pos) (dC (.int k)):=by unfold JE;exact S8
theorem Fv{k:Bool}:JE X (.Constant (.bool k) j pos) (dC (.bl k)):=by unfold JE;exact Ur
theorem MZ{k:Str}:JE X (.Constant (.str k) j pos) (dC (.str k)):=by unfold JE;exact To
theorem L5:JE X (.Constant .none j pos) (dC .ao):=by unfold JE;exact SD
theorem vf(ho:br X (binaryOp op) (LR r))(ha:JE X a ta)(hb:JE X b tb):JE X (.BinOp a op b pos) (ai r ta tb):=by unfold JE at*;exact U0 ho ha hb
theorem uz(ha:JE X a ta):JE X (.UnaryOp .USub a pos) (g9 e6 ta):=by unfold JE at*;exact Va SW ha
theorem Ml(ha:JE X a ta):JE X (.UnaryOp .Not a pos) (wL (aE ta)):=by unfold JE at*;exact Tz ha
theorem MU(ha:JE X a ta):JE X (.BoolOp op [a] pos) ta:=by unfold JE at*;exact Tp ha
theorem Nb(ha:JE X a ta)(hb:JE X (.BoolOp .And (b::es) pos) tb):JE X (.BoolOp .And (a::b::es) pos) (ix ta tb):=by unfold JE at*;exact R9 ha hb
theorem PL(ha:JE X a ta)(hb:JE X (.BoolOp .Or (b::es) pos) tb):JE X (.BoolOp .Or (a::b::es) pos) (F8 ta tb):=by unfold JE at*;exact Uh ha hb
theorem LV(ho:br X (compareOp op) (LR r))(hm:behindInMarks op b=false)(ha:JE X a ta)(hb:JE X b tb):JE X (.Compare a [op] [b] pos) (ai r ta tb):=by unfold JE at*;exact S0 ho ha hb hm
theorem EJ(ho:br X (compareOp op) (LR r))(ho':br X (compareOp op') (LR r'))(ha:JE X a ta)(hb:JE X b tb)(hc:JE X c tc)(hm:lastMarks [op,op'] [b,c]=false:=by with_unfolding_all rfl):JE X (.Compare a [op,op'] [b,c] pos) (tJ r r' ta tb tc):=by unfold JE at*;exact N5 ho ho' ha hb hc hm
theorem Mn(hc:JT X c t)(ha:JE X a ta)(hb:JE X b tb):JE X (.IfExp c a b pos) (BR t ta tb):=by unfold JE at*;unfold JT at hc;exact RL hc ha hb
theorem F7(h:JA X es ar):JE X (.Tuple es n pos) (bZ ar):=by unfold JE;unfold JA at h;exact SS h
theorem Mw(h:JA X es ar):JE X (.List es pos) (fy ar):=by unfold JE;unfold JA at h;exact Sv h
theorem M0(h:JA X es ar):JE X (.List es pos) (Lz ar):=by unfold JE;unfold JA at h;exact RK h
theorem bY:JA X [] af:=by unfold JA;exact sr
theorem aH(ha:JE X e te)(hr:JA X es ar)(hs:notStar e=true:=by rfl):JA X (e::es) (aa te ar):=by unfold JA at*;unfold JE at ha;exact Ka ha hr hs
theorem dR(ha:JE X a ta)(hb:JE X b tb)(hs:jd b=true:=by rfl):JE X (.Subscript a b pos) (ai aK ta tb):=by unfold JE at*;exact RN ha hb hs
theorem eZ{x:Str}{id:String}{r:dY}(hc:bf X (.builtin id) (ff r))(ha:JA X (e::es) ar)(hm:X.mg x=none)(hv:bootBuiltins x=some (.builtin id))(hn:x≠"__name__")(hdb:(x==("__debug__":Str))=false)(hg:Gl X x)(hs:notStar e=true:=by rfl)(hs2:gg es=true:=by rfl):JE X (.Call (.Name x p) (e::es) [] pos) (aU r ar):=by
 unfold JE;unfold JA at ha;exact SG hc ha hm hv hn hdb hg hs hs2
theorem j9{T:String}(hc:bf X (.type T) (ff r))(ha:JA X (e::es) ar)(hm:X.mg x=none)(hv:bootBuiltins x=some (.type T))(hn:x≠"__name__")(hdb:(x==("__debug__":Str))=false)(hg:Gl X x)(hs:notStar e=true:=by rfl)(hs2:gg es=true:=by rfl):JE X (.Call (.Name x p) (e::es) [] pos) (aU r ar):=by
 unfold JE;unfold JA at ha;exact SV hc ha hm hv hn hdb hg hs hs2
theorem cQ{x qual:Str}{st:Stmt}{ps:List Str}{f:Addr}{fd:FuncData}{k:Nat}{S:bw}(A:kI X.K X.mg x qual st ps f fd)(F:dz X.prog X.w X.K X.mg X.base gq k f fd ps (ik S))(hr:cF k X.A)(ha:JA X (e::es) ar)(hdb:(x==("__debug__":Str))=false)(hg:Gl X x)(hs:notStar e=true:=by rfl)(hs2:gg es=true:=by rfl):
 JE X (.Call (.Name x p) (e::es) [] pos) (ak S ar):=by unfold JE;unfold JA at ha;exact RV A F hr ha hdb hg hs hs2
theorem Ly(ho:JE X o to)(he:JE X e te)(hbase:attributeBase o "append" X.env (eval o X.env)=eval o X.env:=by rfl)(hline:(apos.endLine==cpos.line)=true:=by rfl)(hs:notStar e=true:=by rfl):JE X (.Call (.Attribute o "append" apos) [e] [] cpos) (pE to te):=by
 unfold JE at*;refine Lo ho he hbase ?_ hline (bx hs) rfl;rw[bx hs];rfl
theorem sW(ho:br X (compareOp op) (LR r))(hm:behindInMarks op b=false)(ha:JE X a ta)(hb:JE X b tb):JT X (.Compare a [op] [b] pos) (aE (ai r ta tb)):=by unfold JE at*;unfold JT;exact P9 ho ha hb hm
theorem PQ(ha:JT X a t):JT X (.UnaryOp .Not a pos) (cO t):=by unfold JT at*;exact RC ha
theorem Bu(he:JE X e te)(h:sf e=true:=by rfl):JT X e (aE te):=by unfold JT;unfold JE at he;exact N7 he h
theorem Ol(ha:JT X a t):JW X (.BoolOp .And [a] pos) t:=by unfold JW;unfold JT at ha;exact NV ha
theorem Qj(ha:JT X a t):JW X (.BoolOp .Or [a] pos) t:=by unfold JW;unfold JT at ha;exact QI ha
theorem Rv(ha:JT X a t)(hb:JW X (.BoolOp .And (b::es) pos) u):JW X (.BoolOp .And (a::b::es) pos) (mq t u):=by unfold JW at*;unfold JT at ha;exact O9 ha hb
theorem Tr(ha:JT X a t)(hb:JW X (.BoolOp .Or (b::es) pos) u):JW X (.BoolOp .Or (a::b::es) pos) (gF t u):=by unfold JW at*;unfold JT at ha;exact Sq ha hb
theorem Sy(h:JW X e t):JT X e t:=by unfold JT;unfold JW at h;exact PW.pt h
theorem uv(hl:JE X l ta):JI X tg l (cq ta):=by unfold JI;unfold JE at hl;exact Qx hl
theorem qJ(hg:Gl X "range")(hm:X.mg "range"=none)(ha:JA X [a] ar)(hs:notStar a=true:=by rfl):JI X tg (.Call (.Name "range" p) [a] [] pos) (cG ar):=by unfold JI;unfold JA at ha;exact Ij (JH hg hm ha (bx hs))
theorem Ke(hg:Gl X "range")(hm:X.mg "range"=none)(ha:JA X [a,b] ar)(hs:notStar a=true:=by rfl)(hs2:notStar b=true:=by rfl):JI X tg (.Call (.Name "range" p) [a,b] [] pos) (uc ar):=by unfold JI;unfold JA at ha;exact IH (HQ hg hm ha (by rw[bx hs,bx hs2];rfl) (bx hs2))
theorem pX{k:Nat}(hN:X.N.Nodup)(hx:Loc X.env.scope x:=by first|exact Or.inl rfl|exact Or.inr rfl)(hf:X.fn x=true\/X.env.scope.names.lookup x=some .local:=by first|exact .inl rfl|exact .inr rfl)(hi:X.N[k]?=some x:=by rfl):JG X (.Name x pos) (aM k):=by unfold JG;exact OZ (xX hN hi hx hf)
theorem Mm{k j n:Nat}(hc:X.calm=true)(hN:X.N.Nodup)(hx:Loc X.env.scope x:=by first|exact Or.inl rfl|exact Or.inr rfl)(hf:X.fn x=true\/X.env.scope.names.lookup x=some .local:=by first|exact .inl rfl|exact .inr rfl)(hy:Loc X.env.scope y:=by first|exact Or.inl rfl|exact Or.inr rfl)(hg:X.fn y=true\/X.env.scope.names.lookup y=some .local:=by first|exact .inl rfl|exact .inr rfl)(hi:X.N[k]?=some x:=by rfl)(hj:X.N[j]?=some y:=by rfl):
 JG X (.Tuple [.Name x px,.Name y py] n pos) (fI k j):=by unfold JG;exact Ra (G8 hc (pZ (xX hN hi hx hf) (pZ (xX hN hj hy hg) D7)))
theorem pk:JC X [] aW:=by unfold JC;exact JZ
theorem JM(h:JT X c t):JC X [c] t:=by unfold JC;unfold JT at h;exact Pa h
theorem CO(S:cA X scope Nc fr)(hi:JI X tg iter src)(hg:∀C s H ex,JG (bp X scope Nc C s H ex) tg dtg)(ht:∀C s H ex,JC (bp X scope Nc C s H ex) ifs t)(he:∀C s H ex,JE (bp X scope Nc C s H ex) elt te)(fit:jZ fr dtg)
 (hx:X.xe=λ _ _=>False:=by rfl) (hc:X.calm=true:=by rfl) (hs:∀x,foldedSetIterable iter X.env x=pure x:=by intro _;rfl):JE X (.ListComp elt [⟨tg,iter,ifs,0⟩] scope pos) (bh src fr dtg t te):=by
 unfold JE JI JG JC at*;exact QX S hi hg ht he fit hx hc hs
theorem pq(S:cA X scope Nc fr)(hi:JI X tg iter src)(hg:∀C s H ex,JG (bp X scope Nc C s H ex) tg dtg)(ht:∀C s H ex,JC (bp X scope Nc C s H ex) ifs t)(he:∀C s H ex,JE (bp X scope Nc C s H ex) elt te)(fit:jZ fr dtg)
 (hx:X.xe=λ _ _=>False:=by rfl) (hc:X.calm=true:=by rfl) (hs:∀x,foldedSetIterable iter X.env x=pure x:=by intro _;rfl):JE X (.ListComp elt [⟨tg,iter,ifs,0⟩] scope pos) (fG src fr dtg t te):=by
 unfold JE JI JG JC at*;exact NF S hi hg ht he fit hx hc hs
theorem tN:JB X [] bO:=by unfold JB;exact NT
theorem d8(h:JS X s T):JB X [s] T:=by unfold JB;unfold JS at h;exact NO h
theorem cC(h:JS X s T)(h2:JB X ss U):JB X (s::ss) (aB T U):=by unfold JB at*;unfold JS at h;exact Kw h h2
theorem kT(h:JE X e te):JS X (.Return (some e) pos) (aN te):=by unfold JS;unfold JE at h;exact Rn h
theorem mY(h:JE X e te)(hc:ke e=true:=by rfl):JS X (.Expr e pos) (jI te):=by unfold JS;unfold JE at h;exact Lh h hc
theorem w9(hc:JT X c t)(ha:JB X x T)(hb:JB X y U):JS X (.If c x y pos) (cf t T U):=by unfold JS;unfold JB at*;unfold JT at hc;exact RM hc ha hb
theorem Ba(hc:JT X c t)(hb:JB X x T)(hx:X.xe=λ _ _=>False:=by rfl):JS X (.While c x [] pos) (tH t T):=by unfold JS;unfold JB at hb;unfold JT at hc;exact Lx (Li (by rw[hx];exact PassesOwn.never) hc hb)
theorem Cu(hi:JI X tg iter src)(hg:JG X tg dtg)(hb:JB X x T)(hx:X.xe=λ _ _=>False:=by rfl)(hc:X.calm=true:=by rfl)(hs:∀x,foldedSetIterable iter X.env x=pure x:=by intro _;rfl):JS X (.For tg iter x [] pos) (jj src dtg T):=by
 unfold JS;unfold JI at hi;unfold JG at hg;unfold JB at hb;exact Pt (O_ (by rw[hx];exact PassesOwn.never) hc hi hg hb hs)
theorem kR{k:Nat}(hN:X.N.Nodup)(hx:Loc X.env.scope x)(he:JE X e te)(hf:X.fn x=true\/X.env.scope.names.lookup x=some .local:=by first|exact .inl rfl|exact .inr rfl)(h:ke e=true:=by rfl)(hi:X.N[k]?=some x:=by rfl):JS X (.Assign [.Name x pos'] e pos) (a6 k te):=by
 unfold JS;unfold JE at he;exact Qw (Od hN hi hx he hf h)
theorem E8{k:Nat}(hN:X.N.Nodup)(hl:Loc X.env.scope x)(S:cA X scope Nc fr)(hi:JI X tg iter src)(hg:∀C s H ex,JG (bp X scope Nc C s H ex) tg dtg)(ht:∀C s H ex,JC (bp X scope Nc C s H ex) ifs t)(he:∀C s H ex,JE (bp X scope Nc C s H ex) elt te)(fit:jZ fr dtg)
 (hf:X.fn x=true\/X.env.scope.names.lookup x=some .local:=by first|exact .inl rfl|exact .inr rfl) (hsw:swapsWith (.ListComp elt [⟨tg,iter,ifs,0⟩] scope p) (some (.Name x pos')) pos.line X.env=pure true:=by rfl) (hni:X.N[k]?=some x:=by rfl) (hx:X.xe=λ _ _=>False:=by rfl) (hc:X.calm=true:=by rfl) (hs:∀x,foldedSetIterable iter X.env x=pure x:=by intro _;rfl):
 JS X (.Assign [.Name x pos'] (.ListComp elt [⟨tg,iter,ifs,0⟩] scope p) pos) (a6 k (bh src fr dtg t te)):=by
 unfold JS;unfold JE JI JG JC at*;exact OY fit (Eo hx hc S hi hg ht he hN hni hl hf hsw hs)
theorem Kk{k:Nat}(hN:X.N.Nodup)(hl:Loc X.env.scope x)(S:cA X scope Nc fr)(hi:JI X tg iter src)(hg:∀C s H ex,JG (bp X scope Nc C s H ex) tg dtg)(ht:∀C s H ex,JC (bp X scope Nc C s H ex) ifs t)(he:∀C s H ex,JE (bp X scope Nc C s H ex) elt te)(fit:jZ fr dtg)
 (hf:X.fn x=true\/X.env.scope.names.lookup x=some .local:=by first|exact .inl rfl|exact .inr rfl) (hsw:swapsWith (.ListComp elt [⟨tg,iter,ifs,0⟩] scope p) (some (.Name x pos')) pos.line X.env=pure true:=by rfl) (hni:X.N[k]?=some x:=by rfl) (hx:X.xe=λ _ _=>False:=by rfl) (hc:X.calm=true:=by rfl) (hs:∀x,foldedSetIterable iter X.env x=pure x:=by intro _;rfl):
 JS X (.Assign [.Name x pos'] (.ListComp elt [⟨tg,iter,ifs,0⟩] scope p) pos) (a6 k (fG src fr dtg t te)):=by
 unfold JS;unfold JE JI JG JC at*;exact KL fit (Eo hx hc S hi hg ht he hN hni hl hf hsw hs)
theorem jh(he:JE X e te)(ho:JE X o to)(hi:JE X i ti)(h1:ke e=true:=by rfl)(h2:jd i=true:=by rfl):JS X (.Assign [.Subscript o i pos'] e pos) (cZ to ti te):=by unfold JS;unfold JE at*;exact CM (QK he ho hi h1 h2)
theorem Qu{k:Nat}{f:Int->Int->Int}(hN:X.N.Nodup)(hx:Loc X.env.scope x)(he:JE X e te)(ho:PZ X op (PU f))(hf:X.fn x=true\/X.env.scope.names.lookup x=some .local:=by first|exact .inl rfl|exact .inr rfl)(hi:X.N[k]?=some x:=by rfl):JS X (.AugAssign (.Name x pos') op e pos) (GH k (Dl f) te):=by
 unfold JS;unfold JE at he;exact QV (Qp hN hi hx he ho hf)
theorem QA(he:JE X e te)(hg:JG X tg dtg)(hs:swapsWithSole [tg] e pos.line X.env=pure false:=by rfl)(hw:swappedStores [tg] e X.env=pure none:=by rfl)(h1:(assignEach [tg] X.env).map (·.2)=[assign tg X.env]:=by rfl):JS X (.Assign [tg] e pos) (x4 dtg te):=by
 unfold JS;unfold JE at he;unfold JG at hg;exact Qo (wK he hg hs hw h1)
end
theorem nX{P:Program}{w:World}{K:PySem.W.Frag}{mg:Str->Option Value}{base:Heap}{x qual:Str}{st:Stmt}{f:Addr}{fd:FuncData}{N ps:List Str}{k:Nat}{sp:bw}{t:DS}(F:nN K x qual st f fd)(S:kD N ps (a9 st))
 (hbody:∀(cdv:Value) (A:Around) (outer:List Env) (s:Shared) (H:Hp) (E:XK),cF k (A.deeper (envOfC qual (a9 st) s.heap.objs.size f cdv))->JB (oy gq P w K mg base N qual (a9 st) f cdv A outer s H E).vb (fu st) t)
 (hsp:∀ds st K,sp ds st K->ds.length=ps.length/\t {nx:=λ _ st'=>K .ao st',rt:=K} (aF N ds) st):dz P w K mg base gq (k+1) f fd ps (ik sp):=by
 unfold JB at hbody;exact Si F S hbody hsp
end L3
namespace HT
open PySem PyProof.Rows
section
variable {prog:Program}{w:World}{A:Around}{E:Value->Shared->Prop}{s:Shared}
theorem rD{t sl:Addr}{items:Array Value}{vl vu:Value}{lo hi:Option Int}{Q:Value->Shared->Prop}(ht:IsTup s.heap t items)(hs:s.heap.IsSliceOf sl vl vu .none)(pl:IsPart vl lo)(pu:IsPart vu hi)
 (hw:bL items.size 0 lo=0/\bL items.size items.size hi=items.size) (h:Q (.ref t) s):wpAny (model prog w) A (getItem (.ref t) (.ref sl)) Q E s:=by
 obtain⟨os,hos,hcs,hds⟩:=id hs;have hTs:s.TypeIs (.ref sl) "slice":=⟨os,hos,hcs⟩
 unfold getItem;try with_reducible refine Yr ?_
 first|refine VR (V8 ?_)|skip
 refine VR (wpAny_sequenceKey ht.typeIs (by decide) ?_)
 refine VR (Xm (name:=Str.ofString "__getitem__") ht.typeIs Xb
  (XW Xb ht.typeIs entry_tuple_getitem ?_ (args_tuple_getitem _ _)))
 show wpAny _ _ (Builtin.Tuple.tupleItemsOf (.ref t) >>= _) _ _ s;refine VR (tupleItemsOf_ ht ?_);refine VR (wpAny_typeOf hTs ?_);rw[VU (by decide)];refine VR (nj hs pl pu ?_)
 have hyes:(((bL items.size 0 lo:Nat):Int)==0&&(1:Int)==1&&(bL items.size items.size hi-bL items.size 0 lo)==items.size)=true:=by
  rw[hw.1,hw.2];simp
 show wpAny _ _ (if(((bL items.size 0 lo:Nat):Int)==0&&(1:Int)==1&&(bL items.size items.size hi-bL items.size 0 lo)==items.size)=true then _ else _) _ _ s;rw[VU hyes];refine VR ?_;unfold Builtin.Tuple.tupleIsExact;exact VR (wpAny_typeOf ht.typeIs (V8 (VR (YW (V8 ⟨_,rfl,V8 h⟩)))))
end
end HT
namespace L3
open PySem L2
open PySem.Spec hiding items?
open PyProof.Rows hiding St
abbrev DO:=bo->ae->(Option Int->ae->Prop)->Prop
def cp:DO:=λ _ st K=>K none st
def cY(t:DE):DO:=λ σ st K=>t σ st λ d st1=>match d with| .int i=>K (some i) st1|_=>False
def cutD(xs:List D)(lo hi:Option Int):List D:=(xs.drop (HT.bL xs.length 0 lo)).take (HT.bL xs.length xs.length hi-HT.bL xs.length 0 lo)
def C_(d:D)(lo hi:Option Int)(st:ae)(K:DK):Prop:=match d with
 | .lst xs=>K (.lst (cutD xs lo hi)) st
 | .tup xs=>K (.tup (cutD xs lo hi)) st
 | .ref n=>(match st[n]? with|some (.lst xs)=>K (.lst (cutD xs lo hi)) st|_=>False)
 |_=>False
@[irreducible] def iY:D->Option Int->Option Int->ae->DK->Prop:=C_
def cH(t:DE)(lo hi:DO):DE:=λ σ st K=>t σ st λ d st1=>lo σ st1 λ l st2=>hi σ st2 λ u st3=>iY d l u st3 K
theorem vM{α:List (Option Addr)}{G:Hp}{xs:List D}{vs:List V}{lo hi:Option Int}(r:aD α G xs vs):aD α G (cutD xs lo hi) (pM vs lo hi):=by
 unfold cutD pM;rw[<-r.length];exact aV.mpr (u9 _ (uX _ (aV.mp r)))
def Vm(α:List (Option Addr))(G F:Hp)(K:Option Int->ae->Prop)(Q:Option Int->Hp->Prop):Prop:=∀o st',K o st'->∀α' G' H',Step α G α' G'->bQ G' F H'->aJ α' st' G'->Q o H'
inductive T8(t:DO)(σ:L2.St)(H:Hp)(Q:Option Int->Hp->Prop):Prop
 |mk (α:List (Option Addr)) (σd:bo) (st:ae) (K:Option Int->ae->Prop) (G F:Hp) (P:bQ G F H) (R:dm α G σd σ) (S:aJ α st G) (h:t σd st K) (k:Vm α G F K Q):T8 t σ H Q
def LO(t:DO):TO:=T8 t
section
variable {X:Cx}
theorem PO.imp{e:Option Expr}(h:PO X e t)(f:∀σ H Q,t' σ H Q->t σ H Q):PO X e t':=λ pins s σ H Q I q=>h pins s σ H Q I (f σ H Q q)
theorem OA:PO X none (LO cp):=PO.imp Oq λ σ H Q ⟨α,σd,st,K,G,F,P,R,S,t,k⟩=>k none st t α G H Step.refl P S
theorem Oy{e:Expr}(h:PE X e (LE te)):PO X (some e) (LO (cY te)):=PO.imp (NQ h) λ σ H Q ⟨α,σd,st,K,G,F,P,R,S,t,k⟩=>by
 refine⟨α,σd,st,_,G,F,P,R,S,t,λ d st1 q α1 G1 H1 v s1 P1 S1 r1=>?_⟩;cases d<;>try exact q.elim
 unfold Rep at r1;exact⟨_,r1,k _ st1 q α1 G1 H1 s1 P1 S1⟩
def Ve(x:V)(lo hi:Option Int)(H:Hp)(Q:VK):Prop:=∃α d st K G F,bQ G F H/\Rep α G d x/\aJ α st G/\iY d lo hi st K/\LK α G F K Q
theorem Ou:Ir X (λ x lo hi H Q=>∃a xs,x= .ref a/\H a=some (.tup xs)/\((HT.bL xs.length 0 lo=0/\HT.bL xs.length xs.length hi=xs.length)->Q (.ref a) H)/\(¬(HT.bL xs.length 0 lo=0/\HT.bL xs.length xs.length hi=xs.length)->∀p,H p=none->Q (.ref p) (upd H p (.tup (pM xs lo hi))))):=by
 intro pins s σ H x v vl vu lo hi sl Q I rx hs pl pu h;obtain⟨a,xs,rfl,hx,q1,q2⟩:=h;by_cases hw:HT.bL xs.length 0 lo=0/\HT.bL xs.length xs.length hi=xs.length
 . cases rx;obtain⟨aj,r,ht,hz⟩:=I.tuple (hZ.of hx);have hlen:aj.toArray.size=xs.length:=by rw[V2];exact r.length.symm
   exact⟨"tuple",_,Xb.lookup,ht.typeIs,HT.rD ht hs pl pu (by rw[hlen];exact hw) ⟨.ref a,H,I,rfl,q1 hw⟩⟩
 . exact QE pins s σ H _ v vl vu lo hi sl Q I rx hs pl pu ⟨a,xs,rfl,.of hx,hw,q2 hw⟩
theorem Iy{xs:List D}{lo hi:Option Int}(hw:HT.bL xs.length 0 lo=0/\HT.bL xs.length xs.length hi=xs.length):cutD xs lo hi=xs:=by
 unfold cutD;rw[hw.1,hw.2];simp
theorem Q8:Ir X Ve:=by
 intro pins s σ H x v vl vu lo hi sl Q I rx hs pl pu ⟨α,d,st,K,G,F',P,r1,S,q,k⟩;unfold iY C_ at q;cases d<;>try exact q.elim
 . rename_i n;simp only at q;split at q
   . rename_i xs e;obtain⟨a,ea,vs,h1,h2⟩:=S.eV e;have r1':=dh ea r1;subst r1';exact EO pins s σ H _ v vl vu lo hi sl Q I rx hs pl pu ⟨a,vs,rfl,.inl (.of (P.get h1)),λ p hp=>k.lst P q S (vM h2) hp⟩
   . exact q.elim
 . unfold Rep at r1;obtain⟨a,vs,rfl,na,ha,ra⟩:=r1;exact EO pins s σ H _ v vl vu lo hi sl Q I rx hs pl pu ⟨a,vs,rfl,.inl (f6 P ha),λ p hp=>k.lst P q S (vM ra) hp⟩
 . rename_i xs;have r0:=r1;unfold Rep at r1;obtain⟨a,vs,rfl,na,ha,ra⟩:=r1;refine Ou pins s σ H _ v vl vu lo hi sl Q I rx hs pl pu ⟨a,vs,rfl,P.get ha,λ hw=>?_,λ _ p hp=>k.tup P q S (vM ra) hp⟩;rw[<-ra.length]at hw;simp only at q;rw[Iy hw]at q;exact k.here P q S r0
theorem Nw{e:Expr}{lo hi:Option Expr}{te:DE}{tl th:DO}{p2 pos:Pos}(he:PE X e (LE te))(hl:PO X lo (LO tl))(hh:PO X hi (LO th)):PE X (.Subscript e (.Slice lo hi none p2) pos) (LE (cH te tl th)):=PE.imp (Kh Q8 he hl hh) λ σ H Q ⟨α,σd,st,K,G,F,P,R,S,t,k⟩=>by
 refine⟨α,σd,st,_,G,F,P,R,S,t,λ d st1 q α1 G1 H1 v s1 P1 S1 r1=>?_⟩;refine⟨α1,σd,st1,_,G1,F,P1,R.step s1,S1,q,λ l st2 q2 α2 G2 H2 s2 P2 S2=>?_⟩;refine⟨α2,σd,st2,_,G2,F,P2,(R.step s1).step s2,S2,q2,λ u st3 q3 α3 G3 H3 s3 P3 S3=>?_⟩;exact⟨α3,d,st3,K,G3,F,P3,(r1.step s2).step s3,S3,q3,((k.at s1).at s2).at s3⟩
@[irreducible] def JO(X:Cx)(e:Option Expr)(t:DO):Prop:=PO X e (LO t)
theorem EA:JO X none cp:=by unfold JO;exact OA
theorem Ek{e:Expr}(h:JE X e te):JO X (some e) (cY te):=by unfold JO;unfold JE at h;exact Oy h
theorem ym{e:Expr}{lo hi:Option Expr}{te:DE}{tl th:DO}{p2 pos:Pos}(he:JE X e te)(hl:JO X lo tl)(hh:JO X hi th):JE X (.Subscript e (.Slice lo hi none p2) pos) (cH te tl th):=by unfold JE at*;unfold JO at*;exact Nw he hl hh
end
theorem gp{st:ae}{K:DK}{xs:List D}{lo hi:Option Int}(k:K (.lst (cutD xs lo hi)) st):iY (.lst xs) lo hi st K:=by unfold iY;exact k
theorem dD{st:ae}{K:DK}{xs:List D}{lo hi:Option Int}(k:K (.tup (cutD xs lo hi)) st):iY (.tup xs) lo hi st K:=by unfold iY;exact k
theorem zt{st:ae}{K:DK}{xs:List D}{lo hi:Option Int}{n:Nat}(h:st[n]?=some (.lst xs))(k:K (.lst (cutD xs lo hi)) st):iY (.ref n) lo hi st K:=by unfold iY C_;simp only[h];exact k
section
variable {prog:Program}{w:World}{A:Around}{E:Value->Shared->Prop}{s:Shared}
theorem FH(hI:s.heap.IsTupleIter iT tp n)(hT:s.heap.IsTuple tp aj)(hv:aj[n]?=some v)
 (q:∀g,g.IsTupleIter iT tp (n+1)->Heap.SameBut iT s.heap g->Q v {s with heap:=g}):wpAny (model prog w) A (Builtin.SmallTypes.nextOf (.ref iT)) Q E s:=by
 obtain⟨oI,eI,cI,dI⟩:=id hI;obtain⟨oT,eT,_,nT,dT⟩:=hT;unfold Builtin.SmallTypes.nextOf;refine VR (Xm (name:=Str.ofString "__next__") hI.typeIs Ym (XW Ym hI.typeIs ZP ?_ (ZL _)));show wpAny _ _ (field (.ref iT) 0 >>= _) _ _ s;refine VR (Xf eI dI (x:= .ref tp) rfl ?_);show wpAny _ _ (if(Value.ref tp==Value.none)=true then _ else _) _ _ s;rw[VT (show¬((Value.ref tp==Value.none)=true)from WG)];show wpAny _ _ (field (.ref iT) 1 >>= _) _ _ s;refine VR (Xf eI dI (x:= .int n 0) rfl ?_);show wpAny _ _ (seqItems? (.ref tp) >>= _) _ _ s;refine VR (XX eT dT ?_);simp only[Wi,hv];refine VR (wpAny_setField eI dI (by simp) (V8 ⟨v,rfl,V8 (q _ ?_ (XB ..))⟩));refine⟨_,Heap.get?_update_self _ eI (Obj.isFreed_of_fields (Obj.data_mapFields dI _)),(Obj.cls_mapFields ..).trans cI,?_⟩;rw[Obj.data_mapFields dI];simp[rawInt]
theorem Jb(hh:A.handled=none)(hI:s.heap.IsTupleIter iT tp n)(hT:s.heap.IsTuple tp aj)(hv:aj[n]?=none)
 (q:∀g e,Heap.ExtBut iT s.heap g->(∃o,g.get? e=some o/\o.cls= .type "StopIteration")->E (.ref e) {s with heap:=g}):wpAny (model prog w) A (Builtin.SmallTypes.nextOf (.ref iT)) Q E s:=by
 obtain⟨oI,eI,cI,dI⟩:=id hI;obtain⟨oT,eT,_,nT,dT⟩:=hT;unfold Builtin.SmallTypes.nextOf;refine VR (Xm (name:=Str.ofString "__next__") hI.typeIs Ym (XW Ym hI.typeIs ZP ?_ (ZL _)));show wpAny _ _ (field (.ref iT) 0 >>= _) _ _ s;refine VR (Xf eI dI (x:= .ref tp) rfl ?_);show wpAny _ _ (if(Value.ref tp==Value.none)=true then _ else _) _ _ s;rw[VT (show¬((Value.ref tp==Value.none)=true)from WG)];show wpAny _ _ (field (.ref iT) 1 >>= _) _ _ s;refine VR (Xf eI dI (x:= .int n 0) rfl ?_);show wpAny _ _ (seqItems? (.ref tp) >>= _) _ _ s;refine VR (XX eT dT ?_);simp only[Wi,hv];refine VR (YW (VR (wpAny_setField eI dI (by simp) ?_)));show wpAny _ _ (newExc (.type "StopIteration") [] >>= _) _ _ _;refine VR ?_;simp only[newExc,newTuple];refine VR (Yo ?_ (by size_fits));refine VR (m:=firstArgMember _ _) (wpAny_of_eq (a:=Value.none) (by first|rfl|(simp only[firstArgMember];rfl)) ?_);refine Yo ?_ (by size_fits);simp only[raiseNew];refine VR (wpAny_handled ?_);first|rw[show A.in1.handled=none from hh]|rw[hh]
 refine VR (V8 (wpAny_throw ?_));exact q _ _ (((XB ..).extBut.push _).push _) ⟨_,Wq _ rfl,rfl⟩
end
section
variable {st:ae}{K:DK}{i j:Int}{b c:Bool}{xs ys:List D}{d e:D}{n:Nat}
theorem eqT(h:i=j)(k:K (.bl true) st):dE (.int i) (.int j) st K:=xB (by rw[Wr h];exact k)
theorem VJ(h:i≠j)(k:K (.bl false) st):dE (.int i) (.int j) st K:=xB (by rw[We h];exact k)
theorem eq2(h1:i=j->K (.bl true) st)(h2:i≠j->K (.bl false) st):dE (.int i) (.int j) st K:=by
 by_cases h:i=j
 . exact eqT h (h1 h)
 . exact VJ h (h2 h)
theorem neT(h:i≠j)(k:K (.bl true) st):qM (.int i) (.int j) st K:=MQ (by rw[We h];exact k)
theorem Vt(h:i=j)(k:K (.bl false) st):qM (.int i) (.int j) st K:=MQ (by rw[Wr h];exact k)
theorem ne2(h1:i≠j->K (.bl true) st)(h2:i=j->K (.bl false) st):qM (.int i) (.int j) st K:=by
 by_cases h:i=j
 . exact Vt h (h2 h)
 . exact neT h (h1 h)
theorem Vn(h:i<j)(k:K (.bl true) st):oU (.int i) (.int j) st K:=tX (by rw[Wr h];exact k)
theorem Vs(h:j<=i)(k:K (.bl false) st):oU (.int i) (.int j) st K:=tX (by rw[We (by omega)];exact k)
theorem TQ(h1:i<j->K (.bl true) st)(h2:j<=i->K (.bl false) st):oU (.int i) (.int j) st K:=by
 by_cases h:i<j
 . exact Vn h (h1 h)
 . exact Vs (by omega) (h2 (by omega))
theorem VH(h:j<i)(k:K (.bl true) st):lh (.int i) (.int j) st K:=LZ (by rw[Wr h];exact k)
theorem Vl(h:i<=j)(k:K (.bl false) st):lh (.int i) (.int j) st K:=LZ (by rw[We (by omega)];exact k)
theorem xN(h1:j<i->K (.bl true) st)(h2:i<=j->K (.bl false) st):lh (.int i) (.int j) st K:=by
 by_cases h:j<i
 . exact VH h (h1 h)
 . exact Vl (by omega) (h2 (by omega))
theorem Vy(h:j<=i)(k:K (.bl true) st):uO (.int i) (.int j) st K:=Fh (by rw[Wr h];exact k)
theorem Vj(h:i<j)(k:K (.bl false) st):uO (.int i) (.int j) st K:=Fh (by rw[We (by omega)];exact k)
theorem TN(h1:j<=i->K (.bl true) st)(h2:i<j->K (.bl false) st):uO (.int i) (.int j) st K:=by
 by_cases h:j<=i
 . exact Vy h (h1 h)
 . exact Vj (by omega) (h2 (by omega))
theorem QY(h:xs.length<=1000)(k:P):xs.length<=sizeLine/\P:=⟨by rw[Y7];omega,k⟩
theorem aI(h:m<=1000):m<=sizeLine:=by rw[Y7];omega
theorem yc(h0:0<=i)(e:xs[i.toNat]?=some d):e_ xs i=some d:=by
 have:=j8 e;rw[Int.toNat_of_nonneg h0]at this;exact this
theorem JL(h0:0<=i)(h:i.toNat<m):j4 m i=some i.toNat:=by
 unfold j4;have:i<(m:Int):=by omega
 simp[h0,this]
end
theorem gO(I:List D->bo->ae->Prop)(hend:∀σ st,I [] σ st->ok st/\E.nx σ st)
 (hstep:∀x xs σ st,I (x::xs) σ st->(∀σ' st',I xs σ' st'->ib tg body ok E xs σ' st')->ok st/\∃σ1,tg x σ=some σ1/\body {E with nx:=ib tg body ok E xs,ct:=ib tg body ok E xs,bk:=E.nx} σ1 st):
 ∀xs σ st,I xs σ st->ib tg body ok E xs σ st
 | [],σ,st,h=>by unfold ib;exact hend σ st h
 |x::xs,σ,st,h=>by unfold ib;exact hstep x xs σ st h λ σ' st' h'=>gO I hend hstep xs σ' st' h'
theorem cN{tg:dU}{c:DT}{te:DE}{ok:ae->Prop}{σc:bo}{K:List D->ae->Prop}(I:List D->List D->ae->Prop)(hend:∀acc st,I [] acc st->ok st/\K acc st)
 (hstep:∀x xs acc st,I (x::xs) acc st->(∀acc' st',I xs acc' st'->bz tg c te ok σc xs acc' st' K)->ok st/\∃σ2,tg x σc=some σ2/\c σ2 st λ b st1=>if b=true then te σ2 st1 λ y st2=>bz tg c te ok σc xs (acc++[y]) st2 K else bz tg c te ok σc xs acc st1 K):
 ∀xs acc st,I xs acc st->bz tg c te ok σc xs acc st K
 | [],acc,st,h=>by unfold bz;exact hend acc st h
 |x::xs,acc,st,h=>by unfold bz;exact hstep x xs acc st h λ acc' st' h'=>cN I hend hstep xs acc' st' h'
theorem comp_map{tg:dU}{te:DE}{ok:ae->Prop}{σc:bo}{st:ae}{K:List D->ae->Prop}{g:D->D}(aC:ok st)(xs:List D)(hx:∀x∈xs,∀K',K' (g x) st->∃σ2,tg x σc=some σ2/\te σ2 st K')(k:K (xs.map g) st):bz tg aW te ok σc xs [] st K:=by
 refine cN (λ r acc st'=>st'=st/\(∀x∈r,x∈xs)/\acc++r.map g=xs.map g) (λ acc st' h=>?_) (λ x r acc st' h next=>?_) xs [] st ⟨rfl,λ _ h=>h,rfl⟩
 . obtain⟨rfl,_,e⟩:=h;rw[Zr,WE]at e;rw[e];exact⟨aC,k⟩
 . obtain⟨rfl,hm,e⟩:=h;obtain⟨σ2,e2,q⟩:=hx x (hm x V_) (λ y st2=>bz tg aW te ok σc r (acc++[y]) st2 K) (next _ _ ⟨rfl,λ z hz=>hm z (V5 _ hz),by rw[<-e];simp⟩);exact⟨aC,σ2,e2,q⟩
theorem fC{A B:DS}{E:kG}{σ:bo}{st:ae}(J:bo->ae->Prop)(h:∀nx,(∀σ' st',J σ' st'->nx σ' st')->A {E with nx:=nx} σ st)(k:∀σ' st',J σ' st'->B E σ' st'):aB A B E σ st:=h (B E) k
def Qi(n:Nat)(K:DK)(y:D)(st2:ae):Prop:=∃y',[y]=[y']/\(match st2[n]? with|some (.lst xs)=>xs.length<sizeLine/\K .ao (st2.set n (.lst (xs++[y'])))|_=>False)
theorem OX{n:Nat}{K:DK}{y:D}{st:ae}{xs:List D}(e:st[n]?=some (.lst xs))(h:xs.length<sizeLine)(k:K .ao (st.set n (.lst (xs++[y])))):Qi n K y st:=by
 refine⟨y,rfl,?_⟩;simp only[e];exact⟨h,k⟩
@[irreducible] def pB(to te:DE):DE:=pE to te
theorem yV{o e:Expr}(ho:JE X o to)(he:JE X e te)(hbase:attributeBase o "append" X.env (eval o X.env)=eval o X.env:=by rfl)(hline:(apos.endLine==cpos.line)=true:=by rfl)(hs:notStar e=true:=by rfl):JE X (.Call (.Attribute o "append" apos) [e] [] cpos) (pB to te):=by
 unfold pB;exact Ly ho he hbase hline hs
section
variable {X:Cx}
end
structure Src(P:Program)(w:World)(t a:Addr)(J:Nat->Heap->Prop)(us:Array Value):Prop where
 fr:∀n g k,J n g->(∀b,b=t\/b=a->∀o,g.get? b=some o->k.get? b=some o)->J n k
 lv:∀n g,J n g->(∃o,g.get? t=some o)/\∃o,g.get? a=some o
 nx:∀n (A:Around) (s:Shared) (Q:Value->Shared->Prop) (E:Value->Shared->Prop) v,J n s.heap->us[n]?=some v->(∀k,J (n+1) k->Heap.SameBut t s.heap k->Q v {s with heap:=k})->wpAny (model P w) A (Builtin.SmallTypes.nextOf (.ref t)) Q E s
 en:∀n (A:Around) (s:Shared) (Q:Value->Shared->Prop) (E:Value->Shared->Prop),A.handled=none->J n s.heap->us[n]?=none->(∀k e,Heap.ExtBut t s.heap k->(∃o,k.get? e=some o/\o.cls= .type "StopIteration")->E (.ref e) {s with heap:=k})->wpAny (model P w) A (Builtin.SmallTypes.nextOf (.ref t)) Q E s
section
variable {P:Program}{w:World}
theorem src_list(t a:Addr)(hne:a≠t)(us:Array Value):Src P w t a (λ n g=>g.IsListIter t a n/\g.IsList a us) us where
 fr:=λ n g k j kp=>⟨j.1.at λ o e=>kp t (.inl rfl) o e,j.2.at λ o e=>kp a (.inr rfl) o e⟩
 lv:=λ n g j=>⟨let⟨o,e,_⟩:=j.1;⟨o,e⟩,let⟨o,e,_⟩:=j.2;⟨o,e⟩⟩
 nx:=λ n A s Q E v j hv q=>wpAny_nextOf_list_item j.1 j.2 hv λ k jk sb=>q k ⟨jk,j.2.extBut sb.extBut hne⟩ sb
 en:=λ n A s Q E hh j hv q=>wpAny_nextOf_list_end hh j.1 j.2 hv q
theorem NX(t a:Addr)(hne:a≠t)(us:Array Value):Src P w t a (λ n g=>g.IsTupleIter t a n/\g.IsTuple a us) us where
 fr:=λ n g k j kp=>by
  obtain⟨⟨o,e,r⟩,⟨o2,e2,r2⟩⟩:=j;exact⟨⟨o,kp t (.inl rfl) o e,r⟩,⟨o2,kp a (.inr rfl) o2 e2,r2⟩⟩
 lv:=λ n g j=>⟨let⟨o,e,_⟩:=j.1;⟨o,e⟩,let⟨o,e,_⟩:=j.2;⟨o,e⟩⟩
 nx:=λ n A s Q E v j hv q=>FH j.1 j.2 hv λ k jk sb=>q k ⟨jk,j.2.extBut sb.extBut hne⟩ sb
 en:=λ n A s Q E hh j hv q=>Jb hh j.1 j.2 hv q
theorem Src.ext(S:Src P w t a J us){g k:Heap}(j:J n g)(x:Heap.ExtBut c g k)(h1:c≠t)(h2:c≠a):J n k:=
 S.fr n g k j λ b hb o e=>x b o (by rcases hb with rfl|rfl;exact V6 h1;exact V6 h2) e
structure Ea(z ti to t1 t2 a1 a2:Addr):Prop where
 nd: [z,ti,to,t1,t2].Nodup
 a1:a1∉[z,ti,to,t1,t2]
 a2:a2∉[z,ti,to,t1,t2]
section
variable {z ti to t1 t2 a1 a2:Addr}
theorem Ea.n(D:Ea z ti to t1 t2 a1 a2):(ti≠z/\to≠z/\t1≠z/\t2≠z)/\(ti≠to/\ti≠t1/\ti≠t2)/\(to≠t1/\to≠t2)/\t1≠t2:=by
 have:=D.nd;simp only[Xp,V4,YQ,Wh,Xa,Yy,aaC]at this;obtain⟨⟨b1,b2,b3,b4⟩,⟨b5,b6,b7⟩,⟨b8,b9⟩,b10⟩:=this;exact⟨⟨V6 b1,V6 b2,V6 b3,V6 b4⟩,⟨b5,b6,b7⟩,⟨b8,b9⟩,b10⟩
theorem IW{A:Around}{s:Shared}{E:Value->Shared->Prop}{J1 J2:Nat->Heap->Prop}{us vs:Array Value}{n:Nat}{x y a b:Value}{Q:Value->Shared->Prop}(D:Ea z ti to t1 t2 a1 a2)(S1:Src P w t1 a1 J1 us)(S2:Src P w t2 a2 J2 vs)
 (Z:IsZip s.heap z ti to .none) (pI:IsPair s.heap ti (.ref t1) (.ref t2)) (pO:IsPair s.heap to a b) (j1:J1 n s.heap) (j2:J2 n s.heap) (ex:us[n]?=some x) (ey:vs[n]?=some y)
 (q:∀k,IsZip k z ti to (rawInt s.heap.objs.size)->IsPair k to x y->J1 (n+1) k->J2 (n+1) k->IsPair k s.heap.objs.size x y->k.objs.size=s.heap.objs.size+1->
   (∀c o,c≠z->c≠to->c≠t1->c≠t2->s.heap.get? c=some o->k.get? c=some o)->Q (.ref s.heap.objs.size) {s with heap:=k}):
 wpAny (model P w) A (Builtin.«zip.__next__» ⟨[.ref z],[]⟩) (λ fin s'=>∃v,fin= .done (.ret v)/\Q v s') E s:=by
 obtain⟨⟨n1,n2,n3,n4⟩,⟨n5,n6,n7⟩,⟨n8,n9⟩,n10⟩:=D.n;have m1:=D.a1;have m2:=D.a2;simp only[V4,YQ,Wh,Xa,Yy]at m1 m2;show wpAny _ _ (field (.ref z) 2 >>= _) _ _ _;refine VR (Xf Z rfl (x:= .bool false) rfl ?_);show wpAny _ _ (field (.ref z) 3 >>= _) _ _ _;refine VR (Xf Z rfl (x:= .ref ti) rfl ?_);refine VR (XX pI rfl ?_);show wpAny _ _ (Builtin.SmallTypes.ownedTupleIsFree (.ref z) >>= _) _ _ _;refine VR ?_;unfold Builtin.SmallTypes.ownedTupleIsFree;refine VR (Xf Z rfl (x:= .none) rfl (V8 ?_));simp only[Yk];refine VR (YW ?_);refine VR (Xf Z rfl (x:= .ref to) rfl ?_);refine VR (Yd Z (by simp) λ k1 Z1 b1=>?_);replace Z1:IsZip k1 z ti to .ellipsis:=Z1;refine VR ?_;simp only[List.zipIdx_cons,List.zipIdx_nil,aao,aaA];refine VR (VR (ZT ?_));show wpAny _ _ (Builtin.SmallTypes.nextOf (.ref t1) >>= _) _ _ _;refine VR (S1.nx n _ _ _ _ x (S1.ext j1 b1.extBut (V6 n3) (V6 m1.1)) ex λ k2 j1b b2=>V8 ?_);have pO2:IsPair k2 to a b:=b2.extBut _ _ n8 (b1.extBut _ _ n2 pO);refine VR (XX pO2 rfl ?_);refine VR (Zx pO2 λ k3 pO3 b3=>?_);replace pO3:IsPair k3 to x b:=pO3;refine VR (aas (V8 ?_));refine VR (VR (ZT ?_));show wpAny _ _ (Builtin.SmallTypes.nextOf (.ref t2) >>= _) _ _ _;have j2c:J2 n k3:=S2.ext (S2.ext (S2.ext j2 b1.extBut (V6 n4) (V6 m2.1)) b2.extBut n10 (V6 m2.2.2.2.1)) b3.extBut n9 (V6 m2.2.2.1);refine VR (S2.nx n _ _ _ _ y j2c ey λ k4 j2d b4=>V8 ?_);have pO4:IsPair k4 to x b:=b4.extBut _ _ n9 pO3;refine VR (XX pO4 rfl ?_);refine VR (Zx pO4 λ k5 pO5 b5=>?_);replace pO5:IsPair k5 to x y:=pO5;refine VR (aas (V8 (V8 ?_)));refine VR (XX pO5 rfl ?_);refine VR (wpAny_newTuple ?_);have sz:k5.objs.size=s.heap.objs.size:=by rw[b5.1,b4.1,b3.1,b2.1,b1.1]
 have Z5:IsZip k5 z ti to .ellipsis:=b5.extBut _ _ (V6 n2) (b4.extBut _ _ (V6 n4) (b3.extBut _ _ (V6 n2) (b2.extBut _ _ (V6 n3) Z1)));have kp5:∀c o,c≠z->c≠to->c≠t1->c≠t2->s.heap.get? c=some o->k5.get? c=some o:=λ c o c1 c2 c3 c4 e=>b5.extBut _ _ c2 (b4.extBut _ _ c4 (b3.extBut _ _ c2 (b2.extBut _ _ c3 (b1.extBut _ _ c1 e))));have j1e:J1 (n+1) k5:=S1.ext (S1.ext (S1.ext j1b b3.extBut n8 (V6 m1.2.2.1)) b4.extBut (V6 n10) (V6 m1.2.2.2.2)) b5.extBut n8 (V6 m1.2.2.1);have j2e:J2 (n+1) k5:=S2.ext j2d b5.extBut n9 (V6 m2.2.2.1);have ltz:z<k5.objs.size:=Wd Z5;show wpAny _ _ (Builtin.SmallTypes.ownedTupleHandOut (.ref z) (.ref k5.objs.size) >>= _) _ _ _;refine VR ?_;unfold Builtin.SmallTypes.ownedTupleHandOut;have Z6:IsZip (k5.push {cls:= .type "tuple",data:= .seq #[x,y]}) z ti to .ellipsis:=VY _ Z5;refine VR (Yd Z6 (by simp) λ k7 Z7 b7=>?_);replace Z7:IsZip k7 z ti to (rawInt k5.objs.size):=Z7;refine Yd Z7 (by simp) λ k8 Z8 b8=>?_;replace Z8:IsZip k8 z ti to (rawInt k5.objs.size):=Z8;have up:∀c o,c≠z->k5.get? c=some o->k8.get? c=some o:=λ c o c1 e=>b8.extBut _ _ c1 (b7.extBut _ _ c1 (VY _ e));have pT:IsPair k8 k5.objs.size x y:=b8.extBut _ _ (X_ ltz) (b7.extBut _ _ (X_ ltz) (Wq _ rfl));have sz8:k8.objs.size=k5.objs.size+1:=by rw[b8.1,b7.1,Xh]
 rw[sz]at Z8 pT sz8;refine V8 ⟨_,rfl,?_⟩;show Q (.ref k5.objs.size) _;rw[sz];refine q k8 Z8 (up _ _ n2 pO5) (S1.fr _ _ _ j1e λ b hb o e=>up b o ?_ e) (S2.fr _ _ _ j2e λ b hb o e=>up b o ?_ e) pT sz8 λ c o c1 c2 c3 c4 e=>up c o c1 (kp5 c o c1 c2 c3 c4 e)
 . rcases hb with rfl|rfl
   . exact n3
   . exact m1.1
 . rcases hb with rfl|rfl
   . exact n4
   . exact m2.1
theorem Kp(hh:A.handled=none)(D:Ea z ti to t1 t2 a1 a2)(S1:Src P w t1 a1 J1 us)(S2:Src P w t2 a2 J2 vs)
 (Z:IsZip s.heap z ti to .none) (pI:IsPair s.heap ti (.ref t1) (.ref t2)) (pO:IsPair s.heap to a b) (j1:J1 n s.heap) (j2:J2 n s.heap) (he:us[n]?=none\/vs[n]?=none)
 (q:∀k e,(∀c o,c≠z->c≠to->c≠t1->c≠t2->s.heap.get? c=some o->k.get? c=some o)->(∃o,k.get? e=some o/\o.cls= .type "StopIteration")->E (.ref e) {s with heap:=k}):
 wpAny (model P w) A (Builtin.«zip.__next__» ⟨[.ref z],[]⟩) Q E s:=by
 obtain⟨⟨n1,n2,n3,n4⟩,⟨n5,n6,n7⟩,⟨n8,n9⟩,n10⟩:=D.n;have m1:=D.a1;have m2:=D.a2;simp only[V4,YQ,Wh,Xa,Yy]at m1 m2;show wpAny _ _ (field (.ref z) 2 >>= _) _ _ _;refine VR (Xf Z rfl (x:= .bool false) rfl ?_);show wpAny _ _ (field (.ref z) 3 >>= _) _ _ _;refine VR (Xf Z rfl (x:= .ref ti) rfl ?_);refine VR (XX pI rfl ?_);show wpAny _ _ (Builtin.SmallTypes.ownedTupleIsFree (.ref z) >>= _) _ _ _;refine VR ?_;unfold Builtin.SmallTypes.ownedTupleIsFree;refine VR (Xf Z rfl (x:= .none) rfl (V8 ?_));simp only[Yk];refine VR (YW ?_);refine VR (Xf Z rfl (x:= .ref to) rfl ?_);refine VR (Yd Z (by simp) λ k1 Z1 b1=>?_);replace Z1:IsZip k1 z ti to .ellipsis:=Z1;refine VR ?_;simp only[List.zipIdx_cons,List.zipIdx_nil,aao,aaA];refine VR (VR (ZT ?_));show wpAny _ _ (Builtin.SmallTypes.nextOf (.ref t1) >>= _) _ _ _;have j1a:J1 n k1:=S1.ext j1 b1.extBut (V6 n3) (V6 m1.1);cases ex:us[n]? with
 |none=>
  refine VR (S1.en n _ _ _ _ hh j1a ex λ k2 e b2 hx=>?_);obtain⟨oe,he1,he2⟩:=hx;have Z2:IsZip k2 z ti to .ellipsis:=b2 _ _ (V6 n3) Z1;have hez:e≠z:=λ c=>by subst c;rw[Z2]at he1;cases he1;simp at he2
  refine Yd Z2 (by simp) λ k3 _ b3=>q k3 e (λ c o c1 _ c3 _ f=>b3.extBut _ _ c1 (b2 _ _ c3 (b1.extBut _ _ c1 f))) ⟨oe,b3.extBut _ _ hez he1,he2⟩
 |some x=>
  have ey:vs[n]?=none:=by
   rcases he with h|h
   . rw[ex]at h;cases h
   . exact h
  refine VR (S1.nx n _ _ _ _ x j1a ex λ k2 j1b b2=>V8 ?_);have pO2:IsPair k2 to a b:=b2.extBut _ _ n8 (b1.extBut _ _ n2 pO);refine VR (XX pO2 rfl ?_);refine VR (Zx pO2 λ k3 pO3 b3=>?_);refine VR (aas (V8 ?_));refine VR (VR (ZT ?_));show wpAny _ _ (Builtin.SmallTypes.nextOf (.ref t2) >>= _) _ _ _;have j2c:J2 n k3:=S2.ext (S2.ext (S2.ext j2 b1.extBut (V6 n4) (V6 m2.1)) b2.extBut n10 (V6 m2.2.2.2.1)) b3.extBut n9 (V6 m2.2.2.1);refine VR (S2.en n _ _ _ _ hh j2c ey λ k4 e b4 hx=>?_);obtain⟨oe,he1,he2⟩:=hx;have Z4:IsZip k4 z ti to .ellipsis:=b4 _ _ (V6 n4) (b3.extBut _ _ (V6 n2) (b2.extBut _ _ (V6 n3) Z1));have hez:e≠z:=λ c=>by subst c;rw[Z4]at he1;cases he1;simp at he2
  refine Yd Z4 (by simp) λ k5 _ b5=>q k5 e (λ c o c1 c2 c3 c4 f=>b5.extBut _ _ c1 (b4 _ _ c4 (b3.extBut _ _ c2 (b2.extBut _ _ c3 (b1.extBut _ _ c1 f))))) ⟨oe,b5.extBut _ _ hez he1,he2⟩
end
end
theorem MS{X:Cx}{pins:List (Addr×Obj)}{σ:L2.St}{H:Hp}{s:Shared}{g:Heap}{tk:Nat}{fp:List Addr}{T:Addr}{xs:List V}(I:Inv X pins σ H s)(hf:∀b∈fp,ka X pins H b)
 (k:∀b o,b∉fp->s.heap.get? b=some o->g.get? b=some o) (hT:s.heap.objs.size<=T) (new:cX X.prog X.w (upd H T (.tup xs)) g T (.tup xs)):Inv X pins σ (upd H T (.tup xs)) {s with heap:=g,toks:=tk}:=by
 have hn:H T=none:=I.aC.fresh hT;have nfp:∀b u,H b=some u->b∉fp:=λ b u e z=>by rw[(hf b z).1]at e;cases e
 have nT:∀b u,H b=some u->b≠T:=λ b u e=>cV e hn
 refine I.step (g':=s.gens) (d':=s.drawn) (ch:=fp) (λ b hb=>?_) (λ b o _ _ hc e _=>k b o hc e) (λ b o _ _ hc e _=>⟨o.slots,k b o hc e⟩) (λ b o _ e n=>?_) (λ b o hc e=>⟨o,k b o hc e⟩)
  (λ b ys e=>by rw[ay (nT b _ e)];exact e) (λ b o u e=>by rw[ay (nT b _ e)];exact e) (λ b ps e=>⟨#[],by rw[ay (nT b _ e),e];simp⟩) (λ m hm=>?_) (λ b u e=>?_) I.bare
 . obtain⟨f0,f1,f2,f3,f4,f5⟩:=hf b hb;exact⟨f3,f1,f4,f5⟩
 . rw[ay (Wy (Wj (Wd e) hT))];exact n
 . obtain⟨o,es,ep,ho,r⟩:=hm;exact⟨o,es,ep,k _ o (λ z=>(hf _ z).2.1 rfl) ho,r⟩
 . by_cases hb:b=T
   . subst hb;rw[aS]at e;cases e;exact new
   . rw[ay hb]at e;refine(I.aC b u e).ot (λ c v hc q=>k c v ?_ q) (λ c q=>by rw[ay (nT c _ q)];exact q) λ c ys q=>by rw[ay (nT c _ q)];exact q
     rcases hc with z|z
     . rw[z];exact nfp b u e
     . exact nfp c _ z
theorem M8{X:Cx}{pins:List (Addr×Obj)}{σ:L2.St}{H:Hp}{s:Shared}{g:Heap}{tk:Nat}{fp:List Addr}(I:Inv X pins σ H s)(hf:∀b∈fp,ka X pins H b)
 (k:∀b o,b∉fp->s.heap.get? b=some o->g.get? b=some o):Inv X pins σ H {s with heap:=g,toks:=tk}:=by
 have nfp:∀b u,H b=some u->b∉fp:=λ b u e z=>by rw[(hf b z).1]at e;cases e
 refine I.step (g':=s.gens) (d':=s.drawn) (ch:=fp) (λ b hb=>?_) (λ b o _ _ hc e _=>k b o hc e) (λ b o _ _ hc e _=>⟨o.slots,k b o hc e⟩) (λ b o _ e n=>n) (λ b o hc e=>⟨o,k b o hc e⟩)
  (λ b ys e=>e) (λ b o u e=>e) (λ b ps e=>⟨#[],by rw[e];simp⟩) (λ m hm=>?_) (λ b u e=>?_) I.bare
 . obtain⟨f0,f1,f2,f3,f4,f5⟩:=hf b hb;exact⟨f3,f1,f4,f5⟩
 . obtain⟨o,es,ep,ho,r⟩:=hm;exact⟨o,es,ep,k _ o (λ z=>(hf _ z).2.1 rfl) ho,r⟩
 . refine(I.aC b u e).ot (λ c v hc q=>k c v ?_ q) (λ c q=>q) λ c ys q=>q;rcases hc with z|z
   . rw[z];exact nfp b u e
   . exact nfp c _ z
inductive SK where
 |l|t
def o8(k:SK)(K:PySem.W.Frag)(H:Hp)(a:Addr)(xs:List V):Prop:=match k with
 | .l=>ll K H a xs
 | .t=>hZ K H a xs
def qP(k:SK)(t a:Addr)(n:Nat)(g:Heap):Prop:=match k with
 | .l=>g.IsListIter t a n
 | .t=>g.IsTupleIter t a n
def jY(k:SK)(g:Heap)(a:Addr)(us:Array Value):Prop:=match k with
 | .l=>g.IsList a us
 | .t=>g.IsTuple a us
def CG(k:SK)(a:Addr):Obj:=match k with
 | .l=>{cls:= .type "list_iterator",data:= .fields #[.ref a,.int 0 0]}
 | .t=>{cls:= .type "tuple_iterator",data:= .fields #[.ref a,.int 0 0]}
theorem mI(k:SK)(t a:Addr)(hne:a≠t)(us:Array Value):Src P w t a (λ n g=>qP k t a n g/\jY k g a us) us:=by
 cases k
 . exact src_list t a hne us
 . exact NX t a hne us
theorem jF{k:SK}(I:Inv X pins σ H s)(h:o8 k X.K H a xs):∃aj:List Value,Vals xs aj/\jY k s.heap a aj.toArray:=by
 cases k
 . obtain⟨aj,rv,p,_⟩:=I.list h;exact⟨aj,rv,p.isList⟩
 . obtain⟨aj,rv,p,_⟩:=I.tuple h;exact⟨aj,rv,p⟩
theorem yy{k:SK}(I:Inv X pins σ H s)(h:o8 k X.K H a xs)(h':o8 k X.K H a ys):xs=ys:=by
 cases k
 . exact I.BY h h'
 . exact I.zx h h'
theorem Jd{k:SK}(h:jY k s.heap a us)(q:Q (.ref s.heap.objs.size) {s with heap:=s.heap.push (CG k a)}):wpAny (model P w) A (pyIter (.ref a)) Q E s:=by
 cases k
 . exact Y2 h q
 . exact Yc h q
theorem jY.push{k:SK}{g:Heap}(h:jY k g a us)(o:Obj):jY k (g.push o) a us:=by
 cases k
 . obtain⟨o',e,r⟩:=h;exact⟨o',VY _ e,r⟩
 . obtain⟨o',e,r⟩:=h;exact⟨o',VY _ e,r⟩
theorem jY.some{k:SK}{g:Heap}(h:jY k g a us):∃o,g.get? a=Option.some o:=by
 cases k
 . obtain⟨o',e,r⟩:=h;exact⟨o',e⟩
 . obtain⟨o',e,r⟩:=h;exact⟨o',e⟩
theorem EN{k:SK}{g h:Heap}(e:g.get? t=Option.some (CG k a)):qP k t a 0 g:=by
 cases k
 . exact⟨_,e,rfl,rfl⟩
 . exact⟨_,e,rfl,rfl⟩
theorem oW{k:SK}{g g':Heap}(h:qP k t a n g)(kp:∀o,g.get? t=Option.some o->g'.get? t=Option.some o):qP k t a n g':=by
 cases k
 . obtain⟨o,e,r⟩:=h;exact⟨o,kp o e,r⟩
 . obtain⟨o,e,r⟩:=h;exact⟨o,kp o e,r⟩
theorem mQ{k:SK}{g:Heap}(h:qP k t a n g):∃o,g.get? t=Option.some o/\∀v,o.data≠ .cell v:=by
 cases k
 . obtain⟨o,e,c,d⟩:=h;exact⟨o,e,λ v z=>by rw[d]at z;cases z⟩
 . obtain⟨o,e,c,d⟩:=h;exact⟨o,e,λ v z=>by rw[d]at z;cases z⟩
def T_(K:PySem.W.Frag)(k1 k2:SK)(a1 a2:Addr):It:=
 ⟨λ i H=>∃xs ys x y,o8 k1 K H a1 xs/\o8 k2 K H a2 ys/\xs[i]?=some x/\ys[i]?=some y,
  λ i H v H'=>∃T x y,H T=none/\v= .ref T/\H'=upd H T (.tup [x,y])/\(∀xs,o8 k1 K H a1 xs->xs[i]?=some x)/\∀ys,o8 k2 K H a2 ys->ys[i]?=some y,
  λ i H=>∃xs ys,o8 k1 K H a1 xs/\o8 k2 K H a2 ys/\(xs.length<=i\/ys.length<=i)⟩
def Tx(z ti to t1 t2 a1 a2:Addr)(k1 k2:SK)(i:Nat)(h:Heap):Prop:=IsZip h z ti to .none/\IsPair h ti (.ref t1) (.ref t2)/\(∃a b,IsPair h to a b)/\qP k1 t1 a1 i h/\qP k2 t2 a2 i h
theorem Ll{P:Program}{w:World}{K:PySem.W.Frag}{elts:List Expr}{kx:Nat}{pos:Pos}{z ti to t1 t2 a1 a2:Addr}(k1 k2:SK)(D:Ea z ti to t1 t2 a1 a2):
 Turn P w K (.Tuple elts kx pos) (T_ K k1 k2 a1 a2) [z,ti,to,t1,t2] z (Tx z ti to t1 t2 a1 a2 k1 k2) where
 mem:=by simp
 obj:=λ i h st b hb=>by
  obtain⟨Z,pI,⟨a,b',pO⟩,i1,i2⟩:=st;simp only[V4,Wh,Xn]at hb;rcases hb with rfl|rfl|rfl|rfl|rfl
  . exact⟨_,Z,λ v e=>by cases e⟩
  . exact⟨_,pI,λ v e=>by cases e⟩
  . exact⟨_,pO,λ v e=>by cases e⟩
  . exact mQ i1
  . exact mQ i2
 keep:=λ i h h' st k=>by
  obtain⟨Z,pI,⟨a,b',pO⟩,i1,i2⟩:=st;exact⟨k z (by simp) _ Z,k ti (by simp) _ pI,⟨a,b',k to (by simp) _ pO⟩,oW i1 (k t1 (by simp)),oW i2 (k t2 (by simp))⟩
 item:=by
  intro X hP hw hK hc i pins s σ H E I hf st hg;subst hP hw hK;obtain⟨Z,pI,⟨a,b',pO⟩,i1,i2⟩:=st;obtain⟨xs,ys,x,y,q1,q2,ex,ey⟩:=hg;obtain⟨us,r1,l1⟩:=jF I q1;obtain⟨vs,r2,l2⟩:=jF I q2;obtain⟨u,eu,ru⟩:=r1.get ex;obtain⟨v,ev,rv⟩:=r2.get ey;have m1:=D.a1;have m2:=D.a2;simp only[V4,YQ,Wh,Xa,Yy]at m1 m2;obtain⟨⟨n1,n2,n3,n4⟩,⟨n5,n6,n7⟩,⟨n8,n9⟩,n10⟩:=D.n;have tz:s.TypeIs (.ref z) "zip":=⟨_,Z,rfl⟩
  unfold pyNext;refine VR (ZU (Xm (name:=Str.ofString "__next__") tz Zy (XW Zy tz F.entry_zip_next (IW D (mI k1 t1 a1 m1.2.2.2.1 us.toArray) (mI k2 t2 a2 m2.2.2.2.2 vs.toArray) Z pI pO ⟨i1,l1⟩ ⟨i2,l2⟩ (x:=u) (y:=v) (by simpa using eu) (by simpa using ev) λ k Z2 pO2 j1 j2 pT szk kp=>V8 ⟨_,rfl,?_⟩) (F.args_zip_next_1 _))));refine wpAny_letOwnedTupleGo_zip (s:={s with heap:=k}) Z2 λ k' Z3 b3=>?_;have hT:s.heap.objs.size≠z:=X_ (Wd Z)
  have kp3:∀b o,b∉[z,ti,to,t1,t2]->s.heap.get? b=some o->k'.get? b=some o:=λ b o hb e=>by
   simp only[V4,YQ,Wh,Xa,Yy]at hb;exact b3.extBut _ _ hb.1 (kp b o hb.1 hb.2.2.1 hb.2.2.2.1 hb.2.2.2.2 e)
  refine⟨.ref s.heap.objs.size,upd H s.heap.objs.size (.tup [x,y]),MS (s:=s) (tk:=s.toks) I hf kp3 (VQ _) ?_,rfl,⟨s.heap.objs.size,x,y,I.aC.fresh (VQ _),rfl,rfl,?_,?_⟩,?_,?_⟩
  . refine⟨VP rfl,[u,v],.cons ru (.cons rv .nil),?_⟩;exact⟨_,b3.extBut _ _ hT pT,rfl,_,rfl⟩
  . intro xs' q';rw[yy I q' q1];exact ex
  . intro ys' q';rw[yy I q' q2];exact ey
  . refine⟨Z3,b3.extBut _ _ n1 (kp _ _ n1 n5 n6 n7 pI),⟨_,_,b3.extBut _ _ n2 pO2⟩,oW j1.1 λ o e=>b3.extBut _ _ n3 e,oW j2.1 λ o e=>b3.extBut _ _ n4 e⟩
  . intro b hb
    have:b≠s.heap.objs.size:=by
     obtain⟨o,e,_⟩:∃o,s.heap.get? b=some o/\True:=by
      simp only[V4,Wh,Xn]at hb;rcases hb with rfl|rfl|rfl|rfl|rfl
      . exact⟨_,Z,trivial⟩
      . exact⟨_,pI,trivial⟩
      . exact⟨_,pO,trivial⟩
      . obtain⟨o,e,_⟩:=mQ i1;exact⟨o,e,trivial⟩
      . obtain⟨o,e,_⟩:=mQ i2;exact⟨o,e,trivial⟩
     exact Wy (Wd e)
    rw[ay this];exact(hf b hb).1
 done:=by
  intro X hP hw hK hc i pins s σ H E I hf st hg;subst hP hw hK;obtain⟨Z,pI,⟨a,b',pO⟩,i1,i2⟩:=st;obtain⟨xs,ys,q1,q2,he⟩:=hg;obtain⟨us,r1,l1⟩:=jF I q1;obtain⟨vs,r2,l2⟩:=jF I q2;have e1:=r1.length;have e2:=r2.length;have m1:=D.a1;have m2:=D.a2;simp only[V4,YQ,Wh,Xa,Yy]at m1 m2;have tz:s.TypeIs (.ref z) "zip":=⟨_,Z,rfl⟩
  unfold pyNext;refine VR (ZU (Xm (name:=Str.ofString "__next__") tz Zy (XW Zy tz F.entry_zip_next (Kp (I.ok.hd hc) D (mI k1 t1 a1 m1.2.2.2.1 us.toArray) (mI k2 t2 a2 m2.2.2.2.2 vs.toArray) Z pI pO ⟨i1,l1⟩ ⟨i2,l2⟩ ?_ λ k e kp hx=>?_) (F.args_zip_next_1 _))))
  . rcases he with h|h
    . left;simp;omega
    . right;simp;omega
  . obtain⟨o,ho,hc2⟩:=hx;refine VR (wpAny_isInstance (T:="StopIteration") (b:=true) ⟨o,ho,hc2⟩ isSubtype_stop ?_);refine V8 ⟨rfl,M8 (s:=s) (tk:=s.toks) I hf λ b o hb e=>?_⟩;simp only[V4,YQ,Wh,Xa,Yy]at hb;exact kp b o hb.1 hb.2.2.1 hb.2.2.2.1 hb.2.2.2.2 e
 self:=λ _ _ _ _ _ st h=>wpAny_pyIter_zip st.1 h
abbrev Mb(h:Heap)(k1:SK)(a1:Addr):Heap:=h.push (CG k1 a1)
abbrev LQ(h:Heap)(k1 k2:SK)(a1 a2:Addr):Heap:=(Mb h k1 a1).push (CG k2 a2)
abbrev MI(h:Heap)(k1 k2:SK)(a1 a2:Addr):Heap:=(LQ h k1 k2 a1 a2).push {cls:= .type "tuple",data:= .seq #[.ref h.objs.size,.ref (Mb h k1 a1).objs.size]}
abbrev ME(h:Heap)(k1 k2:SK)(a1 a2:Addr):Heap:=(MI h k1 k2 a1 a2).push {cls:= .type "tuple",data:= .seq #[.none,.none]}
abbrev E7(h:Heap)(k1 k2:SK)(a1 a2:Addr):Heap:=(ME h k1 k2 a1 a2).push {cls:= .type "zip",data:= .fields #[.none,.bool false,.bool false,.ref (LQ h k1 k2 a1 a2).objs.size,.ref (MI h k1 k2 a1 a2).objs.size]}
theorem Hi(k1 k2:SK)(a1 a2:Addr)(us vs:Array Value):Meets (Builtin.«zip.__new__» ⟨[.type "zip",.ref a1,.ref a2],[]⟩) (λ _ R s=>jY k1 s.heap a1 us/\jY k2 s.heap a2 vs/\
 R (.ok (.ret (.ref (ME s.heap k1 k2 a1 a2).objs.size))) {s with heap:=E7 s.heap k1 k2 a1 a2}):=
 .of_wp λ P w A R s h=>by
  obtain⟨hp,g,d,tk,os⟩:=s;obtain⟨c1,c2,h⟩:=h;have hsub:=sub_zip;have L1:jY k1 (Shared.heap ⟨hp,g,d,tk,os⟩) a1 us:=c1;have L2:jY k2 (Shared.heap ⟨hp.push (CG k1 a1),g,d,tk,os⟩) a2 vs:=jY.push c2 _
  wp_walk using Jd L1,Jd L2
  exact⟨_,rfl,h⟩
theorem KZ(c1:jY k1 s.heap a1 us)(c2:jY k2 s.heap a2 vs)
 (q:∀g n,n=s.heap.objs.size->IsZip g (n+4) (n+2) (n+3) .none->IsPair g (n+2) (.ref n) (.ref (n+1))->IsPair g (n+3) .none .none->qP k1 n a1 0 g->qP k2 (n+1) a2 0 g->(∀c o,s.heap.get? c=some o->g.get? c=some o)->Q (.ref (n+4)) {s with heap:=g}):
 wpAny (model P w) A (call (.type "zip") [.ref a1,.ref a2]) Q E s:=by
 refine callType_new F.called_zip (by decide) (F.typeCall_zip_2 _ _) (F.newCall_zip_2 _ _) (λ ob=>F.args_object_init_3 ob _ _) F.entry_zip_new (Hi k1 k2 a1 a2 us vs) ⟨c1,c2,?_⟩;have y1:(Mb s.heap k1 a1).objs.size=s.heap.objs.size+1:=Xh ..;have y2:(LQ s.heap k1 k2 a1 a2).objs.size=s.heap.objs.size+2:=by rw[Xh,y1]
 have y3:(MI s.heap k1 k2 a1 a2).objs.size=s.heap.objs.size+3:=by rw[Xh,y2]
 have y4:(ME s.heap k1 k2 a1 a2).objs.size=s.heap.objs.size+4:=by rw[Xh,y3]
 have e5:(E7 s.heap k1 k2 a1 a2).get? (ME s.heap k1 k2 a1 a2).objs.size=some _:=Wq _ rfl;have e4:(E7 s.heap k1 k2 a1 a2).get? (MI s.heap k1 k2 a1 a2).objs.size=some _:=VY _ (Wq _ rfl);have e3:(E7 s.heap k1 k2 a1 a2).get? (LQ s.heap k1 k2 a1 a2).objs.size=some _:=VY _ (VY _ (Wq _ rfl));have e2:(E7 s.heap k1 k2 a1 a2).get? (Mb s.heap k1 a1).objs.size=some (CG k2 a2):=VY _ (VY _ (VY _ (Wq _ (by cases k2<;>rfl))));have e1:(E7 s.heap k1 k2 a1 a2).get? s.heap.objs.size=some (CG k1 a1):=VY _ (VY _ (VY _ (VY _ (Wq _ (by cases k1<;>rfl)))));show _/\_;rw[y2,y3,y4]at e5;rw[y1,y2]at e3;rw[y3]at e4;rw[y1]at e2;rw[y4];exact⟨⟨_,e5,rfl⟩,q _ _ rfl e5 e3 e4 (EN (h:=s.heap) e1) (EN (h:=s.heap) e2) λ c o x=>VY _ (VY _ (VY _ (VY _ (VY _ x))))⟩
def Mo:D->SK
 | .tup _=> .t
 |_=> .l
def He(k:SK)(G:Hp)(a:Addr)(vs:List V):Prop:=match k with
 | .l=>Rd G a (.lst vs)
 | .t=>G a=some (.tup vs)
theorem jb{K:PySem.W.Frag}{k:SK}{G F H:Hp}(P:bQ G F H){a:Addr}{vs:List V}(h:He k G a vs):o8 k K H a vs:=by
 cases k
 . exact .inl (f6 P h)
 . exact hZ.of (P.get h)
theorem mW{α:List (Option Addr)}{H:Hp}{st:ae}{d:D}{v:V}{xs:List D}(S:aJ α st H)(r:Rep α H d v)(e:items? st d=some xs):∃p vs,v= .ref p/\aD α H xs vs/\He (Mo d) H p vs:=by
 cases d<;>try(cases e;done)
 . unfold items? at e;simp only at e;split at e
   . rename_i ys q;cases e;obtain⟨a,ea,vs,h1,h2⟩:=S.eV q;exact⟨a,vs,dh ea r,h2,Rd.of h1⟩
   . cases e
 . cases e;unfold Rep at r;obtain⟨a,vs,rfl,_,h1,h2⟩:=r;exact⟨a,vs,rfl,h2,h1⟩
 . cases e;unfold Rep at r;obtain⟨a,vs,rfl,_,h1,h2⟩:=r;exact⟨a,vs,rfl,h2,h1⟩
def gY(xs ys:List D):List D:=(xs.zip ys).map λ p=> .tup [p.1,p.2]
theorem vW:(gY xs ys).length=min xs.length ys.length:=by unfold gY;simp
theorem vT{xs ys:List D}{n:Nat}{d:D}(e:(gY xs ys)[n]?=some d):∃x y,xs[n]?=some x/\ys[n]?=some y/\d= .tup [x,y]:=by
 unfold gY at e;rw[Wn]at e;cases q:(xs.zip ys)[n]? with
 |none=>rw[q]at e;cases e
 |some p=>
  rw[q]at e;cases e;rw[List.getElem?_zip_eq_some]at q;exact⟨p.1,p.2,q.1,q.2,rfl⟩
theorem PM{K:PySem.W.Frag}{k1 k2:SK}{a1 a2:Addr}{α:List (Option Addr)}{G:Hp}{ok:ae->Prop}{xs ys:List D}
 (h:∀α' G' st',Step α G α' G'->aJ α' st' G'->ok st'->∃vs ws,He k1 G' a1 vs/\He k2 G' a2 ws/\aD α' G' xs vs/\aD α' G' ys ws):yo (T_ K k1 k2 a1 a2) α G ok (gY xs ys) where
 stop:=λ n α' G' F' H' st' s P S o hn=>by
  obtain⟨vs,ws,h1,h2,r1,r2⟩:=h α' G' st' s S o;rw[vW]at hn;refine⟨vs,ws,jb P h1,jb P h2,?_⟩;have:=r1.length;have:=r2.length;omega
 go:=λ n d α' G' F' H' st' s P S o hn=>by
  obtain⟨vs,ws,h1,h2,r1,r2⟩:=h α' G' st' s S o;obtain⟨x,y,ex,ey,rfl⟩:=vT hn;obtain⟨v,ev,_⟩:=r1.get ex;obtain⟨u,eu,_⟩:=r2.get ey;exact⟨vs,ws,v,u,jb P h1,jb P h2,ev,eu⟩
 oV:=λ n d α' G' F' H' st' x H'' s P S o hn y=>by
  obtain⟨vs,ws,h1,h2,r1,r2⟩:=h α' G' st' s S o;obtain⟨c,e,ec,ee,rfl⟩:=vT hn;obtain⟨T,v,u,hT,rfl,rfl,y1,y2⟩:=y;obtain⟨v',ev,rv⟩:=r1.get ec;obtain⟨u',eu,ru⟩:=r2.get ee;rw[y1 vs (jb P h1)]at ev;rw[y2 ws (jb P h2)]at eu;cases ev;cases eu;have hg:=(P.none hT).1;refine⟨upd G' T (.tup [v,u]),Step.laid hg,P.laid hT,S.laid hg,?_⟩;unfold Rep;refine⟨T,[v,u],rfl,S.jW hg,aS,?_⟩;unfold aD;refine⟨v,[u],rfl,rv.step (Step.laid hg),?_⟩;unfold aD;exact⟨u,[],rfl,ru.step (Step.laid hg),by unfold aD;rfl⟩
def J6(ds:List D)(st1:ae)(K:List D->(ae->Prop)->ae->Prop):Prop:=match ds with
 | [x,y]=>(match items? st1 x,items? st1 y with
   |some xs,some ys=>K (gY xs ys) (λ st'=>items? st' x=some xs/\items? st' y=some ys) st1
   |_,_=>False)
 |_=>False
@[irreducible] def xv:List D->ae->(List D->(ae->Prop)->ae->Prop)->Prop:=J6
def yM(t:DA):DI:=λ σ st K=>t σ st λ ds st1=>xv ds st1 K
theorem Oj(h1:a1<n)(h2:a2<n):Ea (n+4) (n+2) (n+3) n (n+1) a1 a2:=by
 have e0:([n+4,n+2,n+3,n,n+1]:List Nat).Nodup:=by
  simp only[Xp,V4,YQ,Wh,Xa,Yy,aaC];omega
 have e1:∀a:Nat,a<n->a∉([n+4,n+2,n+3,n,n+1]:List Nat):=λ a ha=>by
  simp only[V4,YQ,Wh,Xa,Yy];omega
 exact⟨e0,e1 a1 h1,e1 a2 h2⟩
theorem QW(hg:Gl X "zip")(hm:X.mg "zip"=none)(ha:PA X [a,b] (LA t))(hs:starEach [a,b] X.env=[(false,eval a X.env),(false,eval b X.env)])(hs2:starEach [b] X.env=[(false,eval b X.env)]):
 PI X (.Tuple elts kx tpos) (.Call (.Name "zip" p) [a,b] [] pos) (LI (yM t)):=by
 intro pins s σ H R I h;obtain⟨α,σd,st,K,G,F,P,RS,S,t,k⟩:=h;refine Call_ (lg I hg hm boot_zip (Xz (bI (ha pos pins s σ H (λ vs H1=>∃ds α1 G1 st1,Step α G α1 G1/\bQ G1 F H1/\aJ α1 st1 G1/\aD α1 G1 ds vs/\xv ds st1 K) I ⟨α,σd,st,_,G,F,P,RS,S,t,λ ds st1 q α1 G1 H1 vs s1 P1 S1 r1=>⟨ds,α1,G1,st1,s1,P1,S1,r1,q⟩⟩) λ us s1 ⟨vs,H1,I1,rv,ds,α1,G1,st1,w1,P1,S1,r1,q⟩=>?_) (by rw[hs,hs2]) (by rw[hs2];rfl)));unfold xv J6 at q;split at q
 . rename_i x y;split at q
   . rename_i xs ys ex ey;obtain⟨v1,v2,rfl,q1,q2⟩:=mE r1 rfl;obtain⟨p1,vs1,rfl,g1,c1⟩:=mW S1 q1 ex;obtain⟨p2,vs2,rfl,g2,c2⟩:=mW S1 q2 ey;obtain⟨u1,u2,rfl,ru1,ru2⟩:=vals2 rv;cases ru1;cases ru2;obtain⟨its1,_,l1⟩:=jF I1 (jb P1 c1);obtain⟨its2,_,l2⟩:=jF I1 (jb P1 c2);refine KZ l1 l2 λ g n hn Z pI pO i1 i2 kp=>?_;obtain⟨o1,eo1⟩:=l1.some;obtain⟨o2,eo2⟩:=l2.some;refine wpAny_pyIter_zip (s:={s1 with heap:=g}) Z ?_;refine⟨n+4,[n+4,n+2,n+3,n,n+1],_,_,H1,rfl,I1.kept (t':=s1.toks) kp,Ll (Mo x) (Mo y) (Oj (by rw[hn];exact Wd eo1) (by rw[hn];exact Wd eo2)),⟨Z,pI,⟨_,_,pO⟩,i1,i2⟩,λ b hb=>?_,?_⟩
     . have hb':s1.heap.objs.size<=b:=by
        simp only[V4,Wh,Xn]at hb;rcases hb with rfl|rfl|rfl|rfl|rfl<;>(rw[<-hn];first|exact VQ _|exact Nat.le_add_right _ _)
       exact I1.xZ hb' (I1.aC.fresh hb')
     . refine k _ _ st1 q _ α1 G1 H1 w1 P1 S1 (PM λ α' G' st' s' S' o=>?_);obtain⟨p1',ws1,e1,f1,d1⟩:=mW S' (q1.step s') o.1;obtain⟨p2',ws2,e2,f2,d2⟩:=mW S' (q2.step s') o.2;cases e1;cases e2;exact⟨ws1,ws2,d1,d2,f1,f2⟩
   . exact q.elim
 . exact q.elim
theorem xS{st:ae}{x y:D}{xs ys:List D}{K:List D->(ae->Prop)->ae->Prop}(ex:items? st x=some xs)(ey:items? st y=some ys)(k:∀ok:ae->Prop,(∀st',items? st' x=some xs->items? st' y=some ys->ok st')->K (gY xs ys) ok st):xv [x,y] st K:=by
 unfold xv J6;simp only[ex,ey];exact k _ λ st' h1 h2=>⟨h1,h2⟩
theorem LU(hg:Gl X "zip")(hm:X.mg "zip"=none)(ha:JA X [a,b] ar)(hs:notStar a=true:=by rfl)(hs2:notStar b=true:=by rfl):JI X (.Tuple elts kx tpos) (.Call (.Name "zip" p) [a,b] [] pos) (yM ar):=by
 unfold JI;unfold JA at ha;exact QW hg hm ha (by rw[bx hs,bx hs2];rfl) (bx hs2)
theorem C4(f:Nat->Int):∀n,preSum f (n+1)=f 0+preSum (λ i=>f (i+1)) n
 |0=>by show preSum f 0+f 0=f 0+0;show(0:Int)+f 0=f 0+0;omega
 |n+1=>by
  have h:=C4 f n;show preSum f (n+1)+f (n+1)=f 0+(preSum (λ i=>f (i+1)) n+f (n+1));rw[h];omega
theorem Eg:∀ns:List Int,preSum (λ i=>ns.getD i 0) ns.length=ns.sum
 | []=>rfl
 |n::ns=>by
  rw[Ws,C4];have:(λ i=>(n::ns).getD (i+1) 0)=λ i=>ns.getD i 0:=by funext i;simp
  rw[this,Eg ns,List.sum_cons];rfl
section
variable {X:Cx}
def AV:dY:=λ ds st K=>match ds with| [.lst xs]=>(match kM xs with|some ns=>K (.int ns.sum) st|none=>False)|_=>False
theorem kU:∀ {ns:List Int} {us:List Value},Vals (ns.map V.int) us->∀(i:Nat) (u:Value),us[i]?=some u->∃t,u=Value.int (ns.getD i 0) t
 | [],_,.nil,i,u,e=>by simp at e
 |n::ns,_,.cons h t,0,u,e=>by
  obtain⟨tk,rfl⟩:=h;simp at e;exact⟨tk,by rw[<-e];rfl⟩
 |n::ns,_,.cons h t,i+1,u,e=>by
  obtain⟨tk,q⟩:=kU t i u (by simpa using e);exact⟨tk,by rw[q];simp⟩
theorem Sb(hc:X.calm=true):bf X (.builtin "sum") (ff AV):=λ pins s σ H xs us Q I rs ⟨α,ds,st,K,G,F',P,r,S,q,k⟩=>by
 unfold AV at q;split at q
 . rename_i ys;split at q
   . rename_i ns e;obtain⟨v,rfl,r1⟩:=fO r rfl;unfold Rep at r1;obtain⟨a,vs,rfl,na,h1,h2⟩:=r1;obtain⟨u,rfl,ru⟩:=vals1 rs;cases ru;have hv:=sQ h2 e;subst hv;obtain⟨z,aj,n,rv,hl,eo⟩:=Inv.yD I (f6 P h1);have isL:s.heap.IsList a aj.toArray:=⟨_,eo,rfl,n,rfl⟩
     refine call_sum_walkAnyB (Y2 isL ?_);have hne:a≠s.heap.objs.size:=Wy (Wd eo);refine⟨s.heap.objs.size,_,_,_,_,_,_,λ i=>ns.getD i 0,rfl,(Walks.list (A:=X.A.in1) (I.ok.hd hc) _ a hne aj.toArray).toS,⟨⟨_,Wq _ rfl,rfl,rfl⟩,⟨_,VY _ eo,rfl,n,rfl⟩⟩,?_,?_,?_⟩
     . intro b hb;rw[Xh];simp only[V4,Wh,Xn]at hb;rcases hb with rfl|rfl
       . exact WA _
       . exact W3 (Wd eo)
     . intro i w hw;obtain⟨t,e⟩:=kU rv i w (by simpa using hw);exact .inl ⟨t,e⟩
     . intro s' t' hm
       have kp:∀b o,s.heap.get? b=some o->s'.heap.get? b=some o:=λ b o q=>hm.heap b o (by
        intro hb;have:b=s.heap.objs.size:=by simpa using hb
        exact absurd (Wd q) (by rw[this];exact Xs _)) (VY _ q)
       have es:s'= {s with heap:=s'.heap,toks:=s'.toks}:=by
        have g:=hm.gens;have d:=hm.drawn;have o:=hm.os;cases s';cases s
        simp_all
       have en:preSum (λ i=>ns.getD i 0) aj.toArray.size=ns.sum:=by
        have:aj.toArray.size=ns.length:=by rw[V2,<-hl,VO]
        rw[this];exact Eg ns
       rw[en,es];exact⟨.int ns.sum,H,I.kept (t':=s'.toks) kp,⟨t',rfl⟩,k.here P q S (by unfold Rep;rfl)⟩
   . exact q.elim
 . exact q.elim
@[irreducible] def v7:dY:=AV
theorem MF(hc:X.calm=true):bf X (.builtin "sum") (ff v7):=by unfold v7;exact Sb hc
end
theorem KY{P:Program}{w:World}{K:PySem.W.Frag}{mg:Str->Option Value}{base:Heap}{k:Nat}{f:Addr}{fd:FuncData}{ps:List Str}{S:bw}(h:∀ds st K,¬S ds st K):dz P w K mg base gq k f fd ps (ik S):=
 ⟨λ vs H Q E q=>by obtain⟨α,ds,st,K,G,F,_,_,_,q,_⟩:=q;exact absurd q (h ds st K),λ A outer s H args us vs Q E _ _ _ _ q=>by obtain⟨α,ds,st,K,G,F,_,_,_,q,_⟩:=q;exact absurd q (h ds st K)⟩
theorem ints_map:∀ns:List Int,kM (ns.map D.int)=some ns
 | []=>rfl
 |n::ns=>by simp[kM,ints_map ns]
theorem HU{st:ae}{K:DK}{xs:List D}{ns:List Int}(h:kM xs=some ns)(k:K (.int ns.sum) st):v7 [.lst xs] st K:=by unfold v7 AV;simp only[h];exact k
section
variable {X:Cx}{pos:Pos}
end
end L3
namespace L3
open PySem L2 PySem.SeqAt
open PySem.Spec hiding items?
open PyProof.Rows hiding St
section
variable {X:Cx}{pins:List (Addr×Obj)}{σ:L2.St}{H:Hp}{s:Shared}{α:List (Option Addr)}
theorem Ez{d e:D}(hd:zX d=true)(he:zX e=true)(rd:Rep α H d x)(re:Rep α H e y)(rx:RelV x u)(ry:RelV y v):RcNeAt A s u v (!cu d e):=by
 cases d<;>cases e<;>try(first|(cases hd;done)|(cases he;done))
 all_goals(unfold Rep at rd re;subst rd re)
 all_goals(first|(obtain⟨t,rfl⟩:=rx;obtain⟨t',rfl⟩:=ry)|(obtain⟨t,rfl⟩:=rx;cases ry)|(cases rx;obtain⟨t,rfl⟩:=ry)|(cases rx;cases ry))
 all_goals unfold cu
 . exact RcNeAt.none_none
 . exact RcNeAt.none_bool _
 . exact RcNeAt.none_int _ _
 . exact RcNeAt.none_str _ _
 . exact RcNeAt.bool_none _
 . exact RcNeAt.bool_bool _ _
 . exact RcNeAt.bool_int _ _ _
 . exact RcNeAt.bool_str _ _ _
 . exact RcNeAt.int_none _ _
 . exact RcNeAt.int_bool _ _ _
 . exact RcNeAt.int_int _ _ _ _
 . exact RcNeAt.int_str _ _ _ _
 . exact RcNeAt.str_none _ _
 . exact RcNeAt.str_bool _ _ _
 . exact RcNeAt.str_int _ _ _ _
 . exact RcNeAt.str_str _ _ _ _
theorem yP(I:Inv X pins σ H s){e:D}(he:zX e=true)(rd:Rep α H (.lst xs) x)(re:Rep α H e y)(rx:RelV x u)(ry:RelV y v)(hu:A.units<cLine):
 RcNeAt A s u v (!cu (.lst xs) e)/\RcNeAt A s v u (!cu e (.lst xs)):=by
 obtain⟨a,vs,aj,rfl,_,_,hl⟩:=lst_is I rd rx;cases e<;>try(cases he;done)
 all_goals(unfold Rep at re;subst re)
 all_goals(first|(obtain⟨t,rfl⟩:=ry)|(cases ry))
 all_goals unfold cu
 . exact⟨RcNeAt.list_none hl hu,RcNeAt.none_list hl hu⟩
 . exact⟨RcNeAt.list_bool _ hl hu,RcNeAt.bool_list _ hl hu⟩
 . exact⟨RcNeAt.list_int _ _ hl hu,RcNeAt.int_list _ _ hl hu⟩
 . exact⟨RcNeAt.list_str _ _ hl hu,RcNeAt.str_list _ _ hl hu⟩
theorem yT(I:Inv X pins σ H s){e:D}(he:zX e=true)(rd:Rep α H (.tup xs) x)(re:Rep α H e y)(rx:RelV x u)(ry:RelV y v)(hu:A.units<cLine):
 RcNeAt A s u v (!cu (.tup xs) e)/\RcNeAt A s v u (!cu e (.tup xs)):=by
 obtain⟨a,vs,aj,rfl,_,_,hl⟩:=tup_is I rd rx;cases e<;>try(cases he;done)
 all_goals(unfold Rep at re;subst re)
 all_goals(first|(obtain⟨t,rfl⟩:=ry)|(cases ry))
 all_goals unfold cu
 . exact⟨RcNeAt.tuple_none hl hu,RcNeAt.none_tuple hl hu⟩
 . exact⟨RcNeAt.tuple_bool _ hl hu,RcNeAt.bool_tuple _ hl hu⟩
 . exact⟨RcNeAt.tuple_int _ _ hl hu,RcNeAt.int_tuple _ _ hl hu⟩
 . exact⟨RcNeAt.tuple_str _ _ hl hu,RcNeAt.str_tuple _ _ hl hu⟩
theorem Tg(I:Inv X pins σ H s)(n:Nat)(A:Around)(d e:D)(x y:V)(u v:Value)(hd:pl n d=true)(he:pl n e=true)(rd:Rep α H d x)(re:Rep α H e y)(rx:RelV x u)(ry:RelV y v)(hu:A.units+n<cLine):RcNeAt A s u v (!cu d e):=by
 cases n with
 |zero=>
  refine Ez ?_ ?_ rd re rx ry
  . cases d<;>first|rfl|(cases hd)
  . cases e<;>first|rfl|(cases he)
 |succ n=>
  have hu0:A.units<cLine:=by omega
  have hin:A.in1.units+n<cLine:=by rw[Around.in1_units];omega
  cases d<;>try(cases hd;done)
  case lst xs=>
   cases e<;>try(cases he;done)
   case lst ys=>
    obtain⟨a,vs,aj,rfl,r1,v1,l1⟩:=lst_is I rd rx;obtain⟨b,ws,jts,rfl,r2,v2,l2⟩:=lst_is I re ry;have e1:=r1.length;have e2:=v1.length;have e3:=r2.length;have e4:=v2.length;unfold cu;by_cases hlen:xs.length=ys.length
    . rw[nO hlen];have hsz:aj.toArray.size=jts.toArray.size:=by simp only[V2];omega
      have hx:xs.length=aj.toArray.size:=by simp only[V2];omega
      rw[hx];refine RcNeAt.lists l1 l2 hsz hu0 λ j h1 h2=>?_;obtain⟨p,_,q1,q2⟩:=jv r1 v1 j (by simpa using h1);obtain⟨p',_,q1',q2'⟩:=jv r2 v2 j (by simpa using h2);exact(AS I n A.in1 _ _ p p' _ _ (ij (by unfold pl at hd;exact hd) j) (ij (by unfold pl at he;exact he) j) q1 q1' (by simpa using q2) (by simpa using q2') hin).2
    . rw[kl hlen];exact RcNeAt.lists_lengths l1 l2 (by simp only[V2,Zv,ne_eq];omega) hu0
   case tup ys=>
    obtain⟨a,vs,aj,rfl,r1,v1,l1⟩:=lst_is I rd rx;obtain⟨b,ws,jts,rfl,r2,v2,l2⟩:=tup_is I re ry;unfold cu;exact RcNeAt.list_tuple l1 l2 hu0
   all_goals exact(yP I rfl rd re rx ry hu0).1
  case tup xs=>
   cases e<;>try(cases he;done)
   case tup ys=>
    obtain⟨a,vs,aj,rfl,r1,v1,l1⟩:=tup_is I rd rx;obtain⟨b,ws,jts,rfl,r2,v2,l2⟩:=tup_is I re ry;have e1:=r1.length;have e2:=v1.length;have e3:=r2.length;have e4:=v2.length;unfold cu
    have key:=RcNeAt.tuples (e:=λ j=>cu (xs.getD j .ao) (ys.getD j .ao)) l1 l2 hu0 λ j h1 h2=>by
     obtain⟨p,_,q1,q2⟩:=jv r1 v1 j (by simpa using h1);obtain⟨p',_,q1',q2'⟩:=jv r2 v2 j (by simpa using h2);exact(AS I n A.in1 _ _ p p' _ _ (ij (by unfold pl at hd;exact hd) j) (ij (by unfold pl at he;exact he) j) q1 q1' (by simpa using q2) (by simpa using q2') hin).2
    by_cases hlen:xs.length=ys.length
    . rw[nO hlen];have hsz:aj.toArray.size=jts.toArray.size:=by simp only[V2];omega
      have hx:xs.length=aj.toArray.size:=by simp only[V2];omega
      rw[hsz,aaf,Ze,Bool.and_true,<-hsz,<-hx]at key;exact key
    . rw[kl hlen];have hne:(aj.toArray.size==jts.toArray.size)=false:=by simp only[V2,XS,ne_eq];omega
      rw[hne,aaB]at key;exact key
   case lst ys=>
    obtain⟨a,vs,aj,rfl,r1,v1,l1⟩:=tup_is I rd rx;obtain⟨b,ws,jts,rfl,r2,v2,l2⟩:=lst_is I re ry;unfold cu;exact RcNeAt.tuple_list l1 l2 hu0
   all_goals exact(yT I rfl rd re rx ry hu0).1
  all_goals
   cases e<;>try(cases he;done)
   case lst ys=>exact(yP I rfl re rd ry rx hu0).2
   case tup ys=>exact(yT I rfl re rd ry rx hu0).2
   all_goals exact Ez rfl rfl rd re rx ry
def Rg:cJ:=λ x y st K=>pl 40 x=true/\pl 40 y=true/\K (.bl (!cu x y)) st
theorem Te{k:Nat}(hr:cF k X.A):br X (compareOp .NotEq) (LR Rg):=λ pins s σ H x y v u Q I rx ry ⟨α,d,e,st,K,G,F',P,r1,r2,S,q,k⟩=>by
 have hu:=hr.units;exact Tg I 40 X.A d e x y v u q.1 q.2.1 (r1.mono P.same) (r2.mono P.same) rx ry (by omega) _ _ _ _ ⟨.bl (!cu d e),H,I,rfl,k.here P q.2.2 S (by unfold Rep;rfl)⟩
@[irreducible] def Bz:cJ:=Rg
theorem FK{k:Nat}(hr:cF k X.A):br X (compareOp .NotEq) (LR Bz):=by unfold Bz;exact Te hr
end
theorem RE{st:ae}{K:DK}{d e:D}(h1:pl 40 d=true)(h2:pl 40 e=true)(k:K (.bl (!cu d e)) st):Bz d e st K:=by unfold Bz;exact⟨h1,h2,k⟩
theorem nW{st:ae}{n:Nat}{xs:List D}(h:items? st (.ref n)=some xs):st[n]?=some (.lst xs):=by
 unfold items? at h;simp only at h;split at h
 . rename_i q;cases h;exact q
 . cases h
theorem uu{st:ae}{d:D}{xs:List D}{K:List D->(ae->Prop)->ae->Prop}(h:items? st d=some xs)(k:∀ok:ae->Prop,(∀st',items? st' d=some xs->ok st')->K xs ok st):oF d st K:=by
 cases d with
 |lst ys=>cases h;exact uh (k _ λ _ _=>trivial)
 |tup ys=>cases h;exact eK (k _ λ _ _=>trivial)
 |ref n=>
  have e:=nW h;unfold oF yG;simp only[e];exact k _ λ st' h'=>nW h'
 |_=>cases h
theorem qi{env:Env}:∀(l:List (Str×NameKind)) (x:Str),(l.lookup x=some .cell\/l.lookup x=some .free)->
 ((l.map λ(n,k)=>if(k== .free&&env.scope.kind== .function&&env.kindOf n==some .cell)then(n,.cell)else(n,k)).lookup x=some .cell\/(l.map λ(n,k)=>if(k== .free&&env.scope.kind== .function&&env.kindOf n==some .cell)then(n,.cell)else(n,k)).lookup x=some .free)
 | [],x,h=>by simp at h
 |(n,k)::l,x,h=>by
  rw[Ww];dsimp only;by_cases hx:x=n
  . subst hx;rw[Zj]at h;split
    . rw[Zj];exact .inl rfl
    . rw[Zj];exact h
  . have hb:(x==n)=false:=by simpa using hx
    have e1:List.lookup x ((n,k)::l)=List.lookup x l:=by rw[WM,hb]
    rw[e1]at h;have ih:=qi (env:=env) l x h;split
    . rw[WM,hb];exact ih
    . rw[WM,hb];exact ih
theorem cA.L0(h:iS scope0 Nc0 scope Nc fr=true):cA (bp X0 scope0 Nc0 C s H ex) scope Nc fr:=by
 unfold iS at h;simp only[Wv]at h;obtain⟨⟨⟨⟨⟨h1,h2⟩,h3⟩,h4⟩,h5⟩,h6⟩:=h;refine⟨by simpa using h1,λ x hx hk=>?_,λ x hx hk=>?_,λ x hx hk=>?_,by simpa using h5,λ i j x e1 e2=>?_⟩
 . have:=Wm.mp h2 x hx;rw[hk]at this;simpa using this
 . have:=Wm.mp h3 x hx;rw[hk]at this;simpa using this
 . have:=Wm.mp h4 x hx;rw[hk]at this;have z:scope0.names.lookup x.1=some .cell\/scope0.names.lookup x.1=some .free:=by simpa using this
   exact qi _ _ z
 . have hi:i<fr.length:=(VV.mp e2).1;have:=Wm.mp h6 i (XE.mpr hi);rw[e1,e2]at this;simp only[Wv,Zw,XZ]at this;exact⟨this.1.1,this.1.2,qi _ _ this.2⟩
end L3
namespace L3
open PySem L2
open PySem.Spec hiding items?
open PyProof.Rows hiding St
section
variable {X:Cx}
def L4:cJ:=λ x y st K=>match x,y with
 | .lst xs,.int k=>(-(2^63)<=k/\k<2^63/\xs.length*k.toNat<=sizeLine)/\K (.ref st.length) (st++[.lst (List.replicate k.toNat xs).flatten])
 |_,_=>False
theorem QF:br X (binaryOp .Mult) (LR L4):=λ pins s σ H x y v u Q I rx ry ⟨α,d,e,st,K,G,F',P,r1,r2,S,q,k⟩=>by
 cases d<;>cases e<;>try exact q.elim
 unfold Rep at r1 r2;obtain⟨a,vs,rfl,na,ha,ra⟩:=r1;refine EI pins s σ H _ _ v u Q I rx ry ⟨a,_,vs,rfl,r2,f6 P ha,q.1.1,q.1.2.1,by rw[<-ra.length];exact q.1.2.2,λ p hp=>?_⟩;exact k.new P q.2 S (aV.mpr (kK (aV.mp ra) _)) hp
@[irreducible] def uk:cJ:=L4
theorem H_:br X (binaryOp .Mult) (LR uk):=by unfold uk;exact QF
end
theorem EV{st:ae}{K:DK}{xs:List D}{i:Int}(h: -(2^63)<=i/\i<2^63/\xs.length*i.toNat<=sizeLine)(k:K (.ref st.length) (st++[.lst (List.replicate i.toNat xs).flatten])):uk (.lst xs) (.int i) st K:=by unfold uk;exact⟨h,k⟩
theorem Ii(h:d∈du 0 n):∃i:Nat,i<n/\d= .int (i:Int):=by
 unfold du at h;obtain⟨i,hi,rfl⟩:=V9.mp h;rw[XE]at hi;exact⟨i,hi,by rw[YC]⟩
theorem HF{f:Nat->D}(n:Nat):(du 0 n).map (λ d=>match d with| .int i=>f i.toNat|_=> .ao)=(List.range n).map f:=by
 unfold du;rw[WB];refine WU λ i _=>?_;show f ((0:Int)+(i:Int)).toNat=f i;have:((0:Int)+(i:Int)).toNat=i:=by omega
 rw[this]
theorem gy{tg:dU}{te:DE}{σc:bo}{st:ae}{K:List D->ae->Prop}(f:Nat->D)(n:Nat)(hx:∀i:Nat,i<n->∀K',K' (f i) st->∃σ2,tg (.int (i:Int)) σc=some σ2/\te σ2 st K')(k:K ((List.range n).map f) st):bz tg aW te (λ _=>True) σc (du 0 n) [] st K:=by
 refine comp_map (g:=λ d=>match d with| .int i=>f i.toNat|_=> .ao) trivial _ (λ d hd K' q=>?_) (by rw[HF];exact k);obtain⟨i,hi,rfl⟩:=Ii hd;exact hx i hi K' q
theorem oh{tg:dU}{body:DS}{E:kG}(n:Nat)(I:Nat->bo->ae->Prop)(hend:∀σ st,I n σ st->E.nx σ st)
 (hstep:∀(j:Nat) σ st (rest:List D),j<n->I j σ st->(∀σ' st',I (j+1) σ' st'->ib tg body (λ _=>True) E rest σ' st')->∃σ1,tg (.int (j:Int)) σ=some σ1/\body {E with nx:=ib tg body (λ _=>True) E rest,ct:=ib tg body (λ _=>True) E rest,bk:=E.nx} σ1 st)
 {σ:bo} {st:ae} (h0:I 0 σ st):ib tg body (λ _=>True) E (du 0 n) σ st:=by
 refine gO (λ rest σ st=>∃j:Nat,j<=n/\rest=(List.range (n-j)).map (λ i=>D.int (((j+i:Nat):Int)))/\I j σ st) ?_ ?_ _ _ _ ⟨0,Wg _,by unfold du;simp,h0⟩
 . rintro σ st ⟨j,hj,hr,hI⟩
   have:n-j=0:=by
    cases q:n-j with
    |zero=>rfl
    |succ m=>rw[q,WS]at hr;cases hr
   have hjn:j=n:=by omega
   subst hjn;exact⟨trivial,hend σ st hI⟩
 . rintro d rest σ st ⟨j,hj,hr,hI⟩ next
   cases q:n-j with
   |zero=>rw[q]at hr;cases hr
   |succ m=>
    rw[q,WS,Ww,WB]at hr;simp only[Xe]at hr;obtain⟨rfl,hrest⟩:=hr;refine⟨trivial,hstep j σ st rest (by omega) hI λ σ' st' h'=>next σ' st' ⟨j+1,by omega,?_,h'⟩⟩;have:n-(j+1)=m:=by omega
    rw[this,hrest];refine WU λ i _=>?_;show D.int (((j+(i+1):Nat):Int))=D.int (((j+1+i:Nat):Int));congr 2;omega
abbrev DM:=Nat->List D->ae->DK->Prop
def LiftM(r:DM)(rM:V->List V->Hp->VK->Prop):Prop:=∀(α:List (Option Addr)) (G F H:Hp) (st:ae) (K:DK) (Q:VK) (n:Nat) (a:Addr) (ds:List D) (ws:List V),bQ G F H->aJ α st G->α[n]?=some (some a)->aD α G ds ws->r n ds st K->LK α G F K Q->rM (.ref a) ws H Q
@[irreducible] def jT(r:DM)(to:DE)(ta:DA):DE:=λ σ st K=>to σ st λ x st1=>match x with
 | .ref n=>(match st1[n]? with|some (.lst _)=>ta σ st1 λ ds st2=>(∃xs,st2[n]?=some (.lst xs))/\r n ds st2 K|_=>False)
 |_=>False
section
variable {X:Cx}
theorem LE.Uq(L:LiftM r rM)(h:LE (jT r to ta) σ H Q):QZ X.K "list" rM (LE to) (LA ta) σ H Q:=by
 obtain⟨α,σd,st,K,G,F,P,R,S,t,k⟩:=h;unfold jT at t;refine⟨α,σd,st,_,G,F,P,R,S,t,λ x st1 q α1 G1 H1 v s1 P1 S1 r1=>?_⟩;cases x<;>try exact q.elim
 rename_i n;simp only at q;split at q
 . rename_i ys e;obtain⟨p,ep,vs,h1,h2⟩:=S1.eV e;have r1':=dh ep r1;subst r1';refine⟨.inl ⟨rfl,vs,.inl (.of (P1.get h1))⟩,α1,σd,st1,_,G1,F,P1,R.step s1,S1,q,?_⟩;rintro ds st2 ⟨⟨xs,e2⟩,q2⟩ α2 G2 H2 ws s2 P2 S2 r2;obtain⟨p2,ep2,_⟩:=S2.eV e2
   have:p2=p:=by
    rcases s2.pre _ _ ep with z|z<;>(rw[z]at ep2;cases ep2)
    rfl
   subst this;exact L α2 G2 F H2 st2 K Q n p2 ds ws P2 S2 ep2 r2 q2 ((k.at s1).at s2)
 . exact q.elim
theorem IU{r:DM}{rM:V->List V->Hp->VK->Prop}{name:Str}{id:String}(L:LiftM r rM)(slot:Slot "list" name id)(hty:typeOf (.builtin id)=pure (.type "method_descriptor"))(hm:Q0 X id rM){o e:Expr}{es:List Expr}{to:DE}{ta:DA}{apos cpos:Pos}(ho:PE X o (LE to))(ha:PA X (e::es) (LA ta))
 (hbase:attributeBase o name X.env (eval o X.env)=eval o X.env) (hfew:((backTo cpos (starEach (e::es) X.env)).all (λ x=> !x.1)&&(backToKw cpos (keywordEach [] X.env)).all (λ x=>x.1.isSome)
   &&decide ((e::es).length+([]:List Keyword).length+(if([]:List Keyword).isEmpty then 0 else 1)<30))=true)
 (hline:(apos.endLine==cpos.line)=true) (hs:starEach (e::es) X.env=(false,eval e X.env)::starEach es X.env) (hplain:(backTo cpos (starEach es X.env)).any (·.1)=false):PE X (.Call (.Attribute o name apos) (e::es) [] cpos) (LE (jT r to ta)):=
 PE.imp (MV aaj slot hty hm ho ha hbase hfew hline hs hplain) λ _ _ _ h=>LE.Uq L h
def tZ:DM:=λ n ds st K=>match ds with
 | [.int i]=>(match st[n]? with|some (.lst xs)=>(-(2^63)<=i/\i<2^63)/\(match j4 xs.length i with|some j=>(match xs[j]? with|some d=>K d (st.set n (.lst (xs.eraseIdx j)))|none=>False)|none=>False)|_=>False)
 |_=>False
theorem tG{A B:Type}{F:A->B->Prop}:∀ {xs:List A} {ys:List B} (i:Nat),Paired F xs ys->Paired F (xs.eraseIdx i) (ys.eraseIdx i)
 |_,_,_,.nil=> .nil
 |_,_,0,.cons _ t=>t
 |_,_,i+1,.cons r t=> .cons r (tG i t)
theorem HJ:LiftM tZ Jc:=by
 intro α G F H st K Q n a ds ws P S ea rs q k;unfold tZ at q;split at q
 . rename_i i;split at q
   . rename_i xs e;obtain⟨h63,q⟩:=q;split at q
     . rename_i j ej;split at q
       . rename_i d ed;obtain⟨v,rfl,r1⟩:=fO rs rfl;unfold Rep at r1;subst r1;obtain⟨a',ea',vs,h1,h2⟩:=S.eV e;rw[ea]at ea';cases ea';obtain⟨y,ey,ry⟩:=h2.get ed;have hm:some a∈α:=Wa ea;refine⟨a,vs,i,j,y,rfl,rfl,P.get h1,h63.1,h63.2,by rw[<-h2.length];exact(yj ej).1,ey,?_⟩;refine k d _ q α (upd G a (.lst (vs.eraseIdx j))) _ y (Step.write hm) (P.write h1) ?_ (ry.step (Step.write hm));exact S.write ea ⟨vs.eraseIdx j,aS,(aV.mpr (tG j (aV.mp h2))).step (Step.write hm)⟩
       . exact q.elim
     . exact q.elim
   . exact q.elim
 . exact q.elim
theorem Ja{o e:Expr}(ho:JE X o to)(he:JE X e te)(hbase:attributeBase o "pop" X.env (eval o X.env)=eval o X.env:=by rfl)(hline:(apos.endLine==cpos.line)=true:=by rfl)(hs:notStar e=true:=by rfl):JE X (.Call (.Attribute o "pop" apos) [e] [] cpos) (jT tZ to (aa te af)):=by
 unfold JE at*;refine IU HJ PySem.F.slot_list_pop PySem.F.type_list_pop Kr ho (mT he sr (bx hs)) hbase ?_ hline (bx hs) rfl;rw[bx hs];rfl
end
theorem Nq{σ:bo}{st:ae}{K:DK}{n:Nat}{xs:List D}{to te:DE}{i:Int}{j:Nat}{d:D}(ho:∀K',K' (.ref n) st->to σ st K')(he:∀K',K' (.int i) st->te σ st K')(e:st[n]?=some (.lst xs))(h63: -(2^63)<=i/\i<2^63)(ej:j4 xs.length i=some j)(ed:xs[j]?=some d)(k:K d (st.set n (.lst (xs.eraseIdx j)))):jT tZ to (aa te af) σ st K:=by
 unfold jT;refine ho _ ?_;simp only[e];refine he _ ⟨⟨xs,e⟩,?_⟩;unfold tZ;simp only[e,ej,ed];exact⟨h63,k⟩
abbrev za:=D->bo->ae->(bo->ae->Prop)->Prop
inductive QC(t:za)(v:V)(σ:L2.St)(H:Hp)(Q:L2.St->Hp->Prop):Prop
 |mk (α:List (Option Addr)) (σd:bo) (st:ae) (d:D) (K:bo->ae->Prop) (G F:Hp) (P:bQ G F H) (R:dm α G σd σ) (S:aJ α st G) (r:Rep α G d v) (h:t d σd st K) (k:LC α G F K Q):QC t v σ H Q
def CP(t:za):TG:=QC t
def uj(to ti:DE):za:=λ d σ st K=>to σ st λ x st1=>ti σ st1 λ y st2=>vC x y d st2 λ st3=>K σ st3
section
variable {X:Cx}{pos:Pos}
theorem HI(h:PG X tg (yf (LE to) (LE ti) uD)):PG X tg (CP (uj to ti)):=PG.imp h λ v σ H Q ⟨α,σd,st,d,K,G,F,P,R,S,r,q,k⟩=>by
 unfold uj vC at q;refine⟨α,σd,st,_,G,F,P,R,S,q,λ x st2 q2 α2 G2 H2 v2 s2 P2 S2 r2=>?_⟩;refine⟨α2,σd,st2,_,G2,F,P2,R.step s2,S2,q2,λ y st3 q3 α3 G3 H3 v3 s3 P3 S3 r3=>?_⟩;cases x<;>cases y<;>try exact q3.elim
 rename_i n kk;unfold C7 at q3;simp only at q3;split at q3
 . rename_i xs e;split at q3
   . rename_i j ej;obtain⟨p,ep,vs,hv,rv⟩:=S3.eV e;have r2':=dh ep (r2.step s3);subst r2';unfold Rep at r3;have hm:some p∈α3:=Wa ep;have rd:=(r.step s2).step s3;refine⟨p,vs,kk,j,rfl,r3,P3.get hv,by rw[<-rv.length];exact ej,?_⟩;refine((k.at s2).at s3) σd _ q3 α3 (upd G3 p (.lst (vs.set j v))) _ σ (Step.write hm) (P3.write hv) (((R.step s2).step s3).step (Step.write hm)) ?_;exact S3.write ep ⟨vs.set j v,aS,(aV.mpr (qx rd j (aV.mp rv))).step (Step.write hm)⟩
   . exact q3.elim
 . exact q3.elim
def wD(t u:za):za:=λ d σ st K=>match d with| .tup [x,y]=>t x σ st λ σ1 st1=>u y σ1 st1 K|_=>False
theorem ND(hc:X.calm=true)(ha:PG X a (CP t))(hb:PG X b (CP u))(hn:(assignEach [a,b] X.env).length=2)(hst:(assignEach [a,b] X.env).findIdx? (·.1)=none)(hs1:JF X [a,b] (xH (CP t) (xH (CP u) J9))):
 PG X (.Tuple [a,b] kx pos) (CP (wD t u)):=PG.imp (G8 hc hs1 hn hst) λ v σ H Q ⟨α,σd,st,d,K,G,F,P,R,S,r,q,k⟩=>by
 unfold wD at q;split at q
 . rename_i x y;unfold Rep at r;obtain⟨p,vs,rfl,na,h1,h2⟩:=r;obtain⟨v1,v2,rfl,r1,r2⟩:=mE h2 rfl;refine⟨p,_,rfl,.of (P.get h1),rfl,v1,_,rfl,α,σd,st,x,_,G,F,P,R,S,r1,q,λ σ1 st1 q1 α1 G1 H1 σ1' s1 P1 R1 S1=>?_⟩;refine⟨v2,_,rfl,α1,σ1,st1,y,_,G1,F,P1,R1,S1,r2.step s1,q1,λ σ2 st2 q2 α2 G2 H2 σ2' s2 P2 R2 S2=>?_⟩;exact⟨rfl,((k.at s1).at s2).here P2 q2 R2 S2⟩
 . exact q.elim
def FY(t:za)(te:DE):DS:=λ E σ st=>te σ st λ d st1=>t d σ st1 E.nx
theorem Oe(h:PS X s (kv (LE te) (CP t))):PS X s (LS (FY t te)):=PS.imp h λ D σ H ⟨α,σd,st,DD,G,F,P,R,S,q,k⟩=>
 ⟨α,σd,st,_,G,F,P,R,S,q,λ d st1 q1 α1 G1 H1 v s1 P1 S1 r1=>⟨α1,σd,st1,d,DD.nx,G1,F,P1,R.step s1,S1,r1,q1,k.nx.at s1⟩⟩
theorem NG{o1 i1 o2 i2 e:Expr}(ho1:JE X o1 to1)(hi1:JE X i1 ti1)(ho2:JE X o2 to2)(hi2:JE X i2 ti2)(he:JE X e te)(hc:X.calm=true:=by rfl)
 (hs:swapsWithSole [.Tuple [.Subscript o1 i1 p1,.Subscript o2 i2 p2] kx tp] e pos.line X.env=pure false:=by rfl) (hw:swappedStores [.Tuple [.Subscript o1 i1 p1,.Subscript o2 i2 p2] kx tp] e X.env=pure none:=by rfl)
 (h1:(assignEach [.Tuple [.Subscript o1 i1 p1,.Subscript o2 i2 p2] kx tp] X.env).map (·.2)=[assign (.Tuple [.Subscript o1 i1 p1,.Subscript o2 i2 p2] kx tp) X.env]:=by rfl) (hn:(assignEach [.Subscript o1 i1 p1,.Subscript o2 i2 p2] X.env).length=2:=by rfl) (hst:(assignEach [.Subscript o1 i1 p1,.Subscript o2 i2 p2] X.env).findIdx? (·.1)=none:=by rfl)
 (ha1:∀v,assign (.Subscript o1 i1 p1) X.env v=(do
   let ov <-holding [v] (eval o1 X.env)
   let iv <-holding [v,ov] (eval i1 X.env)
   standAt p1
   holding [v,ov,iv] (setItem ov iv v)
   release [v,ov,iv] []):=by intro _;rfl) (ha2:∀v,assign (.Subscript o2 i2 p2) X.env v=(do
   let ov <-holding [v] (eval o2 X.env)
   let iv <-holding [v,ov] (eval i2 X.env)
   standAt p2
   holding [v,ov,iv] (setItem ov iv v)
   release [v,ov,iv] []):=by intro _;rfl):
 JS X (.Assign [.Tuple [.Subscript o1 i1 p1,.Subscript o2 i2 p2] kx tp] e pos) (FY (wD (uj to1 ti1) (uj to2 ti2)) te):=by
 unfold JS;unfold JE at*;have g1:=HI (wJ ho1 hi1 set_list ha1);have g2:=HI (wJ ho2 hi2 set_list ha2);exact Oe (wK he (ND hc g1 g2 hn hst (pZ g1 (pZ g2 D7))) hs hw h1)
end
section
variable {X:Cx}
theorem yr(r:RelV x v)(h:Q (.bool (!(v== .bool b))) s):wpAny M A (compareOp .IsNot v (.bool b)) Q E s:=by
 cases x
 case bl c=>
  cases r;cases c<;>cases b<;>exact V8 h
 all_goals first
  |(cases r;exact V8 h)
  |(obtain⟨t,rfl⟩:=r;exact V8 h)
def A8:cJ:=λ x y st K=>match y with| .ao=>live st x=true/\K (.bl (!ML x)) st| .bl b=>live st x=true/\K (.bl (!Bf x b)) st|_=>False
theorem Ko:br X (compareOp .IsNot) (LR A8):=λ pins s σ H x y v u Q I rx ry ⟨α,d,e,st,K,G,F',P,r1,r2,S,q,k⟩=>by
 cases e<;>try exact q.elim
 . refine NN pins s σ H x y v u Q I rx ry ⟨α,d,.ao,st,K,G,F',P,r1,r2,S,⟨q.1,?_⟩,k⟩;have q2:=q.2;cases d<;>exact q2
 . rename_i b;unfold Rep at r2;subst r2;cases ry;refine yr rx ?_;rw[Ei S q.1 r1 rx];exact⟨.bl (!Bf d b),H,I,rfl,k.here P q.2 S (by unfold Rep;rfl)⟩
@[irreducible] def my:cJ:=A8
theorem CZ:br X (compareOp .IsNot) (LR my):=by unfold my;exact Ko
end
section
variable {st:ae}{K:DK}{d:D}{b:Bool}
theorem wx(h:live st d=true)(k:K (.bl (!ML d)) st):my d .ao st K:=by unfold my;exact⟨h,k⟩
theorem TB(h:live st d=true)(k:K (.bl (!Bf d b)) st):my d (.bl b) st K:=by unfold my;exact⟨h,k⟩
end
theorem OL{σ:bo}{st:ae}{K:DK}{n:Nat}{xs:List D}{to te:DE}(ho:∀K',K' (.ref n) st->to σ st K')(e:st[n]?=some (.lst xs))(h:te σ st (Qi n K)):pB to te σ st K:=by
 unfold pB pE;refine ho _ ?_;simp only[e];exact h
section
variable {X:Cx}
theorem OS(he:PE X (.ListComp elt gs sc p) te)(ho:PE X o to)(hi:PE X i ti)(h2:jd i=true:=by rfl):PS X (.Assign [.Subscript o i pos'] (.ListComp elt gs sc p) pos) (kv te (yf to ti uD)):=
 wK he (wJ ho hi set_list (by intro v;cases i<;>first|rfl|cases h2)) (by unfold swapsWithSole swapsWith;rfl) rfl rfl
theorem II(he:JE X (.ListComp elt gs sc p) te)(ho:JE X o to)(hi:JE X i ti)(h2:jd i=true:=by rfl):JS X (.Assign [.Subscript o i pos'] (.ListComp elt gs sc p) pos) (cZ to ti te):=by
 unfold JS;unfold JE at*;exact CM (OS he ho hi h2)
end
end L3
namespace L3
open PySem L2
open PySem.Spec hiding items?
open PyProof.Rows hiding St
open AutoSeq1 (wpAny_loadPart')
theorem OB(hh:A.handled=none)(k:SK)(t a:Addr)(hne:a≠t)(us:Array Value):Draws P w A t [t,a] us.size (λ i v=>us[i]?=some v) (λ n g=>qP k t a n g/\jY k g a us) where
 live:=λ i h z=>((mI (P:=P) (w:=w) k t a hne us).lv i h z).1
 frame:=λ i h h' z kp=>(mI (P:=P) (w:=w) k t a hne us).fr i h h' z λ b hb o e=>kp b (by rcases hb with rfl|rfl<;>simp) o e
 item:=λ i s Q E hi z q=>(mI (P:=P) (w:=w) k t a hne us).nx i A s Q E us[i] z (by simp[hi]) λ g j sb=>q _ g s.toks (by simp[hi]) j sb
 done:=λ s Q E z q=>(mI (P:=P) (w:=w) k t a hne us).en us.size A s Q E hh z (by simp) q
theorem qk(l:Addr)(items:Array Value)(n:Nat)(dct:Option Addr)(sl:Array (Option Value)):
 Meets (Builtin.«enumerate.__new__» ⟨[.type "enumerate",.ref l],[]⟩) (λ _ R s=>s.heap.get? l=some {cls:= .type "tuple",dict:=dct,data:= .seq items n,slots:=sl}/\
  R (.ok (.ret (.ref (s.heap.push {cls:= .type "tuple_iterator",data:= .fields #[.ref l,.int 0 0]}).objs.size)))
   {s with heap:=(s.heap.push {cls:= .type "tuple_iterator",data:= .fields #[.ref l,.int 0 0]}).push {cls:= .type "enumerate",data:= .fields #[.none,.bool false,.ref s.heap.objs.size,rawInt 0,.none,.none]}}):=
 .of_wp λ prog w A R s h=>by
  obtain⟨hp,g,d,tk,os⟩:=s;obtain⟨hl,h⟩:=h;have hsub:=sub_enumerate;have hL:Heap.IsTuple (Shared.heap ⟨hp,g,d,tk,os⟩) l items:=⟨_,hl,rfl,n,rfl⟩
  wp_walk using wpAny_loadPart' hl
  refine wpAny_stack_any λ st=>V8 ?_;split
  . rename_i c _ _ _ _ _;cases (c==Value.type "enumerate")
    . wp_walk using wpAny_loadPart' hl,Yc hL
      exact⟨_,rfl,h⟩
    . wp_walk using wpAny_loadPart' hl,Yc hL
      exact⟨_,rfl,h⟩
  . wp_walk using wpAny_loadPart' hl,Yc hL
    exact⟨_,rfl,h⟩
theorem Hm{k:SK}(c:jY k s.heap a us)
 (q:∀g,IsEnum g (s.heap.objs.size+1) s.heap.objs.size 0 .none->qP k s.heap.objs.size a 0 g->(∀b o,s.heap.get? b=some o->g.get? b=some o)->Q (.ref (s.heap.objs.size+1)) {s with heap:=g}):
 wpAny (model P w) A (call (.type "enumerate") [.ref a]) Q E s:=by
 cases k
 . exact call_enumerate_list c λ g h1 h2 _ h4=>q g h1 h2 h4
 . obtain⟨⟨c,dct,dt,sl⟩,hl,hc,n,hd⟩:=c;replace hc:c= .type "tuple":=hc;replace hd:dt= .seq us n:=hd;subst hc hd
   refine callType_new F.called_enumerate (by decide) (F.typeCall_enumerate_1 _) (F.newCall_enumerate_1 _) (λ obj=>F.args_object_init_2 obj _) F.entry_enumerate_new
    (qk a us n dct sl) ⟨hl,?_⟩
   have hz:(s.heap.push {cls:= .type "tuple_iterator",data:= .fields #[.ref a,.int 0 0]}).objs.size=s.heap.objs.size+1:=Xh ..;show _/\_;rw[hz]
   have he:IsEnum ((s.heap.push {cls:= .type "tuple_iterator",data:= .fields #[.ref a,.int 0 0]}).push
    {cls:= .type "enumerate",data:= .fields #[.none,.bool false,.ref s.heap.objs.size,rawInt 0,.none,.none]}) (s.heap.objs.size+1) s.heap.objs.size 0 .none:=by
    have:=Wq (s.heap.push {cls:= .type "tuple_iterator",data:= .fields #[.ref a,.int 0 0]})
     (o:={cls:= .type "enumerate",data:= .fields #[.none,.bool false,.ref s.heap.objs.size,rawInt 0,.none,.none]}) rfl
    rw[hz]at this;exact this
   exact⟨⟨_,he,rfl⟩,q _ he ⟨_,VY _ (Wq _ rfl),rfl,rfl⟩ λ b o x=>VY _ (VY _ x)⟩
def TU(K:PySem.W.Frag)(k:SK)(a:Addr):It:=
 ⟨λ i H=>∃xs x,o8 k K H a xs/\xs[i]?=some x,
  λ i H v H'=>∃T x,H T=none/\v= .ref T/\H'=upd H T (.tup [.int (i:Int),x])/\∀xs,o8 k K H a xs->xs[i]?=some x,
  λ i H=>∃xs,o8 k K H a xs/\xs.length<=i⟩
def Vb(e t a:Addr)(k:SK)(i:Nat)(h:Heap):Prop:=(∃old,IsEnum h e t i old)/\qP k t a i h
theorem Hq{P:Program}{w:World}{K:PySem.W.Frag}{elts:List Expr}{kx:Nat}{pos:Pos}{e t a:Addr}(k:SK)(n1:e≠t)(n2:a≠e)(n3:a≠t):
 Turn P w K (.Tuple elts kx pos) (TU K k a) [e,t] e (Vb e t a k) where
 mem:=by simp
 obj:=λ i h st b hb=>by
  obtain⟨⟨old,he⟩,i1⟩:=st;simp only[V4,Wh,Xn]at hb;rcases hb with rfl|rfl
  . exact⟨_,he,λ v z=>by cases z⟩
  . exact mQ i1
 keep:=λ i h h' st kp=>by
  obtain⟨⟨old,he⟩,i1⟩:=st;exact⟨⟨old,kp e (by simp) _ he⟩,oW i1 (kp t (by simp))⟩
 item:=by
  intro X hP hw hK hc i pins s σ H E I hf st hg;subst hP hw hK;obtain⟨⟨old,he⟩,i1⟩:=st;obtain⟨xs,x,q1,ex⟩:=hg;obtain⟨us,r1,l1⟩:=jF I q1;obtain⟨u,eu,ru⟩:=r1.get ex
  have hlt:i<us.toArray.size:=by
   have:=(VV.mp eu).1;simpa using this
  refine wpAny_pyNext_enum_itemD (OB (A:=X.A.in1) (show X.A.in1.handled=none from I.ok.hd hc) k t a n3 us.toArray) he ⟨i1,l1⟩ hlt n1 (by simp only[V4,Wh,Xn,YQ];exact⟨n1,V6 n2⟩) λ y h' tk py ho hs hT hsz kp=>⟨_,rfl,?_⟩
  have hy:y=u:=by
   have:us[i]?=some y:=by simpa using py
   rw[eu]at this;cases this;rfl
  subst hy;refine wpAny_letOwnedTupleGo_enum (s:={s with heap:=h',toks:=tk+1}) ho λ k' he' sb=>?_;have hTe:s.heap.objs.size≠e:=X_ (Wd he)
  have kp3:∀b o,b∉[e,t]->s.heap.get? b=some o->k'.get? b=some o:=λ b o hb eb=>by
   simp only[V4,YQ,Wh,Xa,Yy]at hb;exact sb.extBut _ _ hb.1 (kp b o hb.1 hb.2 eb)
  refine⟨.ref s.heap.objs.size,upd H s.heap.objs.size (.tup [.int (i:Int),x]),MS (s:=s) (tk:=tk+1) I hf kp3 (VQ _) ?_,rfl,⟨s.heap.objs.size,x,I.aC.fresh (VQ _),rfl,rfl,?_⟩,?_,?_⟩
  . refine⟨VP rfl,[.int (i:Int) tk,y],.cons ⟨tk,rfl⟩ (.cons ru .nil),?_⟩;exact⟨_,sb.extBut _ _ hTe hT,rfl,_,rfl⟩
  . intro xs' q';rw[yy I q' q1];exact ex
  . refine⟨⟨_,by simpa using he'⟩,oW hs.1 λ o eo=>sb.extBut _ _ (V6 n1) eo⟩
  . intro b hb
    have:b≠s.heap.objs.size:=by
     obtain⟨o,eb⟩:∃o,s.heap.get? b=some o:=by
      simp only[V4,Wh,Xn]at hb;rcases hb with rfl|rfl
      . exact⟨_,he⟩
      . obtain⟨o,eo,_⟩:=mQ i1;exact⟨o,eo⟩
     exact Wy (Wd eb)
    rw[ay this];exact(hf b hb).1
 done:=by
  intro X hP hw hK hc i pins s σ H E I hf st hg;subst hP hw hK;obtain⟨⟨old,he⟩,i1⟩:=st;obtain⟨xs,q1,hle⟩:=hg;obtain⟨us,r1,l1⟩:=jF I q1;have e1:=r1.length;have tz:s.TypeIs (.ref e) "enumerate":=⟨_,he,rfl⟩
  unfold pyNext;refine VR (ZU (Xm (name:=Str.ofString "__next__") tz F.slot_enumerate_next (XW F.slot_enumerate_next tz F.entry_enumerate_next ?_ (F.args_enumerate_next_1 _))));show wpAny _ _ (field (.ref e) 2 >>= _) _ _ _;refine VR (Xf he rfl (x:= .ref t) rfl ?_);refine VR ((mI k t a n3 us.toArray).en i _ s _ _ (I.ok.hd hc) ⟨i1,l1⟩ (by simp;omega) λ g x sb hx=>?_);obtain⟨o,ho,hc2⟩:=hx;refine VR (wpAny_isInstance (T:="StopIteration") (b:=true) ⟨o,ho,hc2⟩ isSubtype_stop ?_);refine V8 ⟨rfl,M8 (s:=s) (tk:=s.toks) I hf λ b o hb eb=>?_⟩;simp only[V4,YQ,Wh,Xa,Yy]at hb;exact sb b o hb.2 eb
 self:=λ _ _ _ _ _ st h=>wpAny_pyIter_enum st.1.choose_spec h
def fz:Nat->List D->List D
 |_,[]=>[]
 |i,x::xs=> .tup [.int (i:Int),x]::fz (i+1) xs
theorem zh:∀ {xs:List D} {i:Nat},(fz i xs).length=xs.length
 | [],_=>rfl
 |_::xs,i=>by unfold fz;rw[Ws,Ws,zh]
theorem tP:∀ {xs:List D} {i n:Nat} {d:D},(fz i xs)[n]?=some d->∃x,xs[n]?=some x/\d= .tup [.int ((i+n:Nat):Int),x]
 | [],_,_,_,e=>by unfold fz at e;cases e
 |x::xs,i,0,d,e=>by
  unfold fz at e;rw[List.getElem?_cons_zero]at e;cases e;exact⟨x,rfl,rfl⟩
 |x::xs,i,n+1,d,e=>by
  unfold fz at e;rw[XQ]at e;obtain⟨y,h1,h2⟩:=tP e;refine⟨y,by rw[XQ];exact h1,?_⟩;rw[h2,show i+1+n=i+(n+1) by omega]
theorem Oi{K:PySem.W.Frag}{k:SK}{a:Addr}{α:List (Option Addr)}{G:Hp}{ok:ae->Prop}{xs:List D}
 (h:∀α' G' st',Step α G α' G'->aJ α' st' G'->ok st'->∃vs,He k G' a vs/\aD α' G' xs vs):yo (TU K k a) α G ok (fz 0 xs) where
 stop:=λ n α' G' F' H' st' s P S o hn=>by
  obtain⟨vs,h1,r1⟩:=h α' G' st' s S o;rw[zh]at hn;refine⟨vs,jb P h1,?_⟩;have:=r1.length;omega
 go:=λ n d α' G' F' H' st' s P S o hn=>by
  obtain⟨vs,h1,r1⟩:=h α' G' st' s S o;obtain⟨x,ex,rfl⟩:=tP hn;obtain⟨v,ev,_⟩:=r1.get ex;exact⟨vs,v,jb P h1,ev⟩
 oV:=λ n d α' G' F' H' st' x H'' s P S o hn y=>by
  obtain⟨vs,h1,r1⟩:=h α' G' st' s S o;obtain⟨c,ec,rfl⟩:=tP hn;obtain⟨T,v,hT,rfl,rfl,y1⟩:=y;obtain⟨v',ev,rv⟩:=r1.get ec;rw[y1 vs (jb P h1)]at ev;cases ev;have hg:=(P.none hT).1;refine⟨upd G' T (.tup [.int (n:Int),v]),Step.laid hg,P.laid hT,S.laid hg,?_⟩;unfold Rep;refine⟨T,[.int (n:Int),v],rfl,S.jW hg,aS,?_⟩;unfold aD;refine⟨.int (n:Int),[v],rfl,?_,?_⟩
  . unfold Rep;rw[Ye]
  unfold aD;exact⟨v,[],rfl,rv.step (Step.laid hg),by unfold aD;rfl⟩
def F1(ds:List D)(st1:ae)(K:List D->(ae->Prop)->ae->Prop):Prop:=match ds with
 | [x]=>(match items? st1 x with
   |some xs=>K (fz 0 xs) (λ st'=>items? st' x=some xs) st1
   |_=>False)
 |_=>False
@[irreducible] def tT:List D->ae->(List D->(ae->Prop)->ae->Prop)->Prop:=F1
def xo(t:DA):DI:=λ σ st K=>t σ st λ ds st1=>tT ds st1 K
theorem HX:bootBuiltins "enumerate"=some (.type "enumerate"):=by decide+kernel
theorem N6{X:Cx}{a:Expr}{elts:List Expr}{kx:Nat}{tpos p pos:Pos}{t:DA}(hg:Gl X "enumerate")(hm:X.mg "enumerate"=none)(ha:PA X [a] (LA t))(hs:starEach [a] X.env=[(false,eval a X.env)]):
 PI X (.Tuple elts kx tpos) (.Call (.Name "enumerate" p) [a] [] pos) (LI (xo t)):=by
 intro pins s σ H R I h;obtain⟨α,σd,st,K,G,F,P,RS,S,t,k⟩:=h;refine Call_ (lg I hg hm HX (Xz (bI (ha pos pins s σ H (λ vs H1=>∃ds α1 G1 st1,Step α G α1 G1/\bQ G1 F H1/\aJ α1 st1 G1/\aD α1 G1 ds vs/\tT ds st1 K) I ⟨α,σd,st,_,G,F,P,RS,S,t,λ ds st1 q α1 G1 H1 vs s1 P1 S1 r1=>⟨ds,α1,G1,st1,s1,P1,S1,r1,q⟩⟩) λ us s1 ⟨vs,H1,I1,rv,ds,α1,G1,st1,w1,P1,S1,r1,q⟩=>?_) (by rw[hs];rfl) (by rfl)));unfold tT F1 at q;split at q
 . rename_i x;split at q
   . rename_i xs ex;obtain⟨v1,rfl,q1⟩:=fO r1 rfl;obtain⟨p1,vs1,rfl,g1,c1⟩:=mW S1 q1 ex;obtain⟨u1,rfl,ru1⟩:=vals1 rv;cases ru1;obtain⟨its1,_,l1⟩:=jF I1 (jb P1 c1);refine Hm l1 λ g he i1 kp=>?_;obtain⟨o1,eo1⟩:=l1.some;have hp1:p1<s1.heap.objs.size:=Wd eo1;refine wpAny_pyIter_enum (s:={s1 with heap:=g}) he ?_;refine⟨s1.heap.objs.size+1,[s1.heap.objs.size+1,s1.heap.objs.size],_,_,H1,rfl,I1.kept (t':=s1.toks) kp,Hq (Mo x) (X_ (WA _)) (Wy (W3 hp1)) (Wy hp1),⟨⟨_,he⟩,i1⟩,λ b hb=>?_,?_⟩
     . have hb':s1.heap.objs.size<=b:=by
        simp only[V4,Wh,Xn]at hb;rcases hb with rfl|rfl
        . exact Yx _
        . exact VQ _
       exact I1.xZ hb' (I1.aC.fresh hb')
     . refine k _ _ st1 q _ α1 G1 H1 w1 P1 S1 (Oi λ α' G' st' s' S' o=>?_);obtain⟨p1',ws1,e1,f1,d1⟩:=mW S' (q1.step s') o;cases e1;exact⟨ws1,d1,f1⟩
   . exact q.elim
 . exact q.elim
theorem xY{st:ae}{x:D}{xs:List D}{K:List D->(ae->Prop)->ae->Prop}(ex:items? st x=some xs)(k:∀ok:ae->Prop,(∀st',items? st' x=some xs->ok st')->K (fz 0 xs) ok st):tT [x] st K:=by
 unfold tT F1;simp only[ex];exact k _ λ st' h1=>h1
theorem IA(hg:Gl X "enumerate")(hm:X.mg "enumerate"=none)(ha:JA X [a] ar)(hs:notStar a=true:=by rfl):JI X (.Tuple elts kx tpos) (.Call (.Name "enumerate" p) [a] [] pos) (xo ar):=by
 unfold JI;unfold JA at ha;exact N6 hg hm ha (bx hs)
end L3
namespace L3
open PySem L2
open PySem.Spec hiding items?
open PyProof.Rows hiding St
section
variable {prog:Program}{w:World}{A:Around}{E:Value->Shared->Prop}{s:Shared}
end
section
variable {X:Cx}{tg:Expr}
end
theorem pY{A B:Type}{F:A->B->Prop}{x:A}{y:B}(h:F x y):∀ {xs:List A} {ys:List B} (i:Nat),Paired F xs ys->Paired F (xs.take i++x::xs.drop i) (ys.take i++y::ys.drop i)
 |_,_,0,t=> .cons h t
 |_,_,i+1,.nil=>by simpa using(Paired.cons h .nil)
 |_,_,i+1,.cons r t=> .cons r (pY h i t)
section
variable {X:Cx}
def Pn:V->List V->Hp->VK->Prop:=λ x vs H Q=>∃(l:Addr) (xs:List V) (i:Int) (y:V),x= .ref l/\vs=[.int i,y]/\H l=some (.lst xs)/\0<=i/\i<2^62/\i.toNat<=xs.length/\xs.length<sizeLine/\Q .ao (upd H l (.lst (xs.take i.toNat++y::xs.drop i.toNat)))
theorem NU{aj:List Value}{i:Int}{u:Value}(h0:0<=i)(h:i.toNat<=aj.length):(aj.toArray.extract 0 (if i<0 then(i+(aj.toArray.size:Int)).toNat else min i.toNat aj.toArray.size)).push u++aj.toArray.extract (if i<0 then(i+(aj.toArray.size:Int)).toNat else min i.toNat aj.toArray.size)=(aj.take i.toNat++u::aj.drop i.toNat).toArray:=by
 have hk:(if i<0 then(i+(aj.toArray.size:Int)).toNat else min i.toNat aj.toArray.size)=i.toNat:=by
  rw[VT (by omega),V2];omega
 rw[hk];exact PySem.W.kl_ins_eq aj i.toNat u
theorem Rf:Qc X "list.insert" Pn:=by
 intro pins s σ H x vs v us Q I rx rv h;obtain⟨l,xs,i,y,rfl,rfl,hH,h0,h1,h2,hz,q⟩:=h;cases rx;obtain⟨u1,u2,rfl,ru1,ru2⟩:=vals2 rv;obtain⟨t,rfl⟩:=ru1;obtain⟨z,aj,n,r,hl,e⟩:=I.J4 hH;have fit:Builtin.List.listFitsIndex i=true:=aaz (by omega) (by omega);have hsz:aj.toArray.size<=sizeLine:=by rw[V2,<-hl];exact z
 have hft:¬(!Builtin.List.listFitsIndex i)=true:=by rw[fit];exact WG
 have M:=AutoSeq1.list_insert_list_int_val_1 l aj.toArray n i t u2 hft hsz;refine Yt F.slot_list_insert ⟨_,e,rfl⟩ F.entry_list_insert (F.args_list_insert_3 _ _ _) M ⟨e,?_⟩;refine⟨.ao,_,I.LN (its':=aj.take i.toNat++u2::aj.drop i.toNat) hH e (NU h0 (by omega)) (pY ru2 i.toNat r) ?_,rfl,q⟩;rw[V3,Ws,Wl,WV];omega
def tW:DM:=λ n ds st K=>match ds with
 | [.int i,d]=>(match st[n]? with|some (.lst xs)=>(0<=i/\i<=xs.length/\i<2^62/\xs.length<sizeLine)/\K .ao (st.set n (.lst (xs.take i.toNat++d::xs.drop i.toNat)))|_=>False)
 |_=>False
theorem Ik:LiftM tW Pn:=by
 intro α G F H st K Q n a ds ws P S ea rs q k;unfold tW at q;split at q
 . rename_i i d;split at q
   . rename_i xs e;obtain⟨⟨h0,h1,h2,h3⟩,q⟩:=q;obtain⟨v,u,rfl,r1,r2⟩:=mE rs rfl;unfold Rep at r1;subst r1;obtain⟨a',ea',vs,g1,g2⟩:=S.eV e;rw[ea]at ea';cases ea';have hl:=g2.length;have hm:some a∈α:=Wa ea;refine⟨a,vs,i,u,rfl,rfl,P.get g1,h0,h2,by omega,by omega,?_⟩;refine k .ao _ q α (upd G a (.lst (vs.take i.toNat++u::vs.drop i.toNat))) _ .ao (Step.write hm) (P.write g1) ?_ (by unfold Rep;rfl);exact S.write ea ⟨vs.take i.toNat++u::vs.drop i.toNat,aS,(aV.mpr (pY r2 i.toNat (aV.mp g2))).step (Step.write hm)⟩
   . exact q.elim
 . exact q.elim
theorem Mp{o e f:Expr}(ho:JE X o to)(he:JE X e te)(hf:JE X f tf)(hbase:attributeBase o "insert" X.env (eval o X.env)=eval o X.env:=by rfl)(hline:(apos.endLine==cpos.line)=true:=by rfl)(hs:notStar e=true:=by rfl)(hs2:notStar f=true:=by rfl):JE X (.Call (.Attribute o "insert" apos) [e,f] [] cpos) (jT tW to (aa te (aa tf af))):=by
 unfold JE at*;refine IU Ik PySem.F.slot_list_insert PySem.F.type_list_insert Rf ho (mT he (mT hf sr (bx hs2)) (bx hs)) hbase ?_ hline (bx hs) ?_
 . rw[bx hs,bx hs2];rfl
 . rw[bx hs2];rfl
end
theorem Qy{σ:bo}{st st2:ae}{K:DK}{n:Nat}{xs ys:List D}{to:DE}{ta:DA}{i:Int}{d:D}(ho:∀K',K' (.ref n) st->to σ st K')(ha:∀K':List D->ae->Prop,K' [.int i,d] st2->ta σ st K')(e:st[n]?=some (.lst xs))(e2:st2[n]?=some (.lst ys))(h:0<=i/\i<=ys.length/\i<2^62/\ys.length<sizeLine)(k:K .ao (st2.set n (.lst (ys.take i.toNat++d::ys.drop i.toNat)))):jT tW to ta σ st K:=by
 unfold jT;refine ho _ ?_;simp only[e];refine ha _ ⟨⟨ys,e2⟩,?_⟩;unfold tW;simp only[e2];exact⟨h,k⟩
section
variable {X:Cx}
end
end L3
namespace L3
open PySem L2
open PySem.Spec hiding items?
open PyProof.Rows hiding St
open PySem PySem.Spec L2 PySem.SeqAt
section
variable {X:Cx}
end
end L3
namespace L3
open PySem L2
open PySem.Spec hiding items?
open PyProof.Rows hiding St
section
variable {X:Cx}
end
def kill:List Nat->ae->ae
 | [],st=>st
 |c::cs,st=>kill cs (st.set c .dead)
theorem EY:∀ {cs:List Nat} {st:ae} {m:Nat},m∉cs->(kill cs st)[m]?=st[m]?
 | [],_,_,_=>rfl
 |c::cs,st,m,h=>by
  unfold kill;have hc:c≠m:=λ z=>h (by rw[z];exact V_);rw[EY λ z=>h (V5 _ z),VW hc]
theorem CH:∀ {cs:List Nat} {st:ae},(kill cs st).length=st.length
 | [],_=>rfl
 |c::cs,st=>by unfold kill;rw[CH,Wb]
section
variable {X:Cx}
end
section
variable {P:Program}{w:World}
section
variable {z ti to t1 t2 t3 a1 a2 a3:Addr}
end
end
section
variable {X:Cx}
end
end L3
namespace L3
open PySem L2
open PySem.Spec hiding items?
open PyProof.Rows hiding St
open Sem (wp)
section
variable {prog:Program}{w:World}{A:Around}{s:Shared}{E:Value->Shared->Prop}
end
section
variable {prog:Program}{w:World}{A:Around}{R:Result->Shared->Prop}{I:Addr}{fp wr:List Addr}{G:Array GenState->Array GenState->Prop}{n:Nat}{P:Nat->Value->Prop}{Sx:Nat->Shared->Prop}
end
section
variable {prog:Program}{w:World}{A:Around}{E:Value->Shared->Prop}{s:Shared}
end
section
variable {X:Cx}{pins:List (Addr×Obj)}{σ:L2.St}{H:Hp}{s:Shared}{α:List (Option Addr)}
end
end L3
namespace L3
open PySem L2
open PySem.Spec hiding items?
open PyProof.Rows hiding St
section
variable {X:Cx}
theorem range_any{α:Type}(l:List α)(f:α->Bool)(tr:Nat->Bool)(h:∀i x,l[i]?=some x->tr i=f x):(List.range l.length).any tr=l.any f:=by
 induction l generalizing tr with
 |nil=>rfl
 |cons a l ih=>
  rw[Ws,WS,Yl,Yl,List.any_map,h 0 a rfl];congr 1;exact ih (tr∘Nat.succ) λ i x e=>h (i+1) x (by simpa using e)
end
def putD(f:Str)(v:D):List (Str×D)->List (Str×D)
 | []=>[(f,v)]
 |(g,x)::r=>if g=f then(g,v)::r else(g,x)::putD f v r
theorem je.look:∀ {fs:List (Str×D)} {vs:List (Str×V)},je α H fs vs->fs.lookup f=some v->∃u,vs.lookup f=some u/\Rep α H v u
 | [],_,_,e=>by cases e
 |(g,x)::fs,_,.cons (b:=q) h t,e=>by
  obtain⟨g',y⟩:=q;obtain⟨h1,h2⟩:=h;simp only at h1 h2;subst h1;rw[WM]at e⊢;cases hb:f==g with
  |true=>rw[hb]at e;cases e;exact⟨y,rfl,h2⟩
  |false=>rw[hb]at e;exact je.look t e
theorem je.none:∀ {fs:List (Str×D)} {vs:List (Str×V)},je α H fs vs->fs.lookup f=Option.none->vs.lookup f=Option.none
 | [],_,.nil,_=>rfl
 |(g,x)::fs,_,.cons (b:=q) h t,e=>by
  obtain⟨g',y⟩:=q;obtain⟨h1,h2⟩:=h;simp only at h1 h2;subst h1;rw[WM]at e⊢;cases hb:f==g with
  |true=>rw[hb]at e;cases e
  |false=>rw[hb]at e;exact je.none t e
theorem je.put(r:Rep α H d v):∀ {fs:List (Str×D)} {vs:List (Str×V)},je α H fs vs->je α H (putD f d fs) (gd f v vs)
 | [],_,.nil=> .cons ⟨rfl,r⟩ .nil
 |(g,x)::fs,_,.cons (b:=q) h t=>by
  obtain⟨g',y⟩:=q;obtain⟨h1,h2⟩:=h;simp only at h1 h2;subst h1;unfold putD gd;by_cases hb:g=f
  . rw[VU hb,VU hb];exact .cons ⟨rfl,r⟩ t
  . rw[VT hb,VT hb];exact .cons ⟨rfl,h2⟩ (je.put r t)
def JY(C:Addr)(f:Str)(d:D)(st:ae)(K:DK):Prop:=match d with
 | .ref n=>(match st[n]? with|some (.ins C' fs)=>C'=C/\∃v,fs.lookup f=some v/\K v st|_=>False)
 |_=>False
@[irreducible] def F2(C:Addr)(f:Str):D->ae->DK->Prop:=JY C f
def dy(C:Addr)(f:Str)(te:DE):DE:=λ σ st K=>te σ st λ d st1=>F2 C f d st1 K
theorem cB{C:Addr}{f:Str}{n:Nat}{st:ae}{K:DK}{fs:List (Str×D)}{v:D}(e:st[n]?=some (.ins C fs))(h:fs.lookup f=some v)(k:K v st):F2 C f (.ref n) st K:=by
 unfold F2 JY;simp only[e];exact⟨trivial,v,h,k⟩
def Gv(C:Addr)(f:Str)(x d:D)(st:ae)(K:ae->Prop):Prop:=match x with
 | .ref n=>(match st[n]? with|some (.ins C' fs)=>C'=C/\fs.length<1000/\K (st.set n (.ins C (putD f d fs)))|_=>False)
 |_=>False
@[irreducible] def AX(C:Addr)(f:Str):D->D->ae->(ae->Prop)->Prop:=Gv C f
def n_(C:Addr)(f:Str)(to te:DE):DS:=λ D σ st=>te σ st λ d st1=>to σ st1 λ x st2=>AX C f x d st2 λ st3=>D.nx σ st3
theorem mN{C:Addr}{f:Str}{n:Nat}{d:D}{st:ae}{K:ae->Prop}{fs:List (Str×D)}(e:st[n]?=some (.ins C fs))(h:fs.length<1000)(k:K (st.set n (.ins C (putD f d fs)))):AX C f (.ref n) d st K:=by
 unfold AX Gv;simp only[e];exact⟨trivial,h,k⟩
def GN(C:Addr)(m:Str)(x:D)(st:ae)(k:Prop):Prop:=match x with
 | .ref n=>(match st[n]? with|some (.ins C' fs)=>C'=C/\fs.lookup m=none/\k|_=>False)
 |_=>False
@[irreducible] def AM(C:Addr)(m:Str):D->ae->Prop->Prop:=GN C m
theorem jy{C:Addr}{m:Str}{n:Nat}{st:ae}{k:Prop}{fs:List (Str×D)}(e:st[n]?=some (.ins C fs))(h:fs.lookup m=none)(q:k):AM C m (.ref n) st k:=by
 unfold AM GN;simp only[e];exact⟨trivial,h,q⟩
def iW(C:Addr)(m:Str)(S:bw)(to:DE)(t:DA):DE:=λ σ st K=>to σ st λ x st1=>AM C m x st1 (t σ st1 λ ds st2=>S (x::ds) st2 K)
def Fx(C:Addr)(S:bw)(t:DA):DE:=λ σ st K=>t σ st λ ds st1=>S (.ref st1.length::ds) (st1++[.ins C []]) λ r st2=>r= .ao/\K (.ref st1.length) st2
section
variable {X:Cx}{C f g:Addr}{fd:FuncData}{k:Nat}{x m fl:Str}{e o value:Expr}{es:List Expr}{p pos pos' apos:Pos}{te to:DE}{t:DA}{S:bw}{ps:List Str}
theorem RW(c:nF X.K C)(na:fJ X.K C fl)(he:PE X e (LE te))(hb:attributeBase e fl X.env (eval e X.env)=eval e X.env):PE X (.Attribute e fl pos) (LE (dy C fl te)):=PE.imp (Qb he hb) λ σ H Q ⟨α,σd,st,K,G,F,P,R,S,t,k⟩=>by
 refine⟨α,σd,st,_,G,F,P,R,S,t,λ d st1 q α1 G1 H1 v s1 P1 S1 r1=>?_⟩;unfold F2 JY at q;cases d<;>try exact q.elim
 simp only at q;split at q
 . rename_i C' fs e';obtain⟨rfl,w,hw,q⟩:=q;obtain⟨a,ea,dx,vs,h1,h2⟩:=S1.AO e';have r1':=dh ea r1;subst r1';obtain⟨u,hu,ru⟩:=h2.look hw;exact⟨a,_,dx,vs,u,rfl,P1.get h1,c,na,hu,(k.at s1).here P1 q S1 ru⟩
 . exact q.elim
theorem Px(c:nF X.K C)(na:fJ X.K C fl)(ho:PE X o (LE to))(hv:PE X value (LE te))(hs:swapsWith value (some (.Attribute o fl pos')) pos.line X.env=pure false):PS X (.Assign [.Attribute o fl pos'] value pos) (LS (n_ C fl to te)):=PS.imp (Qh ho hv hs) λ D σ H ⟨α,σd,st,DD,G,F,P,R,S,t,k⟩=>by
 refine⟨α,σd,st,_,G,F,P,R,S,t,λ d st1 q α1 G1 H1 v s1 P1 S1 r1=>?_⟩;refine⟨α1,σd,st1,_,G1,F,P1,R.step s1,S1,q,λ x st2 q2 α2 G2 H2 v2 s2 P2 S2 r2=>?_⟩;unfold AX Gv at q2;cases x<;>try exact q2.elim
 simp only at q2;split at q2
 . rename_i C' fs e';obtain⟨rfl,hl,q2⟩:=q2;obtain⟨a,ea,dx,vs,h1,h2⟩:=S2.AO e';have r2':=dh ea r2;subst r2';have hm:some a∈α2:=Wa ea;have lv:vs.length<1000:=by rw[<-h2.length];exact hl
   refine⟨a,_,dx,vs,rfl,P2.get h1,c,na,lv,?_⟩;refine((k.nx.at s1).at s2) σd _ q2 α2 (upd G2 a (.ins _ dx (gd fl v vs))) _ σ (Step.write hm) (P2.write h1) (((R.step s1).step s2).step (Step.write hm)) ?_;exact S2.write ea ⟨dx,gd fl v vs,aS,(h2.put (r1.step s2)).step (Step.write hm)⟩
 . exact q2.elim
theorem LE.R8(h:LE (iW C m S to t) σ H Q):L8 C m (ik S) [] E0 (LE to) (LA t) σ H Q:=by
 obtain⟨α,σd,st,K,G,F,P,R,Sr,tt,k⟩:=h;refine⟨α,σd,st,_,G,F,P,R,Sr,tt,λ d st1 q α1 G1 H1 v s1 P1 S1 r1=>?_⟩;unfold AM GN at q;cases d<;>try exact q.elim
 simp only at q;split at q
 . rename_i n C' fs e';obtain⟨rfl,hl,q⟩:=q;obtain⟨a,ea,dx,vs,h1,h2⟩:=S1.AO e';have r1':=dh ea r1;subst r1';refine⟨a,dx,vs,rfl,P1.get h1,h2.none hl,?_⟩;refine⟨α1,σd,st1,_,G1,F,P1,R.step s1,S1,q,λ ds st2 q2 α2 G2 H2 us s2 P2 S2 r2=>?_⟩;try dsimp only
   rw[WE];exact⟨α2,_,st2,K,G2,F,P2,by unfold aD;exact⟨_,_,rfl,r1.step s2,r2⟩,S2,q2,(k.at s1).at s2⟩
 . exact q.elim
theorem LE.make(h:LE (Fx C S t) σ H Q):Mj C (ik S) [] E0 (LA t) σ H Q:=by
 obtain⟨α,σd,st,K,G,F,P,R,Sr,tt,k⟩:=h;refine⟨α,σd,st,_,G,F,P,R,Sr,tt,λ ds st1 q α1 G1 H1 us s1 P1 S1 r1=>?_⟩;intro x dx hx hdx hne;have hgd:=(P1.none hdx).1;have P2:=P1.laid (o:= .own x) hdx;have S2:=S1.laid (o:= .own x) hgd;have hx2:upd H1 dx (.own x) x=none:=by rw[ay (V6 hne)];exact hx
 have hg2:=(P2.none hx2).1;have P3:=P2.laid (o:= .ins C dx []) hx2;have S3:=S2.cell (o:= .ins C dx []) (c:= .ins C []) hg2 ⟨dx,[],aS,.nil⟩;have s2:Step α1 G1 α1 (upd G1 dx (.own x)):=Step.laid hgd;have s3:Step α1 (upd G1 dx (.own x)) (α1++[some x]) (upd (upd G1 dx (.own x)) x (.ins C dx [])):=Step.cell hg2
 have rx:Rep (α1++[some x]) (upd (upd G1 dx (.own x)) x (.ins C dx [])) (.ref st1.length) (.ref x):=by
  unfold Rep;refine .inr ⟨x,?_,rfl⟩;rw[Wu (by rw[S1.len];exact VQ _),S1.len,XM];rfl
 rw[WE];refine⟨α1++[some x],.ref st1.length::ds,st1++[.ins C []],_,_,F,P3,by unfold aD;exact⟨_,_,rfl,rx,(r1.step s2).step s3⟩,S3,q,λ d st2 q2 α' G' H' v s' P' S' r'=>?_⟩;obtain⟨rfl,q2⟩:=q2;unfold Rep at r';exact⟨r',(((k.at s1).at s2).at s3) _ st2 q2 α' G' H' _ s' P' S' (rx.step s')⟩
end
section
variable {X:Cx}{tg:Expr}
end
section
variable {X:Cx}
end
section
variable {X:Cx}{e o i value:Expr}{es:List Expr}{te to ti:DE}{t:DA}{pos pos' tpos apos p:Pos}{C f:Addr}{fl m x:Str}{S:bw}{k:Nat}{fd:FuncData}{ps:List Str}
theorem Hx{value o:Expr}{fl:Str}{pos':Pos}:swapsWith value (some (.Attribute o fl pos')) n env=pure false:=by cases value<;>rfl
theorem cP(c:nF X.K C)(na:fJ X.K C fl)(he:JE X e te)(hb:attributeBase e fl X.env (eval e X.env)=eval e X.env:=by rfl):JE X (.Attribute e fl pos) (dy C fl te):=by unfold JE at*;exact RW c na he hb
theorem mX(c:nF X.K C)(na:fJ X.K C fl)(ho:JE X o to)(hv:JE X value te):JS X (.Assign [.Attribute o fl pos'] value pos) (n_ C fl to te):=by unfold JS;unfold JE at*;exact Px c na ho hv Hx
theorem lj{pl:Sem Bool}(he:JE X o to)(c:nF X.K C)(hm:Meth X.K C m f)(F:dz X.prog X.w X.K X.mg X.base gq k f fd ps (ik S))(hr:cF k X.A)(hb:Binds X.K fd ps [])(ha:JA X (e::es) t)
 (hs:notStar e=true:=by rfl) (hs2:gg es=true:=by rfl)
 (ht:eval (.Call (.Attribute o m apos) (e::es) [] pos) X.env=(do
   let ov <-eval o X.env
   standAt apos.atName
   let(f,first) <-holding [ov] (getMethod ov m pl)
   callWith pos f first (backTo pos (starEach (e::es) X.env)) (backToKw pos (keywordEach [] X.env))):=by rfl):
 JE X (.Call (.Attribute o m apos) (e::es) [] pos) (iW C m S to t):=by
 unfold JE at*;unfold JA at ha;exact PE.imp (Nz he c hm F hr hb .nil Gj ha (bx hs) (kE hs2) ht) λ _ _ _ h=>LE.R8 h
theorem Qv(M:Mk X.K C f)(F:dz X.prog X.w X.K X.mg X.base gq k f fd ps (ik S))(hr:cF (k+1) X.A)(hg:Gl X x)(hmg:X.mg x=some (.ref C))(hb:Binds X.K fd ps [])(ha:JA X (e::es) t)(hdb:(x==("__debug__":Str))=false)
 (hs:notStar e=true:=by rfl) (hs2:gg es=true:=by rfl):JE X (.Call (.Name x p) (e::es) [] pos) (Fx C S t):=by
 unfold JE;unfold JA at ha;exact PE.imp (O3 M F hr hg hmg hb .nil Gj ha hdb (bx hs) (kE hs2)) λ _ _ _ h=>LE.make h
end
end L3
namespace L3
open PySem PySem.Spec L2
open PyProof.Rows hiding St
def Jn(xs:Array Keyed)(i:Nat):Int:=match xs[i]? with
 |some p=>numOf p.2
 |none=>0
theorem ny(h:xs[i]?=ys[j]?):Jn xs i=Jn ys j:=by unfold Jn;rw[h]
theorem kX(hj:j<=xs.size)(k:Nat):
 K (mirror xs i j ((j-i)/2)) k=K xs (if i<=k/\k<j then i+j-1-k else k)/\Jn (mirror xs i j ((j-i)/2)) k=Jn xs (if i<=k/\k<j then i+j-1-k else k):=by
 have e:=getElem?_mirror_all (i:=i) hj k;split at e<;>rename_i h
 . rw[VU h];exact⟨K_congr e,ny e⟩
 . rw[VT h];exact⟨K_congr e,ny e⟩
theorem HL(hs:src<xs.size)(hd:d<=src)(k:Nat):
 K (bubble xs src d) k=K xs (if k=src-d then src else if src-d<k/\k<=src then k-1 else k)/\Jn (bubble xs src d) k=Jn xs (if k=src-d then src else if src-d<k/\k<=src then k-1 else k):=by
 have e:=getElem?_bubble hs d hd k;split at e<;>rename_i h
 . rw[VU h];exact⟨K_congr e,ny e⟩
 . rw[VT h];split at e<;>rename_i h2
   . rw[VU h2];exact⟨K_congr e,ny e⟩
   . rw[VT h2];exact⟨K_congr e,ny e⟩
def lp(xs:Array Keyed)(i j:Nat):Prop:=K xs i<K xs j\/(K xs i=K xs j/\Jn xs i<Jn xs j)
def i3(xs:Array Keyed)(k:Nat):Prop:=∀i j,i<j->j<k->lp xs i j
def ir(n:Nat)(xs:Array Keyed)(k:Nat):Prop:=∀i j,i<j->k<=j->j<n->Jn xs i<Jn xs j
theorem i3.to{k:Nat}(h:i3 xs k):SortedTo xs k:=λ i j hij hj=>by
 rcases Nat.lt_or_eq_of_le hij with e|e
 . rcases h i j e hj with q|q<;>omega
 . subst e;exact aat _
theorem i3.more{n k m:Nat}(h:i3 xs k)(t:ir n xs k)(s:SortedTo xs m)(hm:m<=n):i3 xs m:=λ i j hij hj=>by
 by_cases hk:j<k
 . exact h i j hij hk
 . have a:=s i j (W2 hij) hj;have b:=t i j hij (WD hk) (Wj hj hm);unfold lp;omega
theorem ir.up{n k m:Nat}(t:ir n xs k)(h:k<=m):ir n xs m:=λ i j a b c=>t i j a (VX h b) c
theorem ir.mix{n k:Nat}(t:ir n xs k)(f:Nat->Nat)(hf:∀i,Jn ys i=Jn xs (f i))(h1:∀i,i<k->f i<k)(h2:∀i,k<=i->f i=i):ir n ys k:=λ i j a b c=>by
 rw[hf,hf,h2 j b];refine t _ _ ?_ b c;by_cases hi:i<k
 . exact Wj (h1 i hi) b
 . rw[h2 i (WD hi)];exact a
section
variable {prog:Program}{w:World}{A:Around}{E:Value->Shared->Prop}{s:Shared}{a₀:Array Keyed}
theorem Hg{st:SortSt}{ok:Nat}{Q:Bool->SortSt->Prop}(h0:IntKeys a₀)(h1:1<=ok)(aC:ok<=a₀.size)(hB:SBase a₀ st)(hs:i3 (arrOf st) ok)(ht:ir a₀.size (arrOf st) ok)
 (h:∀st',SBase a₀ st'->i3 (arrOf st') a₀.size->Q true st'):wpS (model prog w) A E s (binarySort' 0 a₀.size ok) Q st:=by
 rw[binarySort'_eq];simp only[Ye]
 refine WZ (wpS_mono (Zz (I:=λ k c q=>c=(none,())/\SBase a₀ q/\k<=a₀.size/\i3 (arrOf q) k/\ir a₀.size (arrOf q) k)
  (Q:=λ c q=>c=(none,())/\SBase a₀ q/\i3 (arrOf q) a₀.size) ?st ?en ?be) ?po)
 case po=>rintro c q ⟨rfl,b1,b2⟩;exact Xw (h q b1 b2)
 case be=>rw[show max ok 1=ok by omega];exact⟨rfl,hB,aC,hs,ht⟩
 case en=>
  rintro c q ⟨rfl,b1,b2,b3,_⟩;rw[show max (max ok 1) a₀.size=a₀.size by omega]at b3;exact⟨rfl,b1,b3⟩
 case st=>
  rintro k c q hk1 hk2 ⟨rfl,qB,_,qS,qT⟩
  refine WZ (wpS_mono (Zz (I:=λ x c q'=>q'=q/\∃l r,c=(none,l,r)/\l<=r/\r<=k/\r-l<=k-x/\(∀i,i<l->K (arrOf q) i<=K (arrOf q) k)/\(∀i,r<=i->i<k->K (arrOf q) k<K (arrOf q) i))
   (Q:=λ c q'=>q'=q/\∃l,c=(none,l,l)/\l<=k/\(∀i,i<l->K (arrOf q) i<=K (arrOf q) k)/\(∀i,l<=i->i<k->K (arrOf q) k<K (arrOf q) i)) ?a ?b ?c) ?d)
  case c=>exact⟨rfl,0,k,rfl,by omega,by omega,by omega,λ i hi=>by omega,λ i x y=>by omega⟩
  case b=>
   rintro c q' ⟨rfl,l,r,rfl,e1,e2,e3,e4,e5⟩;have:r=l:=by omega
   subst this;exact⟨rfl,r,rfl,e2,e4,e5⟩
  case a=>
   rintro x c q' _ hx ⟨rfl,l,r,rfl,e1,e2,e3,e4,e5⟩;dsimp only;by_cases hlr:l>=r
   . rw[VU hlr];have:r=l:=by omega
     subst this;exact Xw ⟨rfl,r,rfl,e2,e4,e5⟩
   . rw[VT hlr];refine WZ (wpS_ltK qB h0 hk2 (by omega) ?_);have so:=qS.to;by_cases hl:K (arrOf q') k<K (arrOf q') ((l+r)/2)
     . simp only[hl,ZM,Yk];exact Xw ⟨rfl,l,(l+r)/2,rfl,by omega,by omega,by omega,e4,λ i x y=>Int.lt_of_lt_of_le hl (so _ _ x y)⟩
     . simp only[hl,ZA,Xd,XT];refine Xw ⟨rfl,(l+r)/2+1,r,rfl,by omega,by omega,by omega,λ i x=>?_,e5⟩;have:=so i ((l+r)/2) (by omega) (by omega);omega
  case d=>
   rintro c q' ⟨rfl,l,rfl,hlk,e4,e5⟩;show wpS _ _ _ _ (do moveDown' k l;pure (ForInStep.yield (none,()))) _ _;rw[moveDown'_eq];have hks:k<(arrOf q').size:=by rw[qB.size];exact hk2
   have bb:=HL (xs:=arrOf q') hks (show k-l<=k by omega);rw[show k-(k-l)=l by omega]at bb;refine WZ (wpS_modify (Xw ⟨rfl,qB.setArr (bubble_perm _ _ _),by omega,λ i j hij hj=>?_,ir.mix (qT.up (Yx k)) _ (λ i=>(bb i).2) (λ i hi=>?_) (λ i hi=>?_)⟩))
   . show lp (bubble (arrOf q') k (k-l)) i j;unfold lp;rw[(bb i).1,(bb i).2,(bb j).1,(bb j).2];by_cases hil:i<l
     . rw[VT (show¬i=l by omega),VT (show¬(l<i/\i<=k) by omega)];by_cases hjl:j=l
       . rw[VU hjl];have x:=e4 i hil;have y:=qT i k (by omega) (VQ _) hk2;omega
       . rw[VT hjl];by_cases hj2:l<j/\j<=k
         . rw[VU hj2];exact qS i (j-1) (by omega) (by omega)
         . rw[VT hj2];exact qS i j hij (by omega)
     . by_cases hie:i=l
       . rw[VU hie,VT (show¬j=l by omega),VU (show l<j/\j<=k by omega)];exact .inl (e5 _ (by omega) (by omega))
       . rw[VT hie,VU (show l<i/\i<=k by omega),VT (show¬j=l by omega),VU (show l<j/\j<=k by omega)];exact qS _ _ (by omega) (by omega)
   . show(if i=l then k else if l<i/\i<=k then i-1 else i)<k+1;split
     . omega
     . split<;>omega
   . show(if i=l then k else if l<i/\i<=k then i-1 else i)=i;rw[VT (by omega),VT (by omega)]
def zL(xs:Array Keyed)(m q:Nat):Prop:=q+1<=m/\∀i j,i<j->j<m->(m<=i+(q+1)->K xs i=K xs j/\Jn xs i<Jn xs j)/\(i+(q+1)<m->(m<=j+(q+1)->K xs j<K xs i)/\lp xs j i)
theorem zL.all(h:zL xs m q)(hm:m<=xs.size):(q=0\/0<q)/\∀i j,i<j->j<m->lp (mirror xs (m-(q+1)) m ((m-(m-(q+1)))/2)) j i:=by
 refine⟨by omega,λ i j hij hj=>?_⟩;have b:=kX (i:=m-(q+1)) (j:=m) hm;unfold lp;rw[(b i).1,(b i).2,(b j).1,(b j).2];by_cases hi:m-(q+1)<=i/\i<m
 . rw[VU hi,VU (show m-(q+1)<=j/\j<m by omega)];have:=(h.2 (m-(q+1)+m-1-j) (m-(q+1)+m-1-i) (by omega) (by omega)).1 (by omega);omega
 . rw[VT hi];by_cases hj2:m-(q+1)<=j/\j<m
   . rw[VU hj2];have:=((h.2 i (m-(q+1)+m-1-j) (by omega) (by omega)).2 (by omega)).1 (by omega);omega
   . rw[VT hj2];exact((h.2 i j hij hj).2 (by omega)).2
theorem zL.zero(h:zL xs m 0):∀i j,i<j->j<m->lp xs j i:=λ i j hij hj=>((h.2 i j hij hj).2 (by omega)).2
theorem mH{i j k:Nat}(t:ir n xs k)(hj:j<=xs.size)(hk:j<=k):ir n (mirror xs i j ((j-i)/2)) k:=
 t.mix _ (λ a=>(kX hj a).2) (λ a ha=>by split<;>omega) λ a ha=>by rw[VT (by omega)]
theorem HE{st:SortSt}{n:Nat}{Q:DescSt->SortSt->Prop}(h0:IntKeys a₀)(hn:n<=a₀.size)(hB:SBase a₀ st)(hs:zL (arrOf st) n 0)(ht:ir a₀.size (arrOf st) n)
 (h:∀m q st',SBase a₀ st'->n<=m->m<=a₀.size->zL (arrOf st') m q->ir a₀.size (arrOf st') m->Q (none,m,q) st'):
 wpS (model prog w) A E s (descLoop n a₀.size) Q st:=by
 unfold descLoop;refine Zz (I:=λ x c st'=>∃q,c=(none,x,q)/\SBase a₀ st'/\zL (arrOf st') x q/\ir a₀.size (arrOf st') x) ?st ?en ⟨0,rfl,hB,hs,ht⟩
 case en=>
  rintro c st' ⟨q,rfl,b1,b2,b3⟩;rw[show max n a₀.size=a₀.size by omega]at b2 b3⊢;exact h _ q st' b1 hn (VQ _) b2 b3
 case st=>
  rintro x c st' hx1 hx2 ⟨q,rfl,b1,b2,b3⟩;dsimp only;have hq:=b2.1;have hsz:x<=(arrOf st').size:=by rw[b1.size];omega
  refine WZ (wpS_ltK b1 h0 hx2 (by omega) ?_);by_cases hl:K (arrOf st') x<K (arrOf st') (x-1)
  . simp only[hl,ZM,Yk];by_cases hq0:q>0
    . rw[VU hq0];have al:=(b2.all hsz).2;have km:=kX (i:=x-(q+1)) (j:=x) hsz;refine WZ (wpS_reverse (Xw ⟨0,rfl,b1.setArr (mirror_perm _ _ _ _),⟨by omega,λ i j hij hj=>⟨λ hh=>by omega,λ hh=>⟨λ hj2=>?_,?_⟩⟩⟩,(mH b3 hsz (VQ _)).up (Yx x)⟩))
      . have hjx:j=x:=by omega
        subst hjx;show K (mirror (arrOf st') _ _ _) j<K (mirror (arrOf st') _ _ _) i;rw[(km i).1,(km j).1,VT (show¬(j-(q+1)<=j/\j<j) by omega)]
        have key:∀t,t<j->K (arrOf st') (j-1)<=K (arrOf st') t:=λ t ht=>by
         by_cases e:t=j-1
         . rw[e];exact aat _
         . have z:=b2.2 t (j-1) (by omega) (by omega);by_cases g:j<=t+(q+1)
           . have:=(z.1 g).1;omega
           . have:=(z.2 (by omega)).2;unfold lp at this;omega
        split
        . have:=key (j-(q+1)+j-1-i) (by omega);omega
        . have:=key i hij;omega
      . show lp (mirror (arrOf st') _ _ _) j i;by_cases hjx:j<x
        . exact al i j hij hjx
        . have hjx:j=x:=by omega
          subst hjx;refine .inl ?_;rw[(km i).1,(km j).1,VT (show¬(j-(q+1)<=j/\j<j) by omega)]
          have key:∀t,t<j->K (arrOf st') (j-1)<=K (arrOf st') t:=λ t ht=>by
           by_cases e:t=j-1
           . rw[e];exact aat _
           . have z:=b2.2 t (j-1) (by omega) (by omega);by_cases g:j<=t+(q+1)
             . have:=(z.1 g).1;omega
             . have:=(z.2 (by omega)).2;unfold lp at this;omega
          split
          . have:=key (j-(q+1)+j-1-i) (by omega);omega
          . have:=key i hij;omega
    . rw[VT hq0];have hq0:q=0:=by omega
      subst hq0;have z0:=b2.zero
      have lx:∀i,i<x->K (arrOf st') x<K (arrOf st') i:=λ i hi=>by
       by_cases e:i=x-1
       . rw[e];exact hl
       . have:=z0 i (x-1) (by omega) (by omega);unfold lp at this;omega
      refine Xw ⟨0,rfl,b1,⟨by omega,λ i j hij hj=>⟨λ hh=>by omega,λ hh=>⟨λ hj2=>?_,?_⟩⟩⟩,b3.up (Yx x)⟩
      . have hjx:j=x:=by omega
        subst hjx;exact lx i hij
      . by_cases hjx:j<x
        . exact z0 i j hij hjx
        . have hjx:j=x:=by omega
          subst hjx;exact .inl (lx i hij)
  . simp only[hl,ZA,Xd,XT];refine WZ (wpS_ltK b1 h0 (by omega) hx2 ?_);by_cases hg:K (arrOf st') (x-1)<K (arrOf st') x
    . simp only[hg,ZM,Yk];exact Xw (h x q st' b1 hx1 (by omega) b2 b3)
    . simp only[hg,ZA,Xd,XT];have he:K (arrOf st') x=K (arrOf st') (x-1):=by omega
      refine Xw ⟨q+1,rfl,b1,⟨by omega,λ i j hij hj=>⟨λ hh=>?_,λ hh=>⟨λ hj2=>?_,?_⟩⟩⟩,b3.up (Yx x)⟩
      . by_cases hjx:j<x
        . exact(b2.2 i j hij hjx).1 (by omega)
        . have hjx:j=x:=by omega
          subst hjx;refine⟨?_,b3 i j hij (VQ _) hx2⟩;rw[he];by_cases e:i=j-1
          . rw[e]
          . exact((b2.2 i (j-1) (by omega) (by omega)).1 (by omega)).1
      . by_cases hjx:j<x
        . exact((b2.2 i j hij hjx).2 (by omega)).1 (by omega)
        . have hjx:j=x:=by omega
          subst hjx;rw[he];exact((b2.2 i (j-1) (by omega) (by omega)).2 (by omega)).1 (by omega)
      . by_cases hjx:j<x
        . exact((b2.2 i j hij hjx).2 (by omega)).2
        . have hjx:j=x:=by omega
          subst hjx;refine .inl ?_;rw[he];exact((b2.2 i (j-1) (by omega) (by omega)).2 (by omega)).1 (by omega)
theorem zF{st:SortSt}{n:Nat}{Q:Option Nat->SortSt->Prop}(h0:IntKeys a₀)(h1:1<=n)(hn:n<=a₀.size)(hB:SBase a₀ st)(hs:∀i j,i<j->j<n->lp (arrOf st) j i)(ht:ir a₀.size (arrOf st) n)
 (h:∀m st',SBase a₀ st'->1<=m->m<=a₀.size->i3 (arrOf st') m->ir a₀.size (arrOf st') m->Q (some m) st'):wpS (model prog w) A E s (tail3 n a₀.size) Q st:=by
 unfold tail3;have hsz:n<=(arrOf st).size:=by rw[hB.size];exact hn
 refine WZ (wpS_reverse ?_);have km:=kX (xs:=arrOf st) (i:=0) (j:=n) hsz
 have s1:i3 (mirror (arrOf st) 0 n ((n-0)/2)) n:=λ i j hij hj=>by
  unfold lp;rw[(km i).1,(km i).2,(km j).1,(km j).2,VU (by omega),VU (by omega)];exact hs _ _ (by omega) (by omega)
 have t1:=mH (i:=0) ht hsz (VQ _);have hB':SBase a₀ (setArr st (mirror (arrOf st) 0 n ((n-0)/2))):=hB.setArr (mirror_perm _ _ _ _);refine WZ (wpS_ascLoop h0 (VQ _) h1 hn hB' s1.to λ m m1 m2 sm _=>Xw (h m _ hB' (by omega) m2 (s1.more t1 sm m2) (t1.up m1)))
theorem zM{st:SortSt}{n:Nat}{Q:Option Nat->SortSt->Prop}(h0:IntKeys a₀)(hn:n+1<=a₀.size)(hB:SBase a₀ st)(hs:zL (arrOf st) (n+1) 0)(ht:ir a₀.size (arrOf st) (n+1))
 (h:∀m st',SBase a₀ st'->1<=m->m<=a₀.size->i3 (arrOf st') m->ir a₀.size (arrOf st') m->Q (some m) st'):wpS (model prog w) A E s (descPart n a₀.size) Q st:=by
 unfold descPart;refine WZ (wpS_lift (YW ⟨rfl,?_⟩));refine WZ (HE h0 hn hB hs ht λ m q st' b1 b2 b3 b4 b5=>?_);dsimp only;have hsz:m<=(arrOf st').size:=by rw[b1.size];exact b3
 by_cases hq:q>0
 . rw[VU hq];exact WZ (wpS_reverse (zF h0 (by omega) b3 (b1.setArr (mirror_perm _ _ _ _)) (b4.all hsz).2 (mH b5 hsz (VQ _)) h))
 . rw[VT hq];have:q=0:=by omega
   subst this;exact zF h0 (by omega) b3 b1 b4.zero b5 h
theorem Jf{st:SortSt}{Q:Option Nat->SortSt->Prop}(h0:IntKeys a₀)(h1:1<=a₀.size)(hB:SBase a₀ st)(ht:ir a₀.size (arrOf st) 1)
 (h:∀m st',SBase a₀ st'->1<=m->m<=a₀.size->i3 (arrOf st') m->ir a₀.size (arrOf st') m->Q (some m) st'):wpS (model prog w) A E s (countRun' 0 a₀.size) Q st:=by
 rw[countRun0_eq];have s1:i3 (arrOf st) 1:=λ i j hij hj=>by omega
 refine WZ (wpS_ascLoop h0 (VQ _) (VQ 1) h1 hB s1.to λ n n1 n2 sn hor=>?_);dsimp only;have s2:=s1.more ht sn n2;by_cases hn:n=a₀.size
 . rw[VU (by simpa using hn)];exact Xw (h n st hB n1 n2 s2 (ht.up n1))
 . rw[VT (by simpa using hn)];have hl:=hor.resolve_left hn;by_cases hg:n>1
   . rw[VU hg];refine WZ (wpS_ltK hB h0 (by omega) (by omega) ?_);by_cases hr:K (arrOf st) 0<K (arrOf st) (n-1)
     . simp only[hr,ZM,Yk];exact Xw (h n st hB n1 n2 s2 (ht.up n1))
     . simp only[hr,ZA,Xd,XT];have hsz:n<=(arrOf st).size:=by rw[hB.size];exact n2
       have eqs:∀k,k<n->K (arrOf st) k=K (arrOf st) (n-1):=λ k hk=>by
        have x:=sn 0 k (by omega) hk;have y:=sn k (n-1) (by omega) (by omega);omega
       have km:=kX (xs:=arrOf st) (i:=0) (j:=n) hsz;refine WZ (wpS_reverse (zM h0 (by omega) (hB.setArr (mirror_perm _ _ _ _)) ⟨by omega,λ i j hij hj=>⟨λ hh=>by omega,λ hh=>⟨λ hj2=>?_,?_⟩⟩⟩ (mH (ht.up (by omega)) hsz (by omega)) h))
       . have hjn:j=n:=by omega
         subst hjn;show K (mirror (arrOf st) _ _ _) j<K (mirror (arrOf st) _ _ _) i;rw[(km i).1,(km j).1,VT (show¬(0<=j/\j<j) by omega),VU (by omega),eqs (0+j-1-i) (by omega)];exact hl
       . show lp (mirror (arrOf st) _ _ _) j i;unfold lp;rw[(km i).1,(km i).2,(km j).1,(km j).2,VU (show 0<=i/\i<n by omega)];by_cases hjn:j<n
         . rw[VU (by omega)];refine .inr ⟨(eqs _ (by omega)).trans (eqs _ (by omega)).symm,ht _ _ (by omega) (by omega) (by omega)⟩
         . have hjn:j=n:=by omega
           subst hjn;rw[VT (by omega),eqs (0+j-1-i) (by omega)];exact .inl hl
   . rw[VT hg];have hn1:n=1:=by omega
     subst hn1;refine zM h0 (by omega) hB ⟨by omega,λ i j hij hj=>⟨λ hh=>by omega,λ hh=>?_⟩⟩ (ht.up (by omega)) h;have hi0:i=0:=by omega
     have hj1:j=1:=by omega
     subst hi0;subst hj1;exact⟨λ _=>hl,.inl hl⟩
theorem Jz{st:SortSt}{Q:Unit->SortSt->Prop}(h0:IntKeys a₀)(hB:SBase a₀ st)(ht:ir a₀.size (arrOf st) 1)(h2:2<=a₀.size)(h64:a₀.size<64)
 (h:∀st',(arrOf st').Perm a₀->failedOf st'=none->i3 (arrOf st') a₀.size->Q () st'):wpS (model prog w) A E s sortRuns' Q st:=by
 rw[sortRuns'_eq];refine WZ (wpS_get ?_);dsimp only
 have hmr:minRun' a₀.size a₀.size 0=a₀.size:=by
  cases e:a₀.size with
  |zero=>rw[e]at h2;omega
  |succ f=>rw[minRun'_succ,VU (by omega)]
 simp only[hB.size,hmr]
 have dn:∀ {q:SortSt},SBase a₀ q->i3 (arrOf q) a₀.size->∃p,p=setPending q ((pendingOf q).push (0,a₀.size,0))/\(arrOf p).Perm a₀/\failedOf p=none/\pendingOf p= #[(0,a₀.size,0)]/\i3 (arrOf p) a₀.size:=λ{q} b s=>
  ⟨_,rfl,b.perm,b.failed,by show(pendingOf q).push _=_;rw[b.pend];rfl,s⟩
 refine WZ (wpS_mono (Zz
  (I:=λ x c q=>(x=0/\c=(none,0)/\q=st)\/(1<=x/\c=(none,a₀.size)/\(arrOf q).Perm a₀/\failedOf q=none/\pendingOf q= #[(0,a₀.size,0)]/\i3 (arrOf q) a₀.size))
  (Q:=λ c q=>c=(none,a₀.size)/\(arrOf q).Perm a₀/\failedOf q=none/\pendingOf q= #[(0,a₀.size,0)]/\i3 (arrOf q) a₀.size) ?st ?en (.inl ⟨rfl,rfl,rfl⟩)) ?po)
 case en=>
  rintro c q (⟨hx,_,_⟩|⟨_,hc,hD⟩)
  . omega
  . exact⟨hc,hD⟩
 case st=>
  rintro x c q _ hx (⟨rfl,rfl,rfl⟩|⟨_,rfl,hD⟩)
  . dsimp only;rw[VT (by omega)];simp only[aaK,aaf,Ye];refine WZ (Jf h0 (by omega) hB ht λ m q2 b1 b2 b3 b4 b5=>?_);dsimp only;by_cases hm:m<a₀.size
    . rw[VU hm];refine WZ (wpS_lift (YW ⟨rfl,?_⟩));refine WZ (Hg h0 b2 b3 b1 b4 b5 λ q3 d1 d2=>?_);simp only[Bool.not_true,Xd,XT];refine WZ (wpS_get ?_);have hb:(pendingOf q3).back?=none:=by rw[d1.pend];rfl
      rw[hb];dsimp only;obtain⟨p,rfl,z⟩:=dn d1 d2;exact WZ (wpS_modify (Xw (.inr ⟨by omega,rfl,z⟩)))
    . rw[VT hm];have hm:m=a₀.size:=by omega
      subst hm;refine WZ (wpS_get ?_);have hb:(pendingOf q2).back?=none:=by rw[b1.pend];rfl
      rw[hb];dsimp only;obtain⟨p,rfl,z⟩:=dn b1 b4;exact WZ (wpS_modify (Xw (.inr ⟨by omega,rfl,z⟩)))
  . dsimp only;rw[VU (VQ _)];exact Xw ⟨rfl,hD⟩
 case po=>
  rintro c q ⟨rfl,d1,d2,d3,d4⟩;dsimp only;refine WZ (wpS_mono (Zz (I:=λ _ c q'=>q'=q/\c=(none,())) (Q:=λ c q'=>q'=q/\c=(none,())) ?_ (λ _ _ z=>z) ⟨rfl,rfl⟩) ?_)
  . rintro x c q' _ _ ⟨rfl,rfl⟩;refine WZ (wpS_get ?_);rw[VU (by rw[d3];exact VQ 1)];exact Xw ⟨rfl,rfl⟩
  . rintro c q' ⟨rfl,rfl⟩;exact Xw (h _ d1 d2 d4)
end
end L3
namespace L2
open PySem PySem.Spec PyProof.Rows
structure Entry(K:PySem.W.Frag)(ts:List (Addr×Addr))(a:Addr)(ns:List Int)(H:Hp):Prop where
 lst:ll K H a (ns.map V.int)
 tab:∀q∈ts,H q.2=some (.jB #[])/\q.2≠a
theorem yW:∀ {vs:List Value} {ns:List Int},IntsAre vs ns->Vals (ns.map V.int) vs
 |_,_,.nil=> .nil
 |_,_,.cons n t h=> .cons ⟨t,rfl⟩ (yW h)
structure Pe(K:PySem.W.Frag)(ts:List (Addr×Addr))(h:Heap):Prop where
 hd:∀q∈ts,PySem.W.codeHdIn K q.1 q.2=true
 no:∀q∈ts,K.lookup q.2=none
 at':∀q∈ts,h.get? q.2=some (PySem.W.tabObj #[])
theorem Iv{P:Program}{w:World}{K:PySem.W.Frag}{mg mb:Str->Option Value}{k:Nat}{fa a:Addr}{fd:FuncData}{x:Str}{sp:Sp}{s₁:Shared}{vs:List Value}{ns:List Int}{ts:List (Addr×Addr)}
 (KX:K.In s₁.heap) (hns:s₁.heap.Ns mainGlobals mg) (hb:s₁.heap.Ns builtinsNs mb) (hbb:∀x:Str,x≠"__name__"->mb x=bootBuiltins x) (hlim:s₁.heap.NoLimit) (hse:s₁.heap.NoSeer) (hgt:P.given.tree=none)
 (hbm:∃bm ob,mg "__builtins__"=some (.ref bm)/\bm≠builtinsNs/\s₁.heap.get? bm=some ob/\ob.cls= .type "module"/\ob.dict=some builtinsNs/\ob.data= .plain) (hT:Pe K ts s₁.heap) (hg:s₁.gens= #[])
 (ha:s₁.heap.get? a=some {cls:= .type "list",data:= .seq vs.toArray}) (hi:IntsAre vs ns) (hl:ns.length<=sizeLine) (hr:cF k callerA)
 (F:∀base:Heap,K.In base->base.Ns mainGlobals mg->dz P w K mg base (λ _ _ _ _ _ _=>False) k fa fd [x] sp) (hbind:∀(s:Shared) (u:Value),BindsTo s fd ⟨[u],[]⟩ [(x,u)])
 (hsp:∀H:Hp,Entry K ts a ns H->sp [.ref a] H (λ v _=>v= .bl true) λ _ _ _=>False):
 codeAny (model P w) callerA (.call (.ref fa) ⟨[.ref a],[]⟩) (λ r s'=>r= .ok (.ret (.bool true))/\OldK s₁.heap s'.heap/\s'.os=s₁.os/\AllBare s'.gens) s₁:=by
 have rv:=yW hi;have lenV:=hi.length
 have nta:∀q∈ts,q.2≠a:=λ q hq z=>by
  have:=hT.at' q hq;rw[z,ha]at this;cases this
 let sc:Option HO:=match K.lookup a with
  |some _=>none
  |none=>some (.eJ {cls:= .type "list",data:= .seq vs.toArray} (.lst (ns.map V.int)))
 let H:Hp:=λ b=>if b=a then sc else if b∈ts.map (·.2)then some (.jB #[])else none
 have Ha:H a=sc:=VU rfl
 have Ht:∀q∈ts,H q.2=some (.jB #[]):=λ q hq=>by
  show(if q.2=a then sc else if q.2∈ts.map (·.2)then some (HO.jB #[])else none)=_;rw[VT (nta q hq),VU (ZJ hq)]
 have Hs:∀b u,H b=some u->(b=a/\K.lookup a=none/\u= .eJ {cls:= .type "list",data:= .seq vs.toArray} (.lst (ns.map V.int)))\/(∃q∈ts,q.2=b/\u= .jB #[]):=λ b u e=>by
  have e':(if b=a then sc else if b∈ts.map (·.2)then some (HO.jB #[])else none)=some u:=e;by_cases hba:b=a
  . rw[VU hba]at e'
    have e2:(match K.lookup a with
     |some _=>none
     |none=>some (HO.eJ {cls:= .type "list",data:= .seq vs.toArray} (.lst (ns.map V.int))))=some u:=e'
    cases q:K.lookup a with
    |some o=>rw[q]at e2;cases e2
    |none=>rw[q]at e2;cases e2;exact .inl ⟨hba,rfl,rfl⟩
  . rw[VT hba]at e';by_cases hbt:b∈ts.map (·.2)
    . rw[VU hbt]at e';cases e';obtain⟨q,hq,e⟩:=V9.mp hbt;exact .inr ⟨q,hq,e,rfl⟩
    . rw[VT hbt]at e';cases e'
 have aC:gK P w H s₁.heap:=λ b u e=>by
  rcases Hs b u e with⟨rfl,_,rfl⟩|⟨q,hq,rfl,rfl⟩
  . exact⟨ha,by rw[VO];exact hl,vs,_,rv,ha⟩
  . exact hT.at' q hq
 have hE:Entry K ts a ns H:=by
  refine⟨?_,λ q hq=>⟨Ht q hq,nta q hq⟩⟩;cases q:K.lookup a with
  |some o=>
   have e:=KX a o q;rw[ha]at e;cases e;exact .inr ⟨_,vs.toArray,_,q,rfl,rfl,rfl,by rw[V2,lenV];exact hl,by simpa using rv⟩
  |none=>
   refine .inl (.inr ⟨{cls:= .type "list",data:= .seq vs.toArray},?_⟩);rw[Ha]
   show(match K.lookup a with
    |some _=>none
    |none=>some (HO.eJ {cls:= .type "list",data:= .seq vs.toArray} (.lst (ns.map V.int))))=_
   rw[q]
 have dictNo:∀ {b:Addr} {o:Obj},s₁.heap.get? b=some o->(∀es ep,o.data≠ .seq es ep)->o.cls≠ .none->H b=none:=λ{b o} e d1 d2=>by
  cases q:H b with
  |none=>rfl
  |some u=>
   rcases Hs b u q with⟨rfl,_,_⟩|⟨t,ht,rfl,_⟩
   . rw[ha]at e;cases e;exact absurd rfl (d1 _ _)
   . rw[hT.at' t ht]at e;cases e;exact absurd rfl d2
 have nsK:∀ {b:Addr} {m:Str->Option Value},s₁.heap.Ns b m->(oE s₁.heap H).Ns b m:=λ{b m} ⟨o,es,ep,e,d,r⟩=>by
  refine⟨o,es,ep,p_ e ?_,d,r⟩;cases q:H b with
  |none=>rfl
  |some u=>
   rcases Hs b u q with⟨rfl,_,_⟩|⟨t,ht,rfl,_⟩
   . rw[ha]at e;cases e;cases d
   . rw[hT.at' t ht]at e;cases e;cases d
 have hKb:K.In (oE s₁.heap H):=λ b o e=>p_ (KX b o e) (by
  cases q:H b with
  |none=>rfl
  |some u=>
   rcases Hs b u q with⟨rfl,z,_⟩|⟨t,ht,rfl,_⟩
   . rw[z]at e;cases e
   . rw[hT.no t ht]at e;cases e)
 obtain⟨bm,ob,b1,b2,b3,b4,b5,b6⟩:=hbm;have hbmK:(oE s₁.heap H).get? bm=some ob:=p_ b3 (dictNo b3 (λ es ep z=>by rw[b6]at z;cases z) (λ z=>by rw[b4]at z;cases z))
 have seK:(oE s₁.heap H).NoSeer:=by
  obtain⟨⟨m1,a1,a2⟩,⟨m2,c1,c2⟩,⟨m3,d1,d2⟩,⟨mg',bm',ob',e1,e2,e3,e4,e5⟩⟩:=hse;refine⟨⟨m1,nsK a1,a2⟩,⟨m2,nsK c1,c2⟩,⟨m3,nsK d1,d2⟩,⟨mg',bm',ob',nsK e1,e2,p_ e3 ?_,e4,e5⟩⟩;cases q:H bm' with
  |none=>rfl
  |some u=>
   rcases Hs bm' u q with⟨rfl,_,_⟩|⟨t,ht,rfl,_⟩
   . rw[ha]at e3;cases e3;exact absurd (show Value.type "list"=Value.type "module" from e4) (by intro z;injection z with z;exact absurd z (by decide))
   . rw[hT.at' t ht]at e3;cases e3;cases e4
 have hM:Mod K mg (oE s₁.heap H):=⟨hKb,nsK hns,⟨mb,nsK hb,hbb⟩,let⟨mc,h1,h2⟩:=hlim;⟨mc,nsK h1,h2⟩,seK,⟨bm,ob,b1,b2,hbmK,b4,b5,b6⟩⟩
 have e0:vV P w K mg (oE s₁.heap H) callerA [] s₁ H:=⟨rfl,hM,λ b o e=>OT e,Zp (HS _ _),trivial,λ b hb=>absurd (show b∈([]:List Addr)from hb) (by simp),aC,.of_eq hg,hgt⟩
 refine aac ((F _ hKb (nsK hns)).run callerA [] s₁ H ⟨[.ref a],[]⟩ [.ref a] [.ref a] _ _ hr e0 (hbind s₁ (.ref a)) (.cons rfl .nil) (hsp H hE)) λ r s' h=>?_;cases r with
 |error e=>exact False.elim h
 |ok fl=>
  cases fl with
  |next=>exact False.elim h
  |brk=>exact False.elim h
  |cont=>exact False.elim h
  |ret u=>
   obtain⟨v,H',os,bare,un,hok',r',q⟩:=h;have q':v= .bl true:=q;subst q';obtain rfl:u=Value.bool true:=r';have noF:∀b:Addr,b∉pA ([]:List Env):=λ b z=>absurd (show b∈([]:List Addr)from z) (by simp);refine⟨rfl,⟨λ b o e=>?_,λ b o e=>un.there b o e (by simp)⟩,os,bare⟩;cases q:H b with
   |none=>exact .inl (un.keep b o e q (noF b) (by simp))
   |some u=>
    rcases Hs b u q with⟨rfl,_,rfl⟩|⟨t,ht,rfl,rfl⟩
    . obtain⟨e2,_⟩:=hok' b _ (un.nA b _ _ q);rw[ha]at e;cases e;exact .inl e2
    . obtain⟨more,e1⟩:=un.nM _ _ q;have e2:s'.heap.get? t.2=some {cls:= .none,data:= .fields (#[]++more)}:=hok' _ _ e1;have e3:=hT.at' t ht;rw[e3]at e;cases e;have C:PySem.W.CodeHd s₁.heap t.1 t.2:=PySem.W.codeHd_of_K KX (hT.hd t ht);exact .inr (.inl ⟨(C.tab e3).isCodeTable,rfl,#[],more,rfl,e2⟩)
theorem RX{l:PySem.W.OpenLaw}{n k:Nat}{q:Program}{loose:List Str}{XP:(Str->Option Value)->Heap->Prop}{YP:World->Heap->Prop}{d:DefRec}{K:Params->PySem.W.Frag}{sp:World->Sp}{x:Str}{ts:List (Addr×Addr)}
 (hn:l.most=some n) (hn2:n<=sizeLine) (hdf:d.params.defaults=[]) (hr:cF k callerA) (hq:importsNone q=true) (hgt:l.prog.given.tree=none)
 (hY:∀(w:World) (h:Heap),YP w h->(K w.params).In h/\Pe (K w.params) ts h)
 (F:∀(w:World) (mg:Str->Option Value) (fa:Addr) (h:Heap),(K w.params).In h->h.Ns mainGlobals mg->mg d.name=some (.ref fa)->
   ∃fd:FuncData,(∀(s:Shared) (u:Value),BindsTo s fd ⟨[u],[]⟩ [(x,u)])/\
    ∀base:Heap,(K w.params).In base->base.Ns mainGlobals mg->dz l.prog w (K w.params) mg base (λ _ _ _ _ _ _=>False) k fa fd [x] (sp w))
 (hsp:∀(w:World) (H:Hp) (a:Addr) (ns:List Int),ns.length<=n->Entry (K w.params) ts a ns H->sp w [.ref a] H (λ v _=>v= .bl true) λ _ _ _=>False):
 PySem.W.WalkO q loose XP YP l.row.toRowW d [] (λ f vs=>PySem.call f vs):=by
 refine Att.DJ hn hdf λ w s₀ s₁ mg mb fa o pm cd doc a vs ns G Y ho hd hcd hmg hobj hints hlen hg=>?_;obtain⟨KX,hT⟩:=hY w _ Y;obtain⟨fd,hb,hF⟩:=F w mg fa _ KX G.T.g hmg;exact Iv KX G.T.g G.T.b G.T.builtins G.T.nolimit (G.T.seer hq) hgt G.T.bmain hT hg hobj hints (VX hlen hn2) hr hF hb λ H hE=>hsp w H a ns hlen hE
end L2
namespace L3
open PySem PySem.Spec L2
open PyProof.Rows hiding St
section
variable {X:Cx}{pins:List (Addr×Obj)}{σ:L2.St}{H:Hp}{s:Shared}{p:Addr}{o o':Obj}{h':Heap}
theorem j_(I:Inv X pins σ H s)(hd:∀v,o.data≠ .cell v)(hfr:o.isFreed=false:=by rfl):Inv X (pins++[(s.heap.objs.size,o)]) σ H {s with heap:=s.heap.push o,toks:=t'}:=by
 have I':=I.kept (h':=s.heap.push o) (t':=t') (λ b u e=>VY _ e);refine I'.um λ q hq=>?_;rcases Wf.mp hq with hq|hq
 . exact I'.pin q (Wo _ hq)
 . have e:q=(s.heap.objs.size,o):=by simpa using hq
   subst e;exact⟨Wq _ hfr,I.aC.fresh (VQ _),X_ I.lt,I.Q1 (VQ _),hd⟩
theorem fx(I:Inv X (pins++[(p,o)]) σ H s):s.heap.get? p=some o/\H p=none/\p≠X.env.locals/\p∉X.fs/\∀v,o.data≠ .cell v:=
 I.pin (p,o) (Wo _ (Wo _ (Wk.mpr rfl)))
theorem CF(I:Inv X (pins++[(p,o)]) σ H s):∀x c,X.env.cells.lookup x=some c->c≠p:=λ x c e z=>by
 obtain⟨v,u,hu,hd⟩:=I.cell x c e;obtain⟨h1,_,_,_,h5⟩:=fx I;rw[z,h1]at hu;cases hu;exact h5 v hd
theorem nB(I:Inv X (pins++[(p,o)]) σ H s)(hs:Heap.SameBut p s.heap h')(hn:h'.get? p=some o')(hd:∀v,o'.data≠ .cell v)(h0:X.s₀.heap.objs.size<=p)(hp:∀q∈X.pn++pins,q.1≠p):
 Inv X (pins++[(p,o')]) σ H {s with heap:=h',toks:=t'}:=by
 obtain⟨_,n,neL,nfs,_⟩:=fx I;have I0:Inv X pins σ H s:=I.gG;have I1:=I0.turned (t':=t') (h':=h') (it:=p) (λ b u hb e=>(hs.2 b hb).trans e) n neL (.inr h0) (CF I) hp;refine I1.um λ q hq=>?_;rcases Wf.mp hq with hq|hq
 . exact I1.pin q (Wo _ hq)
 . have e:q=(p,o'):=by simpa using hq
   subst e;exact⟨hn,n,neL,nfs,hd⟩
theorem G_(I:Inv X (pins++[(p,o)]) σ H s)(h0:X.s₀.heap.objs.size<=p)(hp:∀q∈X.pn++pins,q.1≠p)(new:cX X.prog X.w (upd H p u) s.heap p u):Inv X pins σ (upd H p u) s:=by
 obtain⟨e0,n,neL,nfs,_⟩:=fx I;have ne:∀ {b:Addr} {w:HO},H b=some w->b≠p:=λ e=>cV e n;have ne0:∀ {b:Addr} {w:Obj},X.s₀.heap.get? b=some w->b≠p:=λ e=>Wy (Wj (Wd e) h0);refine⟨I.ok,I.os,I.bare,⟨I.base.keep,I.base.slot,λ b w e q hx=>?_,I.base.there,λ b xs e=>?_,λ b w y e=>?_,λ b ps e=>?_⟩,I.loc,I.cell,?_,λ x c e=>?_,λ q hq=>?_,λ b w e=>?_,I.len⟩
 . rw[ay (ne0 e)];exact I.base.free b w e q hx
 . have:=I.base.oM b xs e;rw[ay (ne this)];exact this
 . have:=I.base.nA b w y e;rw[ay (ne this)];exact this
 . obtain⟨m,q⟩:=I.base.nM b ps e;exact⟨m,by rw[ay (ne q)];exact q⟩
 . rw[ay (V6 neL)];exact I.free
 . rw[ay (CF I x c e)];exact I.hJ x c e
 . have hq':q∈X.pn++(pins++[(p,o)]):=by
    rcases Wf.mp hq with z|z
    . exact W5 _ z
    . exact Wo _ (W5 _ z)
   obtain⟨a1,a2,a3⟩:=I.pin q hq';exact⟨a1,by rw[ay (hp q hq)];exact a2,a3⟩
 . by_cases hb:b=p
   . subst hb;rw[aS]at e;cases e;exact new
   . rw[ay hb]at e;exact(I.aC b w e).ot (λ _ _ _ q=>q) (λ c q=>by rw[ay (ne q)];exact q) λ c xs q=>by rw[ay (ne q)];exact q
end
def md(X:Cx)(pins:List (Addr×Obj))(σ:L2.St)(R:Hp->Prop)(own:List (Addr×Obj))(s:Shared):Prop:=∃H,Inv X (pins++own) σ H s/\R H
section
variable {X:Cx}{pins:List (Addr×Obj)}{σ:L2.St}{R:Hp->Prop}{s:Shared}{A:Around}{E:Value->Shared->Prop}{a kS:Addr}{e1 e:Nat}{keys:Array Value}{P:PySem.Fin->Shared->Prop}
structure Own(X:Cx)(pins:List (Addr×Obj))(p:Addr):Prop where
 ge:X.s₀.heap.objs.size<=p
 ne:∀q∈X.pn++pins,q.1≠p
theorem uA(I:Inv X pins σ H s):Own X pins s.heap.objs.size:=⟨I.sz,λ q hq=>Wy (Wd (I.pin q hq).1)⟩
theorem AZ(h:Own X pins p)(hq:q.1≠p):Own X (pins++[q]) p:=⟨h.ge,λ r hr=>by
 rcases Wf.mp hr with z|z
 . exact h.ne r (W5 _ z)
 . rcases Wf.mp z with z|z
   . exact h.ne r (Wo _ z)
   . have e:r=q:=by simpa using z
     rw[e];exact hq⟩
theorem Cs(J:md X pins σ R [x,y] s):∃H,Inv X ((pins++[x])++[y]) σ H s/\R H:=by
 obtain⟨H,I,r⟩:=J;exact⟨H,by rw[XO];exact I,r⟩
theorem Hc(I:Inv X ((pins++[x])++[y]) σ H s)(r:R H):md X pins σ R [x,y] s:=⟨H,by rw[XO]at I;exact I,r⟩
theorem BD{st:SortSt}(J:md X pins σ R [(a,seqObj "list" #[] e1),(kS,seqObj "list" keys e)] s)(ha:Own X pins a)(hk:Own X pins kS)(hka:kS≠a)(hz1:keys.size<=sizeLine)(hz2:(arrOf st).size<=sizeLine)(hf:failedOf st=none)
 (h:∀s' c,md X pins σ R [(a,seqObj "list" ((arrOf st).map (·.2)) c)] s'->P (.done (.ret .none)) s'):
 wpAny (model X.prog X.w) A (PyProof.Rows.ksk_tail a false e1 (.ref kS) st) P E s:=by
 obtain⟨H,I,r⟩:=Cs J;have k1:=(fx I).1;have s1:=XB s.heap kS (Obj.mapSeq λ _=>(#[]:Array Value));have I1:=nB (t':=s.toks) I s1 (YL k1 λ _=> #[]) (λ v z=>by cases z) hk.ge (AZ hk hka.symm).ne;have I2:Inv X (pins++[(a,seqObj "list" #[] e1)]) σ H {s with heap:=s.heap.update kS (Obj.mapSeq λ _=>(#[]:Array Value)),toks:=s.toks}:=I1.gG;have a1:=(fx I2).1;have s2:=XB (s.heap.update kS (Obj.mapSeq λ _=>(#[]:Array Value))) a (Obj.mapSeq λ _=>(arrOf st).map (·.2));have I3:=nB (t':=s.toks) I2 s2 (YL a1 λ _=>(arrOf st).map (·.2)) (λ v z=>by cases z) ha.ge ha.ne;unfold ksk_tail;simp only[Xd,XT];refine VR (ZV k1 rfl ?_ hz1 (Wg _));refine VR (aas ?_);refine VR (seqEpoch_at a1 rfl ?_);refine VR (ZV a1 rfl ?_ (Wg _) (Nat.le_succ_of_le (by rw[Array.size_map];exact hz2)));rw[hf];simp only[bne_self_eq_false,Xd,XT];exact V8 (h _ _ ⟨H,I3,r⟩)
def Gg(kz:List Int)(vs out:List Value):Prop:=
 ∃ps:List (Int×Value),ps.Perm (kz.zip vs)/\out=ps.map Prod.snd/\ps.Pairwise λ p q=>p.1<q.1\/(p.1=q.1/\numOf p.2<numOf q.2)
theorem Ej(hk:IntsAre keys.toList kz)(hp:xs.Perm (keys.zip vs.toArray))(hs:i3 xs xs.size):Gg kz vs (xs.map (·.2)).toList:=by
 have hl:xs.toList.Perm (keys.toList.zip vs):=by rw[<-ksk_zip];exact Array.perm_iff_toList_perm.mp hp
 refine⟨xs.toList.map λ p=>(numOf p.1,p.2),?_,?_,?_⟩
 . have e2:(keys.toList.zip vs).map (λ p:Keyed=>(numOf p.1,p.2))=kz.zip vs:=by
    rw[<-hk.nums,List.zip_map_left];exact WU λ⟨x,y⟩ _=>rfl
   rw[<-e2];exact hl.map _
 . rw[Array.toList_map,WB];rfl
 . rw[aab];intro i j hi hj hij;have hi':i<xs.size:=by simpa using hi
   have hj':j<xs.size:=by simpa using hj
   have q:=hs i j hij hj';unfold lp Jn at q;rw[K_eq hi',K_eq hj',getElem?_pos xs i hi',getElem?_pos xs j hj']at q;simpa using q
theorem OF{kz:List Int}{vs:List Value}(J:md X pins σ R [(a,seqObj "list" #[] e1),(kS,seqObj "list" keys e)] s)(ha:Own X pins a)(hk:Own X pins kS)(hka:kS≠a)(hi:IntsAre keys.toList kz)(hl:kz.length=vs.length)(h64:vs.length<64)
 (hup:vs.Pairwise λ x y=>numOf x<numOf y)
 (h:∀s' out c,md X pins σ R [(a,seqObj "list" out c)] s'->Gg kz vs out.toList->P (.done (.ret .none)) s'):
 wpAny (model X.prog X.w) A (ksk_end a false vs.toArray e1 (.ref kS) keys) P E s:=by
 have hsz:keys.size=vs.length:=by have:=hi.length;rw[Xg]at this;omega
 have hzs:(keys.zip vs.toArray).size=vs.length:=by rw[Array.size_zip,hsz,V2,aaf]
 have hbig:vs.length<=sizeLine:=VX (W2 h64) (by decide)
 have hta:ir (keys.zip vs.toArray).size (keys.zip vs.toArray) 1:=λ i j hij _ hj=>by
  rw[hzs]at hj
  have e1:(keys.zip vs.toArray)[i]?=some (keys.toList[i]'(by rw[Xg];omega),vs[i]'(by omega)):=by
   rw[<-Zh,ksk_zip,V0 (by rw[aap,Xg];omega),List.getElem_zip]
  have e2:(keys.zip vs.toArray)[j]?=some (keys.toList[j]'(by rw[Xg];omega),vs[j]'(by omega)):=by
   rw[<-Zh,ksk_zip,V0 (by rw[aap,Xg];omega),List.getElem_zip]
  unfold Jn;rw[e1,e2];exact aab.mp hup i j (by omega) (by omega) hij
 unfold ksk_end;simp only[Xd,XT];by_cases h2:vs.toArray.size<2
 . rw[VU h2,VU h2];refine VR (V8 ?_);rw[StateT.run_pure];refine VR (V8 ?_);refine BD (st:=SortSt.mk' general' (keys.zip vs.toArray) #[] 7 none) J ha hk hka (by omega) (by show(keys.zip vs.toArray).size<=_;omega) rfl λ s' c J'=>h s' _ c J' ?_;refine Ej hi (Array.Perm.refl _) λ i j hij hj=>?_;have hj':j<(keys.zip vs.toArray).size:=hj;rw[V2]at h2;omega
 . rw[VT h2,VT h2];rw[V2]at h2;rw[ksk_kind hi (by omega)];refine VR (V8 ?_)
   refine VR (XC (Jz (a₀:=keys.zip vs.toArray) (st:=SortSt.mk' oneType' (keys.zip vs.toArray) #[] 7 none)
    (Q:=λ _ st'=>(arrOf st').Perm (keys.zip vs.toArray)/\failedOf st'=none/\i3 (arrOf st') (keys.zip vs.toArray).size)
    (ksk_intKeys hi) ⟨Array.Perm.refl _,rfl,rfl,rfl⟩ hta (by omega) (by omega) λ st' b1 b2 b3=>⟨b1,b2,b3⟩) ?_ λ _ _ z=>z)
   rintro⟨⟨⟩,st'⟩ s' ⟨rfl,hp,hf,hs⟩;have hz2:=hp.size_eq;refine BD (st:=st') J ha hk hka (by omega) (by rw[hz2];omega) hf λ s' c J'=>h s' _ c J' (Ej hi hp (by rw[hz2];exact hs))
theorem KH(J:md X pins σ R [(a,seqObj "list" #[] e1),(kS,seqObj "list" #[] 0)] s)(ha:Own X pins a)(hk:Own X pins kS)(hka:kS≠a)(hl:kz.length=vs.length)(h64:vs.length<64)
 (hup:vs.Pairwise λ x y=>numOf x<numOf y)
 (turn:∀(i:Nat) (v:Value) (k:Int),vs[i]?=some v->kz[i]?=some k->∀(own:List (Addr×Obj)) (s:Shared),md X pins σ R own s->wpAny (model X.prog X.w) A (call f [v]) (λ u s'=>(∃t,u= .int k t)/\md X pins σ R own s') (λ _ _=>False) s)
 (h:∀s' out c,md X pins σ R [(a,seqObj "list" out c)] s'->Gg kz vs out.toList->P (.done (.ret .none)) s'):
 wpAny (model X.prog X.w) A (ksk_rest a f false vs.toArray e1 (.ref kS)) P E s:=by
 have hbig:vs.length<=sizeLine:=VX (W2 h64) (by decide);unfold ksk_rest;refine VR (YW ?_)
 first
  |rw[List.forIn_toArray]
  |(rw[<-Array.forIn_toList];simp only[List.toList_toArray])
  |rw[<-Array.forIn_toList]
 refine VR (ksk_fold (λ i s'=>∃kA e,md X pins σ R [(a,seqObj "list" #[] e1),(kS,seqObj "list" kA e)] s'/\IntsAre kA.toList (kz.take i)) vs 0 s ⟨#[],0,J,by simpa using IntsAre.nil⟩ ?st ?en)
 case st=>
  rintro j x s' hx ⟨kA,e,J',hk'⟩;simp only[Ye]at hk'⊢;have hj:j<vs.length:=(VV.mp hx).1;have hkj:kz[j]?=some (kz[j]'(by omega)):=V0 _
  have hz:kA.size<=vs.length:=by
   have:=hk'.length;rw[Xg,Wl]at this;omega
  refine VR (ZU (XC (turn j x _ hx hkj _ s' J') (λ v s2 he=>?_) λ _ _ z=>z.elim));obtain⟨⟨t,rfl⟩,J2⟩:=he;obtain⟨H,I,r⟩:=Cs J2;have k1:=(fx I).1;have s1:=XB s2.heap kS (Obj.mapSeq (·.push (.int (kz[j]'(by omega)) t)));have I1:=nB (t':=s2.toks) I s1 (YL k1 (·.push (.int (kz[j]'(by omega)) t))) (λ v z=>by cases z) hk.ge (AZ hk hka.symm).ne;refine VR (ZV k1 rfl ?_ (by omega) (VX (Zp (Array.size_push ..)) (by omega)));refine V8 ⟨rfl,_,_,Hc I1 r,?_⟩;have ek:kz.take (j+1)=kz.take j++[kz[j]'(by omega)]:=by rw[List.take_add_one,hkj];simp
  rw[ek,Array.toList_push];exact ksk_snoc hk'
 case en=>
  rintro s' ⟨kA,e,J',hk'⟩;rw[show kz.take (0+vs.length)=kz from Xo (by omega)]at hk';obtain⟨H,I,r⟩:=Cs J';refine VR (listItems_at (fx I).1 rfl ?_);exact OF J' ha hk hka hk' hl h64 hup h
theorem GY(I:Inv X pins σ H s)(r:R H)(hli:s.heap.IsList l vs.toArray)(hl:kz.length=vs.length)(h64:vs.length<64)
 (hup:vs.Pairwise λ x y=>numOf x<numOf y)
 (turn:∀(i:Nat) (v:Value) (k:Int),vs[i]?=some v->kz[i]?=some k->∀(own:List (Addr×Obj)) (s:Shared),md X pins σ R own s->wpAny (model X.prog X.w) A.in1.in1 (call (.ref f) [v]) (λ u s'=>(∃t,u= .int k t)/\md X pins σ R own s') (λ _ _=>False) s)
 (h:∀D s' out c,Own X pins D->md X pins σ R [(D,seqObj "list" out c)] s'->Gg kz vs out.toList->Q (.ref D) s'):
 wpAny (model X.prog X.w) A (call (.builtin "sorted") [.ref l] [(Str.ofString "key",.ref f)]) Q E s:=by
 have hbig:vs.length<=sizeLine:=VX (W2 h64) (by decide);refine call_function_entry_kw kind_sorted plain_sorted entry_sorted (ksk_s1 _ _) ?_;unfold Builtin.«sorted»;refine VR (m:=checkCount "sorted" 1 1 _) (V8 ?_);refine VR (collect_list hli ?_ hbig);have I1:=j_ (o:=seqObj "list" #[] 0) (t':=s.toks) I (λ v z=>by cases z);have s1:=XB (s.heap.push (seqObj "list" #[] 0)) s.heap.objs.size (Obj.mapSeq (· ++vs.toArray));have I2:=nB (t':=s.toks) I1 s1 (YL (fx I1).1 (· ++vs.toArray)) (λ v z=>by cases z) (uA I).ge (uA I).ne;have I3:Inv X pins σ H {s with heap:=(s.heap.push (seqObj "list" #[] 0)).update s.heap.objs.size (Obj.mapSeq (· ++vs.toArray)),toks:=s.toks}:=I2.gG;refine VR (wpAny_newList ?_ hbig);generalize hs3:({s with heap:=(s.heap.push (seqObj "list" #[] 0)).update s.heap.objs.size (Obj.mapSeq (· ++vs.toArray))}:Shared)=s3;have I3':Inv X pins σ H s3:=by rw[<-hs3];exact I3
 have oD:=uA I3';have I4:=j_ (o:=seqObj "list" vs.toArray 0) (t':=s3.toks) I3' (λ v z=>by cases z);have hD:=(fx I4).1;refine VR (Yr (wpAny_call_entry_kw slot_list_sort ⟨_,hD,rfl⟩ entry_list_sort ?body (ksk_l1 _ _)))
 case body=>
  show wpAny (model X.prog X.w) A.in1.in1 (Builtin.«list.sort» ⟨[.ref s3.heap.objs.size],[(Str.ofString "key",.ref f)]⟩) _ _ _;rw[ksk_t1];unfold ksk_tree;refine VR (listItems_at hD rfl ?_);have s5:=XB (s3.heap.push (seqObj "list" vs.toArray 0)) s3.heap.objs.size (Obj.mapSeq λ _=>(#[]:Array Value));have I5:=nB (t':=s3.toks) I4 s5 (YL hD λ _=> #[]) (λ v z=>by cases z) oD.ge oD.ne;have hD5:=(fx I5).1;refine VR (ZV hD rfl ?_ (by rw[V2];exact hbig) (Wg _));refine VR (seqEpoch_at hD5 rfl ?_);refine VR (wpAny_newTuple ?_ (by show vs.length<=_;exact hbig));have I6:=(j_ (o:=seqObj "tuple" vs.toArray 0) (t':=s3.toks) I5 (λ v z=>by cases z)).gG;refine VR (wpAny_newList ?_ (Wg _));have ok:=uA I6;have I7:=j_ (o:=seqObj "list" #[] 0) (t':=s3.toks) I6 (λ v z=>by cases z);refine Yr ?_
  have okp:Own X pins _:=⟨ok.ge,λ q hq=>ok.ne q (by
   rcases Wf.mp hq with z|z
   . exact W5 _ z
   . exact Wo _ (W5 _ z))⟩
  refine KH (Hc I7 r) oD okp (λ z=>ok.ne (s3.heap.objs.size,_) (Wo _ (Wo _ (Wk.mpr rfl))) z.symm) hl h64 hup turn λ s' out c J' so=>⟨_,rfl,?_⟩
  exact V8 ⟨_,rfl,h _ s' out c oD J' so⟩
end
structure mv(X:Cx)(scope:Scope)(Nc:List Str)(fr:List (Option Nat))(p:Str):Prop where
 sc:cA X scope Nc fr
 Jp:∀x∈scope.names,x.2≠ .cell
 co:scope.isCoroutine=false
 gen:scope.isGenerator=false
 p0:Nc[0]?=some p
 f0:fr[0]?=some none
 loc:scope.names.lookup p=some .local
abbrev Gh(X:Cx)(scope:Scope)(qual:Str)(f c:Addr)(s:Shared):Env:=PySem.W.envX qual scope s.heap.objs.size f (.ref c) (cS X.env.cells scope.names [])
def IG(X:Cx)(scope:Scope)(Nc:List Str)(qual:Str)(f c:Addr)(s:Shared)(H:Hp):Cx:=
 {X with A:=X.A.in1.in1.deeper (Gh X scope qual f c s),N:=Nc,s₀:=s,H₀:=H,env:=Gh X scope qual f c s,outer:=X.stack,stack:=Gh X scope qual f c s::X.stack,ex:=[],fn:=λ _=>false,calm:=true,pn:=[],xe:=λ _ _=>False}
section
variable {X:Cx}{scope:Scope}{Nc:List Str}{fr:List (Option Nat)}{p qual:Str}{f c:Addr}{pins:List (Addr×Obj)}{σ:L2.St}{H:Hp}{s:Shared}
theorem Q_(S:mv X scope Nc fr p)(I:Inv X pins σ H s)(hc:X.calm=true):(IG X scope Nc qual f c s H).Ok where
 mod:=I.ok.mod
 kind:=S.sc.kind
 glob:=rfl
 blt:=rfl
 above:=VQ _
 inj:=λ x y a h1 h2=>I.ok.inj x y a (cL _ [] (λ _ _ e=>by cases e) x a h1) (cL _ [] (λ _ _ e=>by cases e) y a h2)
 has:=λ x hx=>by
  have hx':scope.names.lookup x=some .cell\/scope.names.lookup x=some .free:=hx;rcases hx' with hx|hx
  . exact absurd rfl (S.Jp _ (WN hx))
  . exact iq scope.names [] (I.ok.has x (S.sc.free _ (WN hx) rfl)) (.inl (WN hx))
 Ct:=λ x a hf _=>by cases hf
 hd:=λ _=>I.ok.hd hc
 frames:=Around.frames_deeper (by show X.A.frames=_;exact I.ok.frames)
 D_:= .inr ⟨rfl,rfl⟩
 Jg:=λ b hb=>by cases hb
 bs:=I.bs
 rO:=VX I.ok.rO I.sz
 vU:=λ b o e hb=>by cases hb
 vt:=λ b hb=>by cases hb
 jQ:=I.stack
 wO:=I.yz
 gt:=I.ok.gt
theorem NI(S:mv X scope Nc fr p)(I:Inv X pins σ H s)(hc:X.calm=true)(r:RelV v u)(hn:h'.Ns s.heap.objs.size (λ x=>[(p,u)].reverse.lookup x))
 (k:∀b o,s.heap.get? b=some o->h'.get? b=some o):Inv (IG X scope Nc qual f c s H) [] ((σC fr σ).set 0 (some v)) H {s with heap:=h',toks:=t'} where
 ok:=Q_ S I hc
 os:=rfl
 bare:=I.bare
 base:=Un.kept k
 loc:=⟨_,hn,λ i x w h1 h2 h3=>by
  by_cases hi:i=0
  . subst hi;have hp:=S.p0;have e:p=x:=WQ (hp.symm.trans h1);subst e
    have hl:0<(σC fr σ).length:=by
     have:=(VV.mp h2).1;rw[Wb]at this;exact this
    rw[V7 hl]at h2;cases h2;exact⟨u,r,.inl ⟨S.loc,by simp⟩⟩
  . rw[VW (V6 hi)]at h2;obtain⟨j,q1,q2⟩:=ER h2;obtain⟨n1,n2,n3⟩:=S.sc.map i j x h1 q1;obtain⟨m,hm,hl⟩:=I.loc;obtain⟨u',r',lk⟩:=hl j x w n1 q2 (n3.elim (λ z=> .inr (.inl z)) λ z=> .inr (.inr z));refine⟨u',r',?_⟩;rcases lk with⟨z,_⟩|⟨_,a,e,ic⟩
    . rcases n3 with y|y<;>(rw[y]at z;cases z)
    . obtain⟨a',e'⟩:=iq scope.names [] ⟨a,e⟩ (.inl (WN n2));have e2:=cL _ [] (λ _ _ e=>by cases e) x a' e';rw[e]at e2;cases e2;exact .inr ⟨.inr n2,a,e',ic.keeps k⟩⟩
 cell:=λ x a h=>by
  obtain⟨v,q⟩:=I.cell x a (cL _ [] (λ _ _ e=>by cases e) x a h);exact⟨v,q.keeps k⟩
 free:=I.aC.fresh (VQ _)
 hJ:=λ x a h=>I.hJ x a (cL _ [] (λ _ _ e=>by cases e) x a h)
 pin:=λ q hq=>by cases hq
 aC:=I.aC.kept k
 len:=by rw[Wb];unfold σC;rw[VO];exact S.sc.len
theorem KS{k:Int}(S:mv X scope Nc fr p)(hc:X.calm=true)(hr:X.A.depth<recursionLimit)
 (hb:∀(s:Shared) (H:Hp),PE (IG X scope Nc qual f c s H) body tb)
 (hbind:∀(cl:List (Str×Addr)) (pm cd ct v:Value),bindArgs (PySem.W.kla_fn "<lambda>" qual params body scope cl pm cd ct) ⟨[v],[]⟩=pure [(p,v)])
 (r:RelV v u) (hf:(f,PySem.W.kla_obj "<lambda>" qual params body scope (cS X.env.cells scope.names []) pm c ctv)∈pins)
 (hcr:∀(H:Hp) (s:Shared),Inv X (pins++own) σ H s->R H->s.heap.CodeRec (.ref c) qual)
 (hq:∀H,R H->tb ((σC fr σ).set 0 (some v)) H λ x H'=>x= .int k/\R H') (J:md X pins σ R own s):
 wpAny (model X.prog X.w) X.A.in1.in1 (call (.ref f) [u]) (λ u' s'=>(∃t,u'= .int k t)/\md X pins σ R own s') (λ _ _=>False) s:=by
 obtain⟨H,I,rH⟩:=J;have ho:=(I.pin _ (Wo _ (W5 _ hf))).1;refine wpAny_call (PySem.W.kla_callFunE (fd:=PySem.W.kla_fn "<lambda>" qual params body scope (cS X.env.cells scope.names []) pm (.ref c) ctv) (by show X.A.depth<_;exact hr) ho rfl S.co S.gen rfl (hcr H s I rH) ?_);rw[hbind]
 refine V8 (wpAny_newFunctionEnv S.Jp (λ y hy=>by
  have e:y=(p,u):=by simpa using hy
  rw[e];exact S.loc) (λ h₁ hns hsb=>?_) S.sc.kind)
 have hk:∀b o,s.heap.get? b=some o->h₁.get? b=some o:=λ b o e=>hsb.extBut b o (Wy (Wd e)) (VY _ e);refine⟨I.nolimit.keeps hk,?_⟩;show codeAny _ X.A.in1.in1 (.expr body (Gh X scope qual f c s)) _ _;refine PySem.W.kla_codeExpr (XC (hb s H [] _ _ H _ (NI S I hc r hns hk) (hq H rH)) (λ w s' he=>?_) λ e s' z=>False.elim z);obtain⟨x,H',I',rx,rfl,rH'⟩:=he;exact⟨rx,H',I.GJ (s':=s') (ch:=[]) I'.os I'.base I'.aC I'.bare (λ b z=>absurd z (by simp)),rH'⟩
theorem set_same{α:Type}:∀ {l:List α} {n:Nat} {x:α},l[n]?=some x->l.set n x=l
 | [],n,x,h=>by simp at h
 |a::l,0,x,h=>by simp at h;subst h;rfl
 |a::l,n+1,x,h=>by
  rw[List.set_cons_succ,set_same (n:=n) (by simpa using h)]
theorem K0{params:Arguments}{body:Expr}{lpos:Pos}{c0 T:Addr}{α:List (Option Addr)}{G F:Hp}{st:ae}{n0:Nat}{b:Bool}{E:Value->Shared->Prop}{Q:Value->Shared->Prop}(S:mv X scope Nc fr p)(hcode:X.env.code= .ref c0)(hC:PySem.W.codeHdIn X.K c0 T=true)
 (hdef:defaultsOf params X.env=([],[])) (hql:X.env.qual++"<lambda>"=qual) (I:Inv X pins σ H s) (Sp:bQ G F H) (SR:aJ α st G) (hn0:st[n0]?=some (.tab T lpos qual b))
 (h:∀(f c:Addr) (ctv pm:Value) (G2 H2:Hp) (s2:Shared),Inv X (pins++[(f,PySem.W.kla_obj "<lambda>" qual params body scope (cS X.env.cells scope.names []) pm c ctv)]) σ H2 s2->Step α G α G2->bQ G2 F H2->aJ α (st.set n0 (.tab T lpos qual true)) G2->
   (some c∉α/\∃o vs t,G2 c=some (.eJ o (.own c))/\o.data= .fields vs/\vs[1]?=some (.str qual t))->Q (.ref f) s2):
 wpAny (model X.prog X.w) X.A (eval (.Lambda params body scope lpos) X.env) Q E s:=by
 refine PySem.W.kla_eval hdef ?_;rw[hql];rcases SR.at' n0 _ hn0 with⟨z,_⟩|⟨a,ha,rfl,ps,gP,tr,cs⟩
 . cases z
 have hP:=I.aC a _ (Sp.get gP);have hP:s.heap.get? a=some (PySem.W.tabObj ps):=hP;have hg:s.heap.Ns mainGlobals X.mg:=I.mod.glob.keeps I.bk;obtain⟨bm,ob,b1,b2,b3,b4,b5,b6⟩:=I.mod.bmain;have b3':=I.bk _ _ b3
 have hgP:mainGlobals≠a:=λ q=>by
  obtain⟨o,es,ep,e,hd,_⟩:=hg;rw[q,hP]at e;cases e;cases hd
 have n1:bm≠mainGlobals:=λ q=>by
  obtain⟨o,es,ep,e,hd,_⟩:=hg;rw[q,e]at b3';cases b3';rw[hd]at b6;cases b6
 have n2:bm≠a:=λ q=>by rw[q,hP]at b3';cases b3';cases b4
 have hB:s.heap.BuiltinsAt X.mg a:=⟨bm,ob,b1,b2,n1,n2,b3',b4,b5,b6⟩
 have hcl:closureFor scope X.env=pure (cS X.env.cells scope.names []):=lE λ x hx hk=>I.ok.has x.1 (S.sc.free x hx hk);have C:PySem.W.CodeHd s.heap c0 a:=PySem.W.codeHd_of_K I.gu hC;rcases cs with⟨rfl,hnf⟩|⟨rfl,c,o,vs,t,q1,q2,q3,q4,q5⟩
 . refine PySem.W.kla_makeFunction hcl I.ok.glob hg hcode C hP tr hnf hgP hB λ c' ctv h' tk hx hge hlt hrec htb=>?_;obtain⟨c2,oc,vs,t,e2,hoc,hd,hv⟩:=hrec;cases e2;have hHc:H c'=none:=I.aC.fresh hge;have hGc:G c'=none:=(Sp.none hHc).1;have hHa:H a=some (.jB ps):=Sp.get gP;have hac:a≠c':=cV hHa hHc
   let ps':=ps++ #[rawInt lpos.line,rawInt lpos.col,.ref c']
   have nb:∀ {b:Addr},H b=none->b≠a:=λ e z=>by rw[z,hHa]at e;cases e
   have I1:Inv X pins σ (upd (upd H c' (.eJ oc (.own c'))) a (.jB ps')) {s with heap:=h',gens:=s.gens,drawn:=s.drawn,toks:=tk}:=by
    have old:∀ {b:Addr} {u:HO},H b=some u->b≠a->upd (upd H c' (.eJ oc (.own c'))) a (.jB ps') b=some u:=λ e n=>by rw[ay n,ay (cV e hHc)];exact e
    refine I.step (ch:=[]) (λ _ z=>nomatch z) (λ b o _ _ _ e n=>hx b o (nb n) e) (λ b o _ _ _ e n=>⟨o.slots,hx b o (nb n) e⟩) (λ b o _ e n=>?_) (λ b o _ e=>?_) (λ b xs e=>?_) (λ b o u e=>?_) (λ b qs e=>?_) (λ m hm=>?_) (λ b u e=>?_) I.bare
    . rw[ay (nb n),ay (Wy (Wj (Wd e) hge))];exact n
    . by_cases hb:b=a
      . exact⟨_,by rw[hb];exact htb⟩
      . exact⟨o,hx b o hb e⟩
    . exact old e λ z=>by rw[z,hHa]at e;cases e
    . exact old e λ z=>by rw[z,hHa]at e;cases e
    . by_cases hb:b=a
      . subst hb;rw[hHa]at e;cases e;exact⟨_,aS⟩
      . exact⟨#[],by rw[old e hb];simp⟩
    . obtain⟨o,es,ep,ho,r⟩:=hm;exact⟨o,es,ep,hx _ o (nb I.free) ho,r⟩
    . by_cases hb:b=a
      . subst hb;rw[aS]at e;cases e;exact htb
      . rw[ay hb]at e;by_cases hbc:b=c'
        . subst hbc;rw[aS]at e;cases e;exact⟨hoc,_,hoc⟩
        . rw[ay hbc]at e;refine(I.aC b u e).ot (λ d w hd q=>hx d w ?_ q) (λ d q=>old q λ z=>by rw[z,hHa]at q;cases q) λ d xs q=>old q λ z=>by rw[z,hHa]at q;cases q
          rcases hd with rfl|hd
          . exact hb
          . intro z;rw[z,hHa]at hd;cases hd
   have I2:=j_ (o:=PySem.W.kla_obj "<lambda>" qual params body scope (cS X.env.cells scope.names []) ((X.mg "__name__").getD .none) c' ctv) (t':=tk) I1 (λ v z=>by cases z);have gP':upd G c' (.eJ oc (.own c')) a=some (.jB ps):=by rw[ay hac];exact gP
   refine h _ c' ctv _ (upd (upd G c' (.eJ oc (.own c'))) a (.jB ps')) _ _ I2 ((Step.laid hGc).trans (Step.write (Wa ha))) ((Sp.laid hHc).write gP') ((SR.laid hGc).write ha ⟨rfl,ps',aS,?_,.inr ⟨rfl,c',oc,vs,t,?_,SR.jW hGc,?_,hd,hv⟩⟩) ⟨SR.jW hGc,oc,vs,t,?_,hd,hv⟩
   . show TriplesOk (ps++ #[rawInt lpos.line,rawInt lpos.col,.ref c']).toList;rw[Array.toList_append];exact TriplesOk_snoc _ _ _ _ tr
   . show codeAmong lpos (ps++ #[rawInt lpos.line,rawInt lpos.col,.ref c']).toList=_;rw[Array.toList_append];exact codeAmong_snoc _ tr hnf
   . rw[ay hac.symm,aS]
   . rw[ay hac.symm,aS]
 . refine PySem.W.kla_makeFunctionHit hcl I.ok.glob hg hcode C hP tr q1 hB λ ctv h' tk hk hsz=>?_;have I1:=I.kept (t':=tk) hk;have I2:=j_ (o:=PySem.W.kla_obj "<lambda>" qual params body scope (cS X.env.cells scope.names []) ((X.mg "__name__").getD .none) c ctv) (t':=tk) I1 (λ v z=>by cases z);refine h _ c ctv _ G H _ I2 Step.refl Sp (by rw[set_same hn0];exact SR) ⟨q2,o,vs,t,q3,q4,q5⟩
end
def slt(p q:Int×Int):Prop:=p.1<q.1\/(p.1=q.1/\p.2<q.2)
def CA(n0:Nat)(T:Addr)(lpos:Pos)(qual:Str)(fr:List (Option Nat))(tb te:DE):DE:=λ σ st K=>te σ st λ d st1=>∃(ns ks:List Int) (b:Bool),d= .lst (ns.map .int)/\ns.length<64/\ns.Pairwise (· < ·)/\ks.length=ns.length/\
 st1[n0]?=some (.tab T lpos qual b)/\(∀(i:Nat) (n k:Int),ns[i]?=some n->ks[i]?=some k->tb ((fB fr σ).set 0 (some (.int n))) (st1.set n0 (.tab T lpos qual true)) λ v st2=>v= .int k/\st2=st1.set n0 (.tab T lpos qual true))/\
 ∀os:List (Int×Int),os.Perm (ks.zip ns)->os.Pairwise slt->K (.lst (os.map λ p=> .int p.2)) (st1.set n0 (.tab T lpos qual true))
theorem Bm:∀ {ns:List Int} {vs:List V},aD α H (ns.map D.int) vs->vs=ns.map V.int
 | [],vs,h=>by unfold aD at h;exact h
 |n::ns,vs,h=>by
  unfold aD at h;obtain⟨v,r,rfl,h1,h2⟩:=h;unfold Rep at h1;rw[h1,Bm h2];rfl
theorem CN:∀(ns:List Int),aD α H (ns.map D.int) (ns.map V.int)
 | []=>by unfold aD;rfl
 |n::ns=>by unfold aD;exact⟨_,_,rfl,by unfold Rep;rfl,CN ns⟩
theorem Bd:∀ {ns:List Int} {us:List Value},Vals (ns.map V.int) us->IntsAre us ns
 | [],_,.nil=> .nil
 |n::ns,_,.cons ⟨t,rfl⟩ h=> .cons n t (Bd h)
section
variable {X:Cx}{scope:Scope}{Nc:List Str}{fr:List (Option Nat)}{p x qual:Str}{params:Arguments}{e body:Expr}{te tb:DE}{lpos kpos pos ppos:Pos}{c0 T:Addr}{n0:Nat}
theorem Oz(S:mv X scope Nc fr p)(hc:X.calm=true)(hr:cF 2 X.A)(hcode:X.env.code= .ref c0)(hC:PySem.W.codeHdIn X.K c0 T=true)(hdef:defaultsOf params X.env=([],[]))(hql:X.env.qual++"<lambda>"=qual)
 (hbind:∀(cl:List (Str×Addr)) (pm cd ct v:Value),bindArgs (PySem.W.kla_fn "<lambda>" qual params body scope cl pm cd ct) ⟨[v],[]⟩=pure [(p,v)])
 (hb:∀(f c:Addr) (s:Shared) (H:Hp),PE (IG X scope Nc qual f c s H) body (LE tb)) (ha:PA X [e] (LA (aa te af)))
 (hg:Gl X "sorted") (hm:X.mg "sorted"=none) (hv:bootBuiltins "sorted"=some (.builtin "sorted"))
 (he:backTo pos (starEach [e] X.env)=(false,eval e X.env)::backTo pos (starEach [] X.env):=by rfl) (hpl:(backTo pos (starEach [e] X.env)).any (·.1)=false:=by rfl):
 PE X (.Call (.Name "sorted" ppos) [e] [⟨some "key",.Lambda params body scope lpos,kpos⟩] pos) (LE (CA n0 T lpos qual fr tb te)):=by
 intro pins s σ H Q I h;obtain⟨α,σd,st,K,G,F,Sp,RS,SR,t,k⟩:=h;refine Ys (lg I hg hm hv ?_);refine callWith_kw ?_ he hpl
 let K1:DK:=λ d st1=>∃(ns ks:List Int) (b:Bool),d= .lst (ns.map .int)/\ns.length<64/\ns.Pairwise (· < ·)/\ks.length=ns.length/\
  st1[n0]?=some (.tab T lpos qual b)/\(∀(i:Nat) (n k:Int),ns[i]?=some n->ks[i]?=some k->tb ((fB fr σd).set 0 (some (.int n))) (st1.set n0 (.tab T lpos qual true)) λ v st2=>v= .int k/\st2=st1.set n0 (.tab T lpos qual true))/\
  ∀os:List (Int×Int),os.Perm (ks.zip ns)->os.Pairwise slt->K (.lst (os.map λ p=> .int p.2)) (st1.set n0 (.tab T lpos qual true))
 refine bI (ha pos pins s σ H (λ vs H1=>∃d v st1 α1 G1,vs=[v]/\K1 d st1/\Step α G α1 G1/\bQ G1 F H1/\aJ α1 st1 G1/\Rep α1 G1 d v) I
  ⟨α,σd,st,λ ds st1=>match ds with| [d]=>K1 d st1|_=>False,G,F,Sp,RS,SR,t,λ ds st1 q α1 G1 H1 vs s1 P1 S1 r1=>?_⟩) λ us s1 ⟨vs,H1,I1,rv,d,v,st1,α1,G1,hvs,kd,s1',P1,S1,r1⟩=>?_
 . match ds,q,r1 with
   | [d],q,r1=>
     unfold aD at r1;obtain⟨v,r,rfl,h1,h2⟩:=r1;unfold aD at h2;subst h2;exact⟨d,v,st1,α1,G1,rfl,q,s1,P1,S1,h1⟩
 subst hvs;obtain⟨ns,ks,b,rfl,h64,hup,hlen,hn0,hkey,hK⟩:=kd;show wpAny _ _ (evalAll ((do let v <-eval (.Lambda params body scope lpos) X.env;standAt pos;pure v)::[])) _ _ s1;refine wpAny_evalAll_cons (VR (K0 S hcode hC hdef hql I1 P1 S1 hn0 λ f c ctv pm G2 H2 s2 I2 st2 P2 S2 ⟨hc1,o,vs,tq,hc2,hc3,hc4⟩=>VR (ZS (V8 (wpAny_evalAll_nil ?_)))));have r2:=r1.step st2;unfold Rep at r2;obtain⟨l,xs,rfl,hl1,hl2,hl3⟩:=r2;have exs:=Bm hl3;subst exs;cases rv with
 |cons ru rn=>
  cases rn;cases ru
  have hrd:Rd H2 l (.lst (ns.map V.int)):=by
   rcases hl2 with z|⟨w,z⟩
   . exact .inl (P2.get z)
   . exact .inr ⟨w,P2.get z⟩
  obtain⟨_,aj,nn,vv,hobj⟩:=hrd.ok I2.aC;have hints:=Bd vv;have hlen2:=hints.length;have key:∀(H':Hp),(∃α' G',Step α1 G2 α' G'/\bQ G' F H'/\aJ α' (st1.set n0 (.tab T lpos qual true)) G')->H' c=some (.eJ o (.own c)):=λ H' ⟨α',G',q1,q2,q3⟩=>q2.get (q1.ext c _ hc1 hc2);show wpAny _ _ (call (.builtin "sorted") [.ref l] [(Str.ofString "key",.ref f)]) _ _ _
  refine GY (X:=X) (pins:=pins++[(f,PySem.W.kla_obj "<lambda>" qual params body scope (cS X.env.cells scope.names []) pm c ctv)]) (R:=λ H'=>∃α' G',Step α1 G2 α' G'/\bQ G' F H'/\aJ α' (st1.set n0 (.tab T lpos qual true)) G') (kz:=ks) (vs:=aj)
   I2 ⟨α1,G2,Step.refl,P2,S2⟩ ⟨_,hobj,rfl,nn,rfl⟩ (by omega) (by omega) ?_ (λ i u kk hu hk own s' J=>?_) λ D s' out cc oD J so=>?_
  . rw[<-Y3,hints.nums];exact hup
  . have hi:i<ns.length:=by
     have:=(VV.mp hu).1;omega
    obtain⟨tt,ht⟩:=hints.get i ns[i] (V0 hi);have ht:some u=some (Value.int ns[i] tt):=by rw[<-hu];exact ht
    cases ht;refine KS (v:= .int ns[i]) (u:= .int ns[i] tt) S hc (by have:=hr.dp;omega) (hb f c) hbind ⟨tt,rfl⟩ (Wo _ (Wk.mpr rfl)) (λ H' s'' J' r'=>?_) (λ H' r'=>?_) J
    . have q:=J'.aC c _ (key H' r');exact⟨c,o,vs,tq,rfl,q.1,hc3,hc4⟩
    . obtain⟨α',G',q1,q2,q3⟩:=r';refine⟨α',(fB fr σd).set 0 (some (.int ns[i])),_,_,G',F,q2,?_,q3,hkey i ns[i] kk (V0 hi) hk,λ d' st' hd α'' G'' H'' v' s'' P'' S'' r''=>?_⟩
      . exact((RS.step ((s1'.trans st2).trans q1)).comp).set 0 (by unfold Rep;rfl)
      . obtain⟨rfl,rfl⟩:=hd;unfold Rep at r'';exact⟨r'',α'',G'',q1.trans s'',P'',S''⟩
  . obtain⟨H',I',α',G',q1,q2,q3⟩:=J;obtain⟨ps,hp,ho,hs⟩:=so
    have hps:∀q∈ps,∃t,q.2= .int (numOf q.2) t:=λ q hq=>by
     have h1:=hp.mem_iff.mp hq;have h2:q.2∈aj:=(Zq (show(q.1,q.2)∈ks.zip aj from h1)).2;obtain⟨n,t,e⟩:=hints.all _ h2;exact⟨t,by rw[e];rfl⟩
    have hos:(ps.map λ q=>(q.1,numOf q.2)).Perm (ks.zip ns):=by
     have h1:=hp.map λ q:Int×Value=>(q.1,numOf q.2)
     have e:(ks.zip aj).map (λ q:Int×Value=>(q.1,numOf q.2))=ks.zip ns:=by
      rw[<-hints.nums,List.zip_map_right];exact WU λ⟨a,b⟩ _=>rfl
     rw[e]at h1;exact h1
    have hpw:(ps.map λ q=>(q.1,numOf q.2)).Pairwise slt:=by rw[Y3];exact hs
    have kk:=hK _ hos hpw;rw[WB]at kk;have hD0:=fx I'
    have vout:Vals ((ps.map λ q=>numOf q.2).map V.int) out.toList:=by
     rw[ho];clear hos hpw kk hs hp ho;induction ps with
     |nil=>exact .nil
     |cons q r ih=>
      obtain⟨t,e⟩:=hps q (V_ ..);exact .cons ⟨t,e⟩ (ih λ z hz=>hps z (V5 _ hz))
    have hlo:(ps.map λ q=>numOf q.2).length<=sizeLine:=by
     rw[VO,hp.length_eq,aap];exact VX (Nat.min_le_left _ _) (VX (show ks.length<=64 by omega) (by decide))
    have I3:=G_ (u:= .lst ((ps.map λ q=>numOf q.2).map V.int)) I' oD.ge oD.ne ⟨by rw[VO];exact hlo,out.toList,cc,vout,hD0.1⟩;have hG:=(q2.none hD0.2.1).1;refine⟨.ref D,_,I3.gG,rfl,k _ _ kk α' _ _ _ ((s1'.trans st2).trans (q1.trans (Step.laid hG))) (q2.laid hD0.2.1) (q3.laid hG) ?_⟩;unfold Rep;refine⟨D,_,rfl,q3.jW hG,.inl aS,?_⟩;have e:List.map ((λ p:Int×Int=>L3.D.int p.snd)∘λ q:Int×Value=>(q.fst,numOf q.snd)) ps=(ps.map λ q=>numOf q.2).map L3.D.int:=by rw[WB];rfl
    rw[e];exact CN _
end
end L3
namespace L3
open PySem L2
open PySem.Spec hiding items?
open PyProof.Rows hiding St
def F5(sc:Scope)(N gl:List Str):Bool:=
 N.all (λ x=>(sc.names.lookup x==some .local||sc.names.lookup x==some .cell)&&x != "__debug__"&&x != "__classdict__")&&gl.all (λ x=>sc.names.lookup x==some .globalImplicit&&x != "__debug__")
structure VS(sc:Scope)(N gl:List Str):Prop where
 ok:F5 sc N gl=true
theorem VS.at_{sc:Scope}{N gl:List Str}(V:VS sc N gl){i:Nat}{x:Str}(h:N[i]?=some x):Loc sc x/\(x==("__debug__":Str))=false/\(x==("__classdict__":Str))=false:=by
 have o:=V.ok;unfold F5 at o;have:=Wm.mp (YH.mp o).1 x (Wa h);simp only[Wv,Zw,XZ,Zv,ne_eq]at this;exact⟨this.1.1,aaq this.1.2,aaq this.2⟩
theorem VS.TF{sc:Scope}{N gl:List Str}(V:VS sc N gl){i:Nat}{x:Str}(h:gl[i]?=some x):sc.names.lookup x=some .globalImplicit/\(x==("__debug__":Str))=false:=by
 have o:=V.ok;unfold F5 at o;have:=Wm.mp (YH.mp o).2 x (Wa h);simp only[Wv,XZ,Zv,ne_eq]at this;exact⟨this.1,aaq this.2⟩
section
variable {X:Cx}{sc:Scope}{N gl:List Str}{x:Str}{pos:Pos}
theorem VS.nm(V:VS X.env.scope X.N gl)(i:Nat)(h:X.N[i]?=some x:=by rfl):JE X (.Name x pos) (ab i):=
 let q:=V.at_ h
 IZ q.2.1 q.2.2 (q.1.elim .inl λ z=> .inr (.inl z)) h
theorem VS.l(V:VS sc N gl)(i:Nat)(h:N[i]?=some x:=by rfl):Loc sc x:=(V.at_ h).1
theorem VS.g(V:VS sc N gl)(i:Nat)(h:gl[i]?=some x:=by rfl):sc.names.lookup x=some .globalImplicit:=(V.TF h).1
theorem VS.d(V:VS sc N gl)(i:Nat)(h:gl[i]?=some x:=by rfl):(x==("__debug__":Str))=false:=(V.TF h).2
theorem qV(hN:X.N[n]?=some x:=by rfl)(hd:((x==("__debug__":Str))||(x==("__classdict__":Str)))=false:=by decide+kernel)
 (hv:Di X.env.scope x:=by first|exact Or.inl rfl|exact Or.inr (Or.inl rfl)|exact Or.inr (Or.inr rfl)):JE X (.Name x pos) (ab n):=
 IZ (Bool.or_eq_false_iff.mp hd).1 (Bool.or_eq_false_iff.mp hd).2 hv hN
@[irreducible] def ph:cJ:=uM (λ _ j=>j≠0) λ i j=> .int (i.fdiv j)
theorem EU{k:Nat}(hr:cF k X.A)(hs:X.stack=X.env::X.outer)(hgen:X.env.scope.isGenerator=false)(hco:X.env.scope.isCoroutine=false):br X (binaryOp .FloorDiv) (LR ph):=by
 unfold ph;refine jP (g':=λ i j=> .int (i.fdiv j)) (λ _ _ _ _=>by unfold Rep;rfl) ?_;intro pins s σ H x y v u Q I rx ry h;obtain⟨i,j,rfl,rfl,hc,q⟩:=h;obtain⟨t,rfl⟩:=rx;obtain⟨t',rfl⟩:=ry;refine floordiv_int hc ⟨.int (i.fdiv j),H,I.tok _,⟨_,rfl⟩,q⟩ (.inr (PySem.PylongRoom.of I.nolimit ?_ ?_))
 . have:=hr.dp;show X.A.depth+100<_;omega
 . exact PySem.SeerAt.of (env:=X.env) (l:=X.outer) (I.mod.seer.keeps I.bk) I.ok.gt (by rw[I.ok.frames,hs]) hgen hco I.ok.blt I.ok.glob
theorem Cc{st:ae}{K:DK}{i j:Int}(h0:j≠0)(k:K (.int (i.fdiv j)) st):ph (.int i) (.int j) st K:=by unfold ph;exact⟨h0,k⟩
theorem mv.look(S:cA X scope Nc fr)(h:(scope.names.all (λ x=>x.2 != .cell)&&(!scope.isCoroutine&& !scope.isGenerator)&&(scope.names.lookup p==some .local))=true:=by decide+kernel)
 (p0:Nc[0]?=some p:=by rfl) (f0:fr[0]?=some none:=by rfl):mv X scope Nc fr p:=by
 simp only[Wv,Bool.not_eq_true',XZ]at h;exact⟨S,λ x hx=>by simpa using Wm.mp h.1.1 x hx,h.1.2.1,h.1.2.2,p0,f0,h.2⟩
theorem NY{e body:Expr}{lpos kpos pos ppos:Pos}{n0 k:Nat}(S:mv X scope Nc fr p)(hc:X.calm=true)(hr:cF k X.A)(hcode:X.env.code= .ref c0)(hC:PySem.W.codeHdIn X.K c0 T=true)
 (hb:∀(f c:Addr) (s:Shared) (H:Hp),JE (IG X scope Nc qual f c s H) body tb) (he:JE X e te) (hg:X.env.kindOf "sorted"=some .globalImplicit) (hm:X.mg "sorted"=none)
 (hdef:defaultsOf params X.env=([],[]):=by rfl) (hql:X.env.qual++"<lambda>"=qual:=by rfl)
 (hbind:∀(cl:List (Str×Addr)) (pm cd ct v:Value),bindArgs (PySem.W.kla_fn "<lambda>" qual params body scope cl pm cd ct) ⟨[v],[]⟩=pure [(p,v)]:=by(intros;rfl)) (hk:2<=k:=by decide)
 (he1:starEach [e] X.env=(false,eval e X.env)::starEach [] X.env:=by rfl):
 JE X (.Call (.Name "sorted" ppos) [e] [⟨some "key",.Lambda params body scope lpos,kpos⟩] pos) (CA n0 T lpos qual fr tb te):=by
 unfold JE at he hb⊢;refine Oz S hc (hr.mono hk) hcode hC hdef hql hbind hb (mT he sr he1) hg hm rfl ?_ ?_
 . rw[he1];rfl
 . rw[he1];rfl
end
structure RD(K:PySem.W.Frag)(x qual:Str)(st:Stmt)(f:Addr)(fd:FuncData)(c:Addr):Prop where
 ex:∃(oc:Value) (od:Option Addr) (kV doc pm:Value) (an:Option Addr) (ct:Value) (osl:Array (Option Value)),
  fd=PySem.W.fnOf x qual (iz st) (fu st) (a9 st) .none kV doc pm an (.ref c) ct/\K.lookup f=some ⟨oc,od,.func fd,osl⟩/\PySem.W.codeIn K (.ref c) qual=true
theorem Rk{P:Program}{w:World}{K:PySem.W.Frag}{mg:Str->Option Value}{base:Heap}{x qual:Str}{st:Stmt}{f c:Addr}{fd:FuncData}{N ps:List Str}{k:Nat}{sp:bw}{t:DS}(F:RD K x qual st f fd c)(S:kD N ps (a9 st))
 (hbody:∀(A:Around) (outer:List Env) (s:Shared) (H:Hp) (E:XK),cF k (A.deeper (envOfC qual (a9 st) s.heap.objs.size f (.ref c)))->JB (oy gq P w K mg base N qual (a9 st) f (.ref c) A outer s H E).vb (fu st) t)
 (hsp:∀ds st K,sp ds st K->ds.length=ps.length/\t {nx:=λ _ st'=>K .ao st',rt:=K} (aF N ds) st):dz P w K mg base gq (k+1) f fd ps (ik sp):=by
 obtain⟨oc,od,kV,doc,pm,an,ct,osl,rfl,lk,hcd⟩:=F.ex;unfold JB at hbody;refine Na lk hcd S (λ vs H Q E h=>?_) λ A outer s H vs Q E hr h=>?_
 . obtain⟨α,ds,st,K,G,F,P,R,S,q,k⟩:=h;rw[<-R.length];exact(hsp ds st K q).1
 . obtain⟨α,ds,st,K,G,F',P,R,SR,q,k⟩:=h;refine⟨_,(hbody A outer s H E hr).vb,α,aF N ds,st,_,G,F',P,dm.start R,SR,(hsp ds st K q).2,?_,k,?_,?_⟩
   . intro σd' st' kk α' G' H' σ' s' P' R' S';exact k .ao st' kk α' G' H' .ao s' P' S' (by unfold Rep;rfl)
   . intro σd' st' kk;exact kk.elim
   . intro σd' st' kk;exact kk.elim
def JD(tl:List (Addr×Pos×Str)):bw:=λ ds st K=>∃ns:List Int,ds=[.lst (ns.map .int)]/\ns.length<=63/\st=tl.map (λ q=> .tab q.1 q.2.1 q.2.2 false)/\∀st',K (.bl true) st'
def Hr(K:PySem.W.Frag)(ts:List (Addr×Addr)):Sp:=λ vs H Q _=>∃(a:Addr) (ns:List Int),vs=[.ref a]/\Entry K ts a ns H/\ns.length<=63/\∀H',Q (.bl true) H'
theorem JP{K:PySem.W.Frag}{ts:List (Addr×Addr)}{tl:List (Addr×Pos×Str)}(nl:JV K=true)(hts:ts.map (·.2)=tl.map (·.1))(nd:(tl.map (·.1)).Nodup){vs:List V}{H:Hp}{Q:VK}{E:XK}(h:Hr K ts vs H Q E):ik (JD tl) vs H Q E:=by
 obtain⟨a,ns,rfl,hE,hl,q⟩:=h
 have tabs:∀q∈tl,H q.1=some (.jB #[])/\q.1≠a:=λ q hq=>by
  have h1:q.1∈ts.map (·.2):=by rw[hts];exact ZJ hq
  obtain⟨t,ht,e⟩:=V9.mp h1;rw[<-e];exact hE.tab t ht
 have at_:∀(i:Nat) (x:Addr),(tl.map λ q=>some q.1)[i]?=some (some x)->∃q,tl[i]?=some q/\q.1=x:=λ i x e=>by
  rw[Wn]at e;cases z:tl[i]? with
  |none=>rw[z]at e;cases e
  |some w=>rw[z]at e;simp at e;exact⟨w,rfl,e⟩
 have nota:some a∉tl.map λ q=>some q.1:=λ z=>by
  obtain⟨w,hw,e⟩:=V9.mp z;exact(tabs w hw).2 (WQ e)
 rcases hE.lst with hS|⟨o,aj,n,e,hc,_⟩
 . refine⟨tl.map λ q=>some q.1,[.lst (ns.map .int)],tl.map (λ q=> .tab q.1 q.2.1 q.2.2 false),λ d _=>d= .bl true,H,λ _=>none,⟨λ b=>by cases H b<;>rfl,λ _ _ _=>rfl⟩,?_,⟨by simp,λ i j x e1 e2=>?_,λ n c e=>?_⟩,⟨ns,rfl,hl,rfl,λ _=>rfl⟩,?_⟩
   . unfold aD;refine⟨.ref a,[],rfl,?_,by unfold aD;rfl⟩;unfold Rep;exact⟨a,ns.map V.int,rfl,nota,hS,zG ns⟩
   . obtain⟨p,hp,e3⟩:=at_ i x e1;obtain⟨r,hr,e4⟩:=at_ j x e2;have k1:(tl.map (·.1))[i]?=some x:=by rw[Wn,hp,<-e3];rfl
     have k2:(tl.map (·.1))[j]?=some x:=by rw[Wn,hr,<-e4];rfl
     have hi:=(VV.mp k1).1;exact(List.getElem?_inj hi nd).mp (k1.trans k2.symm)
   . rw[Wn]at e;cases z:tl[n]? with
     |none=>rw[z]at e;cases e
     |some w=>
      rw[z]at e;have e':Cell.tab w.1 w.2.1 w.2.2 false=c:=WQ e;subst e';refine .inr ⟨w.1,by rw[Wn,z];rfl,rfl,#[],(tabs w (Wa z)).1,trivial,.inl ⟨rfl,rfl⟩⟩
   . rintro d st' rfl α' G' H' v _ _ _ r;unfold Rep at r;subst r;exact q H'
 . exact absurd hc (Ay nl e)
section
variable {K:PySem.W.Frag}{x qual p1 p2 p3 p4 p5:Str}{st:Stmt}{f:Addr}{fd:FuncData}
abbrev se(x qual:Str)(st:Stmt)(kV doc pm:Value)(an:Option Addr)(cdv ct:Value):FuncData:=PySem.W.fnOf x qual (iz st) (fu st) (a9 st) .none kV doc pm an cdv ct
theorem fX{α:Type}{n:Nat}{us:List α}(h:us.length=n+1):∃a r,us=a::r/\r.length=n:=by
 cases us with
 |nil=>cases h
 |cons a r=>exact⟨a,r,rfl,Nat.succ.inj h⟩
theorem uy{α:Type}{us:List α}(h:us.length=0):us=[]:=Xu.mp h
theorem VB(F:nN K x qual st f fd)(h:∀kV doc pm an cdv ct a,bindArgs (se x qual st kV doc pm an cdv ct) ⟨[a],[]⟩=pure [(p1,a)]):Binds K fd [p1] []:=
 F.binds λ kV doc pm an cdv ct us hl=>by
  obtain⟨a,r1,rfl,h1⟩:=fX hl;cases uy h1;exact h kV doc pm an cdv ct a
theorem TH(F:nN K x qual st f fd)(h:∀kV doc pm an cdv ct a b,bindArgs (se x qual st kV doc pm an cdv ct) ⟨[a,b],[]⟩=pure [(p1,a),(p2,b)]):Binds K fd [p1,p2] []:=
 F.binds λ kV doc pm an cdv ct us hl=>by
  obtain⟨a,r1,rfl,h1⟩:=fX hl;obtain⟨b,r2,rfl,h2⟩:=fX h1;cases uy h2;exact h kV doc pm an cdv ct a b
theorem TM(F:nN K x qual st f fd)(h:∀kV doc pm an cdv ct a b c,bindArgs (se x qual st kV doc pm an cdv ct) ⟨[a,b,c],[]⟩=pure [(p1,a),(p2,b),(p3,c)]):Binds K fd [p1,p2,p3] []:=
 F.binds λ kV doc pm an cdv ct us hl=>by
  obtain⟨a,r1,rfl,h1⟩:=fX hl;obtain⟨b,r2,rfl,h2⟩:=fX h1;obtain⟨c,r3,rfl,h3⟩:=fX h2;cases uy h3;exact h kV doc pm an cdv ct a b c
theorem TV(F:nN K x qual st f fd)(h:∀kV doc pm an cdv ct a b c d,bindArgs (se x qual st kV doc pm an cdv ct) ⟨[a,b,c,d],[]⟩=pure [(p1,a),(p2,b),(p3,c),(p4,d)]):Binds K fd [p1,p2,p3,p4] []:=
 F.binds λ kV doc pm an cdv ct us hl=>by
  obtain⟨a,r1,rfl,h1⟩:=fX hl;obtain⟨b,r2,rfl,h2⟩:=fX h1;obtain⟨c,r3,rfl,h3⟩:=fX h2;obtain⟨d,r4,rfl,h4⟩:=fX h3;cases uy h4;exact h kV doc pm an cdv ct a b c d
end
section
variable {X:Cx}
end
mutual
theorem Eb:∀(n:Nat) {d:D} {v:V},pl n d=true->Rep α G d v->Rep [] G d v
 |_,.ao,_,_,h=>by unfold Rep at h⊢;exact h
 |_,.bl _,_,_,h=>by unfold Rep at h⊢;exact h
 |_,.int _,_,_,h=>by unfold Rep at h⊢;exact h
 |_,.str _,_,_,h=>by unfold Rep at h⊢;exact h
 |_,.ty _,_,p,_=>by unfold pl at p;cases p
 |_,.ref _,_,p,_=>by unfold pl at p;cases p
 |0,.lst _,_,p,_=>by unfold pl at p;cases p
 |0,.tup _,_,p,_=>by unfold pl at p;cases p
 |n+1,.lst xs,_,p,h=>by
  unfold pl at p;unfold Rep at h⊢;obtain⟨a,vs,e,_,r,q⟩:=h;exact⟨a,vs,e,by simp,r,p9 n p q⟩
 |n+1,.tup xs,_,p,h=>by
  unfold pl at p;unfold Rep at h⊢;obtain⟨a,vs,e,_,r,q⟩:=h;exact⟨a,vs,e,by simp,r,p9 n p q⟩
theorem p9:∀(n:Nat) {ds:List D} {vs:List V},ds.all (pl n)=true->aD α G ds vs->aD [] G ds vs
 |_,[],_,_,h=>by unfold aD at h⊢;exact h
 |n,d::ds,_,p,h=>by
  rw[WY,Wv]at p;unfold aD at h⊢;obtain⟨v,r,e,h1,h2⟩:=h;exact⟨v,r,e,Eb n p.1 h1,p9 n p.2 h2⟩
end
def pf(st:ae):List Nat->List (List D)->Prop
 | [],[]=>True
 |n::ns,r::rs=>st[n]?=some (.lst r)/\pf st ns rs
 |_,_=>False
theorem CD{α:List (Option Addr)}{G:Hp}{st:ae}(S:aJ α st G):∀ {ns:List Nat} {rs:List (List D)} {vs:List V},pf st ns rs->(rs.map D.lst).all (pl 39)=true->aD α G (ns.map D.ref) vs->aD [] G (rs.map D.lst) vs
 | [],[],_,_,_,h=>by
   rw[Zr]at h⊢;unfold aD at h⊢;exact h
 |n::ns,r::rs,_,hr,p,h=>by
  rw[Ww]at h p⊢;rw[WY,Wv]at p;unfold aD at h⊢;obtain⟨v,vr,e,h1,h2⟩:=h;refine⟨v,vr,e,?_,CD S hr.2 p.2 h2⟩;obtain⟨a,ea,ws,g1,g2⟩:=S.eV hr.1;have:=dh ea h1;subst this;have p1:=p.1;unfold pl at p1;unfold Rep;exact⟨a,ws,rfl,by simp,.inl g1,p9 38 p1 g2⟩
section
variable {X:Cx}
theorem Og(n:Int):(n != 0)=decide (n≠0):=by
 by_cases h:n=0
 . subst h;rfl
 . rw[Wr h];simpa using h
def AQ:dY:=λ ds st K=>match ds with| [.tup xs]=>(match kM xs with|some ns=>K (.bl (ns.any λ n=>decide (n≠0))) st|none=>False)|_=>False
theorem Pl(hc:X.calm=true):bf X (.builtin "any") (ff AQ):=λ pins s σ H xs us Q I rs ⟨α,ds,st,K,G,F',P,r,S,q,k⟩=>by
 unfold AQ at q;split at q
 . rename_i ys;split at q
   . rename_i ns e;obtain⟨v,rfl,r1⟩:=fO r rfl;unfold Rep at r1;obtain⟨a,vs,rfl,na,h1,h2⟩:=r1;obtain⟨u,rfl,ru⟩:=vals1 rs;cases ru;have hv:=sQ h2 e;subst hv;obtain⟨aj,rv,p,hl⟩:=I.tuple (.of (P.get h1));have isT:s.heap.IsTuple a aj.toArray:=p;obtain⟨o,eo,_⟩:=id isT;refine call_any_walk (Yc isT ?_);have hne:a≠s.heap.objs.size:=Wy (Wd eo);have hn:aj.length=ns.length:=by rw[<-rv.length,VO]
     have hval:∀(i:Nat) (w:Value),aj.toArray[i]?=some w->∃t,w=Value.int (ns.getD i 0) t:=λ i w hw=>kU rv i w (by simpa using hw);refine⟨s.heap.objs.size,_,_,_,_,_,λ i=>decide (ns.getD i 0≠0),rfl,Walks.tuple (A:=X.A.in1) (I.ok.hd hc) _ a hne aj.toArray,⟨⟨_,Wq _ rfl,rfl,rfl⟩,jY.push (k:= .t) isT _⟩,?_,?_⟩
     . intro i w s' Q' E' hP hQ;obtain⟨t,rfl⟩:=hval i w hP;refine PyProof.Rows.truthy_int ?_;rw[Og];exact hQ
     . intro h' tk hk
       have kp:∀b o,s.heap.get? b=some o->h'.get? b=some o:=λ b o q=>hk b o (by
        intro hb;have:b=s.heap.objs.size:=by simpa using hb
        exact absurd (Wd q) (by rw[this];exact Xs _)) (VY _ q)
       have ea:(List.range aj.toArray.size).any (λ i=>decide (ns.getD i 0≠0))=ns.any λ n=>decide (n≠0):=by
        rw[V2,hn];exact range_any ns _ _ λ i x e=>by rw[V1,e];rfl
       rw[ea];exact⟨.bl (ns.any λ n=>decide (n≠0)),H,I.kept (t':=tk) kp,rfl,k.here P q S (by unfold Rep;rfl)⟩
   . exact q.elim
 . exact q.elim
@[irreducible] def ug:dY:=AQ
theorem HP(hc:X.calm=true):bf X (.builtin "any") (ff ug):=by unfold ug;exact Pl hc
end
theorem EZ{st:ae}{K:DK}{xs:List D}{ns:List Int}(h:kM xs=some ns)(k:K (.bl (ns.any λ n=>decide (n≠0))) st):ug [.tup xs] st K:=by unfold ug AQ;simp only[h];exact k
section
variable {X:Cx}
def vb(X:Cx):Cx:={X with xe:=λ _ _=>False}
end
variable {st:ae}{K:D->ae->Prop}{i j:Int}
section
variable {X:Cx}{pos:Pos}
end
end L3
namespace L3
open PySem L2
structure ClsAt(K:PySem.W.Frag)(mg:Str->Option Value)(x:Str)(C:Addr):Prop where
 cl:nF K C
 mg:mg x=some (.ref C)
 VA:PySem.W.makesIn K C=true
 kp:PySem.W.keepIn K (.ref C)=true
structure MethAt(K:PySem.W.Frag)(C:Addr)(m qual:Str)(st:Stmt)(ps:List Str)(f:Addr)(fd:FuncData):Prop where
 fn:nN K m qual st f fd
 me:Meth K C m f
 bd:Binds K fd ps []
end L3
namespace Hd
open PySem PySem.W L2 L3
open PySem.Spec hiding items?
open PyProof.Rows hiding St
section
variable {K:Frag}{mg:Str->Option Value}{h:Heap}{x q:Str}{st:Stmt}{f c C:Addr}{pm:Value}{p1 p2 p3 p4 p5 p6:Str}
abbrev Ed(K:Frag)(x:Str)(st:Stmt)(f:Addr)(pm:Value)(c:Addr):Prop:=(nsIn K mainGlobals x,K.lookup f,codeIn K (.ref c) x,keepIn K (.ref f))=(some (some (.ref f)),some (fq st x x pm c),true,true)
abbrev Em(K:Frag)(C:Addr)(x q:Str)(st:Stmt)(f:Addr)(pm:Value)(c:Addr):Prop:=(findIn K (.ref C) x,isFn K (.ref f),K.lookup f,codeIn K (.ref c) q,keepIn K (.ref f))=(some (some (.ref f)),true,some (fq st x q pm c),true,true)
theorem Ed.fn(e:Ed K x st f pm c):nN K x x st f (fd st x x pm c)/\nsIn K mainGlobals x=some (some (.ref f)):=by
 obtain⟨e1,e2,e3,e4⟩:_/\_/\_/\_:=by simpa only[aaI]using e
 exact⟨IF (st:=st) e2 e3 e4,e1⟩
theorem Em.fn(e:Em K C x q st f pm c):nN K x q st f (fd st x q pm c)/\Meth K C x f:=by
 obtain⟨e1,e2,e3,e4,e5⟩:_/\_/\_/\_/\_:=by simpa only[aaI]using e
 exact⟨IF (st:=st) e3 e4 e5,e1,e2,e5⟩
theorem TJ(X:K.In h)(G:h.Ns mainGlobals mg)(e:Ed K x st f pm c)(b:∀kV doc pm an cdv ct a,bindArgs (se x x st kV doc pm an cdv ct) ⟨[a],[]⟩=pure [(p1,a)]):kI K mg x x st [p1] f (fd st x x pm c):=⟨e.fn.1,mg_of X G e.fn.2,VB e.fn.1 b⟩
theorem VI(X:K.In h)(G:h.Ns mainGlobals mg)(e:Ed K x st f pm c)(b:∀kV doc pm an cdv ct a1 a2,bindArgs (se x x st kV doc pm an cdv ct) ⟨[a1,a2],[]⟩=pure [(p1,a1),(p2,a2)]):kI K mg x x st [p1,p2] f (fd st x x pm c):=⟨e.fn.1,mg_of X G e.fn.2,TH e.fn.1 b⟩
theorem VL(X:K.In h)(G:h.Ns mainGlobals mg)(e:Ed K x st f pm c)(b:∀kV doc pm an cdv ct a1 a2 a3,bindArgs (se x x st kV doc pm an cdv ct) ⟨[a1,a2,a3],[]⟩=pure [(p1,a1),(p2,a2),(p3,a3)]):kI K mg x x st [p1,p2,p3] f (fd st x x pm c):=⟨e.fn.1,mg_of X G e.fn.2,TM e.fn.1 b⟩
theorem Vq(X:K.In h)(G:h.Ns mainGlobals mg)(e:Ed K x st f pm c)(b:∀kV doc pm an cdv ct a1 a2 a3 a4,bindArgs (se x x st kV doc pm an cdv ct) ⟨[a1,a2,a3,a4],[]⟩=pure [(p1,a1),(p2,a2),(p3,a3),(p4,a4)]):kI K mg x x st [p1,p2,p3,p4] f (fd st x x pm c):=⟨e.fn.1,mg_of X G e.fn.2,TV e.fn.1 b⟩
theorem TK(e:Em K C x q st f pm c)(b:∀kV doc pm an cdv ct a1 a2,bindArgs (se x q st kV doc pm an cdv ct) ⟨[a1,a2],[]⟩=pure [(p1,a1),(p2,a2)]):MethAt K C x q st [p1,p2] f (fd st x q pm c):=⟨e.fn.1,e.fn.2,TH e.fn.1 b⟩
theorem MB(e:Em K C x q st f pm c)(b:∀kV doc pm an cdv ct a1 a2 a3,bindArgs (se x q st kV doc pm an cdv ct) ⟨[a1,a2,a3],[]⟩=pure [(p1,a1),(p2,a2),(p3,a3)]):MethAt K C x q st [p1,p2,p3] f (fd st x q pm c):=⟨e.fn.1,e.fn.2,TM e.fn.1 b⟩
theorem Vx(e:Em K C x q st f pm c)(b:∀kV doc pm an cdv ct a1 a2 a3 a4,bindArgs (se x q st kV doc pm an cdv ct) ⟨[a1,a2,a3,a4],[]⟩=pure [(p1,a1),(p2,a2),(p3,a3),(p4,a4)]):MethAt K C x q st [p1,p2,p3,p4] f (fd st x q pm c):=⟨e.fn.1,e.fn.2,TV e.fn.1 b⟩
theorem fc(e:(K.lookup f,codeIn K (.ref c) q)=(some (fq st x q pm c),true)):RD K x q st f (fd st x q pm c) c:=by
 obtain⟨e1,e2⟩:_/\_:=by simpa only[aaI]using e
 exact⟨_,_,_,_,_,_,_,_,rfl,e1,e2⟩
theorem na(e:findIn K (.ref C) a=some none):fJ K C a:=e
end
end Hd
namespace L3
open PySem L2
open PySem.Spec hiding items?
open PyProof.Rows hiding St
section
variable {X:Cx}{pos:Pos}
end
@[irreducible] def Cf:cJ:=λ x y st K=>∃(n:Nat) (ns:List Nat) (rs:List (List D)),x= .ref n/\st[n]?=some (.lst (ns.map .ref))/\pf st ns rs/\(rs.map D.lst).all (pl 39)=true/\pl 40 y=true/\K (.bl (cu (.lst (rs.map .lst)) y)) st
theorem GP{k:Nat}(hr:cF k X.A):br X (compareOp .Eq) (LR Cf):=λ pins s σ H x y v u Q I rx ry ⟨α,d,e,st,K,G,F',P,r1,r2,S,q,k⟩=>by
 have hu:=hr.units;unfold Cf at q;obtain⟨n,ns,rs,rfl,hn,h1,h2,h3,q⟩:=q
 have r1':Rep [] G (.lst (rs.map .lst)) x:=by
  obtain⟨a,ea,vs,g1,g2⟩:=S.eV hn;have:=dh ea r1;subst this;unfold Rep;exact⟨a,vs,rfl,by simp,.inl g1,CD S h1 h2 g2⟩
 exact(AS I 40 X.A _ e x y v u (by unfold pl;exact h2) h3 (r1'.mono P.same) ((Eb 40 h3 r2).mono P.same) rx ry (by omega)).1 _ _ _ _ ⟨.bl _,H,I,rfl,k.here P q S (by unfold Rep;rfl)⟩
theorem Rm{st:ae}{K:DK}(h0:st[n]?=some (.lst (ns.map .ref)))(h1:pf st ns rs)(h2:(rs.map D.lst).all (pl 39)=true)(h3:pl 40 y=true)(k:K (.bl (cu (.lst (rs.map .lst)) y)) st):Cf (.ref n) y st K:=by
 unfold Cf;exact⟨n,ns,rs,rfl,h0,h1,h2,h3,k⟩
end L3
namespace L3
open PySem L2
open PySem.Spec hiding items?
end L3
namespace L3
open PySem PySem.Spec L2
open PyProof.Rows hiding St
section
variable {X:Cx}{pos:Pos}
end
end L3
namespace L3
open PySem L2
open PySem.Spec hiding items?
open PyProof.Rows hiding St
section
variable {X:Cx}
end
section
variable {X:Cx}{pos:Pos}
end
section
variable {X:Cx}
end
namespace RF
end RF
section
variable {prog:Program}{w:World}{A:Around}{E:Value->Shared->Prop}{s:Shared}
end
section
variable {X:Cx}{tg:Expr}
end
section
variable {X:Cx}
end
end L3
namespace L3
open PySem L2
open PySem.Spec hiding items?
open PyProof.Rows hiding St
section
variable {X:Cx}
end
section
variable {X:Cx}{pos:Pos}
end
inductive wV(st:ae):List D->List D->List Nat->Prop
 |nil:wV st [] [] []
 |ref {c:Nat} {xs ds es:List D} {cs:List Nat} (e:st[c]?=some (.lst xs)) (t:wV st ds es cs):wV st (.ref c::ds) (.lst xs::es) (c::cs)
 |own {d:D} {ds es:List D} {cs:List Nat} (t:wV st ds es cs):wV st (d::ds) (d::es) cs
theorem NC(h:wV st0 ds es cs):∀ {α:List (Option Addr)} {st:ae} {vs:List V},aJ α st G->aD α G ds vs->cs.Nodup->(∀c∈cs,st[c]?=st0[c]?)->∃α',Step α G α' G/\aJ α' (kill cs st) G/\aD α' G es vs:=by
 induction h with
 |nil=>exact λ S r _ _=>⟨_,Step.refl,S,r⟩
 | @ref c xs ds es cs e t ih=>
   intro α st vs S r nd q;obtain⟨v,vs',rfl,r1,r2⟩:∃v r,vs=v::r/\Rep α G (.ref c) v/\aD α G ds r:=by unfold aD at r;exact r
   obtain⟨hc,nd⟩:=Xp.mp nd;have e1:=(q c V_).trans e;have S1:=S.eJ (VV.mp e1).1
   obtain⟨α',s,S2,r3⟩:=ih S1 (r2.step Step.eJ) nd λ d hd=>by
    have hne:c≠d:=λ z=>hc (by rw[z];exact hd);rw[VW hne];exact q d (V5 _ hd)
   refine⟨α',Step.eJ.trans s,S2,?_⟩;unfold aD;exact⟨v,vs',rfl,(S.Ex e1 r1).step s,r3⟩
 | @own d ds es cs t ih=>
   intro α st vs S r nd q;obtain⟨v,vs',rfl,r1,r2⟩:∃v r,vs=v::r/\Rep α G d v/\aD α G ds r:=by unfold aD at r;exact r
   obtain⟨α',s,S2,r3⟩:=ih S r2 nd q;refine⟨α',s,S2,?_⟩;unfold aD;exact⟨v,vs',rfl,r1.step s,r3⟩
@[irreducible] def ui(i:Nat)(t:DS):DS:=λ D σ st=>∃(n:Nat) (ds es:List L3.D) (cs:List Nat),σ[i]?=some (some (.ref n))/\st[n]?=some (.lst ds)/\wV st ds es cs/\(n::cs).Nodup/\t D (σ.set i (some (.lst es))) (kill (n::cs) st)
section
variable {X:Cx}
theorem NB{i:Nat}(h:PS X s (LS t)):PS X s (LS (ui i t)):=PS.imp h λ D σ H ⟨α,σd,st,DD,G,F,P,R,S,q,k⟩=>by
 unfold ui at q;obtain⟨n,ds,es,cs,e,e2,hf,nd,q⟩:=q;obtain⟨hn,nd⟩:=Xp.mp nd;have hlt:n<st.length:=(VV.mp e2).1;obtain⟨v,ev,rv⟩:=R.at' i _ e;have r1:=S.Ex e2 rv;unfold Rep at r1;obtain⟨a,vs,rfl,na,h1,h2⟩:=r1
 obtain⟨α',s1,S2,r3⟩:=NC hf (S.eJ hlt) h2 nd λ c hc=>by
  have hne:n≠c:=λ z=>hn (by rw[z];exact hc);exact VW hne
 have s:Step α G α' G:=Step.eJ.trans s1
 have r4:Rep α' G (.lst es) (.ref a):=by
  unfold Rep;refine⟨a,vs,rfl,λ z=>?_,h1,r3⟩;have:=s1.new a z na;rcases h1 with h1|⟨ob,h1⟩<;>(rw[this]at h1;cases h1)
 have R2:dm α' G (σd.set i (some (.lst es))) (σ.set i (some (.ref a))):=(R.step s).set i r4
 have es':σ.set i (some (.ref a))=σ:=by
  refine List.ext_getElem? λ j=>?_;by_cases hj:i=j
  . subst hj;rw[V7 (VV.mp ev).1,ev]
  . rw[VW hj]
 rw[es']at R2;exact⟨α',_,_,DD,G,F,P,R2,S2,q,k.at s⟩
theorem OV{i:Nat}(h:JS X s t):JS X s (ui i t):=by unfold JS at*;exact NB h
end
theorem Nr{st:ae}{i n:Nat}(e:σ[i]?=some (some (.ref n)))(e2:st[n]?=some (.lst ds))(hf:wV st ds es cs)(nd:(n::cs).Nodup)(k:t E (σ.set i (some (.lst es))) (kill (n::cs) st)):ui i t E σ st:=by
 unfold ui;exact⟨n,ds,es,cs,e,e2,hf,nd,k⟩
def Gf:dY:=λ ds st K=>match ds with| [.int i]=>i.natAbs.log2<1920/\K (.str (toString i)) st|_=>False
theorem Tt:bf X (.type "str") (ff Gf):=bf.imp BB λ xs H Q ⟨α,ds,st,K,G,F',P,r,S,q,k⟩=>by
 unfold Gf at q;split at q
 . obtain⟨v,rfl,r1⟩:=fO r rfl;unfold Rep at r1;subst r1;exact⟨_,rfl,q.1,k.here P q.2 S (by unfold Rep;rfl)⟩
 . exact q.elim
@[irreducible] def C8:dY:=Gf
theorem M7:bf X (.type "str") (ff C8):=by unfold C8;exact Tt
theorem Ri{i:Int}{st:ae}{K:DK}(h:i.natAbs.log2<1920)(k:K (.str (toString i)) st):C8 [.int i] st K:=by unfold C8;exact⟨h,k⟩
section
variable {X:Cx}{sc:Scope}{N gl:List Str}{x:Str}{pos:Pos}
theorem VS.lM(V:VS sc N gl)(h:N.contains x=true:=by decide+kernel):Loc sc x:=by
 obtain⟨i,hi,e⟩:=Wt.mp (aaD.mp h);exact V.l i (by rw[V0 hi,e])
theorem VS.gM(V:VS sc N gl)(h:gl.contains x=true:=by decide+kernel):sc.names.lookup x=some .globalImplicit:=by
 obtain⟨i,hi,e⟩:=Wt.mp (aaD.mp h);exact V.g i (by rw[V0 hi,e])
def Pz(N P:List Str)(sc:Scope):Bool:=(sc.kind== .function)&& !sc.isCoroutine&& !sc.isGenerator&&decide N.Nodup&&(N.take P.length==P)&&P.all (λ x=>sc.names.lookup x==some .local||sc.names.lookup x==some .cell)&&sc.names.all λ y=>y.2 != .free
structure VF(s:Stmt)(N P gl:List Str):Prop where
 v:VS (a9 s) N gl
 sc:kD N P (a9 s)
theorem VF.of{N P gl:List Str}(h:(F5 (a9 s) N gl&&Pz N P (a9 s))=true):VF s N P gl:=by
 obtain⟨h1,h2⟩:=YH.mp h;unfold Pz at h2;simp only[Wv,XZ,Bool.not_eq_true',Y4,Wm,Zw,Zv,ne_eq]at h2;obtain⟨⟨⟨⟨⟨⟨a,b⟩,c⟩,d⟩,e⟩,f⟩,g⟩:=h2;exact⟨⟨h1⟩,a,b,c,d,e,f,g⟩
def UA:Expr->List Str
 | .Name x _=>[x]
 | .Tuple [.Name x _,.Name y _] _ _=>[x,y]
 | .Tuple [.Name x _,.Name y _,.Name z _] _ _=>[x,y,z]
 | .Tuple [.Tuple [.Name x _,.Name y _] _ _,.Name z _] _ _=>[x,y,z]
 |_=>[]
def fj(tg:Expr)(fr:List (Option Nat))(N:List Str):List Str:=UA tg++(fr.filterMap id).map λ k=>N.getD k ""
variable {scope:Scope}{elt tg iter:Expr}{ifs:List Expr}{src:DI}{fr:List (Option Nat)}{dtg:dU}{t:DT}{te:DE}{pos' p:Pos}
theorem OQ(V:VS sc N gl)(h:iS sc N scope (fj tg fr N) fr=true)(hi:JI X tg iter src)(hg:∀C s H ex,JG (bp X scope (fj tg fr N) C s H ex) tg dtg)(ht:∀C s H ex,JC (bp X scope (fj tg fr N) C s H ex) ifs t)(he:∀C s H ex,JE (bp X scope (fj tg fr N) C s H ex) elt te)(fit:jZ fr dtg)(hsc:X.env.scope=sc:=by rfl)(hN:X.N=N:=by rfl)
 (hx:X.xe=λ _ _=>False:=by rfl) (hc:X.calm=true:=by rfl) (hs:∀x,foldedSetIterable iter X.env x=pure x:=by intro _;rfl):JE X (.ListComp elt [⟨tg,iter,ifs,0⟩] scope pos) (bh src fr dtg t te):=CO (cA.look sc N h hsc hN) hi hg ht he fit hx hc hs
theorem J5(V:VS sc N gl)(h:iS sc N scope (fj tg fr N) fr=true)(hi:JI X tg iter src)(hg:∀C s H ex,JG (bp X scope (fj tg fr N) C s H ex) tg dtg)(ht:∀C s H ex,JC (bp X scope (fj tg fr N) C s H ex) ifs t)(he:∀C s H ex,JE (bp X scope (fj tg fr N) C s H ex) elt te)(fit:jZ fr dtg)(hsc:X.env.scope=sc:=by rfl)(hN:X.N=N:=by rfl)
 (hx:X.xe=λ _ _=>False:=by rfl) (hc:X.calm=true:=by rfl) (hs:∀x,foldedSetIterable iter X.env x=pure x:=by intro _;rfl):JE X (.ListComp elt [⟨tg,iter,ifs,0⟩] scope pos) (fG src fr dtg t te):=pq (cA.look sc N h hsc hN) hi hg ht he fit hx hc hs
theorem K3{k:Nat}(V:VS sc N gl)(hn:X.N.Nodup)(hl:Loc X.env.scope x)(h:iS sc N scope (fj tg fr N) fr=true)(hi:JI X tg iter src)(hg:∀C s H ex,JG (bp X scope (fj tg fr N) C s H ex) tg dtg)(ht:∀C s H ex,JC (bp X scope (fj tg fr N) C s H ex) ifs t)(he:∀C s H ex,JE (bp X scope (fj tg fr N) C s H ex) elt te)(fit:jZ fr dtg)(hsc:X.env.scope=sc:=by rfl)(hN:X.N=N:=by rfl)
 (hf:X.fn x=true\/X.env.scope.names.lookup x=some .local:=by first|exact .inl rfl|exact .inr rfl) (hsw:swapsWith (.ListComp elt [⟨tg,iter,ifs,0⟩] scope p) (some (.Name x pos')) pos.line X.env=pure true:=by rfl) (hni:X.N[k]?=some x:=by rfl) (hx:X.xe=λ _ _=>False:=by rfl) (hc:X.calm=true:=by rfl) (hs:∀x,foldedSetIterable iter X.env x=pure x:=by intro _;rfl):
 JS X (.Assign [.Name x pos'] (.ListComp elt [⟨tg,iter,ifs,0⟩] scope p) pos) (a6 k (bh src fr dtg t te)):=E8 hn hl (cA.look sc N h hsc hN) hi hg ht he fit hf hsw hni hx hc hs
theorem Ih{k:Nat}(V:VS sc N gl)(hn:X.N.Nodup)(hl:Loc X.env.scope x)(h:iS sc N scope (fj tg fr N) fr=true)(hi:JI X tg iter src)(hg:∀C s H ex,JG (bp X scope (fj tg fr N) C s H ex) tg dtg)(ht:∀C s H ex,JC (bp X scope (fj tg fr N) C s H ex) ifs t)(he:∀C s H ex,JE (bp X scope (fj tg fr N) C s H ex) elt te)(fit:jZ fr dtg)(hsc:X.env.scope=sc:=by rfl)(hN:X.N=N:=by rfl)
 (hf:X.fn x=true\/X.env.scope.names.lookup x=some .local:=by first|exact .inl rfl|exact .inr rfl) (hsw:swapsWith (.ListComp elt [⟨tg,iter,ifs,0⟩] scope p) (some (.Name x pos')) pos.line X.env=pure true:=by rfl) (hni:X.N[k]?=some x:=by rfl) (hx:X.xe=λ _ _=>False:=by rfl) (hc:X.calm=true:=by rfl) (hs:∀x,foldedSetIterable iter X.env x=pure x:=by intro _;rfl):
 JS X (.Assign [.Name x pos'] (.ListComp elt [⟨tg,iter,ifs,0⟩] scope p) pos) (a6 k (fG src fr dtg t te)):=Kk hn hl (cA.look sc N h hsc hN) hi hg ht he fit hf hsw hni hx hc hs
variable {X0:Cx}{scope0:Scope}{Nc:List Str}{C:Addr}{s:Shared}{H:Hp}{ex:List Addr}
theorem OO(h:iS scope0 Nc scope (fj tg fr Nc) fr=true)(hi:JI (bp X0 scope0 Nc C s H ex) tg iter src)(hg:∀C' s' H' ex',JG (bp (bp X0 scope0 Nc C s H ex) scope (fj tg fr Nc) C' s' H' ex') tg dtg)(ht:∀C' s' H' ex',JC (bp (bp X0 scope0 Nc C s H ex) scope (fj tg fr Nc) C' s' H' ex') ifs t)(he:∀C' s' H' ex',JE (bp (bp X0 scope0 Nc C s H ex) scope (fj tg fr Nc) C' s' H' ex') elt te)(fit:jZ fr dtg)
 (hx:(bp X0 scope0 Nc C s H ex).xe=λ _ _=>False:=by rfl) (hc:(bp X0 scope0 Nc C s H ex).calm=true:=by rfl) (hs:∀x,foldedSetIterable iter (bp X0 scope0 Nc C s H ex).env x=pure x:=by intro _;rfl):JE (bp X0 scope0 Nc C s H ex) (.ListComp elt [⟨tg,iter,ifs,0⟩] scope pos) (bh src fr dtg t te):=CO (cA.L0 h) hi hg ht he fit hx hc hs
theorem K_(h:iS scope0 Nc scope (fj tg fr Nc) fr=true)(hi:JI (bp X0 scope0 Nc C s H ex) tg iter src)(hg:∀C' s' H' ex',JG (bp (bp X0 scope0 Nc C s H ex) scope (fj tg fr Nc) C' s' H' ex') tg dtg)(ht:∀C' s' H' ex',JC (bp (bp X0 scope0 Nc C s H ex) scope (fj tg fr Nc) C' s' H' ex') ifs t)(he:∀C' s' H' ex',JE (bp (bp X0 scope0 Nc C s H ex) scope (fj tg fr Nc) C' s' H' ex') elt te)(fit:jZ fr dtg)
 (hx:(bp X0 scope0 Nc C s H ex).xe=λ _ _=>False:=by rfl) (hc:(bp X0 scope0 Nc C s H ex).calm=true:=by rfl) (hs:∀x,foldedSetIterable iter (bp X0 scope0 Nc C s H ex).env x=pure x:=by intro _;rfl):JE (bp X0 scope0 Nc C s H ex) (.ListComp elt [⟨tg,iter,ifs,0⟩] scope pos) (fG src fr dtg t te):=pq (cA.L0 h) hi hg ht he fit hx hc hs
theorem TC{k:Nat}(hn:Nc.Nodup:=by decide+kernel)(hx:Loc (bp X0 scope0 Nc C s H ex).env.scope x:=by first|exact Or.inl rfl|exact Or.inr rfl)(hf:(bp X0 scope0 Nc C s H ex).fn x=true\/(bp X0 scope0 Nc C s H ex).env.scope.names.lookup x=some .local:=by first|exact .inl rfl|exact .inr rfl)(hi:Nc[k]?=some x:=by rfl):JG (bp X0 scope0 Nc C s H ex) (.Name x pos) (aM k):=pX hn hx hf hi
theorem Q4{k j n:Nat}(hn:Nc.Nodup:=by decide+kernel)(hx:Loc (bp X0 scope0 Nc C s H ex).env.scope x:=by first|exact Or.inl rfl|exact Or.inr rfl)(hf:(bp X0 scope0 Nc C s H ex).fn x=true\/(bp X0 scope0 Nc C s H ex).env.scope.names.lookup x=some .local:=by first|exact .inl rfl|exact .inr rfl)(hy:Loc (bp X0 scope0 Nc C s H ex).env.scope y:=by first|exact Or.inl rfl|exact Or.inr rfl)(hg:(bp X0 scope0 Nc C s H ex).fn y=true\/(bp X0 scope0 Nc C s H ex).env.scope.names.lookup y=some .local:=by first|exact .inl rfl|exact .inr rfl)(hi:Nc[k]?=some x:=by rfl)(hj:Nc[j]?=some y:=by rfl)(hc:(bp X0 scope0 Nc C s H ex).calm=true:=by rfl):JG (bp X0 scope0 Nc C s H ex) (.Tuple [.Name x px,.Name y py] n pos) (fI k j):=Mm hc hn hx hf hy hg hi hj
theorem VS.loc(V:VS sc N gl)(h:sc.names.lookup x=some .local:=by decide+kernel):sc.names.lookup x=some .local:=h
end
end L3
namespace Mx
def S:Nat->(Nat->Int)->Int
 |0,_=>0
 |n+1,f=>S n f+f n
theorem aG{f g:Nat->Int}(h:∀i,i<n->f i=g i):S n f=S n g:=by
 induction n with
 |zero=>rfl
 |succ n ih=>unfold S;rw[ih λ i hi=>h i (by omega),h n (by omega)]
theorem f_{f:Nat->Int}(h:∀i,i<n->f i=0):S n f=0:=by
 induction n with
 |zero=>rfl
 |succ n ih=>unfold S;rw[ih λ i hi=>h i (by omega),h n (by omega)];rfl
theorem g8(n:Nat)(f g:Nat->Int):S n (λ i=>f i+g i)=S n f+S n g:=by
 induction n with
 |zero=>rfl
 |succ n ih=>unfold S;rw[ih];dsimp only;omega
theorem fP(n:Nat)(c:Int)(f:Nat->Int):S n (λ i=>c*f i)=c*S n f:=by
 induction n with
 |zero=>unfold S;rw[WR]
 |succ n ih=>unfold S;rw[ih,Int.mul_add]
theorem Cz(n:Nat)(c:Int)(f:Nat->Int):S n (λ i=>f i*c)=S n f*c:=by
 induction n with
 |zero=>unfold S;rw[W4]
 |succ n ih=>unfold S;rw[ih,Int.add_mul]
theorem qK(n:Nat)(f:Nat->Int):S n (λ i=> -f i)= -S n f:=by
 induction n with
 |zero=>rfl
 |succ n ih=>unfold S;rw[ih];dsimp only;omega
theorem w6(m n:Nat)(f:Nat->Nat->Int):S m (λ i=>S n λ j=>f i j)=S n λ j=>S m λ i=>f i j:=by
 induction m with
 |zero=>exact(f_ (n:=n) (λ i _=>rfl)).symm
 |succ m ih=>
  have:S n (λ j=>S (m+1) λ i=>f i j)=S n λ j=>(S m λ i=>f i j)+f m j:=aG λ j _=>rfl;rw[this,g8,<-ih];rfl
theorem jc{k:Nat}(hk:k<n){f:Nat->Int}(h:∀i,i<n->i≠k->f i=0):S n f=f k:=by
 induction n with
 |zero=>omega
 |succ n ih=>
  unfold S;by_cases e:k=n
  . subst e;rw[f_ λ i hi=>h i (by omega) (by omega),YC]
  . rw[ih (by omega) λ i hi hn=>h i (by omega) hn,h n (by omega) (by omega),Yq]
theorem Je(n:Nat)(f:Nat->Int):S (n+1) f=f 0+S n λ i=>f (i+1):=by
 induction n with
 |zero=>unfold S S;omega
 |succ n ih=>
  have:S (n+1+1) f=S (n+1) f+f (n+1):=rfl;rw[this,ih];have:S (n+1) (λ i=>f (i+1))=S n (λ i=>f (i+1))+f (n+1):=rfl;rw[this];omega
def dl(i j:Nat):Int:=if i=j then 1 else 0
theorem cR(i:Nat):dl i i=1:=VU rfl
theorem dw{i j:Nat}(h:i≠j):dl i j=0:=VT h
theorem pD{n k:Nat}(hk:k<n)(f:Nat->Int):S n (λ i=>dl k i*f i)=f k:=by
 rw[jc hk (λ i _ h=>by rw[dw (V6 h),W4]),cR,aau]
theorem w_{n k:Nat}(hk:k<n)(f:Nat->Int):S n (λ i=>f i*dl i k)=f k:=by
 rw[jc hk (λ i _ h=>by rw[dw h,WR]),cR,Y6]
abbrev Row:=List Int
abbrev Rows:=List (List Int)
def g(A:Rows)(i j:Nat):Int:=(A.getD i []).getD j 0
structure aL(m n:Nat)(A:Rows):Prop where
 len:A.length=m
 cM:∀r∈A,r.length=n
theorem ba{α:Type}{l:List α}{i:Nat}{d:α}(h:i<l.length):l.getD i d=l[i]:=by
 rw[V1,V0 h];rfl
theorem ko{α:Type}{l:List α}{i:Nat}{d:α}(h:l.length<=i):l.getD i d=d:=by
 rw[V1,Zi h];rfl
theorem OP{a b:Row}{n:Nat}(ha:a.length=n)(hb:b.length=n)(h:∀j,j<n->a.getD j 0=b.getD j 0):a=b:=by
 refine List.ext_getElem (by omega) λ i h1 h2=>?_;have:=h i (by omega);rwa [ba h1,ba h2]at this
theorem aL.row{m n:Nat}{A:Rows}(h:aL m n A){i:Nat}(hi:i<m):(A.getD i []).length=n:=by
 have hl:=h.len;rw[ba (by omega)];exact h.cM _ (XY _)
theorem aL.ext{m n:Nat}{A B:Rows}(ha:aL m n A)(hb:aL m n B)(h:∀i j,i<m->j<n->g A i j=g B i j):A=B:=by
 have h1:=ha.len;have h2:=hb.len;refine List.ext_getElem (by omega) λ i hi hj=>?_;have e1:=ha.row (i:=i) (by omega);have e2:=hb.row (i:=i) (by omega);have:=OP e1 e2 λ j hj=>h i j (by omega) hj;rwa [ba hi,ba hj]at this
def fU(r:Row)(t:Int)(s:Row):Row:=List.zipWith (λ a b=>a+t*b) r s
theorem m5(h:r.length=s.length):(fU r t s).length=r.length:=by unfold fU;simp[h]
theorem yx{r s:Row}{t:Int}(h:r.length=s.length)(j:Nat):(fU r t s).getD j 0=r.getD j 0+t*s.getD j 0:=by
 unfold fU;by_cases hj:j<r.length
 . rw[ba (by simp;omega),ba hj,ba (by omega)];simp
 . rw[ko (by simp;omega),ko (by omega),ko (by omega)];simp
def dM:Row->Rows->Row->Row
 |w::ws,r::rs,acc=>dM ws rs (fU acc w r)
 |_,_,acc=>acc
theorem zo:∀ {ws:Row} {rs:Rows} {acc:Row},acc.length=n->(∀r∈rs,r.length=n)->(dM ws rs acc).length=n
 | [],_,acc,h,_=>by unfold dM;exact h
 |_::_,[],acc,h,_=>by unfold dM;exact h
 |w::ws,r::rs,acc,h,hr=>by
  unfold dM;refine zo ?_ λ r hr'=>hr r (V5 _ hr');rw[m5 (by rw[h,hr r V_]),h]
theorem Dk:∀ {ws:Row} {rs:Rows} {acc:Row} (j:Nat),acc.length=n->(∀r∈rs,r.length=n)->ws.length=rs.length->(dM ws rs acc).getD j 0=acc.getD j 0+S rs.length λ k=>ws.getD k 0*g rs k j
 | [],[],acc,j,h,_,_=>by unfold dM;show _=_+(0:Int);rw[Yq]
 | [],_::_,acc,j,h,_,hl=>by cases hl
 |_::_,[],acc,j,h,_,hl=>by cases hl
 |w::ws,r::rs,acc,j,h,hr,hl=>by
  have e1:acc.length=r.length:=by rw[h,hr r V_]
  unfold dM;rw[Dk j (by rw[m5 e1,h]) (λ r hr'=>hr r (V5 _ hr')) (by simpa using hl),yx e1,Ws,Je]
  have:(λ k=>(w::ws).getD (k+1) 0*g (r::rs) (k+1) j)=λ k=>ws.getD k 0*g rs k j:=by
   funext k;unfold g;simp
  rw[this];unfold g;simp;omega
def mulM(A B:Rows)(n:Nat):Rows:=A.map λ w=>dM w B (List.replicate n 0)
theorem dh(n j:Nat):(List.replicate n (0:Int)).getD j 0=0:=by
 by_cases h:j<n
 . rw[ba (by simpa using h)];simp
 . rw[ko (by simp;omega)]
theorem mO(ha:aL m p A)(hb:aL p n B):aL m n (mulM A B n):=by
 refine⟨by unfold mulM;rw[VO];exact ha.len,λ r hr=>?_⟩;unfold mulM at hr;obtain⟨w,_,rfl⟩:=V9.mp hr;exact zo (by simp) hb.cM
theorem map_getD{α:Type}{f:Row->List α}{A:Rows}{i:Nat}(h:i<A.length):(A.map f).getD i []=f (A.getD i []):=by
 rw[ba (by simpa using h),ba h];simp
theorem yv(ha:aL m p A)(hb:aL p n B){i:Nat}(hi:i<m)(j:Nat):g (mulM A B n) i j=S p λ k=>g A i k*g B k j:=by
 have hl:=ha.len;show((mulM A B n).getD i []).getD j 0=_;unfold mulM;rw[map_getD (by omega),Dk (n:=n) j (by simp) hb.cM (by rw[ha.row hi,hb.len]),dh,YC,hb.len];rfl
def eX(n i:Nat):Row:=(List.range n).map λ k=>dl k i
def units(n:Nat):Rows:=(List.range n).map λ i=>eX n i
theorem range_getD{α:Type}{f:Nat->α}{n i:Nat}{d:α}(h:i<n):((List.range n).map f).getD i d=f i:=by
 rw[ba (by simpa using h)];simp
theorem j6(n:Nat):aL n n (units n):=⟨by simp[units],λ r hr=>by unfold units at hr;obtain⟨i,_,rfl⟩:=V9.mp hr;simp[eX]⟩
theorem gD{n i j:Nat}(hi:i<n)(hj:j<n):g (units n) i j=dl i j:=by
 unfold g units eX;rw[range_getD hi,range_getD hj];unfold dl;by_cases h:i=j
 . subst h;rfl
 . rw[VT (V6 h),VT h]
def qr(A:Rows)(j:Nat):Row:=A.map λ r=>r.getD j 0
def mh(A:Rows)(n:Nat):Rows:=(List.range n).map λ j=>qr A j
theorem A7(ha:aL m n A):aL n m (mh A n):=⟨by simp[mh],λ r hr=>by
 unfold mh at hr;obtain⟨j,_,rfl⟩:=V9.mp hr;unfold qr;rw[VO,ha.len]⟩
theorem OU{A:Rows}{i:Nat}(j:Nat)(h:i<A.length):(qr A j).getD i 0=g A i j:=by
 unfold qr g;rw[ba (by simpa using h),ba h];simp
theorem Jm{m n:Nat}{A:Rows}(ha:aL m n A){i j:Nat}(hi:i<m)(hj:j<n):g (mh A n) j i=g A i j:=by
 show((mh A n).getD j []).getD i 0=_;unfold mh;rw[range_getD hj,OU j (by rw[ha.len];exact hi)]
def Rz:Row->Row->Int
 |a::as,b::bs=>a*b+Rz as bs
 |_,_=>0
theorem x5(i j:Nat):dl i j=dl j i:=by
 unfold dl;by_cases h:i=j
 . rw[VU h,VU h.symm]
 . rw[VT h,VT (V6 h)]
def sw(i j k:Nat):Nat:=if k=i then j else if k=j then i else k
theorem UD{n i j:Nat}(hi:i<n)(hj:j<n)(hij:i≠j)(f:Nat->Int):S n (λ k=>f (sw i j k))=S n f:=by
 have:S n (λ k=>f (sw i j k))=S n λ k=>f k+(f j-f i)*dl k i+(f i-f j)*dl k j:=aG λ k _=>by
  unfold sw;by_cases h1:k=i
  . subst h1;rw[VU rfl,cR,dw hij];omega
  . rw[VT h1,dw h1];by_cases h2:k=j
    . subst h2;rw[VU rfl,cR];omega
    . rw[VT h2,dw h2];omega
 rw[this,g8,g8,w_ (f:=λ _=>f j-f i) hi,w_ (f:=λ _=>f i-f j) hj];omega
abbrev Fn:=Nat->Nat->Int
def sk(j c:Nat):Nat:=if c<j then c else c+1
def sg(j:Nat):Int:=if j%2=0 then 1 else-1
theorem yL(j:Nat):sg (j+1)= -sg j:=by unfold sg;split<;>split<;>omega
theorem Fd:sg 0=1:=rfl
theorem kJ{j c n:Nat}(h:c<n):sk j c<n+1:=by unfold sk;split<;>omega
theorem Tf{j k c:Nat}(h:k<j):sk j (sk k c)=sk k (sk (j-1) c):=by unfold sk;grind
def D:Nat->Fn->Int
 |0,_=>1
 |n+1,M=>S (n+1) λ j=>sg j*M 0 j*D n λ r c=>M (r+1) (sk j c)
theorem Ru(M:Fn):D 0 M=1:=rfl
theorem dQ(n:Nat)(M:Fn):D (n+1) M=S (n+1) λ j=>sg j*M 0 j*D n λ r c=>M (r+1) (sk j c):=rfl
theorem df:∀ {n:Nat} {M M':Fn},(∀r c,r<n->c<n->M r c=M' r c)->D n M=D n M'
 |0,_,_,_=>rfl
 |n+1,M,M',h=>by
  rw[dQ,dQ];refine aG λ j hj=>?_;have e:D n (λ r c=>M (r+1) (sk j c))=D n (λ r c=>M' (r+1) (sk j c)):=df λ r c hr hc=>h (r+1) (sk j c) (by omega) (kJ hc);rw[h 0 j (by omega) hj,e]
theorem Ng:∀ {n:Nat} {M P Q:Fn} {a b:Int} {i:Nat},i<n->(∀c,c<n->M i c=a*P i c+b*Q i c)->(∀r c,r<n->c<n->r≠i->M r c=P r c/\M r c=Q r c)->D n M=a*D n P+b*D n Q
 |0,_,_,_,_,_,_,h,_,_=>by omega
 |n+1,M,P,Q,a,b,0,_,h0,h=>by
  rw[dQ,dQ,dQ,<-fP,<-fP,<-g8];refine aG λ j hj=>?_;have e1:D n (λ r c=>M (r+1) (sk j c))=D n (λ r c=>P (r+1) (sk j c)):=df λ r c hr hc=>(h (r+1) (sk j c) (by omega) (kJ hc) (by omega)).1;have e2:D n (λ r c=>M (r+1) (sk j c))=D n (λ r c=>Q (r+1) (sk j c)):=df λ r c hr hc=>(h (r+1) (sk j c) (by omega) (kJ hc) (by omega)).2;rw[h0 j hj,<-e1,<-e2];grind
 |n+1,M,P,Q,a,b,i+1,hi,h0,h=>by
  rw[dQ,dQ,dQ,<-fP,<-fP,<-g8];refine aG λ j hj=>?_;have e:=Ng (n:=n) (M:=λ r c=>M (r+1) (sk j c)) (P:=λ r c=>P (r+1) (sk j c)) (Q:=λ r c=>Q (r+1) (sk j c)) (a:=a) (b:=b) (i:=i) (by omega) (λ c hc=>h0 (sk j c) (kJ hc)) λ r c hr hc hne=>h (r+1) (sk j c) (by omega) (kJ hc) (by omega);have p:=h 0 j (by omega) hj (by omega);rw[e,<-p.1,<-p.2];grind
theorem Um(h:∀c,c<n+2->M 0 c=M 1 c):D (n+2) M=0:=by
 let T:Nat->Nat->Int:=λ j k=>sg j*M 0 j*(sg k*M 1 (sk j k)*D n λ r c=>M (r+2) (sk j (sk k c)))
 have e1:∀j,j<n+2->sg j*M 0 j*D (n+1) (λ r c=>M (r+1) (sk j c))=S (n+1) λ k=>T j k:=λ j hj=>by
  rw[dQ,<-fP]
 rw[dQ,aG e1]
 have e2:∀j,j<n+2->S (n+1) (λ k=>T j k)=S (n+1) (λ k=>if k<j then T j k else 0)+S (n+1) (λ k=>if k<j then 0 else T j k):=λ j _=>by
  rw[<-g8];refine aG λ k _=>?_;split<;>omega
 rw[aG e2,g8]
 have e3:∀j k,j<n+2->k<n+1->¬k<j->T j k= -T (k+1) j:=λ j k hj hk hjk=>by
  have s1:sk (k+1) j=j:=by unfold sk;rw[VU (by omega)]
  have s2:sk j k=k+1:=by unfold sk;rw[VT hjk]
  have s3:(λ r c=>M (r+2) (sk (k+1) (sk j c)))=λ r c=>M (r+2) (sk j (sk k c)):=by
   funext r c;rw[Tf (show j<k+1 by omega)];rfl
  show sg j*M 0 j*(sg k*M 1 (sk j k)*D n λ r c=>M (r+2) (sk j (sk k c)))= -(sg (k+1)*M 0 (k+1)*(sg j*M 1 (sk (k+1) j)*D n λ r c=>M (r+2) (sk (k+1) (sk j c))));rw[s1,s2,s3,yL,<-h j hj,<-h (k+1) (by omega)];grind
 have e4:S (n+2) (λ j=>S (n+1) λ k=>if k<j then 0 else T j k)= -S (n+2) (λ j=>S (n+1) λ k=>if k<j then T j k else 0):=by
  rw[w6,Je (n+1) (λ j=>S (n+1) λ k=>if k<j then T j k else 0)];have z:S (n+1) (λ k=>if k<0 then T 0 k else 0)=0:=f_ λ k _=>VT (by omega);rw[z,YC,<-qK];refine aG λ k hk=>?_;have:S (n+2) (λ j=>if k<j then 0 else T j k)=S (n+1) (λ j=>if k<j then 0 else T j k)+(if k<n+1 then 0 else T (n+1) k):=rfl;rw[this,VU hk,Yq,<-qK];refine aG λ j hj=>?_;by_cases hkj:k<j
  . rw[VU hkj,VT (by omega)];rfl
  . rw[VT hkj,VU (by omega)];exact e3 j k (by omega) hk hkj
 rw[e4];omega
theorem Me:∀ {n:Nat} {M:Fn} {i:Nat},i+1<n->(∀c,c<n->M i c=M (i+1) c)->D n M=0
 |0,_,_,h,_=>by omega
 |1,_,_,h,_=>by omega
 |n+2,M,0,_,h=>Um h
 |n+2,M,i+1,hi,h=>by
  rw[dQ];refine f_ λ j hj=>?_;rw[Me (n:=n+1) (M:=λ r c=>M (r+1) (sk j c)) (i:=i) (by omega) λ c hc=>h (sk j c) (kJ hc),WR]
structure Alt(n:Nat)(φ:Fn->Int):Prop where
 cg:∀M M':Fn,(∀r c,r<n->c<n->M r c=M' r c)->φ M=φ M'
 mj:∀(i:Nat) (M P Q:Fn) (a b:Int),i<n->(∀c,c<n->M i c=a*P i c+b*Q i c)->(∀r c,r<n->c<n->r≠i->M r c=P r c/\M r c=Q r c)->φ M=a*φ P+b*φ Q
 alt:∀(i j:Nat) (M:Fn),i<n->j<n->i≠j->(∀c,c<n->M i c=M j c)->φ M=0
def upd(M:Fn)(i:Nat)(x:Nat->Int):Fn:=λ r c=>if r=i then x c else M r c
theorem cy(M:Fn)(i:Nat)(x:Nat->Int)(c:Nat):upd M i x i c=x c:=VU rfl
theorem ay{i r:Nat}{x:Nat->Int}(h:r≠i)(c:Nat):upd M i x r c=M r c:=VT h
theorem TX{n i j:Nat}{φ:Fn->Int}(cg:∀M M':Fn,(∀r c,r<n->c<n->M r c=M' r c)->φ M=φ M')
 (mj:∀(i:Nat) (M P Q:Fn) (a b:Int),i<n->(∀c,c<n->M i c=a*P i c+b*Q i c)->(∀r c,r<n->c<n->r≠i->M r c=P r c/\M r c=Q r c)->φ M=a*φ P+b*φ Q)
 (hi:i<n) (hj:j<n) (hij:i≠j) (alt:∀N:Fn,(∀c,c<n->N i c=N j c)->φ N=0) (M:Fn):φ (λ r=>M (sw i j r))= -φ M:=by
 have l1:φ (upd (upd M i λ c=>M i c+M j c) j λ c=>M i c+M j c)=1*φ (upd (upd M i (M i)) j λ c=>M i c+M j c)+1*φ (upd (upd M i (M j)) j λ c=>M i c+M j c):=
  mj i _ _ _ 1 1 hi (λ c _=>by rw[ay hij,ay hij,ay hij,cy,cy,cy];omega) λ r c _ _ hr=>by
   unfold upd;grind
 have l2:∀x:Nat->Int,φ (upd (upd M i x) j λ c=>M i c+M j c)=1*φ (upd (upd M i x) j (M i))+1*φ (upd (upd M i x) j (M j)):=λ x=>
  mj j _ _ _ 1 1 hj (λ c _=>by rw[cy,cy,cy];omega) λ r c _ _ hr=>by
   rw[ay hr,ay hr,ay hr];exact⟨rfl,rfl⟩
 have z0:φ (upd (upd M i λ c=>M i c+M j c) j λ c=>M i c+M j c)=0:=alt _ λ c _=>by rw[ay hij,cy,cy]
 have z1:φ (upd (upd M i (M i)) j (M i))=0:=alt _ λ c _=>by rw[ay hij,cy,cy]
 have z2:φ (upd (upd M i (M j)) j (M j))=0:=alt _ λ c _=>by rw[ay hij,cy,cy]
 have s1:φ (upd (upd M i (M i)) j (M j))=φ M:=cg _ _ λ r c _ _=>by
  unfold upd;split
  . rename_i e;rw[e]
  . split
    . rename_i e;rw[e]
    . rfl
 have s2:φ (upd (upd M i (M j)) j (M i))=φ (λ r=>M (sw i j r)):=cg _ _ λ r c _ _=>by
  unfold upd sw;by_cases h1:r=j
  . rw[VU h1];by_cases h2:r=i
    . omega
    . rw[VT h2,VU h1]
  . rw[VT h1];by_cases h2:r=i
    . rw[VU h2,VU h2]
    . rw[VT h2,VT h2,VT h1]
 have a1:=l2 (M i);have a2:=l2 (M j);rw[z1,s1]at a1;rw[z2,s2]at a2;rw[z0,a1,a2]at l1;omega
theorem Alt.swap{n i j:Nat}{φ:Fn->Int}(A:Alt n φ)(hi:i<n)(hj:j<n)(hij:i≠j)(M:Fn):φ (λ r=>M (sw i j r))= -φ M:=
 TX A.cg A.mj hi hj hij (λ N h=>A.alt i j N hi hj hij h) M
theorem wU{φ:Fn->Int}(cg:∀M M':Fn,(∀r c,r<n->c<n->M r c=M' r c)->φ M=φ M')
 (mj:∀(i:Nat) (M P Q:Fn) (a b:Int),i<n->(∀c,c<n->M i c=a*P i c+b*Q i c)->(∀r c,r<n->c<n->r≠i->M r c=P r c/\M r c=Q r c)->φ M=a*φ P+b*φ Q)
 (adj:∀(i:Nat) (M:Fn),i+1<n->(∀c,c<n->M i c=M (i+1) c)->φ M=0):Alt n φ:=by
 have far:∀(d i:Nat) (M:Fn),i+d+1<n->(∀c,c<n->M i c=M (i+d+1) c)->φ M=0:=by
  intro d;induction d with
  |zero=>exact λ i M h1 h2=>adj i M h1 h2
  |succ d ih=>
   intro i M h1 h2;have hs:=TX cg mj (i:=i+d+1) (j:=i+d+1+1) (by omega) (by omega) (by omega) (λ N h=>adj (i+d+1) N (by omega) h) M
   have:φ (λ r=>M (sw (i+d+1) (i+d+1+1) r))=0:=ih i _ (by omega) λ c hc=>by
    have e1:sw (i+d+1) (i+d+1+1) i=i:=by unfold sw;rw[VT (by omega),VT (by omega)]
    have e2:sw (i+d+1) (i+d+1+1) (i+d+1)=i+d+1+1:=by unfold sw;rw[VU rfl]
    rw[e1,e2];exact h2 c hc
   omega
 refine⟨cg,mj,λ i j M hi hj hij h=>?_⟩;by_cases hlt:i<j
 . obtain⟨d,rfl⟩:∃d,j=i+d+1:=⟨j-i-1,by omega⟩
   exact far d i M hj h
 . obtain⟨d,rfl⟩:∃d,i=j+d+1:=⟨i-j-1,by omega⟩
   exact far d j M hi λ c hc=>(h c hc).symm
theorem wu(n:Nat):Alt n (D n):=wU (λ _ _ h=>df h) (λ _ _ _ _ _ _ hi h0 h=>Ng hi h0 h) λ _ _ h1 h2=>Me h1 h2
theorem Alt.Uz{n i:Nat}{φ:Fn->Int}(A:Alt n φ)(hi:i<n)(h:∀c,c<n->M i c=0):φ M=0:=by
 have:=A.mj i M M M 0 0 hi (λ c hc=>by rw[h c hc];rfl) λ _ _ _ _ _=>⟨rfl,rfl⟩
 omega
theorem Alt.IC{n i:Nat}{φ:Fn->Int}(A:Alt n φ)(hi:i<n)(M:Fn)(t:Int)(x:Nat->Int):φ (upd M i λ c=>t*x c)=t*φ (upd M i x):=by
 have:=A.mj i (upd M i λ c=>t*x c) (upd M i x) (upd M i x) t 0 hi (λ c hc=>by rw[cy,cy];omega) λ r c _ _ hr=>by rw[ay hr,ay hr];exact⟨rfl,rfl⟩
 omega
theorem Alt.Hf{n i:Nat}{φ:Fn->Int}(A:Alt n φ)(hi:i<n)(M:Fn)(x y:Nat->Int):φ (upd M i λ c=>x c+y c)=φ (upd M i x)+φ (upd M i y):=by
 have:=A.mj i (upd M i λ c=>x c+y c) (upd M i x) (upd M i y) 1 1 hi (λ c hc=>by rw[cy,cy,cy];omega) λ r c _ _ hr=>by rw[ay hr,ay hr,ay hr];exact⟨rfl,rfl⟩
 omega
theorem Alt.wz{n i:Nat}{φ:Fn->Int}(A:Alt n φ)(hi:i<n)(M:Fn)(a:Nat->Int)(x:Nat->Nat->Int):∀m,φ (upd M i λ c=>S m λ j=>a j*x j c)=S m λ j=>a j*φ (upd M i (x j))
 |0=>A.Uz hi λ c _=>by rw[cy];rfl
 |m+1=>by
  have:(λ c=>S (m+1) λ j=>a j*x j c)=λ c=>(S m λ j=>a j*x j c)+a m*x m c:=rfl;rw[this,A.Hf hi,A.wz hi M a x m,A.IC hi];rfl
def un(j c:Nat):Nat:=if c<j then c else c-1
def grow(j:Nat)(B:Fn):Fn:=λ r c=>if r=0 then dl j c else if c=j then 0 else B (r-1) (un j c)
theorem we{n j c:Nat}(hj:j<n+1)(hc:c<n+1)(h:c≠j):un j c<n:=by unfold un;split<;>omega
theorem F6{j c:Nat}(h:c≠j):sk j (un j c)=c:=by unfold sk un;grind
theorem Alt.grow{n j:Nat}{φ:Fn->Int}(A:Alt (n+1) φ)(hj:j<n+1):Alt n λ B=>φ (Mx.grow j B) where
 cg:=λ M M' h=>A.cg _ _ λ r c hr hc=>by
  have:=h (r-1) (un j c);have:=we (c:=c) hj hc;unfold Mx.grow;grind
 mj:=λ i M P Q a b hi h0 h=>A.mj (i+1) _ _ _ a b (by omega) (λ c hc=>by
  have:=h0 (un j c);have:=we (c:=c) hj hc;have e:i+1-1=i:=by omega
  unfold Mx.grow;rw[e];grind) λ r c hr hc hne=>by
  have:=h (r-1) (un j c);have:=we (c:=c) hj hc;unfold Mx.grow;grind
 alt:=λ i k M hi hk hik h=>A.alt (i+1) (k+1) _ (by omega) (by omega) (by omega) λ c hc=>by
  have:=h (un j c);have:=we (c:=c) hj hc;have e:i+1-1=i:=by omega
  have e2:k+1-1=k:=by omega
  unfold Mx.grow;rw[e,e2];grind
theorem Alt.units{φ:Fn->Int}(A:Alt (n+1) φ):∀j,j<n+1->φ (Mx.grow j dl)=sg j*φ dl
 |0,_=>by
  rw[Fd,aau];refine A.cg _ _ λ r c hr hc=>?_;unfold Mx.grow un dl;grind
 |j+1,hj=>by
  have ih:=A.units j (by omega);have s:=A.swap (i:=0) (j:=j+1) (by omega) hj (by omega) (Mx.grow j dl);rw[yL,Y9,<-ih,<-s];refine A.cg _ _ λ r c hr hc=>?_;unfold Mx.grow un dl sw;grind
theorem Alt.Us{n i k:Nat}{φ:Fn->Int}(A:Alt n φ)(hi:i<n)(hk:k<n)(hik:i≠k)(M:Fn)(x:Nat->Int)(t:Int):φ (upd M i λ c=>x c+t*M k c)=φ (upd M i x):=by
 rw[A.Hf hi,A.IC hi M t (M k),A.alt i k (upd M i (M k)) hi hk hik λ c _=>by rw[cy,ay (V6 hik)],WR,Yq]
def zr(j m:Nat)(M:Fn):Fn:=λ r c=>if r=0 then dl j c else if r<=m/\c=j then 0 else M r c
theorem Alt.zr{n j:Nat}{φ:Fn->Int}(A:Alt (n+1) φ)(M:Fn):∀m,m<=n->φ (Mx.zr j m M)=φ (upd M 0 (dl j))
 |0,_=>A.cg _ _ λ r c hr hc=>by unfold Mx.zr upd;grind
 |m+1,hm=>by
  rw[<-A.zr M m (by omega)];have e:=A.Us (i:=m+1) (k:=0) (by omega) (by omega) (by omega) (Mx.zr j m M) (M (m+1)) (-M (m+1) j)
  have e1:φ (Mx.zr j (m+1) M)=φ (upd (Mx.zr j m M) (m+1) λ c=>M (m+1) c+ -M (m+1) j*Mx.zr j m M 0 c):=A.cg _ _ λ r c hr hc=>by
   unfold upd Mx.zr dl;by_cases h0:r=m+1
   . subst h0;by_cases h1:c=j
     . subst h1;simp;omega
     . have:¬j=c:=λ z=>h1 z.symm;simp[h1,this]
   . rw[VT h0];grind
  have e2:φ (upd (Mx.zr j m M) (m+1) (M (m+1)))=φ (Mx.zr j m M):=A.cg _ _ λ r c hr hc=>by
   unfold upd Mx.zr;grind
  rw[e1,e,e2]
theorem Fg:∀ {n:Nat} {φ:Fn->Int},Alt n φ->∀M,φ M=φ dl*D n M
 |0,φ,A,M=>by rw[Ru,Y6];exact A.cg _ _ λ r c hr=>by omega
 |n+1,φ,A,M=>by
  have h1:φ M=S (n+1) λ j=>M 0 j*φ (upd M 0 (dl j)):=by
   rw[<-A.wz (by omega) M (M 0) dl (n+1)];refine A.cg _ _ λ r c hr hc=>?_;by_cases h0:r=0
   . subst h0;rw[cy,w_ hc]
   . rw[ay h0]
  have h2:∀j,j<n+1->φ (upd M 0 (dl j))=φ (Mx.grow j λ r c=>M (r+1) (sk j c)):=λ j hj=>by
   rw[<-A.zr M n (VQ _)];refine A.cg _ _ λ r c hr hc=>?_;unfold Mx.grow Mx.zr;by_cases h0:r=0
   . rw[VU h0,VU h0]
   . rw[VT h0,VT h0];by_cases h3:c=j
     . rw[VU ⟨by omega,h3⟩,VU h3]
     . rw[VT (by omega),VT h3];dsimp only;rw[F6 h3,show r-1+1=r by omega]
  rw[h1,dQ,<-fP];refine aG λ j hj=>?_;have h3:=Fg (A.grow hj) λ r c=>M (r+1) (sk j c);have h4:=A.units j hj;have h5:φ (Mx.grow j λ r c=>M (r+1) (sk j c))=φ (Mx.grow j dl)*D n λ r c=>M (r+1) (sk j c):=h3;rw[h2 j hj,h5,h4];grind
theorem yI:∀n,D n dl=1
 |0=>rfl
 |n+1=>by
  rw[dQ,jc (k:=0) (by omega) λ j hj h0=>by rw[dw (V6 h0),WR,W4]]
  have:D n (λ r c=>dl (r+1) (sk 0 c))=D n dl:=df λ r c _ _=>by
   unfold dl sk;grind
  rw[this,yI n,cR];rfl
theorem Sk(n:Nat)(A B:Fn):D n (λ r c=>S n λ k=>A r k*B k c)=D n A*D n B:=by
 have al:Alt n λ A=>D n (λ r c=>S n λ k=>A r k*B k c):=by
  refine⟨λ M M' h=>df λ r c hr hc=>aG λ k hk=>by rw[h r k hr hk],λ i M P Q a b hi h0 h=>(wu n).mj i _ _ _ a b hi (λ c hc=>?_) λ r c hr hc hne=>⟨aG λ k hk=>by rw[(h r k hr hk hne).1],aG λ k hk=>by rw[(h r k hr hk hne).2]⟩,λ i j M hi hj hij h=>(wu n).alt i j _ hi hj hij λ c hc=>aG λ k hk=>by rw[h k hk]⟩;show(S n λ k=>M i k*B k c)=a*(S n λ k=>P i k*B k c)+b*S n λ k=>Q i k*B k c;rw[<-fP,<-fP,<-g8];refine aG λ k hk=>?_;rw[h0 k hk];grind
 have h:=Fg al A;have e:D n (λ r c=>S n λ k=>dl r k*B k c)=D n B:=df λ r c hr hc=>pD hr λ k=>B k c;rw[h,e,YD]
theorem HC:∀ {n:Nat} {M P Q:Fn} {a b:Int} {i:Nat},i<n->(∀r,r<n->M r i=a*P r i+b*Q r i)->(∀r c,r<n->c<n->c≠i->M r c=P r c/\M r c=Q r c)->D n M=a*D n P+b*D n Q
 |0,_,_,_,_,_,_,h,_,_=>by omega
 |n+1,M,P,Q,a,b,i,hi,h0,h=>by
  rw[dQ,dQ,dQ,<-fP,<-fP,<-g8];refine aG λ j hj=>?_;by_cases hij:j=i
  . subst hij;have hs:∀c,sk j c≠j:=λ c=>by unfold sk;split<;>omega
    have e1:D n (λ r c=>M (r+1) (sk j c))=D n (λ r c=>P (r+1) (sk j c)):=df λ r c hr hc=>(h (r+1) (sk j c) (by omega) (kJ hc) (hs c)).1;have e2:D n (λ r c=>M (r+1) (sk j c))=D n (λ r c=>Q (r+1) (sk j c)):=df λ r c hr hc=>(h (r+1) (sk j c) (by omega) (kJ hc) (hs c)).2;rw[h0 0 (by omega),<-e1,<-e2];grind
  . have p:=h 0 j (by omega) hj hij;have hu:sk j (un j i)=i:=F6 (V6 hij);have hs:∀c,c≠un j i->sk j c≠i:=λ c hc=>by unfold sk;unfold un at hc;grind
    have hlt:un j i<n:=we hj hi (V6 hij)
    have e:=HC (n:=n) (M:=λ r c=>M (r+1) (sk j c)) (P:=λ r c=>P (r+1) (sk j c)) (Q:=λ r c=>Q (r+1) (sk j c)) (a:=a) (b:=b) (i:=un j i) hlt (λ r hr=>by
     rw[hu];exact h0 (r+1) (by omega)) λ r c hr hc hne=>h (r+1) (sk j c) (by omega) (kJ hc) (hs c hne)
    rw[e,<-p.1,<-p.2];grind
theorem Hv:∀ {n:Nat} {M:Fn} {i:Nat},i+1<n->(∀r,r<n->M r i=M r (i+1))->D n M=0
 |0,_,_,h,_=>by omega
 |n+1,M,i,hi,h=>by
  rw[dQ]
  have key:∀j,j<n+1->j≠i->j≠i+1->D n (λ r c=>M (r+1) (sk j c))=0:=λ j hj h1 h2=>by
   refine Hv (i:=un j i) (by unfold un;split<;>omega) λ r hr=>?_;have e1:sk j (un j i)=i:=F6 (V6 h1);have e2:sk j (un j i+1)=i+1:=by unfold sk un;grind
   rw[e1,e2];exact h (r+1) (by omega)
  have e:D n (λ r c=>M (r+1) (sk i c))=D n (λ r c=>M (r+1) (sk (i+1) c)):=df λ r c hr hc=>by
   by_cases hc2:c=i
   . subst hc2;have a1:sk c c=c+1:=by unfold sk;rw[VT (by omega)]
     have a2:sk (c+1) c=c:=by unfold sk;rw[VU (by omega)]
     rw[a1,a2];exact(h (r+1) (by omega)).symm
   . have a1:sk i c=sk (i+1) c:=by unfold sk;grind
     rw[a1]
  have two:∀(m:Nat) (f:Nat->Int),i+1<m->(∀j,j<m->j≠i->j≠i+1->f j=0)->S m f=f i+f (i+1):=λ m=>by
   induction m with
   |zero=>intro f h;omega
   |succ m ih=>
    intro f hm hf;show S m f+f m=_;by_cases hmi:m=i+1
    . subst hmi;rw[jc (k:=i) (by omega) λ j hj hne=>hf j (by omega) hne (by omega)]
    . rw[ih f (by omega) λ j hj h1 h2=>hf j (by omega) h1 h2,hf m (by omega) (by omega) hmi,Yq]
  rw[two (n+1) _ hi λ j hj h1 h2=>by rw[key j hj h1 h2,WR],e,yL,h 0 (by omega)];grind
def tr(M:Fn):Fn:=λ r c=>M c r
theorem Ro(n:Nat)(M:Fn):D n (tr M)=D n M:=by
 have al:Alt n λ A=>D n (tr A):=wU (λ M M' h=>df λ r c hr hc=>h c r hc hr)
  (λ i M P Q a b hi h0 h=>HC hi (λ r hr=>h0 r hr) λ r c hr hc hne=>h c r hc hr hne)
  λ i M hi h=>Hv hi λ r hr=>h r hr
 have h:=Fg al M;have e:D n (tr dl)=D n dl:=df λ r c _ _=>x5 c r;have h2:D n (tr M)=D n (tr dl)*D n M:=h;rw[h2,e,yI,aau]
def Pr:Nat->(Nat->Int)->Int
 |0,_=>1
 |n+1,f=>Pr n f*f n
theorem E_:∀(n:Nat) (f:Nat->Int),Pr (n+1) f=f 0*Pr n λ i=>f (i+1)
 |0,f=>by show 1*f 0=f 0*1;omega
 |n+1,f=>by
  have:Pr (n+1+1) f=Pr (n+1) f*f (n+1):=rfl;rw[this,E_ n f];have:Pr (n+1) (λ i=>f (i+1))=Pr n (λ i=>f (i+1))*f (n+1):=rfl;rw[this,Zc]
theorem MP:∀ {n:Nat} {M:Fn},(∀r c,r<n->c<n->r<c->M r c=0)->D n M=Pr n λ i=>M i i
 |0,_,_=>rfl
 |n+1,M,h=>by
  rw[dQ,jc (k:=0) (by omega) λ j hj h0=>by rw[h 0 j (by omega) hj (by omega),WR,W4],E_,Fd,aau];have s:∀c,sk 0 c=c+1:=λ c=>by unfold sk;rw[VT (by omega)]
  have e:D n (λ r c=>M (r+1) (sk 0 c))=Pr n λ i=>M (i+1) (i+1):=by
   rw[MP λ r c hr hc hrc=>by rw[s];exact h (r+1) (c+1) (by omega) (by omega) (by omega)];simp only[s]
  rw[e]
theorem Uj(h:∀r c,r<n->c<n->c<r->M r c=0):D n M=Pr n λ i=>M i i:=by
 rw[<-Ro n M,MP (M:=tr M) λ r c hr hc hrc=>h c r hc hr hrc];rfl
def gx(R:Fn)(p:Nat)(x:Nat->Int)(j:Nat):Int:=D (p+1) λ r c=>if r<p then R r (if c<p then c else j)else x (if c<p then c else j)
def bt(R:Fn)(p:Nat)(x:Nat->Int)(k:Nat):Int:=D (p+1) (upd (λ c r=>if r<p then R r c else x c) p (dl k))
def cl(p j1 j2 c:Nat):Nat:=if c<p then c else if c=p then j1 else j2
theorem GO{f:Nat->Int}(h:∀i,i<n->(f i).natAbs<=m):(S n f).natAbs<=n*m:=by
 induction n with
 |zero=>simp[S]
 |succ n ih=>
  have h1:=ih λ i hi=>h i (by omega);have h2:=h n (by omega);show(S n f+f n).natAbs<=_;rw[aaJ];omega
def lam(G:Fn)(i j:Nat):Int:=gx G j (G i) j
def UH(A:Rows):Fn:=λ i j=>Rz (A.getD i []) (A.getD j [])
def So(G:Fn)(i:Nat):Row:=(List.range (i+1)).map λ j=>lam G i j
def Rq(G:Fn)(n:Nat):Rows:=(List.range n).map (So G)
def RA(A:Rows)(N:Nat):Fn:=λ i j=>if j<N then UH A i j else(A.getD i []).getD (j-N) 0
def ev(A:Rows)(N i k c:Nat):Int:=gx (RA A N) k (RA A N i) (N+c)
theorem F0(n:Nat)(a b:Int)(f g:Nat->Int):S n (λ c=>a*f c-b*g c)=a*S n f-b*S n g:=by
 induction n with
 |zero=>show(0:Int)=a*0-b*0;omega
 |succ n ih=>
  show S n (λ c=>a*f c-b*g c)+(a*f n-b*g n)=a*(S n f+f n)-b*(S n g+g n);rw[ih,Int.mul_add,Int.mul_add];omega
section
variable {A:Rows}{N w:Nat}
end
def Vz(M:Fn)(k j:Nat)(q:Int):Fn:=λ a b=>if a=k then M a b-q*M j b else M a b
def Vu(M:Fn)(k j:Nat)(q:Int):Fn:=λ a b=>if b=k then M a b-q*M a j else M a b
def tk(G:Fn)(k j:Nat)(q:Int):Fn:=Vu (Vz G k j q) k j q
section
variable {G:Fn}{t:Nat}(sym:∀i j,G i j=G j i)
include sym
end
section
variable {A:Rows}{N w:Nat}
theorem cz(hA:aL N w A){i:Nat}(hi:i<N):(A.getD i []).length=w:=hA.cM _ (by have:=hA.len;rw[ba (by omega)];exact XY _)
end
def aQ(A:Rows)(k:Nat)(q:Int)(j:Nat):Rows:=A.set k (fU (A.getD k []) (-q) (A.getD j []))
def a_(A:Rows)(k o:Nat):Rows:=(A.set k (A.getD o [])).set o (A.getD k [])
theorem ku{A:Rows}{k i:Nat}{r:Row}(hk:k<A.length):(A.set k r).getD i []=if i=k then r else A.getD i []:=by
 rw[V1,Y5];by_cases h:k=i
 . rw[VU h,VU (by omega),VU h.symm];rfl
 . rw[VT h,VT (V6 h),V1]
theorem IQ{k j:Nat}:(aQ A k q j).length=A.length:=by unfold aQ;rw[Wb]
theorem fV{N w k j:Nat}(hA:aL N w A)(hk:k<N)(hj:j<N):aL N w (aQ A k q j):=by
 refine⟨IQ.trans hA.len,λ r hr=>?_⟩;unfold aQ at hr;rcases WI hr with h|rfl
 . exact hA.cM r h
 . rw[m5 (by rw[cz hA hk,cz hA hj]),cz hA hk]
structure Tn(A0 A U C:Rows)(N w:Nat):Prop where
 isA:aL N w A
 eY:aL N N U
 fA:aL N N C
 ua:∀i c,i<N->c<w->g A i c=S N λ k=>g U i k*g A0 k c
 ub:∀i j,i<N->j<N->S N (λ k=>g U i k*g C j k)=dl i j
 bu:∀i j,i<N->j<N->S N (λ k=>g C k i*g U k j)=dl i j
theorem cE{N w k j:Nat}(hA:aL N w A)(hk:k<N)(hj:j<N)(i c:Nat):g (aQ A k q j) i c=if i=k then g A k c-q*g A j c else g A i c:=by
 unfold g aQ;have hl:=hA.len;rw[ku (by omega)];by_cases h:i=k
 . rw[VU h,VU h,yx (by rw[cz hA hk,cz hA hj]),Y9];omega
 . rw[VT h,VT h]
theorem xD(n:Nat)(a b:Int)(f h:Nat->Int):S n (λ c=>a*f c+b*h c)=a*S n f+b*S n h:=by
 rw[g8,fP,fP]
theorem Tn.take{N w k j:Nat}(T:Tn A0 A U C N w)(hk:k<N)(hj:j<N)(hkj:j≠k):Tn A0 (aQ A k q j) (aQ U k q j) (aQ C j (-q) k) N w where
 isA:=fV T.isA hk hj
 eY:=fV T.eY hk hj
 fA:=fV T.fA hj hk
 ua:=λ i c hi hc=>by
  rw[cE T.isA hk hj];have e:S N (λ m=>g (aQ U k q j) i m*g A0 m c)=S N λ m=>(if i=k then g U k m-q*g U j m else g U i m)*g A0 m c:=aG λ m _=>by rw[cE T.eY hk hj]
  rw[e];by_cases h:i=k
  . simp only[VU h];rw[T.ua k c hk hc,T.ua j c hj hc];have e2:S N (λ m=>(g U k m-q*g U j m)*g A0 m c)=S N λ m=>1*(g U k m*g A0 m c)-q*(g U j m*g A0 m c):=aG λ m _=>by grind
    rw[e2,F0];omega
  . simp only[VT h];exact T.ua i c hi hc
 ub:=λ i l hi hl=>by
  have e:S N (λ m=>g (aQ U k q j) i m*g (aQ C j (-q) k) l m)=S N λ m=>(if i=k then g U k m-q*g U j m else g U i m)*(if l=j then g C j m- -q*g C k m else g C l m):=aG λ m _=>by rw[cE T.eY hk hj,cE T.fA hj hk]
  rw[e];have djk:dl j k=0:=dw hkj;by_cases h:i=k
  . by_cases h2:l=j
    . simp only[VU h,VU h2];have e2:S N (λ m=>(g U k m-q*g U j m)*(g C j m- -q*g C k m))=S N λ m=>1*(1*(g U k m*g C j m)+q*(g U k m*g C k m))-q*(1*(g U j m*g C j m)+q*(g U j m*g C k m)):=aG λ m _=>by grind
      rw[e2,F0,xD,xD,T.ub k j hk hj,T.ub k k hk hk,T.ub j j hj hj,T.ub j k hj hk,h,h2,cR,cR,djk,x5 k j,djk];omega
    . simp only[VU h,VT h2];have e2:S N (λ m=>(g U k m-q*g U j m)*g C l m)=S N λ m=>1*(g U k m*g C l m)-q*(g U j m*g C l m):=aG λ m _=>by grind
      rw[e2,F0,T.ub k l hk hl,T.ub j l hj hl,h,dw (V6 h2)];omega
  . by_cases h2:l=j
    . simp only[VT h,VU h2];have e2:S N (λ m=>g U i m*(g C j m- -q*g C k m))=S N λ m=>1*(g U i m*g C j m)+q*(g U i m*g C k m):=aG λ m _=>by grind
      rw[e2,xD,T.ub i j hi hj,T.ub i k hi hk,h2,dw h];omega
    . simp only[VT h,VT h2];exact T.ub i l hi hl
 bu:=λ i l hi hl=>by
  have e:S N (λ m=>g (aQ C j (-q) k) m i*g (aQ U k q j) m l)=S N λ m=>g C m i*g U m l+((q*(g C k i*g U j l))*dl m j+(-(q*(g C k i*g U j l)))*dl m k):=aG λ m _=>by
   rw[cE T.eY hk hj,cE T.fA hj hk];by_cases h1:m=j
   . have h2:m≠k:=by omega
     rw[VU h1,VT h2,h1,cR,dw hkj];grind
   . rw[VT h1,dw h1];by_cases h2:m=k
     . rw[VU h2,h2,cR];grind
     . rw[VT h2,dw h2];grind
  rw[e,g8,xD,T.bu i l hi hl]
  have e1:S N (λ c=>dl c j)=1:=by
   rw[jc hj λ i _ h=>dw h,cR]
  have e2:S N (λ c=>dl c k)=1:=by
   rw[jc hk λ i _ h=>dw h,cR]
  rw[e1,e2];omega
theorem Cp{k o i:Nat}(hk:k<A.length)(ho:o<A.length):(a_ A k o).getD i []=A.getD (sw k o i) []:=by
 unfold a_;rw[ku (by rw[Wb];exact ho),ku hk];unfold sw;by_cases h1:i=k
 . rw[VU h1,VU h1];by_cases h2:i=o
   . rw[VU h2,<-h1,<-h2]
   . rw[VT h2]
 . rw[VT h1,VT h1];by_cases h2:i=o
   . rw[VU h2,VU h2]
   . rw[VT h2,VT h2]
theorem qL{N w k o:Nat}(hA:aL N w A)(hk:k<N)(ho:o<N):aL N w (a_ A k o):=by
 refine⟨by unfold a_;rw[Wb,Wb];exact hA.len,λ r hr=>?_⟩;unfold a_ at hr;rcases WI hr with h|rfl
 . rcases WI h with h|rfl
   . exact hA.cM r h
   . exact cz hA ho
 . exact cz hA hk
theorem iL{N w k o:Nat}(hA:aL N w A)(hk:k<N)(ho:o<N)(i c:Nat):g (a_ A k o) i c=g A (sw k o i) c:=by
 unfold g;rw[Cp (by have:=hA.len;omega) (by have:=hA.len;omega)]
theorem sI{k o N i:Nat}(hk:k<N)(ho:o<N)(hi:i<N):sw k o i<N:=by unfold sw;split<;>(try split)<;>assumption
theorem HM(k o x:Nat):sw k o (sw k o x)=x:=by
 unfold sw;by_cases h1:x=k
 . subst h1;rw[VU rfl];by_cases h2:o=x
   . rw[VU h2];exact h2
   . rw[VT h2,VU rfl]
 . rw[VT h1];by_cases h2:x=o
   . subst h2;rw[VU rfl,VU rfl]
   . rw[VT h2,VT h1,VT h2]
theorem RZ{k o a b:Nat}:dl (sw k o a) (sw k o b)=dl a b:=by
 by_cases h:a=b
 . rw[h,cR,cR]
 . rw[dw h,dw λ z=>h (by rw[<-HM k o a,<-HM k o b,z])]
theorem EH(k x:Nat):sw k k x=x:=by
 unfold sw;by_cases h:x=k
 . rw[VU h,h]
 . rw[VT h,VT h]
theorem SO{n i j:Nat}(hi:i<n)(hj:j<n)(f:Nat->Int):S n (λ k=>f (sw i j k))=S n f:=by
 by_cases h:i=j
 . subst h;exact aG λ k _=>by rw[EH]
 . exact UD hi hj h f
theorem Tn.MC{N w k o:Nat}(T:Tn A0 A U C N w)(hk:k<N)(ho:o<N):Tn A0 (a_ A k o) (a_ U k o) (a_ C k o) N w where
 isA:=qL T.isA hk ho
 eY:=qL T.eY hk ho
 fA:=qL T.fA hk ho
 ua:=λ i c hi hc=>by
  rw[iL T.isA hk ho,T.ua _ c (sI hk ho hi) hc];exact aG λ m _=>by rw[iL T.eY hk ho]
 ub:=λ i j hi hj=>by
  rw[<-RZ (k:=k) (o:=o),<-T.ub _ _ (sI hk ho hi) (sI hk ho hj)];exact aG λ m _=>by rw[iL T.eY hk ho,iL T.fA hk ho]
 bu:=λ i j hi hj=>by
  rw[<-T.bu i j hi hj,<-SO hk ho λ m=>g C m i*g U m j];exact aG λ m _=>by rw[iL T.eY hk ho,iL T.fA hk ho]
def fb(A:Rows)(k:Nat):Rows:=A.set k ((A.getD k []).map λ x=> -x)
theorem pw{N w k:Nat}(hA:aL N w A)(hk:k<N):aL N w (fb A k):=by
 refine⟨by unfold fb;rw[Wb];exact hA.len,λ r hr=>?_⟩;unfold fb at hr;rcases WI hr with h|rfl
 . exact hA.cM r h
 . rw[VO];exact cz hA hk
theorem Lm(r:Row)(c:Nat):(r.map λ x=> -x).getD c 0= -r.getD c 0:=by
 rw[V1,V1,Wn];cases r[c]?<;>rfl
theorem fL{N w k:Nat}(hA:aL N w A)(hk:k<N)(i c:Nat):g (fb A k) i c=if i=k then-g A k c else g A i c:=by
 unfold g fb;rw[ku (by have:=hA.len;omega)];by_cases h:i=k
 . rw[VU h,VU h,Lm]
 . rw[VT h,VT h]
theorem Tn.neg{N w k:Nat}(T:Tn A0 A U C N w)(hk:k<N):Tn A0 (fb A k) (fb U k) (fb C k) N w where
 isA:=pw T.isA hk
 eY:=pw T.eY hk
 fA:=pw T.fA hk
 ua:=λ i c hi hc=>by
  rw[fL T.isA hk];by_cases h:i=k
  . rw[VU h,T.ua k c hk hc,<-qK];exact aG λ m _=>by rw[fL T.eY hk,VU h,Y9]
  . rw[VT h,T.ua i c hi hc];exact aG λ m _=>by rw[fL T.eY hk,VT h]
 ub:=λ i j hi hj=>by
  have e:S N (λ m=>g (fb U k) i m*g (fb C k) j m)=S N λ m=>(if i=k then-1 else 1)*(if j=k then-1 else 1)*(g U i m*g C j m):=aG λ m _=>by
   rw[fL T.eY hk,fL T.fA hk];by_cases h1:i=k<;>by_cases h2:j=k<;>simp only[h1,h2,Yk,XT]<;>grind
  rw[e,fP,T.ub i j hi hj];by_cases h1:i=k
  . by_cases h2:j=k
    . simp[h1,h2]
    . rw[dw (by omega)];simp
  . by_cases h2:j=k
    . rw[dw (by omega)];simp
    . simp[h1,h2]
 bu:=λ i j hi hj=>by
  rw[<-T.bu i j hi hj]
  exact aG λ m _=>by
   rw[fL T.eY hk,fL T.fA hk];by_cases h:m=k
   . subst h;rw[VU rfl,VU rfl];grind
   . rw[VT h,VT h]
structure e7(A:Rows)(N top p:Nat)(L:List Nat):Prop where
 mem:∀k,k∈L↔top<=k/\k<N/\g A k p≠0
 ord:L.Pairwise λ i j=>(g A i p).natAbs<(g A j p).natAbs\/((g A i p).natAbs=(g A j p).natAbs/\i<j)
theorem xp{f:Nat->Nat}:∀ {l m:List Nat},(∀k,k∈l↔k∈m)->l.Pairwise (λ i j=>f i<f j\/(f i=f j/\i<j))->m.Pairwise (λ i j=>f i<f j\/(f i=f j/\i<j))->l=m
 | [],[],_,_,_=>rfl
 | [],b::m,h,_,_=>by have:=(h b).mpr (V_ ..);simp at this
 |a::l,[],h,_,_=>by have:=(h a).mp (V_ ..);simp at this
 |a::l,b::m,h,h1,h2=>by
  obtain⟨p1,q1⟩:=XF.mp h1;obtain⟨p2,q2⟩:=XF.mp h2
  have e:a=b:=by
   rcases V4.mp ((h a).mp (V_ ..))with z|z
   . exact z
   . rcases V4.mp ((h b).mpr (V_ ..))with y|y
     . exact y.symm
     . have x1:=p1 b y;have x2:=p2 a z;omega
  subst e;have na:a∉l:=λ z=>by have:=p1 a z;omega
  have nb:a∉m:=λ z=>by have:=p2 a z;omega
  rw[xp (l:=l) (m:=m) (λ k=>?_) q1 q2];have:=h k;rw[V4,V4]at this;constructor
  . intro z;rcases this.mp (.inr z)with y|y
    . subst y;exact absurd z na
    . exact y
  . intro z;rcases this.mpr (.inr z)with y|y
    . subst y;exact absurd z nb
    . exact y
theorem e7.unique{N top p:Nat}(h:e7 A N top p L)(h':e7 A N top p M):L=M:=
 xp (f:=λ i=>(g A i p).natAbs) (λ k=>(h.mem k).trans (h'.mem k).symm) h.ord h'.ord
structure B3 where
 A:Rows
 U:Rows
 C:Rows
def qn(x y:Int):Int:=(2*x+y).fdiv (2*y)
def mr(b:B3)(p k j:Nat):B3:=⟨aQ b.A k (qn (g b.A k p) (g b.A j p)) j,aQ b.U k (qn (g b.A k p) (g b.A j p)) j,aQ b.C j (-(qn (g b.A k p) (g b.A j p))) k⟩
def Fj(N top p:Nat)(b c:B3):Prop:=∃(L:List Nat) (k j:Nat),e7 b.A N top p (L++[j,k])/\c=mr b p k j
inductive di(N top p:Nat):B3->B3->Prop
 |refl (b:B3):di N top p b b
 |head {b c d:B3} (h:Fj N top p b c) (t:di N top p c d):di N top p b d
theorem di.tail{N top p:Nat}(h:di N top p b c)(t:Fj N top p c d):di N top p b d:=by
 induction h with
 |refl b=>exact .head t (.refl _)
 |head x _ ih=>exact .head x (ih t)
def mM(N top p:Nat)(b:B3):Prop:=∃L,e7 b.A N top p L/\L.length<=1
theorem mM.stop{N top p:Nat}(h:mM N top p b)(s:Fj N top p b c):False:=by
 obtain⟨L,h1,h2⟩:=h;obtain⟨M,k,j,h3,_⟩:=s;rw[h1.unique h3]at h2;simp at h2
def fv(X:Rows)(N top m:Nat):Prop:=∀i c,top<=i->i<N->(g X i c).natAbs<=m
theorem o_(hy:y≠0):2*(x-qn x y*y).natAbs<=y.natAbs:=by
 unfold qn;have h1:=Zk (2*x+y) (2*y);have h2:(2*x+y).fmod (2*y)=2*x+y-2*y*(2*x+y).fdiv (2*y):=by omega
 generalize(2*x+y).fdiv (2*y)=q at*;have e:2*(x-q*y)=(2*x+y).fmod (2*y)-y:=by rw[h2];grind
 rcases Int.lt_or_gt_of_ne hy with h|h
 . have a0:=Int.neg_fmod_neg (2*x+y) (2*y);have a1:=WW (-(2*x+y)) (show 0< -(2*y) by omega);have a2:=Xl (-(2*x+y)) (show 0< -(2*y) by omega);omega
 . have a1:=WW (2*x+y) (show 0<2*y by omega);have a2:=Xl (2*x+y) (show 0<2*y by omega);omega
theorem jw{k j i:Nat}(hk:k<X.length)(h:i≠k):(aQ X k q j).getD i []=X.getD i []:=by
 unfold aQ;rw[ku hk,VT h]
structure zJ(A0:Rows)(N w:Nat)(b:B3)(top p:Nat)(ld:Nat->Nat)(e u:Nat):Prop where
 tn:Tn A0 b.A b.U b.C N w
 le:top<=N
 lo:fv b.A N top (2^e)/\fv b.U N top (2^e)/\fv b.C N top (2^e)
 hi:∀i c,i<top->(g b.A i c).natAbs<=2^u/\(g b.U i c).natAbs<=2^u/\(g b.C i c).natAbs<=2^u
 zs:∀i c,top<=i->i<N->c<p->g b.A i c=0
 lead:∀i,i<top->ld i<p/\0<g b.A i (ld i)/\∀c,c<ld i->g b.A i c=0
 mono:∀i j,i<j->j<top->ld i<ld j
 red:∀i j,i<j->j<top->0<=g b.A i (ld j)/\g b.A i (ld j)<g b.A j (ld j)
def setB(b:B3)(p top r:Nat):B3:=
 if g (a_ b.A top r) top p<0 then⟨fb (a_ b.A top r) top,fb (a_ b.U top r) top,fb (a_ b.C top r) top⟩else⟨a_ b.A top r,a_ b.U top r,a_ b.C top r⟩
theorem vi{N w top r m:Nat}(hX:aL N w X)(ht:top<N)(hr:r<N)(hrt:top<=r)(h:fv X N top m):fv (a_ X top r) N top m:=λ i c hi hN=>by
 rw[iL hX ht hr];refine h _ c ?_ (sI ht hr hN);unfold sw;split
 . exact hrt
 . split
   . exact VQ _
   . exact hi
theorem Bh{N w top m:Nat}(hX:aL N w X)(ht:top<N)(h:fv X N top m):fv (fb X top) N top m:=λ i c hi hN=>by
 rw[fL hX ht];split
 . rw[Xi];exact h top c (VQ _) ht
 . exact h i c hi hN
theorem vX{N w top r i:Nat}(hX:aL N w X)(ht:top<N)(hr:r<N)(hrt:top<=r)(hi:i<top):(a_ X top r).getD i []=X.getD i []:=by
 rw[Cp (by have:=hX.len;omega) (by have:=hX.len;omega)];unfold sw;rw[VT (by omega),VT (by omega)]
theorem CK{N w top i:Nat}(hX:aL N w X)(ht:top<N)(hi:i<top):(fb X top).getD i []=X.getD i []:=by
 unfold fb;rw[ku (by have:=hX.len;omega),VT (by omega)]
structure vh(A0:Rows)(N w top p m:Nat)(b0 b:B3):Prop where
 tn:Tn A0 b.A b.U b.C N w
 up:∀i,i<top->b.A.getD i []=b0.A.getD i []/\b.U.getD i []=b0.U.getD i []/\b.C.getD i []=b0.C.getD i []
 lo:fv b.A N top m/\fv b.U N top m/\fv b.C N top m
 zs:∀i c,top<=i->i<N->c<p->g b.A i c=0
 tp:0<g b.A top p
 z1:∀i,top<i->i<N->g b.A i p=0
def fg(p top:Nat):Nat->B3->B3
 |0,b=>b
 |k+1,b=>
  let c:=fg p top k b
  ⟨aQ c.A k ((g c.A k p).fdiv (g c.A top p)) top,aQ c.U k ((g c.A k p).fdiv (g c.A top p)) top,aQ c.C top (-((g c.A k p).fdiv (g c.A top p))) k⟩
theorem Bs(a:Int)(hb:0<b):(a.fdiv b).natAbs<=a.natAbs:=by
 have h1:=Zk a b;have h2:=WW a hb;have h3:=Xl a hb;generalize a.fdiv b=q at*;rcases Int.lt_trichotomy q 0 with h|h|h
 . have h4:0<=(b-1)*(-q-1):=Int.mul_nonneg (by omega) (by omega);have e:(b-1)*(-q-1)= -(b*q)-b+q+1:=by grind
   omega
 . subst h;simp
 . have:q<=b*q:=by
    have:0<=(b-1)*q:=Int.mul_nonneg (by omega) (by omega);grind
   omega
theorem Dn(h1:a<=2^c)(h2:b<=2^c):a+b<=2^(c+1):=by rw[YR];omega
theorem Tn.start(hA:aL N w A):Tn A A (units N) (units N) N w where
 isA:=hA
 eY:=j6 N
 fA:=j6 N
 ua:=λ i c hi hc=>by
  rw[<-pD hi λ k=>g A k c];exact aG λ m hm=>by rw[gD hi hm]
 ub:=λ i j hi hj=>by
  rw[x5 i j,<-pD hi λ k=>dl j k]
  . exact aG λ m hm=>by rw[gD hi hm,gD hj hm]
 bu:=λ i j hi hj=>by
  rw[<-w_ hi λ k=>dl k j];exact aG λ m hm=>by rw[gD hm hi,gD hm hj,YD]
theorem zJ.start{A:Rows}{N w e:Nat}(hA:aL N w A)(h:fv A N 0 (2^e)):zJ A N w ⟨A,units N,units N⟩ 0 0 (λ _=>0) e 0:=by
 have hu:fv (units N) N 0 (2^e):=λ i c _ hi=>by
  by_cases hc:c<N
  . rw[gD hi hc];unfold dl;split
    . exact Nat.one_le_two_pow
    . exact Wg _
  . unfold g;rw[ko (l:=(units N).getD i []) (by rw[cz (j6 N) hi];omega)];exact Wg _
 exact⟨Tn.start hA,Wg _,⟨h,hu,hu⟩,λ _ _ h=>absurd h (Wz _),λ _ _ _ _ h=>absurd h (Wz _),λ _ h=>absurd h (Wz _),λ _ _ _ h=>absurd h (Wz _),λ _ _ _ h=>absurd h (Wz _)⟩
def SU(f:Nat->Nat):Nat->Nat
 |0=>0
 |n+1=>SU f n+f n
theorem AJ{f f':Nat->Nat}:∀ {n:Nat},(∀i,i<n->f' i<=f i)->SU f' n<=SU f n
 |0,_=>VQ _
 |n+1,h=>YX (AJ λ i hi=>h i (W3 hi)) (h n (WA n))
theorem Mt{f f':Nat->Nat}{k:Nat}(hlt:f' k<f k):∀ {n:Nat},k<n->(∀i,i<n->f' i<=f i)->SU f' n<SU f n
 |0,hk,_=>absurd hk (Wz _)
 |n+1,hk,h=>by
  by_cases e:k=n
  . subst e;exact Nat.add_lt_add_of_le_of_lt (AJ λ i hi=>h i (W3 hi)) hlt
  . exact Nat.add_lt_add_of_lt_of_le (Mt hlt (by omega) λ i hi=>h i (W3 hi)) (h n (WA n))
def mu(A:Rows)(N p:Nat):Nat:=SU (λ i=>(g A i p).natAbs) N
inductive PN(N p:Nat):Nat->B3->Nat->B3->Prop
 |none {top:Nat} {b:B3} (h:e7 b.A N top p []):PN N p top b top b
 |one {top r:Nat} {b c:B3} (h:di N top p b c) (l:e7 c.A N top p [r]):PN N p top b (top+1) (fg p top top (setB c p top r))
inductive g6(A:Rows)(N:Nat):Nat->Nat->B3->Prop
 |start:g6 A N 0 0 ⟨A,units N,units N⟩
 |next {p t t':Nat} {b b':B3} (h:g6 A N p t b) (c:PN N p t b t' b'):g6 A N (p+1) t' b'
def bM(X:Rows)(n w:Nat)(v:Nat->Int):Prop:=∃z:Nat->Int,∀c,c<w->v c=S n λ k=>z k*g X k c
theorem bM.row{n w k:Nat}(hk:k<n):bM X n w (g X k):=⟨λ i=>dl k i,λ c _=>(pD hk λ i=>g X i c).symm⟩
theorem bM.sub{u v:Nat->Int}(hu:bM X n w u)(hv:bM X n w v):bM X n w λ c=>u c-v c:=by
 obtain⟨y,hy⟩:=hu;obtain⟨z,hz⟩:=hv;refine⟨λ k=>y k-z k,λ c hc=>?_⟩;show u c-v c=S n λ k=>(y k-z k)*g X k c;rw[hy c hc,hz c hc,YS,<-qK,<-g8];exact aG λ k _=>by rw[Int.sub_mul,YS]
theorem bM.trans{v:Nat->Int}(h:∀k,k<m->bM Y n w (g X k))(hv:bM X m w v):bM Y n w v:=by
 obtain⟨z,hz⟩:=hv
 have h':∀k,∃y:Nat->Int,k<m->∀c,c<w->g X k c=S n λ i=>y i*g Y i c:=λ k=>by
  by_cases hk:k<m
  . obtain⟨y,hy⟩:=h k hk;exact⟨y,λ _=>hy⟩
  . exact⟨λ _=>0,λ h=>absurd h hk⟩
 refine⟨λ i=>S m λ k=>z k*Classical.choose (h' k) i,λ c hc=>?_⟩;rw[hz c hc]
 have e1:S m (λ k=>z k*g X k c)=S m λ k=>S n λ i=>z k*Classical.choose (h' k) i*g Y i c:=aG λ k hk=>by
  rw[XG (h' k) hk c hc,<-fP];exact aG λ i _=>(Zc _ _ _).symm
 rw[e1,w6];exact aG λ i _=>Cz _ _ _
structure aY(X:Rows)(n w:Nat)(ld:Nat->Nat):Prop where
 lead:∀i,i<n->ld i<w/\0<g X i (ld i)/\∀c,c<ld i->g X i c=0
 mono:∀i j,i<j->j<n->ld i<ld j
theorem aY.inj{ld:Nat->Nat}(s:aY X n w ld){i j:Nat}(hi:i<n)(hj:j<n)(h:ld i=ld j):i=j:=by
 rcases YA i j with q|q|q
 . exact absurd h (Wy (s.mono i j q hj))
 . exact q
 . exact absurd h.symm (Wy (s.mono j i q hi))
theorem aY.lt{ld:Nat->Nat}(s:aY X n w ld){i j:Nat}(hi:i<n)(hj:j<n)(h:ld i<ld j):i<j:=by
 rcases YA i j with q|q|q
 . exact q
 . rw[q]at h;exact absurd h (Xs _)
 . exact absurd (Yg h (s.mono j i q hi)) (Xs _)
theorem aY.gone{ld:Nat->Nat}{v z:Nat->Int}(s:aY X n w ld)(hz:∀c,c<w->v c=S n λ k=>z k*g X k c)(h0:∀c,c<q->v c=0)(k:Nat):k<n->ld k<q->z k=0:=by
 induction k using Nat.strongRecOn with
 |ind k ih=>
  intro hk hq;obtain⟨h1,h2,h3⟩:=s.lead k hk;have e:=hz (ld k) h1;rw[h0 _ hq,jc hk λ i hi ne=>?_]at e
  . exact(Int.mul_eq_zero.mp e.symm).resolve_right (YE h2)
  . rcases YT ne with l|l
    . rw[ih i l hi (Yg (s.mono i k l hk) hq),W4]
    . rw[(s.lead i hi).2.2 _ (s.mono k i l hi),WR]
theorem aY.at{ld:Nat->Nat}{v:Nat->Int}(s:aY X n w ld)(hv:bM X n w v)(hq:q<w)(h0:∀c,c<q->v c=0):(∃i,i<n/\ld i=q/\g X i q∣v q)\/v q=0:=by
 obtain⟨z,hz⟩:=hv
 have go:∀k,k<n->ld k≠q->z k*g X k q=0:=λ k hk ne=>by
  rcases YT ne with l|l
  . rw[s.gone hz h0 k hk l,W4]
  . rw[(s.lead k hk).2.2 _ l,WR]
 by_cases h:∃i,i<n/\ld i=q
 . obtain⟨i,hi,e⟩:=h;refine .inl ⟨i,hi,e,z i,?_⟩;rw[hz q hq,jc hi λ k hk ne=>go k hk λ z=>ne (s.inj hk hi (z.trans e.symm)),YD]
 . refine .inr ?_;rw[hz q hq];exact f_ λ k hk=>go k hk λ e=>h ⟨k,hk,e⟩
theorem aY.sees{ld ld':Nat->Nat}(sX:aY X n w ld)(sY:aY Y m w ld')(h:∀k,k<n->bM Y m w (g X k))(i:Nat)(hi:i<n):∃j,j<m/\ld' j=ld i/\g Y j (ld i)∣g X i (ld i):=by
 obtain⟨h1,h2,h3⟩:=sX.lead i hi;rcases sY.at (h i hi) h1 h3 with q|q
 . exact q
 . rw[q]at h2;exact absurd h2 (by decide)
theorem aY.same{ld ld':Nat->Nat}(sX:aY X n w ld)(sY:aY Y m w ld')(h1:∀k,k<n->bM Y m w (g X k))(h2:∀k,k<m->bM X n w (g Y k))(i:Nat):i<n->i<m/\ld' i=ld i/\g Y i (ld i)=g X i (ld i):=by
 induction i using Nat.strongRecOn with
 |ind i ih=>
  intro hi;obtain⟨j,hj,ej,dj⟩:=sX.sees sY h1 i hi
  have e:j=i:=by
   rcases YA j i with l|l|l
   . have:=(ih j l (Yg l hi)).2.1;exact absurd (this.symm.trans ej) (Wy (sX.mono j i l hi))
   . exact l
   . obtain⟨k,hk,ek,_⟩:=sY.sees sX h2 i (Yg l hj);have lk:k<i:=sX.lt hk hi (by rw[ek,<-ej];exact sY.mono i j l hj);have:=(ih k lk hk).2.1;exact absurd (this.trans ek) (Wy (sY.mono k i lk (Yg l hj)))
  subst e;refine⟨hj,ej,?_⟩;obtain⟨k,hk,ek,dk⟩:=sY.sees sX h2 j hj;have:=sX.inj hk hi (ek.trans ej);subst this;rw[ej]at dk;exact Int.dvd_antisymm (by rw[<-ej];exact Int.le_of_lt (sY.lead k hj).2.1) (Int.le_of_lt (sX.lead k hi).2.1) dj dk
theorem aY.many{ld ld':Nat->Nat}(sX:aY X n w ld)(sY:aY Y m w ld')(h1:∀k,k<n->bM Y m w (g X k))(h2:∀k,k<m->bM X n w (g Y k)):n=m:=by
 refine XA ?_ ?_
 . cases n with
   |zero=>exact Wg _
   |succ n=>exact(sX.same sY h1 h2 n (WA n)).1
 . cases m with
   |zero=>exact Wg _
   |succ m=>exact(sY.same sX h2 h1 m (WA m)).1
def fW(X:Rows)(n:Nat)(ld:Nat->Nat):Prop:=∀i j,i<j->j<n->0<=g X i (ld j)/\g X i (ld j)<g X j (ld j)
theorem aY.only{ld ld':Nat->Nat}(sX:aY X n w ld)(sY:aY Y m w ld')(h1:∀k,k<n->bM Y m w (g X k))(h2:∀k,k<m->bM X n w (g Y k))(rX:fW X n ld)(rY:fW Y m ld'){i:Nat}(hi:i<n)(c:Nat):c<w->g X i c=g Y i c:=by
 induction c using Nat.strongRecOn with
 |ind c ih=>
  intro hc;obtain⟨im,il,ig⟩:=sX.same sY h1 h2 i hi;have hv:bM X n w λ c=>g X i c-g Y i c:=(bM.row hi).sub (h2 i im);rcases sX.at hv hc λ d hd=>by rw[ih d hd (Yg hd hc),Int.sub_self]with⟨j,hj,rfl,d⟩|q
  . obtain⟨jm,jl,jg⟩:=sX.same sY h1 h2 j hj;rcases YA i j with l|l|l
    . have a:=rX i j l hj;have b:=rY i j l jm;rw[jl,jg]at b;exact aaE (Int.eq_zero_of_dvd_of_natAbs_lt_natAbs d (by omega))
    . subst l;exact ig.symm
    . rw[(sX.lead i hi).2.2 _ (sX.mono j i l hi),(sY.lead i im).2.2 _ (by rw[il];exact sX.mono j i l hi)]
  . exact aaE q
theorem vh.MG{N w top p m:Nat}{b0 b:B3}(s:vh A0 N w top p m b0 b){i:Nat}(hi:i<top)(q:Nat):g b.A i q=g b0.A i q/\g b.U i q=g b0.U i q/\g b.C i q=g b0.C i q:=by
 obtain⟨a1,a2,a3⟩:=s.up i hi;unfold g;rw[a1,a2,a3];exact⟨rfl,rfl,rfl⟩
def Sm(b:B3)(N m:Nat):Prop:=∀i c,i<N->(g b.A i c).natAbs<=m/\(g b.U i c).natAbs<=m/\(g b.C i c).natAbs<=m
structure xl(N p t z:Nat)(b:B3):Prop where
 ga:∀c,di N t p b c->Sm c N (2^z)
 lo:∀c r k,di N t p b c->e7 c.A N t p [r]->k<=t->Sm (fg p t k (setB c p t r)) N (2^z)
theorem SJ(hy:y≠0):(qn x y).natAbs<=x.natAbs+y.natAbs:=by
 have h:=o_ (x:=x) hy;have h2:(qn x y*y).natAbs=(qn x y).natAbs*y.natAbs:=Xj _ _;have h3:(qn x y).natAbs<=(qn x y).natAbs*y.natAbs:=XR _ (aaF.mpr hy);generalize qn x y*y=t at h h2;omega
def nl(A:Rows)(N t p:Nat):Nat:=SU (λ i=>if t<=i/\g A i p≠0 then 1 else 0) N
theorem MH{f:Nat->Int}:∀ {N:Nat},n<=N->(∀i,n<=i->i<N->f i=0)->S N f=S n f
 |0,h,_=>by rw[Nat.le_zero.mp h]
 |N+1,h,z=>by
  by_cases e:n=N+1
  . rw[e]
  . have hn:n<=N:=by omega
    show S N f+f N=_;rw[z N hn (WA N),Yq];exact MH hn λ i h1 h2=>z i h1 (W3 h2)
theorem zJ.in{N w top e u:Nat}{ld:Nat->Nat}(s:zJ A N w c top w ld e u)(k:Nat)(hk:k<top):bM A N w (g c.A k):=
 ⟨g c.U k,λ q hq=>s.tn.ua k q (Wj hk s.le) hq⟩
theorem zJ.out{N w top e u:Nat}{ld:Nat->Nat}(s:zJ A N w c top w ld e u)(k:Nat)(hk:k<N):bM c.A top w (g A k):=by
 refine⟨λ i=>g c.C i k,λ q hq=>?_⟩
 have e1:S N (λ i=>g c.C i k*g c.A i q)=g A k q:=by
  have:S N (λ i=>g c.C i k*g c.A i q)=S N λ i=>S N λ j=>g c.C i k*g c.U i j*g A j q:=aG λ i hi=>by
   rw[s.tn.ua i q hi hq,<-fP];exact aG λ j _=>(Zc _ _ _).symm
  rw[this,w6]
  have e2:S N (λ j=>S N λ i=>g c.C i k*g c.U i j*g A j q)=S N λ j=>dl k j*g A j q:=aG λ j hj=>by
   rw[Cz,s.tn.bu k j hk hj]
  rw[e2,pD hk λ j=>g A j q]
 rw[<-e1];exact MH s.le λ i h1 h2=>by rw[s.zs i q h1 h2 hq,WR]
theorem kj{n i q:Nat}(h:i<n):g (X.take n) i q=g X i q:=by
 unfold g;rw[V1 (l:=X.take n),V1 (l:=X),XJ h]
theorem bM.eq{u v:Nat->Int}(hu:bM X n w u)(h:∀c,c<w->v c=u c):bM X n w v:=by
 obtain⟨y,hy⟩:=hu;exact⟨y,λ c hc=>(h c hc).trans (hy c hc)⟩
structure kH(X:Rows)(n:Nat)(Y:Rows)(m w:Nat):Prop where
 to:∀k,k<n->bM Y m w (g X k)
 of:∀k,k<m->bM X n w (g Y k)
theorem bM.zero{v:Nat->Int}(h:∀c,c<w->v c=0):bM X n w v:=
 ⟨λ _=>0,λ c hc=>by rw[h c hc,f_ λ k _=>W4 _]⟩
theorem oX{X:Rows}{r:Row}{k:Nat}(hk:k<=X.length)(i:Nat):(X.take k++r::X.drop k).getD i []=if i<k then X.getD i []else if i=k then r else X.getD (i-1) []:=by
 have lt:(X.take k).length=k:=by rw[Wl];omega
 rw[V1,V1,V1];by_cases h:i<k
 . rw[VU h,VZ (by rw[lt];exact h),XJ h]
 . rw[VT h,Wu (by rw[lt];omega),lt];by_cases h2:i=k
   . rw[VU h2,h2,XM];rfl
   . rw[VT h2];have:i-k=(i-1-k)+1:=by omega
     rw[this,XQ,YU];congr 2;omega
structure jZ(F:Rows)(w:Nat)(ld:Nat->Nat)(row:Nat->Int)(i:Nat)(o:Int)(L:Nat->Int):Prop where
 pos:0<o
 sum:bM F i w λ c=>o*row c-L c
 off:∀k,k<i->L (ld k)=0
 least:∀(m:Int) (v:Nat->Int),bM F i w v->(∀k,k<i->m*row (ld k)=v (ld k))->o∣m
theorem JU{K m:Nat}:∀ {n:Nat} {M:Fn},n<=K->(∀r c,r<n->c<n->(M r c).natAbs<=m)->(D n M).natAbs<=(K*m)^n
 |0,_,_,_=>by simp[D]
 |n+1,M,hn,h=>by
  rw[dQ]
  have key:∀j,j<n+1->(sg j*M 0 j*D n λ r c=>M (r+1) (sk j c)).natAbs<=m*(K*m)^n:=λ j hj=>by
   have a:=JU (K:=K) (m:=m) (n:=n) (M:=λ r c=>M (r+1) (sk j c)) (by omega) λ r c hr hc=>h (r+1) (sk j c) (by omega) (kJ hc);have b:=h 0 j (by omega) hj;have s:(sg j).natAbs=1:=by unfold sg;split<;>rfl
   rw[Xj,Xj,s,Nat.one_mul];exact WL b a
  refine VX (GO key) ?_;rw[YR,Yb ((K*m)^n),WO];exact WC _ hn
theorem pick{t N:Nat}{U B:Fn}(h:∀k l,k<t->l<t->S N (λ i=>U k i*B i l)=dl k l):∃I:Nat->Nat,(∀k,k<t->I k<N)/\D t (λ k l=>B (I k) l)≠0:=by
 apply XH;intro no
 have go:∀s,s<=t->∀I:Nat->Nat,(∀k,k<t->s<=k->I k<N)->D t (λ k l=>if k<s then dl k l else B (I k) l)=0:=by
  intro s;induction s with
  |zero=>
   intro _ I hI;exact XH λ z=>no ⟨I,λ k hk=>hI k hk (Wg _),z⟩
  |succ s ih=>
   intro hs I hI
   have e:D t (λ k l=>if k<s+1 then dl k l else B (I k) l)=D t (upd (λ k l=>if k<s then dl k l else B (I k) l) s λ l=>S N λ j=>U s j*B j l):=df λ k l hk hl=>by
    unfold upd;by_cases h1:k=s
    . subst h1;rw[VU rfl,VU (WA _)];exact(h k l hk hl).symm
    . rw[VT h1];show _=if k<s then dl k l else B (I k) l
      by_cases h2:k<s
      . rw[VU (by omega),VU h2]
      . rw[VT (by omega),VT h2]
   rw[e,(wu t).wz (by omega)];refine f_ λ j hj=>?_
   have e2:=ih (by omega) (λ k=>if k=s then j else I k) λ k hk hsk=>by
    by_cases h1:k=s
    . rw[VU h1];exact hj
    . rw[VT h1];exact hI k hk (by omega)
   have e3:D t (upd (λ k l=>if k<s then dl k l else B (I k) l) s (B j))=D t (λ k l=>if k<s then dl k l else B (if k=s then j else I k) l):=df λ k l hk hl=>by
    unfold upd;by_cases h1:k=s
    . subst h1;rw[VU rfl,VT (Xs _),VU rfl]
    . rw[VT h1,VT h1]
   rw[e3,e2,WR]
 have z:=go t (VQ _) (λ _=>0) λ k h1 h2=>absurd h1 (Nat.not_lt.mpr h2);rw[df (M':=dl) λ r c hr hc=>VU hr,yI]at z;exact absurd z (by decide)
theorem IE:∀ {n:Nat} {f:Nat->Int},(∀i,i<n->0<f i)->0<Pr n f
 |0,_,_=>show(0:Int)<1 by decide
 |n+1,f,h=>Int.mul_pos (IE λ i hi=>h i (W3 hi)) (h n (WA n))
theorem A4{b i j:Nat}(h:1<=b)(l:i<=j):(9*b)^i<=(9*b)^j:=Wc (by omega) l
def eQ(F:Rows)(i:Nat):Nat:=(F.getD i []).findIdx (λ x=>x != 0)
theorem xr:∀ {r:Row} {l:Nat},(∀c,c<l->r.getD c 0=0)->r.getD l 0≠0->r.findIdx (λ x=>x != 0)=l
 | [],l,_,h=>(h rfl).elim
 |x::r,0,_,h=>by
  have h':(x != 0)=true:=Zv.mpr h;rw[List.findIdx_cons,h'];rfl
 |x::r,l+1,hz,h=>by
  have x0:(x != 0)=false:=bne_eq_false_iff_eq.mpr (hz 0 (Nat.zero_lt_succ _));rw[List.findIdx_cons,x0,xr (r:=r) (l:=l) (λ c hc=>hz (c+1) (Nat.succ_lt_succ hc)) h];rfl
theorem aY.eQ{ld:Nat->Nat}(s:aY F n w ld){i:Nat}(hi:i<n):Mx.eQ F i=ld i:=by
 obtain⟨_,h2,h3⟩:=s.lead i hi;exact xr h3 (YE h2)
theorem aY.Uc{ld:Nat->Nat}(s:aY F n w ld):aY F n w (Mx.eQ F):=
 ⟨λ i hi=>by rw[s.eQ hi];exact s.lead i hi,λ i j h hj=>by rw[s.eQ hj,s.eQ (Yg h hj)];exact s.mono i j h hj⟩
section
variable {F:Rows}{r:Row}{m w:Nat}(isF:aL m w F)(lr:r.length=w)
include isF lr
end
def l1:Row->Nat
 | []=>0
 |x::r=>x.natAbs+l1 r
structure gQ(A0:Rows)(N w:Nat)(b:B3)(top p:Nat)(ld:Nat->Nat)(e u v:Nat):Prop where
 tn:Tn A0 b.A b.U b.C N w
 le:top<=N
 lo:fv b.A N top (2^e)/\fv b.U N top (2^e)/\fv b.C N top (2^e)
 hi:∀i c,i<top->(g b.A i c).natAbs<=2^u/\(g b.U i c).natAbs<=2^u/\(g b.C i c).natAbs<=2^v
 zs:∀i c,top<=i->i<N->c<p->g b.A i c=0
 lead:∀i,i<top->ld i<p/\0<g b.A i (ld i)/\∀c,c<ld i->g b.A i c=0
 mono:∀i j,i<j->j<top->ld i<ld j
 red:∀i j,i<j->j<top->0<=g b.A i (ld j)/\g b.A i (ld j)<g b.A j (ld j)
theorem gQ.skip{N w top p e u v:Nat}{ld:Nat->Nat}(S:gQ A0 N w b top p ld e u v)(h:e7 b.A N top p []):gQ A0 N w b top (p+1) ld e u v:=
 ⟨S.tn,S.le,S.lo,S.hi,λ i c h1 h2 h3=>by
  by_cases hc:c=p
  . subst hc;exact XH λ z=>absurd ((h.mem i).mpr ⟨h1,h2,z⟩) (by simp)
  . exact S.zs i c h1 h2 (by omega),λ i hi=>⟨W3 (S.lead i hi).1,(S.lead i hi).2⟩,S.mono,S.red⟩
structure kL(A0:Rows)(N w top p e u v:Nat)(b:B3)(k:Nat)(c:B3):Prop where
 tn:Tn A0 c.A c.U c.C N w
 rA:∀i,k<=i->c.A.getD i []=b.A.getD i []/\c.U.getD i []=b.U.getD i []
 rC:∀i,i≠top->c.C.getD i []=b.C.getD i []
 ah:∀i q,i<k->q<p->g c.A i q=g b.A i q
 rd:∀i,i<k->0<=g c.A i p/\g c.A i p<g c.A top p
 sz:∀i q,i<k->(g c.A i q).natAbs<=2^(u+e+1)/\(g c.U i q).natAbs<=2^(u+e+1)
 sC:∀q,(g c.C top q).natAbs<=2^e+k*2^(u+v)
theorem kL.step{N w top p e u v k:Nat}(I:kL A0 N w top p e u v b k c)(hk:k<top)(ht:top<N)(hp:p<w)(htp:0<g b.A top p)(hz:∀q,q<p->g b.A top q=0)
 (hlo:∀q,(g b.A top q).natAbs<=2^e/\(g b.U top q).natAbs<=2^e) (hhi:∀i q,i<top->(g b.A i q).natAbs<=2^u/\(g b.U i q).natAbs<=2^u/\(g b.C i q).natAbs<=2^v):
 kL A0 N w top p e u v b (k+1) ⟨aQ c.A k ((g c.A k p).fdiv (g c.A top p)) top,aQ c.U k ((g c.A k p).fdiv (g c.A top p)) top,aQ c.C top (-((g c.A k p).fdiv (g c.A top p))) k⟩:=by
 have hkN:k<N:=by omega
 have gA:∀i q,k<=i->g c.A i q=g b.A i q:=λ i q hi=>by unfold g;rw[(I.rA i hi).1]
 have gU:∀i q,k<=i->g c.U i q=g b.U i q:=λ i q hi=>by unfold g;rw[(I.rA i hi).2]
 have gC:∀i q,i≠top->g c.C i q=g b.C i q:=λ i q hi=>by unfold g;rw[I.rC i hi]
 have qe:((g c.A k p).fdiv (g c.A top p)).natAbs<=2^u:=by
  rw[gA k p (VQ _),gA top p (by omega)];exact VX (Bs _ htp) (hhi k p hk).1
 have hq:∀x:Int,x.natAbs<=2^e->((g c.A k p).fdiv (g c.A top p)*x).natAbs<=2^(u+e):=λ x hx=>by
  rw[Xj,XI];exact WL qe hx
 have le1:2^u<=2^(u+e):=Wc (by decide) (by omega);refine⟨I.tn.take hkN ht (by omega),λ i hi=>?_,λ i hi=>?_,λ i q hi hqp=>?_,λ i hi=>?_,λ i q hi=>?_,λ q=>?_⟩
 . exact⟨(jw (by rw[I.tn.isA.len];exact hkN) (by omega)).trans (I.rA i (by omega)).1,(jw (by rw[I.tn.eY.len];exact hkN) (by omega)).trans (I.rA i (by omega)).2⟩
 . exact(jw (by rw[I.tn.fA.len];exact ht) hi).trans (I.rC i hi)
 . show g (aQ c.A k _ top) i q=_;rw[cE I.tn.isA hkN ht];split
   . rename_i h;rw[gA top q (by omega),hz q hqp,WR,gA k q (VQ _),h];omega
   . exact I.ah i q (by omega) hqp
 . show 0<=g (aQ c.A k _ top) i p/\g (aQ c.A k _ top) i p<g (aQ c.A k _ top) top p;rw[cE I.tn.isA hkN ht,cE I.tn.isA hkN ht,VT (show¬top=k by omega)];split
   . have h1:=Zk (g c.A k p) (g c.A top p);have htp':0<g c.A top p:=by rw[gA top p (by omega)];exact htp
     have h2:=WW (g c.A k p) htp';have h3:=Xl (g c.A k p) htp';rw[YD]at h1;omega
   . exact I.rd i (by omega)
 . show(g (aQ c.A k _ top) i q).natAbs<=_/\(g (aQ c.U k _ top) i q).natAbs<=_;rw[cE I.tn.isA hkN ht,cE I.tn.eY hkN ht];split
   . have a1:=hq (g c.A top q) (by rw[gA top q (by omega)];exact(hlo q).1);have a2:=hq (g c.U top q) (by rw[gU top q (by omega)];exact(hlo q).2);rw[gA k q (VQ _),gU k q (VQ _)];have b1:=(hhi k q hk).1;have b2:=(hhi k q hk).2.1;rw[YR];omega
   . exact I.sz i q (by omega)
 . show(g (aQ c.C top _ k) top q).natAbs<=_;rw[cE I.tn.fA ht hkN,VU rfl,gC k q (by omega),Y9];have a1:=I.sC q
   have a2:((g c.A k p).fdiv (g c.A top p)*g b.C k q).natAbs<=2^(u+v):=by
    rw[Xj,XI];exact WL qe (hhi k q hk).2.2
   rw[Nat.add_mul,Nat.one_mul];omega
theorem kL.start{N w top p e u v:Nat}(T:Tn A0 b.A b.U b.C N w)(h:∀q,(g b.C top q).natAbs<=2^e):kL A0 N w top p e u v b 0 b:=
 ⟨T,λ _ _=>⟨rfl,rfl⟩,λ _ _=>rfl,λ _ _ h=>absurd h (Wz _),λ _ h=>absurd h (Wz _),λ _ _ h=>absurd h (Wz _),λ q=>by rw[Nat.zero_mul];exact h q⟩
theorem gQ.start{N w e:Nat}(hA:aL N w A)(h:fv A N 0 (2^e)):gQ A N w ⟨A,units N,units N⟩ 0 0 (λ _=>0) e 0 0:=by
 have S:=zJ.start hA h;exact⟨S.tn,S.le,S.lo,S.hi,S.zs,S.lead,S.mono,S.red⟩
theorem gQ.VE{N w top p e u v:Nat}{ld:Nat->Nat}(S:gQ A0 N w b top p ld e u v):zJ A0 N w b top p ld e (u+v):=
 ⟨S.tn,S.le,S.lo,λ i c hi=>⟨VX (S.hi i c hi).1 (Wc (by decide) (by omega)),VX (S.hi i c hi).2.1 (Wc (by decide) (by omega)),VX (S.hi i c hi).2.2 (Wc (by decide) (by omega))⟩,S.zs,S.lead,S.mono,S.red⟩
theorem Kt(hX:aL n w X)(hB:aL w w' B)(w8:w<=8)(bX:∀i c,i<n->c<w->(g X i c).natAbs<=2^a)(bB:∀i c,i<w->c<w'->(g B i c).natAbs<=2^b):∀i c,i<n->c<w'->(g (mulM X B w') i c).natAbs<=2^(a+b+3):=λ i c hi hc=>by
 rw[yv hX hB hi]
 have:=GO (n:=w) (f:=λ k=>g X i k*g B k c) (m:=2^a*2^b) λ k hk=>by
  rw[Xj];exact WL (bX i k hi hk) (bB k c hk hc)
 refine VX this ?_;rw[show a+b+3=3+(a+b) by omega,XI _ 3,XI];exact WC _ w8
def SQ:Nat->(Nat->Rat)->Rat
 |0,_=>0
 |n+1,f=>SQ n f+f n
def dq(ps:List Rat)(w:Nat)(v:Nat->Int):Rat:=SQ w λ c=>ps.getD c 0*(v c:Rat)
theorem pH(a:Nat)(f:Nat->Int):∀b,S (a+b) f=S a f+S b λ i=>f (a+i)
 |0=>(Yq _).symm
 |b+1=>by
  show S (a+b) f+f (a+b)=S a f+(S b (λ i=>f (a+i))+f (a+b));rw[pH a f b,Int.add_assoc]
theorem aY.G7{ld:Nat->Nat}{v z:Nat->Int}(s:aY X n w ld)(hz:∀c,c<w->v c=S n λ k=>z k*g X k c){j:Nat}(hj:j<=n)(h0:∀l,l<j->v (ld l)=0)(l:Nat):l<j->z l=0:=by
 induction l using Nat.strongRecOn with
 |_ l ih=>
  intro hl;obtain⟨h1,h2,_⟩:=s.lead l (by omega);have e:=hz _ h1
  rw[h0 l hl,jc (k:=l) (by omega) λ k hk hne=>by
   rcases YT hne with q|q
   . rw[ih k q (by omega),W4]
   . rw[(s.lead k hk).2.2 _ (s.mono l k q hk),WR]]at e
  rcases Int.mul_eq_zero.mp e.symm with q|q
  . exact q
  . omega
theorem aY.Vk{ld:Nat->Nat}{v z:Nat->Int}(s:aY X n w ld)(hz:∀c,c<w->v c=S n λ k=>z k*g X k c){j:Nat}(hj:j<n)(h0:∀l,l<j->v (ld l)=0):v (ld j)=z j*g X j (ld j):=by
 obtain⟨h1,h2,_⟩:=s.lead j hj;rw[hz _ h1]
 exact jc hj λ k hk hne=>by
  rcases YT hne with q|q
  . rw[s.G7 hz (W2 hj) h0 k q,W4]
  . rw[(s.lead k hk).2.2 _ (s.mono j k q hk),WR]
theorem aY.nil{ld:Nat->Nat}{v:Nat->Int}(s:aY X n w ld)(hv:bM X n w v)(h0:∀l,l<n->v (ld l)=0)(c:Nat)(hc:c<w):v c=0:=by
 obtain⟨z,hz⟩:=hv;rw[hz c hc];exact f_ λ k hk=>by rw[s.G7 hz (VQ n) h0 k hk,W4]
theorem bM.mj{u v:Nat->Int}(a:Int)(hu:bM X n w u)(hv:bM X n w v):bM X n w λ c=>u c+a*v c:=by
 obtain⟨y,hy⟩:=hu;obtain⟨z,hz⟩:=hv;refine⟨λ k=>y k+a*z k,λ c hc=>?_⟩;show u c+a*v c=S n λ k=>(y k+a*z k)*g X k c;rw[hy c hc,hz c hc,<-fP,<-g8];exact aG λ k _=>by rw[Int.add_mul,Zc]
theorem bM.comb{a:Nat->Int}{v:Nat->Nat->Int}:∀ {m:Nat},(∀l,l<m->bM X n w (v l))->bM X n w λ c=>S m λ l=>a l*v l c
 |0,_=>⟨λ _=>0,λ c _=>(f_ λ k _=>W4 _).symm⟩
 |m+1,h=>bM.mj (a m) (bM.comb (m:=m) λ l hl=>h l (by omega)) (h m (WA m))
theorem Vg{ld:Nat->Nat}{v:Nat->Nat->Int}(s:aY X n w ld)(r:fW X n ld)(hd:d≠0)(hv:∀l,l<n->bM X n w (v l))(hl:∀l j,l<n->j<n->v l (ld j)=d*dl l j)(hb:∀l c,l<n->c<w->(v l c).natAbs<=M):∀i c,i<n->c<w->(g X i c).natAbs<=n*M:=λ i c hi hc=>by
 have le:∀j,j<n->(g X j (ld j)).natAbs<=d.natAbs:=λ j hj=>by
  obtain⟨z,hz⟩:=hv j hj;have e:=s.Vk hz hj λ l h=>by rw[hl j l hj (by omega),dw (by omega),WR]
  rw[hl j j hj hj,cR,Y6]at e;rw[e,Xj];refine Y_ _ (aaF.mpr λ q=>hd ?_);rw[e,q,W4]
 have bd:∀l,l<n->(g X i (ld l)).natAbs<=d.natAbs:=λ l h=>by
  have h1:=le l h;rcases YA i l with q|q|q
  . have:=r i l q h;omega
  . rw[q];exact h1
  . rw[(s.lead i hi).2.2 _ (s.mono l i q hi)];exact Wg _
 have e:d*g X i c=S n λ l=>g X i (ld l)*v l c:=by
  have y:bM X n w λ c=>(0*g X i c+d*g X i c)-S n λ l=>g X i (ld l)*v l c:=bM.sub (bM.mj d (bM.eq (u:=λ c=>S 0 λ _=>0) (bM.comb (m:=0) (a:=λ _=>0) (v:=λ _ _=>0) λ l h=>absurd h (Wz _)) λ c _=>W4 _) (bM.row hi)) (bM.comb hv)
  have:=s.nil y (λ l h=>by
   obtain⟨h1,_⟩:=s.lead l h
   have e:(S n λ k=>g X i (ld k)*v k (ld l))=d*g X i (ld l):=by
    rw[jc h λ k hk hne=>by rw[hl k l hk h,dw hne,WR,WR],hl l l h h,cR,Y6,YD]
   show(0*g X i (ld l)+d*g X i (ld l))-(S n λ k=>g X i (ld k)*v k (ld l))=0;rw[e];omega) c hc
  simp only[W4,YC]at this;omega
 have b2:(d*g X i c).natAbs<=n*(d.natAbs*M):=by
  rw[e];exact GO λ l h=>by rw[Xj];exact WL (bd l h) (hb l c h hc)
 rw[Xj,Xx]at b2;exact Nat.le_of_mul_le_mul_left b2 (aaF.mpr hd)
theorem SE{t l j:Nat}(hl:l<t)(hj:j<t):D t (upd M l (M j))=D t M*dl l j:=by
 by_cases h:l=j
 . subst h;rw[cR,Y6]
   exact df λ r c _ _=>by
    by_cases q:r=l
    . subst q;exact cy ..
    . exact ay q c
 . rw[dw h,WR];exact(wu t).alt l j _ hl hj h λ c _=>by rw[cy,ay (V6 h)]
theorem Uw{x y:Nat->Int}(h:∀c,c<t->x c=y c):D t (upd M l x)=D t (upd M l y):=df λ r c _ hc=>by
 unfold upd;split
 . exact h c hc
 . rfl
theorem Uu{A B:Fn}{G:Rows}{t w b:Nat}{ld:Nat->Nat}(s:aY G t w ld)(r:fW G t ld)(t8:t<=9)(hA:∀i c,i<t->c<w->(A i c).natAbs<=b)(hAB:∀i c,i<t->c<w->A i c=S t λ k=>B i k*g G k c)(hB:D t B≠0):∀k c,k<t->c<w->(g G k c).natAbs<=t*(9*b)^t:=by
 have hd:D t (λ r i=>A i (ld r))≠0:=by
  have e1:D t (λ r i=>A i (ld r))=D t (λ i r=>A i (ld r)):=Ro t λ i r=>A i (ld r)
  have e2:D t (λ i r=>A i (ld r))=D t B*D t λ k r=>g G k (ld r):=by
   rw[<-Sk];exact df λ i r hi hr=>hAB i _ hi (s.lead r hr).1
  rw[e1,e2,Uj λ r c hr hc h=>(s.lead r hr).2.2 _ (s.mono c r h hr)];exact Int.mul_ne_zero hB (YE (IE λ i hi=>(s.lead i hi).2.1))
 refine Vg (v:=λ l c=>D t (upd (λ r i=>A i (ld r)) l λ i=>A i c)) s r hd (λ l hl=>?_) (λ l j hl hj=>SE (M:=λ r i=>A i (ld r)) hl hj) λ l c hl hc=>JU (K:=9) t8 λ r i hr hi=>?_
 . refine⟨λ k=>D t (upd (λ r i=>A i (ld r)) l λ i=>B i k),λ c hc=>?_⟩;have e:=(wu t).wz hl (λ r i=>A i (ld r)) (λ k=>g G k c) (λ k i=>B i k) t;show D t (upd (λ r i=>A i (ld r)) l λ i=>A i c)=_;rw[Uw λ i hi=>(hAB i c hi hc).trans (aG λ k _=>YD _ _),e];exact aG λ k _=>YD _ _
 . unfold upd;split
   . exact hA i c hi hc
   . exact hA i _ hi (s.lead r hr).1
theorem kH.picked{ld:Nat->Nat}(st:aY F m w ld)(same:kH A N F m w):∃(I:Nat->Nat) (B:Fn),(∀k,k<m->I k<N)/\(∀i c,i<m->c<w->g A (I i) c=S m λ k=>B i k*g F k c)/\D m B≠0:=by
 have hB:∀i,∃z:Nat->Int,i<N->∀c,c<w->g A i c=S m λ k=>z k*g F k c:=λ i=>by
  by_cases h:i<N
  . obtain⟨z,hz⟩:=same.to i h;exact⟨z,λ _=>hz⟩
  . exact⟨λ _=>0,λ z=>absurd z h⟩
 have hU:∀k,∃z:Nat->Int,k<m->∀c,c<w->g F k c=S N λ i=>z i*g A i c:=λ k=>by
  by_cases h:k<m
  . obtain⟨z,hz⟩:=same.of k h;exact⟨z,λ _=>hz⟩
  . exact⟨λ _=>0,λ z=>absurd z h⟩
 let B:Fn:=λ i=>Classical.choose (hB i)
 let U:Fn:=λ k=>Classical.choose (hU k)
 have eB:∀i,i<N->∀c,c<w->g A i c=S m λ k=>B i k*g F k c:=λ i=>XG (hB i);have eU:∀k,k<m->∀c,c<w->g F k c=S N λ i=>U k i*g A i c:=λ k=>XG (hU k)
 obtain⟨I,h1,h2⟩:=pick (t:=m) (N:=N) (U:=U) (B:=B) λ k l hk hl=>by
  have e1:∀c,c<w->S m (λ l=>(S N λ i=>U k i*B i l)*g F l c)=g F k c:=λ c hc=>by
   rw[eU k hk c hc]
   have:(S N λ i=>U k i*g A i c)=S N λ i=>S m λ l=>U k i*B i l*g F l c:=aG λ i hi=>by
    rw[eB i hi c hc,<-fP];exact aG λ l _=>(Zc _ _ _).symm
   rw[this,w6];exact aG λ l _=>(Cz _ _ _).symm
  have e2:∀c,c<w->(0:Int)=S m λ l=>((S N λ i=>U k i*B i l)-dl k l)*g F l c:=λ c hc=>by
   have h1:(S m λ l=>((S N λ i=>U k i*B i l)-dl k l)*g F l c)=S m (λ l=>(S N λ i=>U k i*B i l)*g F l c)-S m λ l=>dl k l*g F l c:=by
    rw[YS,<-qK,<-g8];exact aG λ l _=>by rw[Int.sub_mul,YS]
   rw[h1,e1 c hc,pD hk,Int.sub_self]
  have e3:(S N λ i=>U k i*B i l)-dl k l=0:=st.gone (v:=λ _=>0) (z:=λ l=>(S N λ i=>U k i*B i l)-dl k l) (q:=w) e2 (λ _ _=>rfl) l hl (st.lead l hl).1;omega
 exact⟨I,λ i=>B (I i),h1,λ i c hi hc=>eB _ (h1 i hi) c hc,h2⟩
theorem kH.abs(m8:m<=8)(sF:aY F m w (eQ F))(rF:fW F m (eQ F))(same:kH A N F m w)(hA:∀i c,i<N->c<w->(g A i c).natAbs<=b):∀i c,i<m->c<w->(g F i c).natAbs<=m*(9*b)^m:=by
 obtain⟨I,B,h1,h2,h3⟩:=same.picked sF;exact Uu (A:=λ i=>g A (I i)) sF rF (by omega) (λ i c hi hc=>hA _ c (h1 i hi) hc) h2 h3
def Ln(A:Rows)(N:Nat):Rows:=(List.range N).map λ n=>A.getD n []++eX N n
def Gd(F:Rows)(h w:Nat):Rows:=(F.drop h).map (List.drop w)
structure VG(A F:Rows)(N w m h:Nat):Prop where
 hA:aL N w A
 is:aL m (w+N) F
 st:aY F m (w+N) (eQ F)
 red:fW F m (eQ F)
 same:kH (Ln A N) N F m (w+N)
 le:h<=m
 lo:∀i,i<h->eQ F i<w
 hi:∀i,h<=i->i<m->w<=eQ F i
section
variable {A F:Rows}{N w m h:Nat}(L:VG A F N w m h)
include L
end
theorem Kq(hb:0<b)(hba:b<=a)(hq:2*(q*b)<=2*a+b)(ha':2*a'<=b)(hs:s*(a*(a*a))<=C)(ht:t*(a*(b*b))<=C)(h:s'<=s+q*t):s'*(b*(a'*a'))<=C/\2*s'<=5*C:=by
 have ha:0<a:=Wj hb hba;have e1:2*(q*b)*t<=3*a*t:=WC t (by omega)
 have e2:2*(q*b)*t*(b*b)<=3*C:=by
  refine VX (WC (b*b) e1) ?_
  have:3*a*t*(b*b)=3*(t*(a*(b*b))):=by
   rw[WO 3 a t,Yb a t,WO 3,WO t a]
  rw[this];exact WK 3 ht
 have e3:s*(b*(b*b))<=C:=VX (WK s (WL hba (WL hba hba))) hs;constructor
 . have f1:4*(a'*a')<=b*b:=by
    have:=WL ha' ha'
    have e:2*a'*(2*a')=4*(a'*a'):=by
     rw[WO,<-WO a' 2 a',Yb a' 2,WO 2 a' a',<-WO]
    rwa [e]at this
   have f2:s'*(b*(b*b))<=s*(b*(b*b))+q*t*(b*(b*b)):=by
    rw[<-Nat.add_mul];exact WC _ h
   have f3:2*(q*t*(b*(b*b)))=2*(q*b)*t*(b*b):=by
    rw[<-WO (q*t) b (b*b),<-WO 2,ZQ q t b,<-WO 2]
   have f4:4*(s'*(b*(a'*a')))<=s'*(b*(b*b)):=by
    have e:4*(s'*(b*(a'*a')))=s'*(b*(4*(a'*a'))):=by
     rw[Xx 4 s',Xx 4 b]
    rw[e];exact WK _ (WK _ f1)
   omega
 . have g1:s<=C:=VX (XR s (aav ha (aav ha ha))) hs
   have g2:q*t<=q*b*t*(b*b):=by
    have h1:q*t<=q*b*t:=by
     rw[ZQ];exact XR _ hb
    exact VX h1 (XR _ (aav hb hb))
   have g3:2*(q*b*t*(b*b))=2*(q*b)*t*(b*b):=by
    rw[<-WO 2,<-WO 2]
   omega
theorem LB(hb:0<b)(hba:b<=a)(ha':2*a'<=b)(hq:a=q*b+a'\/q*b=a+a'):b*b*(cg*a'+(cs+q*cg)*b)<=a*a*(cg*a+cs*b):=by
 have bb:b*b<=a*a:=WL hba hba
 have e0:cg*a'+(cs+q*cg)*b=cg*(a'+q*b)+cs*b:=by
  rw[Nat.add_mul,Za,ZQ q cg b,Yb (q*b) cg];omega
 rw[e0];by_cases z:a'=0
 . subst z;have:a=q*b:=by omega
   rw[Ye,<-this];exact WC _ bb
 rcases hq with h|h
 . rw[show a'+q*b=a by omega];exact WC _ bb
 have q2:2<=q:=by
  rcases ZC q 2 with y|y
  . have:q=0\/q=1:=by omega
    rcases this with rfl|rfl
    . omega
    . omega
  . exact y
 have qb:2*b<=q*b:=WC b q2;have a3:3*b<=2*a:=by omega
 have sq:9*(b*b)<=4*(a*a):=by
  have:=WL a3 a3;have e1:3*b*(3*b)=9*(b*b):=by rw[WO,Xx b 3 b,<-WO]
  have e2:2*a*(2*a)=4*(a*a):=by rw[WO,Xx a 2 a,<-WO]
  rwa [e1,e2]at this
 have key:b*b*(a'+q*b)<=a*a*a:=by
  have h1:a'+q*b<=a+b:=by omega
  have h2:b*b*(a'+q*b)<=b*b*(a+b):=WK _ h1;have h3:9*(b*b)*a<=4*(a*a)*a:=WC a sq;have h4:b*b*b<=b*b*a:=WK _ hba;rw[Za (b*b) a b]at h2;rw[WO 9,WO 4]at h3;omega
 rw[Za (b*b),Za (a*a)];refine YX ?_ (WC _ bb);rw[Xx (b*b) cg,Xx (a*a) cg];exact WK cg key
theorem yn(hy:y≠0)(hxy:y.natAbs<=x.natAbs):x.natAbs=(qn x y).natAbs*y.natAbs+(x-qn x y*y).natAbs\/(qn x y).natAbs*y.natAbs=x.natAbs+(x-qn x y*y).natAbs:=by
 have h:=o_ (x:=x) hy;rw[<-Xj];generalize qn x y*y=z at h;omega
def Gz(X A:Rows)(N top p gm K:Nat):Prop:=∀i c,top<=i->i<N->(g X i c).natAbs*(gm*((g A i p).natAbs*(g A i p).natAbs))<=K/\2*(g X i c).natAbs<=5*K
theorem Gz.step{N w wA top p gm K k j:Nat}(hX:aL N w X)(hA:aL N wA A)(hk:k<N)(hj:j<N)(hkt:top<=k)(hjt:top<=j)(hj0:g A j p≠0)(hle:(g A j p).natAbs<=(g A k p).natAbs)(hgm:(g A k p).natAbs<=gm)(h:Gz X A N top p gm K):Gz (aQ X k (qn (g A k p) (g A j p)) j) (aQ A k (qn (g A k p) (g A j p)) j) N top p (g A j p).natAbs K:=λ i c hi hN=>by
 by_cases hik:i=k
 . rw[hik,cE hX hk hj,VU rfl,cE hA hk hj,VU rfl];have r:=o_ (x:=g A k p) hj0
   have q2:2*((qn (g A k p) (g A j p)).natAbs*(g A j p).natAbs)<=2*(g A k p).natAbs+(g A j p).natAbs:=by
    rcases yn hj0 hle with z|z<;>omega
   refine Kq (by omega) hle q2 r (VX (WK _ (WC _ hgm)) (h k c hkt hk).1) (VX (WK _ (WC _ hgm)) (h j c hjt hj).1) ?_;have h1:=Int.natAbs_sub_le (g X k c) (qn (g A k p) (g A j p)*g X j c);rw[Xj]at h1;exact h1
 . rw[cE hX hk hj,VT hik,cE hA hk hj,VT hik];exact⟨VX (WK _ (WC _ (VX hle hgm))) (h i c hi hN).1,(h i c hi hN).2⟩
theorem CS{f f':Nat->Nat}{k:Nat}(h:∀i,i≠k->f' i=f i):∀ {n:Nat},k<n->SU f' n+f k=SU f n+f' k
 |0,hk=>absurd hk (Wz _)
 |n+1,hk=>by
  show SU f' n+f' n+f k=SU f n+f n+f' k;by_cases e:k=n
  . subst e;have:SU f' k=SU f k:=XA (AJ λ i hi=>by rw[h i (by omega)];exact VQ _) (AJ λ i hi=>by rw[h i (by omega)];exact VQ _);omega
  . have:=CS h (n:=n) (by omega);have:=h n (by omega);omega
theorem IS{f f':Nat->Nat}{j k n:Nat}(hj:j<n)(hk:k<n)(hjk:j≠k)(h:∀i,i≠j->i≠k->f' i=f i):SU f' n+(f j+f k)=SU f n+(f' j+f' k):=by
 have h1:=CS (f:=f) (f':=λ i=>if i=j then f' j else f i) (k:=j) (λ i hi=>VT hi) hj
 have h2:=CS (f:=λ i=>if i=j then f' j else f i) (f':=f') (k:=k) (λ i hi=>by
  by_cases z:i=j
  . rw[VU z,z]
  . rw[VT z];exact h i z hi) hk
 rw[VU rfl]at h1;rw[VT (V6 hjk)]at h2;omega
theorem Ni{f:Nat->Nat}{k:Nat}:∀ {n:Nat},k<n->f k<=SU f n
 |0,hk=>absurd hk (Wz _)
 |n+1,hk=>by
  show f k<=SU f n+f n;by_cases e:k=n
  . subst e;omega
  . have:=Ni (f:=f) (k:=k) (n:=n) (by omega);omega
def Fc(C A:Rows)(top p c i:Nat):Nat:=if top<=i then(g C i c).natAbs*(g A i p).natAbs else 0
structure Sc(C A:Rows)(N top p gm K:Nat):Prop where
 sum:∀c,gm*gm*SU (Fc C A top p c) N<=K
 all:∀i c,top<=i->i<N->(g C i c).natAbs<=K
theorem Sc.step{N w wA top p gm K k j:Nat}(hC:aL N w C)(hA:aL N wA A)(hk:k<N)(hj:j<N)(hkt:top<=k)(hjt:top<=j)(hjk:j≠k)(hj0:g A j p≠0)(hle:(g A j p).natAbs<=(g A k p).natAbs)(hgm:(g A k p).natAbs<=gm)(h:Sc C A N top p gm K):Sc (aQ C j (-(qn (g A k p) (g A j p))) k) (aQ A k (qn (g A k p) (g A j p)) j) N top p (g A j p).natAbs K:=by
 have r:=o_ (x:=g A k p) hj0;have side:=yn hj0 hle;have b0:0<(g A j p).natAbs:=by omega
 have gC:∀i c,g (aQ C j (-(qn (g A k p) (g A j p))) k) i c=if i=j then g C j c- -(qn (g A k p) (g A j p))*g C k c else g C i c:=λ i c=>cE hC hj hk i c
 have gA:∀i c,g (aQ A k (qn (g A k p) (g A j p)) j) i c=if i=k then g A k c-qn (g A k p) (g A j p)*g A j c else g A i c:=λ i c=>cE hA hk hj i c
 have sum:∀c,(g A j p).natAbs*(g A j p).natAbs*SU (Fc (aQ C j (-(qn (g A k p) (g A j p))) k) (aQ A k (qn (g A k p) (g A j p)) j) top p c) N<=K:=λ c=>by
  have k1:Fc (aQ C j (-(qn (g A k p) (g A j p))) k) (aQ A k (qn (g A k p) (g A j p)) j) top p c k=(g C k c).natAbs*(g A k p-qn (g A k p) (g A j p)*g A j p).natAbs:=by
   unfold Fc;rw[VU hkt,gC,VT (V6 hjk),gA,VU rfl]
  have j1:Fc (aQ C j (-(qn (g A k p) (g A j p))) k) (aQ A k (qn (g A k p) (g A j p)) j) top p c j<=((g C j c).natAbs+(qn (g A k p) (g A j p)).natAbs*(g C k c).natAbs)*(g A j p).natAbs:=by
   unfold Fc;rw[VU hjt,gC,VU rfl,gA,VT hjk];refine WC _ ?_;have h1:=Int.natAbs_sub_le (g C j c) (-(qn (g A k p) (g A j p))*g C k c);rw[Xj,Xi]at h1;exact h1
  have k0:Fc C A top p c k=(g C k c).natAbs*(g A k p).natAbs:=by unfold Fc;rw[VU hkt]
  have j0:Fc C A top p c j=(g C j c).natAbs*(g A j p).natAbs:=by unfold Fc;rw[VU hjt]
  have same:∀i,i≠j->i≠k->Fc (aQ C j (-(qn (g A k p) (g A j p))) k) (aQ A k (qn (g A k p) (g A j p)) j) top p c i=Fc C A top p c i:=λ i h1 h2=>by
   unfold Fc;rw[gC,VT h1,gA,VT h2]
  have main:=LB (cg:=(g C k c).natAbs) (cs:=(g C j c).natAbs) b0 hle r side;have H:=h.sum c;generalize Fc (aQ C j (-(qn (g A k p) (g A j p))) k) (aQ A k (qn (g A k p) (g A j p)) j) top p c=f' at k1 j1 same;generalize Fc C A top p c=f at k0 j0 same H;have t1:=IS (f:=λ i=>if i=j\/i=k then 0 else f i) (f':=f) hj hk hjk λ i h1 h2=>(VT (by omega)).symm;have t2:=IS (f:=λ i=>if i=j\/i=k then 0 else f i) (f':=f') hj hk hjk λ i h1 h2=>(same i h1 h2).trans (VT (by omega)).symm;rw[VU (.inl rfl),VU (.inr rfl)]at t1 t2;generalize SU (λ i=>if i=j\/i=k then 0 else f i) N=R at t1 t2;have e1:SU f' N=R+(f' k+f' j):=by omega
  have e2:SU f N=R+(f k+f j):=by omega
  rw[e2,k0,j0]at H;rw[e1];refine VX ?_ H;have bg:(g A j p).natAbs*(g A j p).natAbs<=gm*gm:=WL (VX hle hgm) (VX hle hgm);have ag:(g A k p).natAbs*(g A k p).natAbs<=gm*gm:=WL hgm hgm;rw[Za _ R,Za (gm*gm) R];refine YX (WC _ bg) ?_;refine VX (WK _ (YX (Zp k1) j1)) (VX main (WC _ ag))
 refine⟨sum,λ i c hi hN=>?_⟩;by_cases hij:i=j
 . rw[hij];refine VX ?_ (sum c)
   have h1:Fc (aQ C j (-(qn (g A k p) (g A j p))) k) (aQ A k (qn (g A k p) (g A j p)) j) top p c j=(g (aQ C j (-(qn (g A k p) (g A j p))) k) j c).natAbs*(g A j p).natAbs:=by
    unfold Fc;rw[VU hjt,gA,VT hjk]
   have h2:=Ni (f:=Fc (aQ C j (-(qn (g A k p) (g A j p))) k) (aQ A k (qn (g A k p) (g A j p)) j) top p c) hj;rw[h1]at h2;refine VX (VX (XR _ b0) h2) (Y_ _ (aav b0 b0))
 . rw[gC,VT hij];exact h.all i c hi hN
structure Gb(A0:Rows)(N w top p K KC gm:Nat)(b0 b:B3):Prop where
 tn:Tn A0 b.A b.U b.C N w
 up:∀i,i<top->b.A.getD i []=b0.A.getD i []/\b.U.getD i []=b0.U.getD i []/\b.C.getD i []=b0.C.getD i []
 mx:∀i,top<=i->i<N->(g b.A i p).natAbs<=gm
 sA:Gz b.A b.A N top p gm K
 sU:Gz b.U b.A N top p gm K
 sC:Sc b.C b.A N top p gm KC
 zs:∀i c,top<=i->i<N->c<p->g b.A i c=0
 Td:b=b0\/∃j,top<=j/\j<N/\g b.A j p≠0
theorem Gb.step{N w top p K KC gm:Nat}{b0 b:B3}{k j:Nat}(G:Gb A0 N w top p K KC gm b0 b)(hL:e7 b.A N top p (L++[j,k])):
 Gb A0 N w top p K KC (g b.A j p).natAbs b0 (mr b p k j)/\(g (mr b p k j).A k p).natAbs<(g b.A k p).natAbs/\(∀i,i≠k->g (mr b p k j).A i p=g b.A i p)/\top<=k/\k<N/\top<=j/\j<N/\j≠k/\g b.A j p≠0/\(qn (g b.A k p) (g b.A j p)).natAbs<=2*(g b.A k p).natAbs:=by
 obtain⟨hk1,hk2,hk3⟩:=(hL.mem k).mp (by simp);obtain⟨hj1,hj2,hj3⟩:=(hL.mem j).mp (by simp);have hord:=hL.ord;rw[List.pairwise_append]at hord;have o2:=(XF.mp hord.2.1).1 k (by simp);have hjk:j≠k:=by intro z;subst z;omega
 have hle:(g b.A j p).natAbs<=(g b.A k p).natAbs:=by omega
 have hgm:=G.mx k hk1 hk2
 have gk:g (mr b p k j).A k p=g b.A k p-qn (g b.A k p) (g b.A j p)*g b.A j p:=by
  show g (aQ b.A k _ j) k p=_;rw[cE G.tn.isA hk2 hj2,VU rfl]
 have gi:∀i,i≠k->g (mr b p k j).A i p=g b.A i p:=λ i hi=>by
  show g (aQ b.A k _ j) i p=_;rw[cE G.tn.isA hk2 hj2,VT hi]
 have hrest:=o_ (x:=g b.A k p) hj3;refine⟨⟨G.tn.take hk2 hj2 hjk,λ i hi=>?_,λ i h1 h2=>?_,G.sA.step G.tn.isA G.tn.isA hk2 hj2 hk1 hj1 hj3 hle hgm,G.sU.step G.tn.eY G.tn.isA hk2 hj2 hk1 hj1 hj3 hle hgm,G.sC.step G.tn.fA G.tn.isA hk2 hj2 hk1 hj1 hjk hj3 hle hgm,λ i c hi hN hc=>?_,.inr ⟨j,hj1,hj2,by rw[gi j hjk];exact hj3⟩⟩,?_,gi,hk1,hk2,hj1,hj2,hjk,hj3,?_⟩
 . obtain⟨a1,a2,a3⟩:=G.up i hi;refine⟨(jw (by rw[G.tn.isA.len];exact hk2) (by omega)).trans a1,(jw (by rw[G.tn.eY.len];exact hk2) (by omega)).trans a2,(jw (by rw[G.tn.fA.len];exact hj2) (by omega)).trans a3⟩
 . by_cases h:i=k
   . rw[h,gk];omega
   . rw[gi i h];by_cases z:g b.A i p=0
     . rw[z];exact Wg _
     . have m:=(hL.mem i).mpr ⟨h1,h2,z⟩;rcases Wf.mp m with y|y
       . have:=hord.2.2 i y j (by simp);omega
       . rcases V4.mp y with y|y
         . rw[y];exact VQ _
         . exact absurd (Wk.mp y) h
 . show g (aQ b.A k _ j) i c=0;rw[cE G.tn.isA hk2 hj2];by_cases h:i=k
   . rw[VU h,G.zs k c hk1 hk2 hc,G.zs j c hj1 hj2 hc,WR];rfl
   . rw[VT h];exact G.zs i c hi hN hc
 . rw[gk];omega
 . have b1:1<=(g b.A j p).natAbs:=by omega
   have:=WK (qn (g b.A k p) (g b.A j p)).natAbs b1;rcases yn hj3 hle with z|z<;>omega
theorem L_{f:Nat->Nat}:∀ {n:Nat},(∀i,i<n->f i<=M)->SU f n<=n*M
 |0,_=>Wg _
 |n+1,h=>by
  have h1:=L_ (n:=n) λ i hi=>h i (W3 hi);have h2:=h n (WA n);rw[aaJ];exact YX h1 h2
theorem Gb.start{N w top p e u v:Nat}{ld:Nat->Nat}(S:gQ A0 N w b top p ld e u v):Gb A0 N w top p (2^(4*e)) (N*2^(4*e)) (2^e) b b:=by
 obtain⟨lA,lU,lC⟩:=S.lo
 have e4:2^e*(2^e*(2^e*2^e))=2^(4*e):=by
  rw[<-XI,<-XI,<-XI];congr 1;omega
 have e1:2^e<=2^(4*e):=Wc (by decide) (by omega)
 have gz:∀X:Rows,fv X N top (2^e)->Gz X b.A N top p (2^e) (2^(4*e)):=λ X h i c hi hN=>by
  have h1:=h i c hi hN;have h2:=lA i p hi hN;refine⟨?_,by omega⟩;rw[<-e4];exact WL h1 (WK _ (WL h2 h2))
 refine⟨S.tn,λ _ _=>⟨rfl,rfl,rfl⟩,λ i hi hN=>lA i p hi hN,gz _ lA,gz _ lU,⟨λ c=>?_,λ i c hi hN=>?_⟩,S.zs,.inl rfl⟩
 . have h1:SU (Fc b.C b.A top p c) N<=N*(2^e*2^e):=L_ λ i hi=>by
    unfold Fc;by_cases h:top<=i
    . rw[VU h];exact WL (lC i c h hi) (lA i p h hi)
    . rw[VT h];exact Wg _
   refine VX (WK _ h1) ?_;rw[Xx,WO,e4];exact VQ _
 . refine VX (lC i c hi hN) (VX e1 ?_);exact Y_ _ (by omega)
theorem Gb.low{N w top p e gm:Nat}{b0 b:B3}(G:Gb A0 N w top p (2^(4*e)) (N*2^(4*e)) gm b0 b)(hN:N<=16):fv b.A N top (2^(4*e+4))/\fv b.U N top (2^(4*e+4))/\fv b.C N top (2^(4*e+4)):=by
 have e4:2^(4*e+4)=16*2^(4*e):=by rw[XI,Yb]
 rw[e4];refine⟨λ i c hi h=>?_,λ i c hi h=>?_,λ i c hi h=>?_⟩
 . have:=(G.sA i c hi h).2;omega
 . have:=(G.sU i c hi h).2;omega
 . exact VX (G.sC.all i c hi h) (WC _ hN)
theorem Gb.set{N w top p K KC gm m r:Nat}{b0 b:B3}(G:Gb A0 N w top p K KC gm b0 b)(lw:fv b.A N top m/\fv b.U N top m/\fv b.C N top m)(hL:e7 b.A N top p [r]):vh A0 N w top p m b0 (setB b p top r)/\top<=r/\r<N:=by
 obtain⟨hr1,hr2,hr3⟩:=(hL.mem r).mp (by simp);have ht:top<N:=by omega
 have z:∀i,top<=i->i<N->i≠r->g b.A i p=0:=λ i h1 h2 h3=>XH λ y=>h3 (by simpa using(hL.mem i).mpr ⟨h1,h2,y⟩);have swg:∀i c,g (a_ b.A top r) i c=g b.A (sw top r i) c:=λ i c=>iL G.tn.isA ht hr2 i c;have gt:g (a_ b.A top r) top p=g b.A r p:=by rw[swg];unfold sw;rw[VU rfl]
 have T1:=G.tn.MC ht hr2
 have z1:∀i,top<i->i<N->g (a_ b.A top r) i p=0:=λ i h1 h2=>by
  rw[swg];unfold sw;rw[VT (by omega)];by_cases h:i=r
  . rw[VU h];exact z top (VQ _) ht (by omega)
  . rw[VT h];exact z i (by omega) h2 h
 have zs:∀i c,top<=i->i<N->c<p->g (a_ b.A top r) i c=0:=λ i c h1 h2 h3=>by
  rw[swg];refine G.zs _ c ?_ (sI ht hr2 h2) h3;unfold sw;split
  . exact hr1
  . split
    . exact VQ _
    . exact h1
 have up:∀i,i<top->(a_ b.A top r).getD i []=b0.A.getD i []/\(a_ b.U top r).getD i []=b0.U.getD i []/\(a_ b.C top r).getD i []=b0.C.getD i []:=λ i hi=>by
  obtain⟨a1,a2,a3⟩:=G.up i hi;exact⟨(vX G.tn.isA ht hr2 hr1 hi).trans a1,(vX G.tn.eY ht hr2 hr1 hi).trans a2,(vX G.tn.fA ht hr2 hr1 hi).trans a3⟩
 have lo:=And.intro (vi G.tn.isA ht hr2 hr1 lw.1) (And.intro (vi G.tn.eY ht hr2 hr1 lw.2.1) (vi G.tn.fA ht hr2 hr1 lw.2.2));refine⟨?_,hr1,hr2⟩;unfold setB;by_cases hs:g (a_ b.A top r) top p<0
 . rw[VU hs];refine⟨T1.neg ht,λ i hi=>?_,⟨Bh T1.isA ht lo.1,Bh T1.eY ht lo.2.1,Bh T1.fA ht lo.2.2⟩,λ i c h1 h2 h3=>?_,?_,λ i h1 h2=>?_⟩
   . obtain⟨a1,a2,a3⟩:=up i hi;exact⟨(CK T1.isA ht hi).trans a1,(CK T1.eY ht hi).trans a2,(CK T1.fA ht hi).trans a3⟩
   . show g (fb (a_ b.A top r) top) i c=0;rw[fL T1.isA ht];split
     . rw[zs top c (VQ _) ht h3];rfl
     . exact zs i c h1 h2 h3
   . show 0<g (fb (a_ b.A top r) top) top p;rw[fL T1.isA ht,VU rfl];omega
   . show g (fb (a_ b.A top r) top) i p=0;rw[fL T1.isA ht,VT (by omega)];exact z1 i h1 h2
 . rw[VT hs];exact⟨T1,up,lo,zs,by show 0<g (a_ b.A top r) top p;rw[gt]at hs⊢;omega,z1⟩
def Ey(e0:Nat):Nat->Nat
 |0=>e0
 |t+1=>4*Ey e0 t+4
def Uy(e0:Nat):Nat->Nat
 |0=>0
 |t+1=>Uy e0 t+Ey e0 (t+1)+1
def Cy(e0:Nat):Nat->Nat
 |0=>0
 |t+1=>Uy e0 t+Cy e0 t+Ey e0 (t+1)+4
def Ry(N w e0:Nat):Prop:=∀t,t<N->t<w->Ey e0 (t+1)<60000000/\Uy e0 t+Ey e0 (t+1)<=120000000/\Uy e0 t+Cy e0 t<=120000000
instance (N w e0:Nat):Decidable (Ry N w e0):=by
 unfold Ry;exact decidable_of_iff (∀t,t<N->t<w->(Ey e0 (t+1)<60000000/\Uy e0 t+Ey e0 (t+1)<=120000000/\Uy e0 t+Cy e0 t<=120000000)) Iff.rfl
theorem vh.Sw{N w top p e u v e' u' v':Nat}{b0 b c:B3}{ld:Nat->Nat}(S:gQ A0 N w b0 top p ld e u v)(s:vh A0 N w top p (2^e') b0 b)(ht:top<N)(I:kL A0 N w top p e' u v b top c)(hN:top<=16)
 (h1:u+e'+1<=u') (h2:u+v+5<=v') (h9:e'+1<=v'):gQ A0 N w c (top+1) (p+1) (λ i=>if i=top then p else ld i) e' u' v':=by
 have hup:∀i q,i<top->g b.A i q=g b0.A i q:=λ i q hi=>by unfold g;rw[(s.up i hi).1]
 have hA:∀i q,top<=i->g c.A i q=g b.A i q:=λ i q hi=>by unfold g;rw[(I.rA i hi).1]
 have hU:∀i q,top<=i->g c.U i q=g b.U i q:=λ i q hi=>by unfold g;rw[(I.rA i hi).2]
 have hC:∀i q,i≠top->g c.C i q=g b.C i q:=λ i q hi=>by unfold g;rw[I.rC i hi]
 have le:∀ {a x:Nat},a<=2^x->x<=u'->a<=2^u':=λ h hx=>VX h (Wc (by decide) hx);refine⟨I.tn,ht,⟨λ i q hi hN=>?_,λ i q hi hN=>?_,λ i q hi hN=>?_⟩,λ i q hi=>?_,λ i q hi hN hq=>?_,λ i hi=>?_,λ i j hij hj=>?_,λ i j hij hj=>?_⟩
 . rw[hA i q (by omega)];exact s.lo.1 i q (by omega) hN
 . rw[hU i q (by omega)];exact s.lo.2.1 i q (by omega) hN
 . rw[hC i q (by omega)];exact s.lo.2.2 i q (by omega) hN
 . by_cases h:i=top
   . subst h;refine⟨?_,?_,?_⟩
     . rw[hA i q (VQ _)];exact le (s.lo.1 i q (VQ _) ht) (by omega)
     . rw[hU i q (VQ _)];exact le (s.lo.2.1 i q (VQ _) ht) (by omega)
     . have h3:=I.sC q;have h4:i*2^(u+v)<=2^(u+v+4):=by rw[XI _ _ 4,Yb];exact WK _ (by omega)
       have h5:2^(u+v+4)*2<=2^v':=by rw[<-YR];exact Wc (by decide) h2
       have h6:2^e'*2<=2^v':=by rw[<-YR];exact Wc (by decide) h9
       omega
   . have hi':i<top:=by omega
     refine⟨le (I.sz i q hi').1 h1,le (I.sz i q hi').2 h1,?_⟩;rw[hC i q h];have:g b.C i q=g b0.C i q:=by unfold g;rw[(s.up i hi').2.2]
     rw[this];exact VX (S.hi i q hi').2.2 (Wc (by decide) (by omega))
 . rw[hA i q (by omega)];by_cases h:q=p
   . rw[h];exact s.z1 i (by omega) hN
   . exact s.zs i q (by omega) hN (by omega)
 . by_cases h:i=top
   . subst h;rw[VU rfl];refine⟨WA p,?_,λ q hq=>?_⟩
     . rw[hA i p (VQ _)];exact s.tp
     . rw[hA i q (VQ _)];exact s.zs i q (VQ _) ht hq
   . have hi':i<top:=by omega
     rw[VT h];obtain⟨a1,a2,a3⟩:=S.lead i hi';refine⟨W3 a1,?_,λ q hq=>?_⟩
     . rw[I.ah i _ hi' a1,hup i _ hi'];exact a2
     . rw[I.ah i _ hi' (Yg hq a1),hup i _ hi'];exact a3 q hq
 . by_cases h:j=top
   . rw[VU h,VT (by omega)];exact(S.lead i (by omega)).1
   . rw[VT h,VT (by omega)];exact S.mono i j hij (by omega)
 . by_cases h:j=top
   . subst h;rw[VU rfl];exact I.rd i hij
   . have hj':j<top:=by omega
     rw[VT h];have:=S.red i j hij hj';have hl:=(S.lead j hj').1;rw[I.ah i _ (by omega) hl,I.ah j _ hj' hl,hup i _ (by omega),hup j _ hj'];exact this
def Cx(e0:Nat):Nat->Nat
 |0=>0
 |t+1=>Uy e0 t+Cx e0 t+Ey e0 (t+1)+5
theorem di.gb{N w top p K KC:Nat}{b0 b c:B3}(h:di N top p b c):∀ {gm:Nat},Gb A0 N w top p K KC gm b0 b->∃gm',Gb A0 N w top p K KC gm' b0 c:=by
 induction h with
 |refl b=>exact λ G=>⟨_,G⟩
 |head s _ ih=>
  intro gm G;obtain⟨L,k,j,hL,rfl⟩:=s;exact ih (G.step hL).1
theorem gQ.Ld{N w t p e u v r:Nat}{ld:Nat->Nat}(S:gQ A0 N w b t p ld e u v)(hN:N<=16)(hp:p<w)(h:di N t p b c)(l:e7 c.A N t p [r]):
 vh A0 N w t p (2^(4*e+4)) b (setB c p t r)/\t<N/\∀k,k<=t->kL A0 N w t p (4*e+4) u v (setB c p t r) k (fg p t k (setB c p t r)):=by
 obtain⟨gm,G⟩:=h.gb (Gb.start S);obtain⟨s1,h1,h2⟩:=G.set (G.low hN) l;have ht:t<N:=Yv h1 h2;refine⟨s1,ht,λ k=>?_⟩;induction k with
 |zero=>exact λ _=>kL.start s1.tn λ q=>s1.lo.2.2 t q (VQ _) ht
 |succ k ih=>
  intro hk;refine(ih (W2 hk)).step hk ht hp s1.tp (λ q hq=>s1.zs t q (VQ _) ht hq) (λ q=>⟨s1.lo.1 t q (VQ _) ht,s1.lo.2.1 t q (VQ _) ht⟩) λ i q hi=>?_;obtain⟨a1,a2,a3⟩:=s1.MG hi q;rw[a1,a2,a3];exact S.hi i q hi
theorem g6.str(hA:aL N w A)(hlo:fv A N 0 (2^e0))(hN:N<=16)(h:g6 A N p t b):p<=w->∃ld,gQ A N w b t p ld (Ey e0 t) (Uy e0 t) (Cx e0 t):=by
 induction h with
 |start=>exact λ _=>⟨_,gQ.start hA hlo⟩
 |next _ c ih=>
  intro hp;obtain⟨ld,S⟩:=ih (W2 hp);cases c with
  |none l=>exact⟨ld,S.skip l⟩
  |one g l=>
   obtain⟨s1,ht,I⟩:=S.Ld hN hp g l;exact⟨_,vh.Sw (e':=Ey e0 (_+1)) (u':=Uy e0 (_+1)) (v':=Cx e0 (_+1)) S s1 ht (I _ (VQ _)) (by omega) (VQ _) (by show _<=Uy e0 _+Cx e0 _+Ey e0 (_+1)+5;omega) (by show _<=Uy e0 _+Cx e0 _+Ey e0 (_+1)+5;omega)⟩
theorem gQ.Sl{N w t p e u v z:Nat}{ld:Nat->Nat}(S:gQ A0 N w b t p ld e u v)(hp:p<w)(hN:N<=16)(hu:u<=z)(hv:v<=z)(hz:t<N->u+v+(4*e+4)+6<=z):xl N p t z b:=by
 have up:∀ {a x:Nat},a<=2^x->x<=z->a<=2^z:=λ h hx=>VX h (Wc (by decide) hx);refine⟨λ c h i q hi=>?_,λ c r k h l hk i q hi=>?_⟩
 . obtain⟨gm,G⟩:=h.gb (Gb.start S);by_cases ht:i<t
   . obtain⟨a1,a2,a3⟩:=G.up i ht;have:=S.hi i q ht;unfold g at this⊢;rw[a1,a2,a3];exact⟨up this.1 hu,up this.2.1 hu,up this.2.2 hv⟩
   . have ht':=WD ht;have hz:=hz (by omega);have w1:=G.low hN;exact⟨up (w1.1 i q ht' hi) (by omega),up (w1.2.1 i q ht' hi) (by omega),up (w1.2.2 i q ht' hi) (by omega)⟩
 . obtain⟨s,ht,I'⟩:=S.Ld hN hp h l;have hz9:=hz ht;have I:=I' k hk
   have aA:(g (fg p t k (setB c p t r)).A i q).natAbs<=2^z/\(g (fg p t k (setB c p t r)).U i q).natAbs<=2^z:=by
    by_cases hik:i<k
    . exact⟨up (I.sz i q hik).1 (by omega),up (I.sz i q hik).2 (by omega)⟩
    . obtain⟨b1,b2⟩:=I.rA i (WD hik);unfold g;rw[b1,b2];by_cases hit:i<t
      . obtain⟨a1,a2,a3⟩:=s.MG hit q;have:=S.hi i q hit;rw[<-a1,<-a2]at this;exact⟨up this.1 hu,up this.2.1 hu⟩
      . have hit':=WD hit;exact⟨up (s.lo.1 i q hit' hi) (by omega),up (s.lo.2.1 i q hit' hi) (by omega)⟩
   refine⟨aA.1,aA.2,?_⟩;by_cases hit:i=t
   . subst hit;refine VX (I.sC q) ?_;have f1:2^(4*e+4)<=2^(u+v+(4*e+4)):=Wc (by decide) (by omega);have f2:k*2^(u+v)<=16*2^(u+v+(4*e+4)):=WL (by omega) (Wc (by decide) (by omega));have f3:2^(u+v+(4*e+4)+6)<=2^z:=Wc (by decide) hz9;rw[XI _ _ 6]at f3;omega
   . have:=I.rC i hit;unfold g;rw[this];by_cases hlt:i<t
     . have a:=(s.MG hlt q).2.2;have:=(S.hi i q hlt).2.2;rw[<-a]at this;exact up this hv
     . exact up (s.lo.2.2 i q (WD hlt) hi) (by omega)
theorem M_:∀t,t<9->Uy 200 t<=60000000/\Cx 200 t<=60000000/\(t<8->Uy 200 t+Cx 200 t+(4*Ey 200 t+4)+6<=60000000):=by decide+kernel
theorem g6.CW(hA:aL N w A)(hlo:fv A N 0 (2^200))(hN:N<=8)(hp:p<w)(h:g6 A N p t b):xl N p t 60000000 b:=by
 obtain⟨ld,S⟩:=h.str hA hlo (by omega) (W2 hp);have le:=S.le;obtain⟨h1,h2,h3⟩:=M_ t (by omega);exact S.Sl hp (by omega) h1 h2 λ h=>h3 (by omega)
def mf(n w:Nat)(f:Nat->Nat->Int):Rows:=(List.range n).map λ i=>(List.range w).map (f i)
theorem bK{f:Nat->Nat->Int}:aL n w (mf n w f):=⟨by simp[mf],λ r hr=>by
 obtain⟨i,_,rfl⟩:=V9.mp hr;simp⟩
theorem dN{n w i c:Nat}{f:Nat->Nat->Int}(hi:i<n)(hc:c<w):g (mf n w f) i c=f i c:=by
 have h1:(mf n w f).getD i []=(List.range w).map (f i):=by
  unfold mf;rw[ba (by simpa using hi),aag,List.getElem_range]
 unfold g;rw[h1,ba (by simpa using hc),aag,List.getElem_range]
theorem yE{f:Nat->Nat->Int}(h:∀i c,i<n->c<w->(f i c).natAbs<=M)(i c:Nat)(hi:i<n):(g (mf n w f) i c).natAbs<=M:=by
 by_cases hc:c<w
 . rw[dN hi hc];exact h i c hi hc
 . unfold g;rw[ko (by rw[cz bK hi];omega)];exact Wg _
theorem sx{N w k j:Nat}(hA:aL N w A)(hk:k<N)(hj:j<N)(hq:q=0):aQ A k q j=A:=by
 subst hq;refine(fV hA hk hj).ext hA λ i c _ _=>?_;rw[cE hA hk hj];split
 . rename_i h;rw[h,W4,Int.sub_zero]
 . rfl
theorem iy{N w k:Nat}(hA:aL N w A)(hk:k<N):a_ A k k=A:=
 (qL hA hk hk).ext hA λ i c _ _=>by rw[iL hA hk hk,EH]
section
variable (F:Rows)(m w t s:Nat)
def nr(i c:Nat):Int:=
 if i<m then(if c<w then g F i c else if i<s then 0 else g F i (c-w))
 else if c<w then(if i-m<t then 0 else g F (i-m) c)
 else if i-m<s then g F (i-m) (c-w)else if i-m<t then-g F (i-m) (c-w)else 0
def zS(i c:Nat):Int:=
 if i<m then(if i<s then dl (m+i) c else dl i c)
 else if i-m<s then dl (i-m) c-dl i c else if i-m<t then dl i c-dl (i-m) c else dl i c
def zH(i c:Nat):Int:=
 if i<m then(if i<t then dl i c+dl (m+i) c else dl i c)
 else if i-m<s then dl (i-m) c else dl i c
def tw:B3:=⟨mf (m+m) (w+w) (nr F m w t s),mf (m+m) (m+m) (zS m t s),mf (m+m) (m+m) (zH m t s)⟩
end
section
variable {F:Rows}{m w t s:Nat}{ld:Nat->Nat}
theorem vQ{i c:Nat}(hi:i<m+m)(hc:c<w+w):g (tw F m w t s).A i c=nr F m w t s i c:=dN hi hc
theorem Ks:tw F m w 0 0=⟨mf (m+m) (w+w) (nr F m w 0 0),units (m+m),units (m+m)⟩:=by
 unfold tw
 have h1:mf (m+m) (m+m) (zS m 0 0)=units (m+m):=bK.ext (j6 _) λ i c hi hc=>by
  rw[dN hi hc,gD hi hc];simp[zS]
 have h2:mf (m+m) (m+m) (zH m 0 0)=units (m+m):=bK.ext (j6 _) λ i c hi hc=>by
  rw[dN hi hc,gD hi hc];simp[zH]
 rw[h1,h2]
theorem aY.z(S:aY F m w ld){i c:Nat}(hi:i<m)(hc:c<ld i):g F i c=0:=(S.lead i hi).2.2 c hc
theorem NR(ht:t<m)(hx:0<g F t (ld t))(lw:ld t<w):mr (tw F m w t 0) (ld t) (m+t) t=tw F m w (t+1) 0:=by
 have e1:g (tw F m w t 0).A (m+t) (ld t)=g F t (ld t):=by
  rw[vQ (by omega) (by omega)];unfold nr;rw[VT (by omega),VU lw,VT (by omega),Wx]
 have e2:g (tw F m w t 0).A t (ld t)=g F t (ld t):=by
  rw[vQ (by omega) (by omega)];unfold nr;rw[VU ht,VU lw]
 have eq:qn (g F t (ld t)) (g F t (ld t))=1:=by
  unfold qn;rw[Yn _ (by omega)];generalize g F t (ld t)=x at hx;have:2*x+x=x+1*(2*x):=by omega
  rw[this,Int.add_mul_ediv_right _ _ (by omega),aaw (by omega) (by omega)];rfl
 unfold mr;rw[e1,e2,eq];unfold tw;congr 1
 . refine(fV bK (by omega) (by omega)).ext bK λ i c hi hc=>?_;rw[cE bK (by omega) (by omega),dN hi hc,dN hi hc,dN (by omega) hc,dN (by omega) hc];unfold nr;by_cases h:i=m+t
   . subst h;rw[VU rfl];grind
   . rw[VT h];grind
 . refine(fV bK (by omega) (by omega)).ext bK λ i c hi hc=>?_;rw[cE bK (by omega) (by omega),dN hi hc,dN hi hc,dN (by omega) hc,dN (by omega) hc];unfold zS;by_cases h:i=m+t
   . subst h;rw[VU rfl];grind
   . rw[VT h];grind
 . refine(fV bK (by omega) (by omega)).ext bK λ i c hi hc=>?_;rw[cE bK (by omega) (by omega),dN hi hc,dN hi hc,dN (by omega) hc,dN (by omega) hc];unfold zH;by_cases h:i=t
   . subst h;rw[VU rfl];grind
   . rw[VT h];grind
theorem jN{k c:Nat}(hk:k<m+m)(hc:c<w):g (tw F m w t s).A k c=if k<m then g F k c else if k-m<t then 0 else g F (k-m) c:=by
 rw[vQ hk (by omega)];unfold nr;rw[VU hc,VU hc]
theorem vj(S:aY F m w ld)(ht:t<m):e7 (tw F m w t 0).A (m+m) t (ld t) [t,m+t]:=by
 obtain⟨lw,hx,_⟩:=S.lead t ht;have gi:∀i,i<m->t<=i->i≠t->g F i (ld t)=0:=λ i h1 h2 h3=>S.z h1 (S.mono t i (by omega) h1);refine⟨λ k=>?_,?_⟩
 . constructor
   . intro h;rcases V4.mp h with rfl|h
     . refine⟨VQ _,by omega,?_⟩;rw[jN (by omega) lw,VU ht];omega
     . have:=Wk.mp h;subst this;refine⟨by omega,by omega,?_⟩;rw[jN (by omega) lw,VT (by omega),VT (by omega),Wx];omega
   . rintro⟨h1,h2,h3⟩;rw[jN h2 lw]at h3;have:=gi k;have:=gi (k-m);grind
 . refine XF.mpr ⟨λ j hj=>?_,XF.mpr ⟨λ j hj=>by simp at hj,List.Pairwise.nil⟩⟩;have:=Wk.mp hj;subst this;right;rw[jN (by omega) lw,jN (by omega) lw,VU ht,VT (by omega),VT (by omega),Wx];exact⟨rfl,by omega⟩
theorem BG(S:aY F m w ld)(ht:t<m):e7 (tw F m w (t+1) 0).A (m+m) t (ld t) [t]:=by
 obtain⟨lw,hx,_⟩:=S.lead t ht;have gi:∀i,i<m->t<=i->i≠t->g F i (ld t)=0:=λ i h1 h2 h3=>S.z h1 (S.mono t i (by omega) h1);refine⟨λ k=>?_,aak _ _⟩;constructor
 . intro h;have:=Wk.mp h;subst this;refine⟨VQ _,by omega,?_⟩;rw[jN (by omega) lw,VU ht];omega
 . rintro⟨h1,h2,h3⟩;rw[jN h2 lw]at h3;have:=gi k;have:=gi (k-m);grind
theorem zN(S:aY F m w ld)(ht:t<m)(h:di (m+m) t (ld t) (tw F m w t 0) c):c=tw F m w t 0\/c=tw F m w (t+1) 0:=by
 cases h with
 |refl=>exact .inl rfl
 |head st tl=>
  obtain⟨L,k,j,hL,rfl⟩:=st;have e:=hL.unique (vj S ht);have e2:=Xr List.reverse e;simp only[List.reverse_append,List.reverse_cons,List.reverse_nil,Zs,aae,Xe]at e2;rw[e2.1,e2.2.1,NR ht (S.lead t ht).2.1 (S.lead t ht).1]at tl;cases tl with
  |refl=>exact .inr rfl
  |head st2 _=>exact(mM.stop ⟨_,BG S ht,by simp⟩ st2).elim
theorem Et(S:aY F m w ld)(ht:t<m)(h:di (m+m) t (ld t) (tw F m w t 0) c)(l:e7 c.A (m+m) t (ld t) [r]):setB c (ld t) t r=tw F m w (t+1) 0:=by
 rcases zN S ht h with rfl|rfl
 . have:=l.unique (vj S ht);simp at this
 . have:=l.unique (BG S ht);have e:r=t:=by simpa using this
   subst e;obtain⟨lw,hx,_⟩:=S.lead r ht
   have ng:¬g (tw F m w (r+1) 0).A r (ld r)<0:=by
    rw[jN (by omega) lw,VU ht];omega
   unfold setB;rw[show a_ (tw F m w (r+1) 0).A r r=(tw F m w (r+1) 0).A from iy bK (by omega),show a_ (tw F m w (r+1) 0).U r r=(tw F m w (r+1) 0).U from iy bK (by omega),show a_ (tw F m w (r+1) 0).C r r=(tw F m w (r+1) 0).C from iy bK (by omega),VT ng]
theorem qd{N p top:Nat}(hA:aL N w' b'.A)(hU:aL N v' b'.U)(hC:aL N v' b'.C)(ht:top<N)(k0:Nat):∀k,k0<=k->k<=top->fg p top k0 b=b'->(∀i,k0<=i->i<k->(g b'.A i p).fdiv (g b'.A top p)=0)->fg p top k b=b'
 |0,h0,_,e,_=>by
  have:k0=0:=by omega
  subst this;exact e
 |k+1,h0,hk,e,h=>by
  by_cases hh:k0=k+1
  . subst hh;exact e
  . have ih:=qd hA hU hC ht k0 k (by omega) (by omega) e λ i h1 h2=>h i h1 (by omega);have hq:=h k (by omega) (WA k);unfold fg;rw[ih];show B3.mk (aQ b'.A k ((g b'.A k p).fdiv (g b'.A top p)) top) (aQ b'.U k ((g b'.A k p).fdiv (g b'.A top p)) top) (aQ b'.C top (-((g b'.A k p).fdiv (g b'.A top p))) k)=_;rw[hq,sx hA (by omega) ht rfl,sx hU (by omega) ht rfl,sx hC ht (by omega) (by decide)]
theorem Ce{a b:Int}(h1:0<=a)(h2:a<b):a.fdiv b=0:=by
 rw[Yn _ (by omega)];exact aaw h1 h2
theorem EL(S:aY F m w ld)(R:fW F m ld)(ht:t<m)(k:Nat)(hk:k<=t):fg (ld t) t k (tw F m w (t+1) 0)=tw F m w (t+1) 0:=by
 obtain⟨lw,hx,_⟩:=S.lead t ht;refine qd bK bK bK (by omega) 0 k (Wg _) hk rfl λ i _ hi=>?_;rw[jN (by omega) lw,jN (by omega) lw,VU (by omega),VU ht];exact Ce (R i t (by omega) ht).1 (R i t (by omega) ht).2
theorem BZ(S:aY F m w ld)(hp:p<w)(ht:t<=m)(h:∀i,t<=i->i<m->p<ld i):e7 (tw F m w t 0).A (m+m) t p []:=by
 refine⟨λ k=>⟨λ h=>by simp at h,λ⟨h1,h2,h3⟩=>?_⟩,List.Pairwise.nil⟩;rw[jN h2 hp]at h3;have gi:∀i,t<=i->i<m->g F i p=0:=λ i h1 h2=>S.z h2 (h i h1 h2);have:=gi k;have:=gi (k-m);grind
theorem mD{k c:Nat}(hk:k<m+m)(hc:c<w):g (tw F m w m s).A k (w+c)=if k<m then(if k<s then 0 else g F k c)else if k-m<s then g F (k-m) c else-g F (k-m) c:=by
 rw[vQ hk (by omega)];unfold nr;rw[VT (show¬w+c<w by omega),VT (show¬w+c<w by omega),Wx,VU (show k-m<m by omega)]
theorem ql(S:aY F m w ld)(hs:s<m):e7 (tw F m w m s).A (m+m) (m+s) (w+ld s) [m+s]:=by
 obtain⟨lw,hx,_⟩:=S.lead s hs;have gi:∀i,i<m->s<=i->i≠s->g F i (ld s)=0:=λ i h1 h2 h3=>S.z h1 (S.mono s i (by omega) h1);refine⟨λ k=>?_,aak _ _⟩;constructor
 . intro h;have:=Wk.mp h;subst this;refine⟨VQ _,by omega,?_⟩;rw[mD (by omega) lw,VT (by omega),VT (by omega),Wx];omega
 . rintro⟨h1,h2,h3⟩;rw[mD h2 lw]at h3;have:=gi (k-m);grind
theorem Bp(S:aY F m w ld)(hp:p<w)(hs:s<=m)(h:∀i,s<=i->i<m->p<ld i):e7 (tw F m w m s).A (m+m) (m+s) (w+p) []:=by
 refine⟨λ k=>⟨λ h=>by simp at h,λ⟨h1,h2,h3⟩=>?_⟩,List.Pairwise.nil⟩;rw[mD h2 hp]at h3;have gi:∀i,s<=i->i<m->g F i p=0:=λ i h1 h2=>S.z h2 (h i h1 h2);have:=gi (k-m);grind
def tv(F:Rows)(m w s:Nat):B3:=⟨fb (tw F m w m s).A (m+s),fb (tw F m w m s).U (m+s),fb (tw F m w m s).C (m+s)⟩
theorem En(S:aY F m w ld)(hs:s<m)(h:di (m+m) (m+s) (w+ld s) (tw F m w m s) c)(l:e7 c.A (m+m) (m+s) (w+ld s) [r]):c=tw F m w m s/\setB c (w+ld s) (m+s) r=tv F m w s:=by
 have e:c=tw F m w m s:=by
  cases h with
  |refl=>rfl
  |head st2 _=>exact(mM.stop ⟨_,ql S hs,by simp⟩ st2).elim
 refine⟨e,?_⟩;subst e;have e:r=m+s:=by simpa using l.unique (ql S hs)
 subst e;obtain⟨lw,hx,_⟩:=S.lead s hs
 have ng:g (tw F m w m s).A (m+s) (w+ld s)<0:=by
  rw[mD (by omega) lw,VT (by omega),VT (by omega),Wx];omega
 unfold setB;rw[show a_ (tw F m w m s).A (m+s) (m+s)=(tw F m w m s).A from iy bK (by omega),show a_ (tw F m w m s).U (m+s) (m+s)=(tw F m w m s).U from iy bK (by omega),show a_ (tw F m w m s).C (m+s) (m+s)=(tw F m w m s).C from iy bK (by omega),VU ng];rfl
theorem yH{i c:Nat}(hs:s<m):g (tv F m w s).A i c=if i=m+s then-g (tw F m w m s).A (m+s) c else g (tw F m w m s).A i c:=fL bK (by omega) i c
theorem EC(S:aY F m w ld)(R:fW F m ld)(hs:s<m)(k:Nat)(hk:k<=m+s):fg (w+ld s) (m+s) k (tv F m w s)=if k<=s then tv F m w s else tw F m w m (s+1):=by
 obtain⟨lw,hx,_⟩:=S.lead s hs;have iA:aL (m+m) (w+w) (tv F m w s).A:=pw bK (by omega);have iU:aL (m+m) (m+m) (tv F m w s).U:=pw bK (by omega);have iC:aL (m+m) (m+m) (tv F m w s).C:=pw bK (by omega)
 have ep:g (tv F m w s).A (m+s) (w+ld s)=g F s (ld s):=by
  rw[yH hs,VU rfl,mD (by omega) lw,VT (by omega),VT (by omega),Wx];omega
 have a:∀k,k<=s->fg (w+ld s) (m+s) k (tv F m w s)=tv F m w s:=λ k hk=>by
  refine qd iA iU iC (by omega) 0 k (Wg _) (by omega) rfl λ i _ hi=>?_;rw[yH hs,VT (by omega),mD (by omega) lw,VU (by omega),VU (by omega)];exact Int.zero_fdiv _
 have b:fg (w+ld s) (m+s) (s+1) (tv F m w s)=tw F m w m (s+1):=by
  unfold fg;rw[a s (VQ _)]
  have eq:(g (tv F m w s).A s (w+ld s)).fdiv (g (tv F m w s).A (m+s) (w+ld s))=1:=by
   rw[ep,yH hs,VT (by omega),mD (by omega) lw,VU hs,VT (by omega)];exact Int.fdiv_self (by omega)
  show B3.mk (aQ (tv F m w s).A s ((g (tv F m w s).A s (w+ld s)).fdiv (g (tv F m w s).A (m+s) (w+ld s))) (m+s)) (aQ (tv F m w s).U s ((g (tv F m w s).A s (w+ld s)).fdiv (g (tv F m w s).A (m+s) (w+ld s))) (m+s)) (aQ (tv F m w s).C (m+s) (-((g (tv F m w s).A s (w+ld s)).fdiv (g (tv F m w s).A (m+s) (w+ld s)))) s)=_;rw[eq];unfold tw;congr 1
  . refine(fV iA (by omega) (by omega)).ext bK λ i c hi hc=>?_;rw[cE iA (by omega) (by omega),yH hs,yH hs,yH hs,vQ hi hc,vQ (by omega) hc,vQ (by omega) hc,dN hi hc];unfold nr;grind
  . refine(fV iU (by omega) (by omega)).ext bK λ i c hi hc=>?_
    have gU:∀i,i<m+m->g (tv F m w s).U i c=if i=m+s then-zS m m s (m+s) c else zS m m s i c:=λ i hi=>by
     rw[show g (tv F m w s).U i c=_ from fL bK (show m+s<m+m by omega) i c,dN (by omega) hc,dN hi hc]
    rw[cE iU (by omega) (by omega),gU i hi,gU s (by omega),gU (m+s) (by omega),dN hi hc];unfold zS;grind
  . refine(fV iC (by omega) (by omega)).ext bK λ i c hi hc=>?_
    have gC:∀i,i<m+m->g (tv F m w s).C i c=if i=m+s then-zH m m s (m+s) c else zH m m s i c:=λ i hi=>by
     rw[show g (tv F m w s).C i c=_ from fL bK (show m+s<m+m by omega) i c,dN (by omega) hc,dN hi hc]
    rw[cE iC (by omega) (by omega),gC i hi,gC s (by omega),gC (m+s) (by omega),dN hi hc];unfold zH;grind
 by_cases h:k<=s
 . rw[VU h];exact a k h
 . rw[VT h];refine qd bK bK bK (by omega) (s+1) k (by omega) hk b λ i h1 h2=>?_;rw[mD (by omega) lw,mD (by omega) lw,VT (show¬m+s<m by omega),VU (show m+s-m<s+1 by omega),Wx];by_cases him:i<m
   . rw[VU him,VT (by omega),S.z him (S.mono s i (by omega) him)];exact Int.zero_fdiv _
   . rw[VT him,VU (by omega)];exact Ce (R (i-m) s (by omega) hs).1 (R (i-m) s (by omega) hs).2
theorem g6.twin(S:aY F m w ld)(R:fW F m ld){p t:Nat}(h:g6 (mf (m+m) (w+w) (nr F m w 0 0)) (m+m) p t c):p<=w+w->
 (p<=w->c=tw F m w t 0/\t<=m/\(∀i,i<t->ld i<p)/\∀i,t<=i->i<m->p<=ld i)/\(w<=p->∃s,t=m+s/\c=tw F m w m s/\s<=m/\(∀i,i<s->w+ld i<p)/\∀i,s<=i->i<m->p<=w+ld i):=by
 have mid:∀ {p t:Nat} {c:B3},p<=w->(c=tw F m w t 0/\t<=m/\(∀i,i<t->ld i<p)/\∀i,t<=i->i<m->p<=ld i)->w<=p->∃s,t=m+s/\c=tw F m w m s/\s<=m/\(∀i,i<s->w+ld i<p)/\∀i,s<=i->i<m->p<=w+ld i:=λ{p t c} h1 ⟨e,h2,_,h4⟩ h5=>by
  have et:t=m:=XA h2 (WD λ z=>by
   have:=h4 t (VQ _) z;have:=(S.lead t z).1;omega)
  subst et;exact⟨0,rfl,e,Wg _,λ i hi=>absurd hi (Wz _),λ i _ _=>by omega⟩
 induction h with
 |start=>
  intro _;have a:(⟨mf (m+m) (w+w) (nr F m w 0 0),units (m+m),units (m+m)⟩:B3)=tw F m w 0 0/\0<=m/\(∀i,i<0->ld i<0)/\∀i,0<=i->i<m->0<=ld i:=⟨Ks.symm,Wg _,λ i hi=>absurd hi (Wz _),λ _ _ _=>Wg _⟩
  exact⟨λ _=>a,λ h=>mid (Wg _) a h⟩
 |next _ cl ih=>
  rename_i p t t' b b' _;intro hp;obtain⟨i1,i2⟩:=ih (by omega);by_cases hpw:p<w
  . obtain⟨rfl,tm,lo,hi⟩:=i1 (W2 hpw)
    have a:b'=tw F m w t' 0/\t'<=m/\(∀i,i<t'->ld i<p+1)/\∀i,t'<=i->i<m->p+1<=ld i:=by
     cases cl with
     |none l=>
      refine⟨rfl,tm,λ i h=>by have:=lo i h;omega,λ i h1 h2=>?_⟩;have h3:=hi i h1 h2;refine Nat.lt_of_le_of_ne h3 λ z=>?_;subst z
      have h4:i=t:=XA (WD λ y=>by
       have:=hi t (VQ _) (by omega);have:=S.mono t i y h2;omega) h1
      subst h4;have:=l.unique (vj S h2);simp at this
     |one gr l=>
      rename_i r c0
      have hlt:t<m/\ld t=p:=by
       by_cases z:∀i,t<=i->i<m->p<ld i
       . have nl:=BZ S hpw tm z;cases gr with
         |refl=>have:=l.unique nl;simp at this
         |head st2 _=>exact(mM.stop ⟨_,nl,by simp⟩ st2).elim
       . obtain⟨i,z⟩:=YI.mp z;obtain⟨h1,z⟩:=Xy.mp z;obtain⟨h2,z⟩:=Xy.mp z;have h3:=hi i h1 h2
         have h4:i=t:=XA (WD λ y=>by
          have:=hi t (VQ _) (by omega);have:=S.mono t i y h2;omega) h1
         subst h4;exact⟨h2,by omega⟩
      obtain⟨ht,rfl⟩:=hlt;rw[Et S ht gr l,EL S R ht t (VQ _)];refine⟨rfl,ht,λ i h=>?_,λ i h1 h2=>S.mono t i h1 h2⟩;by_cases z:i=t
      . rw[z];exact WA _
      . have:=lo i (by omega);omega
    exact⟨λ _=>a,λ h=>mid hpw a h⟩
  . obtain⟨s,rfl,rfl,sm,lo,hi⟩:=i2 (by omega);refine⟨λ h=>absurd h (by omega),λ _=>?_⟩;obtain⟨q,rfl⟩:∃q,p=w+q:=⟨p-w,by omega⟩
    have hq:q<w:=by omega
    cases cl with
    |none l=>
     refine⟨s,rfl,rfl,sm,λ i h=>by have:=lo i h;omega,λ i h1 h2=>?_⟩;have h3:=hi i h1 h2;refine Nat.lt_of_le_of_ne h3 λ z=>?_;have z:q=ld i:=by omega
     subst z
     have h4:i=s:=XA (WD λ y=>by
      have:=hi s (VQ _) (by omega);have:=S.mono s i y h2;omega) h1
     subst h4;have:=l.unique (ql S h2);simp at this
    |one gr l=>
     rename_i r c0
     have hlt:s<m/\ld s=q:=by
      by_cases z:∀i,s<=i->i<m->q<ld i
      . have nl:=Bp S hq sm z;cases gr with
        |refl=>have:=l.unique nl;simp at this
        |head st2 _=>exact(mM.stop ⟨_,nl,by simp⟩ st2).elim
      . obtain⟨i,z⟩:=YI.mp z;obtain⟨h1,z⟩:=Xy.mp z;obtain⟨h2,z⟩:=Xy.mp z;have h3:=hi i h1 h2
        have h4:i=s:=XA (WD λ y=>by
         have:=hi s (VQ _) (by omega);have:=S.mono s i y h2;omega) h1
        subst h4;exact⟨h2,by omega⟩
     obtain⟨hs,rfl⟩:=hlt;rw[(En S hs gr l).2,EC S R hs (m+s) (VQ _),VT (by omega)];refine⟨s+1,rfl,rfl,hs,λ i h=>?_,λ i h1 h2=>?_⟩
     . by_cases z:i=s
       . rw[z];exact WA _
       . have:=lo i (by omega);omega
     . have:=S.mono s i h1 h2;omega
theorem qz(hb:∀i c,i<m->c<w->(g F i c).natAbs<=2^z)(z1:1<=z):Sm (tw F m w t s) (m+m) (2^z):=λ i c hi=>by
 have two:2<=2^z:=Wc (n:=2) (by decide) z1;have d1:∀a b,(dl a b).natAbs<=1:=λ a b=>by unfold dl;split<;>decide
 refine⟨yE (λ i c hi hc=>?_) i c hi,yE (λ i c hi hc=>?_) i c hi,yE (λ i c hi hc=>?_) i c hi⟩
 . unfold nr;have h1:=hb i c;have h2:=hb i (c-w);have h3:=hb (i-m) c;have h4:=hb (i-m) (c-w);split
   . split
     . exact h1 (by assumption) (by assumption)
     . split
       . exact Wg _
       . exact h2 (by assumption) (by omega)
   . split
     . split
       . exact Wg _
       . exact h3 (by omega) (by assumption)
     . split
       . exact h4 (by omega) (by omega)
       . split
         . rw[Xi];exact h4 (by omega) (by omega)
         . exact Wg _
 . unfold zS;have h1:=d1 i c;have h2:=d1 (m+i) c;have h3:=d1 (i-m) c;refine VX ?_ two;split<;>split<;>(try split)<;>omega
 . unfold zH;have h1:=d1 i c;have h2:=d1 (m+i) c;have h3:=d1 (i-m) c;refine VX ?_ two;split<;>split<;>omega
theorem RP(hs:s<m)(h:Sm (tw F m w m s) (m+m) (2^z)):Sm (tv F m w s) (m+m) (2^z):=λ i c hi=>by
 have a:=h i c hi;have b:=h (m+s) c (by omega);unfold tv;refine⟨?_,?_,?_⟩
 . rw[show g (fb (tw F m w m s).A (m+s)) i c=_ from fL bK (show m+s<m+m by omega) i c];split
   . rw[Xi];exact b.1
   . exact a.1
 . rw[show g (fb (tw F m w m s).U (m+s)) i c=_ from fL bK (show m+s<m+m by omega) i c];split
   . rw[Xi];exact b.2.1
   . exact a.2.1
 . rw[show g (fb (tw F m w m s).C (m+s)) i c=_ from fL bK (show m+s<m+m by omega) i c];split
   . rw[Xi];exact b.2.2
   . exact a.2.2
theorem g6.Rb(S:aY F m w ld)(R:fW F m ld)(hb:∀i c,i<m->c<w->(g F i c).natAbs<=2^z)(z1:1<=z){p t:Nat}(hp:p<w+w)(h:g6 (mf (m+m) (w+w) (nr F m w 0 0)) (m+m) p t c):xl (m+m) p t z c:=by
 obtain⟨i1,i2⟩:=h.twin S R (W2 hp);by_cases hpw:p<w
 . obtain⟨rfl,tm,lo,hi⟩:=i1 (W2 hpw);by_cases zz:∀i,t<=i->i<m->p<ld i
   . have nl:=BZ S hpw tm zz
     have e:∀c,di (m+m) t p (tw F m w t 0) c->c=tw F m w t 0:=λ c gr=>by
      cases gr with
      |refl=>rfl
      |head st2 _=>exact(mM.stop ⟨_,nl,by simp⟩ st2).elim
     refine⟨λ c gr=>by rw[e c gr];exact qz hb z1,λ c r k gr l _=>?_⟩;rw[e c gr]at l;have:=l.unique nl;simp at this
   . obtain⟨i,zz⟩:=YI.mp zz;obtain⟨h1,zz⟩:=Xy.mp zz;obtain⟨h2,zz⟩:=Xy.mp zz;have h3:=hi i h1 h2
     have h4:i=t:=XA (WD λ y=>by
      have:=hi t (VQ _) (by omega);have:=S.mono t i y h2;omega) h1
     subst h4;have e:ld i=p:=by omega
     subst e;refine⟨λ c gr=>?_,λ c r k gr l hk=>?_⟩
     . rcases zN S h2 gr with rfl|rfl<;>exact qz hb z1
     . rw[Et S h2 gr l,EL S R h2 k hk];exact qz hb z1
 . obtain⟨s,rfl,rfl,sm,lo,hi⟩:=i2 (by omega);obtain⟨q,rfl⟩:∃q,p=w+q:=⟨p-w,by omega⟩
   have hq:q<w:=by omega
   by_cases zz:∀i,s<=i->i<m->q<ld i
   . have nl:=Bp S hq sm zz
     have e:∀c,di (m+m) (m+s) (w+q) (tw F m w m s) c->c=tw F m w m s:=λ c gr=>by
      cases gr with
      |refl=>rfl
      |head st2 _=>exact(mM.stop ⟨_,nl,by simp⟩ st2).elim
     refine⟨λ c gr=>by rw[e c gr];exact qz hb z1,λ c r k gr l _=>?_⟩;rw[e c gr]at l;have:=l.unique nl;simp at this
   . obtain⟨i,zz⟩:=YI.mp zz;obtain⟨h1,zz⟩:=Xy.mp zz;obtain⟨h2,zz⟩:=Xy.mp zz;have h3:=hi i h1 h2
     have h4:i=s:=XA (WD λ y=>by
      have:=hi s (VQ _) (by omega);have:=S.mono s i y h2;omega) h1
     subst h4;have e:ld i=q:=by omega
     subst e;refine⟨λ c gr=>?_,λ c r k gr l hk=>?_⟩
     . cases gr with
       |refl=>exact qz hb z1
       |head st2 _=>exact(mM.stop ⟨_,ql S h2,by simp⟩ st2).elim
     . rw[(En S h2 gr l).2,EC S R h2 k hk];split
       . exact RP h2 (qz hb z1)
       . exact qz hb z1
end
def dbl(F G:Rows)(w:Nat):Rows:=(F.map λ r=>r++r)++(G.map λ r=>r++List.replicate w 0)
theorem oZ(hF:aL m w F)(hG:aL n w G):aL (m+n) (w+w) (dbl F G w):=⟨by simp[dbl,hF.len,hG.len],λ r hr=>by
 rcases Wf.mp hr with h|h
 . obtain⟨q,hq,rfl⟩:=V9.mp h;rw[V3,hF.cM q hq]
 . obtain⟨q,hq,rfl⟩:=V9.mp h;rw[V3,hG.cM q hq,Yj]⟩
theorem getD_map{α β:Type}{f:α->β}{l:List α}{i:Nat}{d:β}{e:α}(h:i<l.length):(l.map f).getD i d=f (l.getD i e):=by
 rw[V1,V1,Wn,V0 h];rfl
theorem vD{α:Type}{a b:List α}{i:Nat}{d:α}:(a++b).getD i d=if i<a.length then a.getD i d else b.getD (i-a.length) d:=by
 rw[V1];split
 . rename_i h;rw[VZ h,V1]
 . rename_i h;rw[Wu (by omega),V1]
theorem wI{F G:Rows}{m n w i c:Nat}(hF:aL m w F)(hG:aL n w G)(hi:i<m+n)(hc:c<w+w):g (dbl F G w) i c=if i<m then(if c<w then g F i c else g F i (c-w))else if c<w then g G (i-m) c else 0:=by
 have lF:=hF.len;have lG:=hG.len;unfold g dbl;rw[vD,VO,lF];by_cases h:i<m
 . rw[VU h,VU h,getD_map (e:=[]) (by omega),vD,cz hF h]
 . rw[VT h,VT h,getD_map (e:=[]) (by omega),vD,cz hG (by omega)];by_cases h2:c<w
   . rw[VU h2,VU h2]
   . rw[VT h2,VT h2,V1,YY];split<;>rfl
theorem Pf(hF:aL m w F):dbl F F w=mf (m+m) (w+w) (nr F m w 0 0):=(oZ hF hF).ext bK λ i c hi hc=>by
 rw[wI hF hF hi hc,dN hi hc];unfold nr;grind
def tl(H:Rows)(a w:Nat):Rows:=(H.drop a).map (List.drop w)
theorem drop_getD{α:Type}{l:List α}{a i:Nat}{d:α}:(l.drop a).getD i d=l.getD (a+i) d:=by
 rw[V1,V1,YU]
theorem R_(hH:aL h (w+w') H):aL (h-a) w' (tl H a w):=⟨by simp[tl,hH.len],λ r hr=>by
 obtain⟨q,hq,rfl⟩:=V9.mp hr;rw[WV,hH.cM q (ZD hq)];omega⟩
theorem v8{H:Rows}{h a w w' i c:Nat}(hH:aL h (w+w') H)(hi:i<h-a):g (tl H a w) i c=g H (a+i) (w+c):=by
 have lH:=hH.len;unfold g tl;rw[getD_map (e:=[]) (by rw[WV];omega),drop_getD,drop_getD]
theorem Bb{ld:Nat->Nat}:∀ {h:Nat},(∀i j,i<j->j<h->ld i<ld j)->∃a,a<=h/\∀i,i<h->(ld i<w↔i<a)
 |0,_=>⟨0,VQ _,λ i hi=>absurd hi (Wz _)⟩
 |h+1,mono=>by
  obtain⟨a,ha,q⟩:=Bb (w:=w) (h:=h) λ i j h1 h2=>mono i j h1 (by omega);by_cases z:ld h<w
  . refine⟨h+1,VQ _,λ i hi=>⟨λ _=>hi,λ _=>?_⟩⟩;by_cases e:i=h
    . rw[e];exact z
    . have:=mono i h (by omega) (by omega);omega
  . refine⟨a,by omega,λ i hi=>?_⟩;by_cases e:i=h
    . subst e;exact⟨λ y=>absurd y z,λ y=>by omega⟩
    . exact q i (by omega)
theorem KW{ld:Nat->Nat}(hH:aL h (w+w') H)(S:aY H h (w+w') ld)(R:fW H h ld)(q:∀i,i<h->(ld i<w↔i<a)):aY (tl H a w) (h-a) w' (λ i=>ld (a+i)-w)/\fW (tl H a w) (h-a) (λ i=>ld (a+i)-w):=by
 have ge:∀i,i<h-a->w<=ld (a+i):=λ i hi=>WD λ z=>by have:=(q (a+i) (by omega)).mp z;omega
 refine⟨⟨λ i hi=>?_,λ i j hij hj=>?_⟩,λ i j hij hj=>?_⟩
 . obtain⟨h1,h2,h3⟩:=S.lead (a+i) (by omega);have:=ge i hi;refine⟨by omega,?_,λ c hc=>?_⟩
   . rw[v8 hH hi,show w+(ld (a+i)-w)=ld (a+i) by omega];exact h2
   . rw[v8 hH hi];exact h3 _ (by omega)
 . have:=S.mono (a+i) (a+j) (by omega) (by omega);have:=ge i (by omega);have:=ge j hj;show ld (a+i)-w<ld (a+j)-w;omega
 . have:=ge j hj;rw[v8 hH (by omega),v8 hH hj];show 0<=g H (a+i) (w+(ld (a+j)-w))/\g H (a+i) (w+(ld (a+j)-w))<g H (a+j) (w+(ld (a+j)-w));rw[show w+(ld (a+j)-w)=ld (a+j) by omega];exact R (a+i) (a+j) (by omega) (by omega)
theorem Q6{ld:Nat->Nat}(hH:aL h (w+w') H)(T:aY H h (w+w') ld)(ha:a<=h)(q:∀i,i<h->(ld i<w↔i<a))(v:Nat->Int):bM (tl H a w) (h-a) w' v↔bM H h (w+w') λ c=>if c<w then 0 else v (c-w):=by
 have ge:∀i,i<h-a->w<=ld (a+i):=λ i hi=>WD λ z=>by have:=(q (a+i) (by omega)).mp z;omega
 have eh:h=a+(h-a):=by omega
 constructor
 . rintro⟨z,hz⟩;refine⟨λ k=>if k<a then 0 else z (k-a),λ c hc=>?_⟩
   have e:S h (λ k=>(if k<a then 0 else z (k-a))*g H k c)=S (h-a) λ i=>z i*g H (a+i) c:=by
    conv=>lhs;rw[eh]
    rw[pH,f_ λ i hi=>by rw[VU hi,W4],YC];exact aG λ i _=>by rw[VT (by omega),Wx]
   rw[e];show(if c<w then 0 else v (c-w))=_;by_cases hcw:c<w
   . rw[VU hcw];refine(f_ λ i hi=>?_).symm;rw[(T.lead (a+i) (by omega)).2.2 c (by have:=ge i hi;omega),WR]
   . rw[VT hcw,hz (c-w) (by omega)];refine aG λ i hi=>?_;rw[v8 hH hi,show w+(c-w)=c by omega]
 . rintro⟨z,hz⟩;have hz:∀c,c<w+w'->(if c<w then 0 else v (c-w))=S h λ k=>z k*g H k c:=hz;refine⟨λ i=>z (a+i),λ c hc=>?_⟩;have z0:∀k,k<a->z k=0:=λ k hk=>T.gone (q:=w) hz (λ c hc=>VU hc) k (by omega) ((q k (by omega)).mpr hk);have h1:=hz (w+c) (by omega);rw[VT (by omega),Wx]at h1;rw[h1];conv=>lhs;rw[eh]
   rw[pH,f_ λ i hi=>by rw[z0 i hi,W4],YC];exact aG λ i hi=>by rw[v8 hH hi]
theorem NZ(hF:aL m w F)(hG:aL n w G)(v:Nat->Int):bM (dbl F G w) (m+n) (w+w) (λ c=>if c<w then 0 else v (c-w))↔bM F m w v/\bM G n w v:=by
 have sp:∀(z:Nat->Int) c,c<w->S (m+n) (λ k=>z k*g (dbl F G w) k c)=S m (λ k=>z k*g F k c)+S n λ k=>z (m+k)*g G k c:=λ z c hc=>by
  rw[pH];congr 1
  . exact aG λ i hi=>by rw[wI hF hG (by omega) (by omega),VU hi,VU hc]
  . exact aG λ i hi=>by rw[wI hF hG (by omega) (by omega),VT (by omega),VU hc,Wx]
 have sq:∀(z:Nat->Int) c,c<w->S (m+n) (λ k=>z k*g (dbl F G w) k (w+c))=S m (λ k=>z k*g F k c):=λ z c hc=>by
  rw[pH,f_ (n:=n) λ i hi=>by rw[wI hF hG (by omega) (by omega),VT (by omega),VT (by omega),WR],Yq];exact aG λ i hi=>by rw[wI hF hG (by omega) (by omega),VU hi,VT (by omega),Wx]
 constructor
 . rintro⟨z,hz⟩;have hz:∀c,c<w+w->(if c<w then 0 else v (c-w))=S (m+n) λ k=>z k*g (dbl F G w) k c:=hz
   have h1:∀c,c<w->v c=S m λ k=>z k*g F k c:=λ c hc=>by
    have:=hz (w+c) (by omega);rw[VT (by omega),Wx,sq z c hc]at this;exact this
   refine⟨⟨z,h1⟩,λ k=> -z (m+k),λ c hc=>?_⟩;have:=hz c (by omega);rw[VU hc,sp z c hc,<-h1 c hc]at this
   have e:S n (λ k=> -z (m+k)*g G k c)= -S n λ k=>z (m+k)*g G k c:=by
    rw[<-qK];exact aG λ i _=>by rw[Y9]
   rw[e];omega
 . rintro⟨⟨x,hx⟩,y,hy⟩;refine⟨λ k=>if k<m then x k else-y (k-m),λ c hc=>?_⟩;have e1:∀c,S m (λ k=>(if k<m then x k else-y (k-m))*g F k c)=S m λ k=>x k*g F k c:=λ c=>aG λ i hi=>by rw[VU hi]
   show(if c<w then 0 else v (c-w))=_;by_cases hcw:c<w
   . rw[VU hcw,sp _ c hcw,e1 c,<-hx c hcw]
     have e:S n (λ k=>(if m+k<m then x (m+k)else-y (m+k-m))*g G k c)= -S n λ k=>y k*g G k c:=by
      rw[<-qK];exact aG λ i _=>by rw[VT (by omega),Wx,Y9]
     rw[e,<-hy c hcw];omega
   . rw[VT hcw];have:=sq (λ k=>if k<m then x k else-y (k-m)) (c-w) (by omega);rw[show w+(c-w)=c by omega,e1,<-hx (c-w) (by omega)]at this;exact this.symm
structure rS(F:Rows)(m:Nat)(G:Rows)(n w:Nat)(R:Rows)(k:Nat):Prop where
 is:aL k w R
 st:aY R k w (eQ R)
 red:fW R k (eQ R)
 Md:∀v:Nat->Int,bM R k w v↔bM F m w v/\bM G n w v
theorem Nj(hF:aL m w F)(hG:aL n w G)(hH:aL h (w+w) H)(S:aY H h (w+w) (eQ H))(R:fW H h (eQ H))(same:kH (dbl F G w) (m+n) H h (w+w))(ha:a<=h)(q:∀i,i<h->(eQ H i<w↔i<a)):rS F m G n w (tl H a w) (h-a):=by
 obtain⟨s,r⟩:=KW hH S R q;refine⟨R_ hH,s.Uc,λ i j hij hj=>?_,λ v=>(Q6 hH S ha q v).trans (Iff.trans ⟨bM.trans same.of,bM.trans same.to⟩ (NZ hF hG v))⟩;rw[s.eQ hj];exact r i j hij hj
theorem rS.one{m n w m' n' k k':Nat}(s:rS F m G n w R k)(s':rS F' m' G' n' w R' k')(h:∀v,(bM F m w v/\bM G n w v)↔(bM F' m' w v/\bM G' n' w v)):R=R':=by
 have h1:∀i,i<k->bM R' k' w (g R i):=λ i hi=>(s'.Md _).mpr ((h _).mp ((s.Md _).mp (bM.row hi)));have h2:∀i,i<k'->bM R k w (g R' i):=λ i hi=>(s.Md _).mpr ((h _).mpr ((s'.Md _).mp (bM.row hi)));have e:=s.st.many s'.st h1 h2;subst e;exact s.is.ext s'.is λ i j hi hj=>s.st.only s'.st h1 h2 s.red s'.red hi j hj
theorem bM.none{v:Nat->Int}:bM F 0 w v↔∀c,c<w->v c=0:=⟨λ⟨_,h⟩ c hc=>h c hc,λ h=>bM.zero h⟩
theorem rS.empty:rS F 0 G 0 w [] 0:=⟨⟨rfl,λ r hr=>by cases hr⟩,⟨λ i hi=>absurd hi (Wz _),λ i j _ hj=>absurd hj (Wz _)⟩,λ i j _ hj=>absurd hj (Wz _),λ v=>bM.none.trans ⟨λ h=>⟨bM.none.mpr h,bM.none.mpr h⟩,λ h=>bM.none.mp h.1⟩⟩
end Mx
namespace Prog
open PySem L2 L3
open PySem.Spec hiding items?
open PyProof.Rows hiding St
theorem gf{i j:Int}(h1: -(2^64)<i)(h2:i<2^64):IntMulOk i j:= .of_left (intBits_le_64 h1 h2)
theorem Ep{i j:Int}(h1: -(2^64)<j)(h2:j<2^64):IntMulOk i j:= .of_right (intBits_le_64 h1 h2)
def Any(st:ae)(d:D):Prop:=∃t,fh st d=some t
structure Thing(st:ae)(d:D):Prop where
 any:Any st d
 aj:∀xs,items? st d=some xs->(∀x∈xs,Any st x)/\xs.length<=sizeLine
def isInt:D->Bool
 | .int _=>true
 |_=>false
theorem vG{st:ae}{d:D}{t:String}(h:fh st d=some t):(t=="int")=isInt d:=by
 cases d<;>unfold fh at h<;>first|(cases h;done)|(cases h;rfl)|(simp only at h;split at h<;>first|(cases h;rfl)|cases h)
theorem zp{st:ae}(h:fh st d=some t):(t=="list"||t=="tuple")=(items? st d).isSome:=by
 cases d<;>unfold fh at h<;>first|(cases h;done)|(cases h;rfl)|(simp only at h;split at h<;>first|(cases h;rename_i q;rw[ax q];rfl)|cases h)
def eL(st:ae)(d:D)(m:Int):Bool:=match items? st d with
 |some xs=>decide ((xs.length:Int)=m)&&xs.all isInt
 |none=>false
theorem uP{st:ae}{K:List D->ae->Prop}{g:D->D}(aC:ok st):∀(xs acc:List D),(∀x∈xs,∀K',K' (g x) st->∃σ2,tg x σc=some σ2/\te σ2 st K')->K (acc++xs.map g) st->bz tg aW te ok σc xs acc st K
 | [],acc,_,h=>by unfold bz;exact⟨aC,by simpa using h⟩
 |x::xs,acc,hx,h=>by
  unfold bz;obtain⟨σ2,e,q⟩:=hx x V_ (λ y st2=>bz tg aW te ok σc xs (acc++[y]) st2 K) (uP aC xs (acc++[g x]) (λ y hy=>hx y (V5 _ hy)) (by simpa using h));exact⟨aC,σ2,e,q⟩
theorem lD{f:D->Bool}:∀xs:List D,i6 (xs.map λ x=>D.bl (f x))=some (xs.map f)
 | []=>rfl
 |x::xs=>by simp[i6,lD xs]
abbrev av(r:List Int):List D:=r.map D.int
abbrev aR(r:List Int):D:= .tup (av r)
abbrev a7(r:List Int):D:= .lst (av r)
abbrev aq(A:List (List Int)):D:= .tup (A.map aR)
abbrev nZ(A:List (List Int)):D:= .lst (A.map a7)
def aZ(st:ae):List D->List (List Int)->Prop
 | [],[]=>True
 |d::ds,r::rs=>items? st d=some (av r)/\aZ st ds rs
 |_,_=>False
structure dv(st:ae)(d:D)(A:List (List Int)):Prop where
 ex:∃ds,items? st d=some ds/\aZ st ds A
theorem aZ.len{st:ae}:∀ {ds:List D} {A:List (List Int)},aZ st ds A->ds.length=A.length
 | [],[],_=>rfl
 |_::_,_::_,h=>by simp[aZ.len h.2]
theorem aZ.tup{st:ae}:∀ {A:List (List Int)},aZ st (A.map aR) A
 | []=>trivial
 |_::_=>⟨rfl,aZ.tup⟩
theorem aZ.lst{st:ae}:∀ {A:List (List Int)},aZ st (A.map a7) A
 | []=>trivial
 |_::_=>⟨rfl,aZ.lst⟩
theorem aZ.get{st:ae}:∀ {ds:List D} {A:List (List Int)} {i:Nat} {d:D},aZ st ds A->ds[i]?=some d->∃r,A[i]?=some r/\items? st d=some (av r)
 |_::_,r::_,0,_,h,e=>by simp at e;subst e;exact⟨r,rfl,h.1⟩
 |_::_,_::_,i+1,d,h,e=>by
  obtain⟨r,e1,e2⟩:=aZ.get (i:=i) (d:=d) h.2 (by simpa using e);exact⟨r,by simpa using e1,e2⟩
theorem dX{st:ae}:dv st (aq A) A:=⟨_,rfl,aZ.tup⟩
theorem Ny{st:ae}:dv st (nZ A) A:=⟨_,rfl,aZ.lst⟩
structure Ext(st st':ae):Prop where
 len:st.length<=st'.length
 same:∀m,m<st.length->st'[m]?=st[m]?
theorem Ext.refl{st:ae}:Ext st st:=⟨VQ _,λ _ _=>rfl⟩
theorem Ext.trans{st st1 st2:ae}(a:Ext st st1)(b:Ext st1 st2):Ext st st2:=⟨VX a.len b.len,λ m h=>(b.same m (Wj h a.len)).trans (a.same m h)⟩
theorem Ext.push{st:ae}:Ext st (st++c):=⟨by simp,λ m h=>VZ h⟩
theorem Ext.set{st:ae}(a:Ext st0 st)(h:st0.length<=n):Ext st0 (st.set n c):=⟨by rw[Wb];exact a.len,λ m hm=>by rw[VW (by lia)];exact a.same m hm⟩
theorem Ext.items{st st':ae}(x:Ext st st')(e:items? st d=some xs):items? st' d=some xs:=by
 cases d with
 |ref n=>
  unfold items? at e⊢;simp only at e⊢;cases q:st[n]? with
  |none=>rw[q]at e;cases e
  |some c=>
   have hn:=(VV.mp q).1;rw[x.same n hn];exact e
 |_=>exact e
theorem fF{k:Nat}(h:k<r.length):e_ (av r) (k:Int)=some (.int (r.getD k 0)):=by
 refine j8 ?_;rw[Wn,V0 h,Mx.ba h];rfl
theorem getD_mem{r:List Int}{k:Nat}(h:k<r.length):r.getD k 0∈r:=by rw[Mx.ba h];exact XY _
theorem ints_app:av r++[D.int x]=av (r++[x]):=by simp[av]
theorem nh:A.map aR++[aR r]=(A++[r]).map aR:=by simp
theorem KQ(h:d∈gY (av r) (av s)):∃a b,a∈r/\b∈s/\d= .tup [.int a,.int b]:=by
 obtain⟨n,hn,e⟩:=Wt.mp h;have e':(gY (av r) (av s))[n]?=some d:=by rw[V0 hn,e]
 obtain⟨x,y,ex,ey,rfl⟩:=vT e';rw[Wn]at ex ey;cases q1:r[n]? with
 |none=>rw[q1]at ex;cases ex
 |some a=>
  cases q2:s[n]? with
  |none=>rw[q2]at ey;cases ey
  |some b=>
   rw[q1]at ex;rw[q2]at ey;cases ex;cases ey;exact⟨a,b,Wa q1,Wa q2,rfl⟩
theorem nH(n:Nat):(List.replicate n [D.int 0]).flatten=av (List.replicate n 0):=by
 induction n with
 |zero=>rfl
 |succ n ih=>rw[WX,Xv,ih];rfl
theorem zC:∀r:List Int,(av r).map (λ x=>match x with| .int i=>i|_=>0)=r
 | []=>rfl
 |a::r=>by rw[av,Ww,Ww,zC r]
theorem pS:e_ (d::ds) 0=some d:=j8 (j:=0) rfl
def intsOf(st:ae)(d:D):List Int:=match items? st d with
 |some xs=>xs.map λ x=>match x with| .int i=>i|_=>0
 |none=>[]
theorem nV{st:ae}(h:items? st d=some (av r)):intsOf st d=r:=by
 unfold intsOf;rw[h];exact zC r
theorem zQ:gY (x::xs) (y::ys)= .tup [x,y]::gY xs ys:=rfl
theorem Ew:(av r).all (pl n)=true:=by
 refine Wm.mpr λ d hd=>?_;obtain⟨i,_,rfl⟩:=V9.mp hd;cases n<;>rfl
def az:Addr:=199
abbrev dO(b:Bool):Cell:=Cell.tab 179 ⟨100,32,100,66⟩ "Bench.live_rows.<locals>.<lambda>" b
abbrev Rq:List (Addr×Pos×Str):=[(179,⟨100,32,100,66⟩,"Bench.live_rows.<locals>.<lambda>")]
def kO:bw:=λ ds st K=>∃d,ds=[d]/\Any st d/\K (.bl (isInt d)) st
def uY:List Str:=["thing"]
def DV:DS:=(aN (ix (aU gn (aa (ab 0) (aa (dC (.ty "int")) af))) (wL (aE (aU gn (aa (ab 0) (aa (dC (.ty "bool")) af)))))))
abbrev VN(S:bw)(n:Nat)(P:DS)(N:List Str):Prop:=∀ds st K,S ds st K->ds.length=n/\P {nx:=λ _ st'=>K .ao st',rt:=K} (aF N ds) st
theorem A5:VN kO 1 DV uY:=by
 rintro ds st K ⟨d,rfl,⟨t,ht⟩,k⟩;refine⟨rfl,?_⟩;rw[<-vG ht]at k;have hm:=jt ht;refine gj ht (by decide) ?_;simp only[iJ,V4,Wh,Xn]at hm;rcases hm with rfl|rfl|rfl|rfl|rfl|rfl
 . exact k
 . refine b_ (gj ht (by decide) ?_);exact k
 . refine b_ (gj ht (by decide) ?_);exact k
 . exact k
 . exact k
 . exact k
def iZ:bw:=λ ds st K=>∃d,ds=[d]/\Any st d/\K (.bl (items? st d).isSome) st
def vd:List Str:=["thing"]
def Dz:DS:=(aN (aU gn (aa (ab 0) (aa (bZ (aa (dC (.ty "list")) (aa (dC (.ty "tuple")) af))) af))))
theorem A6:VN iZ 1 Dz vd:=by
 rintro ds st K ⟨d,rfl,⟨t,ht⟩,k⟩;refine⟨rfl,?_⟩;rw[<-zp ht]at k;have hm:=jt ht;refine⟨VP rfl,Er ht rfl (by decide) ?_⟩;simp only[iJ,V4,Wh,Xn]at hm;rcases hm with rfl|rfl|rfl|rfl|rfl|rfl<;>exact k
def gc:bw:=λ ds st K=>∃d m,ds=[d,.int m]/\Any st d/\K (.bl (match items? st d with|some xs=>decide ((xs.length:Int)=m)|none=>false)) st
def oS:List Str:=["thing","many"]
def yB:DS:=(aN (ix (ak iZ (aa (ab 0) af)) (ai dE (aU dc (aa (ab 0) af)) (ab 1))))
theorem xF:VN gc 2 yB oS:=by
 rintro ds st K ⟨d,m,rfl,ha,k⟩;refine⟨rfl,?_⟩;cases e:items? st d with
 |none=>
  rw[e]at k;exact⟨d,rfl,ha,by rw[e];exact k⟩
 |some xs=>
  rw[e]at k;refine⟨d,rfl,ha,?_⟩;rw[e];refine b_ (cD e (xB ?_));exact k
def i9:bw:=λ ds st K=>∃d m,ds=[d,.int m]/\Thing st d/\K (.bl (eL st d m)) st
def qW:List Str:=["thing","many"]
def z8:DS:=(aN (ix (ak gc (aa (ab 0) (aa (ab 1) af))) (aU nC (aa (bh (cq (ab 0)) [none] (aM 0) aW (ak kO (aa (ab 0) af))) af))))
theorem yF:VN i9 2 z8 qW:=by
 rintro ds st K ⟨d,m,rfl,ha,k⟩;refine⟨rfl,?_⟩;refine⟨d,m,rfl,ha.any,?_⟩;unfold eL at k;cases e:items? st d with
 |none=>rw[e]at k;exact k
 |some xs=>
  rw[e]at k;obtain⟨h1,h2⟩:=ha.aj xs e;by_cases hl:(xs.length:Int)=m
  . simp only[hl,ZM,W_]at k⊢;rw[VU trivial];refine gh e λ ok aC=>?_;refine⟨h2,uP (g:=λ x=> .bl (isInt x)) aC xs [] (λ x hx K' q=>⟨_,rfl,⟨x,rfl,h1 x hx,q⟩⟩) ?_⟩;refine o7 (lD xs) ?_;simpa using k
  . simp only[hl,ZA,YV]at k⊢;exact k
def ia:bw:=λ ds st K=>∃(d:D) (A:List (List Int)),ds=[d]/\dv st d A/\A.length<=1000/\K (aq A) st
def zq:List Str:=["rows"]
def Jw:DS:=(aN (aU ck (aa (bh (cq (ab 0)) [none] (aM 0) aW (aU ck (aa (ab 0) af))) af)))
theorem mJ{st:ae}{K:List D->ae->Prop}(f:List Int->D)(aC:ok st)(hr:aZ st ds A)(hx:∀d r,r∈A->items? st d=some (av r)->∀K',K' (f r) st->∃σ2,tg d σc=some σ2/\te σ2 st K')(k:K (A.map f) st):bz tg aW te ok σc ds [] st K:=by
 refine cN (λ rest acc st'=>∃(A1 A2:List (List Int)),st=st'/\A1++A2=A/\aZ st rest A2/\acc=A1.map f) ?_ ?_ _ _ _ ⟨[],A,rfl,rfl,hr,rfl⟩
 . rintro acc st' ⟨A1,A2,rfl,he,h,rfl⟩;match A2,h with
   | [],_=>
     rw[WE]at he;subst he;exact⟨aC,k⟩
 . rintro d rest acc st' ⟨A1,A2,rfl,he,h,rfl⟩ next
   match A2,h with
   |r::A2,h=>
    obtain⟨σ2,e2,q⟩:=hx d r (by rw[<-he];simp) h.1 (λ y st2=>bz tg aW te ok σc rest (A1.map f++[y]) st2 K) (next _ _ ⟨A1++[r],A2,rfl,by rw[<-he];simp,h.2,by simp⟩);exact⟨aC,σ2,e2,q⟩
theorem FI:VN ia 1 Jw zq:=by
 rintro ds st K ⟨d,A,rfl,⟨da,hd,ra⟩,hl,k⟩;refine⟨rfl,?_⟩;refine gh hd λ ok aC=>⟨aI (by rw[ra.len];exact hl),?_⟩
 refine mJ aR aC ra (λ e r hr he K' q=>⟨_,rfl,cj he q⟩) ?_;exact cj rfl k
def mS:bw:=λ ds st K=>∃x y t r s,ds=[x,.int t,y]/\items? st x=some (av r)/\items? st y=some (av s)/\r.length<=1000/\(∀b∈s,IntMulOk t b)/\K (a7 (Mx.fU r t s)) st
def E4:List Str:=["row","times","other"]
def Nt:DS:=(aN (bh (yM (aa (ab 0) (aa (ab 2) af))) [none,none,some 1] (fI 0 1) aW (ai cn (ab 0) (ai dA (ab 2) (ab 1)))))
theorem zR:∀(r s:List Int),(gY (av r) (av s)).map (λ d=>match d with| .tup [.int a,.int b]=> .int (a+t*b)|_=> .ao)=av (Mx.fU r t s)
 | [],_=>rfl
 |_::_,[]=>rfl
 |a::r,b::s=>by
  have:=zR (t:=t) r s;unfold gY Mx.fU at this⊢;simp only[av,Ww,List.zip_cons_cons,Zb]at this⊢;rw[this]
theorem LL:VN mS 3 Nt E4:=by
 rintro ds st K ⟨x,y,t,r,s,rfl,hx,hy,hl,hm,k⟩;refine⟨rfl,?_⟩;refine xS hx hy λ ok aC=>⟨aI (by rw[vW];simp;lia),?_⟩
 refine comp_map (g:=λ d=>match d with| .tup [.int a,.int b]=> .int (a+t*b)|_=> .ao) (aC st hx hy) _ (λ d hd K' q=>?_) ?_
 . obtain⟨a,b,ha,hb,rfl⟩:=KQ hd;exact⟨_,rfl,fM (hm b hb) (dJ q)⟩
 . rw[zR];exact k
def vA:bw:=λ ds st K=>∃(x y:D) (n:Nat) (ws:List Int) (A:List (List Int)),ds=[x,y,.int n]/\items? st x=some (av ws)/\dv st y A/\(∀r∈A,r.length=n)/\n<=1000/\(∀w∈ws,∀r∈A,∀b∈r,IntMulOk w b)/\K (aR (Mx.dM ws A (List.replicate n 0))) st
def Bw:List Str:=["weights","rows","wide","total","weight","row"]
def KD:DS:=(aB (a6 3 (ai dA (fy (aa (dC (.int 0)) af)) (ab 2)))
 (aB (jj (yM (aa (ab 0) (aa (ab 1) af))) (fI 4 5) (a6 3 (ak mS (aa (ab 3) (aa (ab 4) (aa (ab 5) af))))))
 (aN (aU ck (aa (ab 3) af)))))
theorem Iz:VN vA 3 KD Bw:=by
 rintro ds st K ⟨x,y,n,ws,A,rfl,hx,⟨dr,hy,hr⟩,hw,hn,hm,k⟩;refine⟨rfl,?_⟩;refine QY (VP rfl) (Ow ⟨by lia,by lia,aI (by simp;lia)⟩ ?_);rw[Wi,nH];refine xS hx hy λ ok aC=>?_
 refine gO (λ rest σ st'=>∃(v4 v5:Option D) (ws':List Int) (ds':List D) (A':List (List Int)) (acc:List Int),st=st'/\rest=gY (av ws') ds'/\aZ st ds' A'/\σ=[some x,some y,some (.int n),some (a7 acc),v4,v5]/\acc.length=n/\(∀r∈A',r∈A)/\(∀w∈ws',w∈ws)/\Mx.dM ws' A' acc=Mx.dM ws A (List.replicate n 0)) ?_ ?_ _ _ _
  ⟨none,none,ws,dr,A,List.replicate n 0,rfl,rfl,hr,rfl,by simp,λ _ h=>h,λ _ h=>h,rfl⟩
 . rintro σ st1 ⟨v4,v5,ws',ds',A',acc,rfl,he,hr',rfl,hl,_,_,hs⟩;refine⟨aC _ hx hy,cj rfl ?_⟩
   have:Mx.dM ws' A' acc=acc:=by
    match ws',ds',A',hr',he with
    | [],_,_,_,_=>unfold Mx.dM;rfl
    |_::_,[],[],_,_=>unfold Mx.dM;rfl
    |_::_,_::_,_::_,_,he=>cases he
   rw[this]at hs;rw[hs];exact k
 . rintro d rest σ st1 ⟨v4,v5,ws',ds',A',acc,rfl,he,hr',rfl,hl,ha,hw',hs⟩ next
   match ws',ds',A',hr',he with
   |w::ws',e::ds',r::A',hr',he=>
    simp only[av,Ww,zQ,Xe]at he;obtain⟨rfl,rfl⟩:=he;refine⟨aC _ hx hy,_,rfl,?_⟩;have hrl:=hw r (ha r V_);refine⟨_,_,_,acc,r,rfl,rfl,hr'.1,by lia,λ b hb=>hm w (hw' w V_) r (ha r V_) b hb,?_⟩;refine next _ _ ⟨_,_,ws',ds',A',Mx.fU acc w r,rfl,rfl,hr'.2,rfl,by rw[Mx.m5 (by lia)];exact hl,λ q hq=>ha q (V5 _ hq),λ q hq=>hw' q (V5 _ hq),?_⟩
    rw[<-hs];rfl
   | [],_,_,_,he=>cases he
   |_::_,[],[],_,he=>cases he
def k_:bw:=λ ds st K=>∃(x y:D) (n:Nat) (A B:List (List Int)),ds=[x,y]/\dv st x A/\dv st y B/\B≠ []/\(∀r∈B,r.length=n)/\n<=1000/\A.length<=1000/\(∀w∈A,∀c∈w,∀r∈B,∀b∈r,IntMulOk c b)/\K (aq (Mx.mulM A B n)) st
def zD:List Str:=["one","other","wide"]
def JX:DS:=(aB (a6 2 (aU dc (aa (ai aK (ab 1) (dC (.int 0))) af)))
 (aN (aU ck (aa (bh (cq (ab 0)) [none,some 1,some 2] (aM 0) aW (ak vA (aa (ab 0) (aa (ab 1) (aa (ab 2) af))))) af))))
theorem Bq{st:ae}{f:D->D}:∀ {ds:List D} {A:List (List Int)},aZ st ds A->(∀d r,items? st d=some (av r)->f d=aR (Mx.dM r B (List.replicate n 0)))->ds.map f=(Mx.mulM A B n).map aR
 | [],[],_,_=>rfl
 |d::ds,r::A,h,hf=>by
  rw[Ww,hf d r h.1,Bq h.2 hf];rfl
theorem GI:VN k_ 2 JX zD:=by
 rintro ds st K ⟨x,y,n,A,B,rfl,⟨da,hx,ra⟩,hy,hB,hw,hn,hl,hm,k⟩;refine⟨rfl,?_⟩;obtain⟨db,ey,rb⟩:=hy.ex;match B,db,rb,hB,hw,hm,hy,k,ey with
 |r0::B,d0::db,rb,_,hw,hm,hy,k,ey=>
  have h0:r0.length=n:=hw r0 V_;refine aw ey pS (cD rb.1 ?_);rw[VO,h0];refine gh hx λ ok aC=>⟨aI (by rw[ra.len];exact hl),?_⟩
  refine comp_map (g:=λ d=>aR (Mx.dM (intsOf st d) (r0::B) (List.replicate n 0))) aC da (λ d hd K' q=>?_) ?_
  . obtain⟨i,hi,ed⟩:=Wt.mp hd;obtain⟨r,er,hr⟩:=ra.get (i:=i) (d:=d) (by rw[V0 hi,ed]);refine⟨_,rfl,d,y,n,r,r0::B,rfl,hr,hy,hw,hn,λ c hc=>hm r (Wa er) c hc,?_⟩;rw[nV hr]at q;exact q
  . refine cj rfl ?_;rw[Bq ra (n:=n) (B:=r0::B) λ d r h=>by rw[nV h]];exact k
 |_::_,[],rb,_,_,_,_,_,_=>exact rb.elim
def vS:bw:=λ ds st K=>∃(d:D) (A:List (List Int)) (j:Nat),ds=[d,.int j]/\dv st d A/\(∀r∈A,j<r.length)/\A.length<=1000/\K (aR (Mx.qr A j)) st
def BK:List Str:=["rows","place"]
def Ky:DS:=(aN (aU ck (aa (bh (cq (ab 0)) [none,some 1] (aM 0) aW (ai aK (ab 0) (ab 1))) af)))
theorem Jh{st:ae}{K:List D->ae->Prop}(f:List Int->D)(aC:ok st)(hr:aZ st ds A)(hx:∀d r,r∈A->items? st d=some (av r)->∀K',K' (f r) st->∃σ2,tg d σc=some σ2/\te σ2 st K')(k:K (A.map f) st):bz tg aW te ok σc ds [] st K:=by
 refine cN (λ rest acc st'=>∃(A1 A2:List (List Int)),st=st'/\A1++A2=A/\aZ st rest A2/\acc=A1.map f) ?_ ?_ _ _ _ ⟨[],A,rfl,rfl,hr,rfl⟩
 . rintro acc st' ⟨A1,A2,rfl,he,h,rfl⟩;match A2,h with
   | [],_=>
     rw[WE]at he;subst he;exact⟨aC,k⟩
 . rintro d rest acc st' ⟨A1,A2,rfl,he,h,rfl⟩ next
   match A2,h with
   |r::A2,h=>
    obtain⟨σ2,e2,q⟩:=hx d r (by rw[<-he];simp) h.1 (λ y st2=>bz tg aW te ok σc rest (A1.map f++[y]) st2 K) (next _ _ ⟨A1++[r],A2,rfl,by rw[<-he];simp,h.2,by simp⟩);exact⟨aC,σ2,e2,q⟩
theorem IL(A:List (List Int))(j:Nat):A.map (λ r=>D.int (r.getD j 0))=av (Mx.qr A j):=by unfold Mx.qr av;rw[WB];rfl
theorem Hj:VN vS 2 Ky BK:=by
 rintro ds st K ⟨d,A,j,rfl,⟨da,hd,ra⟩,hj,hl,k⟩;refine⟨rfl,?_⟩;refine gh hd λ ok aC=>⟨aI (by rw[ra.len];exact hl),?_⟩
 refine Jh (λ r=> .int (r.getD j 0)) aC ra (λ e r hr he K' q=>⟨_,rfl,aw he (fF (hj r hr)) q⟩) ?_;rw[IL];exact cj rfl k
def lI:bw:=λ ds st K=>∃(d:D) (A:List (List Int)) (n:Nat),ds=[d,.int n]/\dv st d A/\(∀r∈A,r.length=n)/\A.length<=1000/\n<=1000/\K (aq (Mx.mh A n)) st
def rf:List Str:=["rows","wide"]
def z_:DS:=(aN (aU ck (aa (bh (cG (aa (ab 1) af)) [none,some 0] (aM 0) aW (ak vS (aa (ab 1) (aa (ab 0) af)))) af)))
theorem Kv(A:List (List Int))(n:Nat):(List.range n).map (λ j=>aR (Mx.qr A j))=(Mx.mh A n).map aR:=by unfold Mx.mh;rw[WB];rfl
theorem yk:VN lI 2 z_ rf:=by
 rintro ds st K ⟨d,A,n,rfl,hd,hw,hl,hn,k⟩;refine⟨rfl,?_⟩;refine dW ⟨by lia,by lia⟩ ⟨aI (by rw[cv];lia),?_⟩;rw[Wi];refine gy (λ j=>aR (Mx.qr A j)) n (λ i hi K' q=>⟨_,rfl,d,A,i,rfl,hd,λ r hr=>by rw[hw r hr];exact hi,hl,q⟩) ?_;rw[Kv];exact cj rfl k
def qc:bw:=λ ds st K=>∃(n i:Nat),ds=[.int n,.int i]/\n<=1000/\K (aR (Mx.eX n i)) st
def wN:List Str:=["n","place"]
def FG:DS:=(aN (aU ck (aa (bh (cG (aa (ab 0) af)) [none,some 1] (aM 0) aW (BR (aE (ai dE (ab 0) (ab 1))) (dC (.int 1)) (dC (.int 0)))) af)))
theorem DP:VN qc 2 FG wN:=by
 rintro ds st K ⟨n,i,rfl,hn,k⟩;refine⟨rfl,?_⟩;refine dW ⟨by lia,by lia⟩ ⟨aI (by rw[cv];lia),?_⟩;rw[Wi];refine gy (λ j=> .int (Mx.dl j i)) n (λ j hj K' q=>⟨_,rfl,?_⟩) ?_
 . refine eq2 (λ h=>b_ ?_) λ h=>?_
   . have:j=i:=by lia
     subst this;rw[Mx.cR]at q;exact q
   . rw[Mx.dw (by lia)]at q;exact q
 . have:(List.range n).map (λ j=>D.int (Mx.dl j i))=av (Mx.eX n i):=by unfold Mx.eX av;rw[WB];rfl
   rw[this];exact cj rfl k
def i4:bw:=λ ds st K=>∃(n:Nat),ds=[.int n]/\n<=1000/\K (aq (Mx.units n)) st
def uU:List Str:=["n"]
def Dp:DS:=(aN (aU ck (aa (bh (cG (aa (ab 0) af)) [none,some 0] (aM 0) aW (ak qc (aa (ab 1) (aa (ab 0) af)))) af)))
theorem BO:VN i4 1 Dp uU:=by
 rintro ds st K ⟨n,rfl,hn,k⟩;refine⟨rfl,?_⟩;refine dW ⟨by lia,by lia⟩ ⟨aI (by rw[cv];lia),?_⟩;rw[Wi];refine gy (λ i=>aR (Mx.eX n i)) n (λ i hi K' q=>⟨_,rfl,n,i,rfl,hn,q⟩) ?_;have:(List.range n).map (λ i=>aR (Mx.eX n i))=(Mx.units n).map aR:=by unfold Mx.units;rw[WB];rfl
 rw[this];exact cj rfl k
theorem NH:(List.replicate m [D.tup (List.replicate w [D.int 0]).flatten]).flatten=(List.replicate m (List.replicate w (0:Int))).map aR:=by
 rw[nH];induction m with
 |zero=>rfl
 |succ m ih=>rw[WX,WX,Xv,Ww,ih];rfl
def yd(m w:Nat):List (List Int):=List.replicate m (List.replicate w 0)
def lK:bw:=λ ds st K=>∃(i:Int) (w:Nat),ds=[.int i,.int w]/\ -1000<=i/\i<=1000/\w<=1000/\K (aq (yd i.toNat w)) st
def rp:List Str:=["many","wide"]
def Aw:DS:=(aN (ai dA (bZ (aa (ai dA (bZ (aa (dC (.int 0)) af)) (ab 1)) af)) (ab 0)))
theorem yA:VN lK 2 Aw rp:=by
 rintro ds st K ⟨i,w,rfl,h1,h2,hw,k⟩;refine⟨rfl,?_⟩;refine QY (VP rfl) (ue ⟨by lia,by lia,aI (by simp;lia)⟩ ?_);rw[Wi];refine QY (VP rfl) (ue ⟨by lia,by lia,aI (by simp;lia)⟩ ?_);rw[NH];exact k
structure HB(st:ae)(d:D):Prop where
 any:Any st d
 aj:∀xs,items? st d=some xs->(∀x∈xs,Thing st x)/\xs.length<=sizeLine
def i8(n:Nat)(m:D):Bool:=match m with
 | .int i=>decide ((n:Int)=i)
 |_=>true
def cK(st:ae)(d m:D)(w:Int):Bool:=match items? st d with
 |some xs=>i8 xs.length m&&xs.all λ r=>eL st r w
 |none=>false
def jA:bw:=λ ds st K=>∃d m w,ds=[d,m,.int w]/\HB st d/\(m= .ao\/∃i,m= .int i)/\K (.bl (cK st d m w)) st
def tQ:List Str:=["thing","many","wide"]
def HV:DS:=(aB (cf (cO (aE (ak iZ (aa (ab 0) af)))) (aN (dC (.bl false))) bO)
 (aB (cf (mq (aE (ai my (ab 1) (dC .ao))) (aE (ai qM (aU dc (aa (ab 0) af)) (ab 1)))) (aN (dC (.bl false))) bO)
 (aN (aU nC (aa (bh (cq (ab 0)) [none,some 2] (aM 0) aW (ak i9 (aa (ab 0) (aa (ab 1) af)))) af)))))
theorem gN{st:ae}(e:items? st d=none):cK st d m w=false:=by unfold cK;rw[e]
theorem fm{st:ae}(e:items? st d=some xs):cK st d m w=(i8 xs.length m&&xs.all λ r=>eL st r w):=by unfold cK;rw[e]
theorem FQ:VN jA 3 HV tQ:=by
 rintro ds st K ⟨d,m,w,rfl,hd,hm,k⟩;refine⟨rfl,?_⟩;refine⟨d,rfl,hd.any,?_⟩;cases e:items? st d with
 |none=>rw[gN e]at k;exact k
 |some xs=>
  rw[fm e]at k;obtain⟨h1,h2⟩:=hd.aj xs e
  have fin:i8 xs.length m=true->aN (aU nC (aa (bh (cq (ab 0)) [none,some 2] (aM 0) aW (ak i9 (aa (ab 0) (aa (ab 1) af)))) af)) {nx:=λ _ st'=>K .ao st',rt:=K} (aF tQ [d,m,.int w]) st:=by
   intro hk;rw[hk,W_]at k;refine gh e λ ok aC=>⟨h2,comp_map (g:=λ r=> .bl (eL st r w)) aC xs (λ x hx K' q=>⟨_,rfl,x,w,rfl,h1 x hx,q⟩) ?_⟩
   refine o7 (lD xs) ?_;simpa using k
  rcases hm with rfl|⟨i,rfl⟩
  . exact wx rfl (fin rfl)
  . refine wx rfl (cD e (ne2 (λ h=>?_) λ h=>?_))
    . have:i8 xs.length (.int i)=false:=We h;rw[this]at k;exact k
    . exact fin (Wr h)
theorem Kd(h:a.natAbs<2^m):Builtin.Int.intBits a<=m:=by
 unfold Builtin.Int.intBits;by_cases h0:a.natAbs=0
 . have:a=0:=by lia
   subst this;simp
 . have:=(Nat.log2_lt h0).mpr h;split<;>lia
theorem jD(ha:a.natAbs<=2^m)(hb:b.natAbs<=2^n)(h:m+n<=130000000):IntMulOk a b:=by
 have q:∀ {x:Int} {k:Nat},x.natAbs<=2^k->Builtin.Int.intBits x<=k+1:=λ{x k} h=>Kd (Yv h (Nat.pow_lt_pow_right (by decide) (WA k)));have h1:=q ha;have h2:=q hb;have e:(2:Nat)^27=134217728:=by decide
 have z:Builtin.Int.intTooBig (Builtin.Int.intBits a+Builtin.Int.intBits b)=false:=by
  unfold Builtin.Int.intTooBig bitsLine;exact We (by lia)
 unfold IntMulOk;rw[z];simp
theorem EM:pl (n+1) (aR r)=true:=by
 unfold pl;exact Ew
theorem j7:pl (n+2) (aq A)=true:=by
 unfold pl;refine Wm.mpr λ d hd=>?_;obtain⟨r,_,rfl⟩:=V9.mp hd;exact EM
theorem yQ:∀(r s:List Int),fi (av r) (av s)=decide (r=s)
 | [],[]=>by unfold fi;rfl
 | [],_::_=>by unfold fi;rfl
 |_::_,[]=>by unfold fi;rfl
 |a::r,b::s=>by
  have ih:=yQ r s;unfold av at ih⊢;rw[Ww,Ww];unfold fi;rw[ih];unfold cu;by_cases h1:a=b
  . subst h1;simp
  . have:(a==b)=false:=by simpa using h1
    rw[this,YV];exact(We λ h=>h1 (Zd h).1).symm
theorem rT:∀(A B:List (List Int)),fi (A.map aR) (B.map aR)=decide (A=B)
 | [],[]=>by unfold fi;rfl
 | [],_::_=>by unfold fi;rfl
 |_::_,[]=>by unfold fi;rfl
 |a::r,b::s=>by
  have ih:=rT r s;rw[Ww,Ww];unfold fi;rw[ih];unfold aR cu;rw[yQ];by_cases h1:a=b
  . subst h1;simp
  . rw[We h1,YV];exact(We λ h=>h1 (Zd h).1).symm
theorem vz(A B:List (List Int)):cu (aq A) (aq B)=decide (A=B):=by
 unfold aq cu;exact rT A B
theorem all_ints:∀ {xs:List D},xs.all isInt=true->xs=av (xs.map λ x=>match x with| .int i=>i|_=>0)
 | [],_=>rfl
 |x::xs,h=>by
  rw[WY,Wv]at h;have ih:=all_ints h.2;cases x<;>first|(cases h.1;done)|skip
  rename_i i;show D.int i::xs=D.int i::_;rw[<-av,<-ih]
theorem sP{st:ae}(h:eL st r w=true):items? st r=some (av (intsOf st r))/\((intsOf st r).length:Int)=w:=by
 unfold eL at h;cases e:items? st r with
 |none=>rw[e]at h;cases h
 |some xs=>
  rw[e]at h;simp only[Wv,Y4]at h;have e2:=all_ints h.2;have e3:=nV (e.trans (Xr some e2));rw[e3];exact⟨Xr some e2,by rw[VO];exact h.1⟩
def Ls(d:D)(xs:List D):Prop:=d= .tup xs\/d= .lst xs
theorem Ls.items(h:Ls d xs)(st:ae):items? st d=some xs:=by rcases h with rfl|rfl<;>rfl
theorem Ls.any(h:Ls d xs)(st:ae):Any st d:=by rcases h with rfl|rfl<;>exact⟨_,rfl⟩
def Flat(d:D):Prop:=∀st,Any st d/\items? st d=none
structure y9(d:D):Prop where
 any:∀st,Any st d
 sm:∀i,d= .int i->i.natAbs<=2^64000000
def pv(d:D):Prop:=Flat d\/∃xs,Ls d xs/\xs.length<=1000/\∀x∈xs,y9 x
def e9(d:D):Prop:=Flat d\/∃xs,Ls d xs/\xs.length<=1000/\∀x∈xs,pv x
def fK(d:D):Prop:=Flat d\/∃xs,Ls d xs/\xs.length<=1000/\∀x∈xs,e9 x
theorem pv.any(h:pv d)(st:ae):Any st d:=by
 rcases h with h|⟨xs,l,_⟩
 . exact(h st).1
 . exact l.any st
theorem e9.any(h:e9 d)(st:ae):Any st d:=by
 rcases h with h|⟨xs,l,_⟩
 . exact(h st).1
 . exact l.any st
theorem fK.any(h:fK d)(st:ae):Any st d:=by
 rcases h with h|⟨xs,l,_⟩
 . exact(h st).1
 . exact l.any st
theorem pv.ux(h:pv d)(st:ae):Thing st d:=by
 refine⟨h.any st,λ ys e=>?_⟩;rcases h with h|⟨xs,l,r,q⟩
 . rw[(h st).2]at e;cases e
 . rw[l.items st]at e;cases e;exact⟨λ x hx=>(q x hx).any st,aI r⟩
theorem e9.ux(h:e9 d)(st:ae):HB st d:=by
 refine⟨h.any st,λ ys e=>?_⟩;rcases h with h|⟨xs,l,r,q⟩
 . rw[(h st).2]at e;cases e
 . rw[l.items st]at e;cases e;exact⟨λ x hx=>(q x hx).ux st,aI r⟩
theorem pv.Om{st:ae}(h:pv d):eL st d w=eL [] d w:=by
 unfold eL;rcases h with h|⟨xs,l,_⟩
 . rw[(h st).2,(h []).2]
 . rw[l.items st,l.items []]
theorem BJ{f g:D->Bool}:∀ {xs:List D},(∀x∈xs,f x=g x)->xs.all f=xs.all g
 | [],_=>rfl
 |x::xs,h=>by rw[WY,WY,h x V_,BJ λ y hy=>h y (V5 _ hy)]
theorem e9.uw{st:ae}(h:e9 d):cK st d m w=cK [] d m w:=by
 rcases h with h|⟨xs,l,_,q⟩
 . rw[gN (h st).2,gN (h []).2]
 . rw[fm (l.items st),fm (l.items []),BJ λ x hx=>(q x hx).Om]
def rowsOf(d:D):List (List Int):=match items? [] d with
 |some xs=>xs.map (intsOf [])
 |none=>[]
structure Cl(d:D)(A:List (List Int)):Prop where
 ex:∃xs,(∀s,items? s d=some xs)/\∀s,aZ s xs A
theorem Cl.rows(h:Cl d A)(st:ae):dv st d A:=by
 obtain⟨xs,e,r⟩:=h.ex;exact⟨xs,e st,r st⟩
theorem td:∀ {xs:List D},(∀r∈xs,items? s r=some (av (intsOf [] r)))->aZ s xs (xs.map (intsOf []))
 | [],_=>trivial
 |x::xs,h=>⟨h x V_,td λ r hr=>h r (V5 _ hr)⟩
def Bg(A:List (List Int))(b:Nat):Prop:=∀r∈A,∀c∈r,c.natAbs<=2^b
theorem e9.rows{x:D}{n:Nat}(h:e9 x)(e:cK [] x (.int n) n=true):Cl x (rowsOf x)/\Mx.aL n n (rowsOf x)/\Bg (rowsOf x) 64000000:=by
 rcases h with h|⟨xs,l,_,q⟩
 . rw[gN (h []).2]at e;cases e
 rw[fm (l.items [])]at e;simp only[Wv]at e;have e1:rowsOf x=xs.map (intsOf []):=by unfold rowsOf;rw[l.items []]
 have key:∀r∈xs,(∀s,items? s r=some (av (intsOf [] r)))/\(intsOf [] r).length=n/\∀c∈intsOf [] r,c.natAbs<=2^64000000:=λ r hr=>by
  obtain⟨e2,e3⟩:=sP (Wm.mp e.2 r hr);rcases q r hr with f|⟨ys,ly,_,qy⟩
  . rw[(f []).2]at e2;cases e2
  . rw[ly.items []]at e2;have e4:=WQ e2;exact⟨λ s=>(ly.items s).trans (Xr some e4),by lia,λ c hc=>(qy (.int c) (by rw[e4];exact V9.mpr ⟨c,hc,rfl⟩)).sm c rfl⟩
 rw[e1];refine⟨⟨xs,l.items,λ s=>td λ r hr=>(key r hr).1 s⟩,⟨?_,λ r hr=>?_⟩,λ r hr=>?_⟩
 . have:((xs.length:Int)=(n:Int)):=Z0 e.1;rw[VO];lia
 . obtain⟨x,hx,rfl⟩:=V9.mp hr;exact(key x hx).2.1
 . obtain⟨x,hx,rfl⟩:=V9.mp hr;exact(key x hx).2.2
def E9(x y:D)(n:Nat):Bool:=cK [] y (.int n) n&&decide (Mx.mulM (rowsOf x) (rowsOf y) n=Mx.units n)
def qt:bw:=λ ds st K=>∃(x y:D) (n:Nat),ds=[x,y]/\e9 x/\e9 y/\cK [] x (.int n) n=true/\n<=8/\K (.bl (E9 x y n)) st
def xC:List Str:=["turn","back","many"]
def GG:DS:=(aB (cf (cO (aE (ak iZ (aa (ab 0) af)))) (aN (dC (.bl false))) bO)
 (aB (a6 2 (aU dc (aa (ab 0) af)))
 (aB (cf (gF (cO (aE (ak jA (aa (ab 0) (aa (ab 2) (aa (ab 2) af)))))) (cO (aE (ak jA (aa (ab 1) (aa (ab 2) (aa (ab 2) af))))))) (aN (dC (.bl false))) bO)
 (aN (F8 (ai dE (ab 2) (dC (.int 0))) (ai dE (ak k_ (aa (ab 0) (aa (ab 1) af))) (ak i4 (aa (ab 2) af))))))))
theorem Dr:VN qt 2 GG xC:=by
 rintro ds st K ⟨x,y,n,rfl,hx,hy,e1,hn,k⟩;refine⟨rfl,?_⟩;obtain⟨⟨xs,e,rx⟩,M1,b1⟩:=hx.rows e1;have l1:=M1.len;have lx:xs.length=n:=by rw[(rx st).len];exact l1
 refine⟨x,rfl,hx.any st,?_⟩;rw[e st];refine cD (e st) ?_;rw[lx];refine⟨x,_,_,rfl,hx.ux st,Or.inr ⟨_,rfl⟩,?_⟩;rw[hx.uw,e1];refine⟨y,_,_,rfl,hy.ux st,Or.inr ⟨_,rfl⟩,?_⟩;rw[hy.uw];unfold E9 at k;cases e2:cK [] y (.int n) n with
 |false=>rw[e2]at k;exact k
 |true=>
  rw[e2]at k;obtain⟨C2,M2,b2⟩:=hy.rows e2;have l2:=M2.len;refine eq2 (λ h0=>?_) λ h0=>?_
  . have n0:n=0:=by lia
    subst n0;have eA:rowsOf x=[]:=Xq l1;rw[eA]at k;exact k
  have hB:rowsOf y≠ []:=λ z=>by rw[z]at l2;simp at l2;lia
  refine⟨x,y,n,_,_,rfl,⟨xs,e st,rx st⟩,C2.rows st,hB,M2.cM,by lia,by lia,λ w hw c hc r hr b hb=>jD (b1 w hw c hc) (b2 r hr b hb) (by decide),?_⟩;refine⟨n,rfl,by lia,?_⟩;refine qp j7 j7 ?_;rw[vz];exact k
def r9(x y:D)(n:Nat):Bool:=cK [] x (.int n) n&&E9 x y n
def m_:bw:=λ ds st K=>∃(x y:D) (n:Nat),ds=[x,y,.int n]/\e9 x/\e9 y/\n<=8/\K (.bl (r9 x y n)) st
def sd:List Str:=["turn","back","many"]
def Cw:DS:=(aN (ix (ak jA (aa (ab 0) (aa (ab 2) (aa (ab 2) af)))) (ak qt (aa (ab 0) (aa (ab 1) af)))))
theorem Ar:VN m_ 3 Cw sd:=by
 rintro ds st K ⟨x,y,n,rfl,hx,hy,hn,k⟩;refine⟨rfl,?_⟩;refine⟨x,_,_,rfl,hx.ux st,Or.inr ⟨_,rfl⟩,?_⟩;rw[hx.uw];unfold r9 at k;cases e1:cK [] x (.int n) n with
 |false=>rw[e1]at k;exact k
 |true=>
  rw[e1]at k;exact⟨x,y,n,rfl,hx,hy,e1,hn,k⟩
def eN:List Int->Nat->Option Nat
 | [],_=>none
 |x::xs,i=>if x=0 then eN xs (i+1)else some i
def d_(r:List Int):Option Nat:=eN r 0
def fR(r:List Int):D:=match d_ r with
 |some k=> .int (k:Int)
 |none=> .ao
def jx:bw:=λ ds st K=>∃(d:D) (r:List Int),ds=[d]/\items? st d=some (av r)/\K (fR r) st
def zY:List Str:=["row","place","number"]
def IP:DS:=(aB (jj (xo (aa (ab 0) af)) (fI 1 2) (cf (aE (ai qM (ab 2) (dC (.int 0)))) (aN (ab 1)) bO))
 (aN (dC .ao)))
theorem GA:VN jx 1 IP zY:=by
 rintro ds st K ⟨d,r,rfl,hd,k⟩;refine⟨rfl,?_⟩;refine xY hd λ ok aC=>?_;refine gO (λ rest σ st'=>st'=st/\∃(v1 v2:Option D) (s:List Int) (i:Nat),σ=[some d,v1,v2]/\rest=fz i (av s)/\eN r 0=eN s i) ?_ ?_ _ _ _ ⟨rfl,none,none,r,0,rfl,rfl,rfl⟩
 . rintro σ st' ⟨rfl,v1,v2,s,i,rfl,hr,hl⟩;match s,hr with
   | [],_=>
     refine⟨aC _ hd,?_⟩;have:fR r= .ao:=by unfold fR d_;rw[hl];rfl
     rw[this]at k;exact k
 . rintro x rest σ st' ⟨rfl,v1,v2,s,i,rfl,hr,hl⟩ next
   match s,hr,hl with
   |y::s,hr,hl=>
    simp only[av,Ww,fz,Xe]at hr;obtain⟨rfl,rfl⟩:=hr;refine⟨aC _ hd,_,rfl,?_⟩;refine ne2 (λ h=>b_ ?_) λ h=>?_
    . have:fR r= .int (i:Int):=by unfold fR d_;rw[hl];unfold eN;rw[VT h]
      rw[this]at k;exact k
    . refine next _ _ ⟨rfl,_,_,s,i+1,rfl,rfl,?_⟩
      rw[hl];unfold eN;rw[VU h];cases s<;>rfl
   | [],hr,_=>cases hr
theorem Cm:∀(r:List Int) (i l:Nat),(∀c,c<l->r.getD c 0=0)->r.getD l 0≠0->eN r i=some (i+l)
 | [],_,_,_,h=>(h rfl).elim
 |x::r,i,0,_,h=>by
  unfold eN;rw[VT (show¬x=0 from h)];rfl
 |x::r,i,l+1,hz,h=>by
  unfold eN;rw[VU (show x=0 from hz 0 (Nat.zero_lt_succ _)),Cm r (i+1) l (λ c hc=>hz (c+1) (Nat.succ_lt_succ hc)) h,Nat.add_right_comm];rfl
theorem zk(h:∀c,c<l->r.getD c 0=0)(h':r.getD l 0≠0):d_ r=some l:=by
 have:=Cm r 0 l h h';rw[Ye]at this;exact this
def bN:List (List Int)->Int->List (List Int)->Bool
 |_,_,[]=>true
 |done,ahead,r::rest=>match d_ r with
  |none=>false
  |some l=>if(l:Int)<=ahead\/r.getD l 0<0 then false else if(done.all λ a=>decide (0<=a.getD l 0)&&decide (a.getD l 0<r.getD l 0))=true then bN (done++[r]) l rest else false
theorem iO(done:List (List Int))(ahead:Int)(r:List Int)(rest:List (List Int)):bN done ahead (r::rest)=match d_ r with
 |none=>false
 |some l=>if(l:Int)<=ahead\/r.getD l 0<0 then false else if(done.all λ a=>decide (0<=a.getD l 0)&&decide (a.getD l 0<r.getD l 0))=true then bN (done++[r]) l rest else false:=rfl
theorem pW{g:List Int->Bool}:∀A:List (List Int),i6 (A.map λ x=>D.bl (g x))=some (A.map g)
 | []=>rfl
 |x::xs=>by simp[i6,pW xs]
theorem Dd:∀ {r:List Int} {i k:Nat},eN r i=some k->i<=k/\k<i+r.length
 | [],_,_,h=>by cases h
 |x::r,i,k,h=>by
  unfold eN at h;split at h
  . have:=Dd h;simp only[Ws];lia
  . cases h;simp only[Ws];lia
theorem zV{k:Nat}(h:d_ r=some k):k<r.length:=by
 have:=Dd (show eN r 0=some k from h);lia
theorem Jr{d:D}{xs:List D}{lo hi:Option Int}{st:ae}{K:DK}(h:items? st d=some xs)(k:∀d',items? st d'=some (L3.cutD xs lo hi)->K d' st):iY d lo hi st K:=by
 cases d<;>try(cases h;done)
 . rename_i n;exact zt (nW h) (k _ rfl)
 . cases h;exact gp (k _ rfl)
 . cases h;exact dD (k _ rfl)
theorem aZ.take{st:ae}:∀ {ds:List D} {A:List (List Int)} (k:Nat),aZ st ds A->aZ st (ds.take k) (A.take k)
 |_,_,0,_=>by simp[aZ]
 | [],[],_+1,_=>trivial
 |_::_,_::_,k+1,h=>⟨h.1,aZ.take k h.2⟩
theorem qw{st:ae}{K:List D->ae->Prop}(f:List Int->D)(aC:ok st)(hr:aZ st ds A)(hx:∀d r,r∈A->items? st d=some (av r)->∀K',K' (f r) st->∃σ2,tg d σc=some σ2/\te σ2 st K')(k:K (A.map f) st):bz tg aW te ok σc ds [] st K:=by
 refine cN (λ rest acc st'=>∃(A1 A2:List (List Int)),st=st'/\A1++A2=A/\aZ st rest A2/\acc=A1.map f) ?_ ?_ _ _ _ ⟨[],A,rfl,rfl,hr,rfl⟩
 . rintro acc st' ⟨A1,A2,rfl,he,h,rfl⟩;match A2,h with
   | [],_=>
     rw[WE]at he;subst he;exact⟨aC,k⟩
 . rintro d rest acc st' ⟨A1,A2,rfl,he,h,rfl⟩ next
   match A2,h with
   |r::A2,h=>
    obtain⟨σ2,e2,q⟩:=hx d r (by rw[<-he];simp) h.1 (λ y st2=>bz tg aW te ok σc rest (A1.map f++[y]) st2 K) (next _ _ ⟨A1++[r],A2,rfl,by rw[<-he];simp,h.2,by simp⟩);exact⟨aC,σ2,e2,q⟩
theorem xk{st:ae}:∀ {ds:List D} {A:List (List Int)} {i:Nat},aZ st ds A->∀ {x:D} {rest:List D},fz i ds=x::rest->∃d r ds' A',ds=d::ds'/\A=r::A'/\x= .tup [.int (i:Int),d]/\rest=fz (i+1) ds'/\items? st d=some (av r)/\aZ st ds' A'
 | [],[],_,_,_,_,e=>by unfold fz at e;cases e
 |d::ds,r::A,i,h,x,rest,e=>by
  unfold fz at e;rw[Xe]at e;exact⟨d,r,ds,A,rfl,rfl,e.1.symm,e.2.symm,h.1,h.2⟩
theorem wR:∀(r:List Int) (i:Nat),eN r (i+1)=(eN r i).map (· +1)
 | [],_=>rfl
 |x::r,i=>by
  unfold eN;split
  . exact wR r (i+1)
  . rfl
theorem u4:∀r:List Int,((List.range r.length).filter λ j=>decide (r.getD j 0≠0)).head?=d_ r
 | []=>rfl
 |x::r=>by
  have ih:=u4 r;rw[Ws,WS,List.filter_cons];by_cases h:x=0
  . have h1:decide ((x::r).getD 0 0≠0)=false:=by simpa using h
    rw[h1,VT WG,List.filter_map,List.head?_map]
    have e:(λ j=>decide ((x::r).getD j 0≠0))∘Nat.succ=λ j=>decide (r.getD j 0≠0):=by
     funext j;simp
    rw[e,ih];unfold d_;conv=>rhs;unfold eN
    rw[VU h,wR]
  . have h1:decide ((x::r).getD 0 0≠0)=true:=by simpa using h
    rw[h1,VU rfl,List.head?_cons];unfold d_ eN;rw[VT h]
theorem DH{p:Nat->Bool}{st:ae}{K:List D->ae->Prop}(h:∀i:Nat,i<n->∃σ2,aM 0 (.int (i:Int)) σc=some σ2/\(∀K',K' (p i) st->c σ2 st K')/\∀K',K' (.int (i:Int)) st->te σ2 st K')(k:K (((List.range n).filter p).map λ(j:Nat)=>D.int (j:Int)) st):bz (aM 0) c te (λ _=>True) σc (du 0 n) [] st K:=by
 refine cN (λ rest acc st'=>st'=st/\∃j:Nat,j<=n/\rest=(List.range (n-j)).map (λ i=>D.int (((j+i:Nat):Int)))/\acc=((List.range j).filter p).map λ(j:Nat)=>D.int (j:Int)) ?_ ?_ _ _ _ ⟨rfl,0,Wg _,by unfold du;simp,rfl⟩
 . rintro acc st' ⟨rfl,j,hj,hr,rfl⟩
   have:n-j=0:=by
    cases q:n-j with
    |zero=>rfl
    |succ m=>rw[q,WS]at hr;cases hr
   have hjn:j=n:=by lia
   subst hjn;exact⟨trivial,k⟩
 . rintro d rest acc st' ⟨rfl,j,hj,hr,rfl⟩ next
   cases q:n-j with
   |zero=>rw[q]at hr;cases hr
   |succ m=>
    rw[q,WS,Ww,WB]at hr;simp only[Xe]at hr;obtain⟨rfl,hrest⟩:=hr;obtain⟨σ2,e2,hc,ht⟩:=h j (by lia)
    have hrest':rest=(List.range (n-(j+1))).map (λ i=>D.int (((j+1+i:Nat):Int))):=by
     have:n-(j+1)=m:=by lia
     rw[this,hrest];refine WU λ i _=>?_;show D.int (((j+(i+1):Nat):Int))=D.int (((j+1+i:Nat):Int));congr 2;lia
    refine⟨trivial,σ2,e2,hc _ ?_⟩;cases ep:p j with
    |false=>
     refine next _ _ ⟨rfl,j+1,by lia,hrest',?_⟩
     rw[ZE,W9,WJ];simp[ep]
    |true=>
     refine b_ (ht _ (next _ _ ⟨rfl,j+1,by lia,hrest',?_⟩));rw[ZE,W9,WJ];simp[ep]
theorem zw(ps:List Nat):pl (n+1) (.lst (ps.map λ(j:Nat)=>D.int (j:Int)))=true:=by
 unfold pl;refine Wm.mpr λ d hd=>?_;obtain⟨i,_,rfl⟩:=V9.mp hd;cases n<;>rfl
def i_:bw:=λ ds st K=>∃(d:D) (A:List (List Int)) (w:Nat),ds=[d]/\dv st d A/\(∀r∈A,r.length=w)/\A.length<=1000/\K (.bl (bN [] (-1) A)) st
def qR:List Str:=["rows","ahead","k","row","lead"]
def Ao:DS:=(aB (a6 1 (g9 e6 (dC (.int 1))))
 (aB (jj (xo (aa (ab 0) af)) (fI 2 3) (aB (a6 4 (ak jx (aa (ab 3) af)))
 (aB (cf (gF (aE (ai CC (ab 4) (dC .ao))) (gF (aE (ai zE (ab 4) (ab 1))) (aE (ai oU (ai aK (ab 3) (ab 4)) (dC (.int 0)))))) (aN (dC (.bl false))) bO)
 (aB (cf (cO (aE (aU nC (aa (bh (cq (cH (ab 0) cp (cY (ab 2)))) [none,some 4,some 3] (aM 0) aW (tJ zE oU (dC (.int 0)) (ai aK (ab 0) (ab 1)) (ai aK (ab 2) (ab 1)))) af)))) (aN (dC (.bl false))) bO)
 (a6 1 (ab 4))))))
 (aN (dC (.bl true)))))
theorem yh:VN i_ 1 Ao qR:=by
 rintro ds st K ⟨d,A,w,rfl,⟨da,hd,ra⟩,hw,hl,k⟩;refine⟨rfl,?_⟩;have hla:=ra.len;refine eH ?_;refine xY hd λ ok aC=>?_;refine gO (λ rest σ st'=>st'=st/\∃(v2 v3 v4:Option D) (ahead:Int) (A1 A2:List (List Int)) (ds2:List D),σ=[some d,some (.int ahead),v2,v3,v4]/\A=A1++A2/\aZ st ds2 A2/\rest=fz A1.length ds2/\bN [] (-1) A=bN A1 ahead A2) ?_ ?_ _ _ _ ⟨rfl,none,none,none,-1,[],A,da,rfl,rfl,ra,rfl,rfl⟩
 . rintro σ st' ⟨rfl,v2,v3,v4,ahead,A1,A2,ds2,rfl,hA,r2,hr,hs⟩;refine⟨aC _ hd,?_⟩;match ds2,A2,r2,hr with
   | [],[],_,_=>
     rw[hs]at k;exact k
 . rintro x rest σ st' ⟨rfl,v2,v3,v4,ahead,A1,A2,ds2,rfl,hA,r2,hr,hs⟩ next
   obtain⟨e,r,ds3,A3,rfl,rfl,rfl,rfl,he,r3⟩:=xk r2 hr.symm;refine⟨aC _ hd,_,rfl,?_⟩;refine⟨e,r,rfl,he,?_⟩;rw[iO]at hs;have hrw:r.length=w:=hw r (by rw[hA];simp);cases el:d_ r with
   |none=>
    have:fR r= .ao:=by unfold fR;rw[el]
    rw[this];rw[el]at hs;refine oY rfl (b_ ?_);rw[hs]at k;exact k
   |some l=>
    have e1:fR r= .int (l:Int):=by unfold fR;rw[el]
    rw[e1];rw[el]at hs;have hlr:=zV el;refine oY rfl ?_;refine AN ?_;by_cases h1:(l:Int)<=ahead
    . rw[Wr h1];simp only[VU (show(l:Int)<=ahead\/r.getD l 0<0 from .inl h1)]at hs;rw[hs]at k;exact k
    . rw[We h1];refine aw he (fF hlr) (tX ?_);by_cases h2:r.getD l 0<0
      . rw[Wr h2];simp only[VU (show(l:Int)<=ahead\/r.getD l 0<0 from .inr h2)]at hs;rw[hs]at k;exact k
      . rw[We h2];simp only[VT (show¬((l:Int)<=ahead\/r.getD l 0<0)from λ h=>h.elim h1 h2)]at hs;refine Jr hd λ d' hd'=>gh hd' λ ok2 hok2=>?_
        have ec:L3.cutD da none (some (A1.length:Int))=da.take A1.length:=by
         unfold L3.cutD;rw[HT.uq,HT.qj,aaG,aaK];congr 1;rw[hla,hA,V3];lia
        have rr:aZ st' (L3.cutD da none (some (A1.length:Int))) A1:=by
         have:=aZ.take A1.length ra;rw[hA,List.take_left']at this
         . rw[ec];exact this
         . rfl
        refine⟨aI (by rw[rr.len];rw[hA]at hl;simp at hl;lia),?_⟩;refine qw (λ a=> .bl (decide (0<=a.getD l 0)&&decide (a.getD l 0<r.getD l 0))) hok2 rr (λ y a ha hy K' q=>⟨_,rfl,?_⟩) ?_
        . have hal:l<a.length:=by rw[hw a (by rw[hA];exact W5 _ ha),<-hrw];exact hlr
          refine aw hy (fF hal) (AN ?_);by_cases h3:0<=a.getD l 0
          . rw[Wr h3]at q⊢;exact aw he (fF hlr) (tX (by simpa using q))
          . rw[We h3]at q⊢;exact q
        . refine o7 (pW A1) ?_;have ea:(A1.map λ a=>decide (0<=a.getD l 0)&&decide (a.getD l 0<r.getD l 0)).all id=A1.all λ a=>decide (0<=a.getD l 0)&&decide (a.getD l 0<r.getD l 0):=by rw[YO];rfl
          rw[ea];cases e4:(A1.all λ a=>decide (0<=a.getD l 0)&&decide (a.getD l 0<r.getD l 0))with
          |false=>
           rw[e4]at hs;rw[hs]at k;exact k
          |true=>
           rw[e4]at hs;exact next _ _ ⟨rfl,_,_,_,(l:Int),A1++[r],A3,ds3,rfl,by rw[hA];simp,r3,by simp,hs⟩
def dH(r:List Int):Bool:=(d_ r).isSome
def nK(B:List (List Int)):List (List Int):=B.take (B.filter dH).length
def jO:bw:=λ ds st K=>∃(B:List (List Int)) (w:Nat),ds=[aq B]/\(∀r∈B,r.length=w)/\B.length<=8/\K (if bN [] (-1) (nK B)=true then aq (nK B)else .ao) st
def nY:List Str:=["rows","head"]
def xM:DS:=(aB (a6 1 (cH (ab 0) cp (cY (aU dc (aa (bh (cq (ab 0)) [none] (aM 0) (aE (ai my (ak jx (aa (ab 0) af)) (dC .ao))) (ab 0)) af)))))
 (aN (BR (aE (ak i_ (aa (ab 1) af))) (ab 1) (dC .ao))))
theorem i7{j:Nat}:L3.cutD xs none (some (j:Int))=xs.take j:=by
 unfold L3.cutD;rw[HT.uq,HT.qj,aaG,aaK];by_cases h:j<=xs.length
 . rw[ZF h]
 . rw[aah (by lia),List.take_length,Xo (by lia)]
theorem vE:VN jO 1 xM nY:=by
 rintro ds st K ⟨B,w,rfl,hw,l8,k⟩;refine⟨rfl,?_⟩;refine eK ⟨aI (by rw[VO];lia),?_⟩;refine cN (λ rest acc st'=>st=st'/\∃B1 B2:List (List Int),B1++B2=B/\rest=B2.map aR/\acc.length=(B1.filter dH).length) ?_ ?_ _ _ _ ⟨rfl,[],B,rfl,rfl,rfl⟩
 . rintro acc st' ⟨rfl,B1,B2,e,hr,la⟩;have:B2=[]:=YK.mp hr.symm;subst this;rw[WE]at e;subst e;refine⟨trivial,cD rfl (dD ?_)⟩;rw[la,i7,<-XD];refine⟨_,nK B1,w,rfl,dX,λ r hr=>hw r (W7 hr),by unfold nK;rw[Wl];lia,?_⟩;cases e:bN [] (-1) (nK B1)with
   |true=>rw[e,VU rfl]at k;exact k
   |false=>rw[e,VT WG]at k;exact k
 . rintro x rest acc st' ⟨rfl,B1,B2,e,hr,la⟩ next
   cases B2 with
   |nil=>cases hr
   |cons r B2=>
    rw[Ww]at hr;simp only[Xe]at hr;obtain⟨rfl,rfl⟩:=hr;refine⟨trivial,_,rfl,_,r,rfl,rfl,?_⟩;cases el:d_ r with
    |none=>
     have eD:fR r= .ao:=by unfold fR;rw[el]
     have en:dH r=false:=by unfold dH;rw[el];rfl
     rw[eD];exact wx rfl (next _ _ ⟨rfl,B1++[r],B2,by rw[<-e];simp,rfl,by rw[W9,aal (by rw[en];decide),ZG,WE];exact la⟩)
    |some l=>
     have eD:fR r= .int (l:Int):=by unfold fR;rw[el]
     have en:dH r=true:=by unfold dH;rw[el];rfl
     rw[eD];exact wx rfl (b_ (next _ _ ⟨rfl,B1++[r],B2,by rw[<-e];simp,rfl,by rw[W9,aam en,ZG,V3,V3,la];rfl⟩))
def ip:bw:=λ ds st K=>∃(t d:Int),ds=[.int t,.int d]/\d≠0/\K (.int (Mx.qn t d)) st
def lu:List Str:=["top","bottom"]
def tV:DS:=(aN (ai ph (ai cn (ai dA (dC (.int 2)) (ab 0)) (ab 1)) (ai dA (dC (.int 2)) (ab 1))))
theorem rB:VN ip 2 tV lu:=by
 rintro ds st K ⟨t,d,rfl,hd,k⟩;exact⟨rfl,fM (gf (by decide) (by decide)) (dJ (fM (gf (by decide) (by decide)) (Cc (by lia) k)))⟩
def i5:bw:=λ ds st K=>∃(n k o:Nat) (A:List (List Int)),ds=[.ref n,.int k,.int o]/\st[n]?=some (.lst (A.map a7))/\k<A.length/\o<A.length/\K (.ref st.length) (st++[.lst ((Mx.a_ A k o).map a7)])
def uK:List Str:=["rows","k","other","order"]
def D6:DS:=(aB (a6 3 (aU pF (aa (ab 0) af)))
 (aB (cZ (ab 3) (ab 1) (ai aK (ab 0) (ab 2)))
 (aB (cZ (ab 3) (ab 2) (ai aK (ab 0) (ab 1)))
 (aN (ab 3)))))
theorem de{A:List (List Int)}{j:Nat}(h:j<A.length):e_ (A.map a7) (j:Int)=some (a7 (A.getD j [])):=by
 refine j8 ?_;rw[Wn,V0 h,Mx.ba h];rfl
theorem fe{m k:Nat}(h:k<m):j4 m (k:Int)=some k:=by
 have:=JL (i:=(k:Int)) (m:=m) (by lia) (by lia);rw[Wi]at this;exact this
theorem gL{A:List (List Int)}{k:Nat}{r:List Int}:(A.map a7).set k (a7 r)=(A.set k r).map a7:=by rw[List.map_set]
theorem BW:VN i5 3 D6 uK:=by
 rintro ds st K ⟨n,k,o,A,rfl,e,hk,ho,kk⟩;refine⟨rfl,?_⟩;have hn:n<st.length:=(VV.mp e).1;refine BL (ax e) ?_;have e1:(st++[Cell.lst (A.map a7)])[n]?=some (.lst (A.map a7)):=by rw[VZ hn];exact e
 have e2:(st++[Cell.lst (A.map a7)])[st.length]?=some (.lst (A.map a7)):=by simp
 refine aw (ax e1) (de ho) (e8 e2 (by rw[VO];exact fe hk) ?_);rw[gL]
 have es:(st++[Cell.lst (A.map a7)]).set st.length (.lst ((A.set k (A.getD o [])).map a7))=st++[Cell.lst ((A.set k (A.getD o [])).map a7)]:=by
  rw[Zl _ _ (VQ _),XM];rfl
 rw[es];have e3:(st++[Cell.lst ((A.set k (A.getD o [])).map a7)])[n]?=some (.lst (A.map a7)):=by rw[VZ hn];exact e
 have e4:(st++[Cell.lst ((A.set k (A.getD o [])).map a7)])[st.length]?=some (.lst ((A.set k (A.getD o [])).map a7)):=by simp
 refine aw (ax e3) (de hk) (e8 e4 (by rw[VO,Wb];exact fe ho) ?_);rw[gL]
 have es2:(st++[Cell.lst ((A.set k (A.getD o [])).map a7)]).set st.length (.lst (((A.set k (A.getD o [])).set o (A.getD k [])).map a7))=st++[Cell.lst ((Mx.a_ A k o).map a7)]:=by
  rw[Zl _ _ (VQ _),XM];rfl
 rw[es2];exact kk
def k9:bw:=λ ds st K=>∃(d:D) (r:List Int),ds=[d]/\items? st d=some (av r)/\r.length<=1000/\K (a7 (r.map λ x=> -x)) st
def zP:List Str:=["row"]
def HN:DS:=(aN (bh (cq (ab 0)) [none] (aM 0) aW (g9 e6 (ab 0))))
theorem Fw:VN k9 1 HN zP:=by
 rintro ds st K ⟨d,r,rfl,hd,hl,k⟩;refine⟨rfl,?_⟩;refine gh hd λ ok aC=>⟨aI (by unfold av;rw[VO];exact hl),?_⟩
 refine comp_map (g:=λ x=>match x with| .int a=> .int (-a)|_=> .ao) aC _ (λ x hx K' q=>?_) ?_
 . unfold av at hx;obtain⟨a,_,rfl⟩:=V9.mp hx;exact⟨_,rfl,eH q⟩
 . have e:(av r).map (λ x=>match x with| .int a=> .int (-a)|_=> .ao)=av (r.map λ x=> -x):=by unfold av;rw[WB,WB];rfl
   rw[e];exact k
structure Bn(st:ae)(b xb xu xc:Nat)(A U C:List (List Int)):Prop where
 eb:st[b]?=some (Cell.ins az [("body",.ref xb),("turn",.ref xu),("back_columns",.ref xc)])
 e1:st[xb]?=some (Cell.lst (A.map a7))
 e2:st[xu]?=some (Cell.lst (U.map a7))
 e3:st[xc]?=some (Cell.lst (C.map a7))
 n1:xb≠xu
 n2:xb≠xc
 n3:xu≠xc
theorem jK{st:ae}{b x:Nat}{C:Addr}{fs:List (Str×D)}{xs:List D}(h1:st[b]?=some (Cell.ins C fs))(h2:st[x]?=some (Cell.lst xs)):b≠x:=λ z=>by rw[z,h2]at h1;cases h1
def jr:bw:=λ ds st K=>∃(b N:Nat) (d:D) (A:List (List Int)),ds=[.ref b,d]/\st[b]?=some (.ins az [])/\dv st d A/\A.length=N/\N<=16/\∀st',Bn st' b st.length (st.length+1) (st.length+2) A (Mx.units N) (Mx.units N)->st'.length=st.length+3->(∀m,m<st.length->m≠b->st'[m]?=st[m]?)->K .ao st'
def jq:List Str:=["self","rows"]
def vJ:DS:=(aB (n_ az "body" (ab 0) (fG (cq (ab 1)) [none] (aM 0) aW (aU jR (aa (ab 0) af))))
 (aB (n_ az "turn" (ab 0) (fG (cq (ak i4 (aa (aU dc (aa (ab 1) af)) af))) [none] (aM 0) aW (aU jR (aa (ab 0) af))))
 (n_ az "back_columns" (ab 0) (fG (cq (ak i4 (aa (aU dc (aa (ab 1) af)) af))) [none] (aM 0) aW (aU jR (aa (ab 0) af))))))
theorem qE(f:Str)(v:D):∀fs:List (Str×D),(putD f v fs).length<=fs.length+1
 | []=>by simp[putD]
 |(g,x)::r=>by
  unfold putD;split
  . simp
  . have:=qE f v r;simp only[Ws];lia
theorem CL{st:ae}:aZ st (A.map aR) A:=aZ.tup
theorem sE(n:Nat):(Mx.units n).length=n:=by unfold Mx.units;simp
theorem uE:VN jr 2 vJ jq:=by
 rintro ds st K ⟨b,N,d,A,rfl,eb,hA,hl,hN,k⟩;refine⟨rfl,?_⟩;have hb:b<st.length:=(VV.mp eb).1;obtain⟨da,hd,ra⟩:=hA.ex;have hdl:=ra.len;have lst:∀(e:D) (r:List Int),True:=λ _ _=>trivial;refine gh hd λ ok aC=>⟨aI (by lia),?_⟩
 refine mJ a7 aC ra (λ e r hr he K' q=>⟨_,rfl,jC he q⟩) ?_;have eb1:(st++[Cell.lst (A.map a7)])[b]?=some (.ins az []):=by rw[VZ hb];exact eb
 refine mN eb1 (by decide) ?_;generalize hs1:(st++[Cell.lst (A.map a7)]).set b (.ins az (putD "body" (.ref st.length) []))=st1;have l1:st1.length=st.length+1:=by rw[<-hs1];simp
 have f1:∀m,m<st.length->m≠b->st1[m]?=st[m]?:=λ m hm hmb=>by rw[<-hs1,VW (V6 hmb),VZ hm]
 have b1:st1[b]?=some (.ins az (putD "body" (.ref st.length) [])):=by rw[<-hs1,V7 (by simp;lia)]
 have x1:st1[st.length]?=some (.lst (A.map a7)):=by rw[<-hs1,VW (by lia)];simp
 clear hs1
 have itd:∃da',items? st1 d=some da'/\da'.length=N:=by
  cases d with
  |ref n=>
   by_cases hnb:n=b
   . subst hnb;unfold items? at hd;simp only[eb]at hd;cases hd
   . have hn:n<st.length:=by
      unfold items? at hd;simp only at hd;cases q:st[n]? with
      |none=>rw[q]at hd;cases hd
      |some c=>exact(VV.mp q).1
     refine⟨da,?_,by lia⟩;unfold items? at hd⊢;simp only at hd⊢;rw[f1 n hn hnb];exact hd
  |_=>exact⟨da,hd,by lia⟩
 obtain⟨da1,hd1,hdl1⟩:=itd;refine cD hd1 ?_;rw[hdl1];refine⟨N,rfl,by lia,?_⟩;refine eK ⟨aI (by rw[VO,sE];lia),?_⟩;refine mJ a7 trivial CL (λ e r hr he K' q=>⟨_,rfl,jC he q⟩) ?_;have b2:(st1++[Cell.lst ((Mx.units N).map a7)])[b]?=some (.ins az (putD "body" (.ref st.length) [])):=by rw[VZ (by lia)];exact b1
 refine mN b2 (by have:=qE "body" (.ref st.length) [];simp only[Yw]at this;lia) ?_;generalize hs2:(st1++[Cell.lst ((Mx.units N).map a7)]).set b (.ins az (putD "turn" (.ref st1.length) (putD "body" (.ref st.length) [])))=st2;have l2:st2.length=st.length+2:=by rw[<-hs2];simp;lia
 have f2:∀m,m<st1.length->m≠b->st2[m]?=st1[m]?:=λ m hm hmb=>by rw[<-hs2,VW (V6 hmb),VZ hm]
 have b2':st2[b]?=some (.ins az (putD "turn" (.ref st1.length) (putD "body" (.ref st.length) []))):=by rw[<-hs2,V7 (by simp;lia)]
 have x2:st2[st1.length]?=some (.lst ((Mx.units N).map a7)):=by rw[<-hs2,VW (by lia)];simp
 clear hs2
 have itd2:items? st2 d=some da1:=by
  cases d with
  |ref n=>
   by_cases hnb:n=b
   . subst hnb;unfold items? at hd1;simp only[b1]at hd1;cases hd1
   . have hn:n<st1.length:=by
      unfold items? at hd1;simp only at hd1;cases q:st1[n]? with
      |none=>rw[q]at hd1;cases hd1
      |some c=>exact(VV.mp q).1
     unfold items? at hd1⊢;simp only at hd1⊢;rw[f2 n hn hnb];exact hd1
  |_=>exact hd1
 refine cD itd2 ?_;rw[hdl1];refine⟨N,rfl,by lia,?_⟩;refine eK ⟨aI (by rw[VO,sE];lia),?_⟩;refine mJ a7 trivial CL (λ e r hr he K' q=>⟨_,rfl,jC he q⟩) ?_;have b3:(st2++[Cell.lst ((Mx.units N).map a7)])[b]?=some (.ins az (putD "turn" (.ref st1.length) (putD "body" (.ref st.length) []))):=by rw[VZ (by lia)];exact b2'
 refine mN b3 (by have h1:=qE "body" (.ref st.length) [];have h2:=qE "turn" (.ref st1.length) (putD "body" (.ref st.length) []);simp only[Yw]at h1;lia) ?_;refine k _ ⟨?_,?_,?_,?_,by lia,by lia,by lia⟩ (by simp;lia) λ m hm hmb=>?_
 . rw[V7 (by simp;lia),l1,l2];rfl
 . rw[VW (by lia),VZ (by lia),f2 _ (by lia) (by lia)];exact x1
 . rw[VW (by lia),VZ (by lia)];rw[l1]at x2;exact x2
 . rw[VW (by lia)];rw[show st.length+2=st2.length by lia];simp
 . rw[VW (V6 hmb),VZ (by lia),f2 m (by lia) hmb,f1 m hm hmb]
def jG:bw:=λ ds st K=>∃(b xb xu xc N w k j:Nat) (A U C:List (List Int)) (q:Int),ds=[.ref b,.int k,.int q,.int j]/\Bn st b xb xu xc A U C/\Mx.aL N w A/\Mx.aL N N U/\Mx.aL N N C/\k<N/\j<N/\N<=16/\w<=16/\(∀x∈A.getD j [],IntMulOk (-q) x)/\(∀x∈U.getD j [],IntMulOk (-q) x)/\(∀x∈C.getD k [],IntMulOk q x)/\
 ∀st',Bn st' b xb xu xc (Mx.aQ A k q j) (Mx.aQ U k q j) (Mx.aQ C j (-q) k)->st'.length=st.length->(∀m,m≠xb->m≠xu->m≠xc->st'[m]?=st[m]?)->K .ao st'
def m6:List Str:=["self","k","times","other"]
def BI:DS:=(aB (cZ (dy az "body" (ab 0)) (ab 1) (ak mS (aa (ai aK (dy az "body" (ab 0)) (ab 1)) (aa (g9 e6 (ab 2)) (aa (ai aK (dy az "body" (ab 0)) (ab 3)) af)))))
 (aB (cZ (dy az "turn" (ab 0)) (ab 1) (ak mS (aa (ai aK (dy az "turn" (ab 0)) (ab 1)) (aa (g9 e6 (ab 2)) (aa (ai aK (dy az "turn" (ab 0)) (ab 3)) af)))))
 (cZ (dy az "back_columns" (ab 0)) (ab 3) (ak mS (aa (ai aK (dy az "back_columns" (ab 0)) (ab 3)) (aa (ab 2) (aa (ai aK (dy az "back_columns" (ab 0)) (ab 1)) af)))))))
theorem Ai:VN jG 4 BI m6:=by
 rintro ds st K ⟨b,xb,xu,xc,N,w,k,j,A,U,C,q,rfl,B,hA,hU,hC,hk,hj,hN,hw,mA,mU,mC,kk⟩;refine⟨rfl,?_⟩;have lA:=hA.len;have lU:=hU.len;have lC:=hC.len;have rA:=Mx.cz hA hk;have rU:=Mx.cz hU hk;have rC:=Mx.cz hC hj;have bx1:=jK B.eb B.e1;have bx2:=jK B.eb B.e2;have bx3:=jK B.eb B.e3;have n1:=B.n1;have n2:=B.n2;have n3:=B.n3;refine cB B.eb rfl (aw (ax B.e1) (de (by lia)) (eH (cB B.eb rfl (aw (ax B.e1) (de (by lia)) ?_))));refine⟨_,_,-q,A.getD k [],A.getD j [],rfl,rfl,rfl,by lia,mA,?_⟩;refine cB B.eb rfl (e8 B.e1 (by rw[VO,lA];exact fe hk) ?_);rw[gL];have g1:∀m,m≠xb->(st.set xb (.lst ((A.set k (Mx.fU (A.getD k []) (-q) (A.getD j []))).map a7)))[m]?=st[m]?:=λ m hm=>VW (V6 hm);have h1:(st.set xb (.lst ((A.set k (Mx.fU (A.getD k []) (-q) (A.getD j []))).map a7)))[xb]?=some (.lst ((Mx.aQ A k q j).map a7)):=V7 (VV.mp B.e1).1;have z1:(st.set xb (.lst ((A.set k (Mx.fU (A.getD k []) (-q) (A.getD j []))).map a7))).length=st.length:=Wb;generalize st.set xb (.lst ((A.set k (Mx.fU (A.getD k []) (-q) (A.getD j []))).map a7))=st1 at g1 h1 z1⊢;have eb1:=(g1 b bx1).trans B.eb;have e21:=(g1 xu (V6 n1)).trans B.e2;have e31:=(g1 xc (V6 n2)).trans B.e3;refine cB eb1 rfl (aw (ax e21) (de (by lia)) (eH (cB eb1 rfl (aw (ax e21) (de (by lia)) ?_))));refine⟨_,_,-q,U.getD k [],U.getD j [],rfl,rfl,rfl,by lia,mU,?_⟩;refine cB eb1 rfl (e8 e21 (by rw[VO,lU];exact fe hk) ?_);rw[gL];have g2:∀m,m≠xu->(st1.set xu (.lst ((U.set k (Mx.fU (U.getD k []) (-q) (U.getD j []))).map a7)))[m]?=st1[m]?:=λ m hm=>VW (V6 hm);have h2:(st1.set xu (.lst ((U.set k (Mx.fU (U.getD k []) (-q) (U.getD j []))).map a7)))[xu]?=some (.lst ((Mx.aQ U k q j).map a7)):=V7 (VV.mp e21).1;have z2:(st1.set xu (.lst ((U.set k (Mx.fU (U.getD k []) (-q) (U.getD j []))).map a7))).length=st1.length:=Wb;generalize st1.set xu (.lst ((U.set k (Mx.fU (U.getD k []) (-q) (U.getD j []))).map a7))=st2 at g2 h2 z2⊢;have eb2:=(g2 b bx2).trans eb1;have e32:=(g2 xc (V6 n3)).trans e31;refine cB eb2 rfl (aw (ax e32) (de (by lia)) (cB eb2 rfl (aw (ax e32) (de (by lia)) ?_)));refine⟨_,_,q,C.getD j [],C.getD k [],rfl,rfl,rfl,by lia,mC,?_⟩;refine cB eb2 rfl (e8 e32 (by rw[VO,lC];exact fe hj) ?_);rw[gL];have hc:C.set j (Mx.fU (C.getD j []) q (C.getD k []))=Mx.aQ C j (-q) k:=by unfold Mx.aQ;rw[Int.neg_neg]
 rw[hc];refine kk _ ⟨?_,?_,?_,?_,n1,n2,n3⟩ (by rw[Wb];lia) λ m m1 m2 m3=>?_
 . rw[VW (V6 bx3)];exact eb2
 . rw[VW (V6 n2),g2 _ n1];exact h1
 . rw[VW (V6 n3)];exact h2
 . exact V7 (VV.mp e32).1
 . rw[VW (V6 m3),g2 m m2,g1 m m1]
def jn:bw:=λ ds st K=>∃(b xb xu xc N w k o:Nat) (A U C:List (List Int)),ds=[.ref b,.int k,.int o]/\Bn st b xb xu xc A U C/\Mx.aL N w A/\Mx.aL N N U/\Mx.aL N N C/\k<N/\o<N/\
 ∀st',Bn st' b st.length (st.length+1) (st.length+2) (Mx.a_ A k o) (Mx.a_ U k o) (Mx.a_ C k o)->st'.length=st.length+3->(∀m,m<st.length->m≠b->st'[m]?=st[m]?)->K .ao st'
def jf:List Str:=["self","k","other"]
def wa:DS:=(aB (n_ az "body" (ab 0) (ak i5 (aa (dy az "body" (ab 0)) (aa (ab 1) (aa (ab 2) af)))))
 (aB (n_ az "turn" (ab 0) (ak i5 (aa (dy az "turn" (ab 0)) (aa (ab 1) (aa (ab 2) af)))))
 (n_ az "back_columns" (ab 0) (ak i5 (aa (dy az "back_columns" (ab 0)) (aa (ab 1) (aa (ab 2) af)))))))
theorem uH:VN jn 3 wa jf:=by
 rintro ds st K ⟨b,xb,xu,xc,N,w,k,o,A,U,C,rfl,B,hA,hU,hC,hk,ho,kk⟩;refine⟨rfl,?_⟩;have lA:=hA.len;have lU:=hU.len;have lC:=hC.len;have bx1:=jK B.eb B.e1;have bx2:=jK B.eb B.e2;have bx3:=jK B.eb B.e3;have hb:b<st.length:=(VV.mp B.eb).1;have hu:xu<st.length:=(VV.mp B.e2).1;have hc:xc<st.length:=(VV.mp B.e3).1;refine cB B.eb rfl ?_;refine⟨xb,k,o,A,rfl,B.e1,by lia,by lia,?_⟩;have eb1:(st++[Cell.lst ((Mx.a_ A k o).map a7)])[b]?=some (.ins az [("body",.ref xb),("turn",.ref xu),("back_columns",.ref xc)]):=by rw[VZ hb];exact B.eb
 refine mN eb1 (by simp) ?_;have pb:putD "body" (.ref st.length) [("body",.ref xb),("turn",.ref xu),("back_columns",.ref xc)]=([("body",.ref st.length),("turn",.ref xu),("back_columns",.ref xc)]:List (Str×D)):=rfl;rw[pb];generalize hs1:(st++[Cell.lst ((Mx.a_ A k o).map a7)]).set b (.ins az [("body",.ref st.length),("turn",.ref xu),("back_columns",.ref xc)])=st1;have l1:st1.length=st.length+1:=by rw[<-hs1];simp
 have f1:∀m,m<st.length->m≠b->st1[m]?=st[m]?:=λ m hm hmb=>by rw[<-hs1,VW (V6 hmb),VZ hm]
 have b1:st1[b]?=some (.ins az [("body",.ref st.length),("turn",.ref xu),("back_columns",.ref xc)]):=by rw[<-hs1,V7 (by simp;lia)]
 have x1:st1[st.length]?=some (.lst ((Mx.a_ A k o).map a7)):=by rw[<-hs1,VW (by lia)];simp
 clear hs1 eb1;refine cB b1 rfl ?_;refine⟨xu,k,o,U,rfl,(f1 xu hu (V6 bx2)).trans B.e2,by lia,by lia,?_⟩;have eb1:(st1++[Cell.lst ((Mx.a_ U k o).map a7)])[b]?=some (.ins az [("body",.ref st.length),("turn",.ref xu),("back_columns",.ref xc)]):=by rw[VZ (by lia)];exact b1
 refine mN eb1 (by simp) ?_;have pb:putD "turn" (.ref st1.length) [("body",.ref st.length),("turn",.ref xu),("back_columns",.ref xc)]=([("body",.ref st.length),("turn",.ref st1.length),("back_columns",.ref xc)]:List (Str×D)):=rfl;rw[pb];generalize hs2:(st1++[Cell.lst ((Mx.a_ U k o).map a7)]).set b (.ins az [("body",.ref st.length),("turn",.ref st1.length),("back_columns",.ref xc)])=st2;have l2:st2.length=st.length+2:=by rw[<-hs2];simp;lia
 have f2:∀m,m<st1.length->m≠b->st2[m]?=st1[m]?:=λ m hm hmb=>by rw[<-hs2,VW (V6 hmb),VZ hm]
 have b2:st2[b]?=some (.ins az [("body",.ref st.length),("turn",.ref st1.length),("back_columns",.ref xc)]):=by rw[<-hs2,V7 (by simp;lia)]
 have x2:st2[st1.length]?=some (.lst ((Mx.a_ U k o).map a7)):=by rw[<-hs2,VW (by lia)];simp
 clear hs2 eb1;refine cB b2 rfl ?_;refine⟨xc,k,o,C,rfl,((f2 xc (by lia) (V6 bx3)).trans (f1 xc hc (V6 bx3))).trans B.e3,by lia,by lia,?_⟩;have eb1:(st2++[Cell.lst ((Mx.a_ C k o).map a7)])[b]?=some (.ins az [("body",.ref st.length),("turn",.ref st1.length),("back_columns",.ref xc)]):=by rw[VZ (by lia)];exact b2
 refine mN eb1 (by simp) ?_;have pb:putD "back_columns" (.ref st2.length) [("body",.ref st.length),("turn",.ref st1.length),("back_columns",.ref xc)]=([("body",.ref st.length),("turn",.ref st1.length),("back_columns",.ref st2.length)]:List (Str×D)):=rfl;rw[pb];refine kk _ ⟨?_,?_,?_,?_,by lia,by lia,by lia⟩ (by simp;lia) λ m hm hmb=>?_
 . rw[V7 (by simp;lia),l1,l2]
 . rw[VW (by lia),VZ (by lia),f2 _ (by lia) (by lia)];exact x1
 . rw[VW (by lia),VZ (by lia)];rw[l1]at x2;exact x2
 . rw[VW (by lia)];rw[show st.length+2=st2.length by lia];simp
 . rw[VW (V6 hmb),VZ (by lia),f2 m (by lia) hmb,f1 m hm hmb]
def gX:bw:=λ ds st K=>∃(b xb xu xc N w k:Nat) (A U C:List (List Int)),ds=[.ref b,.int k]/\Bn st b xb xu xc A U C/\Mx.aL N w A/\Mx.aL N N U/\Mx.aL N N C/\k<N/\N<=16/\w<=16/\
 ∀st',Bn st' b xb xu xc (Mx.fb A k) (Mx.fb U k) (Mx.fb C k)->st'.length=st.length->(∀m,m≠xb->m≠xu->m≠xc->st'[m]?=st[m]?)->K .ao st'
def gZ:List Str:=["self","k"]
def rK:DS:=(aB (cZ (dy az "body" (ab 0)) (ab 1) (ak k9 (aa (ai aK (dy az "body" (ab 0)) (ab 1)) af)))
 (aB (cZ (dy az "turn" (ab 0)) (ab 1) (ak k9 (aa (ai aK (dy az "turn" (ab 0)) (ab 1)) af)))
 (cZ (dy az "back_columns" (ab 0)) (ab 1) (ak k9 (aa (ai aK (dy az "back_columns" (ab 0)) (ab 1)) af)))))
theorem qA:VN gX 2 rK gZ:=by
 rintro ds st K ⟨b,xb,xu,xc,N,w,k,A,U,C,rfl,B,hA,hU,hC,hk,hN,hw,kk⟩;refine⟨rfl,?_⟩;have lA:=hA.len;have lU:=hU.len;have lC:=hC.len;have rA:=Mx.cz hA hk;have rU:=Mx.cz hU hk;have rC:=Mx.cz hC hk;have bx1:=jK B.eb B.e1;have bx2:=jK B.eb B.e2;have bx3:=jK B.eb B.e3;have n1:=B.n1;have n2:=B.n2;have n3:=B.n3;refine cB B.eb rfl (aw (ax B.e1) (de (by lia)) ?_);refine⟨_,A.getD k [],rfl,rfl,by lia,?_⟩;refine cB B.eb rfl (e8 B.e1 (by rw[VO,lA];exact fe hk) ?_);rw[gL];have g1:∀m,m≠xb->(st.set xb (.lst ((A.set k ((A.getD k []).map λ x=> -x)).map a7)))[m]?=st[m]?:=λ m hm=>VW (V6 hm);have h1:(st.set xb (.lst ((A.set k ((A.getD k []).map λ x=> -x)).map a7)))[xb]?=some (.lst ((Mx.fb A k).map a7)):=V7 (VV.mp B.e1).1;have z1:(st.set xb (.lst ((A.set k ((A.getD k []).map λ x=> -x)).map a7))).length=st.length:=Wb;generalize st.set xb (.lst ((A.set k ((A.getD k []).map λ x=> -x)).map a7))=st1 at g1 h1 z1⊢;have eb1:=(g1 b bx1).trans B.eb;have e21:=(g1 xu (V6 n1)).trans B.e2;have e31:=(g1 xc (V6 n2)).trans B.e3;refine cB eb1 rfl (aw (ax e21) (de (by lia)) ?_);refine⟨_,U.getD k [],rfl,rfl,by lia,?_⟩;refine cB eb1 rfl (e8 e21 (by rw[VO,lU];exact fe hk) ?_);rw[gL];have g2:∀m,m≠xu->(st1.set xu (.lst ((U.set k ((U.getD k []).map λ x=> -x)).map a7)))[m]?=st1[m]?:=λ m hm=>VW (V6 hm);have h2:(st1.set xu (.lst ((U.set k ((U.getD k []).map λ x=> -x)).map a7)))[xu]?=some (.lst ((Mx.fb U k).map a7)):=V7 (VV.mp e21).1;have z2:(st1.set xu (.lst ((U.set k ((U.getD k []).map λ x=> -x)).map a7))).length=st1.length:=Wb;generalize st1.set xu (.lst ((U.set k ((U.getD k []).map λ x=> -x)).map a7))=st2 at g2 h2 z2⊢;have eb2:=(g2 b bx2).trans eb1;have e32:=(g2 xc (V6 n3)).trans e31;refine cB eb2 rfl (aw (ax e32) (de (by lia)) ?_);refine⟨_,C.getD k [],rfl,rfl,by lia,?_⟩;refine cB eb2 rfl (e8 e32 (by rw[VO,lC];exact fe hk) ?_);rw[gL];refine kk _ ⟨?_,?_,?_,?_,n1,n2,n3⟩ (by rw[Wb];lia) λ m m1 m2 m3=>?_
 . rw[VW (V6 bx3)];exact eb2
 . rw[VW (V6 n2),g2 _ n1];exact h1
 . rw[VW (V6 n3)];exact h2
 . exact V7 (VV.mp e32).1
 . rw[VW (V6 m3),g2 m m2,g1 m m1]
def fZ:bw:=λ ds st K=>∃(b xb xu xc N w top p:Nat) (A U C:List (List Int)) (f:Bool),ds=[.ref b,.int top,.int p]/\Bn st b xb xu xc A U C/\Mx.aL N w A/\top<=N/\N<=16/\p<w/\w<=16/\st[0]?=some (dO f)/\
 ∀L,Mx.e7 A N top p L->K (.lst (L.map λ(k:Nat)=> .int (k:Int))) (st.set 0 (dO true))
def iR:List Str:=["self","top","place","live"]
def uG:DS:=(aB (a6 3 (bh (uc (aa (ab 1) (aa (aU dc (aa (dy az "body" (ab 0)) af)) af))) [none,some 0,some 2] (aM 0) (aE (ai qM (ai aK (ai aK (dy az "body" (ab 1)) (ab 0)) (ab 2)) (dC (.int 0)))) (ab 0)))
 (aN (CA 0 179 ⟨100,32,100,66⟩ "Bench.live_rows.<locals>.<lambda>" [none,some 0,some 2] (aU tM (aa (ai aK (ai aK (dy az "body" (ab 1)) (ab 0)) (ab 2)) af)) (ab 3))))
theorem nv{a b:Prop}(h:b):if false=true then a else b:=h
theorem NA{st:ae}(h1:st[b]?=some (Cell.ins C fs))(h2:st[0]?=some (dO f)):b≠0:=λ z=>by rw[z,h2]at h1;cases h1
theorem t_{st:ae}(h1:st[b]?=some (Cell.lst xs))(h2:st[0]?=some (dO f)):b≠0:=λ z=>by rw[z,h2]at h1;cases h1
theorem Bn.keep{st st':ae}(B:Bn st b xb xu xc A U C)(h:∀m,m=b\/m=xb\/m=xu\/m=xc->st'[m]?=st[m]?):Bn st' b xb xu xc A U C:=
 ⟨(h b (.inl rfl)).trans B.eb,(h xb (.inr (.inl rfl))).trans B.e1,(h xu (.inr (.inr (.inl rfl)))).trans B.e2,(h xc (.inr (.inr (.inr rfl)))).trans B.e3,B.n1,B.n2,B.n3⟩
theorem Bn.tab{st:ae}(B:Bn st b xb xu xc A U C)(h:st[0]?=some (dO f))(c:Cell):Bn (st.set 0 c) b xb xu xc A U C:=
 B.keep λ m hm=>VW λ z=>by
  subst z;rcases hm with rfl|rfl|rfl|rfl
  . exact NA B.eb h rfl
  . exact t_ B.e1 h rfl
  . exact t_ B.e2 h rfl
  . exact t_ B.e3 h rfl
theorem nk{k:Nat}(h:k<r.length):e_ (av r) (k:Int)=some (.int (r.getD k 0)):=by
 refine j8 ?_;unfold av;rw[Wn,V0 h,Mx.ba h];rfl
def fQ(A:List (List Int))(N top p:Nat):List Nat:=(List.range (N-top)).filterMap λ i=>if Mx.g A (top+i) p≠0 then some (top+i)else none
theorem yX{N top p k:Nat}:k∈fQ A N top p↔top<=k/\k<N/\Mx.g A k p≠0:=by
 unfold fQ;rw[YM];constructor
 . rintro⟨i,hi,e⟩;rw[XE]at hi;split at e
   . rename_i h;cases e;exact⟨by lia,by lia,h⟩
   . cases e
 . rintro⟨h1,h2,h3⟩;refine⟨k-top,XE.mpr (by lia),?_⟩;rw[show top+(k-top)=k by lia,VU h3]
theorem pw_filterMap{f:Nat->Option Nat}(h:∀i j a b,i<j->f i=some a->f j=some b->a<b):∀ {l:List Nat},l.Pairwise (· < ·)->(l.filterMap f).Pairwise (· < ·)
 | [],_=>by simp
 |x::l,hl=>by
  obtain⟨h1,h2⟩:=XF.mp hl;rw[YJ];split
  . exact pw_filterMap h h2
  . rename_i a e;refine XF.mpr ⟨λ b hb=>?_,pw_filterMap h h2⟩;obtain⟨j,hj,ej⟩:=YM.mp hb;exact h x j a b (h1 j hj) e ej
theorem pw_liveR{N top p:Nat}:(fQ A N top p).Pairwise (· < ·):=by
 unfold fQ;refine pw_filterMap (λ i j a b hij ha hb=>?_) List.pairwise_lt_range;split at ha
 . split at hb
   . cases ha;cases hb;lia
   . cases hb
 . cases ha
theorem Ap{f:Nat->Option Nat}(l:List Nat):(l.filterMap f).length<=l.length:=List.length_filterMap_le ..
theorem NM{A:List (List Int)}{N top p:Nat}{os:List (Int×Int)}(hp:os.Perm (((fQ A N top p).map λ(k:Nat)=>(((Mx.g A k p).natAbs:Nat):Int)).zip ((fQ A N top p).map λ(k:Nat)=>(k:Int))))(hs:os.Pairwise slt):
 Mx.e7 A N top p (os.map λ q=>q.2.toNat)/\os.map (λ q=>D.int q.2)=(os.map λ q=>q.2.toNat).map λ(k:Nat)=>D.int (k:Int):=by
 have hz:((fQ A N top p).map λ(k:Nat)=>(((Mx.g A k p).natAbs:Nat):Int)).zip ((fQ A N top p).map λ(k:Nat)=>(k:Int))=(fQ A N top p).map λ k=>((((Mx.g A k p).natAbs:Nat):Int),(k:Int)):=by
  exact List.zip_map' ..
 rw[hz]at hp
 have hm:∀q∈os,∃k,k∈fQ A N top p/\q=((((Mx.g A k p).natAbs:Nat):Int),(k:Int)):=λ q hq=>by
  obtain⟨k,h1,h2⟩:=V9.mp (hp.mem_iff.mp hq);exact⟨k,h1,h2.symm⟩
 refine⟨⟨λ k=>?_,?_⟩,?_⟩
 . rw[<-yX];constructor
   . intro h;obtain⟨q,hq,e⟩:=V9.mp h;obtain⟨j,h1,rfl⟩:=hm q hq;simp only[Wi]at e;rw[<-e];exact h1
   . intro h;exact V9.mpr ⟨((((Mx.g A k p).natAbs:Nat):Int),(k:Int)),hp.mem_iff.mpr (V9.mpr ⟨k,h,rfl⟩),by simp⟩
 . rw[Y3];refine hs.imp_of_mem λ{x y} hx hy h=>?_;obtain⟨j,_,rfl⟩:=hm x hx;obtain⟨k,_,rfl⟩:=hm y hy;unfold slt at h;simp only[Wi];lia
 . rw[WB];refine WU λ q hq=>?_;obtain⟨j,_,rfl⟩:=hm q hq;simp
theorem sV:VN fZ 3 uG iR:=by
 rintro ds st K ⟨b,xb,xu,xc,N,w,top,p,A,U,C,f,rfl,B,hA,ht,hN,hp,hw,h0,k⟩;refine⟨rfl,?_⟩;have lA:=hA.len;have rowA:∀i,i<N->(A.getD i []).length=w:=λ i hi=>Mx.cz hA hi;refine cB B.eb rfl (cD (ax B.e1) ?_);rw[VO,lA];refine OC ⟨by lia,by lia,by lia,by lia⟩ ⟨aI (by unfold du;simp;lia),?_⟩;have er:((N:Int)-(top:Int)).toNat=N-top:=by lia
 rw[er];refine cN (λ rest acc st'=>∃i:Nat,i<=N-top/\st'=st/\rest=(List.range (N-top-i)).map (λ j=>D.int ((top+i+j:Nat):Int))/\acc=((List.range i).filterMap λ i=>if Mx.g A (top+i) p≠0 then some (top+i)else none).map λ(k:Nat)=>D.int (k:Int)) ?_ ?_ _ _ _ ⟨0,Wg _,rfl,by unfold du;simp,by simp⟩
 . rintro acc st' ⟨i,hi,rfl,hr,rfl⟩
   have hi':i=N-top:=by
    rcases ZC i (N-top)with z|z
    . rw[show N-top-i=(N-top-i-1)+1 by lia,WS]at hr;cases hr
    . lia
   subst hi';refine⟨trivial,?_⟩;have e1:((fQ A N top p).map λ(k:Nat)=>D.int (k:Int))=((fQ A N top p).map λ(k:Nat)=>(k:Int)).map D.int:=by rw[WB];rfl
   refine⟨(fQ A N top p).map λ(k:Nat)=>(k:Int),(fQ A N top p).map λ(k:Nat)=>(((Mx.g A k p).natAbs:Nat):Int),f,Xr D.lst e1,?_,?_,by rw[VO,VO],h0,λ i n q hn hq=>?_,λ os hp' hs=>?_⟩
   . rw[VO];have:=Ap (f:=λ i=>if Mx.g A (top+i) p≠0 then some (top+i)else none) (List.range (N-top));rw[YB]at this;show(fQ A N top p).length<64;unfold fQ;lia
   . rw[Y3];exact pw_liveR.imp λ h=>by lia
   . rw[Wn]at hn hq;cases z:(fQ A N top p)[i]? with
     |none=>rw[z]at hn;cases hn
     |some j=>
      rw[z]at hn hq;cases hn;cases hq;obtain⟨j1,j2,j3⟩:=yX.mp (Wa z);have B1:=B.tab h0 (dO true);refine cB B1.eb rfl (aw (ax B1.e1) (de (by lia)) (aw rfl (nk (by rw[rowA j j2];exact hp)) (wt ⟨rfl,rfl⟩)))
   . obtain⟨h1,h2⟩:=NM hp' hs;rw[h2];exact k _ h1
 . rintro d rest acc st' ⟨i,hi,rfl,hr,rfl⟩ next
   have hlt:i<N-top:=by
    rcases ZC i (N-top)with z|z
    . exact z
    . rw[show N-top-i=0 by lia]at hr;cases hr
   rw[show N-top-i=(N-top-i-1)+1 by lia,WS,Ww,WB]at hr;obtain⟨rfl,rfl⟩:=Zd hr;refine⟨trivial,_,rfl,?_⟩;refine cB B.eb rfl (aw (ax B.e1) (de (j:=top+i+0) (by lia)) (aw rfl (nk (by rw[rowA _ (by lia)];exact hp)) ?_));have e2:List.range (i+1)=List.range i++[i]:=ZE
   have e3:((List.range (N-top-i-1)).map ((λ j=>D.int ((top+i+j:Nat):Int))∘Nat.succ))=(List.range (N-top-(i+1))).map λ j=>D.int ((top+(i+1)+j:Nat):Int):=by
    rw[show N-top-i-1=N-top-(i+1) by lia];refine WU λ j _=>?_;show D.int ((top+i+(j+1):Nat):Int)=_;rw[show top+i+(j+1)=top+(i+1)+j by lia]
   refine ne2 (λ h=>?_) λ h=>?_
   . refine(next _ _ ⟨i+1,by lia,rfl,e3,?_⟩);rw[e2,aaH,WJ];have:Mx.g A (top+i) p≠0:=h;simp[this]
   . refine(next _ _ ⟨i+1,by lia,rfl,e3,?_⟩);rw[e2,aaH,WJ];have:Mx.g A (top+i) p=0:=h;simp[this]
structure Bo(n0:Nat)(st st':ae)(b xb xu xc:Nat):Prop where
 lo:1<=n0/\n0<=b/\n0<=xb/\n0<=xu/\n0<=xc
 fr:∀m,m<n0->m≠0->st'[m]?=st[m]?
 tb:∃f,st'[0]?=some (dO f)
def kn:bw:=λ ds st K=>∃(n0 b xb xu xc N w top p e u v z:Nat) (A0 A U C:List (List Int)) (ld:Nat->Nat),ds=[.ref b,.int top,.int p]/\Bn st b xb xu xc A U C/\Bo n0 st st b xb xu xc/\Mx.gQ A0 N w ⟨A,U,C⟩ top p ld e u v/\N<=16/\w<=16/\p<w/\z<=60000000/\(∀c,Mx.di N top p ⟨A,U,C⟩ c->Mx.Sm c N (2^z))/\
 (∀st',Bn st' b xb xu xc A U C->Bo n0 st st' b xb xu xc->Mx.e7 A N top p []->K (.bl false) st')/\
 ∀st' xb' xu' xc' (c:Mx.B3) (r:Nat),Bn st' b xb' xu' xc' (Mx.setB c p top r).A (Mx.setB c p top r).U (Mx.setB c p top r).C->Bo n0 st st' b xb' xu' xc'->Mx.di N top p ⟨A,U,C⟩ c->Mx.e7 c.A N top p [r]->K (.bl true) st'
def kC:List Str:=["self","top","place","live","great","small"]
def ya:DS:=(aB (a6 3 (iW az "live_rows" fZ (ab 0) (aa (ab 1) (aa (ab 2) af))))
 (aB (tH (aE (ai lh (aU dc (aa (ab 3) af)) (dC (.int 1)))) (aB (a6 4 (ai aK (ab 3) (g9 e6 (dC (.int 1)))))
 (aB (a6 5 (ai aK (ab 3) (g9 e6 (dC (.int 2)))))
 (aB (jI (iW az "take" jG (ab 0) (aa (ab 4) (aa (ak ip (aa (ai aK (ai aK (dy az "body" (ab 0)) (ab 4)) (ab 2)) (aa (ai aK (ai aK (dy az "body" (ab 0)) (ab 5)) (ab 2)) af))) (aa (ab 5) af)))))
 (a6 3 (iW az "live_rows" fZ (ab 0) (aa (ab 1) (aa (ab 2) af))))))))
 (aB (cf (aE (ai dE (aU dc (aa (ab 3) af)) (dC (.int 0)))) (aN (dC (.bl false))) bO)
 (aB (jI (iW az "exchange" jn (ab 0) (aa (ab 1) (aa (ai aK (ab 3) (dC (.int 0))) af))))
 (aB (cf (aE (ai oU (ai aK (ai aK (dy az "body" (ab 0)) (ab 1)) (ab 2)) (dC (.int 0)))) (jI (iW az "change_sign" gX (ab 0) (aa (ab 1) af))) bO)
 (aN (dC (.bl true))))))))
theorem Bo.PB{st st':ae}(h:Bo n0 st st' b xb xu xc):Bo n0 st (st'.set 0 (dO true)) b xb xu xc:=
 ⟨h.lo,λ m hm h0=>by rw[VW (V6 h0)];exact h.fr m hm h0,true,by
  obtain⟨f,e⟩:=h.tb;exact V7 (VV.mp e).1⟩
theorem Bo.low{st st1 st2:ae}(h:Bo n0 st st1 b xb xu xc)(f:∀m,m≠xb->m≠xu->m≠xc->st2[m]?=st1[m]?):Bo n0 st st2 b xb xu xc:=by
 obtain⟨l1,l2,l3,l4,l5⟩:=h.lo;refine⟨h.lo,λ m hm h0=>?_,?_⟩
 . rw[f m (by lia) (by lia) (by lia)];exact h.fr m hm h0
 . obtain⟨z,e⟩:=h.tb;exact⟨z,by rw[f 0 (by lia) (by lia) (by lia)];exact e⟩
theorem CT{n j:Nat}(h:1<=j)(h2:j<=n):j4 n (-(j:Int))=some (n-j):=by
 unfold j4;rw[VT (by lia),VU (by lia)];congr 1;lia
theorem RY{j k:Nat}:e_ ((L++[j,k]).map λ(k:Nat)=>D.int (k:Int)) (-1)=some (.int (k:Int)):=by
 unfold e_;have:=CT (n:=((L++[j,k]).map λ(k:Nat)=>D.int (k:Int)).length) (j:=1) (by decide) (by simp);rw[show(-((1:Nat):Int))= -1 from rfl]at this;rw[this];simp
theorem RO{j k:Nat}:e_ ((L++[j,k]).map λ(k:Nat)=>D.int (k:Int)) (-2)=some (.int (j:Int)):=by
 unfold e_;have:=CT (n:=((L++[j,k]).map λ(k:Nat)=>D.int (k:Int)).length) (j:=2) (by decide) (by simp);rw[show(-((2:Nat):Int))= -2 from rfl]at this;rw[this];simp
theorem KJ:∀ {L:List Nat},1<L.length->∃M j k,L=M++[j,k]:=λ{L} h=>by
 refine⟨L.take (L.length-2),L[L.length-2]'(by lia),L[L.length-1]'(by lia),?_⟩;have e1:L=L.take (L.length-2)++L.drop (L.length-2):=(YF _ _).symm
 have e2:L.drop (L.length-2)=[L[L.length-2]'(by lia),L[L.length-1]'(by lia)]:=by
  rw[W6 (by lia),W6 (by lia),W8 (by lia)];congr 2;congr 1;lia
 rw[<-e2];exact e1
theorem xi:VN kn 3 ya kC:=by
 rintro ds st K ⟨n0,b,xb,xu,xc,N,w,top,p,e,u,v,z,A0,A,U,C,ld,rfl,B,O,S,hN,hw,hp,hzz,hz,kf,kt⟩;refine⟨rfl,?_⟩;have hle:=S.le;obtain⟨f,h0⟩:=O.tb;refine jy B.eb rfl ?_;refine⟨b,xb,xu,xc,N,w,top,p,A,U,C,f,rfl,B,S.tn.isA,hle,hN,hp,hw,h0,λ L hL=>?_⟩;have B1:=B.tab h0 (dO true);have O1:=O.PB;try dsimp only[af]
 refine fC (λ σ st'=>∃(L:List Nat) (v4 v5:Option D) (c:Mx.B3) (gr:Nat),σ=[some (.ref b),some (.int top),some (.int p),some (.lst (L.map λ(k:Nat)=> .int (k:Int))),v4,v5]/\L.length<=1/\Bn st' b xb xu xc c.A c.U c.C/\Bo n0 st st' b xb xu xc/\Mx.di N top p ⟨A,U,C⟩ c/\Mx.Gb A0 N w top p (2^(4*e)) (N*2^(4*e)) gr ⟨A,U,C⟩ c/\Mx.e7 c.A N top p L) (λ nx hnx=>?_) ?_
 . refine⟨λ m σ st'=>∃(L:List Nat) (v4 v5:Option D) (c:Mx.B3) (gr:Nat),σ=[some (.ref b),some (.int top),some (.int p),some (.lst (L.map λ(k:Nat)=> .int (k:Int))),v4,v5]/\Bn st' b xb xu xc c.A c.U c.C/\Bo n0 st st' b xb xu xc/\Mx.di N top p ⟨A,U,C⟩ c/\Mx.Gb A0 N w top p (2^(4*e)) (N*2^(4*e)) gr ⟨A,U,C⟩ c/\Mx.e7 c.A N top p L/\m=Mx.mu c.A N p,⟨_,L,none,none,⟨A,U,C⟩,_,rfl,B1,O1,.refl _,Mx.Gb.start S,hL,rfl⟩,?_⟩;rintro m σ st1 ⟨L,v4,v5,c,gr,rfl,B,O,hR,hG,hL,rfl⟩;refine cD rfl ?_;rw[VO];refine xN (λ h=>b_ ?_) λ h=>nv (hnx _ _ ⟨L,v4,v5,c,gr,rfl,by lia,B,O,hR,hG,hL⟩);obtain⟨M,j,k,rfl⟩:=KJ (L:=L) (by lia);refine eH (aw rfl RY (eH (aw rfl RO ?_)));obtain⟨G2,hlt,hoth,k1,k2,j1,j2,hjk,hj0,_⟩:=hG.step hL;have T:=hG.tn;have lA:=T.isA.len;have hsm:=hz c hR;refine jy B.eb rfl (cB B.eb rfl (aw (ax B.e1) (de (by lia)) (aw rfl (nk (by rw[Mx.cz T.isA k2];exact hp)) (cB B.eb rfl (aw (ax B.e1) (de (by lia)) (aw rfl (nk (by rw[Mx.cz T.isA j2];exact hp)) ?_))))));refine⟨_,_,rfl,hj0,?_⟩;have hq:(Mx.qn (Mx.g c.A k p) (Mx.g c.A j p)).natAbs<=2^(z+1):=VX (Mx.SJ hj0) (Mx.Dn (hsm k p k2).1 (hsm j p j2).1)
   have hm:∀ {x:Int},x.natAbs<=2^z->IntMulOk (Mx.qn (Mx.g c.A k p) (Mx.g c.A j p)) x/\IntMulOk (-(Mx.qn (Mx.g c.A k p) (Mx.g c.A j p))) x:=λ{x} h=>
    ⟨jD hq h (by lia),jD (by rw[Xi];exact hq) h (by lia)⟩
   have mg:∀ {X:List (List Int)} {i:Nat} {x:Int},x∈X.getD i []->∃q,x=Mx.g X i q:=λ{X i x} hx=>by
    obtain⟨c,hc,rfl⟩:=Wt.mp hx;exact⟨c,by unfold Mx.g;rw[Mx.ba hc]⟩
   refine⟨b,xb,xu,xc,N,w,k,j,c.A,c.U,c.C,_,rfl,B,T.isA,T.eY,T.fA,k2,j2,hN,hw,λ x hx=>(by obtain⟨q,rfl⟩:=mg hx;exact(hm (hsm j q j2).1).2),λ x hx=>(by obtain⟨q,rfl⟩:=mg hx;exact(hm (hsm j q j2).2.1).2),λ x hx=>(by obtain⟨q,rfl⟩:=mg hx;exact(hm (hsm k q k2).2.2).1),λ st2 B2 l2 f2=>?_⟩;have O2:=O.low f2;obtain⟨f',h0'⟩:=O2.tb;refine jy B2.eb rfl ?_;refine⟨b,xb,xu,xc,N,w,top,p,_,_,_,f',rfl,B2,G2.tn.isA,hle,hN,hp,hw,h0',λ L2 hL2=>?_⟩;refine⟨_,?_,L2,_,_,Mx.mr c p k j,_,rfl,B2.tab h0' (dO true),O2.PB,hR.tail ⟨M,k,j,hL,rfl⟩,G2,hL2,rfl⟩;unfold Mx.mu;refine Mx.Mt (k:=k) hlt k2 λ i hi=>?_;by_cases h:i=k
   . rw[h];exact W2 hlt
   . rw[hoth i h];exact VQ _
 . rintro σ st1 ⟨L,v4,v5,c,gr,rfl,hl,B,O,hR,hG,hL⟩;refine cD rfl ?_;rw[VO];match L,hl,hL with
   | [],_,hL=>
     refine eq2 (λ h=>b_ ?_) λ h=>absurd rfl h
     have e0:c=⟨A,U,C⟩:=by
      rcases hG.Td with z|⟨j,h1,h2,h3⟩
      . exact z
      . exact absurd ((hL.mem j).mpr ⟨h1,h2,h3⟩) (by simp)
     subst e0;exact kf st1 B O hL
   | [r],_,hL=>
     refine eq2 (λ h=>absurd h (by simp)) λ h=>nv ?_;obtain⟨s1,hr1,hr2⟩:=hG.set (hG.low hN) hL;have ht:top<N:=by lia
     have T:=hG.tn;refine jy B.eb rfl (aw rfl (show e_ ([r].map λ(k:Nat)=>D.int (k:Int)) 0=some (.int (r:Int))from rfl) ?_);refine⟨b,xb,xu,xc,N,w,top,r,c.A,c.U,c.C,rfl,B,T.isA,T.eY,T.fA,ht,hr2,λ st2 B2 l2 f2=>?_⟩;obtain⟨l1,l2',l3,l4,l5⟩:=O.lo
     have hst:n0<=st1.length:=by
      have:=(VV.mp B.eb).1;lia
     have O2:Bo n0 st st2 b st1.length (st1.length+1) (st1.length+2):=by
      refine⟨⟨l1,l2',by lia,by lia,by lia⟩,λ m hm h0=>?_,?_⟩
      . rw[f2 m (by lia) (by lia)];exact O.fr m hm h0
      . obtain⟨z,e⟩:=O.tb;exact⟨z,by rw[f2 0 (by lia) (by lia)];exact e⟩
     have T1:=T.MC ht hr2;refine cB B2.eb rfl (aw (ax B2.e1) (de (by have:=T1.isA.len;lia)) (aw rfl (nk (by rw[Mx.cz T1.isA ht];exact hp)) ?_));refine TQ (λ h=>b_ ?_) λ h=>nv ?_
     . have es:Mx.setB c p top r=⟨Mx.fb (Mx.a_ c.A top r) top,Mx.fb (Mx.a_ c.U top r) top,Mx.fb (Mx.a_ c.C top r) top⟩:=VU h;refine jy B2.eb rfl ?_;refine⟨b,_,_,_,N,w,top,_,_,_,rfl,B2,T1.isA,T1.eY,T1.fA,ht,hN,hw,λ st3 B3 l3 f3=>?_⟩;exact kt st3 _ _ _ c r (by rw[es];exact B3) (O2.low f3) hR hL
     . have es:Mx.setB c p top r=⟨Mx.a_ c.A top r,Mx.a_ c.U top r,Mx.a_ c.C top r⟩:=VT (λ z=>by unfold Mx.g at z;lia);exact kt st2 _ _ _ c r (by rw[es];exact B2) O2 hR hL
def gT:bw:=λ ds st K=>∃(b xb xu xc N w top p e u v z:Nat) (A0 A U C:List (List Int)),ds=[.ref b,.int top,.int p]/\Bn st b xb xu xc A U C/\Mx.Tn A0 A U C N w/\N<=16/\w<=16/\p<w/\top<N/\0<Mx.g A top p/\(∀q,q<p->Mx.g A top q=0)/\
 (∀q,(Mx.g A top q).natAbs<=2^e/\(Mx.g U top q).natAbs<=2^e/\(Mx.g C top q).natAbs<=2^e)/\(∀i q,i<top->(Mx.g A i q).natAbs<=2^u/\(Mx.g U i q).natAbs<=2^u/\(Mx.g C i q).natAbs<=2^v)/\z<=60000000/\(∀k,k<=top->Mx.Sm (Mx.fg p top k ⟨A,U,C⟩) N (2^z))/\
 ∀st',Bn st' b xb xu xc (Mx.fg p top top ⟨A,U,C⟩).A (Mx.fg p top top ⟨A,U,C⟩).U (Mx.fg p top top ⟨A,U,C⟩).C->(∀m,m≠xb->m≠xu->m≠xc->st'[m]?=st[m]?)->K .ao st'
def gW:List Str:=["self","top","place","k"]
def rJ:DS:=(jj (cG (aa (ab 1) af)) (aM 3) (jI (iW az "take" jG (ab 0) (aa (ab 3) (aa (ai ph (ai aK (ai aK (dy az "body" (ab 0)) (ab 3)) (ab 2)) (ai aK (ai aK (dy az "body" (ab 0)) (ab 1)) (ab 2))) (aa (ab 1) af))))))
theorem FE{i:Nat}(hx:x∈X.getD i []):∃q,x=Mx.g X i q:=by
 obtain⟨c,hc,rfl⟩:=Wt.mp hx;exact⟨c,by unfold Mx.g;rw[Mx.ba hc]⟩
theorem qC:VN gT 3 rJ gW:=by
 rintro ds st K ⟨b,xb,xu,xc,N,w,top,p,e,u,v,z,A0,A,U,C,rfl,B,T,hN,hw,hp,ht,htp,hz,hlo,hhi,hzz,hsm,kk⟩;refine⟨rfl,?_⟩;refine dW ⟨by lia,by lia⟩ ?_;rw[Wi];refine oh top (λ k σ st'=>∃v3:Option D,σ=[some (.ref b),some (.int top),some (.int p),v3]/\Bn st' b xb xu xc (Mx.fg p top k ⟨A,U,C⟩).A (Mx.fg p top k ⟨A,U,C⟩).U (Mx.fg p top k ⟨A,U,C⟩).C/\(∀m,m≠xb->m≠xu->m≠xc->st'[m]?=st[m]?)/\Mx.kL A0 N w top p e u v ⟨A,U,C⟩ k (Mx.fg p top k ⟨A,U,C⟩)) ?_ ?_ ⟨none,rfl,B,λ _ _ _ _=>rfl,Mx.kL.start T λ q=>(hlo q).2.2⟩
 . rintro σ st' ⟨v3,rfl,B',f,I⟩;exact kk st' B' f
 . rintro k σ st' rest hk ⟨v3,rfl,B',f,I⟩ next
   refine⟨_,rfl,?_⟩;have hs:=I.step hk ht hp htp hz (λ q=>⟨(hlo q).1,(hlo q).2.1⟩) hhi;have hs2:=hsm k (W2 hk);generalize hc:Mx.fg p top k ⟨A,U,C⟩=c at*;have lA:=I.tn.isA.len;have kN:k<N:=by lia
   have gA:∀i q,k<=i->Mx.g c.A i q=Mx.g A i q:=λ i q hi=>by unfold Mx.g;rw[(I.rA i hi).1]
   have hq:((Mx.g c.A k p).fdiv (Mx.g c.A top p)).natAbs<=2^z:=VX (Mx.Bs _ (by rw[gA top p (by lia)];exact htp)) (hs2 k p kN).1;have htp':Mx.g c.A top p≠0:=by rw[gA top p (by lia)];lia
   refine jy B'.eb rfl (cB B'.eb rfl (aw (ax B'.e1) (de (by lia)) (aw rfl (nk (by rw[Mx.cz I.tn.isA kN];exact hp)) (cB B'.eb rfl (aw (ax B'.e1) (de (by lia)) (aw rfl (nk (by rw[Mx.cz I.tn.isA ht];exact hp)) (Cc htp' ?_)))))));refine⟨b,xb,xu,xc,N,w,k,top,c.A,c.U,c.C,_,rfl,B',I.tn.isA,I.tn.eY,I.tn.fA,kN,ht,hN,hw,λ x hx=>?_,λ x hx=>?_,λ x hx=>?_,λ st2 B2 l2 f2=>?_⟩
   . obtain⟨q,rfl⟩:=FE hx;exact jD (by rw[Xi];exact hq) (hs2 top q ht).1 (by lia)
   . obtain⟨q,rfl⟩:=FE hx;exact jD (by rw[Xi];exact hq) (hs2 top q ht).2.1 (by lia)
   . obtain⟨q,rfl⟩:=FE hx;exact jD hq (hs2 k q kN).2.2 (by lia)
   . have el:Mx.fg p top (k+1) ⟨A,U,C⟩=⟨Mx.aQ c.A k ((Mx.g c.A k p).fdiv (Mx.g c.A top p)) top,Mx.aQ c.U k ((Mx.g c.A k p).fdiv (Mx.g c.A top p)) top,Mx.aQ c.C top (-((Mx.g c.A k p).fdiv (Mx.g c.A top p))) k⟩:=by rw[<-hc];rfl
     refine next _ _ ⟨_,rfl,?_,λ m h1 h2 h3=>(f2 m h1 h2 h3).trans (f m h1 h2 h3),?_⟩
     . rw[el];exact B2
     . rw[el];exact hs
structure Bk(st st':ae):Prop where
 le:st.length<=st'.length
 fr:∀m,m<st.length->m≠0->st'[m]?=st[m]?
 tb:∃f,st'[0]?=some (dO f)
def jU:bw:=λ ds st K=>∃(d:D) (N w e0 z:Nat) (A:List (List Int)) (f:Bool),ds=[d]/\dv st d A/\Mx.aL N w A/\1<=N/\N<=16/\w<=16/\Mx.fv A N 0 (2^e0)/\z<=60000000/\(∀p t c,p<w->Mx.g6 A N p t c->Mx.xl N p t z c)/\st[0]?=some (dO f)/\
 ∀st' (top:Nat) (c:Mx.B3),Mx.g6 A N w top c->Bk st st'->K (.tup [aq (c.A.take top),aq c.U,aq (Mx.mh c.C N)]) st'
def xh:List Str:=["rows","bench","top","place","back"]
def Gy:DS:=(aB (a6 1 (Fx az jr (aa (ab 0) af)))
 (aB (a6 2 (dC (.int 0)))
 (aB (jj (cG (aa (aU dc (aa (ai aK (ab 0) (dC (.int 0))) af)) af)) (aM 3) (cf (aE (iW az "gather" kn (ab 1) (aa (ab 2) (aa (ab 3) af)))) (aB (jI (iW az "lower_above" gT (ab 1) (aa (ab 2) (aa (ab 3) af))))
 (GH 2 (Dl (λ i j=>i+j)) (dC (.int 1)))) bO))
 (aB (a6 4 (ak lI (aa (dy az "back_columns" (ab 1)) (aa (aU dc (aa (ab 0) af)) af))))
 (aN (bZ (aa (ak ia (aa (cH (dy az "body" (ab 1)) cp (cY (ab 2))) af)) (aa (ak ia (aa (dy az "turn" (ab 1)) af)) (aa (ab 4) af)))))))))
theorem zg{st st':ae}(h0:st[0]?=some (dO f))(fr:∀m,m<st.length->m≠0->st'[m]?=st[m]?)(h:items? st d=some xs):items? st' d=some xs:=by
 cases d with
 |ref n=>
  have e:=nW h;have n0:n≠0:=t_ e h0;rw[ax ((fr n (VV.mp e).1 n0).trans e)]
 |_=>exact h
theorem y8{st st':ae}(h0:st[0]?=some (dO f))(fr:∀m,m<st.length->m≠0->st'[m]?=st[m]?):∀ {ds:List D} {A:List (List Int)},aZ st ds A->aZ st' ds A
 | [],[],_=>trivial
 |_::_,_::_,h=>⟨zg h0 fr h.1,y8 h0 fr h.2⟩
theorem xO{st st':ae}(h0:st[0]?=some (dO f))(fr:∀m,m<st.length->m≠0->st'[m]?=st[m]?)(h:dv st d A):dv st' d A:=by
 obtain⟨ds,h1,h2⟩:=h.ex;exact⟨ds,zg h0 fr h1,y8 h0 fr h2⟩
theorem D5:VN jU 1 Gy xh:=by
 rintro ds st K ⟨d,N,w,e0,z,A,f,rfl,hd,hA,hN1,hN,hw,hlo,hzz,hsz,h0,kk⟩;refine⟨rfl,?_⟩;have lA:=hA.len;have h0l:0<st.length:=(VV.mp h0).1;have hd1:dv (st++[Cell.ins az []]) d A:=xO h0 (λ m hm _=>VZ hm) hd;refine⟨st.length,N,d,A,rfl,by simp,hd1,lA,hN,λ st1 B1 l1 f1=>⟨rfl,?_⟩⟩;have hl1:(st++[Cell.ins az []]).length=st.length+1:=by simp
 have fr1:∀m,m<st.length->st1[m]?=st[m]?:=λ m hm=>by rw[f1 m (by lia) (by lia),VZ hm]
 have O1:Bo st.length st st1 st.length (st.length+1) (st.length+1+1) (st.length+1+2):=⟨⟨h0l,by lia,by lia,by lia,by lia⟩,λ m hm _=>fr1 m hm,f,(fr1 0 h0l).trans h0⟩
 rw[hl1]at B1;have hdk:∀ {st':ae},(∀m,m<st.length->m≠0->st'[m]?=st[m]?)->dv st' d A:=λ h=>xO h0 h hd;obtain⟨da,hda,hra⟩:=(hdk O1.fr).ex;have hdl:=hra.len
 have hrow0:∃d0,da[0]?=some d0/\items? st1 d0=some (av (A.getD 0 [])):=by
  have hi:0<da.length:=by lia
  obtain⟨r,e1,e2⟩:=aZ.get hra (V0 hi);refine⟨da[0],V0 hi,?_⟩;have:A.getD 0 []=r:=by rw[V1,e1];rfl
  rw[this];exact e2
 obtain⟨d0,hd0,hi0⟩:=hrow0;have er:(av (A.getD 0 [])).length=w:=by unfold av;rw[VO];exact Mx.cz hA (by lia)
 try dsimp only[af]
 refine fC (A:=a6 2 _) (λ σ st'=>σ=[some d,some (.ref st.length),some (.int 0),none,none]/\st'=st1) (λ nx h=>h _ _ ⟨rfl,rfl⟩) ?_;rintro _ _ ⟨rfl,rfl⟩;refine fC (A:=jj _ _ _) (λ σ st'=>∃(top xb xu xc:Nat) (v3:Option D) (c:Mx.B3),σ=[some d,some (.ref st.length),some (.int top),v3,none]/\Bn st' st.length xb xu xc c.A c.U c.C/\Bo st.length st st' st.length xb xu xc/\Mx.g6 A N w top c) (λ nx hnx=>?_) ?_
 . refine aw hda (show e_ da 0=some d0 from j8 (j:=0) hd0) (cD hi0 ?_);rw[er];refine dW ⟨by lia,by lia⟩ ?_;rw[Wi];refine oh w (λ p σ st'=>∃(top xb xu xc:Nat) (v3:Option D) (c:Mx.B3),σ=[some d,some (.ref st.length),some (.int top),v3,none]/\Bn st' st.length xb xu xc c.A c.U c.C/\Bo st.length st st' st.length xb xu xc/\Mx.g6 A N p top c) ?_ ?_ ⟨0,_,_,_,none,⟨A,Mx.units N,Mx.units N⟩,rfl,B1,O1,.start⟩
   . rintro σ st' ⟨top,xb,xu,xc,v3,c,rfl,B,O,hC⟩;exact hnx _ _ ⟨top,xb,xu,xc,v3,c,rfl,B,O,hC⟩
   . rintro p σ st' rest hp ⟨top,xb,xu,xc,v3,c,rfl,B,O,hC⟩ next
     refine⟨_,rfl,?_⟩;obtain⟨ld,S⟩:=hC.str hA hlo hN (W2 hp);have hle:=S.le;have hroom:=hsz p top c hp hC;refine jy B.eb rfl ?_;refine⟨st.length,st.length,xb,xu,xc,N,w,top,p,_,_,_,z,A,c.A,c.U,c.C,ld,rfl,B,⟨O.lo,λ _ _ _=>rfl,O.tb⟩,S,hN,hw,hp,hzz,hroom.ga,λ st2 B2 O2 hL=>?_,λ st2 xb2 xu2 xc2 c2 r B2 O2 hR hL=>?_⟩
     . exact nv (next _ _ ⟨top,xb,xu,xc,_,c,rfl,B2,⟨O2.lo,λ m h1 h2=>(O2.fr m h1 h2).trans (O.fr m h1 h2),O2.tb⟩,.next hC (.none hL)⟩)
     . refine b_ ?_;obtain⟨s1,ht,_⟩:=S.Ld hN hp hR hL;have O2':Bo st.length st st2 st.length xb2 xu2 xc2:=⟨O2.lo,λ m h1 h2=>(O2.fr m h1 h2).trans (O.fr m h1 h2),O2.tb⟩
       refine jy B2.eb rfl ?_;refine⟨st.length,xb2,xu2,xc2,N,w,top,p,4*Mx.Ey e0 top+4,Mx.Uy e0 top,Mx.Cx e0 top,z,A,_,_,_,rfl,B2,s1.tn,hN,hw,hp,ht,s1.tp,λ q hq=>s1.zs top q (VQ _) ht hq,λ q=>⟨s1.lo.1 top q (VQ _) ht,s1.lo.2.1 top q (VQ _) ht,s1.lo.2.2 top q (VQ _) ht⟩,λ i q hi=>?_,hzz,λ k hk=>hroom.lo c2 r k hR hL hk,λ st3 B3 f3=>?_⟩
       . obtain⟨a1,a2,a3⟩:=s1.MG hi q;rw[a1,a2,a3];exact S.hi i q hi
       . exact next _ _ ⟨top+1,xb2,xu2,xc2,_,_,rfl,B3,O2'.low f3,.next hC (.one hR hL)⟩
 . rintro σ st2 ⟨top,xb,xu,xc,v3,c,rfl,B,O,hC⟩;obtain⟨ld,S⟩:=hC.str hA hlo hN (VQ _);have hle:=S.le;have T:=S.tn;have lN:=T.isA.len;refine cB B.eb rfl ?_;obtain⟨da2,hda2,hra2⟩:=(hdk O.fr).ex;refine cD hda2 ?_;rw[hra2.len,lA];refine⟨_,c.C,N,rfl,⟨_,ax B.e3,aZ.lst⟩,T.fA.cM,by rw[T.fA.len];lia,by lia,?_⟩;refine cB B.eb rfl (zt B.e1 ?_);rw[i7,<-XD];refine⟨_,c.A.take top,rfl,⟨_,rfl,aZ.lst⟩,by rw[Wl];lia,?_⟩;refine cB B.eb rfl ?_;refine⟨_,c.U,rfl,⟨_,ax B.e2,aZ.lst⟩,by rw[T.eY.len];lia,?_⟩;refine⟨by show 3<=sizeLine;decide,?_⟩;refine kk st2 top c hC ⟨?_,O.fr,O.tb⟩;have:=(VV.mp B.eb).1;lia
theorem drop_cons{F:List (List Int)}{i:Nat}{d:D}{rest:List D}(hr:d::rest=(F.map aR).drop i):i<F.length/\d=aR (F.getD i [])/\rest=(F.map aR).drop (i+1):=by
 have hi:i<F.length:=by
  rcases ZC i F.length with h|h
  . exact h
  . rw[W8 (by rw[VO];exact h)]at hr;cases hr
 rw[W6 (by rw[VO];exact hi),aag]at hr;obtain⟨h1,h2⟩:=Zd hr;exact⟨hi,by rw[Mx.ba hi];exact h1,h2⟩
theorem drop_nil{F:List (List Int)}{i:Nat}(hr: []=(F.map aR).drop i):F.length<=i:=by
 have:=Xr List.length hr;rw[WV,VO,Yw]at this;lia
theorem BE{i:Nat}{st:ae}{K:DK}(h:σ[i]?=some (some d))(k:K d st):ab i σ st K:=by
 unfold ab;simp only[h];exact k
theorem kj{t i c:Nat}(h:i<t):Mx.g (A.take t) i c=Mx.g A i c:=by
 have e:(A.take t).getD i []=A.getD i []:=by rw[V1,V1,List.getElem?_take,VU h]
 unfold Mx.g;rw[e]
structure Fo(A:List (List Int))(N w:Nat)(F:List (List Int))(m:Nat):Prop where
 is:Mx.aL m w F
 st:Mx.aY F m w (Mx.eQ F)
 red:Mx.fW F m (Mx.eQ F)
 same:Mx.kH A N F m w
 m8:m<=8
 le:m<=N
theorem vI{N w top e u v:Nat}{ld:Nat->Nat}(H2:Mx.gQ A N w c top w ld e u v):Mx.aL top w (c.A.take top)/\Mx.aY (c.A.take top) top w (Mx.eQ (c.A.take top))/\Mx.fW (c.A.take top) top (Mx.eQ (c.A.take top))/\Mx.kH A N (c.A.take top) top w:=by
 have H:=H2.VE
 have s:Mx.aY (c.A.take top) top w ld:=⟨λ i hi=>by
  obtain⟨h1,h2,h3⟩:=H.lead i hi;exact⟨h1,by rw[kj hi];exact h2,λ c hc=>by rw[kj hi];exact h3 c hc⟩,H.mono⟩
 have le:=H.le;refine⟨⟨by rw[Wl,H.tn.isA.len];lia,λ r hr=>H.tn.isA.cM r (W7 hr)⟩,s.Uc,λ i j hij hj=>?_,⟨λ k hk=>?_,λ k hk=>?_⟩⟩
 . rw[s.eQ hj,kj (Yg hij hj),kj hj];exact H.red i j hij hj
 . obtain⟨z,hz⟩:=H.out k hk;exact⟨z,λ q hq=>(hz q hq).trans (Mx.aG λ i hi=>by rw[kj hi])⟩
 . exact(H.in k hk).eq λ q _=>kj hk
theorem nQ(hA:Mx.aL N w A)(h:∀r∈A,∀x∈r,x.natAbs<=M):∀i c,i<N->c<w->(Mx.g A i c).natAbs<=M:=λ i c hi hc=>by
 have lA:=hA.len;have lr:=hA.row hi;unfold Mx.g;exact h _ (by rw[Mx.ba (by lia)];exact XY _) _ (getD_mem (by lia))
theorem mR(hA:Mx.aL N w A)(h:∀i c,i<N->c<w->(Mx.g A i c).natAbs<=M):Mx.fv A N 0 M:=λ i c _ hi=>by
 by_cases hc:c<w
 . exact h i c hi hc
 . have lr:=hA.row hi;unfold Mx.g;rw[Mx.ko (by lia)];exact Wg _
def pe:bw:=λ ds st K=>∃(d:D) (A:List (List Int)) (N w e0:Nat) (f:Bool),ds=[.int w,d]/\dv st d A/\Mx.aL N w A/\N<=8/\w<=8/\Mx.fv A N 0 (2^e0)/\e0<=200/\st[0]?=some (dO f)/\∀st' F m,Bk st st'->Fo A N w F m->K (.tup [.int w,aq F]) st'
def EK:List Str:=["wide","rows"]
def OM:DS:=(aN (bZ (aa (ab 0) (aa (BR (aE (ai lh (aU dc (aa (ab 1) af)) (dC (.int 0)))) (ai aK (ak jU (aa (ab 1) af)) (dC (.int 0))) (bZ af)) af))))
theorem O8(h:Mx.fv A N 0 (2^e0))(l:e0<=e1):Mx.fv A N 0 (2^e1):=λ i c h1 h2=>VX (h i c h1 h2) (Wc (by decide) l)
theorem Pu:Fo A 0 w [] 0:=
 ⟨⟨rfl,λ r hr=>by cases hr⟩,⟨λ i hi=>absurd hi (Wz _),λ i j _ hj=>absurd hj (Wz _)⟩,λ i j _ hj=>absurd hj (Wz _),⟨λ k hk=>absurd hk (Wz _),λ k hk=>absurd hk (Wz _)⟩,Wg _,Wg _⟩
theorem Ki:VN pe 2 OM EK:=by
 rintro ds st K ⟨d,A,N,w,e0,f,rfl,hd,hA,n8,w8,hlo,he0,h0,k⟩;refine⟨rfl,?_⟩;have lA:=hA.len;obtain⟨da,hda,ra⟩:=hd.ex;have lda:da.length=N:=by rw[ra.len];exact lA
 have hlo:=O8 hlo he0;refine cD hda (xN (λ h=>b_ ?_) λ h=>?_)
 . refine⟨d,N,w,200,60000000,A,f,rfl,hd,hA,by lia,by lia,by lia,hlo,by decide,λ p t c hp hC=>hC.CW hA hlo n8 hp,h0,λ st1 top c hC B=>aw rfl rfl ⟨VP rfl,?_⟩⟩;obtain⟨ld,H⟩:=hC.str hA hlo (by lia) (VQ _);obtain⟨h1,h2,h3,h4⟩:=vI H;have le:=H.le;exact k st1 _ _ B ⟨h1,h2,h3,h4,by lia,le⟩
 . have n0:N=0:=by lia
   subst n0;exact⟨Wg _,VP rfl,k st [] 0 ⟨VQ _,λ _ _ _=>rfl,f,h0⟩ Pu⟩
abbrev dZ(w:Nat)(F:List (List Int)):D:= .tup [.int (w:Int),aq F]
structure Tv(F G:List (List Int))(m n w:Nat):Prop where
 iF:Mx.aL m w F
 iG:Mx.aL n w G
 mn:m+n<=8
 w1:1<=w
 w8:w<=8
 bF:Bg F 200
 bG:Bg G 200
def qv:bw:=λ ds st K=>∃(F G:List (List Int)) (m n w:Nat) (f:Bool),ds=[dZ w F,dZ w G]/\Tv F G m n w/\st[0]?=some (dO f)/\∀st' H k,Bk st st'->Fo (F++G) (m+n) w H k->K (dZ w H) st'
def wW:List Str:=["one","other"]
def Gk:DS:=(aN (ak pe (aa (ai aK (ab 0) (dC (.int 0))) (aa (ai cn (ak ia (aa (ai aK (ab 0) (dC (.int 1))) af)) (ak ia (aa (ai aK (ab 1) (dC (.int 1))) af))) af))))
theorem E6(hF:Mx.aL m w F)(hG:Mx.aL n w G):Mx.aL (m+n) w (F++G):=⟨by rw[V3,hF.len,hG.len],λ r hr=>by
 rcases Wf.mp hr with h|h
 . exact hF.cM r h
 . exact hG.cM r h⟩
theorem Tv.bA(h:Tv F G m n w):Bg (F++G) 200:=λ r hr=>(Wf.mp hr).elim (h.bF r) (h.bG r)
theorem D3:VN qv 2 Gk wW:=by
 rintro ds st K ⟨F,G,m,n,w,f,rfl,T,h0,k⟩;have mn:=T.mn;have lF:=T.iF.len;have lG:=T.iG.len;have hA:=E6 T.iF T.iG;refine⟨rfl,aw rfl rfl (aw rfl rfl ⟨aq F,F,rfl,dX,by lia,aw rfl rfl ⟨aq G,G,rfl,dX,by lia,?_⟩⟩)⟩;refine jz (aI (by rw[VO,VO];lia)) ?_;rw[<-WJ];exact⟨_,F++G,m+n,w,200,f,rfl,dX,hA,mn,T.w8,mR hA (nQ hA T.bA),VQ _,h0,k⟩
def qo:bw:=λ ds st K=>∃(x y:D) (A B:List (List Int)),ds=[x,y]/\dv st x A/\dv st y B/\A.length<=500/\(∀r∈A,r.length<=500)/\(∀r∈B,r.length<=500)/\K (aq (List.zipWith (λ a b=>a++b) A B)) st
def C9:List Str:=["rows","behind"]
def LJ:DS:=(aN (aU ck (aa (bh (yM (aa (ab 0) (aa (ab 1) af))) [none,none] (fI 0 1) aW (ai cn (aU ck (aa (ab 0) af)) (aU ck (aa (ab 1) af)))) af)))
theorem I_:VN qo 2 LJ C9:=by
 rintro ds st K ⟨x,y,A,B,rfl,⟨da,hx,ra⟩,⟨db,hy,rb⟩,lA,wA,wB,k⟩;refine⟨rfl,?_⟩;refine xS hx hy λ ok aC=>⟨aI (by rw[vW,ra.len];lia),?_⟩
 refine cN (λ rest acc st'=>∃(da' db':List D) (A' B' R:List (List Int)),st=st'/\rest=gY da' db'/\aZ st da' A'/\aZ st db' B'/\(∀r∈A',r∈A)/\(∀r∈B',r∈B)/\acc=R.map aR/\R++List.zipWith (λ a b=>a++b) A' B'=List.zipWith (λ a b=>a++b) A B) ?_ ?_ _ _ _ ⟨da,db,A,B,[],rfl,rfl,ra,rb,λ _ h=>h,λ _ h=>h,rfl,rfl⟩
 . rintro acc st' ⟨da',db',A',B',R,rfl,he,h1,h2,_,_,rfl,hs⟩;refine⟨aC _ hx hy,cj rfl ?_⟩
   have e:List.zipWith (λ a b=>a++b) A' B'=[]:=by
    match da',A',h1,db',B',h2,he with
    | [],[],_,_,_,_,_=>rfl
    |_::_,_::_,_,[],[],_,_=>rfl
    |_::_,_::_,_,_::_,_::_,_,he=>cases he
   rw[e,WE]at hs;rw[hs];exact k
 . rintro d rest acc st' ⟨da',db',A',B',R,rfl,he,h1,h2,iA,iB,rfl,hs⟩ next
   match da',A',h1,db',B',h2,he,iA,iB,hs with
   | [],[],_,_,_,_,he,_,_,_=>cases he
   |_::_,_::_,_,[],[],_,he,_,_,_=>cases he
   |a::da',r::A',h1,b::db',s::B',h2,he,iA,iB,hs=>
    rw[zQ,Xe]at he;obtain⟨rfl,rfl⟩:=he;have l1:=wA r (iA r V_);have l2:=wB s (iB s V_);refine⟨aC _ hx hy,_,rfl,cj h1.1 (cj h2.1 (jz (aI (by rw[VO,VO];lia)) ?_))⟩;show bz _ _ _ _ _ _ _ _ _;have ea:R.map aR++[D.tup (av r++av s)]=(R++[r++s]).map aR:=by rw[WJ,List.map_singleton];unfold aR av;rw[WJ]
    rw[ea];refine next _ _ ⟨da',db',A',B',R++[r++s],rfl,rfl,h1.2,h2.2,λ q hq=>iA q (V5 _ hq),λ q hq=>iB q (V5 _ hq),rfl,?_⟩
    rw[<-hs];simp
def jo:bw:=λ ds st K=>∃(A:List (List Int)) (N w w' z:Nat) (f:Bool),ds=[aq A,.int w]/\Mx.aL N (w+w') A/\N<=16/\w<=8/\w'<=8/\Mx.fv A N 0 (2^200)/\z<=60000000/\(∀p t c,p<w+w'->Mx.g6 A N p t c->Mx.xl N p t z c)/\st[0]?=some (dO f)/\
 (∀st',N=0->Bk st st'->K (aq []) st')/\
 ∀st' H h a,Mx.aL h (w+w') H->Mx.aY H h (w+w') (Mx.eQ H)->Mx.fW H h (Mx.eQ H)->Mx.kH A N H h (w+w')->h<=N->a<=h->(∀i,i<h->(Mx.eQ H i<w↔i<a))->Bk st st'->K (aq (Mx.tl H a w)) st'
def nD:List Str:=["rows","many"]
def vK:DS:=(aB (cf (aE (ai dE (aU dc (aa (ab 0) af)) (dC (.int 0)))) (aN (bZ af)) bO)
 (aN (aU ck (aa (bh (cq (ai aK (ak jU (aa (ab 0) af)) (dC (.int 0)))) [none,some 1] (aM 0) (aE (ai uO (ak jx (aa (ab 0) af)) (ab 1))) (cH (ab 0) (cY (ab 1)) cp)) af))))
theorem zd{j:Nat}:L3.cutD xs (some (j:Int)) none=xs.drop j:=by
 unfold L3.cutD;rw[HT.uq,HT.qj];by_cases h:j<=xs.length
 . rw[ZF h,Xo (by rw[WV];lia)]
 . rw[aah (by lia),Yz (VQ _),Yz (by lia)];simp
theorem uI:VN jo 2 vK nD:=by
 rintro ds st K ⟨A,N,w,w',z,f,rfl,hA,n16,w8,w8',hlo,hz,hR,h0,k0,k⟩;refine⟨rfl,?_⟩;have lA:=hA.len;refine cD rfl ?_;rw[VO,lA];refine eq2 (λ h=>b_ ?_) λ h=>nv ?_
 . exact⟨Wg _,k0 st (by lia) ⟨VQ _,λ _ _ _=>rfl,f,h0⟩⟩
 refine⟨_,N,w+w',200,z,A,f,rfl,dX,hA,by lia,n16,by lia,hlo,hz,hR,h0,λ st1 top c hC B=>?_⟩;obtain⟨ld,S⟩:=hC.str hA hlo n16 (VQ _);obtain⟨h1,h2,h3,h4⟩:=vI S;have le:=S.le;generalize c.A.take top=H at h1 h2 h3 h4;obtain⟨a,ha,q⟩:=Mx.Bb (w:=w) h2.mono;have lH:=h1.len;refine aw rfl rfl (eK ⟨aI (by rw[VO];lia),?_⟩);refine cN (λ rest acc st'=>st1=st'/\∃i:Nat,i<=top/\rest=(H.map aR).drop i/\acc=(((H.take i).drop a).map (List.drop w)).map aR) ?_ ?_ _ _ _ ⟨rfl,0,Wg _,rfl,by simp⟩
 . rintro acc st' ⟨rfl,i,hi,hrest,rfl⟩;have:H.length<=i:=drop_nil hrest;refine⟨trivial,cj rfl ?_⟩;rw[Xo this];exact k st1 H top a h1 h2 h3 h4 le ha q B
 . rintro d rest acc st' ⟨rfl,i,hi,hrest,rfl⟩ next
   obtain⟨hiH,rfl,rfl⟩:=drop_cons hrest;have him:i<top:=by lia
   obtain⟨l1,l2,l3⟩:=h2.lead i him;refine⟨trivial,_,rfl,_,H.getD i [],rfl,rfl,?_⟩
   have eD:fR (H.getD i [])= .int ((Mx.eQ H i:Nat):Int):=by
    unfold fR;rw[zk l3 (YE l2)]
   rw[eD];have et:H.take (i+1)=H.take i++[H.getD i []]:=by rw[List.take_succ,V0 hiH,Mx.ba hiH];rfl
   refine TN (λ g=>?_) λ g=>?_
   . have hai:a<=i:=WD λ y=>by have:=(q i him).mpr y;lia
     refine b_ (dD ?_);rw[zd,show(av (H.getD i [])).drop w=av ((H.getD i []).drop w)from(ZW ..).symm];show bz _ _ _ _ _ _ _ _ _;rw[nh];refine next _ _ ⟨rfl,i+1,him,rfl,?_⟩
     rw[et,List.drop_append_of_le_length (by rw[Wl];lia)];simp only[WJ,Ww,Zr]
   . have hai:i<a:=(q i him).mp (by lia);refine next _ _ ⟨rfl,i+1,him,rfl,?_⟩
     rw[W8 (by rw[Wl];lia),W8 (by rw[Wl];lia)]
def kY:bw:=λ ds st K=>∃(x y z dF dG:D) (F G:List (List Int)) (m n w:Nat),ds=[x,y]/\items? st x=some [.int w,dF]/\dv st dF F/\items? st y=some [z,dG]/\dv st dG G/\Mx.aL m w F/\Mx.aL n w G/\m<=8/\n<=8/\w<=8/\K (aq (Mx.dbl F G w)) st
def zu:List Str:=["one","other"]
def Jx:DS:=(aN (ai cn (ak qo (aa (ai aK (ab 0) (dC (.int 1))) (aa (ai aK (ab 0) (dC (.int 1))) af))) (ak qo (aa (ai aK (ab 1) (dC (.int 1))) (aa (ak lK (aa (aU dc (aa (ai aK (ab 1) (dC (.int 1))) af)) (aa (ai aK (ab 0) (dC (.int 0))) af))) af)))))
theorem Lq{F:List (List Int)}:List.zipWith (λ a b=>a++b) F F=F.map λ r=>r++r:=by
 induction F with
 |nil=>rfl
 |cons r F ih=>rw[Zb,ih];rfl
theorem Fb:∀ {G:List (List Int)},List.zipWith (λ a b=>a++b) G (List.replicate G.length (List.replicate w (0:Int)))=G.map λ r=>r++List.replicate w 0
 | []=>rfl
 |r::G=>by rw[Ws,WX,Zb,Fb];rfl
theorem GU:VN kY 2 Jx zu:=by
 rintro ds st K ⟨x,y,z,dF,dG,F,G,m,n,w,rfl,hx,hF',hy,hG',hF,hG,m8,n8,w8,k⟩;refine⟨rfl,?_⟩;have lF:=hF.len;have lG:=hG.len;have wF:∀r∈F,r.length<=500:=λ r hr=>by rw[hF.cM r hr];lia
 have wG:∀r∈G,r.length<=500:=λ r hr=>by rw[hG.cM r hr];lia
 obtain⟨dg,hdg,rg⟩:=hG'.ex;refine aw hx rfl (aw hx rfl ⟨dF,dF,F,F,rfl,hF',hF',by lia,wF,wF,?_⟩);refine aw hy rfl (aw hy rfl (cD hdg (aw hx rfl ?_)));rw[rg.len];refine⟨_,w,rfl,by lia,by lia,by lia,?_⟩;rw[Wi];refine⟨dG,_,G,_,rfl,hG',dX,by lia,wG,λ r hr=>?_,?_⟩
 . unfold yd at hr;rw[aai hr,Yj];lia
 rw[Lq,show yd G.length w=List.replicate G.length (List.replicate w 0)from rfl,Fb];refine jz (aI (by simp;lia)) ?_;rw[<-WJ];exact k
def wc:bw:=λ ds st K=>∃(x y z dF dG:D) (F G:List (List Int)) (m n w:Nat) (f:Bool),ds=[x,y]/\items? st x=some [.int w,dF]/\dv st dF F/\items? st y=some [z,dG]/\dv st dG G/\Mx.aL m w F/\Mx.aL n w G/\m<=8/\n<=8/\w<=8/\(∀r∈F,∀x∈r,x.natAbs<=2^200)/\(∀r∈G,∀x∈r,x.natAbs<=2^200)/\(m+n<=8\/(F=G/\Mx.aY F m w (Mx.eQ F)/\Mx.fW F m (Mx.eQ F)))/\st[0]?=some (dO f)/\
 ∀st' R k,Bk st st'->Mx.rS F m G n w R k->(m+n<=8->∀i c,i<k->c<w->(Mx.g R i c).natAbs<=2^2000)->K (.tup [.int w,aq R]) st'
def Dm:List Str:=["one","other"]
def Kb:DS:=(aN (bZ (aa (ai aK (ab 0) (dC (.int 0))) (aa (ak jo (aa (ak kY (aa (ab 0) (aa (ab 1) af))) (aa (ai aK (ab 0) (dC (.int 0))) af))) af))))
theorem Ie(hF:∀r∈F,∀x∈r,x.natAbs<=M)(hG:∀r∈G,∀x∈r,x.natAbs<=M):∀r∈Mx.dbl F G w,∀x∈r,x.natAbs<=M:=λ r hr x hx=>by
 rcases Wf.mp hr with h|h
 . obtain⟨q,hq,rfl⟩:=V9.mp h;rcases Wf.mp hx with h|h<;>exact hF q hq x h
 . obtain⟨q,hq,rfl⟩:=V9.mp h;rcases Wf.mp hx with h|h
   . exact hG q hq x h
   . rw[aai h];exact Wg _
theorem JQ:VN wc 2 Kb Dm:=by
 rintro ds st K ⟨x,y,z,dF,dG,F,G,m,n,w,f,rfl,hx,hF',hy,hG',hF,hG,m8,n8,w8,bF,bG,hh,h0,k⟩;refine⟨rfl,?_⟩;have hD:=Mx.oZ hF hG;have bD:=nQ hD (Ie (w:=w) bF bG);have hlo:=mR hD bD;refine aw hx rfl ⟨x,y,z,dF,dG,F,G,m,n,w,rfl,hx,hF',hy,hG',hF,hG,m8,n8,w8,?_⟩;refine aw hx rfl ⟨Mx.dbl F G w,m+n,w,w,60000000,f,rfl,hD,by lia,w8,w8,hlo,VQ _,λ p t c hp hC=>?_,h0,λ st1 e0 B=>⟨VP rfl,?_⟩,λ st1 H h a h1 h2 h3 h4 le ha q B=>⟨VP rfl,?_⟩⟩
 . rcases hh with h|⟨rfl,s,r⟩
   . exact hC.CW hD hlo h hp
   . have e:m=n:=hF.len.symm.trans hG.len;subst e;rw[Mx.Pf hF]at hC;exact hC.Rb s r (λ i c hi hc=>VX (nQ hF bF i c hi hc) (Wc (by decide) (by decide))) (by decide) hp
 . have m0:m=0:=by lia
   have n0:n=0:=by lia
   subst m0 n0;exact k st1 [] 0 B Mx.rS.empty λ _ i c hi _=>absurd hi (Wz _)
 . refine k st1 _ _ B (Mx.Nj hF hG h1 h2 h3 h4 ha q) λ hmn i c hi hc=>?_;rw[Mx.v8 h1 hi];refine VX (h4.abs (by lia) h2 h3 bD (a+i) (w+c) (by lia) (by lia)) ?_;exact VX (WL (show h<=8 by lia) (Wc (by have:=Nat.pow_pos (n:=200) (show 0<2 by decide);lia) (show h<=8 by lia))) (by decide+kernel)
def ki:bw:=λ ds st K=>∃(F G:List (List Int)) (m n w:Nat) (f:Bool),ds=[dZ w F,dZ w G]/\Tv F G m n w/\st[0]?=some (dO f)/\(∀st',m+n=0->Bk st st'->K (.tup [.tup [],.tup []]) st')/\
 ∀st' (top:Nat) (c:Mx.B3),1<=m+n->Mx.g6 (Mx.dbl F G w) (m+n) (w+w) top c->Bk st st'->K (.tup [aq c.U,aq (Mx.mh c.C (m+n))]) st'
def pG:List Str:=["one","other","rows"]
def x9:DS:=(aB (a6 2 (ak kY (aa (ab 0) (aa (ab 1) af))))
 (aN (BR (aE (ai lh (aU dc (aa (ab 2) af)) (dC (.int 0)))) (cH (ak jU (aa (ab 2) af)) (cY (dC (.int 1))) cp) (bZ (aa (bZ af) (aa (bZ af) af))))))
theorem Tv.bD(h:Tv F G m n w):Bg (Mx.dbl F G w) 200:=Ie h.bF h.bG
theorem xG:VN ki 2 x9 pG:=by
 rintro ds st K ⟨F,G,m,n,w,f,rfl,T,h0,k0,k⟩;have mn:=T.mn;have w8:=T.w8;have hD:=Mx.oZ T.iF T.iG;have hlo:=mR hD (nQ hD T.bD);refine⟨rfl,_,_,.int w,aq F,aq G,F,G,m,n,w,rfl,rfl,dX,rfl,dX,T.iF,T.iG,by lia,by lia,w8,cD rfl ?_⟩;rw[VO,hD.len];refine xN (λ h=>b_ ?_) λ h=>?_
 . refine⟨_,m+n,w+w,200,60000000,_,f,rfl,dX,hD,by lia,by lia,by lia,hlo,by decide,λ p t c hp hC=>hC.CW hD hlo mn hp,h0,λ st1 top c hC B=>dD ?_⟩;exact k st1 top c (by lia) hC B
 . exact⟨Wg _,Wg _,VP rfl,k0 st (by lia) ⟨VQ _,λ _ _ _=>rfl,f,h0⟩⟩
def d9(w:Nat)(x:D):Bool:=match items? [] x with
 |some [.int i,b]=>decide (i=(w:Int))&&(cK [] b .ao w&&bN [] (-1) (rowsOf b))
 |_=>false
theorem tE{w:Nat}{x:D}(e:items? [] x=none):d9 w x=false:=by unfold d9;rw[e]
theorem vN{w:Nat}{x:D}{xs:List D}(e:items? [] x=some xs)(h:xs.length≠2):d9 w x=false:=by
 unfold d9;rw[e];match xs,h with
 | [],_=>rfl
 | [a],_=>cases a<;>rfl
 | [_,_],h=>exact absurd rfl h
 |a::_::_::_,_=>cases a<;>rfl
theorem vx{w:Nat}{x a b:D}(e:items? [] x=some [a,b])(h:isInt a=false):d9 w x=false:=by
 unfold d9;rw[e];cases a<;>first|rfl|cases h
theorem m9{w:Nat}{x b:D}{i:Int}(e:items? [] x=some [.int i,b]):d9 w x=(decide (i=(w:Int))&&(cK [] b .ao w&&bN [] (-1) (rowsOf b))):=by unfold d9;rw[e]
theorem vR{d:D}(h:isInt d=true):∃i,d= .int i:=by
 cases d<;>first|exact⟨_,rfl⟩|cases h
theorem tx{xs:List D}(h:xs.length=2):∃a b,xs=[a,b]:=by
 match xs,h with
 | [a,b],_=>exact⟨a,b,rfl⟩
theorem e9.Gm{x:D}{w:Nat}(h:e9 x)(e:cK [] x .ao w=true):Cl x (rowsOf x)/\(∀r∈rowsOf x,r.length=w)/\(rowsOf x).length<=1000:=by
 rcases h with h|⟨xs,l,lz,q⟩
 . rw[gN (h []).2]at e;cases e
 rw[fm (l.items [])]at e;simp only[Wv]at e;have e1:rowsOf x=xs.map (intsOf []):=by unfold rowsOf;rw[l.items []]
 have key:∀r∈xs,(∀s,items? s r=some (av (intsOf [] r)))/\(intsOf [] r).length=w:=λ r hr=>by
  obtain⟨e2,e3⟩:=sP (Wm.mp e.2 r hr);rcases q r hr with f|⟨ys,ly,_,qy⟩
  . rw[(f []).2]at e2;cases e2
  . rw[ly.items []]at e2;have e4:=WQ e2;exact⟨λ s=>(ly.items s).trans (Xr some e4),by lia⟩
 rw[e1];refine⟨⟨xs,l.items,λ s=>td λ r hr=>(key r hr).1 s⟩,λ r hr=>?_,by rw[VO];exact lz⟩;obtain⟨x,hx,rfl⟩:=V9.mp hr;exact(key x hx).2
def qF:bw:=λ ds st K=>∃(x:D) (w:Nat),ds=[x,.int w]/\fK x/\K (.bl (d9 w x)) st
def wH:List Str:=["thing","wide"]
def FA:DS:=(aB (cf (gF (cO (aE (ak gc (aa (ab 0) (aa (dC (.int 2)) af))))) (gF (cO (aE (ak kO (aa (ai aK (ab 0) (dC (.int 0))) af)))) (aE (ai qM (ai aK (ab 0) (dC (.int 0))) (ab 1))))) (aN (dC (.bl false))) bO)
 (aN (ix (ak jA (aa (ai aK (ab 0) (dC (.int 1))) (aa (dC .ao) (aa (ab 1) af)))) (ak i_ (aa (ai aK (ab 0) (dC (.int 1))) af)))))
theorem DL:VN qF 2 FA wH:=by
 rintro ds st K ⟨x,w,rfl,hx,k⟩;refine⟨rfl,x,2,rfl,hx.any st,?_⟩;rcases hx with h|⟨xs,l,_,q⟩
 . rw[tE (h []).2]at k;rw[(h st).2];exact k
 rw[l.items st];by_cases h2:xs.length=2;rotate_left
 . rw[vN (l.items []) h2]at k;have:decide ((xs.length:Int)=2)=false:=We (by lia);dsimp only;rw[this];exact k
 obtain⟨a,b,rfl⟩:=tx h2;have ta:=q a (by simp);have tb:=q b (by simp);refine ji ?_;refine aw (l.items st) rfl ⟨a,rfl,ta.any st,?_⟩;cases ei:isInt a with
 |false=>rw[vx (l.items []) ei]at k;exact k
 |true=>
 obtain⟨i,rfl⟩:=vR ei;rw[m9 (l.items [])]at k;refine aw (l.items st) rfl (ne2 (λ h=>?_) λ h=>?_)
 . rw[We h]at k;exact k
 rw[Wr h,W_]at k;refine aw (l.items st) rfl ⟨b,.ao,_,rfl,tb.ux st,.inl rfl,?_⟩;rw[tb.uw];cases e1:cK [] b .ao w with
 |false=>rw[e1]at k;exact k
 |true=>
 rw[e1]at k;obtain⟨C,hw,hl⟩:=tb.Gm e1;exact b_ (aw (l.items st) rfl ⟨b,_,w,rfl,C.rows st,hw,hl,k⟩)
def ow:bw:=λ ds st K=>∃(x:D) (X E:List (List Int)) (n p:Nat),ds=[x,aq E]/\Cl x X/\Mx.aL n n X/\Mx.aL n p E/\n<=8/\p<=16/\Bg X 64000000/\Bg E 200/\K (aq (Mx.mulM X E p)) st
def u_:List Str:=["turn","rows"]
def Dv:DS:=(aN (BR (aE (ai lh (aU dc (aa (ab 1) af)) (dC (.int 0)))) (ak k_ (aa (ab 0) (aa (ab 1) af))) (bZ af)))
theorem Cg:VN ow 2 Dv u_:=by
 rintro ds st K ⟨x,X,E,n,p,rfl,C,iX,iE,n8,p16,bX,bE,k⟩;refine⟨rfl,cD rfl ?_⟩;rw[VO,iE.len];refine xN (λ h=>b_ ?_) λ h=>?_
 . have hE:E≠ []:=λ z=>by have:=iE.len;rw[z]at this;simp at this;lia
   exact⟨x,_,p,X,E,rfl,C.rows st,dX,hE,iE.cM,by lia,by rw[iX.len];lia,λ q hq c hc r hr b hb=>jD (bX q hq c hc) (bE r hr b hb) (by decide),k⟩
 . have n0:X=[]:=Xq (by rw[iX.len];lia);subst n0;exact⟨Wg _,k⟩
def C0(w:Nat)(M:List (List Int)):List (List Int):=((M.filter dH).filter λ r=> !((r.take w).any λ n=>decide (n≠0))).map (List.drop w)
def yb(E:List (List Int))(n w:Nat)(b t u:D):Bool:=r9 t u n&&(decide (nK (Mx.mulM (rowsOf t) E (w+w))=(Mx.mulM (rowsOf t) E (w+w)).filter dH)&&(bN [] (-1) ((Mx.mulM (rowsOf t) E (w+w)).filter dH)&&decide (rowsOf b=C0 w (Mx.mulM (rowsOf t) E (w+w)))))
def kb(E:List (List Int))(n w:Nat)(x y:D):Bool:=d9 w x&&match items? [] x,items? [] y with
 |some [_,b],some [t,u]=>yb E n w b t u
 |_,_=>false
theorem BH(h:d9 w x=false):kb E n w x y=false:=by unfold kb;rw[h];rfl
theorem zI(ex:items? [] x=some [a,b])(e:items? [] y=none):kb E n w x y=false:=by unfold kb;rw[ex,e];simp
theorem Df(ex:items? [] x=some [a,b])(e:items? [] y=some ys)(h:ys.length≠2):kb E n w x y=false:=by
 unfold kb;rw[ex,e];match ys,h with
 | [],_=>simp
 | [_],_=>simp
 | [_,_],h=>exact absurd rfl h
 |_::_::_::_,_=>simp
theorem pR(h:d9 w x=true)(ex:items? [] x=some [a,b])(e:items? [] y=some [t,u]):kb E n w x y=yb E n w b t u:=by unfold kb;rw[h,ex,e];rfl
theorem zc(hx:fK x)(h:d9 w x=true):∃b,(∀s,items? s x=some [.int (w:Int),b])/\e9 b/\cK [] b .ao w=true:=by
 rcases hx with f|⟨xs,l,_,q⟩
 . rw[tE (f []).2]at h;cases h
 by_cases h2:xs.length=2
 . obtain⟨a,b,rfl⟩:=tx h2;cases ei:isInt a with
   |false=>rw[vx (l.items []) ei]at h;cases h
   |true=>
    obtain⟨i,rfl⟩:=vR ei;rw[m9 (l.items [])]at h;simp only[Wv,Y4]at h;exact⟨b,λ s=>by rw[l.items s,h.1],q b (by simp),h.2.1⟩
 . rw[vN (l.items []) h2]at h;cases h
theorem r8:∀ {B dn:List (List Int)} {a:Int},bN dn a B=true->∀r∈B,dH r=true
 | [],_,_,_,r,hr=>by cases hr
 |q::B,dn,a,h,r,hr=>by
  rw[iO]at h;cases el:d_ q with
  |none=>rw[el]at h;cases h
  |some l=>
   rw[el]at h;dsimp only at h;split at h
   . cases h
   . split at h
     . rcases V4.mp hr with e|e
       . subst e;unfold dH;rw[el];rfl
       . exact r8 h r e
     . cases h
theorem Sa(M:List (List Int)):bN [] (-1) (nK M)=(decide (nK M=M.filter dH)&&bN [] (-1) (M.filter dH)):=by
 by_cases h:nK M=M.filter dH
 . rw[Wr h,W_,h]
 . rw[We h,YV];cases e:bN [] (-1) (nK M)with
   |false=>rfl
   |true=>
    refine absurd ?_ h;have al:=r8 e;have es:M.filter dH=(M.take (M.filter dH).length).filter dH++(M.drop (M.filter dH).length).filter dH:=by rw[<-W9,YF]
    have e1:(M.take (M.filter dH).length).filter dH=M.take (M.filter dH).length:=ZK.mpr al;rw[e1]at es;have l2:=Xr List.length es;rw[V3,Wl,ZF (Zm _ _)]at l2;have z:(M.drop (M.filter dH).length).filter dH=[]:=Xq (by lia);rw[z,WE]at es;exact es.symm
theorem vn:∀ {r:List Int} {i l w:Nat},eN r i=some l->i<=l/\decide (w+i<=l)= !((r.take w).any λ n=>decide (n≠0))
 | [],_,_,_,h=>by cases h
 |x::r,i,l,w,h=>by
  unfold eN at h;split at h
  . rename_i hx;have i0:=(vn (w:=0) h).1;refine⟨by lia,?_⟩;cases w with
    |zero=>rw[Wr (by lia)];rfl
    |succ w=>
     have ih:=(vn (w:=w) h).2;rw[List.take_succ_cons,Yl,hx,show decide ((0:Int)≠0)=false from rfl,Bool.false_or,<-ih];congr 1;exact propext (by lia)
  . rename_i hx;cases h;refine⟨VQ _,?_⟩;cases w with
    |zero=>rw[Wr (by lia)];rfl
    |succ w=>rw[We (by lia),List.take_succ_cons,Yl,Wr hx];rfl
theorem NP(h:d_ r=some l):decide (w<=l)= !((r.take w).any λ n=>decide (n≠0)):=(vn (w:=w) (i:=0) h).2
theorem yO:dH r=r.any λ n=>decide (n≠0):=by
 have key:∀(r:List Int) (i:Nat),(eN r i).isSome=r.any λ n=>decide (n≠0):=λ r=>by
  induction r with
  |nil=>intro i;rfl
  |cons x r ih=>
   intro i;unfold eN;split
   . rename_i hx;rw[ih,Yl,hx,show decide ((0:Int)≠0)=false from rfl,Bool.false_or]
   . rename_i hx;rw[Yl,Wr hx];rfl
 exact key r 0
def iD:bw:=λ ds st K=>∃(F G:List (List Int)) (m n w:Nat) (x y:D),ds=[dZ w F,dZ w G,x,y]/\Tv F G m n w/\fK x/\fK y/\K (.bl (kb (Mx.dbl F G w) (m+n) w x y)) st
def pj:List Str:=["one","other","told","paper","wide","rows","head"]
def x_:DS:=(aB (a6 4 (ai aK (ab 0) (dC (.int 0))))
 (aB (a6 5 (ak kY (aa (ab 0) (aa (ab 1) af))))
 (aB (cf (gF (cO (aE (ak qF (aa (ab 2) (aa (ab 4) af))))) (gF (cO (aE (ak gc (aa (ab 3) (aa (dC (.int 2)) af))))) (cO (aE (ak m_ (aa (ai aK (ab 3) (dC (.int 0))) (aa (ai aK (ab 3) (dC (.int 1))) (aa (aU dc (aa (ab 5) af)) af)))))))) (aN (dC (.bl false))) bO)
 (aB (a6 6 (ak jO (aa (ak ow (aa (ai aK (ab 3) (dC (.int 0))) (aa (ab 5) af))) af)))
 (aB (cf (aE (ai CC (ab 6) (dC .ao))) (aN (dC (.bl false))) bO)
 (aN (ai dE (ak ia (aa (ai aK (ab 2) (dC (.int 1))) af)) (aU ck (aa (bh (cq (ab 6)) [none,some 4] (aM 0) (aE (ai uO (ak jx (aa (ab 0) af)) (ab 1))) (cH (ab 0) (cY (ab 1)) cp)) af)))))))))
theorem zU{j:Nat}:L3.cutD (av r) (some (j:Int)) none=av (r.drop j):=by rw[zd];exact(ZW ..).symm
theorem xy:VN iD 4 x_ pj:=by
 rintro ds st K ⟨F,G,m,n,w,x,y,rfl,T,hx,hy,k⟩;have mn:=T.mn;have w8:=T.w8;have hD:=Mx.oZ T.iF T.iG;refine⟨rfl,aw rfl rfl ?_⟩;refine⟨_,_,.int w,aq F,aq G,F,G,m,n,w,rfl,rfl,dX,rfl,dX,T.iF,T.iG,by lia,by lia,w8,?_⟩;refine⟨x,w,rfl,hx,?_⟩;cases ht:d9 w x with
 |false=>rw[BH ht]at k;exact k
 |true=>
 obtain⟨b,ex,tb,eb⟩:=zc hx ht;refine⟨y,2,rfl,hy.any st,?_⟩;rcases hy with f|⟨ys,l,_,q⟩
 . rw[zI (ex []) (f []).2]at k;rw[(f st).2];exact k
 rw[l.items st];by_cases h2:ys.length=2;rotate_left
 . rw[Df (ex []) (l.items []) h2]at k;have:decide ((ys.length:Int)=2)=false:=We (by lia);dsimp only;rw[this];exact k
 obtain⟨t,u,rfl⟩:=tx h2;rw[pR ht (ex []) (l.items [])]at k;unfold yb at k;have tt:=q t (by simp);have tu:=q u (by simp);refine ji ?_;refine aw (l.items st) rfl (aw (l.items st) rfl (cD rfl ?_));rw[VO,hD.len];refine⟨t,u,m+n,rfl,tt,tu,mn,?_⟩;cases e1:r9 t u (m+n)with
 |false=>rw[e1]at k;exact k
 |true=>
 rw[e1,W_]at k;have f1:cK [] t (.int (m+n:Nat)) (m+n:Nat)=true:=by unfold r9 at e1;rw[Wv]at e1;exact e1.1
 obtain⟨C,M1,b1⟩:=tt.rows f1;have iM:=Mx.mO M1 hD;refine aw (l.items st) rfl ⟨t,_,_,m+n,w+w,rfl,C,M1,hD,mn,by lia,b1,T.bD,?_⟩;generalize Mx.mulM (rowsOf t) (Mx.dbl F G w) (w+w)=M at iM k;refine⟨M,w+w,rfl,iM.cM,by rw[iM.len];exact mn,?_⟩;have he:=Sa M;cases e2:bN [] (-1) (nK M)with
 |false=>
  rw[VT WG];rw[e2]at he;rw[<-Bool.and_assoc,<-he]at k;exact oY rfl (b_ k)
 |true=>
 rw[VU rfl];rw[e2]at he;obtain⟨h1,h3⟩:=YH.mp he.symm;rw[h1,h3,W_,W_]at k;rw[Z0 h1];have al:=r8 h3;have lF:(M.filter dH).length<=8:=VX (Zm _ _) (by rw[iM.len];exact mn);refine oY rfl ?_;obtain⟨Cb,wb,lb⟩:=tb.Gm eb;refine aw (ex st) rfl ⟨b,_,rfl,Cb.rows st,lb,?_⟩;refine eK ⟨aI (by rw[VO];lia),?_⟩;unfold C0 at k;generalize M.filter dH=H at k al lF;refine cN (λ rest acc st'=>st=st'/\∃H1 H2:List (List Int),H1++H2=H/\rest=H2.map aR/\acc=((H1.filter λ r=> !((r.take w).any λ n=>decide (n≠0))).map (List.drop w)).map aR) ?_ ?_ _ _ _ ⟨rfl,[],H,rfl,rfl,rfl⟩
 . rintro acc st' ⟨rfl,H1,H2,e,hr,rfl⟩;have:H2=[]:=YK.mp hr.symm;subst this;rw[WE]at e;subst e;refine⟨trivial,cj rfl (qp j7 j7 ?_)⟩;rw[vz];exact k
 . rintro z rest acc st' ⟨rfl,H1,H2,e,hr,rfl⟩ next
   cases H2 with
   |nil=>cases hr
   |cons r H2=>
    rw[Ww]at hr;simp only[Xe]at hr;obtain⟨rfl,rfl⟩:=hr;have nz:=al r (by rw[<-e];simp);refine⟨trivial,_,rfl,_,r,rfl,rfl,?_⟩;cases el:d_ r with
    |none=>unfold dH at nz;rw[el]at nz;cases nz
    |some l=>
     have eD:fR r= .int (l:Int):=by unfold fR;rw[el]
     have eg:=NP (w:=w) el;rw[eD];refine TN (λ h=>b_ (dD ?_)) λ h=>?_
     . rw[zU];show bz _ _ _ _ _ _ _ _ _;rw[nh];refine next _ _ ⟨rfl,H1++[r],H2,by rw[<-e];simp,rfl,?_⟩
       rw[W9,aam (by rw[<-eg];exact Wr (by lia)),ZG,WJ,WJ];simp
     . refine next _ _ ⟨rfl,H1++[r],H2,by rw[<-e];simp,rfl,?_⟩
       rw[W9,aal (by rw[<-eg];simp;lia),ZG,WE]
structure Hd(st:ae)(n:Nat)(b:Int):Prop where
 ex:∃(cs:List Int) (p q f:Int),st[n]?=some (.lst [.lst (av cs),.int p,.int q,.int f])/\cs.length<=63/\0<=p/\0<=q/\p<=100+b
structure Upd(st:ae)(n:Nat)(st':ae):Prop where
 len:st'.length=st.length
 same:∀m,m≠n->st'[m]?=st[m]?
theorem Upd.refl{st:ae}:Upd st n st:=⟨rfl,λ _ _=>rfl⟩
theorem Upd.trans{st st1 st2:ae}(a:Upd st n st1)(b:Upd st1 n st2):Upd st n st2:=⟨b.len.trans a.len,λ m h=>(b.same m h).trans (a.same m h)⟩
theorem Upd.set{st:ae}:Upd st n (st.set n c):=⟨Wb,λ m h=>VW (V6 h)⟩
theorem Hd.mono{st:ae}(h:Hd st n b)(l:b<=b'):Hd st n b':=let⟨cs,p,q,f,e,h1,h2,h3,h4⟩:=h.ex;⟨cs,p,q,f,e,h1,h2,h3,by lia⟩
theorem Hd.lt{st:ae}(B:Hd st n b):n<st.length:=by
 obtain⟨_,_,_,_,e,_⟩:=B.ex;exact(VV.mp e).1
theorem Hd.cell{st st':ae}(B:Hd st n b)(e:st'[n]?=st[n]?):Hd st' n b:=by
 obtain⟨cs,p,q,f,h,r⟩:=B.ex;exact⟨cs,p,q,f,e.trans h,r⟩
theorem uo{st:ae}{i:Int}{j:Nat}{K:ae->Prop}(h:st[n]?=some (.lst xs))(e:j4 xs.length i=some j)(ey:xs.set j d=ys)(k:∀st',st'[n]?=some (.lst ys)->Upd st n st'->K st'):vC (.ref n) (.int i) d st K:=e8 h e (by
 refine k _ ?_ Upd.set;rw[V7 (VV.mp h).1,ey])
def qm:bw:=λ ds st K=>∃ns:List Int,ds=[.lst (ns.map .int)]/\ns.length<=63/\∀st',Hd st' st.length 0->Ext st st'->K (.ref st.length) st'
def xf:List Str:=["_law_script","_law_first"]
def GX:DS:=(aB (a6 1 (aU v7 (aa (cH (ab 0) cp (cY (dC (.int 1)))) af)))
 (aN (Lz (aa (aU jR (aa (cH (ab 0) cp (cY (dC (.int 63)))) af)) (aa (dC (.int 0)) (aa (ai om (aU tM (aa (ab 1) af)) (dC (.int 2))) (aa (aU l9 (aa (ai uO (aU tM (aa (ab 1) af)) (ai vg (dC (.int 10)) (dC (.int 18)))) af)) af)))))))
theorem oz{j:Nat}:L3.cutD (av r) none (some (j:Int))=av (r.take j):=by rw[i7];exact(XD ..).symm
theorem DF:VN qm 1 GX xf:=by
 rintro ds st K ⟨ns,rfl,hl,k⟩;refine⟨rfl,?_⟩;refine gp ?_;rw[show(1:Int)=((1:Nat):Int)from rfl,show ns.map D.int=av ns from rfl,oz];refine HU (ints_map _) ?_;generalize(ns.take 1).sum=x;refine gp ?_;rw[show(63:Int)=((63:Nat):Int)from rfl,oz];refine jC rfl (wt (yg (by decide) (by decide) (wt (Bj ⟨by decide,by decide,by decide⟩ (Fh (iw ⟨VP rfl,?_⟩))))));refine k _ ⟨_,_,_,_,Yh,by rw[Wl];lia,aat _,?_,by lia⟩ Ext.push;rw[Yn _ (by decide)];exact Int.ediv_nonneg (Int.natCast_nonneg _) (by decide)
def bJ:bw:=λ ds st K=>∃(n:Nat) (m b:Int),ds=[.ref n,.int m]/\Hd st n b/\0<=b/\b<=1000000000/\0<m/\m<2^62/\∀r st',0<=r->r<m->Hd st' n (b+1)->Upd st n st'->K (.int r) st'
def xg:List Str:=["_law_hand_here","_law_many","_law_found","_law_cell","_law_once","_law_twice"]
def Gi:DS:=(aB (tH (mq (aE (ai dE (ai aK (ab 0) (dC (.int 3))) (dC (.int 1)))) (mq (aE (ai dE (ai aK (ab 0) (dC (.int 2))) (dC (.int 0)))) (aE (ai oU (ai cn (ai aK (ab 0) (dC (.int 1))) (dC (.int 1))) (aU dc (aa (ai aK (ab 0) (dC (.int 0))) af)))))) (aB (cZ (ab 0) (dC (.int 1)) (ai cn (ai aK (ab 0) (dC (.int 1))) (dC (.int 1))))
 (cZ (ab 0) (dC (.int 2)) (aU tM (aa (ai aK (ai aK (ab 0) (dC (.int 0))) (ai aK (ab 0) (dC (.int 1)))) af)))))
 (aB (cf (mq (aE (ai dE (ai aK (ab 0) (dC (.int 3))) (dC (.int 1)))) (aE (ai lh (ai aK (ab 0) (dC (.int 2))) (dC (.int 0))))) (aB (a6 2 (ai g4 (ai aK (ab 0) (dC (.int 2))) (ab 1)))
 (aB (cZ (ab 0) (dC (.int 2)) (ai om (ai aK (ab 0) (dC (.int 2))) (ab 1)))
 (aN (ab 2)))) bO)
 (aB (cZ (ab 0) (dC (.int 1)) (ai cn (ai aK (ab 0) (dC (.int 1))) (dC (.int 1))))
 (aB (a6 3 (aU v7 (aa (cH (cH (ai aK (ab 0) (dC (.int 0))) (cY (ai g4 (ai aK (ab 0) (dC (.int 1))) (aU x3 (aa (dC (.int 1)) (aa (aU dc (aa (ai aK (ab 0) (dC (.int 0))) af)) af))))) cp) cp (cY (dC (.int 1)))) af)))
 (aB (a6 4 (ai g4 (ai dA (ai cn (ai cn (ai g4 (ab 3) (dC (.int 2147483629))) (ai dA (dC (.int 7919)) (ai aK (ab 0) (dC (.int 1))))) (dC (.int 11))) (ai cn (dC (.int 48271)) (ai dA (dC (.int 2)) (ai aK (ab 0) (dC (.int 1)))))) (dC (.int 2147483647))))
 (aB (a6 5 (ai g4 (ai cn (ai dA (ab 4) (ai cn (ai g4 (ab 4) (dC (.int 39373))) (ai aK (ab 0) (dC (.int 1))))) (ai dA (dC (.int 31)) (ai aK (ab 0) (dC (.int 1))))) (dC (.int 1999999973))))
 (aN (ai g4 (ai om (ab 5) (dC (.int 7))) (ab 1)))))))))
theorem J3{j:Nat}:L3.cutD xs (some (j:Int)) none=xs.drop j:=by
 unfold L3.cutD;rw[HT.uq,HT.qj];by_cases h:j<=xs.length
 . rw[ZF h,Xo (by rw[WV];lia)]
 . rw[aah (by lia),Yz (VQ _),Yz (by lia)];simp
theorem Ia{m:Int}(h0:0<m)(h:m<2^62):m.natAbs.log2<9000:=by
 have:m.natAbs.log2<62:=(Nat.log2_lt (by lia)).mpr (by lia);lia
theorem DR:VN bJ 2 Gi xg:=by
 rintro ds st K ⟨n,m,b,rfl,⟨cs,p,q,f,e,hcl,hp,hq,hpb⟩,hb0,hb2,hm0,hm1,k⟩;refine⟨rfl,?_⟩;try dsimp only
 refine fC (A:=tH _ _) (λ σ' st'=>∃(p q:Int),σ'=[some (.ref n),some (.int m),none,none,none,none]/\st'[n]?=some (.lst [.lst (av cs),.int p,.int q,.int f])/\0<=p/\0<=q/\p<=100+b/\Upd st n st') (λ nx hnx=>?_) ?_
 . refine⟨λ m' σ st'=>∃(p q:Int),σ=[some (.ref n),some (.int m),none,none,none,none]/\st'[n]?=some (.lst [.lst (av cs),.int p,.int q,.int f])/\0<=p/\0<=q/\p<=100+b/\Upd st n st'/\m'=(cs.length-p).toNat,⟨_,p,q,rfl,e,hp,hq,hpb,Upd.refl,rfl⟩,?_⟩;clear e hp hq hpb p q;rintro m' σ st' ⟨p,q,rfl,e,hp,hq,hpb,U,rfl⟩;have stop:nx [some (.ref n),some (.int m),none,none,none,none] st':=hnx _ _ ⟨p,q,rfl,e,hp,hq,hpb,U⟩;refine aw (ax e) (by rfl) (eq2 (λ _=>b_ ?_) λ _=>stop);refine aw (ax e) (by rfl) (eq2 (λ _=>b_ ?_) λ _=>stop);refine aw (ax e) (by rfl) (dJ (aw (ax e) (by rfl) (cD rfl ?_)));rw[VO];refine TQ (λ h=>b_ ?_) λ _=>stop;refine aw (ax e) (by rfl) (dJ (uo (ys:=[.lst (av cs),.int (p+1),.int q,.int f]) e (by rfl) (by rfl) λ st1 e1 U1=>?_));obtain⟨j,ej⟩:=WT (show 0<=p+1 by lia);have hj:j<cs.length:=by lia
   refine aw (ax e1) (by rfl) (aw (ax e1) (by rfl) ?_);rw[ej];refine aw rfl (fF hj) (wt ?_);rw[ej]at e1;refine uo (ys:=[.lst (av cs),.int j,.int ((cs.getD j 0).natAbs:Nat),.int f]) e1 (by rfl) (by rfl) λ st2 e2 U2=>?_;exact⟨_,by lia,(j:Int),_,rfl,e2,by lia,Int.natCast_nonneg _,by lia,U.trans (U1.trans U2),rfl⟩
 . clear e hp hq hpb p q;rintro σ st1 ⟨p,q,rfl,e,hp,hq,hpb,U⟩
   have mixed:(aB (cZ (ab 0) (dC (.int 1)) (ai cn (ai aK (ab 0) (dC (.int 1))) (dC (.int 1))))
    (aB (a6 3 (aU v7 (aa (cH (cH (ai aK (ab 0) (dC (.int 0))) (cY (ai g4 (ai aK (ab 0) (dC (.int 1))) (aU x3 (aa (dC (.int 1)) (aa (aU dc (aa (ai aK (ab 0) (dC (.int 0))) af)) af))))) cp) cp (cY (dC (.int 1)))) af)))
    (aB (a6 4 (ai g4 (ai dA (ai cn (ai cn (ai g4 (ab 3) (dC (.int 2147483629))) (ai dA (dC (.int 7919)) (ai aK (ab 0) (dC (.int 1))))) (dC (.int 11))) (ai cn (dC (.int 48271)) (ai dA (dC (.int 2)) (ai aK (ab 0) (dC (.int 1)))))) (dC (.int 2147483647))))
    (aB (a6 5 (ai g4 (ai cn (ai dA (ab 4) (ai cn (ai g4 (ab 4) (dC (.int 39373))) (ai aK (ab 0) (dC (.int 1))))) (ai dA (dC (.int 31)) (ai aK (ab 0) (dC (.int 1))))) (dC (.int 1999999973))))
    (aN (ai g4 (ai om (ab 5) (dC (.int 7))) (ab 1))))))) {nx:=λ _ st'=>K .ao st',rt:=K} [some (.ref n),some (.int m),none,none,none,none] st1:=by
    refine aw (ax e) (by rfl) (dJ (uo (ys:=[.lst (av cs),.int (p+1),.int q,.int f]) e (by rfl) (by rfl) λ st2 e2 U2=>?_));have p0:0<=p+1:=by lia
    have pb:p+1<=100+(b+1):=by lia
    generalize p+1=c at e2 p0 pb;refine aw (ax e2) (by rfl) (aw (ax e2) (by rfl) (aw (ax e2) (by rfl) (cD rfl (Pw ?_))));have mx:0<(if(((av cs).length:Nat):Int)>1 then(((av cs).length:Nat):Int)else 1):=by split<;>lia
    generalize(if(((av cs).length:Nat):Int)>1 then(((av cs).length:Nat):Int)else 1)=mm at mx;refine kZ (by lia) ?_;obtain⟨j,ej⟩:=WT (WW c mx);rw[ej];refine gp ?_;rw[J3,<-ZW];refine gp ?_;rw[show(1:Int)=((1:Nat):Int)from rfl,oz];refine HU (ints_map _) ?_;generalize((cs.drop j).take 1).sum=x;refine kZ (by decide) (aw (ax e2) (by rfl) (fM (gf (by decide) (by decide)) (dJ (dJ ?_))));have m1:=WW x (show(0:Int)<2147483629 by decide);have m2:=Xl x (show(0:Int)<2147483629 by decide);refine aw (ax e2) (by rfl) (fM (gf (by decide) (by decide)) (dJ (fM (gf (by lia) (by lia)) (kZ (by decide) ?_))));have u1:=WW ((x.fmod 2147483629+7919*c+11)*(48271+2*c)) (show(0:Int)<2147483647 by decide);have u2:=Xl ((x.fmod 2147483629+7919*c+11)*(48271+2*c)) (show(0:Int)<2147483647 by decide);generalize((x.fmod 2147483629+7919*c+11)*(48271+2*c)).fmod 2147483647=u at u1 u2⊢;refine kZ (by decide) (aw (ax e2) (by rfl) (dJ (fM (gf (by lia) (by lia)) (aw (ax e2) (by rfl) (fM (gf (by decide) (by decide)) (dJ (kZ (by decide) ?_)))))));refine yg (by decide) (by decide+kernel) (kZ (by lia) ?_);exact k _ _ (WW _ hm0) (Xl _ hm0) ⟨cs,_,_,_,e2,hcl,p0,hq,pb⟩ (U.trans U2)
   refine aw (ax e) (by rfl) (eq2 (λ _=>b_ ?_) λ _=>mixed);refine aw (ax e) (by rfl) (xN (λ _=>b_ ?_) λ _=>mixed);refine aw (ax e) (by rfl) (kZ (by lia) (aw (ax e) (by rfl) (yg (by lia) (Ia hm0 hm1) (uo (ys:=[.lst (av cs),.int p,.int (q.fdiv m),.int f]) e (by rfl) (by rfl) λ st4 e4 U4=>?_))));refine k _ _ (WW _ hm0) (Xl _ hm0) ⟨cs,_,_,_,e4,hcl,hp,?_,by lia⟩ (U.trans U4);rw[Yn _ (by lia)];exact Int.ediv_nonneg hq (by lia)
def oO(wild:Int):Nat:=if wild=15 then 1000000000000 else 30
def nR:bw:=λ ds st K=>∃(n:Nat) (b wild:Int),ds=[.ref n,.int wild]/\Hd st n b/\0<=b/\b<=900000000/\∀r st',r.natAbs<=oO wild->Hd st' n (b+2)->Upd st n st'->K (.int r) st'
def tS:List Str:=["_law_hand_here","_law_wild"]
def Cd:DS:=(aB (cf (mq (aE (ai dE (ab 1) (dC (.int 15)))) (aE (ai dE (ak bJ (aa (ab 0) (aa (dC (.int 3)) af))) (dC (.int 0))))) (aN (ai cn (ai nu (ak bJ (aa (ab 0) (aa (ai nu (ai dA (dC (.int 2)) (ai vg (dC (.int 10)) (dC (.int 12)))) (dC (.int 1))) af))) (ai vg (dC (.int 10)) (dC (.int 12)))) (dC (.int 1)))) bO)
 (aB (cf (aE (ai lh (ab 1) (dC (.int 11)))) (aN (ai nu (ak bJ (aa (ab 0) (aa (dC (.int 61)) af))) (dC (.int 30)))) bO)
 (aN (ai aK (fy (aa (dC (.int 0)) (aa (dC (.int 1)) (aa (g9 e6 (dC (.int 1))) (aa (dC (.int 2)) (aa (dC (.int 0)) (aa (dC (.int 3)) (aa (g9 e6 (dC (.int 2))) (aa (dC (.int 1)) af))))))))) (ak bJ (aa (ab 0) (aa (dC (.int 8)) af)))))))
theorem Aj:VN nR 2 Cd tS:=by
 rintro ds st K ⟨n,b,wild,rfl,B,b0,hb,k⟩;refine⟨rfl,?_⟩;have h30:30<=oO wild:=by unfold oO;split<;>lia
 have e12:(10:Int)^(12:Int).toNat=1000000000000:=by decide
 have rest:∀st1,Hd st1 n (b+1)->Upd st n st1->(aB (cf (aE (ai lh (ab 1) (dC (.int 11)))) (aN (ai nu (ak bJ (aa (ab 0) (aa (dC (.int 61)) af))) (dC (.int 30)))) bO)
  (aN (ai aK (fy (aa (dC (.int 0)) (aa (dC (.int 1)) (aa (g9 e6 (dC (.int 1))) (aa (dC (.int 2)) (aa (dC (.int 0)) (aa (dC (.int 3)) (aa (g9 e6 (dC (.int 2))) (aa (dC (.int 1)) af))))))))) (ak bJ (aa (ab 0) (aa (dC (.int 8)) af)))))) {nx:=λ _ st'=>K .ao st',rt:=K} [some (.ref n),some (.int wild)] st1:=λ st1 B1 U1=>by
  refine xN (λ _=>b_ ?_) λ _=>?_
  . exact⟨n,61,_,rfl,B1,by lia,by lia,by decide,by decide,λ r st2 r0 r1 B2 U2=>oR (k _ _ (by lia) (B2.mono (by lia)) (U1.trans U2))⟩
  . refine eH (eH ⟨VP rfl,n,8,_,rfl,B1,by lia,by lia,by decide,by decide,λ r st2 r0 r1 B2 U2=>?_⟩);have go:∀c:Int,c.natAbs<=30->K (.int c) st2:=λ c hc=>k c st2 (by lia) (B2.mono (by lia)) (U1.trans U2);have:r=0\/r=1\/r=2\/r=3\/r=4\/r=5\/r=6\/r=7:=by lia
    rcases this with rfl|rfl|rfl|rfl|rfl|rfl|rfl|rfl<;>exact aw rfl rfl (go _ (by decide))
 refine eq2 (λ h15=>b_ ?_) λ _=>rest st (B.mono (by lia)) Upd.refl;refine⟨n,3,_,rfl,B,b0,by lia,by decide,by decide,λ r st1 r0 r1 B1 U1=>eq2 (λ _=>b_ ?_) λ _=>rest st1 B1 U1⟩;refine Bj ⟨by decide,by decide,by decide⟩ (fM (gf (by decide) (by decide)) (oR ?_));rw[e12];refine⟨n,_,_,rfl,B1,by lia,by lia,by decide,by decide,λ r st2 r0 r1 B2 U2=>Bj ⟨by decide,by decide,by decide⟩ (oR (dJ ?_))⟩;rw[e12];refine k _ _ ?_ (B2.mono (by lia)) (U1.trans U2);unfold oO;rw[VU h15];lia
def mB:bw:=λ ds st K=>∃(n:Nat) (b:Int) (N w:Nat),ds=[.ref n,.int N,.int w]/\Hd st n b/\0<=b/\b<=800000000/\N<=8/\w<=8/\∀A st',Mx.aL N w A->(∀r∈A,∀x∈r,x.natAbs<=1000000000000)->(5<w->∀r∈A,∀x∈r,x.natAbs<=30)->Hd st' n (b+140)->Upd st n st'->K (aq A) st'
def xm:List Str:=["_law_hand_here","_law_many","_law_wide","_law_wild"]
def GK:DS:=(aB (a6 3 (ak bJ (aa (ab 0) (aa (dC (.int 16)) af))))
 (aB (cf (aE (ai lh (ab 2) (dC (.int 5)))) (a6 3 (aU BP (aa (ab 3) (aa (dC (.int 12)) af)))) bO)
 (aN (aU ck (aa (bh (cG (aa (ab 1) af)) [none,some 2,some 0,some 3] (aM 0) aW (aU ck (aa (bh (cG (aa (ab 1) af)) [none,some 2,some 3] (aM 0) aW (ak nR (aa (ab 1) (aa (ab 2) af)))) af))) af)))))
theorem Dq:VN mB 3 GK xm:=by
 rintro ds st K ⟨n,b,N,w,rfl,B,b0,hb,n8,w8,k⟩;refine⟨rfl,?_⟩;refine⟨n,16,_,rfl,B,b0,by lia,by decide,by decide,λ wl st1 r0 r1 B1 U1=>?_⟩;dsimp only;refine fC (λ σ' st'=>∃wild:Int,σ'=[some (.ref n),some (.int N),some (.int w),some (.int wild)]/\st'=st1/\(5<w->wild≠15)) (λ nx hnx=>?_) ?_
 . refine xN (λ h=>b_ (QP ?_)) λ h=>hnx _ _ ⟨wl,rfl,rfl,λ z=>by lia⟩;exact hnx _ _ ⟨_,rfl,rfl,λ _=>by split<;>lia⟩
 rintro σ' st' ⟨wild,rfl,rfl,hwild⟩;have nb:oO wild<=1000000000000:=by unfold oO;split<;>lia
 have nb2:5<w->oO wild<=30:=λ h=>by unfold oO;rw[VT (hwild h)];exact VQ _
 refine dW ⟨by lia,by lia⟩ ⟨aI (by rw[cv];lia),?_⟩;rw[Wi];refine cN (λ rest acc st'=>∃A:List (List Int),acc=A.map aR/\A.length+rest.length=N/\(∀r∈A,r.length=w)/\(∀r∈A,∀x∈r,x.natAbs<=oO wild)/\Hd st' n (b+1+16*A.length)/\Upd st n st') ?_ ?_ _ _ _ ⟨[],rfl,by rw[cv];simp,by simp,by simp,B1.mono (by simp),U1⟩
 . rintro acc st2 ⟨A,rfl,hl,hA,hbd,B2,U2⟩;have hl:A.length=N:=by simpa using hl
   exact⟨trivial,cj rfl (k A st2 ⟨hl,hA⟩ (λ r hr x hx=>VX (hbd r hr x hx) nb) (λ h r hr x hx=>VX (hbd r hr x hx) (nb2 h)) (B2.mono (by lia)) U2)⟩
 . rintro x rest acc st2 ⟨A,rfl,hl,hA,hbd,B2,U2⟩ next
   have hl2:A.length<N:=by simp at hl;lia
   refine⟨trivial,_,rfl,?_⟩;refine dW ⟨by lia,by lia⟩ ⟨aI (by rw[cv];lia),?_⟩;rw[Wi];refine cN (λ rest acc st'=>∃r:List Int,acc=av r/\r.length+rest.length=w/\(∀x∈r,x.natAbs<=oO wild)/\Hd st' n (b+1+16*A.length+2*r.length)/\Upd st n st') ?_ ?_ _ _ _ ⟨[],rfl,by rw[cv];simp,by simp,B2.mono (by simp),U2⟩
   . rintro acc st3 ⟨r,rfl,hr,hrb,B3,U3⟩;have hr:r.length=w:=by simpa using hr
     refine⟨trivial,cj rfl ?_⟩;show bz _ _ _ _ _ _ _ _ _;rw[nh];refine next _ _ ⟨A++[r],rfl,by simp at hl⊢;lia,λ q hq=>?_,λ q hq=>?_,B3.mono (by simp;lia),U3⟩
     . rcases Wf.mp hq with h|h
       . exact hA q h
       . rw[Wk.mp h];exact hr
     . rcases Wf.mp hq with h|h
       . exact hbd q h
       . rw[Wk.mp h];exact hrb
   . rintro y rest2 acc st3 ⟨r,rfl,hr,hrb,B3,U3⟩ next2;have hr2:r.length<w:=by simp at hr;lia
     refine⟨trivial,_,rfl,n,_,wild,rfl,B3,by lia,by lia,λ z st4 hz B4 U4=>?_⟩;show bz _ _ _ _ _ _ _ _ _;rw[ints_app];refine next2 _ _ ⟨r++[z],rfl,by simp at hr⊢;lia,λ x hx=>?_,B4.mono (by simp;lia),U3.trans U4⟩;rcases Wf.mp hx with h|h
     . exact hrb x h
     . rw[Wk.mp h];exact hz
def oJ:bw:=λ ds st K=>∃(n:Nat) (b:Int),ds=[.ref n]/\Hd st n b/\0<=b/\b<=800000000/\∀(w:Nat) (g:Bool) st',1<=w->w<=8->(g=true->6<=w)->(g=false->w<=4)->Hd st' n (b+2)->Upd st n st'->K (.tup [.int w,.bl g]) st'
def u7:List Str:=["_law_hand_here"]
def Dy:DS:=(aB (cf (aE (ai dE (ak bJ (aa (ab 0) (aa (dC (.int 8)) af))) (dC (.int 7)))) (aN (bZ (aa (ai cn (dC (.int 6)) (ak bJ (aa (ab 0) (aa (dC (.int 3)) af)))) (aa (dC (.bl true)) af)))) bO)
 (aN (bZ (aa (ai cn (dC (.int 1)) (ak bJ (aa (ab 0) (aa (dC (.int 4)) af)))) (aa (dC (.bl false)) af)))))
theorem BF:VN oJ 1 Dy u7:=by
 rintro ds st K ⟨n,b,rfl,B,b0,hb,k⟩;refine⟨rfl,?_⟩;refine⟨n,8,_,rfl,B,b0,by lia,by decide,by decide,λ r st1 r0 r1 B1 U1=>eq2 (λ _=>b_ ?_) λ _=>?_⟩
 . refine⟨n,3,_,rfl,B1,by lia,by lia,by decide,by decide,λ r st2 r0 r1 B2 U2=>dJ ⟨VP rfl,?_⟩⟩;obtain⟨j,rfl⟩:=WT r0;exact k (6+j) true st2 (by lia) (by lia) (λ _=>by lia) (λ z=>by cases z) (B2.mono (by lia)) (U1.trans U2)
 . refine⟨n,4,_,rfl,B1,by lia,by lia,by decide,by decide,λ r st2 r0 r1 B2 U2=>dJ ⟨VP rfl,?_⟩⟩;obtain⟨j,rfl⟩:=WT r0;exact k (1+j) false st2 (by lia) (by lia) (λ z=>by cases z) (λ _=>by lia) (B2.mono (by lia)) (U1.trans U2)
def jE:bw:=λ ds st K=>∃(d:D) (A:List (List Int)) (w:Nat),ds=[d]/\dv st d A/\(∀r∈A,r.length=w)/\A.length<=1000/\w<=1000/\K (.bl (bN [] (-1) A)) st
def sL:List Str:=["_law_rows_here","_law_last","_law_j","_law_row","_law_some"]
def Dc:DS:=(aB (a6 1 (g9 e6 (dC (.int 1))))
 (aB (jj (xo (aa (ab 0) af)) (fI 2 3) (aB (a6 4 (bh (cG (aa (aU dc (aa (ab 3) af)) af)) [none,some 3] (aM 0) (aE (ai qM (ai aK (ab 1) (ab 0)) (dC (.int 0)))) (ab 0)))
 (aB (cf (gF (aE (ai dE (ab 4) (fy af))) (gF (aE (ai zE (ai aK (ab 4) (dC (.int 0))) (ab 1))) (aE (ai oU (ai aK (ab 3) (ai aK (ab 4) (dC (.int 0)))) (dC (.int 0)))))) (aN (dC (.bl false))) bO)
 (aB (a6 1 (ai aK (ab 4) (dC (.int 0))))
 (cf (cO (aE (aU nC (aa (bh (cq (cH (ab 0) cp (cY (ab 2)))) [none,some 1,some 3] (aM 0) aW (tJ zE oU (dC (.int 0)) (ai aK (ab 0) (ab 1)) (ai aK (ab 2) (ab 1)))) af)))) (aN (dC (.bl false))) bO)))))
 (aN (dC (.bl true)))))
theorem Au:VN jE 1 Dc sL:=by
 rintro ds st K ⟨d,A,w,rfl,⟨da,hd,ra⟩,hw,hl,hw2,k⟩;refine⟨rfl,?_⟩;have hla:=ra.len;refine eH ?_;refine xY hd λ ok aC=>?_;refine gO (λ rest σ st'=>st'=st/\∃(v2 v3 v4:Option D) (ahead:Int) (A1 A2:List (List Int)) (ds2:List D),σ=[some d,some (.int ahead),v2,v3,v4]/\A=A1++A2/\aZ st ds2 A2/\rest=fz A1.length ds2/\bN [] (-1) A=bN A1 ahead A2) ?_ ?_ _ _ _ ⟨rfl,none,none,none,-1,[],A,da,rfl,rfl,ra,rfl,rfl⟩
 . rintro σ st' ⟨rfl,v2,v3,v4,ahead,A1,A2,ds2,rfl,hA,r2,hr,hs⟩;refine⟨aC _ hd,?_⟩;match ds2,A2,r2,hr with
   | [],[],_,_=>
     rw[hs]at k;exact k
 . rintro x rest σ st' ⟨rfl,v2,v3,v4,ahead,A1,A2,ds2,rfl,hA,r2,hr,hs⟩ next
   obtain⟨e,r,ds3,A3,rfl,rfl,rfl,rfl,he,r3⟩:=xk r2 hr.symm;refine⟨aC _ hd,_,rfl,?_⟩;rw[iO]at hs;have hrw:r.length=w:=hw r (by rw[hA];simp);refine cD he ?_;rw[VO];refine dW ⟨by lia,by lia⟩ ⟨aI (by rw[cv];lia),?_⟩;rw[Wi];refine DH (p:=λ j=>decide (r.getD j 0≠0)) (λ j hj=>⟨_,rfl,λ K' q=>?_,λ K' q=>q⟩) ?_
   . refine aw he (fF hj) (ne2 (λ h=>?_) λ h=>?_)
     . rw[Wr h]at q;exact q
     . rw[We (λ z=>z h)]at q;exact q
   have hf:=u4 r;generalize eps:((List.range r.length).filter λ j=>decide (r.getD j 0≠0))=ps at hf⊢;refine⟨VP rfl,qp (zw ps) (zw []) ?_⟩;match ps,eps,hf with
   | [],eps,hf=>
     rw[<-hf]at hs;rw[hs]at k;unfold cu fi;exact k
   |l::ps,eps,hf=>
    have hlead:d_ r=some l:=hf.symm;rw[hlead]at hs;have hlr:=zV hlead;have e0:cu (.lst ((l::ps).map λ(j:Nat)=>D.int (j:Int))) (.lst [])=false:=by unfold cu;exact kl (by simp)
    rw[e0];have ep0:∀s,items? s (.lst ((l::ps).map λ(j:Nat)=>D.int (j:Int)))=some (D.int (l:Int)::ps.map λ(j:Nat)=>D.int (j:Int)):=λ _=>rfl;refine aw (ep0 _) pS (AN ?_);by_cases h1:(l:Int)<=ahead
    . rw[Wr h1];simp only[VU (show(l:Int)<=ahead\/r.getD l 0<0 from .inl h1)]at hs;rw[hs]at k;exact k
    rw[We h1];refine aw (ep0 _) pS (aw he (fF hlr) (tX ?_));by_cases h2:r.getD l 0<0
    . rw[Wr h2];simp only[VU (show(l:Int)<=ahead\/r.getD l 0<0 from .inr h2)]at hs;rw[hs]at k;exact k
    rw[We h2];simp only[VT (show¬((l:Int)<=ahead\/r.getD l 0<0)from λ h=>h.elim h1 h2)]at hs;refine aw (ep0 _) pS ?_;refine Jr hd λ d' hd'=>gh hd' λ ok2 hok2=>?_;have ec:L3.cutD da none (some (A1.length:Int))=da.take A1.length:=i7
    have rr:aZ st' (L3.cutD da none (some (A1.length:Int))) A1:=by
     have:=aZ.take A1.length ra;rw[hA,List.take_left']at this
     . rw[ec];exact this
     . rfl
    refine⟨aI (by rw[rr.len];rw[hA]at hl;simp at hl;lia),?_⟩;refine qw (λ a=> .bl (decide (0<=a.getD l 0)&&decide (a.getD l 0<r.getD l 0))) hok2 rr (λ y a ha hy K' q=>⟨_,rfl,?_⟩) ?_
    . have hal:l<a.length:=by rw[hw a (by rw[hA];exact W5 _ ha),<-hrw];exact hlr
      refine aw hy (fF hal) (AN ?_);by_cases h3:0<=a.getD l 0
      . rw[Wr h3]at q⊢;exact aw he (fF hlr) (tX (by simpa using q))
      . rw[We h3]at q⊢;exact q
    . refine o7 (pW A1) ?_;have ea:(A1.map λ a=>decide (0<=a.getD l 0)&&decide (a.getD l 0<r.getD l 0)).all id=A1.all λ a=>decide (0<=a.getD l 0)&&decide (a.getD l 0<r.getD l 0):=by rw[YO];rfl
      rw[ea];cases e4:(A1.all λ a=>decide (0<=a.getD l 0)&&decide (a.getD l 0<r.getD l 0))with
      |false=>
       rw[e4]at hs;rw[hs]at k;exact k
      |true=>
       rw[e4]at hs;exact next _ _ ⟨rfl,_,_,_,(l:Int),A1++[r],A3,ds3,rfl,by rw[hA];simp,r3,by simp,hs⟩
def r_:bw:=λ ds st K=>∃(x y:D) (A:List (List Int)) (W:List Int) (N w a b:Nat),ds=[x,y,.int w]/\items? st x=some (av W)/\dv st y A/\Mx.aL N w A/\w<=16/\(∀z∈W,z.natAbs<=2^a)/\(∀r∈A,∀x∈r,x.natAbs<=2^b)/\a+b<=130000000/\∀st',Ext st st'->K (aR (Mx.dM W A (List.replicate w 0))) st'
def zm:List Str:=["_law_weights","_law_rows_here","_law_wide","_law_made","_law_weight","_law_row","_law_k"]
def Ho:DS:=(aB (a6 3 (ai uk (fy (aa (dC (.int 0)) af)) (ab 2)))
 (aB (jj (yM (aa (ab 0) (aa (ab 1) af))) (fI 4 5) (jj (cG (aa (ab 2) af)) (aM 6) (cZ (ab 3) (ab 6) (ai cn (ai aK (ab 3) (ab 6)) (ai dA (ab 4) (ai aK (ab 5) (ab 6)))))))
 (aN (aU ck (aa (ab 3) af)))))
theorem Le{M L:List Int}{k:Nat}(hl:M.length=L.length)(hk:k<L.length):(av (M.take k++L.drop k)).set k (.int (M.getD k 0))=av (M.take (k+1)++L.drop (k+1)):=by
 rw[<-List.map_set];congr 1;have l1:(M.take k).length=k:=by rw[Wl];lia
 rw[Zl _ _ (by lia),l1,XM,W6 hk,List.set_cons_zero,Zg (by lia),XO,Mx.ba (by lia)];rfl
theorem Qz{M L:List Int}{k:Nat}(hl:M.length=L.length)(hk:k<L.length):e_ (av (M.take k++L.drop k)) (k:Int)=some (.int (L.getD k 0)):=by
 have l1:(M.take k).length=k:=by rw[Wl];lia
 rw[fF (by rw[V3,WV,l1];lia),V1,Wu (by lia),l1,XM,YU,Nat.add_zero,V1]
theorem FO:VN r_ 3 Ho zm:=by
 rintro ds st K ⟨x,y,A,W,N,w,a0,b0,rfl,hx,⟨dr,hy,hr⟩,hA,w8,bW,bA,hab,k⟩;refine⟨rfl,?_⟩;refine⟨VP rfl,EV ⟨by lia,by lia,aI (by simp;lia)⟩ ?_⟩;rw[Wi,nH];have X0:Ext st (st++[.lst (av (List.replicate w 0))]):=Ext.push;have e0:(st++[Cell.lst (av (List.replicate w 0))])[st.length]?=some (.lst (av (List.replicate w 0))):=by simp
 refine xS (X0.items hx) (X0.items hy) λ ok aC=>?_;refine gO (λ rest σ st'=>∃(v4 v5 v6:Option D) (W':List Int) (ds':List D) (A':List (List Int)) (acc:List Int),rest=gY (av W') ds'/\aZ st ds' A'/\σ=[some x,some y,some (.int w),some (.ref st.length),v4,v5,v6]/\Ext st st'/\st'[st.length]?=some (.lst (av acc))/\acc.length=w/\(∀r∈A',r∈A)/\(∀z∈W',z∈W)/\Mx.dM W' A' acc=Mx.dM W A (List.replicate w 0)) ?_ ?_ _ _ _ ⟨none,none,none,W,dr,A,List.replicate w 0,rfl,hr,rfl,X0,e0,by simp,λ _ h=>h,λ _ h=>h,rfl⟩
 . rintro σ st1 ⟨v4,v5,v6,W',ds',A',acc,he,hr',rfl,X,e1,hl,_,_,hs⟩;refine⟨aC _ (X.items hx) (X.items hy),cj (ax e1) ?_⟩
   have:Mx.dM W' A' acc=acc:=by
    match W',ds',A',hr',he with
    | [],_,_,_,_=>unfold Mx.dM;rfl
    |_::_,[],[],_,_=>unfold Mx.dM;rfl
    |_::_,_::_,_::_,_,he=>cases he
   rw[this]at hs;rw[hs];exact k st1 X
 . rintro d rest σ st1 ⟨v4,v5,v6,W',ds',A',acc,he,hr',rfl,X,e1,hl,ha,hw',hs⟩ next
   match W',ds',A',he,hr',ha,hs with
   | [],_,_,he,_,_,_=>cases he
   |_::_,[],[],he,_,_,_=>cases he
   |a::W',dq::ds',q::A',he,hr',ha,hs=>
    have hz:gY (av (a::W')) (dq::ds')= .tup [.int a,dq]::gY (av W') ds':=rfl;rw[hz,Xe]at he;obtain⟨rfl,rfl⟩:=he;have lq:=hA.cM q (ha q V_);have bq:=bA q (ha q V_);have lM:(Mx.fU acc a q).length=acc.length:=Mx.m5 (by lia);refine⟨aC _ (X.items hx) (X.items hy),_,rfl,?_⟩;refine dW ⟨by lia,by lia⟩ ?_;rw[Wi];refine oh w (λ c σ st2=>∃v6:Option D,σ=[some x,some y,some (.int w),some (.ref st.length),some (.int a),some dq,v6]/\Ext st st2/\st2[st.length]?=some (.lst (av ((Mx.fU acc a q).take c++acc.drop c)))) ?_ ?_ ⟨_,rfl,X,by rw[List.take_zero,aaG];exact e1⟩
    . rintro σ st2 ⟨v6,rfl,X2,e2⟩;rw[W8 (by lia),WE,Xo (by lia)]at e2;exact next _ _ ⟨_,_,_,W',ds',A',_,rfl,hr'.2,rfl,X2,e2,by lia,λ r hr=>ha r (V5 _ hr),λ z hz=>hw' z (V5 _ hz),hs⟩
    . rintro c σ st2 rest2 hc ⟨v6,rfl,X2,e2⟩ next2;refine⟨_,rfl,?_⟩;have bc:=bq _ (getD_mem (r:=q) (k:=c) (by lia));refine aw (ax e2) (Qz lM (by lia)) (aw (X2.items hr'.1) (fF (by lia)) (fM (jD (bW a (hw' a V_)) bc hab) (dJ ?_)));refine e8 e2 (JL (by lia) (by rw[VO,V3,Wl,WV];lia)) ?_;rw[Wi];refine next2 _ _ ⟨_,rfl,X2.set (VQ _),?_⟩;rw[V7 (VV.mp e2).1,<-Le lM (by lia),Mx.yx (by lia)]
def ja:bw:=λ ds st K=>∃(x y:D) (A B:List (List Int)) (N p w a b:Nat),ds=[x,y,.int w]/\Cl x A/\Cl y B/\Mx.aL N p A/\Mx.aL p w B/\N<=8/\w<=16/\Bg A a/\Bg B b/\a+b<=130000000/\∀st',Ext st st'->K (aq (Mx.mulM A B w)) st'
def rm:List Str:=["_law_rows_here","_law_others","_law_wide"]
def Al:DS:=(aN (aU ck (aa (bh (cq (ab 0)) [none,some 1,some 2] (aM 0) aW (ak r_ (aa (ab 0) (aa (ab 1) (aa (ab 2) af))))) af)))
theorem xV:VN ja 3 Al rm:=by
 rintro ds st K ⟨x,y,A,B,N,p,w,a,b,rfl,⟨xs,ex,rx⟩,CB,iA,iB,n8,w16,bA,bB,hab,k⟩;refine⟨rfl,?_⟩;have lA:=iA.len;have lx:=(rx st).len;refine uu (ex _) λ ok aC=>⟨aI (by lia),?_⟩
 refine cN (λ rest acc st'=>∃i,i<=N/\rest=xs.drop i/\acc=((Mx.mulM A B w).take i).map aR/\Ext st st') ?_ ?_ _ _ _ ⟨0,Wg _,rfl,rfl,Ext.refl⟩
 . rintro acc st' ⟨i,hi,hr,rfl,X⟩;have:=Xr List.length hr;rw[WV,Yw]at this;refine⟨aC _ (ex _),cj rfl ?_⟩;rw[Xo (by rw[(Mx.mO iA iB).len];lia)];exact k st' X
 . rintro d rest acc st' ⟨i,hi,hr,rfl,X⟩ next
   have hix:i<xs.length:=by
    rcases ZC i xs.length with h|h
    . exact h
    . rw[W8 h]at hr;cases hr
   rw[W6 hix]at hr;obtain⟨rfl,rfl⟩:=Zd hr;have hiA:i<A.length:=by lia
   have hrow:items? st' xs[i]=some (av (A.getD i [])):=by
    obtain⟨r,er,hr⟩:=(rx st').get (V0 hix);rw[V0 hiA]at er;rw[Mx.ba hiA,WQ er];exact hr
   have hm:A.getD i []∈A:=by rw[Mx.ba hiA];exact XY _
   refine⟨aC _ (ex _),_,rfl,_,_,B,A.getD i [],p,w,a,b,rfl,hrow,CB.rows _,iB,w16,bA _ hm,bB,hab,λ st2 X2=>?_⟩;show bz _ _ _ _ _ _ _ _ _;rw[nh];refine next _ _ ⟨i+1,by lia,rfl,?_,X.trans X2⟩
   have e:(Mx.mulM A B w).take (i+1)=(Mx.mulM A B w).take i++[Mx.dM (A.getD i []) B (List.replicate w 0)]:=by
    unfold Mx.mulM;rw[List.take_succ,Wn,V0 hiA,Mx.ba hiA];rfl
   rw[e]
structure Tw(w m k e0:Nat)(F G:List (List Int)):Prop where
 iF:Mx.aL m w F
 sF:Mx.aY F m w (Mx.eQ F)
 rF:Mx.fW F m (Mx.eQ F)
 mF:m<=8
 iG:Mx.aL k w G
 sG:Mx.aY G k w (Mx.eQ G)
 rG:Mx.fW G k (Mx.eQ G)
 mG:k<=8
 mn:m+k<=8
 bF:∀r∈F,∀x∈r,x.natAbs<=2^e0
 bG:∀r∈G,∀x∈r,x.natAbs<=2^e0
 he:(w<=4/\e0=200)\/e0=110
def rP:bw:=λ ds st K=>∃(n:Nat) (b:Int) (w:Nat) (g f:Bool),ds=[.ref n,.int w,.bl g]/\Hd st n b/\n≠0/\0<=b/\b<=700000000/\1<=w/\w<=8/\(g=true->6<=w)/\(g=false->w<=4)/\st[0]?=some (dO f)/\∀st' F G m k e0 f',Tw w m k e0 F G->st'[0]?=some (dO f')->Hd st' n (b+1000)->K (.tup [.tup [.int w,aq F],.tup [.int w,aq G]]) st'
def yZ:List Str:=["_law_hand_here","_law_wide","_law_great","_law_many","_law_rows_here","_law_more","_law_way","_law_weights"]
def Il:DS:=(aB (a6 3 (ai aK (fy (aa (ak bJ (aa (ab 0) (aa (ai cn (ab 1) (dC (.int 2))) af))) (aa (ai cn (dC (.int 4)) (ak bJ (aa (ab 0) (aa (dC (.int 3)) af)))) af))) (aU l9 (aa (ab 2) af))))
 (aB (a6 4 (ak mB (aa (ab 0) (aa (ab 3) (aa (ab 1) af)))))
 (aB (a6 5 (aU jR (aa (ak mB (aa (ab 0) (aa (ai aK (fy (aa (ak bJ (aa (ab 0) (aa (ai cn (ab 1) (dC (.int 2))) af))) (aa (dC (.int 4)) af))) (aU l9 (aa (ab 2) af))) (aa (ab 1) af)))) af)))
 (aB (a6 6 (ak bJ (aa (ab 0) (aa (dC (.int 4)) af))))
 (aB (a6 7 (bh (cG (aa (ab 3) af)) [none,some 3] (aM 0) aW (bh (cG (aa (ab 1) af)) [none,some 0] (aM 0) aW (ai dA (ai cn (dC (.int 2)) (ai g4 (ab 1) (dC (.int 3)))) (aU l9 (aa (ai dE (ab 1) (ab 0)) af))))))
 (aB (cf (aE (ai dE (ab 6) (dC (.int 1)))) (a6 7 (bh (cG (aa (dC (.int 2)) af)) [none,some 3,some 0] (aM 0) aW (bh (cG (aa (ab 1) af)) [none,some 2] (aM 0) aW (ai nu (ak bJ (aa (ab 1) (aa (dC (.int 5)) af))) (dC (.int 2)))))) bO)
 (aB (cf (mq (aE (ai lh (ab 6) (dC (.int 0)))) (aE (ai lh (ab 3) (dC (.int 0))))) (a6 5 (ai cn (cH (aU jR (aa (ak k_ (aa (ab 7) (aa (ab 4) af))) af)) cp (cY (dC (.int 4)))) (cH (ab 5) cp (cY (ai nu (ab 6) (dC (.int 1))))))) bO)
 (aN (bZ (aa (ak pe (aa (ab 1) (aa (ab 4) af))) (aa (ak pe (aa (ab 1) (aa (cH (ab 5) cp (cY (ai nu (dC (.int 8)) (ab 3)))) af))) af)))))))))))
theorem Cq{ld:Nat->Nat}(s:Mx.aY F n w ld):n<=w:=by
 have h:∀i,i<n->i<=ld i:=λ i=>by
  induction i with
  |zero=>exact λ _=>Wg _
  |succ i ih=>exact λ hi=>Yv (ih (by lia)) (s.mono i (i+1) (WA i) hi)
 cases n with
 |zero=>exact Wg _
 |succ n=>exact Yv (h n (WA n)) (s.lead n (WA n)).1
theorem ID(w8:w<=8)(fo:Fo A N w F m)(hA:Mx.aL N w A)(bA:∀r∈A,∀x∈r,x.natAbs<=2^c0)(h:(w<=4/\c0=45/\e0=200)\/(c0=10/\e0=110)):∀r∈F,∀x∈r,x.natAbs<=2^e0:=λ r hr x hx=>by
 have mw:=Cq fo.st;obtain⟨i,hi,rfl⟩:=Wt.mp hr;obtain⟨c,hc,rfl⟩:=Wt.mp hx;have li:i<m:=by rw[<-fo.is.len];exact hi
 have lc:c<w:=by rw[<-fo.is.cM _ hr];exact hc
 have a:=fo.same.abs fo.m8 fo.st fo.red (b:=2^c0) (nQ hA bA) i c li lc;unfold Mx.g at a;rw[Mx.ba hi,Mx.ba hc]at a;refine VX a ?_;rcases h with⟨w4,rfl,rfl⟩|⟨rfl,rfl⟩
 . exact VX (WL (show m<=4 by lia) (Wc (by decide) (show m<=4 by lia))) (show 4*(9*2^45)^4<=2^200 by decide+kernel)
 . exact VX (WL (show m<=8 by lia) (Wc (by decide) (show m<=8 by lia))) (show 8*(9*2^10)^8<=2^110 by decide+kernel)
theorem FP:VN rP 3 Il yZ:=by
 rintro ds st K ⟨n,b,w,g,f,rfl,B,nz,b0,hb,w1,w8,hg,hg',t0,k⟩;refine⟨rfl,?_⟩
 obtain⟨c0,e0,hc⟩:∃c0 e0,((w<=4/\c0=45/\e0=200)\/(c0=10/\e0=110))/\(c0=10->5<w):=by
  cases g with
  |false=>exact⟨45,200,.inl ⟨hg' rfl,rfl,rfl⟩,λ h=>absurd h (by decide)⟩
  |true=>exact⟨10,110,.inr ⟨rfl,rfl⟩,λ _=>by have:=hg rfl;lia⟩
 obtain⟨hc,hc5⟩:=hc
 have small:∀ {X:List (List Int)},(∀r∈X,∀x∈r,x.natAbs<=1000000000000)->(5<w->∀r∈X,∀x∈r,x.natAbs<=30)->∀r∈X,∀x∈r,x.natAbs<=2^(c0-5):=λ h1 h2 r hr x hx=>by
  rcases hc with⟨_,rfl,_⟩|⟨rfl,_⟩
  . exact VX (h1 r hr x hx) (by decide)
  . exact VX (h2 (hc5 rfl) r hr x hx) (by decide)
 have c5:5<=c0:=by rcases hc with⟨_,rfl,_⟩|⟨rfl,_⟩<;>decide
 have up:2^(c0-5)<=2^c0:=Wc (by decide) (by lia);refine fC (A:=a6 3 _) (λ σ s=>∃N:Nat,σ=[some (.ref n),some (.int w),some (.bl g),some (.int N),none,none,none,none]/\N<=6/\Hd s n (b+2)/\Upd st n s) (λ nx hnx=>?_) ?_
 . refine dJ ⟨n,_,b,rfl,B,b0,by lia,by lia,by lia,λ r1 st1 a0 a1 B1 U1=>⟨n,3,_,rfl,B1,by lia,by lia,by decide,by decide,λ r2 st2 d0 d1 B2 U2=>dJ ⟨VP rfl,?_⟩⟩⟩;obtain⟨r1,rfl⟩:=WT a0;obtain⟨r2,rfl⟩:=WT d0;cases g with
   |false=>exact iw (aw rfl rfl (hnx _ _ ⟨r1,rfl,by have:=hg' rfl;lia,B2.mono (by lia),U1.trans U2⟩))
   |true=>exact iw (aw rfl rfl (hnx _ _ ⟨4+r2,rfl,by lia,B2.mono (by lia),U1.trans U2⟩))
 rintro _ st2 ⟨N,rfl,n6,B2,U2⟩;refine⟨n,_,N,w,rfl,B2,by lia,by lia,by lia,w8,λ A st3 hA bA bA30 B3 U3=>?_⟩;have lA:=hA.len;have sA:=small bA bA30;try dsimp only
 refine fC (A:=a6 5 _) (λ σ s=>∃(C:List (List Int)) (N2:Nat),σ=[some (.ref n),some (.int w),some (.bl g),some (.int N),some (aq A),some (.lst (C.map aR)),none,none]/\Mx.aL N2 w C/\N2<=8/\(∀r∈C,∀x∈r,x.natAbs<=2^(c0-5))/\Hd s n (b+300)/\Upd st n s) (λ nx hnx=>?_) ?_
 . refine dJ ⟨n,_,_,rfl,B3,by lia,by lia,by lia,by lia,λ r4 st4 a0 a1 B4 U4=>⟨VP rfl,?_⟩⟩;obtain⟨r4,rfl⟩:=WT a0;cases g with
   |false=>exact iw (aw rfl rfl ⟨n,_,r4,w,rfl,B4,by lia,by lia,by have:=hg' rfl;lia,w8,λ C st5 hC bC bC30 B5 U5=>jC rfl (hnx _ _ ⟨C,r4,rfl,hC,by have:=hg' rfl;lia,small bC bC30,B5.mono (by lia),((U2.trans U3).trans U4).trans U5⟩)⟩)
   |true=>exact iw (aw rfl rfl ⟨n,_,4,w,rfl,B4,by lia,by lia,by decide,w8,λ C st5 hC bC bC30 B5 U5=>jC rfl (hnx _ _ ⟨C,4,rfl,hC,by decide,small bC bC30,B5.mono (by lia),((U2.trans U3).trans U4).trans U5⟩)⟩)
 rintro _ st5 ⟨C,N2,rfl,hC,n2,sC,B5,U5⟩;refine⟨n,4,_,rfl,B5,by lia,by lia,by decide,by decide,λ wy st6 y0 y1 B6 U6=>?_⟩;refine dW ⟨by lia,by lia⟩ ⟨aI (by rw[cv];lia),?_⟩;rw[Wi];refine gy (λ j=>a7 ((List.range N).map λ q=>(2+(j:Int).fmod 3)*Mx.dl q j)) N (λ j hj K' t=>⟨_,rfl,?_⟩) ?_
 . refine dW ⟨by lia,by lia⟩ ⟨aI (by rw[cv];lia),?_⟩;rw[Wi];refine gy (λ q=> .int ((2+(j:Int).fmod 3)*Mx.dl q j)) N (λ q hq K' t=>⟨_,rfl,?_⟩) ?_
   . refine kZ (by decide) (dJ ?_);refine eq2 (λ h=>iw (fM (Ep (by decide) (by decide)) ?_)) λ h=>iw (fM (Ep (by decide) (by decide)) ?_)
     . have:j=q:=by lia
       subst this;rw[Mx.cR]at t;exact t
     . rw[Mx.dw (by lia)]at t;exact t
   . have:(List.range N).map (λ q=>D.int ((2+(j:Int).fmod 3)*Mx.dl q j))=av ((List.range N).map λ q=>(2+(j:Int).fmod 3)*Mx.dl q j):=by unfold av;rw[WB];rfl
     rw[this];exact t
 have eW:(List.range N).map (λ(j:Nat)=>a7 ((List.range N).map λ q=>(2+(j:Int).fmod 3)*Mx.dl q j))=((List.range N).map λ(j:Nat)=>(List.range N).map λ q=>(2+(j:Int).fmod 3)*Mx.dl q j).map a7:=by rw[WB];rfl
 rw[eW];try dsimp only
 have hW0:Mx.aL N N ((List.range N).map λ(j:Nat)=>(List.range N).map λ q=>(2+(j:Int).fmod 3)*Mx.dl q j):=⟨by simp,λ r hr=>by
  obtain⟨j,_,rfl⟩:=V9.mp hr;simp⟩
 have bW0:∀r∈(List.range N).map (λ(j:Nat)=>(List.range N).map λ q=>(2+(j:Int).fmod 3)*Mx.dl q j),∀x∈r,x.natAbs<=4:=λ r hr x hx=>by
  obtain⟨j,_,rfl⟩:=V9.mp hr;obtain⟨q,_,rfl⟩:=V9.mp hx;have h1:=WW (j:Int) (show(0:Int)<3 by decide);have h2:=Xl (j:Int) (show(0:Int)<3 by decide);by_cases z:q=j
  . rw[z,Mx.cR];lia
  . rw[Mx.dw z];lia
 generalize(List.range N).map (λ(j:Nat)=>(List.range N).map λ q=>(2+(j:Int).fmod 3)*Mx.dl q j)=W0 at hW0 bW0;refine fC (A:=cf _ _ _) (λ σ s=>∃(W:List (List Int)) (M:Nat),σ=[some (.ref n),some (.int w),some (.bl g),some (.int N),some (aq A),some (.lst (C.map aR)),some (.int wy),some (.lst (W.map a7))]/\Mx.aL M N W/\M<=8/\(∀r∈W,∀x∈r,x.natAbs<=4)/\Upd st n s/\Hd s n (b+1000)) (λ nx hnx=>?_) ?_
 . refine eq2 (λ h=>b_ ?_) λ h=>hnx _ _ ⟨W0,N,rfl,hW0,by lia,bW0,U5.trans U6,B6.mono (by lia)⟩;refine dW ⟨by decide,by decide⟩ ⟨aI (by rw[cv];decide),?_⟩;refine cN (λ rest acc st'=>∃R:List (List Int),acc=R.map a7/\R.length+rest.length=2/\(∀r∈R,r.length=N)/\(∀r∈R,∀x∈r,x.natAbs<=4)/\Hd st' n (b+301+16*R.length)/\Upd st n st') ?_ ?_ _ _ _ ⟨[],rfl,by rw[cv];rfl,by simp,by simp,B6.mono (by simp;lia),U5.trans U6⟩
   . rintro acc st7 ⟨R,rfl,hl,hR,hbd,B7,U7⟩;have hl:R.length=2:=by simpa using hl
     exact⟨trivial,hnx _ _ ⟨R,2,rfl,⟨hl,hR⟩,by decide,hbd,U7,B7.mono (by lia)⟩⟩
   . rintro x rest acc st7 ⟨R,rfl,hl,hR,hbd,B7,U7⟩ next
     have hl2:R.length<2:=by simp at hl;lia
     refine⟨trivial,_,rfl,?_⟩;refine dW ⟨by lia,by lia⟩ ⟨aI (by rw[cv];lia),?_⟩;rw[Wi];refine cN (λ rest acc st'=>∃r:List Int,acc=av r/\r.length+rest.length=N/\(∀x∈r,x.natAbs<=4)/\Hd st' n (b+301+16*R.length+r.length)/\Upd st n st') ?_ ?_ _ _ _ ⟨[],rfl,by rw[cv];simp,by simp,B7.mono (by simp),U7⟩
     . rintro acc st8 ⟨r,rfl,hr,hrb,B8,U8⟩;have hr:r.length=N:=by simpa using hr
       refine⟨trivial,?_⟩;show bz _ _ _ _ _ _ _ _ _;have ea:R.map a7++[D.lst (av r)]=(R++[r]).map a7:=by rw[WJ];rfl
       rw[ea];refine next _ _ ⟨R++[r],rfl,by simp at hl⊢;lia,λ q hq=>?_,λ q hq=>?_,B8.mono (by simp;lia),U8⟩
       . rcases Wf.mp hq with h|h
         . exact hR q h
         . rw[Wk.mp h];exact hr
       . rcases Wf.mp hq with h|h
         . exact hbd q h
         . rw[Wk.mp h];exact hrb
     . rintro y rest2 acc st8 ⟨r,rfl,hr,hrb,B8,U8⟩ next2;have hr2:r.length<N:=by simp at hr;lia
       refine⟨trivial,_,rfl,n,5,_,rfl,B8,by lia,by lia,by decide,by decide,λ z st9 z0 z1 B9 U9=>oR ?_⟩;show bz _ _ _ _ _ _ _ _ _;rw[ints_app];refine next2 _ _ ⟨r++[z-2],rfl,by simp at hr⊢;lia,λ x hx=>?_,B9.mono (by simp;lia),U8.trans U9⟩;rcases Wf.mp hx with h|h
       . exact hrb x h
       . rw[Wk.mp h];lia
 rintro _ st7 ⟨W,M,rfl,hW,m8,bW,U7,B7⟩;have t7:st7[0]?=some (dO f):=(U7.same 0 (V6 nz)).trans t0;have lC:=hC.len;refine fC (A:=cf _ _ _) (λ σ s=>∃(C':List (List Int)),σ=[some (.ref n),some (.int w),some (.bl g),some (.int N),some (aq A),some (.lst (C'.map aR)),some (.int wy),some (.lst (W.map a7))]/\(∀r∈C',r.length=w)/\(∀r∈C',∀x∈r,x.natAbs<=2^c0)/\C'.length<=16/\s=st7) (λ nx hnx=>?_) ?_
 . have old:=hnx _ _ ⟨C,rfl,hC.cM,λ r hr x hx=>VX (sC r hr x hx) up,by lia,rfl⟩;refine xN (λ h=>b_ (xN (λ h2=>b_ ?_) λ _=>old)) λ _=>old;refine⟨_,_,w,W,A,rfl,Ny,dX,λ z=>by rw[z]at lA;simp at lA;lia,hA.cM,by lia,by rw[hW.len];lia,λ q hq c hc r hr y hy=>gf (by have:=bW q hq c hc;lia) (by have:=bW q hq c hc;lia),?_⟩;have iP:=Mx.mO hW hA
   have bP:∀r∈Mx.mulM W A w,∀x∈r,x.natAbs<=2^c0:=λ r hr x hx=>by
    obtain⟨i,hi,rfl⟩:=Wt.mp hr;obtain⟨c,hc',rfl⟩:=Wt.mp hx;have li:i<M:=by rw[<-iP.len];exact hi
    have lc:c<w:=by rw[<-iP.cM _ hr];exact hc'
    have a:=Mx.Kt hW hA (by lia) (a:=2) (b:=c0-5) (nQ hW bW) (nQ hA sA) i c li lc;unfold Mx.g at a;rw[Mx.ba hi,Mx.ba hc']at a;exact VX a (Wc (by decide) (by lia))
   refine jC rfl (gp (oR (gp ?_)));obtain⟨v,hv⟩:∃v:Nat,wy-1=(v:Int):=⟨(wy-1).toNat,by lia⟩
   rw[hv];have e4:L3.cutD ((Mx.mulM W A w).map aR) none (some 4)=((Mx.mulM W A w).take 4).map aR:=by rw[XD];exact i7 (j:=4)
   rw[e4,i7,<-XD];refine mV (aI (by rw[VO,VO,Wl,Wl];lia)) ?_;rw[<-WJ];refine hnx _ _ ⟨_,rfl,λ r hr=>?_,λ r hr=>?_,by rw[V3,Wl,Wl];lia,rfl⟩
   . rcases Wf.mp hr with z|z
     . exact iP.cM r (W7 z)
     . exact hC.cM r (W7 z)
   . rcases Wf.mp hr with z|z
     . exact bP r (W7 z)
     . exact λ x hx=>VX (sC r (W7 z) x hx) up
 rintro _ _ ⟨C',rfl,wC,bC,lC',rfl⟩;have sA':∀r∈A,∀x∈r,x.natAbs<=2^c0:=λ r hr x hx=>VX (sA r hr x hx) up;have c45:c0<=45:=by rcases hc with⟨_,rfl,_⟩|⟨rfl,_⟩<;>decide
 refine⟨_,A,N,w,c0,f,rfl,dX,hA,by lia,w8,mR hA (nQ hA sA'),by lia,t7,λ st8 F m K8 foA=>?_⟩;obtain⟨f8,t8⟩:=K8.tb;refine oR (gp ?_);rw[show(8:Int)-(N:Int)=((8-N:Nat):Int) by lia,i7,<-XD];have hT:Mx.aL (C'.take (8-N)).length w (C'.take (8-N)):=⟨rfl,λ r hr=>wC r (W7 hr)⟩
 have bT:∀r∈C'.take (8-N),∀x∈r,x.natAbs<=2^c0:=λ r hr=>bC r (W7 hr);have lT:(C'.take (8-N)).length<=8:=by rw[Wl];lia
 refine⟨_,C'.take (8-N),_,w,c0,f8,rfl,⟨_,rfl,aZ.tup⟩,hT,lT,w8,mR hT (nQ hT bT),by lia,t8,λ st9 G q K9 foC=>⟨VP rfl,?_⟩⟩;obtain⟨f9,t9⟩:=K9.tb;exact k st9 F G m q e0 f9 ⟨foA.is,foA.st,foA.red,foA.m8,foC.is,foC.st,foC.red,foC.m8,(by have h1:=foA.le;have h2:=foC.le;have h3:=Wl (i:=8-N) (l:=C');lia),ID w8 foA hA sA' hc,ID w8 foC hT bT hc,by rcases hc with⟨z,_,y⟩|⟨_,y⟩;exact .inl ⟨z,y⟩;exact .inr y⟩ t9 (B7.cell ((K9.fr n (Wj B7.lt K8.le) nz).trans (K8.fr n B7.lt nz)))
def fE:bw:=λ ds st K=>∃(d m:D),ds=[d,m]/\Any st d/\(m= .ao\/∃i,m= .int i)/\K (.bl (match items? st d with|some xs=>i8 xs.length m|none=>false)) st
def qZ:List Str:=["_law_thing","_law_many"]
def Ab:DS:=(aN (ix (aU gn (aa (ab 0) (aa (bZ (aa (dC (.ty "tuple")) (aa (dC (.ty "list")) af))) af))) (F8 (ai CC (ab 1) (dC .ao)) (ai dE (aU dc (aa (ab 0) af)) (ab 1)))))
theorem Vo{st:ae}{K:DK}(h:Any st x)(k:K (.bl (items? st x).isSome) st):gn [x,.tup [.ty "tuple",.ty "list"]] st K:=by
 obtain⟨t,ht⟩:=h;rw[<-zp ht]at k;have hm:=jt ht;refine Er ht rfl (by decide) ?_;simp only[iJ,V4,Wh,Xn]at hm;rcases hm with rfl|rfl|rfl|rfl|rfl|rfl<;>exact k
theorem yp:VN fE 2 Ab qZ:=by
 rintro ds st K ⟨d,m,rfl,hd,hm,k⟩;refine⟨rfl,VP rfl,Vo hd ?_⟩;cases e:items? st d with
 |none=>rw[e]at k;exact k
 |some xs=>
  rw[e]at k;dsimp only at k;refine b_ ?_;rcases hm with rfl|⟨i,rfl⟩
  . exact oY rfl k
  . exact oY rfl (cD e (xB k))
def gJ:bw:=λ ds st K=>∃(x m:D) (w:Nat),ds=[x,m,.int w]/\e9 x/\(m= .ao\/∃i,m= .int i)/\K (.bl (cK [] x m w)) st
def qY:List Str:=["_law_thing","_law_many","_law_wide","_law_row"]
def AA:DS:=(aB (cf (gF (cO (aE (ak fE (aa (ab 0) (aa (ab 1) af))))) (cO (aE (aU nC (aa (bh (cq (ab 0)) [none,some 2] (aM 0) aW (ak fE (aa (ab 0) (aa (ab 1) af)))) af))))) (aN (dC (.bl false))) bO)
 (aB (jj (cq (ab 0)) (aM 3) (cf (cO (aE (aU nC (aa (bh (cq (ab 3)) [none] (aM 0) aW (ix (aU gn (aa (ab 0) (aa (dC (.ty "int")) af))) (wL (aE (aU gn (aa (ab 0) (aa (dC (.ty "bool")) af))))))) af)))) (aN (dC (.bl false))) bO))
 (aN (dC (.bl true)))))
def oj(w:Nat)(r:D):Bool:=match items? [] r with|some ys=>decide ((ys.length:Int)=(w:Int))|none=>false
def xt(r:D):Bool:=match items? [] r with|some ys=>ys.all isInt|none=>false
theorem Dg{w:Nat}{r:D}:eL [] r w=(oj w r&&xt r):=by
 unfold eL oj xt;cases items? [] r with
 |none=>rfl
 |some ys=>rfl
theorem EF{w:Nat}:∀xs:List D,(xs.all λ r=>eL [] r w)=((xs.all (oj w))&&xs.all xt)
 | []=>rfl
 |x::xs=>by
  rw[WY,WY,WY,EF xs,Dg];cases oj w x<;>cases xt x<;>cases xs.all (oj w)<;>simp
theorem Po{st:ae}{K:DK}(h:Any st x)(q:K (.bl (isInt x)) st):(ix (aU gn (aa (ab 0) (aa (dC (.ty "int")) af))) (wL (aE (aU gn (aa (ab 0) (aa (dC (.ty "bool")) af)))))) [some x] st K:=by
 obtain⟨t,ht⟩:=h;rw[<-vG ht]at q;have hm:=jt ht;refine gj ht (by decide) ?_;simp only[iJ,V4,Wh,Xn]at hm;rcases hm with rfl|rfl|rfl|rfl|rfl|rfl
 . exact q
 . refine b_ (gj ht (by decide) ?_);exact q
 . refine b_ (gj ht (by decide) ?_);exact q
 . exact q
 . exact q
 . exact q
theorem yC:VN gJ 3 AA qY:=by
 rintro ds st K ⟨x,m,w,rfl,hx,hm,k⟩;refine⟨rfl,x,m,rfl,hx.any st,hm,?_⟩;rcases hx with f|⟨xs,l,lz,q⟩
 . rw[gN (f []).2]at k;rw[(f st).2];exact k
 rw[fm (l.items []),EF]at k;rw[l.items st];dsimp only;cases em:i8 xs.length m with
 |false=>rw[em]at k;exact k
 |true=>
 rw[em,W_]at k;refine gh (l.items st) λ ok aC=>⟨aI lz,comp_map (g:=λ r=> .bl (oj w r)) aC xs (λ y hy K' z=>⟨_,rfl,y,_,rfl,(q y hy).any st,.inr ⟨_,rfl⟩,?_⟩) ?_⟩
 . have e:(match items? st y with|some xs=>i8 xs.length (.int (w:Int))|none=>false)=oj w y:=by
    unfold oj;rcases q y hy with f|⟨ys,ly,_⟩
    . rw[(f st).2,(f []).2]
    . rw[ly.items st,ly.items []];rfl
   rw[e];exact z
 refine o7 (lD xs) ?_;have ea:(xs.map (oj w)).all id=xs.all (oj w):=by rw[YO];rfl
 rw[ea];cases e1:xs.all (oj w)with
 |false=>rw[e1]at k;exact k
 |true=>
 rw[e1,W_]at k;refine nv ?_;dsimp only[bO];refine gh (l.items st) λ ok2 hok2=>?_;refine gO (λ rest σ st'=>st'=st/\(∃v3:Option D,σ=[some x,some m,some (.int w),v3])/\(∀y∈rest,pv y/\oj w y=true)/\xs.all xt=rest.all xt) ?_ ?_ _ _ _ ⟨rfl,⟨none,rfl⟩,λ y hy=>⟨q y hy,Wm.mp e1 y hy⟩,rfl⟩
 . rintro σ st' ⟨rfl,⟨v3,rfl⟩,_,ha⟩;rw[ha]at k;exact⟨hok2,k⟩
 . rintro d rest σ st' ⟨rfl,⟨v3,rfl⟩,hT,ha⟩ next
   obtain⟨hd,hl⟩:=hT d V_;rw[WY]at ha;refine⟨hok2,_,rfl,?_⟩;rcases hd with f|⟨ys,ly,lz2,qy⟩
   . unfold oj at hl;rw[(f []).2]at hl;cases hl
   have e3:xt d=ys.all isInt:=by unfold xt;rw[ly.items]
   rw[e3]at ha;refine gh (ly.items _) λ ok3 hok3=>⟨aI lz2,comp_map (g:=λ r=> .bl (isInt r)) hok3 ys (λ y hy K' z=>⟨_,rfl,Po ((qy y hy).any _) z⟩) ?_⟩
   refine o7 (lD ys) ?_;have eb:(ys.map isInt).all id=ys.all isInt:=by rw[YO];rfl
   rw[eb];cases e4:ys.all isInt with
   |false=>rw[ha,e4]at k;exact k
   |true=>
    refine next _ _ ⟨rfl,⟨_,rfl⟩,λ z hz=>hT z (V5 _ hz),?_⟩
    rw[ha,e4];rfl
def lY:bw:=λ ds st K=>∃(x:D) (w:Nat),ds=[x,.int w]/\fK x/\w<=8/\K (.bl (d9 w x)) st
def qQ:List Str:=["_law_thing","_law_wide"]
def AB:DS:=(aB (cf (gF (cO (aE (ak fE (aa (ab 0) (aa (dC (.int 2)) af))))) (gF (cO (aE (aU gn (aa (ai aK (ab 0) (dC (.int 0))) (aa (dC (.ty "int")) af))))) (aE (aU gn (aa (ai aK (ab 0) (dC (.int 0))) (aa (dC (.ty "bool")) af)))))) (aN (dC (.bl false))) bO)
 (aN (ix (ai dE (ai aK (ab 0) (dC (.int 0))) (ab 1)) (ix (ak gJ (aa (ai aK (ab 0) (dC (.int 1))) (aa (dC .ao) (aa (ab 1) af)))) (ak jE (aa (ai aK (ab 0) (dC (.int 1))) af))))))
theorem yi:VN lY 2 AB qQ:=by
 rintro ds st K ⟨x,w,rfl,hx,w8,k⟩;refine⟨rfl,x,.int 2,rfl,hx.any st,.inr ⟨_,rfl⟩,?_⟩;rcases hx with f|⟨xs,l,_,q⟩
 . rw[tE (f []).2]at k;rw[(f st).2];exact k
 rw[l.items st];by_cases h2:xs.length=2;rotate_left
 . rw[vN (l.items []) h2]at k;have:i8 xs.length (.int 2)=false:=We (by lia);dsimp only;rw[this];exact k
 obtain⟨a,b,rfl⟩:=tx h2;have ta:=q a (by simp);have tb:=q b (by simp);obtain⟨t,ht⟩:=ta.any st;have hm:=jt ht;refine ji ?_;refine aw (l.items st) rfl (gj ht (by decide) ?_);have e:=vG ht;cases ei:isInt a with
 |false=>
  rw[vx (l.items []) ei]at k;rw[ei]at e;simp only[iJ,V4,Wh,Xn]at hm;rcases hm with rfl|rfl|rfl|rfl|rfl|rfl
  . exact k
  . refine ji (aw (l.items st) rfl (gj ht (by decide) ?_));exact k
  . cases e
  . exact k
  . exact k
  . exact k
 |true=>
  obtain⟨i,rfl⟩:=vR ei;cases ht;rw[m9 (l.items [])]at k;refine ji (aw (l.items st) rfl (gj rfl (by decide) ?_));refine aw (l.items st) rfl (eq2 (λ h=>b_ ?_) λ h=>?_);rotate_left
  . rw[We h]at k;exact k
  rw[Wr h,W_]at k;refine aw (l.items st) rfl ⟨b,.ao,w,rfl,tb,.inl rfl,?_⟩;cases e1:cK [] b .ao w with
  |false=>rw[e1]at k;exact k
  |true=>
  rw[e1]at k;obtain⟨C,hw,hl⟩:=tb.Gm e1;exact b_ (aw (l.items st) rfl ⟨b,_,w,rfl,C.rows st,hw,hl,by lia,k⟩)
def lP:bw:=λ ds st K=>∃(x y:D) (n:Nat),ds=[x,y,.int n]/\e9 x/\e9 y/\n<=8/\∀st',Ext st st'->K (.bl (r9 x y n)) st'
def qO:List Str:=["_law_turn","_law_back","_law_many"]
def Ad:DS:=(aB (cf (gF (cO (aE (ak gJ (aa (ab 0) (aa (ab 2) (aa (ab 2) af)))))) (cO (aE (ak gJ (aa (ab 1) (aa (ab 2) (aa (ab 2) af))))))) (aN (dC (.bl false))) bO)
 (aN (ai dE (ak ja (aa (ab 0) (aa (ab 1) (aa (ab 2) af)))) (aU ck (aa (bh (cG (aa (ab 2) af)) [none,some 2] (aM 0) aW (aU ck (aa (bh (cG (aa (ab 1) af)) [none,some 0] (aM 0) aW (aU l9 (aa (ai dE (ab 1) (ab 0)) af))) af))) af)))))
theorem B0{st:ae}{K:List D->ae->Prop}(n8:n<=8)(k:K ((Mx.units n).map aR) st):bz (aM 0) aW (aU ck (aa (bh (cG (aa (ab 1) af)) [none,some 0] (aM 0) aW (aU l9 (aa (ai dE (ab 1) (ab 0)) af))) af)) (λ _=>True) [none,some (.int n)] (du 0 n) [] st K:=by
 refine gy (λ i=>aR (Mx.eX n i)) n (λ i hi K' q=>⟨_,rfl,?_⟩) ?_
 . refine dW ⟨by lia,by lia⟩ ⟨aI (by rw[cv];lia),?_⟩;rw[Wi];refine gy (λ j=> .int (Mx.dl i j)) n (λ j hj K2 q2=>⟨_,rfl,?_⟩) (cj rfl ?_)
   . refine eq2 (λ h=>iw ?_) λ h=>iw ?_
     . rw[show Mx.dl i j=1 by rw[show i=j by lia];exact Mx.cR j]at q2;exact q2
     . rw[Mx.dw (by lia)]at q2;exact q2
   . have e:(List.range n).map (λ j=>D.int (Mx.dl i j))=av (Mx.eX n i):=by
      unfold av Mx.eX;rw[WB];refine WU λ j _=>?_;show D.int (Mx.dl i j)=D.int _;unfold Mx.dl;congr 1;show(if i=j then(1:Int)else 0)=if j=i then 1 else 0
      by_cases h:i=j
      . rw[VU h,VU h.symm]
      . rw[VT h,VT (V6 h)]
     rw[e];exact q
 . have e:(List.range n).map (λ i=>aR (Mx.eX n i))=(Mx.units n).map aR:=by
    unfold Mx.units;rw[WB];rfl
   rw[e];exact k
theorem yl:VN lP 3 Ad qO:=by
 rintro ds st K ⟨x,y,n,rfl,hx,hy,n8,k⟩;refine⟨rfl,x,_,n,rfl,hx,.inr ⟨_,rfl⟩,?_⟩;unfold r9 E9 at k;cases e1:cK [] x (.int n) n with
 |false=>have k:=k st Ext.refl;rw[e1]at k;exact k
 |true=>
 rw[e1]at k;refine⟨y,_,n,rfl,hy,.inr ⟨_,rfl⟩,?_⟩;cases e2:cK [] y (.int n) n with
 |false=>have k:=k st Ext.refl;rw[e2]at k;exact k
 |true=>
 rw[e2]at k;obtain⟨C1,M1,b1⟩:=hx.rows e1;obtain⟨C2,M2,b2⟩:=hy.rows e2;refine⟨x,y,_,_,n,n,n,64000000,64000000,rfl,C1,C2,M1,M2,n8,by lia,b1,b2,by decide,λ st1 X1=>?_⟩;refine dW ⟨by lia,by lia⟩ ⟨aI (by rw[cv];lia),?_⟩;rw[Wi];refine B0 n8 (cj rfl ?_);refine qp j7 j7 ?_;rw[vz];exact k st1 X1
def nU:bw:=λ ds st K=>∃(F G:List (List Int)) (m n w:Nat) (x y:D),ds=[dZ w F,dZ w G,x,y]/\Tv F G m n w/\fK x/\fK y/\∀st',Ext st st'->K (.bl (kb (Mx.dbl F G w) (m+n) w x y)) st'
def zy:List Str:=["_law_one","_law_other","_law_told","_law_paper","_law_wide","_law_rows_here","_law_made","_law_form"]
def IT:DS:=(aB (a6 4 (ai aK (ab 0) (dC (.int 0))))
 (aB (a6 5 (ai cn (bh (cq (ai aK (ab 0) (dC (.int 1)))) [none] (aM 0) aW (ai cn (ab 0) (ab 0))) (bh (cq (ai aK (ab 1) (dC (.int 1)))) [none,some 4] (aM 0) aW (ai cn (ab 0) (ai dA (bZ (aa (dC (.int 0)) af)) (ab 1))))))
 (aB (cf (gF (cO (aE (ak lY (aa (ab 2) (aa (ab 4) af))))) (cO (aE (ak fE (aa (ab 3) (aa (dC (.int 2)) af)))))) (aN (dC (.bl false))) bO)
 (aB (cf (cO (aE (ak lP (aa (ai aK (ab 3) (dC (.int 0))) (aa (ai aK (ab 3) (dC (.int 1))) (aa (aU dc (aa (ab 5) af)) af)))))) (aN (dC (.bl false))) bO)
 (aB (a6 6 (ak ja (aa (ai aK (ab 3) (dC (.int 0))) (aa (ab 5) (aa (ai dA (dC (.int 2)) (ab 4)) af)))))
 (aB (a6 7 (bh (cq (ab 6)) [none] (aM 0) (aE (aU ug (aa (ab 0) af))) (ab 0)))
 (aB (cf (gF (aE (ai Bz (aU jR (aa (cH (ab 6) cp (cY (aU dc (aa (ab 7) af)))) af)) (ab 7))) (cO (aE (ak jE (aa (ab 7) af))))) (aN (dC (.bl false))) bO)
 (aN (ai dE (bh (cq (ab 7)) [none,some 4] (aM 0) (cO (aE (aU ug (aa (cH (ab 0) cp (cY (ab 1))) af)))) (cH (ab 0) (cY (ab 1)) cp)) (bh (cq (ai aK (ab 2) (dC (.int 1)))) [none] (aM 0) aW (aU ck (aa (ab 0) af))))))))))))
theorem gv{α:Type}{st:ae}{K:List D->ae->Prop}(f h:α->D)(xs:List α)(aC:ok st)(hx:∀x∈xs,∀K',K' (h x) st->∃σ2,tg (f x) σc=some σ2/\te σ2 st K')(k:K (xs.map h) st):bz tg aW te ok σc (xs.map f) [] st K:=by
 refine cN (λ rest acc st'=>∃P R,st'=st/\xs=P++R/\rest=R.map f/\acc=P.map h) ?_ ?_ _ _ _ ⟨[],xs,rfl,rfl,rfl,rfl⟩
 . rintro acc st' ⟨P,R,rfl,e,hr,rfl⟩;have:R=[]:=YK.mp hr.symm;subst this;rw[WE]at e;subst e;exact⟨aC,k⟩
 . rintro d rest acc st' ⟨P,R,rfl,e,hr,rfl⟩ next
   cases R with
   |nil=>cases hr
   |cons x R=>
    rw[Ww]at hr;simp only[Xe]at hr;obtain⟨rfl,rfl⟩:=hr;obtain⟨σ2,h1,h2⟩:=hx x (by rw[e];simp) (λ y st2=>bz tg aW te ok σc (R.map f) (P.map h++[y]) st2 K) (next (P.map h++[h x]) _ ⟨P++[x],R,rfl,by rw[e];simp,rfl,by simp⟩);exact⟨aC,σ2,h1,h2⟩
theorem zA{st:ae}{K:List D->ae->Prop}(p:List Int->Bool)(f:List Int->List Int)(xs:List (List Int))(hx:∀r∈xs,∃σ2,tg (aR r) σc=some σ2/\(∀K',K' (p r) st->c σ2 st K')/\∀K',K' (aR (f r)) st->te σ2 st K')(k:K (((xs.filter p).map f).map aR) st):bz tg c te (λ _=>True) σc (xs.map aR) [] st K:=by
 refine cN (λ rest acc st'=>st=st'/\∃P R,P++R=xs/\rest=R.map aR/\acc=((P.filter p).map f).map aR) ?_ ?_ _ _ _ ⟨rfl,[],xs,rfl,rfl,rfl⟩
 . rintro acc st' ⟨rfl,P,R,e,hr,rfl⟩;have:R=[]:=YK.mp hr.symm;subst this;rw[WE]at e;subst e;exact⟨trivial,k⟩
 . rintro d rest acc st' ⟨rfl,P,R,e,hr,rfl⟩ next
   cases R with
   |nil=>cases hr
   |cons r R=>
    rw[Ww]at hr;simp only[Xe]at hr;obtain⟨rfl,rfl⟩:=hr;obtain⟨σ2,h1,h2,h3⟩:=hx r (by rw[<-e];simp);refine⟨trivial,σ2,h1,h2 _ ?_⟩;cases ep:p r with
    |true=>
     refine b_ (h3 _ ?_);show bz _ _ _ _ _ _ _ _ _;rw[nh];exact next _ _ ⟨rfl,P++[r],R,by rw[<-e];simp,rfl,by simp[W9,ep]⟩
    |false=>exact next _ _ ⟨rfl,P++[r],R,by rw[<-e];simp,rfl,by simp[W9,ep]⟩
theorem OG{j:Nat}:L3.cutD (av r) none (some (j:Int))=av (r.take j):=by rw[i7];exact(XD ..).symm
theorem p7{n:Nat}{A:List (List Int)}:pl (n+2) (.lst (A.map aR))=true:=by
 unfold pl;refine Wm.mpr λ d hd=>?_;obtain⟨r,_,rfl⟩:=V9.mp hd;exact EM
theorem zB(A B:List (List Int)):cu (.lst (A.map aR)) (.lst (B.map aR))=decide (A=B):=by
 unfold cu;exact rT A B
theorem Fz:VN nU 4 IT zy:=by
 rintro ds st K ⟨F,G,m,n,w,x,y,rfl,T,hx,hy,k⟩;have mn:=T.mn;have w8:=T.w8;have lF:=T.iF.len;have lG:=T.iG.len;have hD:=Mx.oZ T.iF T.iG;refine⟨rfl,aw rfl rfl (aw rfl rfl ?_)⟩;refine eK ⟨aI (by rw[VO];lia),?_⟩;refine gv aR (λ r=>aR (r++r)) F trivial (λ r hr K' q=>⟨_,rfl,jz (aI (by rw[VO,T.iF.cM r hr];lia)) (by rw[<-WJ];exact q)⟩) ?_;refine aw rfl rfl (eK ⟨aI (by rw[VO];lia),?_⟩);refine gv aR (λ r=>aR (r++List.replicate w 0)) G trivial (λ r hr K' q=>⟨_,rfl,⟨VP rfl,ue ⟨by lia,by lia,aI (by simp;lia)⟩ ?_⟩⟩) ?_
 . rw[Wi,nH];refine jz (aI (by rw[VO,VO,T.iG.cM r hr,Yj];lia)) ?_;rw[<-WJ];exact q
 refine mV (aI (by rw[VO,VO];lia)) ?_
 have eE:F.map (λ r=>aR (r++r))++G.map (λ r=>aR (r++List.replicate w 0))=(Mx.dbl F G w).map aR:=by
  unfold Mx.dbl;rw[WJ,WB,WB];rfl
 rw[eE];have bD:=T.bD;generalize Mx.dbl F G w=E at hD bD k;refine⟨x,w,rfl,hx,w8,?_⟩;cases ht:d9 w x with
 |false=>have k:=k st Ext.refl;rw[BH ht]at k;exact k
 |true=>
 obtain⟨b,ex,tb,eb⟩:=zc hx ht;refine⟨y,.int 2,rfl,hy.any st,.inr ⟨_,rfl⟩,?_⟩;rcases hy with f|⟨ys,l,_,q⟩
 . have k:=k st Ext.refl;rw[zI (ex []) (f []).2]at k;rw[(f st).2];exact k
 rw[l.items st];by_cases h2:ys.length=2;rotate_left
 . have k:=k st Ext.refl;rw[Df (ex []) (l.items []) h2]at k;have:i8 ys.length (.int 2)=false:=We (by lia);dsimp only;rw[this];exact k
 obtain⟨t,u,rfl⟩:=tx h2;rw[pR ht (ex []) (l.items [])]at k;unfold yb at k;have tt:=q t (by simp);have tu:=q u (by simp);refine ji ?_;refine aw (l.items st) rfl (aw (l.items st) rfl (cD rfl ?_));rw[VO,hD.len];refine⟨t,u,m+n,rfl,tt,tu,mn,λ st1 X1=>?_⟩;cases e1:r9 t u (m+n)with
 |false=>have k:=k st1 X1;rw[e1]at k;exact k
 |true=>
 rw[e1,W_]at k;have f1:cK [] t (.int (m+n:Nat)) (m+n:Nat)=true:=by unfold r9 at e1;rw[Wv]at e1;exact e1.1
 obtain⟨C,M1,b1⟩:=tt.rows f1;have iM:=Mx.mO M1 hD;refine aw (l.items st1) rfl (fM (gf (by decide) (by decide)) ?_);rw[show(2:Int)*(w:Int)=((w+w:Nat):Int) by lia];refine⟨t,_,_,E,m+n,m+n,w+w,64000000,200,rfl,C,⟨_,λ _=>rfl,λ _=>aZ.tup⟩,M1,hD,mn,by lia,b1,bD,by decide,λ st2 X2=>?_⟩;have k:=k st2 (X1.trans X2);generalize Mx.mulM (rowsOf t) E (w+w)=M at iM k;have lM:=iM.len;refine eK ⟨aI (by rw[VO];lia),?_⟩;refine zA dH (λ r=>r) M (λ r hr=>⟨_,rfl,λ K' z=>EZ (ints_map r) (by rw[<-yO];exact z),λ K' z=>z⟩) ?_;have eid:((M.filter dH).map λ r=>r)=M.filter dH:=List.map_id' _;rw[eid];have lH:(M.filter dH).length<=8:=VX (Zm _ _) (by lia);refine cD rfl ?_;rw[VO];refine dD (jC rfl (RE (by rw[i7,<-XD];exact p7) p7 ?_));rw[i7,<-XD,zB];cases e2:decide (M.take (M.filter dH).length=M.filter dH)with
 |false=>
  have e3:decide (nK M=M.filter dH)=false:=e2;rw[e3]at k;exact k
 |true=>
 have e3:decide (nK M=M.filter dH)=true:=e2;rw[e3,W_]at k;refine⟨_,M.filter dH,w+w,rfl,⟨_,rfl,aZ.tup⟩,λ r hr=>iM.cM r (aan.mp hr).1,by lia,by lia,?_⟩;cases e4:bN [] (-1) (M.filter dH)with
 |false=>rw[e4]at k;exact k
 |true=>
 rw[e4,W_]at k;refine nv ?_;dsimp only[bO];refine uh ⟨aI (by rw[VO];lia),?_⟩;refine zA (λ r=> !((r.take w).any λ n=>decide (n≠0))) (List.drop w) (M.filter dH) (λ r hr=>⟨_,rfl,λ K' z=>dD ?_,λ K' z=>dD ?_⟩) ?_
 . rw[OG];exact EZ (ints_map _) z
 . rw[zU];exact z
 obtain⟨⟨bs,ebs,rbs⟩,wb,lb⟩:=tb.Gm eb;refine aw (ex st2) rfl (gh (ebs _) λ ok aC=>⟨aI (by rw[(rbs st2).len];exact lb),?_⟩);refine qw (λ r=>aR r) aC (rbs st2) (λ d r hr he K' z=>⟨_,rfl,cj he z⟩) ?_;refine qp p7 p7 ?_;rw[zB];have ec:decide (((M.filter dH).filter λ r=> !((r.take w).any λ n=>decide (n≠0))).map (List.drop w)=rowsOf b)=decide (rowsOf b=C0 w M):=Zf.mpr eq_comm;rw[ec];exact k
def tL:Nat->D->Bool
 |_,.int _=>true
 |n+1,.tup xs=>decide (xs.length<=1000)&&xs.all (tL n)
 |_,_=>false
def sR:Nat->D->D
 |n+1,.tup xs=> .lst (xs.map (sR n))
 |_,d=>d
def fT:Nat->bw
 |0=>λ _ _ _=>False
 |n+1=>λ ds st K=>∃x,ds=[x]/\tL n x=true/\K (sR n x) st
theorem AE:∀ds st K,¬fT 0 ds st K:=λ _ _ _ h=>h
def oG:List Str:=["_law_thing"]
def Du(SR:bw):DS:=(aB (cf (aE (aU gn (aa (ab 0) (aa (dC (.ty "tuple")) af)))) (aN (bh (cq (ab 0)) [none] (aM 0) aW (ak SR (aa (ab 0) af)))) bO)
 (aN (ab 0)))
theorem Jv{i:Int}:sR n (.int i)= .int i:=by cases n<;>rfl
theorem BM:∀n ds st K,fT (n+1) ds st K->ds.length=1/\Du (fT n) {nx:=λ _ st'=>K .ao st',rt:=K} (aF oG ds) st:=by
 rintro n ds st K ⟨x,rfl,hx,k⟩;refine⟨rfl,?_⟩;cases x with
 |int i=>
  rw[Jv]at k;exact gj rfl (by decide) k
 |tup xs=>
  cases n with
  |zero=>cases hx
  |succ n=>
   unfold tL at hx;simp only[Wv,Y4]at hx;refine gj rfl (by decide) (b_ (eK ⟨aI hx.1,comp_map (g:=sR n) trivial xs (λ y hy K' q=>⟨_,rfl,y,rfl,Wm.mp hx.2 y hy,q⟩) ?_⟩));exact k
 |_=>cases n<;>cases hx
theorem Qq(h:r.length<=1000):tL (n+1) (aR r)=true:=by
 unfold tL;rw[Wr (by rw[VO];exact h),W_];refine Wm.mpr λ d hd=>?_;obtain⟨i,_,rfl⟩:=V9.mp hd;cases n<;>rfl
theorem El(h:A.length<=1000)(hw:∀r∈A,r.length<=1000):tL (n+2) (aq A)=true:=by
 unfold tL;rw[Wr (by rw[VO];exact h),W_];refine Wm.mpr λ d hd=>?_;obtain⟨r,hr,rfl⟩:=V9.mp hd;exact Qq (hw r hr)
theorem PK:sR (n+1) (aR r)=a7 r:=by
 unfold sR;congr 1;rw[WB];exact WU λ i _=>Jv
theorem yJ:sR (n+2) (aq A)=nZ A:=by
 unfold sR;congr 1;rw[WB];exact WU λ r _=>PK
def m4:List D:=[.ao,.int 7,.str "",.str "ab",.bl true,.tup [],.tup [.int 0],.lst [.lst []],.int (-1),.tup [.ao,.ao]]
def fH:bw:=λ ds st K=>∃(n:Nat) (b:Int),ds=[.ref n]/\Hd st n b/\0<=b/\b<=900000000/\∀d st',d∈m4->Hd st' n (b+1)->Upd st n st'->K d st'
def zl:List Str:=["_law_hand_here"]
def HR:DS:=(aN (ai aK (fy (aa (dC .ao) (aa (dC (.int 7)) (aa (dC (.str "")) (aa (dC (.str "ab")) (aa (dC (.bl true)) (aa (bZ af) (aa (bZ (aa (dC (.int 0)) af)) (aa (fy (aa (fy af) af)) (aa (g9 e6 (dC (.int 1))) (aa (bZ (aa (dC .ao) (aa (dC .ao) af))) af))))))))))) (ak bJ (aa (ab 0) (aa (dC (.int 10)) af)))))
theorem pick{xs:List D}{r:Int}(h0:0<=r)(h1:r<xs.length):∃d,d∈xs/\e_ xs r=some d:=by
 obtain⟨k,rfl⟩:=WT h0;have hk:k<xs.length:=by lia
 exact⟨xs[k],XY _,j8 (V0 hk)⟩
theorem Fe:VN fH 1 HR zl:=by
 rintro ds st K ⟨n,b,rfl,B,b0,hb,k⟩;refine⟨rfl,?_⟩;refine⟨VP rfl,VP rfl,VP rfl,VP rfl,eH ⟨VP rfl,VP rfl,?_⟩⟩;refine⟨n,10,b,rfl,B,b0,by lia,by decide,by decide,λ r st1 r0 r1 B1 U1=>?_⟩;obtain⟨v,hv,ev⟩:=pick (xs:=m4) r0 r1;exact aw (xs:=m4) rfl ev (k v st1 hv B1 U1)
theorem tY(h:∀st,Any st d)(q:∀i,d= .int i->i.natAbs<=2^3):y9 d:=⟨h,λ i e=>VX (q i e) (Wc (by decide) (by decide))⟩
theorem Q3(h:d∈m4):pv d:=by
 unfold m4 at h;simp only[V4,Wh,Xn]at h;rcases h with rfl|rfl|rfl|rfl|rfl|rfl|rfl|rfl|rfl|rfl
 . exact .inl λ _=>⟨⟨_,rfl⟩,rfl⟩
 . exact .inl λ _=>⟨⟨_,rfl⟩,rfl⟩
 . exact .inl λ _=>⟨⟨_,rfl⟩,rfl⟩
 . exact .inl λ _=>⟨⟨_,rfl⟩,rfl⟩
 . exact .inl λ _=>⟨⟨_,rfl⟩,rfl⟩
 . exact .inr ⟨_,.inl rfl,by decide,λ x hx=>by cases hx⟩
 . refine .inr ⟨_,.inl rfl,by decide,λ x hx=>?_⟩;rw[Wk.mp hx];exact tY (λ _=>⟨_,rfl⟩) λ i e=>by cases e;decide
 . refine .inr ⟨_,.inr rfl,by decide,λ x hx=>?_⟩;rw[Wk.mp hx];exact tY (λ _=>⟨_,rfl⟩) λ i e=>by cases e
 . exact .inl λ _=>⟨⟨_,rfl⟩,rfl⟩
 . refine .inr ⟨_,.inl rfl,by decide,λ x hx=>?_⟩;have:x= .ao:=by simpa using hx
   rw[this];exact tY (λ _=>⟨_,rfl⟩) λ i e=>by cases e
theorem Kn(h:d∈m4):e9 d:=by
 unfold m4 at h;simp only[V4,Wh,Xn]at h;rcases h with rfl|rfl|rfl|rfl|rfl|rfl|rfl|rfl|rfl|rfl
 . exact .inl λ _=>⟨⟨_,rfl⟩,rfl⟩
 . exact .inl λ _=>⟨⟨_,rfl⟩,rfl⟩
 . exact .inl λ _=>⟨⟨_,rfl⟩,rfl⟩
 . exact .inl λ _=>⟨⟨_,rfl⟩,rfl⟩
 . exact .inl λ _=>⟨⟨_,rfl⟩,rfl⟩
 . exact .inr ⟨_,.inl rfl,by decide,λ x hx=>by cases hx⟩
 . refine .inr ⟨_,.inl rfl,by decide,λ x hx=>?_⟩;rw[Wk.mp hx];exact .inl λ _=>⟨⟨_,rfl⟩,rfl⟩
 . refine .inr ⟨_,.inr rfl,by decide,λ x hx=>?_⟩;rw[Wk.mp hx];exact .inr ⟨_,.inr rfl,by decide,λ x hx=>by cases hx⟩
 . exact .inl λ _=>⟨⟨_,rfl⟩,rfl⟩
 . refine .inr ⟨_,.inl rfl,by decide,λ x hx=>?_⟩;have:x= .ao:=by simpa using hx
   rw[this];exact .inl λ _=>⟨⟨_,rfl⟩,rfl⟩
theorem RB(h:d∈m4):fK d:=by
 unfold m4 at h;simp only[V4,Wh,Xn]at h;rcases h with rfl|rfl|rfl|rfl|rfl|rfl|rfl|rfl|rfl|rfl
 . exact .inl λ _=>⟨⟨_,rfl⟩,rfl⟩
 . exact .inl λ _=>⟨⟨_,rfl⟩,rfl⟩
 . exact .inl λ _=>⟨⟨_,rfl⟩,rfl⟩
 . exact .inl λ _=>⟨⟨_,rfl⟩,rfl⟩
 . exact .inl λ _=>⟨⟨_,rfl⟩,rfl⟩
 . exact .inr ⟨_,.inl rfl,by decide,λ x hx=>by cases hx⟩
 . refine .inr ⟨_,.inl rfl,by decide,λ x hx=>?_⟩;rw[Wk.mp hx];exact .inl λ _=>⟨⟨_,rfl⟩,rfl⟩
 . refine .inr ⟨_,.inr rfl,by decide,λ x hx=>?_⟩;rw[Wk.mp hx];exact .inr ⟨_,.inr rfl,by decide,λ x hx=>by cases hx⟩
 . exact .inl λ _=>⟨⟨_,rfl⟩,rfl⟩
 . refine .inr ⟨_,.inl rfl,by decide,λ x hx=>?_⟩;have:x= .ao:=by simpa using hx
   rw[this];exact .inl λ _=>⟨⟨_,rfl⟩,rfl⟩
structure XU(st:ae)(n:Nat)(st':ae):Prop where
 len:st.length<=st'.length
 same:∀m,m<st.length->m≠n->st'[m]?=st[m]?
theorem XU.trans{st st1 st2:ae}(a:XU st n st1)(b:XU st1 n st2):XU st n st2:=⟨VX a.len b.len,λ m h g=>(b.same m (Wj h a.len) g).trans (a.same m h g)⟩
theorem XU.upd{st st1:ae}(a:Upd st n st1):XU st n st1:=⟨by rw[a.len];exact VQ _,λ m _ g=>a.same m g⟩
theorem XU.ext{st st1:ae}(a:Ext st st1):XU st n st1:=⟨a.len,λ m h _=>a.same m h⟩
theorem XU.set{st st1:ae}{n k:Nat}(a:XU st n st1)(h:st.length<=k):XU st n (st1.set k c):=⟨by rw[Wb];exact a.len,λ m hm g=>by rw[VW (X_ (Wj hm h))];exact a.same m hm g⟩
def gB:bw:=λ ds st K=>∃(n:Nat) (b:Int) (A:List (List Int)) (m w:Nat),ds=[.ref n,aq A]/\Hd st n b/\0<=b/\b<=800000000/\Mx.aL m w A/\m<=8/\w<=8/\(1<=m->1<=w)/\Bg A 62000000/\∀d st',e9 d->Hd st' n (b+5)->XU st n st'->K d st'
def xT:List Str:=["_law_hand_here","_law_rows_here","_law_made","_law_j","_law_k","_law_way"]
def FL:DS:=(aB (a6 2 (fG (cq (ab 1)) [none] (aM 0) aW (aU pF (aa (ab 0) af))))
 (aB (cf (aE (ai Cf (ab 2) (fy af))) (aN (fy (aa (ak fH (aa (ab 0) af)) af))) bO)
 (aB (a6 3 (ak bJ (aa (ab 0) (aa (aU dc (aa (ab 2) af)) af))))
 (aB (a6 4 (ak bJ (aa (ab 0) (aa (aU dc (aa (ai aK (ab 2) (ab 3)) af)) af))))
 (aB (a6 5 (ak bJ (aa (ab 0) (aa (dC (.int 9)) af))))
 (aB (cf (aE (ai dE (ab 5) (dC (.int 0)))) (cZ (ab 2) (ab 3) (fG (cq (ai aK (ab 2) (ab 3))) [none] (aM 0) aW (g9 e6 (ab 0)))) (cf (aE (ai dE (ab 5) (dC (.int 1)))) (FY (wD (uj (ab 2) (ab 3)) (uj (ab 2) (dC (.int 0)))) (bZ (aa (ai aK (ab 2) (dC (.int 0))) (aa (ai aK (ab 2) (ab 3)) af)))) (cf (aE (ai dE (ab 5) (dC (.int 2)))) (cZ (ai aK (ab 2) (ab 3)) (ab 4) (ai cn (ai aK (ai aK (ab 2) (ab 3)) (ab 4)) (dC (.int 1)))) (cf (aE (ai dE (ab 5) (dC (.int 3)))) (cZ (ai aK (ab 2) (ab 3)) (ab 4) (ai aK (fy (aa (dC (.bl true)) (aa (dC (.str "1")) (aa (dC .ao) (aa (bZ (aa (dC (.int 1)) af)) af))))) (ak bJ (aa (ab 0) (aa (dC (.int 4)) af))))) (cf (aE (ai dE (ab 5) (dC (.int 4)))) (jI (jT tZ (ab 2) (aa (ab 3) af))) (cf (aE (ai dE (ab 5) (dC (.int 5)))) (jI (jT tW (ab 2) (aa (ab 3) (aa (ai uk (fy (aa (dC (.int 0)) af)) (aU dc (aa (ai aK (ab 2) (dC (.int 0))) af))) af)))) (cf (aE (ai dE (ab 5) (dC (.int 6)))) (jI (pB (ai aK (ab 2) (ab 3)) (dC (.int 0)))) (cf (aE (ai dE (ab 5) (dC (.int 7)))) (cZ (ab 2) (ab 3) (ak fH (aa (ab 0) af))) (a6 2 (fG (cq (ab 2)) [none] (aM 0) aW (fG (cq (ab 0)) [none] (aM 0) aW (ai dA (dC (.int 2)) (ab 0)))))))))))))
 (ui 2 (aN (ab 2)))))))))
abbrev pQ(r:List Int):Cell:= .lst (av r)
def cW(b n:Nat):List D:=(List.range n).map λ i=> .ref (b+i)
theorem Im:cW b n++[.ref (b+n)]=cW b (n+1):=by unfold cW;rw[ZE,WJ];rfl
theorem kF{L m i:Nat}(h:i<m):(cW L m)[i]?=some (.ref (L+i)):=by
 unfold cW;rw[Wn,ZI h];rfl
theorem cx:(cW L m).length=m:=by unfold cW;simp
def Slot(st:ae)(L:Nat)(d:D):Prop:=(∃c xs,d= .ref c/\L<=c/\st[c]?=some (.lst xs)/\xs.length<=500/\∀x∈xs,y9 x)\/pv d
structure h_(st:ae)(L:Nat)(ds:List D):Prop where
 sl:∀d∈ds,Slot st L d
 ap:∀(i j c:Nat),i≠j->ds[i]?=some (.ref c)->ds[j]?≠some (.ref c)
theorem MO{st:ae}:∀ {ds:List D},h_ st L ds->∃es cs,wV st ds es cs/\cs.Nodup/\(∀c∈cs,D.ref c∈ds/\L<=c)/\(∀e∈es,pv e)/\es.length=ds.length
 | [],_=>⟨[],[],.nil,aaC,(λ c hc=>by cases hc),(λ e he=>by cases he),rfl⟩
 |d::ds,h=>by
  have ht:h_ st L ds:=⟨λ x hx=>h.sl x (V5 _ hx),λ i j c hij e1 e2=>h.ap (i+1) (j+1) c (by lia) e1 e2⟩
  obtain⟨es,cs,f,nd,hm,hT,hl⟩:=MO ht;rcases h.sl d V_ with⟨c,xs,rfl,hc,e,l,q⟩|q
  . refine⟨.lst xs::es,c::cs,.ref e f,Xp.mpr ⟨λ z=>?_,nd⟩,λ x hx=>?_,λ x hx=>?_,by rw[Ws,Ws,hl]⟩
    . obtain⟨j,hj,ej⟩:=Wt.mp (hm c z).1;exact h.ap 0 (j+1) c (by lia) rfl (by rw[XQ,V0 hj,ej])
    . rcases V4.mp hx with e1|e1
      . subst e1;exact⟨V_,hc⟩
      . exact⟨V5 _ (hm x e1).1,(hm x e1).2⟩
    . rcases V4.mp hx with e1|e1
      . subst e1;exact .inr ⟨xs,.inr rfl,by lia,q⟩
      . exact hT x e1
  . exact⟨d::es,cs,.own f,nd,λ x hx=>⟨V5 _ (hm x hx).1,(hm x hx).2⟩,λ x hx=>(V4.mp hx).elim (λ e1=>by rw[e1];exact q) (hT x),by rw[Ws,Ws,hl]⟩
theorem Slot.at{st st':ae}(h:Slot st L d)(q:∀c,d= .ref c->st'[c]?=st[c]?):Slot st' L d:=by
 rcases h with⟨c,xs,rfl,hc,e,r⟩|h
 . exact .inl ⟨c,xs,rfl,hc,(q c rfl).trans e,r⟩
 . exact .inr h
theorem h_.at{st st':ae}(h:h_ st L ds)(q:∀c,D.ref c∈ds->st'[c]?=st[c]?):h_ st' L ds:=⟨λ d hd=>(h.sl d hd).at λ c e=>q c (e▸hd),h.ap⟩
theorem h_.put{st:ae}{L j:Nat}(h:h_ st L ds)(hd:Slot st L d)(hn:∀c,d= .ref c->D.ref c∉ds):h_ st L (ds.set j d):=by
 refine⟨λ x hx=>(WI hx).elim (h.sl x) λ e=>by rw[e];exact hd,λ i k c hik e1 e2=>?_⟩;rw[Y5]at e1 e2;by_cases h1:j=i
 . rw[VU h1]at e1;split at e1
   . cases e1;rw[VT (by lia)]at e2;exact hn c rfl (Wa e2)
   . cases e1
 . rw[VT h1]at e1;by_cases h2:j=k
   . rw[VU h2]at e2;split at e2
     . cases e2;exact hn c rfl (Wa e1)
     . cases e2
   . rw[VT h2]at e2;exact h.ap i k c hik e1 e2
theorem h_.map{st:ae}(h:h_ st L ds)(t:Nat->Nat)(ht:∀i j,i≠j->i<es.length->j<es.length->t i≠t j)(he:∀i,i<es.length->es[i]?=ds[t i]?):h_ st L es:=by
 refine⟨λ x hx=>?_,λ i j c hij e1 e2=>?_⟩
 . obtain⟨i,hi,rfl⟩:=Wt.mp hx;have:=he i hi;rw[V0 hi]at this;exact h.sl _ (Wa this.symm)
 . have l1:=(VV.mp e1).1;have l2:=(VV.mp e2).1;rw[he i l1]at e1;rw[he j l2]at e2;exact h.ap _ _ c (ht i j hij l1 l2) e1 e2
theorem h_.ins{st:ae}{L k:Nat}(h:h_ st L ds)(hd:Slot st L d)(hn:∀c,d= .ref c->D.ref c∉ds)(hk:k<=ds.length):h_ st L (ds.take k++d::ds.drop k):=by
 have hc:h_ st L (d::ds):=⟨λ x hx=>(V4.mp hx).elim (λ e=>by rw[e];exact hd) (h.sl x),λ i j c hij e1 e2=>by
  cases i with
  |zero=>
   cases j with
   |zero=>exact hij rfl
   |succ j=>cases e1;exact hn c rfl (Wa e2)
  |succ i=>
   cases j with
   |zero=>cases e2;exact hn c rfl (Wa e1)
   |succ j=>exact h.ap i j c (by lia) e1 e2⟩
 refine hc.map (λ i=>if i<k then i+1 else if i=k then 0 else i) (λ i j hij _ _=>?_) λ i hi=>?_
 . split<;>split<;>(repeat' split)<;>lia
 . have lk:(ds.take k).length=k:=by rw[Wl];lia
   by_cases h1:i<k
   . rw[VU h1,VZ (by lia),XJ h1];rfl
   . rw[VT h1,Wu (by lia),lk];by_cases h2:i=k
     . subst h2;rw[VU rfl,XM];rfl
     . rw[VT h2,show i-k=(i-k-1)+1 by lia,XQ,YU,show k+(i-k-1)=i-1 by lia,show i=(i-1)+1 by lia];rfl
theorem h_.del{st:ae}{L k:Nat}(h:h_ st L ds):h_ st L (ds.eraseIdx k):=by
 refine h.map (λ i=>if i<k then i else i+1) (λ i j hij _ _=>?_) λ i hi=>?_
 . split<;>split<;>lia
 . rw[List.getElem?_eraseIdx];split<;>rfl
theorem wM{st:ae}:∀(A:List (List Int)) (L:Nat),(∀i r,A[i]?=some r->st[L+i]?=some (pQ r))->pf st ((List.range A.length).map λ i=>L+i) (A.map av)
 | [],_,_=>trivial
 |r::A,L,h=>by
  rw[Ws,WS,Ww,WB,Ww];refine⟨h 0 r rfl,?_⟩
  have q:=wM A (L+1) λ i r' e=>by
   have:=h (i+1) r' (by simpa using e);rwa [show L+(i+1)=L+1+i by lia]at this
  have e:(List.range A.length).map ((λ i=>L+i)∘Nat.succ)=(List.range A.length).map λ i=>L+1+i:=WU λ i _=>by
   show L+(i+1)=_;lia
  rw[e];exact q
theorem NW{A:List (List Int)}:((A.map av).map D.lst).all (pl 39)=true:=by
 refine Wm.mpr λ d hd=>?_;obtain⟨x,hx,rfl⟩:=V9.mp hd;obtain⟨r,_,rfl⟩:=V9.mp hx;unfold pl;exact Ew
theorem ve{st:ae}(h:∀i,i<m->∃xs,st[L'+i]?=some (.lst xs)/\xs.length<=500/\∀x∈xs,y9 x)(l:L<=L'):h_ st L (cW L' m):=by
 refine⟨λ d hd=>?_,λ i j c hij e1 e2=>?_⟩
 . obtain⟨i,hi,rfl⟩:=V9.mp hd;obtain⟨xs,e,r⟩:=h i (XE.mp hi);exact .inl ⟨_,xs,rfl,by lia,e,r⟩
 . have l1:=(VV.mp e1).1;have l2:=(VV.mp e2).1;rw[cx]at l1 l2;rw[kF l1]at e1;rw[kF l2]at e2;cases e1;simp only[ZY,D.ref.injEq]at e2;lia
theorem pK(h:D.ref c∈cW L m):L<=c/\c<L+m:=by
 obtain⟨i,hi,e⟩:=V9.mp h;have:=XE.mp hi;simp only[D.ref.injEq]at e;lia
theorem iN{L m i:Nat}(h:i<m):e_ (cW L m) (i:Int)=some (.ref (L+i)):=by
 unfold e_;rw[cx,fe h];exact kF h
theorem zW{α:Type}{st:ae}{K:List D->ae->Prop}(f:α->D)(g:α->Cell):∀(xs:List α) (pre:List Cell),(∀cs:List Cell,ok (st++cs))->(∀x∈xs,∀(cs:List Cell) (K':DK),K' (.ref (st++cs).length) (st++cs++[g x])->∃σ2,tg (f x) σc=some σ2/\te σ2 (st++cs) K')->K (cW st.length (pre.length+xs.length)) (st++(pre++xs.map g))->bz tg aW te ok σc (xs.map f) (cW st.length pre.length) (st++pre) K
 | [],pre,aC,_,k=>⟨aC pre,by rw[Zr,WE]at k;exact k⟩
 |x::xs,pre,aC,hx,k=>by
  have q:=zW f g xs (pre++[g x]) aC (λ y hy=>hx y (V5 _ hy)) (K:=K) (by
   rw[V3,XO,show pre.length+ [g x].length+xs.length=pre.length+(x::xs).length by simp only[Ws,Yw];lia];exact k)
  obtain⟨σ2,e,h⟩:=hx x V_ pre (λ y st2=>bz tg aW te ok σc (xs.map f) (cW st.length pre.length++[y]) st2 K) (by
   rw[V3,Im,XO];rw[V3]at q;exact q)
  exact⟨aC pre,σ2,e,show(if true=true then _ else bz tg aW te ok σc (xs.map f) (cW st.length pre.length) (st++pre) K)from b_ h⟩
theorem wm{α:Type}{st:ae}{K:List D->ae->Prop}(f:α->D)(g:α->Cell)(xs:List α)(h1:∀cs:List Cell,ok (st++cs))(h2:∀x∈xs,∀(cs:List Cell) (K':DK),K' (.ref (st++cs).length) (st++cs++[g x])->∃σ2,tg (f x) σc=some σ2/\te σ2 (st++cs) K')(k:K (cW st.length xs.length) (st++xs.map g)):bz tg aW te ok σc (xs.map f) [] st K:=by
 have q:=zW f g xs [] h1 h2 (K:=K) (by rw[Yw,Ye];exact k);rw[WE]at q;exact q
theorem oa(h:x.natAbs<=2^b)(hb:b<=63000000):y9 (.int x):=⟨λ _=>⟨_,rfl⟩,λ i e=>by
 cases e;exact VX h (Wc (by decide) (by lia))⟩
theorem HA(h:x.natAbs<=2^b)(y:Int)(hy:y=x+1\/y=2*x):y.natAbs<=2^(b+1):=by
 have:=Nat.two_pow_pos b;rw[YR];lia
theorem jL{st:ae}(h:m<st.length):(st++[c])[m]?=st[m]?:=VZ h
theorem D4:VN gB 2 FL xT:=by
 rintro ds st K ⟨n,b,A,m,w,rfl,B,b0,hb,hA,m8,w8,mw,hg,k⟩;refine⟨rfl,?_⟩;have nL:=B.lt;have lA:=hA.len;refine eK ⟨aI (by rw[VO];lia),?_⟩;refine wm aR pQ A (λ _=>trivial) (λ r _ cs K' q=>⟨_,rfl,BL rfl q⟩) ?_;rw[lA];obtain⟨s0,es0⟩:∃s,s=st++A.map pQ:=⟨_,rfl⟩
 rw[<-es0];have l0:s0.length=st.length+m:=by rw[es0,V3,VO,lA]
 have g0:∀i r,A[i]?=some r->s0[st.length+i]?=some (pQ r):=λ i r e=>by
  rw[es0,Wu (by lia),Wx,Wn,e];rfl
 obtain⟨s1,es1⟩:∃s,s=s0++[Cell.lst (cW st.length m)]:=⟨_,rfl⟩
 rw[<-es1];have l1:s1.length=st.length+m+1:=by rw[es1,V3,l0];rfl
 have g1:∀i r,A[i]?=some r->s1[st.length+i]?=some (pQ r):=λ i r e=>by
  rw[es1,jL (by have:=(VV.mp e).1;lia)];exact g0 i r e
 have c1:s1[s0.length]?=some (.lst (cW st.length m)):=by rw[es1];exact Yh
 have x1:XU st n s1:=⟨by lia,λ i hi _=>by rw[es1,jL (by lia),es0,VZ hi]⟩
 have B1:Hd s1 n b:=B.cell (by rw[es1,jL (by lia),es0,VZ nL]);rw[l0]at c1;rw[l0];clear es0 es1 g0 l0;refine⟨VP rfl,?_⟩;refine Rm (ns:=(List.range A.length).map λ i=>st.length+i) (rs:=A.map av) (by rw[c1];unfold cW;rw[WB,lA];rfl) (wM A _ g1) NW rfl ?_;cases A with
 |nil=>
  refine b_ ?_;refine⟨n,b,rfl,B1,b0,by lia,λ d s2 hd B2 U2=>?_⟩;refine⟨VP rfl,?_⟩;refine k _ _ (.inr ⟨[d],.inr rfl,VP rfl,λ x hx=>by rw[Wk.mp hx];exact Q3 hd⟩) (B2.mono (by lia)) (x1.trans (XU.upd U2))
 |cons r0 A0=>
  have hm:1<=m:=by rw[<-lA];exact Nat.succ_le_succ (Wg _)
  have hw:=mw hm;refine ji ?_;generalize r0::A0=A at*;clear r0 A0;refine cD (ax c1) ⟨n,((cW st.length m).length:Nat),b,rfl,B1,b0,by lia,by rw[cx];lia,by rw[cx];lia,λ rj s2 j0 j1 B2 U2=>?_⟩;rw[cx]at j1;obtain⟨j,rfl⟩:=WT j0;have hj:j<m:=by lia
  obtain⟨r,ej⟩:∃r,A[j]?=some r:=⟨_,V0 (by lia)⟩
  have hr:r.length=w:=hA.cM r (Wa ej);refine aw (ax ((U2.same _ (by lia)).trans c1)) (iN hj) (cD (ax ((U2.same _ (by lia)).trans (g1 j r ej))) ?_);refine⟨n,((av r).length:Nat),b+1,rfl,B2,by lia,by lia,by rw[VO];lia,by rw[VO];lia,λ rk s3 k0 k1 B3 U3=>?_⟩;rw[VO]at k1;obtain⟨q,rfl⟩:=WT k0;have hq:q<r.length:=by lia
  refine⟨n,9,b+1+1,rfl,B3,by lia,by lia,by decide,by decide,λ v s v0 v1 B4 U4=>?_⟩;have U:=(U2.trans U3).trans U4;have C:s[st.length+m]?=some (.lst (cW st.length m)):=(U.same _ (by lia)).trans c1;have G:∀i r,A[i]?=some r->s[st.length+i]?=some (pQ r):=λ i r e=>(U.same _ (by lia)).trans (g1 i r e);have X:=x1.trans (XU.upd U);have l4:s.length=st.length+m+1:=U.len.trans l1;clear c1 g1 x1 B1 l1 U2 U3 U4 U B2 B3 B
  have G0:∀i,i<m->∃xs,s[st.length+i]?=some (.lst xs)/\xs.length<=500/\∀x∈xs,y9 x:=λ i hi=>by
   obtain⟨r',e'⟩:∃r,A[i]?=some r:=⟨_,V0 (by lia)⟩
   refine⟨_,G i r' e',by rw[VO,hA.cM r' (Wa e')];lia,λ x hx=>?_⟩;obtain⟨c,hc,rfl⟩:=V9.mp hx;exact oa (hg r' (Wa e') c hc) (by decide)
  have S:h_ s st.length (cW st.length m):=ve G0 (VQ _);dsimp only;show aB (cf _ _ _) _ _ [some (.ref n),some (aq A),some (.ref (st.length+m)),some (.int j),some (.int q),some (.int v)] s;refine fC (A:=cf _ _ _) (λ σ' s'=>∃(c:Nat) (ds:List D) (o3 o4 o5:Option D),σ'=[some (.ref n),some (aq A),some (.ref c),o3,o4,o5]/\st.length<=c/\s'[c]?=some (.lst ds)/\h_ s' st.length ds/\D.ref c∉ds/\ds.length<=1000/\Hd s' n (b+5)/\XU st n s') (λ nx hnx=>?_) ?_
  . have N0:D.ref (st.length+m)∉cW st.length m:=λ z=>by have:=pK z;lia
    have old:∀c,D.ref c∈cW st.length m->c<st.length+m:=λ c z=>(pK z).2;have R:s[st.length+j]?=some (pQ r):=G j r ej;have hgr:∀x∈r,x.natAbs<=2^62000000:=hg r (Wa ej)
    have row:∀(s1:ae) (b':Int) (ys:List D),Upd s n s1->Hd s1 n b'->b'<=b+5->ys.length<=500->(∀y∈ys,y9 y)->nx [some (.ref n),some (aq A),some (.ref (st.length+m)),some (.int j),some (.int q),some (.int v)] (s1.set (st.length+j) (.lst ys)):=λ s1 b' ys U1 B1 h5 hl hy=>by
     have ne:∀i,i≠n->s1[i]?=s[i]?:=U1.same;have l1:=U1.len;refine hnx _ _ ⟨_,_,_,_,_,rfl,by lia,(VW (by lia)).trans ((ne _ (by lia)).trans C),ve (λ i hi=>?_) (VQ _),N0,by rw[cx];lia,(B1.mono h5).cell (VW (by lia)),(X.trans (XU.upd U1)).set (by lia)⟩;by_cases h:i=j
     . subst h;exact⟨ys,V7 (by lia),hl,hy⟩
     . rw[VW (by lia),ne _ (by lia)];exact G0 i hi
    have lst:∀(s1:ae) (b':Int) (ds:List D),XU st n s1->st.length+m<s1.length->Hd s1 n b'->b'<=b+5->D.ref (st.length+m)∉ds->h_ s1 st.length ds->ds.length<=1000->nx [some (.ref n),some (aq A),some (.ref (st.length+m)),some (.int j),some (.int q),some (.int v)] (s1.set (st.length+m) (.lst ds)):=λ s1 b' ds X1 l1 B1 h5 hd hS hl=>
     hnx _ _ ⟨_,_,_,_,_,rfl,by lia,V7 l1,hS.at λ c hc=>VW λ e=>hd (by rw[e];exact hc),hd,hl,(B1.mono h5).cell (VW (by lia)),X1.set (by lia)⟩
    have E0:∀c:Cell,∀i,i<st.length+m->(s++[c])[i]?=s[i]?:=λ c i hi=>jL (by lia);have P0:∀ys:List D,XU st n (s++[Cell.lst ys])/\st.length+m<(s++[Cell.lst ys]).length/\Hd (s++[Cell.lst ys]) n (b+1+1+1)/\h_ (s++[Cell.lst ys]) st.length (cW st.length m)/\(s++[Cell.lst ys])[s.length]?=some (.lst ys):=λ ys=>⟨X.trans (XU.ext Ext.push),by rw[V3];lia,B4.cell (E0 _ _ (by lia)),S.at λ c hc=>E0 _ _ (old c hc),Yh⟩
    have O:∀d,d∈m4->∀c,d≠ .ref c:=λ d hd c e=>by subst e;simp[m4]at hd
    refine eq2 (λ _=>b_ ?_) λ _=>ji ?_
    . refine aw (ax C) (iN hj) (uu (ax R) λ ok aC=>⟨aI (by rw[VO];lia),?_⟩);refine gv D.int (λ x=>D.int (-x)) r (aC s (ax R)) (λ x _ K' q=>⟨_,rfl,eH q⟩) ?_;obtain⟨p1,p2,p3,p4,p5⟩:=P0 (r.map λ x=>D.int (-x));refine e8 ((jL (by lia)).trans C) (by rw[cx];exact fe hj) (lst _ _ _ p1 p2 p3 (by lia) (λ z=>?_) (p4.put (.inl ⟨_,_,rfl,by lia,p5,by rw[VO];lia,λ y hy=>?_⟩) λ c e z=>?_) (by rw[Wb,cx];lia))
      . rcases WI z with h|h
        . exact N0 h
        . simp only[D.ref.injEq]at h;lia
      . obtain⟨x,hx,rfl⟩:=V9.mp hy;exact oa (b:=62000000) (by rw[Xi];exact hgr x hx) (by decide)
      . have:=old c z;simp only[D.ref.injEq]at e;lia
    refine eq2 (λ _=>b_ ?_) λ _=>ji ?_
    . refine aw (ax C) (iN hm) (aw (ax C) (iN hj) ⟨VP rfl,?_⟩);refine e8 C (by rw[cx];exact fe hj) ?_;refine e8 (V7 (by lia)) (by rw[Wb,cx];exact fe hm) ?_;refine lst _ _ _ (X.set (by lia)) (by rw[Wb];lia) (B4.cell (VW (by lia))) (by lia) (λ z=>?_) ?_ (by rw[Wb,Wb,cx];lia)
      . rcases WI z with h|h
        . rcases WI h with h|h
          . exact N0 h
          . simp only[D.ref.injEq]at h;lia
        . simp only[D.ref.injEq]at h;lia
      . refine(S.at λ c hc=>VW (by have:=old c hc;lia)).map (λ i=>if i=0 then j else if i=j then 0 else i) (λ a c hac _ _=>?_) λ i hi=>?_
        . repeat' split
          all_goals lia
        . rw[Wb,Wb,cx]at hi;rw[Y5,Y5,Wb,cx];by_cases h0:i=0
          . subst h0;rw[VU rfl,VU (show 0<m from hm),VU rfl,kF hj]
          . rw[VT (V6 h0),VT h0];by_cases h1:i=j
            . subst h1;rw[VU rfl,VU hi,VU rfl,kF hm]
            . rw[VT (V6 h1),VT h1]
    refine eq2 (λ _=>b_ ?_) λ _=>ji ?_
    . refine aw (ax C) (iN hj) (aw (ax R) (fF hq) (dJ (aw (ax C) (iN hj) (e8 R (by rw[VO];exact fe hq) ?_))));refine row s _ _ Upd.refl B4 (by lia) (by rw[Wb,VO];lia) λ y hy=>?_;rcases WI hy with h|rfl
      . obtain⟨c,hc,rfl⟩:=V9.mp h;exact oa (hgr c hc) (by decide)
      . refine oa (HA (b:=62000000) (x:=r.getD q 0) (hgr _ ?_) _ (.inl rfl)) (by decide);rw[V1,V0 hq];exact XY hq
    refine eq2 (λ _=>b_ ?_) λ _=>ji ?_
    . refine⟨VP rfl,VP rfl,?_⟩;refine⟨n,4,b+1+1+1,rfl,B4,by lia,by lia,by decide,by decide,λ u s5 u0 u1 B5 U5=>?_⟩;obtain⟨y,hy,ey⟩:=pick (xs:=[D.bl true,.str "1",.ao,.tup [.int 1]]) u0 u1;refine aw (xs:=[D.bl true,.str "1",.ao,.tup [.int 1]]) rfl ey (aw (ax ((U5.same _ (by lia)).trans C)) (iN hj) (e8 ((U5.same _ (by lia)).trans R) (by rw[VO];exact fe hq) ?_));refine row s5 _ _ U5 B5 (by lia) (by rw[Wb,VO];lia) λ z hz=>?_;rcases WI hz with h|rfl
      . obtain⟨c,hc,rfl⟩:=V9.mp h;exact oa (hgr c hc) (by decide)
      . simp only[V4,Wh,Xn]at hy;rcases hy with rfl|rfl|rfl|rfl<;>exact tY (λ _=>⟨_,rfl⟩) (λ i e=>by cases e)
    refine eq2 (λ _=>b_ ?_) λ _=>ji ?_
    . refine Nq (λ _ q=>q) (λ _ q=>q) C ⟨by lia,by lia⟩ (by rw[cx];exact fe hj) (kF hj) ?_;refine lst s _ _ X (by lia) B4 (by lia) (λ z=>N0 (List.mem_of_mem_eraseIdx z)) S.del ?_;have:=List.length_eraseIdx_le (cW st.length m) j;rw[cx]at this;lia
    refine eq2 (λ _=>b_ ?_) λ _=>ji ?_
    . obtain⟨r0,e0⟩:∃r,A[0]?=some r:=⟨_,V0 (by lia)⟩
      have hr0:r0.length=w:=hA.cM r0 (Wa e0);obtain⟨p1,p2,p3,p4,p5⟩:=P0 (List.replicate ((av r0).length:Int).toNat [D.int 0]).flatten;have C5:=(jL (c:=Cell.lst (List.replicate ((av r0).length:Int).toNat [D.int 0]).flatten) (show st.length+m<s.length by lia)).trans C
      have h5:(0:Int)<=(j:Int)/\(j:Int)<=(cW st.length m).length/\(j:Int)<2^62/\(cW st.length m).length<sizeLine:=by
       rw[cx,Y7];lia
      refine Qy (d:= .ref s.length) (λ _ q=>q) (λ K' q=>?_) C C5 h5 ?_
      . exact⟨VP rfl,aw (ax C) (iN hm) (cD (ax (G 0 r0 e0)) (EV ⟨by lia,by rw[VO];lia,aI (by rw[VO,hr0];simp;lia)⟩ q))⟩
      . refine lst _ _ _ p1 p2 p3 (by lia) (λ z=>?_) (p4.ins (.inl ⟨_,_,rfl,by lia,p5,?_,λ y hy=>?_⟩) (λ c e z=>?_) (by rw[cx];lia)) ?_
        . rcases Wf.mp z with h|h
          . exact N0 (W7 h)
          . rcases V4.mp h with h|h
            . simp only[D.ref.injEq]at h;lia
            . exact N0 (ZD h)
        . rw[VO,hr0];simp;lia
        . obtain⟨l,hl,hy⟩:=List.mem_flatten.mp hy;rw[(List.mem_replicate.mp hl).2]at hy;rw[Wk.mp hy];exact tY (λ _=>⟨_,rfl⟩) (λ i e=>by cases e;decide)
        . have:=old c z;simp only[D.ref.injEq]at e;lia
        . rw[V3,Ws,Wl,WV,cx];lia
    refine eq2 (λ _=>b_ ?_) λ _=>ji ?_
    . refine OL (λ K' q=>aw (ax C) (iN hj) q) R (OX R (by rw[VO,Y7];lia) ?_);refine row s _ _ Upd.refl B4 (by lia) (by rw[V3,VO];show r.length+1<=500;lia) λ y hy=>?_;rcases Wf.mp hy with h|h
      . obtain⟨c,hc,rfl⟩:=V9.mp h;exact oa (hgr c hc) (by decide)
      . rw[Wk.mp h];exact tY (λ _=>⟨_,rfl⟩) (λ i e=>by cases e;decide)
    refine eq2 (λ _=>b_ ?_) λ _=>ji ?_
    . refine⟨n,b+1+1+1,rfl,B4,by lia,by lia,λ d s5 hd B5 U5=>?_⟩;refine e8 ((U5.same _ (by lia)).trans C) (by rw[cx];exact fe hj) ?_;refine lst _ _ _ (X.trans (XU.upd U5)) (by rw[U5.len];lia) B5 (by lia) (λ z=>?_) ((S.at λ c hc=>U5.same _ (by have:=(pK hc).1;lia)).put (.inr (Q3 hd)) λ c e=>absurd e (O d hd c)) (by rw[Wb,cx];lia);rcases WI z with h|h
      . exact N0 h
      . exact O d hd _ h.symm
    have it:∀(cs:List Cell) i,i<st.length+m+1->(s++cs)[i]?=s[i]?:=λ cs i hi=>VZ (by lia);refine uu (ax C) λ ok aC=>⟨aI (by rw[cx];lia),?_⟩
    refine wm (λ i=>D.ref (st.length+i)) (λ i=>Cell.lst ((A.getD i []).map λ x=>D.int (2*x))) (List.range m) (λ cs=>aC _ (ax ((it cs _ (by lia)).trans C))) (λ i hi cs K' q=>?_) ?_
    . have hi:=XE.mp hi;have ei:A[i]?=some (A.getD i []):=by rw[V1,V0 (by lia)];rfl
      have hR:=(it cs (st.length+i) (by lia)).trans (G i _ ei);refine⟨_,rfl,uu (ax hR) λ ok2 hok2=>⟨aI (by rw[VO,hA.cM _ (Wa ei)];lia),?_⟩⟩;exact gv D.int (λ x=>D.int (2*x)) _ (hok2 _ (ax hR)) (λ x _ K' q=>⟨_,rfl,fM (gf (by decide) (by decide)) q⟩) q
    . rw[YB];refine hnx _ _ ⟨_,_,_,_,_,rfl,?_,Yh,ve (λ i hi=>?_) (by lia),λ z=>?_,by rw[cx];lia,(B4.mono (by lia)).cell ?_,X.trans (XU.ext ⟨?_,λ i hi=>?_⟩)⟩
      . rw[V3];lia
      . refine⟨(A.getD i []).map λ x=>D.int (2*x),?_,?_⟩
        . rw[jL (by rw[V3,VO,YB];lia),Wu (by lia),Wx,Wn,ZI hi];rfl
        . have ei:A[i]?=some (A.getD i []):=by rw[V1,V0 (by lia)];rfl
          have mi:=Wa ei;refine⟨by rw[VO,hA.cM _ mi];lia,λ y hy=>?_⟩;obtain⟨x,hx,rfl⟩:=V9.mp hy;exact oa (HA (b:=62000000) (hg _ mi x hx) _ (.inr rfl)) (by decide)
      . have:=(pK z).2;rw[V3,VO,YB]at this;lia
      . rw[jL (by rw[V3];lia),VZ (by lia)]
      . rw[V3,V3];lia
      . rw[jL (by rw[V3];lia),VZ hi]
  . rintro σ' s' ⟨c,ds,o3,o4,o5,rfl,hc,ec,hS,nc,hl,hB,hX⟩;obtain⟨es,cs,hf,nd,hm2,hT,he⟩:=MO hS;refine Nr rfl ec hf (Xp.mpr ⟨λ z=>nc (hm2 c z).1,nd⟩) ?_;have hk:∀i,i<st.length->(kill (c::cs) s')[i]?=s'[i]?:=λ i hi=>EY λ z=>(V4.mp z).elim (λ e=>by lia) λ e=>by have:=(hm2 i e).2;lia
    exact k _ _ (.inr ⟨es,.inr rfl,by lia,hT⟩) (hB.cell (hk n nL)) ⟨by rw[CH];exact hX.len,λ i hi g=>(hk i hi).trans (hX.same i hi g)⟩
structure Gd(A:List (List Int)):Prop where
 len:A.length<=500
 cM:∀r∈A,r.length<=500
 big:Bg A 62000000
def nE:bw:=λ ds st K=>∃(A B:List (List Int)),ds=[.tup [aq A,aq B]]/\Gd A/\Gd B/\∀d,fK d->K d st
def sH:List Str:=["_law_paper","_law_turn"]
def BS:DS:=(aB (a6 1 (ai cn (cH (ai aK (ab 0) (dC (.int 0))) cp (cY (g9 e6 (dC (.int 1))))) (aU ck (aa (bh (cq (cH (ai aK (ab 0) (dC (.int 0))) (cY (g9 e6 (dC (.int 1)))) cp)) [none] (aM 0) aW (aU ck (aa (bh (cq (ab 0)) [none] (aM 0) aW (g9 e6 (ab 0))) af))) af))))
 (aN (bZ (aa (ab 1) (aa (aU ck (aa (bh (cq (ai aK (ab 0) (dC (.int 1)))) [none] (aM 0) aW (ai cn (cH (ab 0) cp (cY (g9 e6 (dC (.int 1))))) (aU ck (aa (bh (cq (cH (ab 0) (cY (g9 e6 (dC (.int 1)))) cp)) [none] (aM 0) aW (g9 e6 (ab 0))) af)))) af)) af)))))
theorem pz{α:Type}(f:α->D)(xs:List α)(lo hi:Option Int):∃ys:List α,L3.cutD (xs.map f) lo hi=ys.map f/\ys.length<=xs.length/\∀y∈ys,y∈xs:=by
 unfold L3.cutD;refine⟨(xs.drop (HT.bL (xs.map f).length 0 lo)).take (HT.bL (xs.map f).length (xs.map f).length hi-HT.bL (xs.map f).length 0 lo),(by rw[XD,ZW]),?_,λ y hy=>ZD (W7 hy)⟩;rw[Wl,WV];lia
theorem wZ(l:A.length<=1000)(w:∀r∈A,r.length<=1000)(b:Bg A 62000000)(h:Ls d (A.map aR)\/Ls d (A.map a7)):e9 d:=by
 have one:∀r∈A,pv (aR r)/\pv (a7 r):=λ r hr=>by
  have q:∀x∈av r,y9 x:=λ x hx=>by
   obtain⟨c,hc,rfl⟩:=V9.mp hx;exact oa (b r hr c hc) (by decide)
  have q2:(av r).length<=1000:=by rw[VO];exact w r hr
  exact⟨.inr ⟨_,.inl rfl,q2,q⟩,.inr ⟨_,.inr rfl,q2,q⟩⟩
 rcases h with h|h
 all_goals
  refine .inr ⟨_,h,by rw[VO];exact l,λ x hx=>?_⟩;obtain⟨r,hr,rfl⟩:=V9.mp hx
 . exact(one r hr).1
 . exact(one r hr).2
theorem Gd.t(h:Gd A):e9 (aq A):=wZ (VX h.len (by decide)) (λ r hr=>VX (h.cM r hr) (by decide)) h.big (.inl (.inl rfl))
theorem Gd.l(h:Gd A):e9 (nZ A):=wZ (VX h.len (by decide)) (λ r hr=>VX (h.cM r hr) (by decide)) h.big (.inr (.inr rfl))
theorem dP(h:Ls d [x,y])(a:e9 x)(b:e9 y):fK d:= .inr ⟨_,h,VP rfl,λ z hz=>by
 simp only[V4,Wh,Xn]at hz;rcases hz with rfl|rfl
 . exact a
 . exact b⟩
theorem Ah:VN nE 1 BS sH:=by
 rintro ds st K ⟨A,B,rfl,hA,hB,k⟩;refine⟨rfl,?_⟩;have lA:=hA.len;have lB:=hB.len;have neg:∀r:List Int,(r.map λ x=>D.int (-x))=av (r.map λ x=> -x):=λ r=>by rw[av,WB];rfl
 obtain⟨A1,e1,l1,m1⟩:=pz aR A none (some (-1));obtain⟨A2,e2,l2,m2⟩:=pz aR A (some (-1)) none;refine aw (xs:=[aq A,aq B]) rfl rfl (eH (dD (aw (xs:=[aq A,aq B]) rfl rfl (eH (dD (eK ?_))))));rw[e1,e2];refine⟨aI (by rw[VO];lia),?_⟩;refine gv aR (λ r=>aR (r.map λ x=> -x)) A2 trivial (λ r hr K' q=>⟨_,rfl,?_⟩) ?_
 . refine eK ⟨aI (by rw[VO];exact VX (hA.cM r (m2 r hr)) (by decide)),?_⟩;refine gv D.int (λ x=>D.int (-x)) r trivial (λ x _ K' q=>⟨_,rfl,eH q⟩) (cj rfl ?_);rw[neg];exact q
 refine cj rfl (jz (aI (by rw[VO,VO];lia)) ?_);have eA:A1.map aR++A2.map (λ r=>aR (r.map λ x=> -x))=(A1++A2.map λ r=>r.map λ x=> -x).map aR:=by rw[WJ,WB];rfl
 rw[eA]
 have gA:e9 (aq (A1++A2.map λ r=>r.map λ x=> -x)):=by
  refine wZ (by rw[V3,VO];lia) (λ r hr=>?_) (λ r hr x hx=>?_) (.inl (.inl rfl))
  . rcases Wf.mp hr with h|h
    . exact VX (hA.cM r (m1 r h)) (by decide)
    . obtain⟨r',h',rfl⟩:=V9.mp h;rw[VO];exact VX (hA.cM r' (m2 r' h')) (by decide)
  . rcases Wf.mp hr with h|h
    . exact hA.big r (m1 r h) x hx
    . obtain⟨r',h',rfl⟩:=V9.mp h;obtain⟨y,hy,rfl⟩:=V9.mp hx;rw[Xi];exact hA.big r' (m2 r' h') y hy
 generalize A1++A2.map (λ r=>r.map λ x=> -x)=A3 at gA⊢;clear eA m1 m2 l1 l2 e1 e2
 have key:∀r:List Int,∃s,(r.length<=500->s.length<=1000)/\(∀x∈s,∃y∈r,x.natAbs=y.natAbs)/\∃r1 r2:List Int,L3.cutD (av r) none (some (-1))=av r1/\L3.cutD (av r) (some (-1)) none=av r2/\r1.length<=r.length/\r2.length<=r.length/\s=r1++r2.map λ x=> -x:=λ r=>by
  obtain⟨r1,e1,l1,m1⟩:=pz D.int r none (some (-1));obtain⟨r2,e2,l2,m2⟩:=pz D.int r (some (-1)) none;refine⟨r1++r2.map λ x=> -x,λ h=>by rw[V3,VO];lia,λ x hx=>?_,r1,r2,e1,e2,l1,l2,rfl⟩;rcases Wf.mp hx with h|h
  . exact⟨x,m1 x h,rfl⟩
  . obtain⟨y,hy,rfl⟩:=V9.mp h;exact⟨y,m2 y hy,Xi y⟩
 refine aw (xs:=[aq A,aq B]) rfl rfl (eK ⟨aI (by rw[VO];lia),?_⟩);refine gv aR (λ r=>aR (Classical.choose (key r))) B trivial (λ r hr K' q=>⟨_,rfl,?_⟩) ?_
 . obtain⟨r1,r2,e1,e2,l1,l2,es⟩:=(XG (key r)).2.2;have lr:=hB.cM r hr;refine eH (dD (eH (dD (eK ?_))));rw[e1,e2];refine⟨aI (by rw[VO];lia),?_⟩;refine gv D.int (λ x=>D.int (-x)) r2 trivial (λ x _ K' q=>⟨_,rfl,eH q⟩) (cj rfl (jz (aI (by rw[VO,VO];lia)) ?_));rw[neg,<-WJ,<-es];exact q
 refine cj rfl ⟨VP rfl,k _ (dP (.inl rfl) gA ?_)⟩;refine wZ (A:=B.map λ r=>Classical.choose (key r)) (by rw[VO];lia) (λ r hr=>?_) (λ r hr x hx=>?_) (.inl (.inl (by rw[WB];rfl)))
 . obtain⟨r',h',rfl⟩:=V9.mp hr;exact(XG (key r')).1 (hB.cM r' h')
 . obtain⟨r',h',rfl⟩:=V9.mp hr;obtain⟨y,hy,e⟩:=(XG (key r')).2.1 x hx;rw[e];exact hB.big r' h' y hy
def oN:bw:=λ ds st K=>∃(n:Nat) (b:Int) (F G C:List (List Int)) (m k p w:Nat) (f:Bool),ds=[.ref n,dZ w F,dZ w G,dZ w C]/\Hd st n b/\n≠0/\0<=b/\b<=700000000/\Tv F G m k w/\st[0]?=some (dO f)/\Mx.aL p w C/\p<=8/\Bg C 2000/\∀xs st',(∀x∈xs,fK x)->xs.length<=100->Hd st' n (b+20)->K (.lst xs) st'
def uS:List Str:=["_law_hand_here","_law_one","_law_other","_law_told","_law_wide","_law_form","_law_both","_law_some"]
def DZ:DS:=(aB (x4 (fI 4 5) (ab 3))
 (aB (a6 6 (ak qv (aa (ab 1) (aa (ab 2) af))))
 (aB (a6 7 (fy (aa (ab 6) (aa (bZ (aa (ai cn (ab 4) (dC (.int 1))) (aa (ab 5) af))) (aa (bZ (aa (dC (.bl true)) (aa (ab 5) af))) (aa (bZ (aa (aU C8 (aa (ab 4) af)) (aa (ab 5) af))) (aa (fy (aa (ab 4) (aa (ak (fT 5) (aa (ab 5) af)) af))) (aa (bZ (aa (ab 4) (aa (ab 5) (aa (ab 5) af)))) af))))))))
 (aB (a6 7 (ai cn (ab 7) (fy (aa (bZ (aa (ab 4) af)) (aa (bZ (aa (ab 4) (aa (ak fH (aa (ab 0) af)) af))) (aa (ak fH (aa (ab 0) af)) (aa (bZ (aa (ab 4) (aa (ai cn (ab 5) (bZ (aa (ai dA (bZ (aa (dC (.int 0)) af)) (ab 4)) af))) af))) (aa (bZ (aa (ab 4) (aa (cH (ab 5) cp (cY (g9 e6 (dC (.int 1))))) af))) af))))))))
 (aN (ai cn (ab 7) (fy (aa (bZ (aa (ab 4) (aa (ak gB (aa (ab 0) (aa (ab 5) af))) af))) (aa (bZ (aa (ab 4) (aa (ak gB (aa (ab 0) (aa (ab 5) af))) af))) af)))))))))
theorem yu:∀y∈([]:List D),fK y:=λ y hy=>by cases hy
theorem eM(h:fK x)(t:∀y∈xs,fK y):∀y∈x::xs,fK y:=List.forall_mem_cons.mpr ⟨h,t⟩
theorem FV{xs ys:List D}(h:∀y∈xs,fK y)(t:∀y∈ys,fK y):∀y∈xs++ys,fK y:=λ y hy=>(Wf.mp hy).elim (h y) (t y)
theorem GW(hA:Mx.aL N w A)(h:∀i c,i<N->c<w->(Mx.g A i c).natAbs<=2^b):Bg A b:=λ r hr x hx=>by
 obtain⟨i,hi,rfl⟩:=Wt.mp hr;obtain⟨c,hc,rfl⟩:=Wt.mp hx;have:=h i c (by rw[<-hA.len];exact hi) (by rw[<-hA.cM _ hr];exact hc);unfold Mx.g at this;rw[V1,V1,V0 hi]at this;rw[show(some A[i]).getD []=A[i]from rfl,V0 hc]at this;exact this
theorem qh(hA:Mx.aL N w A)(hN:N<=500)(hw:w<=500)(h:Bg A b)(hb:b<=62000000):Gd A:=⟨by rw[hA.len];exact hN,λ r hr=>by rw[hA.cM r hr];exact hw,λ r hr x hx=>VX (h r hr x hx) (Wc (by decide) hb)⟩
theorem Pj(h8:h<=8):h*(9*2^200)^h<=2^2000:=by
 have a:9*2^200<=2^204:=by decide
 have c:(9*2^200)^h<=(2^204)^8:=VX (Nat.pow_le_pow_left a h) (Wc (by decide) h8);rw[<-Nat.pow_mul]at c;refine VX (WL (VX h8 (show 8<=2^3 by decide)) c) ?_;rw[<-XI];exact Wc (by decide) (by decide)
theorem jX{i:Int}:e9 (.int i):= .inl λ _=>⟨⟨_,rfl⟩,rfl⟩
theorem L9(h:Ls d [x])(a:e9 x):fK d:= .inr ⟨_,h,VP rfl,λ z hz=>by rw[Wk.mp hz];exact a⟩
theorem Mi(h:Ls d [x,y,z])(a:e9 x)(b:e9 y)(c:e9 z):fK d:= .inr ⟨_,h,VP rfl,λ u hu=>by
 simp only[V4,Wh,Xn]at hu;rcases hu with rfl|rfl|rfl
 . exact a
 . exact b
 . exact c⟩
theorem Br:VN oN 4 DZ uS:=by
 rintro ds st K ⟨n,b,F,G,C,m,kk,p,w,f,rfl,B,nz,b0,hb,T,t0,iC,p8,bC,k⟩;have w1:=T.w1;have w8:=T.w8;have mn:=T.mn;have lC:=iC.len;have gC:Gd C:=qh iC (by lia) (by lia) bC (by decide);refine⟨rfl,_,rfl,?_⟩;refine⟨F,G,m,kk,w,f,rfl,T,t0,λ st1 H h K1 fo=>?_⟩;have B1:Hd st1 n b:=B.cell (K1.fr n B.lt nz);have bH:Bg H 2000:=GW fo.is λ i c hi hc=>VX (Mx.kH.abs fo.m8 fo.st fo.red fo.same (nQ (E6 T.iF T.iG) T.bA) i c hi hc) (Pj fo.m8);have gH:Gd H:=qh fo.is (by have:=fo.m8;lia) (by lia) bH (by decide);clear B K1 t0;have tC:tL 4 (aq C)=true:=El (by lia) λ r hr=>by rw[iC.cM r hr];lia
 have hw:((w:Int)).natAbs.log2<1920:=by
  have:((w:Int)).natAbs<=8:=by lia
  exact Yv (Nat.log2_le_self _) (by lia)
 refine dJ ⟨VP rfl,VP rfl,Ri hw ⟨VP rfl,aq C,rfl,tC,?_⟩⟩;rw[yJ];refine⟨VP rfl,VP rfl,VP rfl,?_⟩;have T6:=eM (dP (d:=dZ w H) (.inl rfl) (jX (i:=w)) gH.t) (eM (dP (.inl rfl) (jX (i:=(w:Int)+1)) gC.t) (eM (dP (x:= .bl true) (.inl rfl) (.inl λ _=>⟨⟨_,rfl⟩,rfl⟩) gC.t) (eM (dP (x:= .str (toString (w:Int))) (.inl rfl) (.inl λ _=>⟨⟨_,rfl⟩,rfl⟩) gC.t) (eM (dP (.inr rfl) (jX (i:=w)) gC.l) (eM (Mi (.inl rfl) (jX (i:=w)) gC.t gC.t) yu)))));generalize hL6:([dZ w H,.tup [.int ((w:Int)+1),aq C],.tup [.bl true,aq C],.tup [.str (toString (w:Int)),aq C],.lst [.int w,nZ C],.tup [.int w,aq C,aq C]]:List D)=L6 at T6;have l6:L6.length=6:=by rw[<-hL6];rfl
 refine⟨VP rfl,n,b,rfl,B1,b0,by lia,λ d1 s2 hd1 B2 U2=>⟨VP rfl,?_⟩⟩;refine⟨n,b+1,rfl,B2,by lia,by lia,λ d2 s3 hd2 B3 U3=>⟨VP rfl,?_⟩⟩;refine ue ⟨by lia,by lia,aI (by simp;lia)⟩ ⟨VP rfl,?_⟩;rw[Wi,nH];refine jz (aI (by rw[VO];show C.length+1<=1000;lia)) ⟨VP rfl,?_⟩;obtain⟨C1,e1,l1,m1⟩:=pz aR C none (some (-1));have gC1:Gd C1:=⟨by lia,λ r hr=>gC.cM r (m1 r hr),λ r hr=>gC.big r (m1 r hr)⟩
 have gC2:Gd (C++[List.replicate w 0]):=by
  refine⟨by rw[V3];show C.length+1<=500;lia,λ r hr=>?_,λ r hr x hx=>?_⟩
  . rcases Wf.mp hr with h|h
    . exact gC.cM r h
    . rw[Wk.mp h,Yj];lia
  . rcases Wf.mp hr with h|h
    . exact gC.big r h x hx
    . rw[Wk.mp h]at hx;rw[(List.mem_replicate.mp hx).2];exact Wg _
 have eC2:(C.map aR++[D.tup (av (List.replicate w 0))])=(C++[List.replicate w 0]).map aR:=by rw[WJ];rfl
 rw[eC2];dsimp only[aa,bZ,af,cH,cp,cY,g9,dC];refine BE (d:= .int w) rfl (BE (d:=aq C) rfl (eH (dD ⟨VP rfl,VP rfl,mV (aI (by rw[l6];exact VP rfl)) ?_⟩)));rw[e1];have T5:=eM (L9 (.inl rfl) (jX (i:=w))) (eM (dP (.inl rfl) (jX (i:=w)) (Kn hd1)) (eM (RB hd2) (eM (dP (.inl rfl) (jX (i:=w)) gC2.t) (eM (dP (.inl rfl) (jX (i:=w)) gC1.t) yu))));have T11:=FV T6 T5;refine⟨n,b+1+1,C,p,w,rfl,B3,by lia,by lia,iC,p8,w8,λ _=>w1,gC.big,λ d3 s4 h3 B4 X4=>⟨VP rfl,?_⟩⟩;refine⟨n,b+1+1+5,C,p,w,rfl,B4,by lia,by lia,iC,p8,w8,λ _=>w1,gC.big,λ d4 s5 h4 B5 X5=>⟨VP rfl,VP rfl,?_⟩⟩;refine mV (aI (by rw[V3,l6];exact VP rfl)) (k _ _ (FV T11 (eM (dP (.inl rfl) (jX (i:=w)) h3) (eM (dP (.inl rfl) (jX (i:=w)) h4) yu))) ?_ (B5.mono (by lia)));rw[V3,V3,l6];exact VP rfl
def nJ:bw:=λ ds st K=>∃(n:Nat) (b:Int) (U V:List (List Int)) (N:Nat),ds=[.ref n,.tup [aq U,aq V]]/\Hd st n b/\0<=b/\b<=700000000/\Mx.aL N N U/\Mx.aL N N V/\N<=8/\Bg U 62000000/\Bg V 62000000/\∀xs st',(∀x∈xs,fK x)->xs.length<=100->Hd st' n (b+30)->K (.lst xs) st'
def tD:List Str:=["_law_hand_here","_law_paper","_law_turn","_law_back","_law_many","_law_units","_law_some"]
def BU:DS:=(aB (x4 (fI 2 3) (ab 1))
 (aB (a6 4 (aU dc (aa (ab 2) af)))
 (aB (a6 5 (aU ck (aa (bh (cG (aa (ab 4) af)) [none,some 4] (aM 0) aW (aU ck (aa (bh (cG (aa (ab 1) af)) [none,some 0] (aM 0) aW (aU l9 (aa (ai dE (ab 1) (ab 0)) af))) af))) af)))
 (aB (a6 6 (fy (aa (bZ (aa (ab 3) (aa (ab 2) af))) (aa (bZ (aa (ab 5) (aa (ab 5) af))) (aa (ak nE (aa (ab 1) af)) (aa (bZ (aa (ab 2) af)) (aa (bZ (aa (ab 2) (aa (ab 3) (aa (ab 3) af)))) (aa (ak (fT 5) (aa (ab 1) af)) af))))))))
 (aB (a6 6 (ai cn (ab 6) (fy (aa (ak fH (aa (ab 0) af)) (aa (bZ (aa (ab 2) (aa (ak fH (aa (ab 0) af)) af))) (aa (bZ (aa (ak fH (aa (ab 0) af)) (aa (ab 3) af))) (aa (bZ (aa (ab 2) (aa (ab 2) af))) (aa (bZ (aa (bZ af) (aa (bZ af) af))) af))))))))
 (aN (ai cn (ab 6) (fy (aa (bZ (aa (ak gB (aa (ab 0) (aa (ab 2) af))) (aa (ab 3) af))) (aa (bZ (aa (ab 2) (aa (ak gB (aa (ab 0) (aa (ab 3) af))) af))) (aa (bZ (aa (ak gB (aa (ab 0) (aa (ab 2) af))) (aa (ab 3) af))) af)))))))))))
theorem Lg:Bg (Mx.units N) b:=λ r hr x hx=>by
 unfold Mx.units at hr;obtain⟨i,_,rfl⟩:=V9.mp hr;obtain⟨j,_,rfl⟩:=V9.mp hx;refine VX (m:=1) ?_ (Nat.two_pow_pos b);unfold Mx.dl;split<;>decide
theorem OJ(h:N<=8)(r:List Int)(hr:r∈Mx.units N):r.length<=500:=by
 unfold Mx.units at hr;obtain⟨i,_,rfl⟩:=V9.mp hr;unfold Mx.eX;rw[VO,YB];lia
theorem LH(h:N<=8):Gd (Mx.units N):=⟨by rw[sE];lia,OJ h,Lg⟩
theorem JK{i j N:Nat}{st:ae}(h:σ[j]?=some (some (.int N)))(n8:N<=8)(k:E.nx (σ.set i (some (aq (Mx.units N)))) st):a6 i (aU ck (aa (bh (cG (aa (ab j) af)) [none,some j] (aM 0) aW (aU ck (aa (bh (cG (aa (ab 1) af)) [none,some 0] (aM 0) aW (aU l9 (aa (ai dE (ab 1) (ab 0)) af))) af))) af)) E σ st:=by
 have e:fB [none,some j] σ=[none,some (.int N)]:=by unfold fB;simp[h]
 refine BE h (dW ⟨by lia,by lia⟩ ⟨aI (by rw[cv];lia),?_⟩);rw[Wi,e];exact B0 n8 (cj rfl k)
theorem Av:VN nJ 2 BU tD:=by
 rintro ds st K ⟨n,b,U,V,N,rfl,B,b0,hb,iU,iV,n8,bU,bV,k⟩;have lU:=iU.len;have lV:=iV.len;have gU:Gd U:=qh iU (by lia) (by lia) bU (by decide);have gV:Gd V:=qh iV (by lia) (by lia) bV (by decide);have gE:=LH n8;refine⟨rfl,_,rfl,cD rfl ?_⟩;rw[VO,lU];dsimp only;show aB (a6 5 _) _ _ [some (.ref n),some (.tup [aq U,aq V]),some (aq U),some (aq V),some (.int N),none,none] st;refine JK (σ:=[some (.ref n),some (.tup [aq U,aq V]),some (aq U),some (aq V),some (.int N),none,none]) rfl n8 ?_;generalize Mx.units N=E at gE⊢;refine⟨VP rfl,VP rfl,U,V,rfl,gU,gV,λ d1 h1=>⟨VP rfl,VP rfl,?_⟩⟩;refine⟨.tup [aq U,aq V],rfl,?_,?_⟩
 . have a:∀ {X:List (List Int)},Mx.aL N N X->tL 3 (aq X)=true:=λ iX=>El (by rw[iX.len];lia) λ r hr=>by rw[iX.cM r hr];lia
   unfold tL;rw[WY,WY,a iU,a iV];rfl
 rw[show sR 4 (.tup [aq U,aq V])= .lst [nZ U,nZ V] by
  show D.lst [sR 3 (aq U),sR 3 (aq V)]=_;rw[yJ,yJ]]
 refine⟨VP rfl,?_⟩;have T6:=eM (dP (.inl rfl) gV.t gU.t) (eM (dP (.inl rfl) gE.t gE.t) (eM h1 (eM (L9 (.inl rfl) gU.t) (eM (Mi (.inl rfl) gU.t gV.t gV.t) (eM (dP (.inr rfl) gU.l gV.l) yu)))));generalize hL6:([.tup [aq V,aq U],.tup [aq E,aq E],d1,.tup [aq U],.tup [aq U,aq V,aq V],.lst [nZ U,nZ V]]:List D)=L6 at T6;have l6:L6.length=6:=by rw[<-hL6];rfl
 refine⟨n,b,rfl,B,b0,by lia,λ d2 s2 h2 B2 U2=>?_⟩;refine⟨n,b+1,rfl,B2,by lia,by lia,λ d3 s3 h3 B3 U3=>⟨VP rfl,?_⟩⟩;refine⟨n,b+1+1,rfl,B3,by lia,by lia,λ d4 s4 h4 B4 U4=>⟨VP rfl,VP rfl,VP rfl,VP rfl,VP rfl,VP rfl,?_⟩⟩;refine mV (aI (by rw[l6];exact VP rfl)) ?_;have e0:e9 (.tup []):= .inr ⟨[],.inl rfl,Wg _,λ x hx=>by cases hx⟩;have T5:=eM (RB h2) (eM (dP (.inl rfl) gU.t (Kn h3)) (eM (dP (.inl rfl) (Kn h4) gV.t) (eM (dP (.inl rfl) gU.t gU.t) (eM (dP (.inl rfl) e0 e0) yu))));have T11:=FV T6 T5;refine⟨n,b+1+1+1,U,N,N,rfl,B4,by lia,by lia,iU,n8,n8,id,bU,λ d5 s5 h5 B5 X5=>⟨VP rfl,?_⟩⟩;refine⟨n,b+1+1+1+5,V,N,N,rfl,B5,by lia,by lia,iV,n8,n8,id,bV,λ d6 s6 h6 B6 X6=>⟨VP rfl,?_⟩⟩;refine⟨n,b+1+1+1+5+5,U,N,N,rfl,B6,by lia,by lia,iU,n8,n8,id,bU,λ d7 s7 h7 B7 X7=>⟨VP rfl,VP rfl,?_⟩⟩;refine mV (aI (by rw[V3,l6];exact VP rfl)) (k _ _ (FV T11 (eM (dP (.inl rfl) h5 gV.t) (eM (dP (.inl rfl) gU.t h6) (eM (dP (.inl rfl) h7 gV.t) yu)))) ?_ (B7.mono (by lia)));rw[V3,V3,l6];exact VP rfl
def kQ:bw:=λ ds st K=>∃(F G:List (List Int)) (m n w:Nat) (x y:D),ds=[dZ w F,dZ w G,x,y]/\Tv F G m n w/\fK x/\fK y/\∀st',Ext st st'->K (.bl true) st'
def uJ:List Str:=["_law_one","_law_other","_law_told","_law_paper","_law_found"]
def Ds:DS:=(aB (a6 4 (ak iD (aa (ab 0) (aa (ab 1) (aa (ab 2) (aa (ab 3) af))))))
 (aN (ix (aU gn (aa (ab 4) (aa (dC (.ty "bool")) af))) (ai dE (ab 4) (ak nU (aa (ab 0) (aa (ab 1) (aa (ab 2) (aa (ab 3) af)))))))))
theorem Cr:VN kQ 4 Ds uJ:=by
 rintro ds st K ⟨F,G,m,n,w,x,y,rfl,T,hx,hy,k⟩;refine⟨rfl,F,G,m,n,w,x,y,rfl,T,hx,hy,?_⟩;refine gj (t:="bool") rfl (by decide) (b_ ⟨F,G,m,n,w,x,y,rfl,T,hx,hy,λ st2 X2=>?_⟩);refine qp rfl rfl ?_;rw[vP 40 _ rfl];exact k st2 X2
abbrev Mz:bw:=JD Rq
def MX:List Str:=["_law_script","_law_hand_here","_law_wide","_law_great","_law_one","_law_other","_law_told","_law_paper","_law_some"]
def SI:DS:=(aB (a6 1 (ak qm (aa (ab 0) af)))
 (aB (x4 (fI 2 3) (ak oJ (aa (ab 1) af)))
 (aB (x4 (fI 4 5) (ak rP (aa (ab 1) (aa (ab 2) (aa (ab 3) af)))))
 (aB (a6 6 (ak wc (aa (ab 4) (aa (ab 5) af))))
 (aB (a6 7 (ak ki (aa (ab 4) (aa (ab 5) af))))
 (aB (cf (gF (cO (aE (aU gn (aa (ab 7) (aa (dC (.ty "tuple")) af))))) (cO (aE (ak nU (aa (ab 4) (aa (ab 5) (aa (ab 6) (aa (ab 7) af)))))))) (aN (dC (.bl false))) bO)
 (aB (cf (aE (ai my (ak iD (aa (ab 4) (aa (ab 5) (aa (ab 6) (aa (ab 7) af))))) (dC (.bl true)))) (aN (dC (.bl false))) bO)
 (aB (jj (cq (ak oN (aa (ab 1) (aa (ab 4) (aa (ab 5) (aa (ab 6) af)))))) (aM 8) (cf (cO (aE (ak kQ (aa (ab 4) (aa (ab 5) (aa (ab 8) (aa (ab 7) af))))))) (aN (dC (.bl false))) bO))
 (aB (jj (cq (ak nJ (aa (ab 1) (aa (ab 7) af)))) (aM 8) (cf (cO (aE (ak kQ (aa (ab 4) (aa (ab 5) (aa (ab 6) (aa (ab 8) af))))))) (aN (dC (.bl false))) bO))
 (aN (dC (.bl true))))))))))))
theorem vZ{ld:Nat->Nat}(hF:Mx.aL m w F)(s:Mx.aY F m w ld)(rd:Mx.fW F m ld):∀(n k:Nat) (a:Int),k+n=m->(k<m->a<(ld k:Int))->bN (F.take k) a (F.drop k)=true
 |0,k,a,hk,_=>by
  rw[W8 (by rw[hF.len];lia)];rfl
 |n+1,k,a,hk,ha=>by
  have hl:=hF.len;have hkt:k<m:=by lia
  have hk2:k<F.length:=by lia
  obtain⟨_,h2,h3⟩:=s.lead k hkt
  have e1:F.drop k=F.getD k []::F.drop (k+1):=by
   rw[Mx.ba hk2,W6 hk2]
  have e2:F.take (k+1)=F.take k++[F.getD k []]:=by rw[Mx.ba hk2];exact Zg hk2
  have e3:d_ (F.getD k [])=some (ld k):=zk h3 (YE h2);have h4:¬((ld k:Int)<=a\/(F.getD k []).getD (ld k) 0<0):=λ h=>h.elim (λ h=>Int.not_le.mpr (ha hkt) h) λ h=>Int.lt_irrefl _ (Int.lt_trans h2 h)
  have h5:((F.take k).all λ a=>decide (0<=a.getD (ld k) 0)&&decide (a.getD (ld k) 0<(F.getD k []).getD (ld k) 0))=true:=Wm.mpr λ r hr=>by
   obtain⟨i,hi,rfl⟩:=Wt.mp hr;rw[Wl]at hi;have r1:=rd i k (by lia) hkt;unfold Mx.g at r1;rw[Mx.ba (show i<F.length by lia)]at r1;rw[List.getElem_take,Wr r1.1,Wr r1.2];rfl
  rw[e1,iO,e3];simp only[VT h4,VU h5];rw[<-e2];exact vZ hF s rd n (k+1) _ (by lia) λ h=>Int.ofNat_lt.mpr (s.mono k (k+1) (WA _) h)
theorem O6{r:List Int}{w:Nat}(h:r.length=w):eL [] (aR r) w=true:=by
 rw[Dg]
 have a:oj w (aR r)=true:=by
  show decide (((av r).length:Int)=(w:Int))=true;rw[VO,h];simp
 have b:xt (aR r)=true:=by
  show(av r).all isInt=true;exact Wm.mpr λ x hx=>by obtain⟨c,_,rfl⟩:=V9.mp hx;rfl
 rw[a,b];rfl
theorem BA{A:List (List Int)}{w:Nat}(h:∀r∈A,r.length=w):((A.map aR).all λ r=>eL [] r w)=true:=Wm.mpr λ x hx=>by
 obtain⟨r,hr,rfl⟩:=V9.mp hx;exact O6 (h r hr)
theorem BV{A:List (List Int)}{N w:Nat}(h:Mx.aL N w A):cK [] (aq A) (.int N) w=true:=by
 rw[fm (xs:=A.map aR) rfl,BA h.cM,VO,h.len];unfold i8;simp
theorem IY{A:List (List Int)}{N w:Nat}(h:Mx.aL N w A):cK [] (aq A) .ao w=true:=by
 rw[fm (xs:=A.map aR) rfl,BA h.cM];rfl
theorem kg:rowsOf (aq A)=A:=by
 show(A.map aR).map (intsOf [])=A;rw[WB];conv=>rhs;rw[<-List.map_id A]
 exact WU λ r _=>nV rfl
theorem Oh(T:Mx.Tn X A U C N w)(hX:Mx.aL N w X):Mx.mulM U X w=A/\Mx.mulM U (Mx.mh C N) N=Mx.units N:=by
 have iU:=T.eY;have iC:=T.fA;refine⟨(Mx.mO iU hX).ext T.isA λ i c hi hc=>?_,(Mx.mO iU (Mx.A7 iC)).ext (Mx.j6 _) λ i j hi hj=>?_⟩
 . rw[Mx.yv iU hX hi,T.ua i c hi hc]
 . rw[Mx.yv iU (Mx.A7 iC) hi,Mx.gD hi hj,<-T.ub i j hi hj];exact Mx.aG λ k hk=>by rw[Mx.Jm iC hj hk]
theorem Iw{α:Type}{p:α->Bool}{xs:List α}{t:Nat}(h1:∀x∈xs.take t,p x=true)(h2:∀x∈xs.drop t,p x=false):xs.filter p=xs.take t:=by
 conv=>lhs;rw[<-YF t xs]
 rw[W9,ZK.mpr h1,aax.mpr (λ x hx=>by rw[h2 x hx];decide),WE]
theorem Jj{α:Type}{p:α->Bool}{xs:List α}{t:Nat}(h1:∀x∈xs.take t,p x=false)(h2:∀x∈xs.drop t,p x=true):xs.filter p=xs.drop t:=by
 conv=>lhs;rw[<-YF t xs]
 rw[W9,ZK.mpr h2,aax.mpr (λ x hx=>by rw[h1 x hx];decide),Zs]
theorem ES{A:List (List Int)}{t:Nat}{r:List Int}(h:r∈A.take t):∃i,i<t/\i<A.length/\A.getD i []=r:=by
 obtain⟨i,hi,rfl⟩:=Wt.mp h;rw[Wl]at hi;exact⟨i,by lia,by lia,by rw[List.getElem_take,Mx.ba (by lia)]⟩
theorem Es{A:List (List Int)}{t:Nat}{r:List Int}(h:r∈A.drop t):∃i,t<=i/\i<A.length/\A.getD i []=r:=by
 obtain⟨i,hi,rfl⟩:=Wt.mp h;rw[WV]at hi;exact⟨t+i,by lia,by lia,by rw[List.getElem_drop,Mx.ba (by lia)]⟩
theorem JR{r:List Int}{c:Nat}(h:r.getD c 0≠0):(r.any λ n=>decide (n≠0))=true:=by
 have hc:c<r.length:=XH λ z=>h (by rw[V1,Zi (by lia)];rfl);exact List.any_eq_true.mpr ⟨r.getD c 0,getD_mem hc,Wr h⟩
theorem Iu{r:List Int}(h:∀c,c<r.length->r.getD c 0=0):(r.any λ n=>decide (n≠0))=false:=by
 refine Bool.eq_false_iff.mpr λ z=>?_;obtain⟨x,hx,q⟩:=List.any_eq_true.mp z;obtain⟨c,hc,rfl⟩:=Wt.mp hx;have:=h c hc;rw[V1,V0 hc]at this;exact Z0 q this
theorem Ck{r:List Int}{w q:Nat}(h:q<w):(r.take w).getD q 0=r.getD q 0:=by
 rw[V1,V1,XJ h]
theorem J_{F G R:List (List Int)}{m n w k top:Nat}{c:Mx.B3}(T:Tv F G m n w)(hC:Mx.g6 (Mx.dbl F G w) (m+n) (w+w) top c)(s:Mx.rS F m G n w R k):kb (Mx.dbl F G w) (m+n) w (dZ w R) (.tup [aq c.U,aq (Mx.mh c.C (m+n))])=true/\Mx.aL (m+n) (m+n) c.U/\Mx.aL (m+n) (m+n) (Mx.mh c.C (m+n))/\Bg c.U 60000000/\Bg (Mx.mh c.C (m+n)) 60000000:=by
 have mn:=T.mn;have w8:=T.w8;have hD:=Mx.oZ T.iF T.iG;have hlo:=mR hD (nQ hD T.bD);obtain⟨ld,H2⟩:=hC.str hD hlo (by lia) (VQ _);obtain⟨i1,s1,r1,same1⟩:=vI H2;have le:=H2.le;have tn:=H2.tn;obtain⟨e1,e2⟩:=Oh tn hD;have iV:=Mx.A7 tn.fA;obtain⟨z1,z2,z3⟩:=Mx.M_ top (by lia);have ey:top<m+n->Mx.Ey 200 top<=60000000:=λ h=>by have:=z3 (by lia);lia
 have up:∀ {x:Int} {a:Nat},x.natAbs<=2^a->a<=60000000->x.natAbs<=2^60000000:=λ h h'=>VX h (Wc (by decide) h');refine⟨?_,tn.eY,iV,GW tn.eY λ i q hi hq=>?_,GW iV λ i q hi hq=>?_⟩
 . have hl:=tn.isA.len;obtain⟨a,ha,qa⟩:=Mx.Bb s1.mono (w:=w);have eR:R=Mx.tl (c.A.take top) a w:=s.one (Mx.Nj T.iF T.iG i1 s1 r1 same1 ha qa) λ v=>Iff.rfl
   have f1:c.A.filter dH=c.A.take top:=Iw (λ r hr=>by
    obtain⟨i,hi,_,rfl⟩:=ES hr;rw[yO];exact JR (c:=ld i) (YE (H2.lead i hi).2.1)) λ r hr=>by
    obtain⟨i,hi,hi2,rfl⟩:=Es hr;rw[yO];refine Iu λ q hq=>H2.zs i q hi (by lia) ?_;rw[tn.isA.row (by lia)]at hq;exact hq
   have f2:nK c.A=c.A.take top:=by unfold nK;rw[f1,i1.len]
   have f3:C0 w c.A=Mx.tl (c.A.take top) a w:=by
    unfold C0 Mx.tl;rw[f1];congr 1;refine Jj (λ r hr=>?_) λ r hr=>?_
    . obtain⟨i,hi,hi2,rfl⟩:=ES hr;rw[i1.len]at hi2;have h1:=(qa i hi2).mpr hi;have h2:=(s1.lead i hi2).2.1;rw[JR (c:=Mx.eQ (c.A.take top) i)]
      . rfl
      . rw[Ck h1];exact YE h2
    . obtain⟨i,hi,hi2,rfl⟩:=Es hr;rw[i1.len]at hi2;have h1:¬Mx.eQ (c.A.take top) i<w:=λ h=>absurd ((qa i hi2).mp h) (by lia);rw[Iu]
      . rfl
      . intro q hq;rw[Wl]at hq;rw[Ck (by lia)];exact(s1.lead i hi2).2.2 q (by lia)
   have st1:bN [] (-1) (c.A.take top)=true:=vZ i1 s1 r1 top 0 (-1) (Ye _) λ _=>by lia
   have st2:bN [] (-1) R=true:=vZ s.is s.st s.red k 0 (-1) (Ye _) λ _=>by lia
   have told:d9 w (dZ w R)=true:=by
    rw[m9 (b:=aq R) (i:=w) rfl,IY s.is,kg,st2];simp
   rw[pR told (a:= .int w) (b:=aq R) (t:=aq c.U) (u:=aq (Mx.mh c.C (m+n))) rfl rfl];unfold yb r9 E9;rw[kg,kg,kg,BV tn.eY,BV iV,e1,e2,f2,f1,st1,f3,<-eR];simp
 . by_cases h:i<top
   . exact up (H2.hi i q h).2.1 z1
   . exact up (H2.lo.2.1 i q (by lia) hi) (ey (by lia))
 . rw[Mx.Jm tn.fA hq hi];by_cases h:q<top
   . exact up (H2.hi q i h).2.2 z2
   . exact up (H2.lo.2.2 q i (by lia) hq) (ey (by lia))
theorem A4{x:Int}{a b:Nat}(h:x.natAbs<=2^a)(l:a<=b:=by decide):x.natAbs<=2^b:=VX h (Wc (by decide) l)
theorem Lr{w k:Nat}(T:Tv F G 0 0 w)(s:Mx.rS F 0 G 0 w R k):kb (Mx.dbl F G w) (0+0) w (dZ w R) (.tup [aq [],aq []])=true:=by
 have eF:F=[]:=Xq T.iF.len;have eG:G=[]:=Xq T.iG.len;have eR:R=[]:=s.one Mx.rS.empty λ v=>Iff.rfl;subst eF eG eR;have i0:Mx.aL 0 0 []:=⟨rfl,λ r hr=>by cases hr⟩
 have told:d9 w (dZ w [])=true:=by
  rw[m9 (b:=aq []) (i:=w) rfl,IY (N:=0) ⟨rfl,λ r hr=>by cases hr⟩,kg];simp[bN]
 rw[pR told (a:= .int w) (b:=aq []) (t:=aq []) (u:=aq []) rfl rfl];unfold yb r9 E9;rw[kg,BV (N:=0) i0];rfl
theorem Q7:VN Mz 1 SI MX:=by
 rintro ds st K ⟨ns,rfl,hl,hst,k⟩;refine⟨rfl,?_⟩;have l0:st.length=1:=by rw[hst];rfl
 have t0:st[0]?=some (dO false):=by rw[hst];rfl
 clear hst;refine⟨ns,rfl,hl,λ st1 B1 X1=>?_⟩;have t1:st1[0]?=some (dO false):=by rw[X1.same 0 (by lia)];exact t0
 have nz:st.length≠0:=by lia
 refine⟨_,_,rfl,B1,by decide,by decide,λ w gr st2 w1 w8 hg hg' B2 U2=>⟨_,rfl,?_⟩⟩;have t2:st2[0]?=some (dO false):=by rw[U2.same 0 (V6 nz)];exact t1
 refine⟨_,_,w,gr,false,rfl,B2,nz,by decide,by decide,w1,w8,hg,hg',t2,λ st3 F G m n e0 f3 tw t3 B3=>⟨_,rfl,?_⟩⟩;clear B1 B2 U2 t0 t1 t2 X1;have mn:=tw.mn;have he:e0<=200:=by rcases tw.he with⟨_,rfl⟩|rfl<;>decide
 have up:∀ {X:List (List Int)},(∀r∈X,∀x∈r,x.natAbs<=2^e0)->∀r∈X,∀x∈r,x.natAbs<=2^200:=λ h r hr x hx=>VX (h r hr x hx) (Wc (by decide) he);have T:Tv F G m n w:=⟨tw.iF,tw.iG,mn,w1,w8,up tw.bF,up tw.bG⟩
 refine⟨_,_,.int w,aq F,aq G,F,G,m,n,w,f3,rfl,rfl,dX,rfl,dX,T.iF,T.iG,tw.mF,tw.mG,w8,T.bF,T.bG,.inl mn,t3,λ st4 R h K4 s bR=>?_⟩;have bR2:Bg R 2000:=GW s.is (bR mn);have h8:h<=8:=VX (Cq s.st) w8;have gR:Gd R:=qh s.is (by lia) (by lia) bR2 (by decide);have xR:fK (dZ w R):=dP (.inl rfl) jX gR.t;obtain⟨f4,t4⟩:=K4.tb;have B4:Hd st4 st.length (0+2+1000):=B3.cell (K4.fr _ B3.lt nz);clear B3 t3 K4 up he tw;dsimp only;show aB (a6 7 _) _ _ [some (.lst (ns.map .int)),some (.ref st.length),some (.int w),some (.bl gr),some (dZ w F),some (dZ w G),some (dZ w R),none,none] st4;refine fC (A:=a6 7 _) (λ σ' s'=>∃(U V:List (List Int)) (f5:Bool),σ'=[some (.lst (ns.map .int)),some (.ref st.length),some (.int w),some (.bl gr),some (dZ w F),some (dZ w G),some (dZ w R),some (.tup [aq U,aq V]),none]/\Hd s' st.length 2000/\s'[0]?=some (dO f5)/\Mx.aL (m+n) (m+n) U/\Mx.aL (m+n) (m+n) V/\Bg U 62000000/\Bg V 62000000/\kb (Mx.dbl F G w) (m+n) w (dZ w R) (.tup [aq U,aq V])=true) (λ nx hnx=>?_) ?_
 . refine⟨F,G,m,n,w,f4,rfl,T,t4,λ st5 h0 K5=>?_,λ st5 top c h1 hC K5=>?_⟩
   . obtain⟨f5,t5⟩:=K5.tb;obtain rfl:m=0:=by lia
     obtain rfl:n=0:=by lia
     exact hnx _ _ ⟨[],[],f5,rfl,(B4.cell (K5.fr _ B4.lt nz)).mono (by decide),t5,⟨rfl,λ r hr=>by cases hr⟩,⟨rfl,λ r hr=>by cases hr⟩,(λ r hr=>by cases hr),(λ r hr=>by cases hr),Lr T s⟩
   . obtain⟨f5,t5⟩:=K5.tb;obtain⟨d1,d2,d3,d4,d5⟩:=J_ T hC s;exact hnx _ _ ⟨c.U,_,f5,rfl,(B4.cell (K5.fr _ B4.lt nz)).mono (by decide),t5,d2,d3,λ r hr x hx=>A4 (d4 r hr x hx),λ r hr x hx=>A4 (d5 r hr x hx),d1⟩
 rintro _ s5 ⟨U,V,f5,rfl,B5,t5,iU,iV,bU,bV,hd⟩;have gU:Gd U:=qh iU (by lia) (by lia) bU (by decide);have gV:Gd V:=qh iV (by lia) (by lia) bV (by decide);have xP:fK (.tup [aq U,aq V]):=dP (.inl rfl) gU.t gV.t;clear B4 t4;refine gj (t:="tuple") rfl (by decide) ?_;rw[show qI "tuple" "tuple"=true from by decide];dsimp only;rw[VT (by decide)];refine⟨F,G,m,n,w,_,_,rfl,T,xR,xP,λ s6 X6=>?_⟩;rw[hd];have B6:=B5.cell (X6.same _ B5.lt);have t6:s6[0]?=some (dO f5):=(X6.same 0 (VV.mp t5).1).trans t5;clear B5 t5 X6;dsimp only;rw[VT (by decide)];dsimp only[bO];refine⟨F,G,m,n,w,_,_,rfl,T,xR,xP,?_⟩;rw[hd];refine TB rfl ?_;dsimp only[Bf];rw[VT (by decide)];dsimp only[bO];refine fC (A:=jj _ _ _) (λ σ' s'=>∃v:Option D,σ'=[some (.lst (ns.map .int)),some (.ref st.length),some (.int w),some (.bl gr),some (dZ w F),some (dZ w G),some (dZ w R),some (.tup [aq U,aq V]),v]/\Hd s' st.length 2020) (λ nx hnx=>?_) ?_
 . refine⟨st.length,2000,F,G,R,m,n,h,w,f5,rfl,B6,nz,by decide,by decide,T,t6,s.is,h8,bR2,λ xs s7 hx lx B7=>uh ?_⟩;refine gO (λ rest σ s'=>(∀x∈rest,fK x)/\∃v:Option D,σ=[some (.lst (ns.map .int)),some (.ref st.length),some (.int w),some (.bl gr),some (dZ w F),some (dZ w G),some (dZ w R),some (.tup [aq U,aq V]),v]/\Hd s' st.length 2020) (λ σ s' ⟨_,v,e,B⟩=>⟨trivial,hnx _ _ ⟨v,e,B⟩⟩) ?_ _ _ _ ⟨hx,none,rfl,B7⟩;rintro x rest σ s' ⟨hx,v,rfl,B⟩ next
   refine⟨trivial,_,rfl,F,G,m,n,w,x,_,rfl,T,hx x V_,xP,λ s8 X8=>?_⟩;exact next _ _ ⟨λ y hy=>hx y (V5 _ hy),_,rfl,B.cell (X8.same _ B.lt)⟩
 rintro _ s7 ⟨v,rfl,B7⟩;refine⟨st.length,2020,U,V,m+n,rfl,B7,by decide,by decide,iU,iV,mn,bU,bV,λ xs s8 hx lx B8=>uh ?_⟩;refine gO (λ rest σ s'=>(∀x∈rest,fK x)/\∃v:Option D,σ=[some (.lst (ns.map .int)),some (.ref st.length),some (.int w),some (.bl gr),some (dZ w F),some (dZ w G),some (dZ w R),some (.tup [aq U,aq V]),v]) (λ σ s' ⟨_,v,e⟩=>⟨trivial,k s'⟩) ?_ _ _ _ ⟨hx,v,rfl⟩;rintro x rest σ s' ⟨hx,v,rfl⟩ next
 refine⟨trivial,_,rfl,F,G,m,n,w,_,x,rfl,T,xR,hx x V_,λ s9 X9=>?_⟩;exact next _ _ ⟨λ y hy=>hx y (V5 _ hy),_,rfl⟩
end Prog
namespace Row
open PySem L2 L3 Prog
open PySem.Spec hiding items?
open PyProof.Rows hiding St
theorem wq:(("int":Str))≠"__name__":=by decide+kernel
theorem l7:(("isinstance":Str))≠"__name__":=by decide+kernel
theorem D9:(("bool":Str))≠"__name__":=by decide+kernel
theorem nI:(("tuple":Str))≠"__name__":=by decide+kernel
theorem iI:(("list":Str))≠"__name__":=by decide+kernel
theorem jJ:(("len":Str))≠"__name__":=by decide+kernel
theorem Jl:(("all":Str))≠"__name__":=by decide+kernel
theorem BQ:(("abs":Str))≠"__name__":=by decide+kernel
theorem JJ:(("sum":Str))≠"__name__":=by decide+kernel
theorem HZ:(("max":Str))≠"__name__":=by decide+kernel
theorem Jk:(("min":Str))≠"__name__":=by decide+kernel
theorem G9:(("any":Str))≠"__name__":=by decide+kernel
theorem xa:(("str":Str))≠"__name__":=by decide+kernel
structure Bl(mg:Str->Option Value):Prop where
 AR:mg "int"=none
 nq:mg "isinstance"=none
 Ju:mg "bool"=none
 pd:mg "tuple"=none
 jM:mg "list"=none
 mK:mg "len"=none
 Mc:mg "all"=none
 L7:mg "zip"=none
 o6:mg "range"=none
 uR:mg "enumerate"=none
 GC:mg "abs"=none
 Lb:mg "sorted"=none
 MA:mg "sum"=none
 MM:mg "max"=none
 Mu:mg "min"=none
 MD:mg "any"=none
 AK:mg "str"=none
structure Kl(K:PySem.W.Frag)(mg:Str->Option Value):Prop where
 aX:ClsAt K mg "Bench" az
 bS:fJ K az "body"
 dS:fJ K az "turn"
 cm:fJ K az "back_columns"
theorem DY:VF oA uY ["thing"] ["int","isinstance","bool"]:= .of (by decide+kernel)
theorem DW:VF ox vd ["thing"] ["tuple","list","isinstance"]:= .of (by decide+kernel)
theorem yN:VF kc oS ["thing","many"] ["is_listed","len"]:= .of (by decide+kernel)
theorem Ae:VF lS qW ["thing","many"] ["is_listed_of","all"]:= .of (by decide+kernel)
theorem Jo:VF sv zq ["rows"] ["tuple"]:= .of (by decide+kernel)
theorem N8:VF yq E4 ["row","times","other"] ["zip"]:= .of (by decide+kernel)
theorem Ku:VF vY Bw ["weights","rows","wide"] ["zip","added","tuple"]:= .of (by decide+kernel)
theorem JN:VF sJ zD ["one","other"] ["len","tuple"]:= .of (by decide+kernel)
theorem KG:VF vF BK ["rows","place"] ["tuple"]:= .of (by decide+kernel)
theorem Ax:VF lO rf ["rows","wide"] ["range","tuple"]:= .of (by decide+kernel)
theorem FU:VF pP wN ["n","place"] ["range","tuple"]:= .of (by decide+kernel)
theorem D0:VF oo uU ["n"] ["range","tuple"]:= .of (by decide+kernel)
theorem Ag:VF lR rp ["many","wide"] []:= .of (by decide+kernel)
theorem HG:VF sT tQ ["thing","many","wide"] ["is_listed","len","all"]:= .of (by decide+kernel)
theorem F3:VF pJ xC ["turn","back"] ["is_listed","len","is_rows","product","unit_rows"]:= .of (by decide+kernel)
theorem Bc:VF mZ sd ["turn","back","many"] ["is_rows","are_back"]:= .of (by decide+kernel)
theorem Hw:VF rV zY ["row"] ["enumerate"]:= .of (by decide+kernel)
theorem Ak:VF lL qR ["rows"] ["enumerate","lead_of","all"]:= .of (by decide+kernel)
theorem wj:VF jH nY ["rows"] ["len","is_standing"]:= .of (by decide+kernel)
theorem dB:VF hO lu ["top","bottom"] []:= .of (by decide+kernel)
theorem DC:VF oC uK ["rows","k","other"] ["list"]:= .of (by decide+kernel)
theorem HH:VF sM zP ["row"] []:= .of (by decide+kernel)
theorem bj:VF cT jq ["self","rows"] ["len","unit_rows"]:= .of (by decide+kernel)
theorem aT:VF iu m6 ["self","k","times","other"] ["added"]:= .of (by decide+kernel)
theorem a5:VF fw jf ["self","k","other"] ["exchanged"]:= .of (by decide+kernel)
theorem aP:VF eC gZ ["self","k"] ["negated"]:= .of (by decide+kernel)
theorem cw:VF c_ iR ["self","top","place"] ["len","range","sorted"]:= .of (by decide+kernel)
theorem au:VF f7 kC ["self","top","place"] ["len","nearest_quotient"]:= .of (by decide+kernel)
theorem a8:VF ef gW ["self","top","place"] ["range"]:= .of (by decide+kernel)
theorem aO:VF pN xh ["rows"] ["Bench","len","range","turned_over","as_rows"]:= .of (by decide+kernel)
theorem N4:VF yK EK ["wide","rows"] ["len","standing"]:= .of (by decide+kernel)
theorem Ga:VF pU wW ["one","other"] ["as_rows","space"]:= .of (by decide+kernel)
theorem J0:VF v_ C9 ["rows","behind"] ["zip","tuple"]:= .of (by decide+kernel)
theorem vm:VF ju nD ["rows","many"] ["len","standing","tuple"]:= .of (by decide+kernel)
theorem v_doubled:VF rQ zu ["one","other"] ["paired","len","nought_rows"]:= .of (by decide+kernel)
theorem LP:VF vL Dm ["one","other"] ["doubled","behind_noughts"]:= .of (by decide+kernel)
theorem yt:VF kq pG ["one","other"] ["doubled","len","standing"]:= .of (by decide+kernel)
theorem F4:VF pL wH ["thing","wide"] ["is_listed_of","is_number","is_rows","is_standing"]:= .of (by decide+kernel)
theorem D1:VF oK u_ ["turn","rows"] ["len","product"]:= .of (by decide+kernel)
theorem x6:VF kr pj ["one","other","told","paper"] ["doubled","is_space","is_listed_of","len","is_turn_of","turned_by","standing_head","as_rows","tuple"]:= .of (by decide+kernel)
theorem GL:VF qG xf ["_law_script"] ["sum","abs","int","list"]:= .of (by decide+kernel)
theorem GS:VF qf xg ["_law_hand_here","_law_many"] ["len","abs","max","sum"]:= .of (by decide+kernel)
theorem CU:VF nS tS ["_law_hand_here","_law_wild"] ["_law_draw"]:= .of (by decide+kernel)
theorem FW:VF qH xm ["_law_hand_here","_law_many","_law_wide"] ["_law_draw","min","range","tuple"]:= .of (by decide+kernel)
theorem DB:VF ou u7 ["_law_hand_here"] ["_law_draw"]:= .of (by decide+kernel)
theorem Cj:VF nt sL ["_law_rows_here"] ["enumerate","len","range","all"]:= .of (by decide+kernel)
theorem IM:VF sD zm ["_law_weights","_law_rows_here","_law_wide"] ["zip","range","tuple"]:= .of (by decide+kernel)
theorem zZ:VF l_ rm ["_law_rows_here","_law_others","_law_wide"] ["tuple"]:= .of (by decide+kernel)
theorem Ib:VF rN yZ ["_law_hand_here","_law_wide","_law_great"] ["_law_draw","int","_law_rows","list","range","product","space"]:= .of (by decide+kernel)
theorem AD:VF lW qZ ["_law_thing","_law_many"] ["list","tuple","isinstance","len"]:= .of (by decide+kernel)
theorem Az:VF lJ qY ["_law_thing","_law_many","_law_wide"] ["_law_is_list","all"]:= .of (by decide+kernel)
theorem As:VF lZ qQ ["_law_thing","_law_wide"] ["_law_is_list","int","isinstance","bool","_law_is_rows","_law_stands"]:= .of (by decide+kernel)
theorem Aq:VF lQ qO ["_law_turn","_law_back","_law_many"] ["_law_is_rows","_law_product","range","tuple"]:= .of (by decide+kernel)
theorem Jy:VF si zy ["_law_one","_law_other","_law_told","_law_paper"] ["_law_is_told","_law_is_list","len","_law_is_back","_law_product","list","_law_stands"]:= .of (by decide+kernel)
theorem ft:VF fS oG ["_law_thing"] ["tuple","isinstance"]:= .of (by decide+kernel)
theorem IK:VF sN zl ["_law_hand_here"] ["_law_draw"]:= .of (by decide+kernel)
theorem Fl:VF pV xT ["_law_hand_here","_law_rows_here"] ["_law_odd","len","_law_draw"]:= .of (by decide+kernel)
theorem A9:VF nG sH ["_law_paper"] ["tuple"]:= .of (by decide+kernel)
theorem D2:VF oq uS ["_law_hand_here","_law_one","_law_other","_law_told"] ["together","_law_lists","str","_law_odd","_law_bent"]:= .of (by decide+kernel)
theorem By:VF m7 tD ["_law_hand_here","_law_paper"] ["len","range","tuple","_law_lists","_law_signed","_law_odd","_law_bent"]:= .of (by decide+kernel)
theorem DQ:VF oB uJ ["_law_one","_law_other","_law_told","_law_paper"] ["shows_shared","bool","isinstance","_law_due"]:= .of (by decide+kernel)
theorem Ti:VF wk MX ["_law_script"] ["_law_hand","_law_width","_law_two","shared","shared_paper","tuple","isinstance","_law_due","shows_shared","_law_tolds","_law_right","_law_papers"]:= .of (by decide+kernel)
structure Ev(w:World)(mg:Str->Option Value)(h:Heap):Prop where
 X:(KX w.params).In h
 G:h.Ns mainGlobals mg
section
variable {w:World}{mg:Str->Option Value}{h:Heap}(base:Heap)(e:Ev w mg h)
include e
set_option hygiene false
local macro_rules| `(tactic|nofun)=> `(tactic|repeat' first
 |(show JA _ _ _;first|exact bY|refine aH ?_ ?_)
 |(show JE (bp _ _ _ _ _ _ _) _ _;first|exact qV|exact g7|refine dR ?_ ?_|first|refine cQ c1.1 c1.2 (hr.mono (by decide)) ?_ (by decide+kernel) rfl|refine cQ c2.1 c2.2 (hr.mono (by decide)) ?_ (by decide+kernel) rfl|refine cQ c3.1 c3.2 (hr.mono (by decide)) ?_ (by decide+kernel) rfl|refine cQ c4.1 c4.2 (hr.mono (by decide)) ?_ (by decide+kernel) rfl|refine cQ c5.1 c5.2 (hr.mono (by decide)) ?_ (by decide+kernel) rfl|refine cQ c6.1 c6.2 (hr.mono (by decide)) ?_ (by decide+kernel) rfl|refine cQ c7.1 c7.2 (hr.mono (by decide)) ?_ (by decide+kernel) rfl|refine cQ c8.1 c8.2 (hr.mono (by decide)) ?_ (by decide+kernel) rfl|refine cQ c9.1 c9.2 (hr.mono (by decide)) ?_ (by decide+kernel) rfl|refine cQ c10.1 c10.2 (hr.mono (by decide)) ?_ (by decide+kernel) rfl|refine j9 Nd ?_ B.AR rfl wq (by decide+kernel) rfl|refine eZ FF ?_ B.nq rfl l7 (by decide+kernel) rfl|refine j9 E3 ?_ B.pd rfl nI (by decide+kernel) rfl|refine j9 sZ ?_ B.jM rfl iI (by decide+kernel) rfl|refine j9 ET ?_ B.jM rfl iI (by decide+kernel) rfl|refine eZ mz ?_ B.mK rfl jJ (by decide+kernel) rfl|refine eZ (Ma rfl) ?_ B.Mc rfl Jl (by decide+kernel) rfl|refine eZ Gp ?_ B.GC rfl BQ (by decide+kernel) rfl|refine eZ (MF rfl) ?_ B.MA rfl JJ (by decide+kernel) rfl|refine eZ (LY rfl) ?_ B.MM rfl HZ (by decide+kernel) rfl|refine eZ (M3 rfl) ?_ B.Mu rfl Jk (by decide+kernel) rfl|refine eZ (HP rfl) ?_ B.MD rfl G9 (by decide+kernel) rfl|refine j9 M7 ?_ B.AK rfl xa (by decide+kernel) rfl|refine yV ?_ ?_|refine Ja ?_ ?_|refine Mp ?_ ?_ ?_|refine vf (by first|exact GQ|exact HY|exact MN|exact AL|exact MJ|exact Mg|exact H_) ?_ ?_|refine LV (by first|exact GV hr|exact vw|exact rL|exact Lv|exact CZ|exact vk|exact rZ|exact Gx|exact FK hr|exact GP hr) (jS _) ?_ ?_|refine F7 ?_|refine Mw ?_|refine M0 ?_|refine ym ?_ ?_ ?_|refine uz ?_|refine Mn ?_ ?_ ?_|refine Nb ?_ ?_|refine PL ?_ ?_|refine MU ?_|refine Ml ?_|exact Fv|exact L5|exact MZ|refine OO (by decide+kernel) ?_ ?_ ?_ ?_ ?_|refine K_ (by decide+kernel) ?_ ?_ ?_ ?_ ?_|exact nP B.AR rfl wq (by decide+kernel) rfl|exact nP B.Ju rfl D9 (by decide+kernel) rfl|exact nP B.pd rfl nI (by decide+kernel) rfl|exact nP B.jM rfl iI (by decide+kernel) rfl|exact nP B.AK rfl xa (by decide+kernel) rfl|refine EJ (by first|exact vk|exact rZ|exact vw|exact rL) (by first|exact vk|exact rZ|exact vw|exact rL) ?_ ?_ ?_)
 |(show JE _ _ _;first|exact v.nm _|exact g7|refine dR ?_ ?_|first|refine cQ c1.1 c1.2 (hr.mono (by decide)) ?_ (by decide+kernel) v.gM|refine cQ c2.1 c2.2 (hr.mono (by decide)) ?_ (by decide+kernel) v.gM|refine cQ c3.1 c3.2 (hr.mono (by decide)) ?_ (by decide+kernel) v.gM|refine cQ c4.1 c4.2 (hr.mono (by decide)) ?_ (by decide+kernel) v.gM|refine cQ c5.1 c5.2 (hr.mono (by decide)) ?_ (by decide+kernel) v.gM|refine cQ c6.1 c6.2 (hr.mono (by decide)) ?_ (by decide+kernel) v.gM|refine cQ c7.1 c7.2 (hr.mono (by decide)) ?_ (by decide+kernel) v.gM|refine cQ c8.1 c8.2 (hr.mono (by decide)) ?_ (by decide+kernel) v.gM|refine cQ c9.1 c9.2 (hr.mono (by decide)) ?_ (by decide+kernel) v.gM|refine cQ c10.1 c10.2 (hr.mono (by decide)) ?_ (by decide+kernel) v.gM|refine j9 Nd ?_ B.AR rfl wq (by decide+kernel) v.gM|refine eZ FF ?_ B.nq rfl l7 (by decide+kernel) v.gM|refine j9 E3 ?_ B.pd rfl nI (by decide+kernel) v.gM|refine j9 sZ ?_ B.jM rfl iI (by decide+kernel) v.gM|refine j9 ET ?_ B.jM rfl iI (by decide+kernel) v.gM|refine eZ mz ?_ B.mK rfl jJ (by decide+kernel) v.gM|refine eZ (Ma rfl) ?_ B.Mc rfl Jl (by decide+kernel) v.gM|refine eZ Gp ?_ B.GC rfl BQ (by decide+kernel) v.gM|refine eZ (MF rfl) ?_ B.MA rfl JJ (by decide+kernel) v.gM|refine eZ (LY rfl) ?_ B.MM rfl HZ (by decide+kernel) v.gM|refine eZ (M3 rfl) ?_ B.Mu rfl Jk (by decide+kernel) v.gM|refine eZ (HP rfl) ?_ B.MD rfl G9 (by decide+kernel) v.gM|refine j9 M7 ?_ B.AK rfl xa (by decide+kernel) v.gM|refine yV ?_ ?_|refine Ja ?_ ?_|refine Mp ?_ ?_ ?_|refine vf (by first|exact GQ|exact HY|exact MN|exact AL|exact MJ|exact Mg|exact H_) ?_ ?_|refine LV (by first|exact GV hr|exact vw|exact rL|exact Lv|exact CZ|exact vk|exact rZ|exact Gx|exact FK hr|exact GP hr) (jS _) ?_ ?_|refine F7 ?_|refine Mw ?_|refine M0 ?_|refine ym ?_ ?_ ?_|refine uz ?_|refine Mn ?_ ?_ ?_|refine Nb ?_ ?_|refine PL ?_ ?_|refine MU ?_|refine Ml ?_|exact Fv|exact L5|exact MZ|refine OQ v (by decide+kernel) ?_ ?_ ?_ ?_ ?_|refine J5 v (by decide+kernel) ?_ ?_ ?_ ?_ ?_|exact nP B.AR rfl wq (by decide+kernel) v.gM|exact nP B.Ju rfl D9 (by decide+kernel) v.gM|exact nP B.pd rfl nI (by decide+kernel) v.gM|exact nP B.jM rfl iI (by decide+kernel) v.gM|exact nP B.AK rfl xa (by decide+kernel) v.gM|refine EJ (by first|exact vk|exact rZ|exact vw|exact rL) (by first|exact vk|exact rZ|exact vw|exact rL) ?_ ?_ ?_)
 |(show JB _ _ _;first|refine cC ?_ ?_|refine d8 ?_|exact tN)
 |(show JS _ _ _;first|refine kR nd v.lM ?_|refine w9 ?_ ?_ ?_|refine kT ?_|refine Cu ?_ ?_ ?_|refine Ba ?_ ?_|refine mY ?_|refine jh ?_ ?_ ?_|refine II ?_ ?_ ?_|refine K3 v nd v.lM (by decide+kernel) ?_ ?_ ?_ ?_ ?_|refine Ih v nd v.lM (by decide+kernel) ?_ ?_ ?_ ?_ ?_|refine QA ?_ ?_|refine NG ?_ ?_ ?_ ?_ ?_|refine OV ?_)
 |(show JT _ _ _;first|refine sW (by first|exact GV hr|exact vw|exact rL|exact Lv|exact CZ|exact vk|exact rZ|exact Gx|exact FK hr|exact GP hr) (jS _) ?_ ?_|(show JT _ (.BoolOp _ _ _) _;refine Sy ?_)|refine PQ ?_|refine Bu ?_)
 |(show JW _ _ _;first|refine Tr ?_ ?_|refine Qj ?_|refine Rv ?_ ?_|refine Ol ?_)
 |(show JI (bp _ _ _ _ _ _ _) _ _ _;first|refine qJ rfl B.o6 ?_|refine LU rfl B.L7 ?_|refine IA rfl B.uR ?_|refine uv ?_)
 |(show JI _ _ _ _;first|refine qJ v.gM B.o6 ?_|refine LU v.gM B.L7 ?_|refine IA v.gM B.uR ?_|refine uv ?_)
 |(show JG (bp _ _ _ _ _ _ _) _ _;first|exact TC|exact Q4)
 |(show JG _ _ _;first|exact pX nd v.lM (by first|exact .inr v.loc|exact .inl rfl)|exact Mm rfl nd v.lM (by first|exact .inr v.loc|exact .inl rfl) v.lM (by first|exact .inr v.loc|exact .inl rfl))
 |(show JO _ _ _;first|exact EA|refine Ek ?_)
 |(show JC _ _ _;first|exact pk|refine JM ?_)
 |exact j5
 |exact Nm
 |intro _ _ _ _)
def Fk(w:World)(mg:Str->Option Value)(base:Heap)(n:Str)(s:Stmt)(ps:List Str)(a:Addr)(m:Value)(c:Addr)(k:Nat)(S:bw):Prop:=kI (KX w.params) mg n n s ps a (Hd.fd s n n m c)/\dz PW w (KX w.params) mg base gq k a (Hd.fd s n n m c) ps (ik S)
omit e in
theorem fk{k:Nat}{S:bw}{base:Heap}(d:kI (KX w.params) mg n n s ps a (Hd.fd s n n m c))(v:VF s N ps gl)(g:VS (a9 s) N gl->N.Nodup->∀(cdv:Value) (A:Around) (outer:List Env) (z:Shared) (H:Hp) (E:XK),cF k (A.deeper (envOfC n (a9 s) z.heap.objs.size a cdv))->JB (oy gq PW w (KX w.params) mg base N n (a9 s) a cdv A outer z H E).vb (fu s) t)(q:∀ds st K,S ds st K->ds.length=ps.length/\t {nx:=λ _ st2=>K .ao st2,rt:=K} (aF N ds) st):Fk w mg base n s ps a m c (k+1) S:=⟨d,nX d.fn v.sc (g v.v v.sc.nd) q⟩
local macro_rules| `(tactic|ac_rfl)=> `(tactic|first|exact Hd.TJ e.X e.G (by kernel_rfl) λ _ _ _ _ _ _ _=>rfl|exact Hd.VI e.X e.G (by kernel_rfl) λ _ _ _ _ _ _ _ _=>rfl|exact Hd.VL e.X e.G (by kernel_rfl) λ _ _ _ _ _ _ _ _ _=>rfl|exact Hd.Vq e.X e.G (by kernel_rfl) λ _ _ _ _ _ _ _ _ _ _=>rfl)
theorem Bt:Bl mg:=⟨WH e.X e.G (by kernel_rfl),WH e.X e.G (by kernel_rfl),WH e.X e.G (by kernel_rfl),WH e.X e.G (by kernel_rfl),WH e.X e.G (by kernel_rfl),WH e.X e.G (by kernel_rfl),WH e.X e.G (by kernel_rfl),WH e.X e.G (by kernel_rfl),WH e.X e.G (by kernel_rfl),WH e.X e.G (by kernel_rfl),WH e.X e.G (by kernel_rfl),WH e.X e.G (by kernel_rfl),WH e.X e.G (by kernel_rfl),WH e.X e.G (by kernel_rfl),WH e.X e.G (by kernel_rfl),WH e.X e.G (by kernel_rfl),WH e.X e.G (by kernel_rfl)⟩
theorem Qt:Kl (KX w.params) mg:=⟨⟨⟨by kernel_rfl,by kernel_rfl,by kernel_rfl,by kernel_rfl⟩,PySem.W.mg_of e.X e.G (by kernel_rfl),by kernel_rfl,by kernel_rfl⟩,Hd.na (by kernel_rfl),Hd.na (by kernel_rfl),Hd.na (by kernel_rfl)⟩
theorem uQ:Fk w mg base "is_number" oA ["thing"] 21 zK 20 1 kO:=by
 have B:=Bt e;exact fk (by ac_rfl) DY (λ v nd _ _ _ _ _ _ hr=>by nofun) A5
theorem oP:Fk w mg base "is_listed" ox ["thing"] 28 zK 27 1 iZ:=by
 have B:=Bt e;exact fk (by ac_rfl) DW (λ v nd _ _ _ _ _ _ hr=>by nofun) A6
theorem kh:Fk w mg base "is_listed_of" kc ["thing","many"] 35 zK 34 2 gc:=by
 have c1:=oP base e;have B:=Bt e;exact fk (by ac_rfl) yN (λ v nd _ _ _ _ _ _ hr=>by nofun) xF
theorem Ac:Fk w mg base "are_numbers" lS ["thing","many"] 40 zK 39 3 i9:=by
 have c1:=kh base e;have c2:=uQ base e;have B:=Bt e;exact fk (by ac_rfl) Ae (λ v nd _ _ _ _ _ _ hr=>by nofun) yF
theorem tj:Fk w mg base "as_rows" sv ["rows"] 45 g_ 44 1 ia:=by
 have B:=Bt e;exact fk (by ac_rfl) Jo (λ v nd _ _ _ _ _ _ hr=>by nofun) FI
theorem EB:Fk w mg base "added" yq ["row","times","other"] 50 g_ 49 1 mS:=by
 have B:=Bt e;exact fk (by ac_rfl) N8 (λ v nd _ _ _ _ _ _ hr=>by nofun) LL
theorem KR:Fk w mg base "sum_by" vY ["weights","rows","wide"] 57 g_ 56 2 vA:=by
 have c1:=EB base e;have B:=Bt e;exact fk (by ac_rfl) Ku (λ v nd _ _ _ _ _ _ hr=>by nofun) Iz
theorem sO:Fk w mg base "product" sJ ["one","other"] 62 g_ 61 3 k_:=by
 have c1:=KR base e;have B:=Bt e;exact fk (by ac_rfl) JN (λ v nd _ _ _ _ _ _ hr=>by nofun) GI
theorem KP:Fk w mg base "column" vF ["rows","place"] 67 g_ 66 1 vS:=by
 have B:=Bt e;exact fk (by ac_rfl) KG (λ v nd _ _ _ _ _ _ hr=>by nofun) Hj
theorem Af:Fk w mg base "turned_over" lO ["rows","wide"] 72 g_ 71 2 lI:=by
 have c1:=KP base e;have B:=Bt e;exact fk (by ac_rfl) Ax (λ v nd _ _ _ _ _ _ hr=>by nofun) yk
theorem FZ:Fk w mg base "unit_row" pP ["n","place"] 77 g_ 76 1 qc:=by
 have B:=Bt e;exact fk (by ac_rfl) FU (λ v nd _ _ _ _ _ _ hr=>by nofun) DP
theorem uL:Fk w mg base "unit_rows" oo ["n"] 82 g_ 81 2 i4:=by
 have c1:=FZ base e;have B:=Bt e;exact fk (by ac_rfl) D0 (λ v nd _ _ _ _ _ _ hr=>by nofun) BO
theorem z9:Fk w mg base "nought_rows" lR ["many","wide"] 89 g_ 88 1 lK:=by
 have B:=Bt e;exact fk (by ac_rfl) Ag (λ v nd _ _ _ _ _ _ hr=>by nofun) yA
theorem rW:Fk w mg base "is_rows" sT ["thing","many","wide"] 94 g_ 93 4 jA:=by
 have c1:=oP base e;have c2:=Ac base e;have B:=Bt e;exact fk (by ac_rfl) HG (λ v nd _ _ _ _ _ _ hr=>by nofun) FQ
theorem F_:Fk w mg base "are_back" pJ ["turn","back"] 101 g_ 100 5 qt:=by
 have c1:=oP base e;have c2:=rW base e;have c3:=sO base e;have c4:=uL base e;have B:=Bt e;exact fk (by ac_rfl) F3 (λ v nd _ _ _ _ _ _ hr=>by nofun) Dr
theorem Dj:Fk w mg base "is_turn_of" mZ ["turn","back","many"] 108 g_ 107 6 m_:=by
 have c1:=rW base e;have c2:=F_ base e;have B:=Bt e;exact fk (by ac_rfl) Bc (λ v nd _ _ _ _ _ _ hr=>by nofun) Ar
theorem og:Fk w mg base "lead_of" rV ["row"] 115 eS 114 1 jx:=by
 have B:=Bt e;exact fk (by ac_rfl) Hw (λ v nd _ _ _ _ _ _ hr=>by nofun) GA
theorem rl:Fk w mg base "is_standing" lL ["rows"] 120 eS 119 2 i_:=by
 have c1:=og base e;have B:=Bt e;exact fk (by ac_rfl) Ak (λ v nd _ _ _ _ _ _ hr=>by nofun) yh
theorem wX:Fk w mg base "standing_head" jH ["rows"] 125 eS 124 3 jO:=by
 have c1:=og base e;have c2:=rl base e;have B:=Bt e;exact fk (by ac_rfl) wj (λ v nd _ _ _ _ _ _ hr=>by nofun) vE
theorem sh:Fk w mg base "nearest_quotient" hO ["top","bottom"] 132 eS 131 1 ip:=by
 exact fk (by ac_rfl) dB (λ v nd cdv A outer s H E hr=>(d8 (kT (vf (EU hr rfl dB.sc.gen dB.sc.co) (vf GQ (vf AL g7 (dB.v.nm 0)) (dB.v.nm 1)) (vf AL g7 (dB.v.nm 1)))))) rB
theorem DU:Fk w mg base "exchanged" oC ["rows","k","other"] 139 eS 138 1 i5:=by
 have B:=Bt e;exact fk (by ac_rfl) DC (λ v nd _ _ _ _ _ _ hr=>by nofun) BW
theorem Ji:Fk w mg base "negated" sM ["row"] 144 eS 143 1 k9:=by
 have B:=Bt e;exact fk (by ac_rfl) HH (λ v nd _ _ _ _ _ _ hr=>by nofun) Fw
theorem gI:MethAt (KX w.params) az "__init__" "Bench.__init__" cT ["self","rows"] 156 (Hd.fd cT "__init__" "Bench.__init__" eS 155):=Hd.TK (by kernel_rfl) λ _ _ _ _ _ _ _ _=>rfl
theorem vH:dz PW w (KX w.params) mg base gq 3 156 (Hd.fd cT "__init__" "Bench.__init__" eS 155) ["self","rows"] (ik jr):=by
 have c1:=uL base e;have B:=Bt e;have Q:=Qt e
 exact nX (N:=jq) (gI e).fn bj.sc (λ cdv A outer s H E hr=>(cC (mX Q.aX.cl Q.bS (bj.v.nm 0) (pq (Nc:=["row"]) (cA.look (a9 cT) ["self","rows"] (by decide+kernel)) (uv (bj.v.nm 1)) (λ _ _ _ _=>(pX (show(["row"]:List Str).Nodup by decide+kernel))) (λ _ _ _ _=>pk) (λ _ _ _ _=>(j9 sZ (aH qV bY) B.jM rfl iI (by decide+kernel) rfl)) j5))
  (cC (mX Q.aX.cl Q.dS (bj.v.nm 0) (pq (Nc:=["row"]) (cA.look (a9 cT) ["self","rows"] (by decide+kernel)) (uv (cQ c1.1 c1.2 (hr.mono (by decide)) (aH (eZ mz (aH (bj.v.nm 1) bY) B.mK rfl jJ (bj.v.d 0) (bj.v.g 0)) bY) (bj.v.d 1) (bj.v.g 1))) (λ _ _ _ _=>(pX (show(["row"]:List Str).Nodup by decide+kernel))) (λ _ _ _ _=>pk) (λ _ _ _ _=>(j9 sZ (aH qV bY) B.jM rfl iI (by decide+kernel) rfl)) j5))
  (d8 (mX Q.aX.cl Q.cm (bj.v.nm 0) (pq (Nc:=["row"]) (cA.look (a9 cT) ["self","rows"] (by decide+kernel)) (uv (cQ c1.1 c1.2 (hr.mono (by decide)) (aH (eZ mz (aH (bj.v.nm 1) bY) B.mK rfl jJ (bj.v.d 0) (bj.v.g 0)) bY) (bj.v.d 1) (bj.v.g 1))) (λ _ _ _ _=>(pX (show(["row"]:List Str).Nodup by decide+kernel))) (λ _ _ _ _=>pk) (λ _ _ _ _=>(j9 sZ (aH qV bY) B.jM rfl iI (by decide+kernel) rfl)) j5)))))) uE
theorem ie:MethAt (KX w.params) az "take" "Bench.take" iu ["self","k","times","other"] 163 (Hd.fd iu "take" "Bench.take" eS 162):=Hd.Vx (by kernel_rfl) λ _ _ _ _ _ _ _ _ _ _=>rfl
theorem sS:dz PW w (KX w.params) mg base gq 2 163 (Hd.fd iu "take" "Bench.take" eS 162) ["self","k","times","other"] (ik jG):=by
 have c1:=EB base e;have Q:=Qt e
 exact nX (N:=m6) (ie e).fn aT.sc (λ cdv A outer s H E hr=>(cC (jh (cQ c1.1 c1.2 (hr.mono (by decide)) (aH (dR (cP Q.aX.cl Q.bS (aT.v.nm 0)) (aT.v.nm 1)) (aH (uz (aT.v.nm 2)) (aH (dR (cP Q.aX.cl Q.bS (aT.v.nm 0)) (aT.v.nm 3)) bY))) (aT.v.d 0) (aT.v.g 0)) (cP Q.aX.cl Q.bS (aT.v.nm 0)) (aT.v.nm 1))
  (cC (jh (cQ c1.1 c1.2 (hr.mono (by decide)) (aH (dR (cP Q.aX.cl Q.dS (aT.v.nm 0)) (aT.v.nm 1)) (aH (uz (aT.v.nm 2)) (aH (dR (cP Q.aX.cl Q.dS (aT.v.nm 0)) (aT.v.nm 3)) bY))) (aT.v.d 0) (aT.v.g 0)) (cP Q.aX.cl Q.dS (aT.v.nm 0)) (aT.v.nm 1))
  (d8 (jh (cQ c1.1 c1.2 (hr.mono (by decide)) (aH (dR (cP Q.aX.cl Q.cm (aT.v.nm 0)) (aT.v.nm 3)) (aH (aT.v.nm 2) (aH (dR (cP Q.aX.cl Q.cm (aT.v.nm 0)) (aT.v.nm 1)) bY))) (aT.v.d 0) (aT.v.g 0)) (cP Q.aX.cl Q.cm (aT.v.nm 0)) (aT.v.nm 3)))))) Ai
theorem js:MethAt (KX w.params) az "exchange" "Bench.exchange" fw ["self","k","other"] 170 (Hd.fd fw "exchange" "Bench.exchange" eS 169):=Hd.MB (by kernel_rfl) λ _ _ _ _ _ _ _ _ _=>rfl
theorem vq:dz PW w (KX w.params) mg base gq 2 170 (Hd.fd fw "exchange" "Bench.exchange" eS 169) ["self","k","other"] (ik jn):=by
 have c1:=DU base e;have Q:=Qt e
 exact nX (N:=jf) (js e).fn a5.sc (λ cdv A outer s H E hr=>(cC (mX Q.aX.cl Q.bS (a5.v.nm 0) (cQ c1.1 c1.2 (hr.mono (by decide)) (aH (cP Q.aX.cl Q.bS (a5.v.nm 0)) (aH (a5.v.nm 1) (aH (a5.v.nm 2) bY))) (a5.v.d 0) (a5.v.g 0)))
  (cC (mX Q.aX.cl Q.dS (a5.v.nm 0) (cQ c1.1 c1.2 (hr.mono (by decide)) (aH (cP Q.aX.cl Q.dS (a5.v.nm 0)) (aH (a5.v.nm 1) (aH (a5.v.nm 2) bY))) (a5.v.d 0) (a5.v.g 0)))
  (d8 (mX Q.aX.cl Q.cm (a5.v.nm 0) (cQ c1.1 c1.2 (hr.mono (by decide)) (aH (cP Q.aX.cl Q.cm (a5.v.nm 0)) (aH (a5.v.nm 1) (aH (a5.v.nm 2) bY))) (a5.v.d 0) (a5.v.g 0))))))) uH
theorem g5:MethAt (KX w.params) az "change_sign" "Bench.change_sign" eC ["self","k"] 177 (Hd.fd eC "change_sign" "Bench.change_sign" eS 176):=Hd.TK (by kernel_rfl) λ _ _ _ _ _ _ _ _=>rfl
theorem rq:dz PW w (KX w.params) mg base gq 2 177 (Hd.fd eC "change_sign" "Bench.change_sign" eS 176) ["self","k"] (ik gX):=by
 have c1:=Ji base e;have Q:=Qt e
 exact nX (N:=gZ) (g5 e).fn aP.sc (λ cdv A outer s H E hr=>(cC (jh (cQ c1.1 c1.2 (hr.mono (by decide)) (aH (dR (cP Q.aX.cl Q.bS (aP.v.nm 0)) (aP.v.nm 1)) bY) (aP.v.d 0) (aP.v.g 0)) (cP Q.aX.cl Q.bS (aP.v.nm 0)) (aP.v.nm 1))
  (cC (jh (cQ c1.1 c1.2 (hr.mono (by decide)) (aH (dR (cP Q.aX.cl Q.dS (aP.v.nm 0)) (aP.v.nm 1)) bY) (aP.v.d 0) (aP.v.g 0)) (cP Q.aX.cl Q.dS (aP.v.nm 0)) (aP.v.nm 1))
  (d8 (jh (cQ c1.1 c1.2 (hr.mono (by decide)) (aH (dR (cP Q.aX.cl Q.cm (aP.v.nm 0)) (aP.v.nm 1)) bY) (aP.v.d 0) (aP.v.g 0)) (cP Q.aX.cl Q.cm (aP.v.nm 0)) (aP.v.nm 1)))))) qA
theorem fY:MethAt (KX w.params) az "live_rows" "Bench.live_rows" c_ ["self","top","place"] 182 (Hd.fd c_ "live_rows" "Bench.live_rows" eS 181):=Hd.MB (by kernel_rfl) λ _ _ _ _ _ _ _ _ _=>rfl
theorem ma:dz PW w (KX w.params) mg base gq 3 182 (Hd.fd c_ "live_rows" "Bench.live_rows" eS 181) ["self","top","place"] (ik fZ):=by
 have B:=Bt e;have Q:=Qt e;have hC:PySem.W.codeHdIn (KX w.params) 181 179=true:=by kernel_rfl
 exact Rk (N:=iR) (Hd.fc (by kernel_rfl)) cw.sc (λ A outer s H E hr=>(cC (E8 cw.sc.nd (cw.v.l 3) (Nc:=["k","self","place"]) (cA.look (a9 c_) ["self","top","place","live"] (by decide+kernel)) (Ke (cw.v.g 1) B.o6 (aH (cw.v.nm 1) (aH (eZ mz (aH (cP Q.aX.cl Q.bS (cw.v.nm 0)) bY) B.mK rfl jJ (cw.v.d 0) (cw.v.g 0)) bY))) (λ _ _ _ _=>(pX (show(["k","self","place"]:List Str).Nodup by decide+kernel))) (λ _ _ _ _=>(JM (sW Gx (jS _) (dR (dR (cP Q.aX.cl Q.bS qV) qV) qV) g7))) (λ _ _ _ _=>qV) j5)
  (d8 (kT (NY (c0:=181) (mv.look (Nc:=["k","self","place"]) (fr:=[none,some 0,some 2]) (p:="k") (cA.look (a9 c_) ["self","top","place","live"] (by decide+kernel))) rfl hr rfl hC (λ _ _ _ _=>(eZ Gp (aH (dR (dR (cP Q.aX.cl Q.bS qV) qV) qV) bY) B.GC rfl BQ (by decide+kernel) rfl)) (cw.v.nm 3) (cw.v.g 2) B.Lb))))) sV
theorem kB:MethAt (KX w.params) az "gather" "Bench.gather" f7 ["self","top","place"] 189 (Hd.fd f7 "gather" "Bench.gather" eS 188):=Hd.MB (by kernel_rfl) λ _ _ _ _ _ _ _ _ _=>rfl
theorem x8:dz PW w (KX w.params) mg base gq 4 189 (Hd.fd f7 "gather" "Bench.gather" eS 188) ["self","top","place"] (ik kn):=by
 have c1:=sh base e;have B:=Bt e;have Q:=Qt e
 exact nX (N:=kC) (kB e).fn au.sc (λ cdv A outer s H E hr=>(cC (kR au.sc.nd (au.v.l 3) (lj (au.v.nm 0) Q.aX.cl (fY e).me (ma base e) (hr.mono (by decide)) (fY e).bd (aH (au.v.nm 1) (aH (au.v.nm 2) bY))))
  (cC (Ba (sW rL (jS _) (eZ mz (aH (au.v.nm 3) bY) B.mK rfl jJ (au.v.d 0) (au.v.g 0)) g7) (cC (kR au.sc.nd (au.v.l 4) (dR (au.v.nm 3) (uz g7)))
  (cC (kR au.sc.nd (au.v.l 5) (dR (au.v.nm 3) (uz g7)))
  (cC (mY (lj (au.v.nm 0) Q.aX.cl (ie e).me (sS base e) (hr.mono (by decide)) (ie e).bd (aH (au.v.nm 4) (aH (cQ c1.1 c1.2 (hr.mono (by decide)) (aH (dR (dR (cP Q.aX.cl Q.bS (au.v.nm 0)) (au.v.nm 4)) (au.v.nm 2)) (aH (dR (dR (cP Q.aX.cl Q.bS (au.v.nm 0)) (au.v.nm 5)) (au.v.nm 2)) bY)) (au.v.d 1) (au.v.g 1)) (aH (au.v.nm 5) bY)))))
  (d8 (kR au.sc.nd (au.v.l 3) (lj (au.v.nm 0) Q.aX.cl (fY e).me (ma base e) (hr.mono (by decide)) (fY e).bd (aH (au.v.nm 1) (aH (au.v.nm 2) bY)))))))))
  (cC (w9 (sW (GV hr) (jS _) (eZ mz (aH (au.v.nm 3) bY) B.mK rfl jJ (au.v.d 0) (au.v.g 0)) g7) (d8 (kT Fv)) tN)
  (cC (mY (lj (au.v.nm 0) Q.aX.cl (js e).me (vq base e) (hr.mono (by decide)) (js e).bd (aH (au.v.nm 1) (aH (dR (au.v.nm 3) g7) bY))))
  (cC (w9 (sW rZ (jS _) (dR (dR (cP Q.aX.cl Q.bS (au.v.nm 0)) (au.v.nm 1)) (au.v.nm 2)) g7) (d8 (mY (lj (au.v.nm 0) Q.aX.cl (g5 e).me (rq base e) (hr.mono (by decide)) (g5 e).bd (aH (au.v.nm 1) bY)))) tN)
  (d8 (kT Fv)))))))) xi
theorem gS:MethAt (KX w.params) az "lower_above" "Bench.lower_above" ef ["self","top","place"] 196 (Hd.fd ef "lower_above" "Bench.lower_above" eS 195):=Hd.MB (by kernel_rfl) λ _ _ _ _ _ _ _ _ _=>rfl
theorem rE:dz PW w (KX w.params) mg base gq 3 196 (Hd.fd ef "lower_above" "Bench.lower_above" eS 195) ["self","top","place"] (ik gT):=by
 have B:=Bt e;have Q:=Qt e;exact nX (N:=gW) (gS e).fn a8.sc (λ cdv A outer s H E hr=>(d8 (Cu (qJ (a8.v.g 0) B.o6 (aH (a8.v.nm 1) bY)) (pX a8.sc.nd) (d8 (mY (lj (a8.v.nm 0) Q.aX.cl (ie e).me (sS base e) (hr.mono (by decide)) (ie e).bd (aH (a8.v.nm 3) (aH (vf (EU hr rfl a8.sc.gen a8.sc.co) (dR (dR (cP Q.aX.cl Q.bS (a8.v.nm 0)) (a8.v.nm 3)) (a8.v.nm 2)) (dR (dR (cP Q.aX.cl Q.bS (a8.v.nm 0)) (a8.v.nm 1)) (a8.v.nm 2))) (aH (a8.v.nm 1) bY))))))))) qC
theorem qg:Fk w mg base "standing" pN ["rows"] 210 eS 209 5 jU:=by
 have c1:=Af base e;have c2:=tj base e;have B:=Bt e;have Q:=Qt e
 exact fk (by ac_rfl) aO (λ v nd cdv A outer s H E hr=>(cC (kR aO.sc.nd (aO.v.l 1) (Qv ⟨Q.aX.VA,(gI e).me.at_,(gI e).me.fn,Q.aX.kp⟩ (vH base e) (hr.mono (by decide)) (aO.v.g 0) Q.aX.mg (gI e).bd (aH (aO.v.nm 0) bY) (aO.v.d 0)))
  (cC (kR aO.sc.nd (aO.v.l 2) g7)
  (cC (Cu (qJ (aO.v.g 2) B.o6 (aH (eZ mz (aH (dR (aO.v.nm 0) g7) bY) B.mK rfl jJ (aO.v.d 1) (aO.v.g 1)) bY)) (pX aO.sc.nd) (d8 (w9 (Bu (lj (aO.v.nm 1) Q.aX.cl (kB e).me (x8 base e) (hr.mono (by decide)) (kB e).bd (aH (aO.v.nm 2) (aH (aO.v.nm 3) bY)))) (cC (mY (lj (aO.v.nm 1) Q.aX.cl (gS e).me (rE base e) (hr.mono (by decide)) (gS e).bd (aH (aO.v.nm 2) (aH (aO.v.nm 3) bY))))
  (d8 (Qu aO.sc.nd (aO.v.l 2) g7 Rt))) tN)))
  (cC (kR aO.sc.nd (aO.v.l 4) (cQ c1.1 c1.2 (hr.mono (by decide)) (aH (cP Q.aX.cl Q.cm (aO.v.nm 1)) (aH (eZ mz (aH (aO.v.nm 0) bY) B.mK rfl jJ (aO.v.d 1) (aO.v.g 1)) bY)) (aO.v.d 3) (aO.v.g 3)))
  (d8 (kT (F7 (aH (cQ c2.1 c2.2 (hr.mono (by decide)) (aH (ym (cP Q.aX.cl Q.bS (aO.v.nm 1)) EA (Ek (aO.v.nm 2))) bY) (aO.v.d 4) (aO.v.g 4)) (aH (cQ c2.1 c2.2 (hr.mono (by decide)) (aH (cP Q.aX.cl Q.dS (aO.v.nm 1)) bY) (aO.v.d 4) (aO.v.g 4)) (aH (aO.v.nm 4) bY))))))))))) D5
theorem EW:Fk w mg base "space" yK ["wide","rows"] 217 qU 216 6 pe:=by
 have c1:=qg base e;have B:=Bt e;exact fk (by ac_rfl) N4 (λ v nd _ _ _ _ _ _ hr=>by nofun) Ki
theorem Ff:Fk w mg base "together" pU ["one","other"] 224 qU 223 7 qv:=by
 have c1:=tj base e;have c2:=EW base e;have B:=Bt e;exact fk (by ac_rfl) Ga (λ v nd _ _ _ _ _ _ hr=>by nofun) D3
theorem Kf:Fk w mg base "paired" v_ ["rows","behind"] 229 qU 228 1 qo:=by
 have B:=Bt e;exact fk (by ac_rfl) J0 (λ v nd _ _ _ _ _ _ hr=>by nofun) I_
theorem vp:Fk w mg base "behind_noughts" ju ["rows","many"] 234 qU 233 6 jo:=by
 have c1:=qg base e;have c2:=og base e;have B:=Bt e;exact fk (by ac_rfl) vm (λ v nd _ _ _ _ _ _ hr=>by nofun) uI
theorem tI:Fk w mg base "doubled" rQ ["one","other"] 241 qU 240 2 kY:=by
 have c1:=Kf base e;have c2:=z9 base e;have B:=Bt e;exact fk (by ac_rfl) v_doubled (λ v nd _ _ _ _ _ _ hr=>by nofun) GU
theorem Lp:Fk w mg base "shared" vL ["one","other"] 248 qU 247 7 wc:=by
 have c1:=tI base e;have c2:=vp base e;have B:=Bt e;exact fk (by ac_rfl) LP (λ v nd _ _ _ _ _ _ hr=>by nofun) JQ
theorem yw:Fk w mg base "shared_paper" kq ["one","other"] 255 yS 254 6 ki:=by
 have c1:=tI base e;have c2:=qg base e;have B:=Bt e;exact fk (by ac_rfl) yt (λ v nd _ _ _ _ _ _ hr=>by nofun) xG
theorem Fi:Fk w mg base "is_space" pL ["thing","wide"] 262 yS 261 5 qF:=by
 have c1:=kh base e;have c2:=uQ base e;have c3:=rW base e;have c4:=rl base e;have B:=Bt e;exact fk (by ac_rfl) F4 (λ v nd _ _ _ _ _ _ hr=>by nofun) DL
theorem DX:Fk w mg base "turned_by" oK ["turn","rows"] 269 yS 268 4 ow:=by
 have c1:=sO base e;have B:=Bt e;exact fk (by ac_rfl) D1 (λ v nd _ _ _ _ _ _ hr=>by nofun) Cg
theorem o9:Fk w mg base "shows_shared" kr ["one","other","told","paper"] 274 yS 273 7 iD:=by
 have c1:=tI base e;have c2:=Fi base e;have c3:=kh base e;have c4:=Dj base e;have c5:=DX base e;have c6:=wX base e;have c7:=tj base e;have c8:=og base e;have B:=Bt e;exact fk (by ac_rfl) x6 (λ v nd _ _ _ _ _ _ hr=>by nofun) xy
theorem Gr:Fk w mg base "_law_hand" qG ["_law_script"] 281 cU 280 1 qm:=by
 have B:=Bt e;exact fk (by ac_rfl) GL (λ v nd _ _ _ _ _ _ hr=>by nofun) DF
theorem iH:Fk w mg base "_law_draw" qf ["_law_hand_here","_law_many"] 288 cU 287 1 bJ:=by
 have B:=Bt e;exact fk (by ac_rfl) GS (λ v nd _ _ _ _ _ _ hr=>by nofun) DR
theorem Cn:Fk w mg base "_law_number" nS ["_law_hand_here","_law_wild"] 295 cU 294 2 nR:=by
 have c1:=iH base e;have B:=Bt e;exact fk (by ac_rfl) CU (λ v nd _ _ _ _ _ _ hr=>by nofun) Aj
theorem Gs:Fk w mg base "_law_rows" qH ["_law_hand_here","_law_many","_law_wide"] 300 cU 299 3 mB:=by
 have c1:=iH base e;have c2:=Cn base e;have B:=Bt e;exact fk (by ac_rfl) FW (λ v nd _ _ _ _ _ _ hr=>by nofun) Dq
theorem DN:Fk w mg base "_law_width" ou ["_law_hand_here"] 307 cU 306 2 oJ:=by
 have c1:=iH base e;have B:=Bt e;exact fk (by ac_rfl) DB (λ v nd _ _ _ _ _ _ hr=>by nofun) BF
theorem tU:Fk w mg base "_law_stands" nt ["_law_rows_here"] 312 cU 311 1 jE:=by
 have B:=Bt e;exact fk (by ac_rfl) Cj (λ v nd _ _ _ _ _ _ hr=>by nofun) Au
theorem HW:Fk w mg base "_law_sum" sD ["_law_weights","_law_rows_here","_law_wide"] 319 cU 318 1 r_:=by
 have B:=Bt e;exact fk (by ac_rfl) IM (λ v nd _ _ _ _ _ _ hr=>by nofun) FO
theorem rh:Fk w mg base "_law_product" l_ ["_law_rows_here","_law_others","_law_wide"] 324 cU 323 2 ja:=by
 have c1:=HW base e;have B:=Bt e;exact fk (by ac_rfl) zZ (λ v nd _ _ _ _ _ _ hr=>by nofun) xV
theorem Iq:Fk w mg base "_law_two" rN ["_law_hand_here","_law_wide","_law_great"] 329 cU 328 7 rP:=by
 have c1:=iH base e;have c2:=Gs base e;have c3:=sO base e;have c4:=EW base e;have B:=Bt e;exact fk (by ac_rfl) Ib (λ v nd _ _ _ _ _ _ hr=>by nofun) FP
theorem lX:Fk w mg base "_law_is_list" lW ["_law_thing","_law_many"] 336 cU 335 1 fE:=by
 have B:=Bt e;exact fk (by ac_rfl) AD (λ v nd _ _ _ _ _ _ hr=>by nofun) yp
theorem qX:Fk w mg base "_law_is_rows" lJ ["_law_thing","_law_many","_law_wide"] 341 cU 340 2 gJ:=by
 have c1:=lX base e;have B:=Bt e;exact fk (by ac_rfl) Az (λ v nd _ _ _ _ _ _ hr=>by nofun) yC
theorem Am:Fk w mg base "_law_is_told" lZ ["_law_thing","_law_wide"] 348 cU 347 3 lY:=by
 have c1:=lX base e;have c2:=qX base e;have c3:=tU base e;have B:=Bt e;exact fk (by ac_rfl) As (λ v nd _ _ _ _ _ _ hr=>by nofun) yi
theorem AF:Fk w mg base "_law_is_back" lQ ["_law_turn","_law_back","_law_many"] 353 cU 352 3 lP:=by
 have c1:=qX base e;have c2:=rh base e;have B:=Bt e;exact fk (by ac_rfl) Aq (λ v nd _ _ _ _ _ _ hr=>by nofun) yl
theorem yY:Fk w mg base "_law_due" si ["_law_one","_law_other","_law_told","_law_paper"] 358 cU 357 4 nU:=by
 have c1:=Am base e;have c2:=lX base e;have c3:=AF base e;have c4:=rh base e;have c5:=tU base e;have B:=Bt e;exact fk (by ac_rfl) Jy (λ v nd _ _ _ _ _ _ hr=>by nofun) Fz
theorem va:kI (KX w.params) mg "_law_lists" "_law_lists" fS ["_law_thing"] 363 (Hd.fd fS "_law_lists" "_law_lists" cU 362):=Hd.TJ e.X e.G (by kernel_rfl) λ _ _ _ _ _ _ _=>rfl
theorem q_:∀n:Nat,dz PW w (KX w.params) mg base gq (0+n) 363 (Hd.fd fS "_law_lists" "_law_lists" cU 362) ["_law_thing"] (ik (fT n))
 |0=>KY (AE)
 |n+1=>by
  have GR:=q_ n;have F:=va e;have B:=Bt e;exact nX (N:=oG) F.fn ft.sc (λ cdv A outer s H E hr=>(cC (w9 (Bu (eZ FF (aH (ft.v.nm 0) (aH (nP B.pd rfl nI (ft.v.d 0) (ft.v.g 0)) bY)) B.nq rfl l7 (ft.v.d 1) (ft.v.g 1))) (d8 (kT (CO (Nc:=["_law_inner"]) (cA.look (a9 fS) ["_law_thing"] (by decide+kernel)) (uv (ft.v.nm 0)) (λ _ _ _ _=>(pX (show(["_law_inner"]:List Str).Nodup by decide+kernel))) (λ _ _ _ _=>pk) (λ _ _ _ _=>(cQ F GR hr (aH qV bY) (by decide+kernel) rfl)) j5))) tN)
  (d8 (kT (ft.v.nm 0))))) (BM n)
theorem u5:Fk w mg base "_law_lists" fS ["_law_thing"] 363 cU 362 5 (fT 5):=⟨va e,q_ base e 5⟩
theorem sj:Fk w mg base "_law_odd" sN ["_law_hand_here"] 370 cU 369 2 fH:=by
 have c1:=iH base e;have B:=Bt e;exact fk (by ac_rfl) IK (λ v nd _ _ _ _ _ _ hr=>by nofun) Fe
theorem xJ:Fk w mg base "_law_bent" pV ["_law_hand_here","_law_rows_here"] 375 cU 374 3 gB:=by
 have c1:=sj base e;have c2:=iH base e;have B:=Bt e;exact fk (by ac_rfl) Fl (λ v nd _ _ _ _ _ _ hr=>by nofun) D4
theorem B_:Fk w mg base "_law_signed" nG ["_law_paper"] 380 cU 379 1 nE:=by
 have B:=Bt e;exact fk (by ac_rfl) A9 (λ v nd _ _ _ _ _ _ hr=>by nofun) Ah
theorem Dx:Fk w mg base "_law_tolds" oq ["_law_hand_here","_law_one","_law_other","_law_told"] 387 cU 386 8 oN:=by
 have c1:=Ff base e;have c2:=u5 base e;have c3:=sj base e;have c4:=xJ base e;have B:=Bt e;exact fk (by ac_rfl) D2 (λ v nd _ _ _ _ _ _ hr=>by nofun) Br
theorem Bv:Fk w mg base "_law_papers" m7 ["_law_hand_here","_law_paper"] 392 cU 391 6 nJ:=by
 have c1:=u5 base e;have c2:=B_ base e;have c3:=sj base e;have c4:=xJ base e;have B:=Bt e;exact fk (by ac_rfl) By (λ v nd _ _ _ _ _ _ hr=>by nofun) Av
theorem Dt:Fk w mg base "_law_right" oB ["_law_one","_law_other","_law_told","_law_paper"] 399 cU 398 8 kQ:=by
 have c1:=o9 base e;have c2:=yY base e;have B:=Bt e;exact fk (by ac_rfl) DQ (λ v nd _ _ _ _ _ _ hr=>by nofun) Cr
theorem SF:Fk w mg base "law" wk ["_law_script"] 406 cU 405 9 Mz:=by
 have c1:=Gr base e;have c2:=DN base e;have c3:=Iq base e;have c4:=Lp base e;have c5:=yw base e;have c6:=yY base e;have c7:=o9 base e;have c8:=Dx base e;have c9:=Dt base e;have c10:=Bv base e;have B:=Bt e;exact fk (by ac_rfl) Ti (λ v nd _ _ _ _ _ _ hr=>by nofun) Q7
end
def dL:DefRec:=match wk with
 | .FunctionDef n a b _ _ _ sc _ _ pos=>⟨n,a,b,sc,pos⟩
 |_=>⟨"",L2.iz (.Pass ⟨0,0,0,0⟩),[],L2.a9 (.Pass ⟨0,0,0,0⟩),⟨0,0,0,0⟩⟩
theorem Lk:PySem.Challenge.rw_latticeworks_k69_shared_papers.wellSaid=true:=by decide+kernel
end Row
open PySem PySem.W PyProof.Rows
set_option maxRecDepth 100000 in
set_option maxHeartbeats 0 in
theorem PySem.Challenge.cw_latticeworks_k69_shared_papers_holds : PySem.Challenge.rw_latticeworks_k69_shared_papers.Holds := by
 refine PySem.W.holds_law Row.Lk λ Lk=>?_;refine PySem.W.holds_open (r:=PySem.Challenge.rw_latticeworks_k69_shared_papers.row) (q:=PySem.W.view Row.PW [1,2,3,4,6,7,8,9,10,11,12,13,14,15,16,17,19,20,21,22,23,24,25,26,28,29,30,31,32,33,35,36,37,38,40,41,42,43,44,45,46,47,48,49,50,51,52,53,54,55,56,57,58,59,60,61]) (loose:=[]) (Xt:=λ _=>true) (XP:=λ _ _=>True) (YP:=(PySem.W.kmHook Row.KX Row.KA (λ _=>rfl) [179]).says) (d:=Row.dL) (kwd:=[]) Row.left ((PySem.W.kmHook Row.KX Row.KA (λ _=>rfl) [179]).of) ((PySem.W.kmHook Row.KX Row.KA (λ _=>rfl) [179]).keeps) (λ _ _=>trivial) (λ _ _ _ _ _=>trivial) (by kernel_rfl) (by kernel_rfl) (by kernel_rfl) (λ s _=>PySem.W.recFacts_of (R:=[]) rfl) (by kernel_rfl) Lk (by decide+kernel) ⟨rfl,rfl,rfl,rfl,rfl,by decide+kernel⟩ ?hw ?hc;case hw=>w_witness2
 refine L2.RX (n:=63) (k:=9) (x:="_law_script") (ts:=[(181,179)]) (K:=Row.KX) (sp:=λ w=>L3.Hr (Row.KX w.params) [(181,179)]) rfl (by decide) (by kernel_rfl) ⟨rfl,by decide,by decide⟩ (by kernel_rfl) rfl (λ w h Y=>⟨PySem.W.km_in_of Y,⟨(λ q hq=>by rcases V4.mp hq with rfl|hq;kernel_rfl;cases hq),(λ q hq=>by rcases V4.mp hq with rfl|hq;kernel_rfl;cases hq),λ q hq=>PySem.W.km_tabs_of Y _ (ZJ (f:=Prod.snd) hq)⟩⟩) ?F λ _ _ a ns hl hE=>⟨a,ns,rfl,hE,hl,λ _=>rfl⟩
 intro w mg fa h X G hmg;have e2:=hmg.symm.trans (PySem.W.mg_of (v:= .ref 406) X G (by kernel_rfl));cases e2;exact⟨Hd.fd Row.wk "law" "law" Row.cU 405,λ s v=> .of_eq rfl,λ base _ _=>(Row.SF base ⟨X,G⟩).2.imp λ vs H Q E h=>L3.JP (tl:=[(179,⟨100,32,100,66⟩,"Bench.live_rows.<locals>.<lambda>")]) (by kernel_rfl) rfl (by decide) h⟩
