import PyProof.Rows.All
import Wide.All
import OpenK.AllK
import Wide.FinOn
import Lean
import PyProof.EqAt
import PyProof.EqKinds
import PyProof.TupleCall
import PyProof.NeKinds
import KE.KUnpack
import PyProof.CallStr
import PySem.Challenge.RW_latticeworks_k30_whole_rests_told_apart
set_option Elab.async false
set_option autoImplicit true
set_option relaxedAutoImplicit true
set_option linter.all false
set_option maxRecDepth 100000
local macro_rules|`(def $i:declId$s:optDeclSig$v:declVal)=>`(noncomputable def $i:declId$s:optDeclSig$v:declVal)
local macro_rules|`(@[irreducible]def $i:declId$s:optDeclSig$v:declVal)=>`(@[irreducible]noncomputable def $i:declId$s:optDeclSig$v:declVal)
local macro_rules|`(abbrev $i:declId$s:optDeclSig$v:declVal)=>`(noncomputable abbrev $i:declId$s:optDeclSig$v:declVal)
local macro_rules|`(tactic|let $d:letDecl)=>`(tactic|have $d:letDecl)
local macro_rules|`(tactic|show $t)=>`(tactic|refine $t)
local macro_rules|`(tactic|simp![$l,*]$[$k]?)=>`(tactic|simp only[$l,*]$[$k]?)
def VG:=@PySem.wpAny_bind
def VH:=@List.length_map
def VI:=@List.getElem?_eq_some_iff
def VJ:=@PySem.Heap.get?_push_of_some
def VL:=@Nat.le_refl
def VM:=@if_neg
def VN:=@if_pos
def VO:=@Ne.symm
def VP:=@List.getElem?_set_ne
def VQ:=@PySem.wpAny_pure
def VR:=@List.getElem?_append_left
def VT:=@List.getD_eq_getElem?_getD
def VU:=@Nat.le_trans
def VV:=@List.getElem?_eq_getElem
def VW:=@List.size_toArray
def VX:=@List.getElem?_set_self
def VY:=@PySem.Heap.lt_size
def VZ:=@List.mem_cons_of_mem
def V0:=@List.length_set
def V1:=@Nat.le_of_ble_eq_true
def V2:=@Int.mul_zero
def V3:=@Nat.zero_le
def V4:=@PySem.Heap.get?_push_size
def V5:=@List.getElem?_map
def V6:=@List.mem_cons_self
def V7:=@Int.toNat_natCast
def V8:=@List.mem_cons
def V9:=@Nat.lt_of_lt_of_le
def V_:=@List.getElem?_append_right
def Wa:=@List.drop_eq_getElem_cons
def Wb:=@Nat.ne_of_lt
def Wc:=@List.not_mem_nil
def We:=@List.mem_append_right
def Wf:=@List.mem_iff_getElem
def Wg:=@Nat.mul_le_mul_right
def Wh:=@Nat.pow_le_pow_right
def Wi:=@List.mem_map
def Wj:=@Nat.lt_succ_self
def Wk:=@Nat.not_lt_zero
def Wl:=@List.length_cons
def Wm:=@List.range_succ_eq_map
def Wn:=@List.mem_of_getElem?
def Wo:=@Nat.lt_succ_of_lt
def Wq:=@List.map_cons
def Wr:=@List.map_map
def Ws:=@Nat.mul_le_mul_left
def Wt:=@decide_eq_false
def Wu:=@List.length_append
def Wv:=@Bool.false_eq_true
def Ww:=@Int.mul_assoc
def Wx:=@PySem.W.mg_none_of
def Wy:=@List.map_congr_left
def Wz:=@List.getElem_map
def WA:=@List.mem_or_eq_of_mem_set
def WB:=@Nat.mul_assoc
def WC:=@List.mem_append
def WD:=@Bool.false_ne_true
def WE:=@Array.length_toList
def WG:=@PySem.Heap.size_push
def WH:=@PySem.mem_of_lookup
def WI:=@PySem.wpAny_field
def WJ:=@List.drop_eq_nil_of_le
def WK:=@Int.mul_comm
def WL:=@Int.eq_ofNat_of_zero_le
def WM:=@PySem.wpAny_seqItems
def WN:=@Int.natAbs_mul
def WO:=@Nat.mul_le_mul
def WQ:=@Nat.lt_or_ge
def WR:=@List.all_eq_true
def WS:=@decide_eq_true
def WT:=@PySem.wpAny_setField_rec
def WU:=@List.mem_range
def WV:=@Bool.and_eq_true
def WW:=@List.lookup_cons
def WX:=@List.getElem_mem
def WY:=@not_false_eq_true
def WZ:=@Int.one_mul
def W0:=@Option.some.inj
def W3:=@List.replicate_succ
def W4:=@List.length_take
def W5:=@Nat.le_of_not_lt
def W6:=@Int.fmod_eq_emod_of_nonneg
def W7:=@PySem.wpAny_callSpecial?_slot
def W8:=@Nat.le_mul_of_pos_right
def W9:=@Nat.sub_self
def W_:=@List.map_append
def Xa:=@Nat.ne_of_gt
def Xb:=@PySem.Heap.SameBut.update
def Xd:=@Int.eq_zero_of_dvd_of_natAbs_lt_natAbs
def Xe:=@Classical.choose_spec
def Xf:=@PyProof.Rows.slot_tuple_getitem
def Xg:=@List.cons.inj
def Xh:=@List.mem_append_left
def Xi:=@List.mem_singleton
def Xj:=@Int.le_trans
def Xk:=@List.getElem_range
def Xl:=@if_false
def Xm:=@List.take_of_length_le
def Xn:=@Int.fmod_nonneg_of_pos
def Xo:=@Classical.byContradiction
def Xp:=@Int.toNat_of_nonneg
def Xq:=@Nat.le_of_lt
def Xr:=@Int.le_of_lt
def Xs:=@Int.mul_one
def Xu:=@PySem.W.kia_one
def Xv:=@PyProof.Rows.callWith_type1
def Xw:=@List.length_eq_zero_iff
def Xx:=@List.getElem?_cons_succ
def Xy:=@List.take_succ_eq_append_getElem
def Xz:=@Nat.lt_irrefl
def XA:=@Nat.pow_succ
def XB:=@congrArg
def XC:=@List.mem_filter
def XD:=@List.append_nil
def XE:=@PySem.wpAny_call_entry
def XF:=@Int.zero_mul
def XG:=@Int.add_zero
def XH:=@Int.fmod_lt_of_pos
def XI:=@Int.dvd_refl
def XJ:=@PySem.wpAny_holding
def XM:=@beq_iff_eq
def XN:=@List.flatten_cons
def XO:=@List.nodup_cons
def XQ:=@List.cons.injEq
def XR:=@Nat.le_antisymm
def XS:=@List.length_nil
def XT:=@PySem.sizeLine_eq
def XW:=@Nat.mul_comm
def XX:=@Nat.zero_add
def XY:=@Int.ne_of_gt
def XZ:=@Nat.pow_add
def X6:=@PySem.wpAny_mono
def X7:=@PySem.wpAny_onRaise
def X9:=@Int.dvd_trans
def X_:=@List.nodup_iff_pairwise_ne
def Yb:=@or_false
def Yc:=@List.getElem?_eq_none
def Yd:=@Int.sub_eq_add_neg
def Ye:=@Nat.add_mul
def Yg:=@Array.mem_toList_iff
def Yh:=@PySem.F.slot_zip_next
def Yi:=@Nat.lt_trans
def Yj:=@List.range_succ
def Yk:=@List.append_assoc
def Yl:=@Nat.mul_left_comm
def Ym:=@beq_eq_false_iff_ne
def Yn:=@List.length_drop
def Yo:=@PySem.W.cellsFrom_some
def Yp:=@Int.neg_mul
def Yq:=@List.mem_filterMap
def Yr:=@PySem.wpAny_pyIter_tuple
def Ys:=@Array.getD_eq_getD_getElem?
def Yt:=@PyProof.Rows.F.plain_set_update_loop
def Yu:=@PySem.wpAny_passesOwn
def Yv:=@if_true
def Yw:=@PySem.F.slot_tuple_iterator_next
def Yx:=@and_true
def Yy:=@Int.fdiv_eq_ediv_of_nonneg
def Yz:=@PySem.wpAny_truthy_bool
def YA:=@PySem.wpAny_newObj_type
def YB:=@List.pairwise_map
def YC:=@Nat.le_of_lt_succ
def YD:=@Nat.lt_trichotomy
def YE:=@PySem.wpAny_letGo
def YF:=@Int.natAbs_neg
def YG:=@Nat.add_le_add
def YH:=@Option.isSome_iff_exists
def YI:=@List.getElem?_take_of_lt
def YJ:=@Int.zero_add
def YK:=@PySem.F.called_set
def YL:=@PySem.wpAny_Call_Name_kw
def YM:=@List.foldl_cons
def YN:=@Option.map_some
def YO:=@not_or
def YQ:=@Nat.lt_of_le_of_lt
def YR:=@Nat.one_le_two_pow
def YS:=@Int.natCast_mul
def YT:=@Nat.le_mul_of_pos_left
def YU:=@Nat.mul_add
def YV:=@Int.mul_le_mul_of_nonneg_left
def YW:=@PySem.wpAny_pyIter_list
def YX:=@PySem.wpAny_setState_of
def YY:=@Int.natAbs_add_le
def YZ:=@List.length_replicate
def Y0:=@PySem.Heap.get?_update_self
def Y1:=@Int.sub_self
def Y2:=@Int.sub_zero
def Y3:=@List.getElem_set_self
def Y4:=@PySem.call_meets
def Y5:=@PySem.F.slot_tuple_mul
def Y6:=@List.mem_of_mem_take
def Y8:=@List.ext_getElem
def Y9:=@Int.dvd_antisymm
def Y_:=@Nat.gcd_dvd_left
def Za:=@PySem.wpAny_attempt
def Zb:=@List.filterMap_cons
def Zc:=@List.getElem?_range
def Zd:=@List.getElem_set_ne
def Ze:=@List.forIn_cons
def Zf:=@PyProof.Rows.get?_update_seq
def Zg:=@Int.emod_eq_emod_iff_emod_sub_eq_zero
def Zh:=@PySem.codeAny_mono
def Zi:=@PySem.F.args_tuple_add_2
def Zj:=@Array.forIn_toList
def Zk:=@PyProof.Rows.F.entry_set_update_loop
def Zm:=@Int.natCast_nonneg
def Zn:=@List.forIn_nil
def Zo:=@PySem.wpAny_rule
def Zp:=@PySem.F.entry_tuple_add
def Zq:=@Nat.gcd_pos_of_pos_left
def Zs:=@PySem.W.kitx_list
def Zu:=@PySem.W.kitx_dict
def Zv:=@PySem.F.args_zip_next_1
def Zw:=@PySem.F.slot_tuple_add
def Zx:=@Nat.one_mul
def Zy:=@PySem.Paired.length
def Zz:=@List.all_cons
def ZA:=@Bool.not_true
def ZC:=@Int.le_of_dvd
def ZD:=@beq_self_eq_true
def ZE:=@decide_eq_decide
def ZF:=@List.zipIdx_cons
def ZG:=@PySem.F.entry_zip_next
def ZH:=@PySem.wpAny_pyIter_zip
def ZI:=@Nat.le_add_right
def ZJ:=@Nat.lt_of_not_le
def ZK:=@Int.dvd_mul_left
def ZL:=@List.length_singleton
def ZM:=@Array.mem_of_getElem?
def ZN:=@List.take_append_drop
def ZO:=@List.length_filterMap_eq_countP
def ZP:=@PySem.wpAny_execs_nil
def ZQ:=@Bool.eq_iff_iff
def ZR:=@Nat.le_of_eq
def ZS:=@List.of_mem_zip
def ZT:=@PySem.F.slot_int_rmul
def ZU:=@PySem.wpAny_ite_false
def ZV:=@List.zipIdx_nil
def ZW:=@PySem.wpAny_updateSeq_pair
def ZX:=@Bool.and_eq_true_iff
def ZY:=@Int.emod_nonneg
def ZZ:=@List.mem_of_mem_drop
def Z0:=@Int.mul_le_mul_of_nonneg_right
def Z_:=@List.map_set
def aaa:=@PySem.W.plainGet_of
def aab:=@List.mem_map_of_mem
def aac:=@Array.toList_append
def aad:=@Bool.and_false
def aae:=@PySem.F.args_tuple_iterator_next_1
def aaf:=@Nat.log2_lt
def aag:=@PySem.W.callWith_K
def aah:=@PySem.F.args_tuple_mul_2
def aai:=@PySem.F.entry_tuple_iterator_next
def aaj:=@Nat.lt_or_gt_of_ne
def aak:=@Nat.coprime_div_gcd_div_gcd
def aal:=@Nat.div_mul_cancel
def aam:=@Nat.mul_right_comm
def aan:=@List.pairwise_cons
def aao:=@List.getElem?_concat_length
def aap:=@PySem.Calls.Name_function_global
def aaq:=@PySem.wpAny_standAt
def aar:=@List.any_cons
def aas:=@PyProof.Rows.listUpdate_at
def aat:=@Array.getElem?_eq_some_iff
def aau:=@Array.toList_setIfInBounds
def aav:=@PySem.W.mg_of
def aaw:=@Nat.le_of_succ_le
def aax:=@PySem.F.entry_tuple_mul
def aay:=@decide_eq_true_eq
def aaz:=@Int.gcd_dvd_right
def aaA:=@List.length_range
def aaB:=@List.foldl_append
def aaC:=@PySem.typeIs_int
def aaD:=@PySem.wpAny_binaryOp_repeat_ref
def aaE:=@bne_iff_ne
def aaF:=@List.getElem?_eq_none_iff
def aaG:=@PySem.wpAny_letOwnedTupleGo_zip
def aaH:=@Nat.lt_of_mul_lt_mul_left
def aaI:=@PySem.noFill_tuple_add
def aaJ:=@Nat.min_le_right
def aaK:=@PySem.wpAny_typeOf
def aaL:=@Nat.succ_mul
def aaM:=@Option.bind_some
def aaN:=@PySem.wpAny_isInstance
def aaO:=@Nat.add_zero
def aaP:=@Nat.succ_pos
def aaQ:=@PySem.wpAny_forIn_list
def aaR:=@List.take_length
def aaS:=@List.mem_flatMap
def aaT:=@List.getElem?_replicate
def aaU:=@PySem.F.plainAttrs_list
def aaV:=@List.getElem?_cons_zero
def aaW:=@List.filter_cons_of_pos
def aaX:=@Nat.add_sub_cancel_left
def aaY:=@Bool.or_eq_true
def aaZ:=@beq_false_of_ne
def aa0:=@PySem.codeAny_builtin
def aa1:=@Int.mul_eq_zero
def aa2:=@Nat.le_succ
def aa3:=@Option.map_eq_some_iff
def aa4:=@Prod.mk.inj
def aa5:=@Int.le_refl
def aa6:=@Array.toList_filterMap
def aa7:=@Int.add_mul
def aa8:=@Int.mul_sub
def aa9:=@Nat.mul_pos
def aa_:=@List.filter_eq_nil_iff
def aba:=@List.getElem_replicate
def abb:=@PySem.W.methodCall_KW
def abc:=@PySem.wpAny_newTuple
def abd:=@PySem.isSubtype_stop
def abe:=@Array.size_map
def abf:=@List.contains_iff_mem
def abg:=@List.countP_eq_length
def abh:=@Int.mul_fdiv_add_fmod
def abi:=@Int.eq_of_sub_eq_zero
def abj:=@Int.mul_le_mul
def abk:=@List.set_append_right
def abl:=@List.filterMap_append
def abm:=@Nat.mod_lt
def abn:=@Prod.mk.injEq
def abo:=@Nat.add_comm
def abp:=@Nat.min_self
def abq:=@Nat.gcd_comm
namespace L2
open PySem PySem.Spec PyProof.Rows
abbrev Key:=Sum Int Str
def Mo:Key->Value->Bool
 | .inl k,v=>Value.isInt k v
 | .inr x,v=>Value.isStrOf x v
def Vb(w:World):Key->Int
 | .inl k=>hashInt k
 | .inr x=>hashStr w x
def fg:∀ {k:Key} {v:Value},Mo k v=true->(∃i t,k=Sum.inl i/\v=Value.int i t)\/(∃x t,k=Sum.inr x/\v=Value.str x t)
 | .inl i,v,h=>by
   obtain⟨t,e⟩:=Value.isInt_shape (k:=i) (v:=v) h;show .inl ⟨i,t,rfl,e⟩
 | .inr x,v,h=>by
   obtain⟨t,e⟩:=Value.isStrOf_shape (x:=x) (v:=v) h;show .inr ⟨x,t,rfl,e⟩
def Q8(a b:Int):decide ((Sum.inl a:Key)=Sum.inl b)=(a==b):=by
 by_cases e:a=b
 . subst e;simp
 . have h:¬(Sum.inl a:Key)=Sum.inl b:=λq=>e (Sum.inl.inj q);rw[Wt h];show(Ym.mpr e).symm
def Ri(a b:Str):decide ((Sum.inr a:Key)=Sum.inr b)=decide (a=b):=by
 by_cases e:a=b
 . subst e;simp
 . have h:¬(Sum.inr a:Key)=Sum.inr b:=λq=>e (Sum.inr.inj q);rw[Wt h,Wt e]
def PB(a:Int)(b:Str):decide ((Sum.inl a:Key)=Sum.inr b)=false:=Wt (λq=>nomatch q)
def PJ(a:Str)(b:Int):decide ((Sum.inr a:Key)=Sum.inl b)=false:=Wt (λq=>nomatch q)
def Eh(prog:Program)(w:World):PySem.KeyKind prog w Key where
 is:=Mo
 hash:=Vb w
 inj:=λv a b g d=>by
  rcases fg g with⟨i,t,rfl,rfl⟩|⟨x,t,rfl,rfl⟩
  . rcases fg d with⟨j,u,rfl,e⟩|⟨y,u,rfl,e⟩
    . injection e with e1 _;rw[e1]
    . show nomatch e
  . rcases fg d with⟨j,u,rfl,e⟩|⟨y,u,rfl,e⟩
    . show nomatch e
    . injection e with e1 _;rw[e1]
 byValue:=λk v h=>by
  rcases fg h with⟨i,t,rfl,rfl⟩|⟨x,t,rfl,rfl⟩<;>rfl
 pyHash:=λc h=>by
  rcases fg c with⟨i,t,rfl,rfl⟩|⟨x,t,rfl,rfl⟩
  . show wpAny_pyHash_int h
  . show wpAny_pyHash_str h
 eqBool:=λf c h=>by
  rcases fg f with⟨i,t,rfl,rfl⟩|⟨x,t,rfl,rfl⟩
  . rcases fg c with⟨j,u,rfl,rfl⟩|⟨y,u,rfl,rfl⟩
    . rw[Q8]at h;show wpAny_eqBool_int h
    . rw[PB]at h;show SeqAt.EqAt.int_str i t y u _ _ _ _ h
  . rcases fg c with⟨j,u,rfl,rfl⟩|⟨y,u,rfl,rfl⟩
    . rw[PJ]at h;show SeqAt.EqAt.str_int x t j u _ _ _ _ h
    . rw[Ri]at h;show wpAny_eqBool_str h
 «strs» :=λk x t v h=>by
  rcases fg h with⟨i,u,rfl,e⟩|⟨y,u,rfl,e⟩
  . show nomatch e
  . injection e with e1 _;subst e1;cases v<;>rfl
inductive V where
 |az|bl (b:Bool)|int (i:Int)|str (x:Str)|u7 (b:Array UInt8)|vc (b:UInt64)|ref (a:Addr)|ty (n:String)
 deriving DecidableEq
def RelV:V->Value->Prop
 | .az,u=>u=Value.none
 | .bl b,u=>u=Value.bool b
 | .int i,u=>∃t,u=Value.int i t
 | .str x,u=>∃t,u=Value.str x t
 | .u7 b,u=>∃t,u=Value.bytes b t
 | .vc b,u=>∃t,u=Value.float b t
 | .ref a,u=>u=Value.ref a
 | .ty n,u=>u=Value.type n
abbrev Vals:List V->List Value->Prop:=Paired RelV
def Vals.length{xs:List V}{us:List Value}(r:Vals xs us):xs.length=us.length:=Zy r
def Vals.get:∀ {xs:List V} {us:List Value} {i:Nat} {x:V},Vals xs us->xs[i]?=some x->∃u,us[i]?=some u/\RelV x u
 |_,_,_,_,.nil,e=>by simp at e
 |_,_,0,_,.cons r _,e=>by simp at e;subst e;show⟨_,rfl,r⟩
 |_,_,i+1,x,.cons _ t,e=>by
  obtain⟨u,b,a⟩:=Vals.get (i:=i) (x:=x) t (by simpa using e);show⟨u,by simpa using b,a⟩
def Vals.set(r:RelV x u):∀ {xs:List V} {us:List Value} (i:Nat),Vals xs us->Vals (xs.set i x) (us.set i u)
 |_,_,_,.nil=> .nil
 |_,_,0,.cons _ t=> .cons r t
 |_,_,i+1,.cons q t=> .cons q (Vals.set r i t)
def Vals.append:∀ {xs ys:List V} {us ws:List Value},Vals xs us->Vals ys ws->Vals (xs++ys) (us++ws)
 |_,_,_,_,.nil,s=>s
 |_,_,_,_,.cons r t,s=> .cons r (Vals.append t s)
def Vals.take:∀ {xs:List V} {us:List Value} (n:Nat),Vals xs us->Vals (xs.take n) (us.take n)
 |_,_,0,_=> .nil
 |_,_,_+1,.nil=> .nil
 |_,_,n+1,.cons r t=> .cons r (Vals.take n t)
def Vals.drop:∀ {xs:List V} {us:List Value} (n:Nat),Vals xs us->Vals (xs.drop n) (us.drop n)
 |_,_,0,r=>r
 |_,_,_+1,.nil=> .nil
 |_,_,n+1,.cons _ t=>Vals.drop n t
def pN:Option V->Option Value->Prop
 |some v,some u=>RelV v u
 |none,none=>True
 |_,_=>False
def KV{κ:Type}:List (κ×V)->List (κ×Value)->Prop:=Paired λ(p:κ×V) (q:κ×Value)=>p.1=q.1/\RelV p.2 q.2
def kV:Key->V
 | .inl i=> .int i
 | .inr x=> .str x
inductive HO where
 |lst (xs:List V)
 |tup (xs:List V)
 |dK (kvs:List (Key×V))|dT (kvs:List (List Key×V))
 |set (S:Int->Bool) (n:Nat)
 |ins (C dx:Addr) (fs:List (Str×V))
 |own (x:Addr)
 |xd (fs:List (Str×V))
 |met (f x:Addr)
 |Qw (lo hi:Int)
 |gI (o:Obj) (u:HO)
 |kn (ps:Array Value)
 |ext (φ:Heap->Prop)
abbrev Hp:=Addr->Option HO
def upd(H:Hp)(a:Addr)(o:HO):Hp:=λb=>if b=a then some o else H b
def aW:upd H a o a=some o:=by unfold upd;rw[VN rfl]
def aB(h:b≠a):upd H a o b=H b:=by unfold upd;rw[VM h]
def NB:upd (upd H a o) a u=upd H a u:=by
 funext b;unfold upd;split<;>rfl
def dH{H:Hp}{a b:Addr}{o:HO}(h:H a=some o)(h':H b=none):a≠b:=by
 intro e;subst e;rw[h]at h';cases h'
section
variable (P:Program)(w:World)
def dm(H:Hp)(h:Heap)(a:Addr):HO->Prop
 | .lst d=>d.length<=sizeLine/\∃(c:List Value) (n:Nat),Vals d c/\h.get? a=some {cls:= .type "list",data:= .seq c.toArray n}
 | .tup d=>d.length<=sizeLine/\∃c:List Value,Vals d c/\IsTup h a c.toArray
 | .dK b=>b.length<=sizeLine/\(a==sysModules)=false/\∃i,KV b i/\h.DictOf (Eh P w) a i
 | .dT b=>b.length<=sizeLine/\(a==sysModules)=false/\∃d:List (List Key×Addr×Value),
    Paired (λ(p:List Key×V) (q:List Key×Addr×Value)=>p.1=q.1/\H q.2.1=some (.tup (p.1.map kV))/\RelV p.2 q.2.2) b d/\
    ∃o l s,h.get? a=some o/\o.ExactDict/\o.data= .dict l s/\l.toList=d.map (entryOfKey (tupleKind (Eh P w)))/\(d.map (·.1)).Nodup
 | .set S n=>h.SetOf (intKind P w) a S n
 | .ins C g fs=>H g=some (.own a)/\fs.length<=1000/\g≠a/\h.get? a=some (PySem.W.instObj C g)/\
    ∃e,h.Ns1 g e/\(∀f,pN (fs.lookup f) (e f))/\PySem.Within e (fs.map (·.1))
 | .own _=>∃o,h.get? a=some o
 | .xd fs=>∃e,h.Ns1 a e/\∀f,pN (fs.lookup f) (e f)
 | .Qw lo r=>∃t u v,h.get? a=some {cls:= .type "range",data:= .fields #[.int lo t,.int r u,.int 1 v]}
 | .gI o u=>h.get? a=some o/\dm H h a u
 | .kn m=>h.get? a=some {cls:= .none,data:= .fields m}
 | .met f x=>h.get? a=some (PySem.W.methodObj (.ref f) (.ref x))
 | .ext φ=>φ h/\(∃o,h.get? a=some o)/\∀k j:Heap,φ k->(∀o,k.get? a=some o->j.get? a=some o)->φ j
def iu(H:Hp)(h:Heap):Prop:=∀a o,H a=some o->dm P w H h a o
end
section
variable {P:Program}{w:World}{H H':Hp}{h h':Heap}{a:Addr}{o:HO}
def dm.lt(x:dm P w H h a o):a<h.objs.size:=by
 cases o with
 |lst c=>obtain⟨_,_,_,_,e⟩:=x;show VY e
 |tup c=>obtain⟨_,_,_,p⟩:=x;show p.lt
 |dK b=>obtain⟨_,_,_,_,o,_,_,e,_⟩:=x;show VY e
 |dT b=>obtain⟨_,_,_,_,o,_,_,e,_⟩:=x;show VY e
 |set S n=>obtain⟨o,_,_,_,e,_⟩:=x;show VY e
 |ins C j fs=>obtain⟨_,_,_,e,_⟩:=x;show VY e
 |own y=>obtain⟨_,e⟩:=x;show VY e
 |xd fs=>obtain⟨_,⟨_,_,_,e,_⟩,_⟩:=x;show VY e
 |Qw lo i=>obtain⟨_,_,_,e⟩:=x;show VY e
 |gI g u=>obtain⟨e,_⟩:=x;show VY e
 |kn d=>show VY (show h.get? a=some _ from x)
 |met f y=>show VY (show h.get? a=some _ from x)
 |ext φ=>obtain⟨_,⟨_,e⟩,_⟩:=x;show VY e
def Paired.JP{α β:Type}{F G:α->β->Prop}:∀ {c:List α} {l₂:List β},Paired F c l₂->(∀a b,F a b->G a b)->Paired G c l₂
 |_,_,.nil,_=> .nil
 |_,_,.cons r t,f=> .cons (f _ _ r) (Paired.JP t f)
def dm.pL(x:dm P w H h a o)(k:∀b u,(b=a\/H b=some (.own a))->h.get? b=some u->h'.get? b=some u)
 (J:∀b,H b=some (.own a)->H' b=some (.own a)) (I:∀b xs,H b=some (.tup xs)->H' b=some (.tup xs)):dm P w H' h' a o:=by
 induction o with
 |lst xs=>obtain⟨z,l,n,r,e⟩:=x;show⟨z,l,n,r,k _ _ (.inl rfl) e⟩
 |tup xs=>obtain⟨z,l,r,g,e,c⟩:=x;show⟨z,l,r,g,k _ _ (.inl rfl) e,c⟩
 |dK A=>obtain⟨z,y,E,r,g,i,j,e,c⟩:=x;show⟨z,y,E,r,g,i,j,k _ _ (.inl rfl) e,c⟩
 |dT A=>
  obtain⟨z,y,xs,r,g,i,j,e,c⟩:=x;show⟨z,y,xs,Paired.JP r λp q z=>⟨z.1,I _ _ z.2.1,z.2.2⟩,g,i,j,k _ _ (.inl rfl) e,c⟩
 |set S n=>obtain⟨g,i,j,t,e,c⟩:=x;show⟨g,i,j,t,k _ _ (.inl rfl) e,c⟩
 |ins C M fs=>
  obtain⟨d,z,F,e,s,⟨m,i,j,K,c⟩,r⟩:=x;show⟨J _ d,z,F,k _ _ (.inl rfl) e,s,⟨m,i,j,k _ _ (.inr d) K,c⟩,r⟩
 |own y=>obtain⟨g,e⟩:=x;show⟨g,k _ _ (.inl rfl) e⟩
 |xd fs=>obtain⟨s,⟨m,i,j,e,c⟩,r⟩:=x;show⟨s,⟨m,i,j,k _ _ (.inl rfl) e,c⟩,r⟩
 |Qw lo L=>obtain⟨t,u,v,e⟩:=x;show⟨t,u,v,k _ _ (.inl rfl) e⟩
 |gI g u G=>obtain⟨e,q⟩:=x;show⟨k _ _ (.inl rfl) e,G q⟩
 |kn D=>
  have e:h.get? a=some {cls:= .none,data:= .fields D}:=x;change h'.get? a=some {cls:= .none,data:= .fields D};show k a _ (.inl rfl) e
 |met f y=>
  have e:h.get? a=some (PySem.W.methodObj (.ref f) (.ref y)):=x;change h'.get? a=some (PySem.W.methodObj (.ref f) (.ref y));show k a _ (.inl rfl) e
 |ext φ=>obtain⟨p,⟨o,e⟩,B⟩:=x;show⟨B _ _ p λo q=>k _ _ (.inl rfl) q,⟨o,k _ _ (.inl rfl) e⟩,B⟩
def iu.lt(x:iu P w H h)(e:H a=some o):a<h.objs.size:=(x a o e).lt
def iu.fresh(x:iu P w H h)(e:h.objs.size<=a):H a=none:=by
 cases q:H a with
 |none=>rfl
 |some u=>show absurd (V9 (x.lt q) e) (Xz _)
def iu.kept(x:iu P w H h)(k:∀b u,h.get? b=some u->h'.get? b=some u):iu P w H h':=λa o e=>
 (x a o e).pL (λb u _ q=>k b u q) (λ_ q=>q) λ_ _ q=>q
def iu.laid(x:iu P w H h)(k:∀b u,h.get? b=some u->h'.get? b=some u)(g:h.objs.size<=a)(new:dm P w (upd H a o) h' a o):iu P w (upd H a o) h':=λb u e=>by
 let d:=x.fresh g;by_cases f:b=a
 . subst f;rw[aW]at e;cases e;show new
 . rw[aB f]at e;show(x b u e).pL (λc v _ q=>k c v q) (λc q=>by rw[aB (dH q d)];show q) λc i q=>by rw[aB (dH q d)];show q
end
def Rd(H:Hp)(a:Addr)(u:HO):Prop:=H a=some u\/∃o,H a=some (.gI o u)
def Rd.of(h:H a=some u):Rd H a u:= .inl h
def Rd.ok(r:Rd H a u)(x:iu P w H h):dm P w H h a u:=by
 rcases r with r|⟨o,r⟩
 . show x a u r
 . obtain⟨_,q⟩:=x a _ r;show q
def L7:Option HO->Prop
 |some (.lst _)=>True
 |some (.dK _)=>True
 |some (.dT _)=>True
 |some (.set _ _)=>True
 |some (.ins _ _ _)=>True
 |some (.ext _)=>True
 |_=>False
section
variable {P:Program}{w:World}{H:Hp}{h h':Heap}{x e:Addr}{o':HO}
def iu.write(ok:iu P w H h)(mu:L7 (H x))(n:e=x\/H e=some (.own x))(k:∀b u,b≠e->h.get? b=some u->h'.get? b=some u)(l:∃u,h'.get? e=some u)
 (new:dm P w (upd H x o') h' x o'):iu P w (upd H x o') h':=λb u q=>by
 let d:∀c y,H c=some (.own y)->c≠x:=λc y r z=>by subst z;rw[r]at mu;show mu
 let f:∀c g,H c=some (.tup g)->c≠x:=λc g r z=>by subst z;rw[r]at mu;show mu
 by_cases j:b=x
 . subst j;rw[aW]at q;cases q;show new
 . rw[aB j]at q;by_cases a:b=e
   . have m:H b=some (.own x):=by
      rcases n with z|z
      . show absurd (a.trans z) j
      . rw[a];show z
     rw[q]at m;cases m;obtain⟨v,o⟩:=l;show⟨v,by rw[a];show o⟩
   . show(ok b u q).pL (λc v i r=>k c v ?_ r) (λc r=>by rw[aB (d c b r)];show r) λc g r=>by rw[aB (f c g r)];show r
     rcases i with rfl|i
     . show a
     . rintro rfl;rcases n with z|z
       . show d c b i z
       . rw[i]at z;cases z;show j rfl
end
structure Un(fs ex:List Addr)(H H':Hp)(h h':Heap):Prop where
 keep:∀b o,h.get? b=some o->H b=none->b∉fs->b∉ex->h'.get? b=some o
 slot:∀b o,h.get? b=some o->H b=none->b∈fs->b∉ex->∃sl,h'.get? b=some {o with slots:=sl}
 free:∀b o,h.get? b=some o->H b=none->b∉ex->H' b=none
 there:∀b o,h.get? b=some o->b∉ex->∃o',h'.get? b=some o'
 pq:∀b xs,H b=some (.tup xs)->H' b=some (.tup xs)
 oR:∀b o u,H b=some (.gI o u)->H' b=some (.gI o u)
 og:∀b ps,H b=some (.kn ps)->∃more,H' b=some (.kn (ps++more))
section
variable {fs fs' ex ex':List Addr}{H H1 H2:Hp}{h h1 h2 h':Heap}{a x e:Addr}{o:HO}
def Un.any(u:Un fs ex H H1 h h1)(q:h.get? b=some c)(n:H b=none)(d:b∉ex):∃g,h1.get? b=some {c with slots:=g}:=by
 by_cases f:b∈fs
 . show u.slot b c q n f d
 . show⟨c.slots,u.keep b c q n f d⟩
def Un.kept(k:∀b u,h.get? b=some u->h'.get? b=some u):Un fs ex H H h h':=
 ⟨λb c q _ _ _=>k b c q,λb c q _ _ _=>⟨c.slots,k b c q⟩,λ_ _ _ n _=>n,λb c q _=>⟨c,k b c q⟩,λ_ _ q=>q,λ_ _ _ q=>q,λ_ d q=>⟨#[],by rw[q];simp⟩⟩
def Un.refl:Un fs ex H H h h:=Un.kept λ_ _ q=>q
def Un.laid(k:∀b u,h.get? b=some u->h'.get? b=some u)(f:h.objs.size<=a)(c:H a=none):Un fs ex H (upd H a o) h h' where
 keep:=λb u q _ _ _=>k b u q
 slot:=λb u q _ _ _=>⟨u.slots,k b u q⟩
 free:=λb u q n _=>by rw[aB (Wb (V9 (VY q) f))];show n
 there:=λb u q _=>⟨u,k b u q⟩
 pq:=λb d q=>by rw[aB (dH q c)];show q
 oR:=λb u d q=>by rw[aB (dH q c)];show q
 og:=λb g q=>⟨#[],by rw[aB (dH q c),q];simp⟩
def Un.write(mu:L7 (H x))(l:e=x\/H e=some (.own x))(k:∀b u,b≠e->h.get? b=some u->h'.get? b=some u)(f:∃u,h'.get? e=some u):Un fs ex H (upd H x o) h h':=by
 let g:∀b,H b=none->b≠x:=λb n z=>by subst z;rw[n]at mu;show mu
 let i:∀b,H b=none->b≠e:=λb n z=>by
  subst z;rcases l with r|r
  . show g b n r
  . rw[n]at r;cases r
 let d:∀b u,H b=some u->¬L7 (some u)->b≠x:=λb u q nm z=>by subst z;rw[q]at mu;show nm mu
 show⟨λb u q n _ _=>k b u (i b n) q,λb u q n _ _=>⟨u.slots,k b u (i b n) q⟩,λb u q n _=>by rw[aB (g b n)];show n,λb u q _=>?_,
  λb j q=>by rw[aB (d b _ q λz=>z)];show q,λb u j q=>by rw[aB (d b _ q λz=>z)];show q,λb m q=>⟨#[],by rw[aB (d b _ q λz=>z),q];simp⟩⟩
 by_cases c:b=e
 . subst c;show f
 . show⟨u,k b u c q⟩
end
def Mz(h:Heap)(H:Hp):List Addr:=(List.range h.objs.size).filter λa=>(H a).isSome
def pD(h:Heap)(H:Hp):Heap:=PySem.W.hideAll h (Mz h H)
def GB(h:Heap)(H:Hp):(pD h H).objs.size=h.objs.size:=PySem.W.hideAll_size _ _
def qO{h:Heap}(e:h.get? b=some o)(n:H b=none):(pD h H).get? b=some o:=
 PySem.W.hideAll_get _ e λa=>by
  let q:(H b).isSome=true:=(XC.mp a).2;rw[n]at q;simp at q
def OV{h:Heap}(e:(pD h H).get? b=some o):h.get? b=some o/\H b=none:=by
 let a:h.get? b=some o:=PySem.W.of_hideAll (Mz h H) e;show⟨a,?_⟩;cases q:H b with
 |none=>rfl
 |some x=>
  have c:b∈Mz h H:=XC.mpr ⟨WU.mpr (VY a),by simp[q]⟩;let z:(pD h H).get? b=none:=PySem.W.hideAll_none (Mz h H) c;rw[z]at e;cases e
def Ol(g h:Heap)(L:Addr):List (Addr×Obj):=(List.range h.objs.size).filterMap λa=>if a=L\/(g.get? a).isSome=true then none else(h.get? a).map λo=>(a,o)
def rest(g h:Heap)(L d:Addr):List (Addr×Obj):=(Ol g h L).filter λp=>decide (p.1≠d)
structure Mod(K:PySem.W.Frag)(mg:Str->Option Value)(base:Heap):Prop where
 Ik:K.In base
 glob:base.Ns mainGlobals mg
 blt:∃mb,base.Ns builtinsNs mb/\∀x:Str,x≠"__name__"->mb x=bootBuiltins x
 nolimit:base.NoLimit
 seer:base.NoSeer
 bmain:∃bm ob,mg "__builtins__"=some (.ref bm)/\bm≠builtinsNs/\base.get? bm=some ob/\ob.cls= .type "module"/\ob.dict=some builtinsNs/\ob.data= .plain
structure Cx where
 prog:Program
 w:World
 K:PySem.W.Frag
 mg:Str->Option Value
 base:Heap
 A:Around
 N:List Str
 s₀:Shared
 H₀:Hp
 env:Env
 outer:List Env
 stack:List Env
 ex:List Addr
 fn:Str->Bool
 calm:Bool
 pn:List (Addr×Obj)
 xe:Value->Shared->Prop
def pV(l:List Env):List Addr:=l.filterMap (·.frame)
abbrev Cx.fs(X:Cx):List Addr:=pV X.outer
def AW(a:Scope)(x:Str):Prop:=a.names.lookup x=some .local\/a.names.lookup x=some .cell\/a.names.lookup x=some .free
def Loc(a:Scope)(x:Str):Prop:=a.names.lookup x=some .local\/a.names.lookup x=some .cell
def Look(env:Env)(h:Heap)(m:Str->Option Value)(x:Str)(u:Value):Prop:=
 (env.kindOf x=some .local/\m x=some u)\/((env.kindOf x=some .cell\/env.kindOf x=some .free)/\∃c,env.cells.lookup x=some c/\h.IsCell c (some u))
structure Cx.Ok(X:Cx):Prop where
 mod:Mod X.K X.mg X.base
 kind:X.env.scope.kind= .function
 glob:X.env.globals=mainGlobals
 blt:X.env.builtins=builtinsNs
 above:X.s₀.heap.objs.size<=X.env.locals
 inj:∀x y c,X.env.cells.lookup x=some c->X.env.cells.lookup y=some c->x=y
 has:∀x,(X.env.kindOf x=some .cell\/X.env.kindOf x=some .free)->∃c,X.env.cells.lookup x=some c
 AB:∀x c,X.fn x=true->X.env.cells.lookup x=some c->X.s₀.heap.objs.size<=c
 hd:X.calm=true->X.A.handled=none
 frames:X.A.frames=some X.stack
 ED:X.stack=X.outer\/(X.stack=X.env::X.outer/\X.env.frame=some X.env.locals)
 GQ:∀b∈X.ex,b≠X.env.locals/\∀x c,X.env.cells.lookup x=some c->c≠b
 bs:∀b o,X.base.get? b=some o->X.s₀.heap.get? b=some o/\X.H₀ b=none
 tV:X.base.objs.size<=X.s₀.heap.objs.size
 vO:∀b o,X.base.get? b=some o->b∉X.ex
 vQ:∀b∈X.ex,b∉X.fs
 lg:X.s₀.heap.FunFrames X.base X.outer
 xJ:∀b∈X.fs,X.H₀ b=none
 gt:X.prog.given.tree=none
structure Inv(X:Cx)(pins:List (Addr×Obj))(σ:List (Option V))(H:Hp)(s:Shared):Prop where
 ok:X.Ok
 os:s.os=X.s₀.os
 bare:AllBare s.gens
 base:Un X.fs X.ex X.H₀ H X.s₀.heap s.heap
 loc:∃m,s.heap.Ns X.env.locals m/\∀(i:Nat) (x:Str) (v:V),X.N[i]?=some x->σ[i]?=some (some v)->AW X.env.scope x->∃u,RelV v u/\Look X.env s.heap m x u
 cell:∀x c,X.env.cells.lookup x=some c->∃v,s.heap.IsCell c v
 free:H X.env.locals=none
 iS:∀x c,X.env.cells.lookup x=some c->H c=none
 pin:∀p∈X.pn++pins,s.heap.get? p.1=some p.2/\H p.1=none/\p.1≠X.env.locals/\p.1∉X.fs/\∀v,p.2.data≠ .cell v
 aH:iu X.prog X.w H s.heap
 len:σ.length=X.N.length
section
variable {X:Cx}{pins:List (Addr×Obj)}{σ:List (Option V)}{H H':Hp}{s:Shared}{h':Heap}
def Cx.Ok.US(ok:X.Ok)(e:X.base.get? b=some o):b∉X.fs:=λa=>by
 let:=(ok.lg.mem a).1;rw[e]at this;cases this
def Inv.bs(I:Inv X pins σ H s):∀b o,X.base.get? b=some o->s.heap.get? b=some o/\H b=none:=λb o e=>
 ⟨I.base.keep b o (I.ok.bs b o e).1 (I.ok.bs b o e).2 (I.ok.US e) (I.ok.vO b o e),I.base.free b o (I.ok.bs b o e).1 (I.ok.bs b o e).2 (I.ok.vO b o e)⟩
def Inv.bk(I:Inv X pins σ H s):∀b o,X.base.get? b=some o->s.heap.get? b=some o:=λb o e=>(I.bs b o e).1
def Inv.mod(I:Inv X pins σ H s):Mod X.K X.mg X.base:=I.ok.mod
def Inv.g9(I:Inv X pins σ H s):X.K.In s.heap:=I.ok.mod.Ik.keeps I.bk
def Inv.nolimit(I:Inv X pins σ H s):s.heap.NoLimit:=I.ok.mod.nolimit.keeps I.bk
def Inv.lt(I:Inv X pins σ H s):X.env.locals<s.heap.objs.size:=let⟨_,hn,_⟩:=I.loc;hn.lt
def Inv.sz(I:Inv X pins σ H s):X.s₀.heap.objs.size<=s.heap.objs.size:=VU I.ok.above (Xq I.lt)
def Inv.Rm(I:Inv X pins σ H s){a:Addr}(h:s.heap.objs.size<=a):a∉X.fs:=λc=>by
 obtain⟨_,o,b,_⟩:=I.ok.lg.mem c;show absurd (V9 (VY b) (VU I.sz h)) (Xz _)
def Inv.Be(I:Inv X pins σ H s):∀x c,X.env.cells.lookup x=some c->c≠X.env.locals:=λx c e z=>by
 obtain⟨v,o,d,f⟩:=I.cell x c e;obtain⟨m,⟨g,h,i,a,b,_⟩,_⟩:=I.loc;rw[z,a]at d;cases d;rw[b]at f;cases f
def Inv.lg(I:Inv X pins σ H s):s.heap.FunFrames X.base X.outer:=by
 let all:∀(l:List Env),(∀b∈pV l,b∈X.fs)->X.s₀.heap.FunFrames X.base l->s.heap.FunFrames X.base l:=by
  intro l;induction l with
  |nil=>intro _ _;trivial
  |cons p r g=>
   intro f k;obtain⟨m,⟨L,o,a,j,i,n⟩,h⟩:=k;let d:L∈X.fs:=f L (by unfold pV;rw[Zb,a];show V6);obtain⟨q,e⟩:=I.base.slot L o i (I.ok.xJ L d) d λz=>I.ok.vQ L z d;show⟨m,⟨L,_,a,j,e,n⟩,g (λb c=>f b (by unfold pV;rw[Zb,a];show VZ _ c)) h⟩
 show all X.outer (λ_ c=>c) I.ok.lg
def Inv.stack(I:Inv X pins σ H s):s.heap.FunFrames X.base X.stack:=by
 rcases I.ok.ED with e|⟨e,b⟩
 . rw[e];show I.lg
 . rw[e];obtain⟨m,a,_⟩:=I.loc;show .cons (by rw[I.ok.kind];decide) b a ?_ I.lg;show Heap.get?_none_of_le (VU I.ok.tV I.ok.above)
def Inv.CJ(I:Inv X pins σ H s):∀b∈pV X.stack,b∈X.env.locals::X.fs:=λb a=>by
 rcases I.ok.ED with e|⟨e,c⟩
 . rw[e]at a;show VZ _ a
 . rw[e]at a;unfold pV at a;rw[Zb,c]at a;show a
def Inv.xR(I:Inv X pins σ H s):∀b∈pV X.stack,H b=none:=λb a=>by
 rcases V8.mp (I.CJ b a)with e|a
 . rw[e];show I.free
 . obtain⟨_,o,c,_⟩:=I.ok.lg.mem a;show I.base.free b o c (I.ok.xJ b a) λz=>I.ok.vQ b z a
def Inv.step{g':Array GenState}{t':Nat}{d':Drawn}{ch:List Addr}(I:Inv X pins σ H s)
 (g:∀b∈ch,(b∈X.ex\/X.s₀.heap.objs.size<=b)/\b≠X.env.locals/\(∀x c,X.env.cells.lookup x=some c->c≠b)/\∀p∈X.pn++pins,p.1≠b)
 (keep:∀b o,b≠X.env.locals->b∉X.fs->b∉ch->s.heap.get? b=some o->H b=none->h'.get? b=some o)
 (slot:∀b o,b≠X.env.locals->b∈X.fs->b∉ch->s.heap.get? b=some o->H b=none->∃D,h'.get? b=some {o with slots:=D}) (free:∀b o,b∉ch->s.heap.get? b=some o->H b=none->H' b=none)
 (there:∀b o,b∉ch->s.heap.get? b=some o->∃o',h'.get? b=some o')
 (pq:∀b xs,H b=some (.tup xs)->H' b=some (.tup xs)) (oR:∀b o u,H b=some (.gI o u)->H' b=some (.gI o u)) (og:∀b B,H b=some (.kn B)->∃more,H' b=some (.kn (B++more)))
 (ns:∀m,s.heap.Ns X.env.locals m->h'.Ns X.env.locals m) (R:iu X.prog X.w H' h') (P:AllBare g'):
 Inv X pins σ H' {s with heap:=h',gens:=g',drawn:=d',toks:=t'}:=by
 let y:∀b o,X.s₀.heap.get? b=some o->b≠X.env.locals:=λb o e=>Wb (V9 (VY e) I.ok.above)
 let h:∀b o,X.s₀.heap.get? b=some o->b∉X.ex->b∉ch:=λb o e a t=>by
  rcases(g b t).1 with z|z
  . show a z
  . show absurd (V9 (VY e) z) (Xz _)
 let cellK:∀x c,X.env.cells.lookup x=some c->∀v,s.heap.IsCell c v->h'.IsCell c v:=λx c e v ⟨o,w,E⟩=>by
  let f:c∉ch:=λz=>(g c z).2.2.1 x c e rfl;by_cases K:c∈X.fs
  . obtain⟨D,q⟩:=slot c o (I.Be x c e) K f w (I.iS x c e);show⟨_,q,E⟩
  . show⟨o,keep c o (I.Be x c e) K f w (I.iS x c e),E⟩
 show⟨I.ok,I.os,P,⟨λb o e n t a=>?_,λb o e n t a=>?_,λb o e n a=>?_,λb o e a=>?_,λb xs e=>pq b xs (I.base.pq b xs e),λb o xs e=>oR b o xs (I.base.oR b o xs e),λb B e=>?_⟩,?_,λx c e=>?_,?_,λx c e=>?_,λp J=>?_,R,I.len⟩
 . show keep b o (y b o e) t (h b o e a) (I.base.keep b o e n t a) (I.base.free b o e n a)
 . obtain⟨D,j⟩:=I.base.slot b o e n t a;obtain⟨C,A⟩:=slot b _ (y b o e) t (h b o e a) j (I.base.free b o e n a);show⟨C,A⟩
 . obtain⟨o',j⟩:=I.base.there b o e a;show free b o' (h b o e a) j (I.base.free b o e n a)
 . obtain⟨o',j⟩:=I.base.there b o e a;show there b o' (h b o e a) j
 . obtain⟨M,j⟩:=I.base.og b B e;obtain⟨L,A⟩:=og b _ j;show⟨M++L,by rw[A,Array.append_assoc]⟩
 . obtain⟨m,N,O⟩:=I.loc;show⟨m,ns m N,λi x v j A Q=>?_⟩;obtain⟨u,r,l⟩:=O i x v j A Q;show⟨u,r,?_⟩;rcases l with l|⟨k,c,e,z⟩
   . show .inl l
   . show .inr ⟨k,c,e,cellK x c e _ z⟩
 . obtain⟨v,z⟩:=I.cell x c e;show⟨v,cellK x c e v z⟩
 . obtain⟨m,⟨o,_,_,w,_⟩,_⟩:=I.loc;show free _ o (λz=>(g _ z).2.1 rfl) w I.free
 . obtain⟨v,o,w,E⟩:=I.cell x c e;show free c o (λz=>(g c z).2.2.1 x c e rfl) w (I.iS x c e)
 . obtain⟨e,n,G,F,d⟩:=I.pin p J;let f:p.1∉ch:=λz=>(g p.1 z).2.2.2 p J rfl;show⟨keep p.1 p.2 G F f e n,free p.1 p.2 f e n,G,F,d⟩
def Inv.un(I:Inv X pins σ H s)(u:Un X.fs [] H H' s.heap h')(k:iu X.prog X.w H' h'):Inv X pins σ H' {s with heap:=h',toks:=t'}:=by
 obtain⟨m,⟨o,t,v,g,r⟩,_⟩:=id I.loc;obtain⟨l,j⟩:=u.any g I.free (by simp)
 show I.step (g':=s.gens) (d':=s.drawn) (ch:=[]) (λ_ z=>nomatch z) (λb o _ c _ e n=>u.keep b o e n c (by simp)) (λb o _ c _ e n=>u.slot b o e n c (by simp)) (λb o _ e n=>u.free b o e n (by simp)) (λb o _ e=>u.there b o e (by simp)) u.pq u.oR u.og (λq i=>by
  obtain⟨p,d,f,a,h⟩:=i;rw[g]at a;cases a;show⟨_,d,f,j,h⟩) k I.bare
def Inv.call(I:Inv X pins σ H s)(u:Un (pV X.stack) ch H H' s.heap h')(v:iu X.prog X.w H' h')(q:AllBare g')
 (f:∀b∈ch,(b∈X.ex\/X.s₀.heap.objs.size<=b)/\b≠X.env.locals/\(∀x c,X.env.cells.lookup x=some c->c≠b)/\∀p∈X.pn++pins,p.1≠b):
 Inv X pins σ H' {s with heap:=h',gens:=g',drawn:=d',toks:=t'}:=by
 obtain⟨m,⟨o,B,C,j,r⟩,_⟩:=id I.loc;obtain⟨w,g⟩:=u.any j I.free λz=>(f _ z).2.1 rfl
 show I.step (ch:=ch) f (λb o g t a e n=>u.keep b o e n (λz=>(V8.mp (I.CJ b z)).elim g t) a) (λb o _ _ a e n=>u.any e n a) (λb o a e n=>u.free b o e n a) (λb o a e=>u.there b o e a) u.pq u.oR u.og (λA l=>by
  obtain⟨y,h,i,d,k⟩:=l;rw[j]at d;cases d;show⟨_,h,i,g,k⟩) v q
def Inv.turned(I:Inv X pins σ H s)(k:∀b o,b≠it->s.heap.get? b=some o->h'.get? b=some o)(h:H it=none)(f:it≠X.env.locals)
 (w:it∈X.ex\/X.s₀.heap.objs.size<=it) (t:∀x c,X.env.cells.lookup x=some c->c≠it) (l:∀p∈X.pn++pins,p.1≠it):Inv X pins σ H {s with heap:=h',toks:=t'}:=by
 let d:∀b u,H b=some u->b≠it:=λb u e z=>by rw[z,h]at e;cases e
 show I.step (g':=s.gens) (d':=s.drawn) (ch:=[it]) (λb j=>?_) (λb o _ _ a e _=>k b o (λz=>a (by simp[z])) e) (λb o _ _ a e _=>⟨o.slots,k b o (λz=>a (by simp[z])) e⟩) (λ_ _ _ _ n=>n)
  (λb o a e=>⟨o,k b o (λz=>a (by simp[z])) e⟩) (λ_ _ e=>e) (λ_ _ _ e=>e) (λb B e=>⟨#[],by rw[e];simp⟩) (λm i=>?_) (λb u e=>?_) I.bare
 . have e:b=it:=by simpa using j
   subst e;show⟨w,f,t,l⟩
 . obtain⟨o,y,A,g,r⟩:=i;show⟨o,y,A,k _ o (VO f) g,r⟩
 . show(I.aH b u e).pL (λc v a q=>k c v ?_ q) (λ_ q=>q) λ_ _ q=>q;rcases a with z|z
   . rw[z];show d b u e
   . show d c _ z
def Inv.tok(I:Inv X pins σ H s)(t:Nat):Inv X pins σ H {s with toks:=t}:=I.un (h':=s.heap) (t':=t) Un.refl I.aH
def Inv.kept(I:Inv X pins σ H s)(k:∀b u,s.heap.get? b=some u->h'.get? b=some u):Inv X pins σ H {s with heap:=h',toks:=t'}:=I.un (Un.kept k) (I.aH.kept k)
def Inv.laid{a:Addr}{o:HO}{t':Nat}(I:Inv X pins σ H s)(k:∀b u,s.heap.get? b=some u->h'.get? b=some u)(c:s.heap.objs.size<=a)(new:dm X.prog X.w (upd H a o) h' a o):
 Inv X pins σ (upd H a o) {s with heap:=h',toks:=t'}:=I.un (Un.laid k c (I.aH.fresh c)) (I.aH.laid k c new)
def Inv.write{x e:Addr}(I:Inv X pins σ H s)(mu:L7 (H x))(c:e=x\/H e=some (.own x))(k:∀b u,b≠e->s.heap.get? b=some u->h'.get? b=some u)(a:∃u,h'.get? e=some u)
 (new:dm X.prog X.w (upd H x o) h' x o):Inv X pins σ (upd H x o) {s with heap:=h',toks:=t'}:=I.un (Un.write mu c k a) (I.aH.write mu c k a new)
def Inv.ur(I:Inv X pins σ H s)(h:∀p∈a,s.heap.get? p.1=some p.2/\H p.1=none/\p.1≠X.env.locals/\p.1∉X.fs/\∀v,p.2.data≠ .cell v):Inv X a σ H s:=
 ⟨I.ok,I.os,I.bare,I.base,I.loc,I.cell,I.free,I.iS,λp b=>(WC.mp b).elim (λz=>I.pin p (Xh _ z)) (h p),I.aH,I.len⟩
def AY{N:List Str}(c:N.Nodup){i j:Nat}{x:Str}(a:N[i]?=some x)(b:N[j]?=some x):i=j:=by
 obtain⟨g,e⟩:=VI.mp a;obtain⟨f,d⟩:=VI.mp b;show(List.getElem_inj c).mp (e.trans d.symm)
def zt(I:Inv X pins σ H s)(hN:X.N.Nodup)(N:X.N[i]?=some x)(t:Loc X.env.scope x)(r:RelV v u)
 (h:∀s',Inv X pins (σ.set i (some v)) H s'->(∃a,Heap.SameBut a s.heap s'.heap/\(a=X.env.locals\/X.env.cells.lookup x=some a))->Q () s') (hf:X.fn x=true\/X.env.scope.names.lookup x=some .local:=by first|show .inl rfl|show .inr rfl|assumption):wpAny M A (storeName X.env x u) Q E s:=by
 obtain⟨m,hn,hl⟩:=id I.loc;let O:(X.env.scope.kind== .class||(X.env.scope.kind== .module&&X.env.locals != X.env.globals))=false:=by rw[I.ok.kind];rfl
 let L:i<σ.length:=by rw[I.len];show(VI.mp N).1
 let Be:=I.Be
 let tracked:∀ {a:Addr} {h':Heap},(∃o,s.heap.get? a=some o/\H a=none)->Heap.SameBut a s.heap h'->iu X.prog X.w H h':=λ{a h'} ha f b ob e=>by
  obtain⟨_,_,w⟩:=ha;show(I.aH b ob e).pL (λc S l q=>(f.2 c ?_).trans q) (λ_ q=>q) λ_ _ q=>q;rintro rfl;rcases l with rfl|l
  . rw[w]at e;cases e
  . rw[w]at l;cases l
 rcases t with C|C
 . show wpAny_storeName_local C hn (λh' ah f=>?_) O;obtain⟨oL,_,_,ag,_⟩:=id hn;show h _ ⟨I.ok,I.os,I.bare,⟨λb o e n G t=>?_,λb o e n G t=>?_,I.base.free,λb o e t=>?_,I.base.pq,I.base.oR,I.base.og⟩,⟨_,ah,λj y W g B e3=>?_⟩,λy c e=>?_,I.free,I.iS,λp hp=>?_,tracked ⟨oL,ag,I.free⟩ f,by simpa using I.len⟩ ⟨_,f,.inl rfl⟩
   . show(f.2 b (Wb (V9 (VY e) I.ok.above))).trans (I.base.keep b o e n G t)
   . obtain⟨Z,g⟩:=I.base.slot b o e n G t;show⟨Z,(f.2 b (Wb (V9 (VY e) I.ok.above))).trans g⟩
   . obtain⟨o',g⟩:=I.base.there b o e t;show⟨o',(f.2 b (Wb (V9 (VY e) I.ok.above))).trans g⟩
   . by_cases D:j=i
     . subst D;rw[N]at g;cases g;rw[VX L]at B;cases B;show⟨u,r,.inl ⟨C,by simp⟩⟩
     . rw[VP (VO D)]at B;obtain⟨Y,r',q⟩:=hl j y W g B e3;show⟨Y,r',?_⟩;rcases q with⟨k,e⟩|⟨k,c,e,z⟩
       . show .inl ⟨k,?_⟩;let:y≠x:=λe=>D (AY hN g (e▸N));simp[this,e]
       . show .inr ⟨k,c,e,z.sameBut f (Be y c e)⟩
   . obtain⟨S,z⟩:=I.cell y c e;show⟨S,z.sameBut f (Be y c e)⟩
   . obtain⟨e,n,T,nf,d⟩:=I.pin p hp;show⟨(f.2 p.1 T).trans e,n,T,nf,d⟩
 . have F:X.fn x=true:=by
    rcases hf with z|z
    . show z
    . rw[z]at C;cases C
   obtain⟨c,l⟩:=I.ok.has x (.inl C);obtain⟨S,z⟩:=I.cell x c l;show wpAny_storeName_cell I.ok.kind C l z (λh' R f=>?_);obtain⟨oc,K,J⟩:=id z;show h {s with heap:=h'} ⟨I.ok,I.os,I.bare,⟨λb o e n G t=>?_,λb o e n G t=>?_,I.base.free,λb o e t=>?_,I.base.pq,I.base.oR,I.base.og⟩,⟨m,hn.sameBut f (VO (Be x c l)),λj y W g B e3=>?_⟩,λy U e=>?_,I.free,I.iS,λp hp=>?_,tracked ⟨oc,K,I.iS x c l⟩ f,by simpa using I.len⟩ ⟨c,f,.inr l⟩
   . show(f.2 b (Wb (V9 (VY e) (I.ok.AB x c F l)))).trans (I.base.keep b o e n G t)
   . obtain⟨Z,g⟩:=I.base.slot b o e n G t;show⟨Z,(f.2 b (Wb (V9 (VY e) (I.ok.AB x c F l)))).trans g⟩
   . obtain⟨o',g⟩:=I.base.there b o e t;show⟨o',(f.2 b (Wb (V9 (VY e) (I.ok.AB x c F l)))).trans g⟩
   . by_cases D:j=i
     . subst D;rw[N]at g;cases g;rw[VX L]at B;cases B;show⟨u,r,.inr ⟨.inl C,c,l,R⟩⟩
     . rw[VP (VO D)]at B;obtain⟨Y,r',q⟩:=hl j y W g B e3;show⟨Y,r',?_⟩;rcases q with q|⟨k,U,e,z'⟩
       . show .inl q
       . show .inr ⟨k,U,e,z'.sameBut f ?_⟩;rintro rfl;show D (AY hN g (I.ok.inj _ _ _ e l▸N))
   . by_cases P:U=c
     . subst P;show⟨_,R⟩
     . obtain⟨w2,z2⟩:=I.cell y U e;show⟨w2,z2.sameBut f P⟩
   . obtain⟨e,n,T,nf,d⟩:=I.pin p hp;show⟨(f.2 p.1 ?_).trans e,n,T,nf,d⟩;intro q;rw[q,K]at e;let q':oc=p.2:=W0 e;show d S (by rw[<-q'];show J)
def vV(I:Inv X pins σ H s)(d:X.N.Nodup)(b:X.N[i]?=some x)(a:Loc X.env.scope x)(r:RelV v u)
 (h:∀s',Inv X pins (σ.set i (some v)) H s'->Q () s') (c:X.fn x=true\/X.env.scope.names.lookup x=some .local:=by first|show .inl rfl|show .inr rfl|assumption):wpAny M A (storeName X.env x u) Q E s:=
 zt I d b a r (λs' e _=>h s' e) c
def Inv.E_{s':Shared}(I:Inv X pins σ H s)(f:s'.os=s.os)(u:Un (pV X.stack) ch H H' s.heap s'.heap)(h:iu X.prog X.w H' s'.heap)(g:AllBare s'.gens)
 (a:∀b∈ch,(b∈X.ex\/X.s₀.heap.objs.size<=b)/\b≠X.env.locals/\(∀x c,X.env.cells.lookup x=some c->c≠b)/\∀p∈X.pn++pins,p.1≠b):Inv X pins σ H' s':=by
 obtain⟨h',g',d',t',d⟩:=s';let e:d=s.os:=f;subst e;show I.call (g':=g') (t':=t') (d':=d') u h g a
end
abbrev XK:=Value->Option Addr->Hp->Prop
abbrev St:=List (Option V)
abbrev VK:=V->Hp->Prop
abbrev TE:=St->Hp->VK->Prop
abbrev TT:=St->Hp->(Bool->Hp->Prop)->Prop
abbrev TA:=St->Hp->(List V->Hp->Prop)->Prop
structure Ends where
 nx:St->Hp->Prop
 rt:VK
 bk:St->Hp->Prop:=λ_ _=>False
 ct:St->Hp->Prop:=λ_ _=>False
abbrev TS:=Ends->St->Hp->Prop
def EP(X:Cx)(pins:List (Addr×Obj))(σ:St)(Q:VK)(u:Value)(s':Shared):Prop:=∃v a,Inv X pins σ a s'/\RelV v u/\Q v a
def TP(X:Cx)(pins:List (Addr×Obj))(σ:St)(Q:Bool->Hp->Prop)(b:Bool)(s':Shared):Prop:=∃a,Inv X pins σ a s'/\Q b a
def AP(X:Cx)(pins:List (Addr×Obj))(σ:St)(Q:List V->Hp->Prop)(us:List Value)(s':Shared):Prop:=∃a b,Inv X pins σ b s'/\Vals a us/\Q a b
def SP(X:Cx)(pins:List (Addr×Obj))(D:Ends)(f:Flow)(s':Shared):Prop:=
 match f with
 | .next=>∃b a,Inv X pins b a s'/\D.nx b a
 | .brk=>∃b a,Inv X pins b a s'/\D.bk b a
 | .cont=>∃b a,Inv X pins b a s'/\D.ct b a
 | .ret u=>∃v b a,Inv X pins b a s'/\RelV v u/\D.rt v a
def PE(X:Cx)(e:Expr)(t:TE):Prop:=
 ∀(a:List (Addr×Obj)) (s:Shared) (σ:St) (H:Hp) (Q:VK),Inv X a σ H s->t σ H Q->wpAny (model X.prog X.w) X.A (eval e X.env) (EP X a σ Q) X.xe s
def PT(X:Cx)(e:Expr)(t:TT):Prop:=
 ∀(a:List (Addr×Obj)) (s:Shared) (σ:St) (H:Hp) (Q:Bool->Hp->Prop),Inv X a σ H s->t σ H Q->wpAny (model X.prog X.w) X.A (isTrue e X.env (eval e X.env)) (TP X a σ Q) X.xe s
def PW(X:Cx)(e:Expr)(t:TT):Prop:=
 ∀(whole:Sem Value) (pins:List (Addr×Obj)) (s:Shared) (σ:St) (H:Hp) (Q:Bool->Hp->Prop),Inv X pins σ H s->t σ H Q->wpAny (model X.prog X.w) X.A (isTrue e X.env whole) (TP X pins σ Q) X.xe s
def PW.pt{e:Expr}(h:PW X e t):PT X e t:=h _
def PA(X:Cx)(b:List Expr)(t:TA):Prop:=
 ∀(a:Pos) (pins:List (Addr×Obj)) (s:Shared) (σ:St) (H:Hp) (Q:List V->Hp->Prop),Inv X pins σ H s->t σ H Q->wpAny (model X.prog X.w) X.A (spliced (backTo a (starEach b X.env))) (AP X pins σ Q) X.xe s
def PS(X:Cx)(st:Stmt)(t:TS):Prop:=
 ∀(a:List (Addr×Obj)) (s:Shared) (σ:St) (H:Hp) (D:Ends),Inv X a σ H s->t D σ H->wpAny (model X.prog X.w) X.A (exec st X.env) (SP X a D) X.xe s
def h_(X:Cx)(st:List Stmt)(t:TS):Prop:=
 ∀(a:List (Addr×Obj)) (s:Shared) (σ:St) (H:Hp) (D:Ends),Inv X a σ H s->t D σ H->wpAny (model X.prog X.w) X.A (execs st X.env) (SP X a D) X.xe s
def bZ(h:wpAny M A t Q E s)(c:∀a s,Q a s->b a s):wpAny M A t b E s:=X6 h c λ_ _ x=>x
section
variable {X:Cx}
def Q6(i:Nat):TE:=λσ H Q=>∃v,σ[i]?=some (some v)/\Q v H
def tC(v:V):TE:=λ_ H Q=>Q v H
def Qa{i:Nat}{x:Str}{pos:Pos}(t:X.N[i]?=some x)(n:AW X.env.scope x)(g:(x==("__debug__":Str))=false:=by decide)(j:(x==("__classdict__":Str))=false:=by decide):PE X (.Name x pos) (Q6 i):=by
 intro f s σ H Q I h;obtain⟨v,e,h⟩:=h;obtain⟨m,o,q⟩:=I.loc;obtain⟨u,r,l⟩:=q i x v t e n;let d:EP X f σ Q u s:=⟨v,H,I,r,h⟩
 rcases l with⟨b,p⟩|⟨b,c,k,a⟩
 . show wpAny_Name (wpAny_loadName_local I.ok.kind b o p d) g
 . rcases b with b|b
   . show wpAny_Name (wpAny_loadName_cell I.ok.kind b k a d) g
   . show wpAny_Name (wpAny_loadName_free I.ok.kind b k a d j) g
def Rj{i j pos}:PE X (.Constant (.int i) j pos) (tC (.int i)):=λ_ _ _ H _ I h=>wpAny_Constant_int ⟨.int i,H,I.tok _,⟨_,rfl⟩,h⟩
def SN{b j pos}:PE X (.Constant (.bool b) j pos) (tC (.bl b)):=λ_ _ _ H _ I h=>Constant_bool ⟨.bl b,H,I,rfl,h⟩
def QC{j pos}:PE X (.Constant .none j pos) (tC .az):=λ_ _ _ H _ I h=>Constant_none ⟨.az,H,I,rfl,h⟩
def Gl(X:Cx)(x:Str):Prop:=X.env.kindOf x=some .globalImplicit
def yF{E:Value->Shared->Prop}{pins:List (Addr×Obj)}{s:Shared}{σ:St}{H:Hp}{x:Str}{u:Value}{pos:Pos}{Q:Value->Shared->Prop}(I:Inv X pins σ H s)(b:Gl X x)(a:X.mg x=some u)(h:Q u s)
 (c:(x==("__debug__":Str))=false:=by decide):wpAny (model X.prog X.w) X.A (eval (.Name x pos) X.env) Q E s:=
 aap I.ok.kind b (Calls.loadGlobal_global (by rw[I.ok.glob];show I.mod.glob.keeps I.bk) a h) c
def kZ{E:Value->Shared->Prop}{pins:List (Addr×Obj)}{s:Shared}{σ:St}{H:Hp}{x:Str}{u:Value}{pos:Pos}{Q:Value->Shared->Prop}(I:Inv X pins σ H s)(d:Gl X x)(c:X.mg x=none)(a:bootBuiltins x=some u)(h:Q u s)
 (b:x≠"__name__":=by decide) (e:(x==("__debug__":Str))=false:=by decide):wpAny (model X.prog X.w) X.A (eval (.Name x pos) X.env) Q E s:=by
 obtain⟨i,g,f⟩:=I.mod.blt;show aap I.ok.kind d (Calls.loadGlobal_builtin (by rw[I.ok.glob];show I.mod.glob.keeps I.bk) c (by rw[I.ok.blt];show g.keeps I.bk) ((f x b).trans a) h) e
def Og(b:Gl X x)(a:X.mg x=some u)(r:RelV v u)(c:(x==("__debug__":Str))=false:=by decide):PE X (.Name x pos) (tC v):=
 λ_ _ _ H _ I h=>yF I b a ⟨v,H,I,r,h⟩ c
def NX{x:Str}{v:V}{u:Value}{pos:Pos}(d:Gl X x)(c:X.mg x=none)(a:bootBuiltins x=some u)(r:RelV v u)(b:x≠"__name__":=by decide)(e:(x==("__debug__":Str))=false:=by decide):PE X (.Name x pos) (tC v):=
 λ_ _ _ H _ I h=>kZ I d c a ⟨v,H,I,r,h⟩ b e
variable {a b:Expr}{ta tb:TE}{pos:Pos}
def tB(t:TE):TT:=λσ H Q=>t σ H λx H1=>∃c,x= .bl c/\Q c H1
def QU{e:Expr}(h:PE X e t)(j:∀whole,isTrue e X.env whole=(do let v <-whole;standAt e.pos;holding [v] (truthy v)):=by intro _;rfl):PT X e (tB t):=by
 intro c s σ H Q I i;show isTrue_plain (bZ (h c s σ H _ I i) λv l ⟨x,H1,k,f,g⟩=>?_) (j _);obtain⟨d,rfl,q⟩:=g;cases f;show Yz ⟨H1,k,q⟩
variable {tA tB':TT}{rest:List Expr}
def O0(t u:TT):TT:=λσ H Q=>t σ H λc H1=>if c=true then u σ H1 Q else Q false H1
def TK(t u:TT):TT:=λσ H Q=>t σ H λc H1=>if c=true then Q true H1 else u σ H1 Q
def UY(t:TT):TT:=λσ H Q=>t σ H λc H1=>Q (!c) H1
def pw_and1(f:PT X a tA):PW X (.BoolOp .And [a] pos) tA:=by
 intro g d s σ H Q I h;show isTrue_and (bZ (f d s σ H Q I h) λc i e=>?_);cases c with
 |true=>show isTrue_and_nil e
 |false=>show e
def pw_or1(f:PT X a tA):PW X (.BoolOp .Or [a] pos) tA:=by
 intro g d s σ H Q I h;show isTrue_or (bZ (f d s σ H Q I h) λc i e=>?_);cases c with
 |false=>show isTrue_or_nil e
 |true=>show e
def pw_and(k:PT X a tA)(j:PW X (.BoolOp .And (b::rest) pos) tB'):PW X (.BoolOp .And (a::b::rest) pos) (O0 tA tB'):=by
 intro g d s σ H Q I h;show isTrue_and (bZ (k d s σ H _ I h) λc i ⟨H1,f,e⟩=>?_);cases c with
 |true=>show j g d i σ H1 Q f e
 |false=>show⟨H1,f,e⟩
def pw_or(k:PT X a tA)(j:PW X (.BoolOp .Or (b::rest) pos) tB'):PW X (.BoolOp .Or (a::b::rest) pos) (TK tA tB'):=by
 intro g d s σ H Q I h;show isTrue_or (bZ (k d s σ H _ I h) λc i ⟨H1,f,e⟩=>?_);cases c with
 |true=>show⟨H1,f,e⟩
 |false=>show j g d i σ H1 Q f e
def Pu(e:PT X a tA):PT X (.UnaryOp .Not a pos) (UY tA):=by
 intro d s σ H Q I h;show isTrue_not (e d s σ H (λc H1=>Q (!c) H1) I h)
def RV(ta tb:TE):TE:=λσ H Q=>ta σ H λx H1=>∃c,x= .bl c/\if c=true then tb σ H1 Q else Q (.bl false) H1
def UP(ta tb:TE):TE:=λσ H Q=>ta σ H λx H1=>∃c,x= .bl c/\if c=true then Q (.bl true) H1 else tb σ H1 Q
def Sy(ta:TE):TE:=λσ H Q=>ta σ H λx H1=>∃c,x= .bl c/\Q (.bl (!c)) H1
def PU{op}(h:PE X a t):PE X (.BoolOp op [a] pos) t:=λc s σ H Q I d=>BoolOp_one (h c s σ H Q I d)
def O4(k:PE X a ta)(j:PE X (.BoolOp .And (b::rest) pos) tb):PE X (.BoolOp .And (a::b::rest) pos) (RV ta tb):=by
 intro d s σ H Q I h;show BoolOp_and (bZ (k d s σ H _ I h) λv g ⟨x,H1,f,i,e⟩=>?_);obtain⟨c,rfl,e⟩:=e;cases i;show Yz ?_;cases c with
 |true=>show j d g σ H1 Q f e
 |false=>show⟨.bl false,H1,f,rfl,e⟩
def SQ(k:PE X a ta)(j:PE X (.BoolOp .Or (b::rest) pos) tb):PE X (.BoolOp .Or (a::b::rest) pos) (UP ta tb):=by
 intro d s σ H Q I h;show BoolOp_or (bZ (k d s σ H _ I h) λv g ⟨x,H1,f,i,e⟩=>?_);obtain⟨c,rfl,e⟩:=e;cases i;show Yz ?_;cases c with
 |false=>show j d g σ H1 Q f e
 |true=>show⟨.bl true,H1,f,rfl,e⟩
def Q4(g:PE X a ta):PE X (.UnaryOp .Not a pos) (Sy ta):=by
 intro d s σ H Q I h;show UnaryOp_ (bZ (g d s σ H _ I h) λv j ⟨x,H1,i,f,e⟩=>?_);obtain⟨c,rfl,e⟩:=e;cases f;show not_of (Yz ⟨.bl (!c),H1,i,rfl,e⟩)
def Vo(t:TT)(ta tb:TE):TE:=λσ H Q=>t σ H λc H1=>if c=true then ta σ H1 Q else tb σ H1 Q
def Kg(j:PT X c tA)(l:PE X a ta)(k:PE X b tb):PE X (.IfExp c a b pos) (Vo tA ta tb):=by
 intro e s σ H Q I h;show wpAny_IfExp (bZ (j e s σ H _ I h) λd f ⟨H1,i,g⟩=>?_);cases d with
 |true=>show l e f σ H1 Q i g
 |false=>show k e f σ H1 Q i g
end
def mO(K:PySem.W.Frag)(H:Hp)(a:Addr)(xs:List V):Prop:=
 Rd H a (.lst xs)\/
  ∃(o:Obj) (its:Array Value) (n:Nat),K.lookup a=some o/\o.cls= .type "list"/\o.dict=none/\o.data= .seq its n/\its.size<=sizeLine/\Vals xs its.toList
def ji(K:PySem.W.Frag)(H:Hp)(a:Addr)(xs:List V):Prop:=
 Rd H a (.tup xs)\/
  ∃(o:Obj) (its:Array Value) (n:Nat),K.lookup a=some o/\o.cls= .type "tuple"/\o.data= .seq its n/\its.size<=sizeLine/\Vals xs its.toList
def Vc:Value->Option V
 | .none=>some .az
 | .bool b=>some (.bl b)
 | .int i _=>some (.int i)
 | .str x _=>some (.str x)
 | .bytes b _=>some (.u7 b)
 | .float b _=>some (.vc b)
 | .ref a=>some (.ref a)
 | .type n=>some (.ty n)
 |_=>none
def RelV.abs(r:RelV x u):Vc u=some x:=by
 cases x with
 |az=>cases r;rfl
 |bl _=>cases r;rfl
 |int _=>obtain⟨t,rfl⟩:=r;rfl
 |str _=>obtain⟨t,rfl⟩:=r;rfl
 |u7 _=>obtain⟨t,rfl⟩:=r;rfl
 |vc _=>obtain⟨t,rfl⟩:=r;rfl
 |ref _=>cases r;rfl
 |ty _=>cases r;rfl
def RelV.inj(r:RelV x u)(q:RelV y u):x=y:=W0 (r.abs.symm.trans q.abs)
def Vals.inj:∀ {xs ys:List V} {us:List Value},Vals xs us->Vals ys us->xs=ys
 |_,_,_,.nil,.nil=>rfl
 |_,_,_,.cons r t,.cons b a=>by rw[r.inj b,Vals.inj t a]
section
variable {X:Cx}{pins:List (Addr×Obj)}{σ:St}{H:Hp}{s:Shared}{a:Addr}{xs ys:List V}
def mO.of{K:PySem.W.Frag}(h:H a=some (.lst xs)):mO K H a xs:= .inl (.inl h)
def ji.of{K:PySem.W.Frag}(h:H a=some (.tup xs)):ji K H a xs:= .inl (.inl h)
def Inv.list(I:Inv X pins σ H s)(h:mO X.K H a xs):∃its:List Value,Vals xs its/\PlainL s.heap a its.toArray/\xs.length<=sizeLine:=by
 rcases h with h|⟨o,its,n,c,f,d,b,g,r⟩
 . obtain⟨z,its,n,r,e⟩:=h.ok I.aH;show⟨its,r,⟨_,n,e,rfl,rfl,rfl⟩,z⟩
 . show⟨its.toList,r,⟨o,n,I.g9 a o c,f,d,by simpa using b⟩,?_⟩;let e:=r.length;simp![WE]at e;lia
def Inv.tuple(I:Inv X pins σ H s)(h:ji X.K H a xs):∃its:List Value,Vals xs its/\IsTup s.heap a its.toArray/\xs.length<=sizeLine:=by
 rcases h with h|⟨o,its,n,c,d,b,f,r⟩
 . obtain⟨z,its,r,p⟩:=h.ok I.aH;show⟨its,r,p,z⟩
 . show⟨its.toList,r,⟨o,I.g9 a o c,d,n,by simpa using b⟩,?_⟩;let e:=r.length;simp![WE]at e;lia
def Inv.CY(I:Inv X pins σ H s)(h:mO X.K H a xs)(h':mO X.K H a ys):xs=ys:=by
 obtain⟨c,r,⟨o,n,e,_,_,d⟩,_⟩:=I.list h;obtain⟨b,i,⟨j,k,f,_,_,g⟩,_⟩:=I.list h';rw[e]at f;cases f;rw[d]at g;injection g with d1 _;let:c=b:=by simpa using XB Array.toList d1
 subst this;show r.inj i
def Inv.yM(I:Inv X pins σ H s)(h:ji X.K H a xs)(h':ji X.K H a ys):xs=ys:=by
 obtain⟨c,r,⟨o,e,_,n,d⟩,_⟩:=I.tuple h;obtain⟨b,i,⟨j,f,_,k,g⟩,_⟩:=I.tuple h';rw[e]at f;cases f;rw[d]at g;injection g with d1 _;let:c=b:=by simpa using XB Array.toList d1
 subst this;show r.inj i
end
abbrev Cx.pM(X:Cx)(E:Value->Shared->Prop):Cx:={X with xe:=E}
abbrev Cx.uV(X:Cx):Cx:=X.pM λ_ _=>False
def Cx.Ok.pM{X:Cx}(ok:X.Ok)(E:Value->Shared->Prop):(X.pM E).Ok:=
 ⟨ok.mod,ok.kind,ok.glob,ok.blt,ok.above,ok.inj,ok.has,ok.AB,ok.hd,ok.frames,ok.ED,ok.GQ,ok.bs,ok.tV,ok.vO,ok.vQ,ok.lg,ok.xJ,ok.gt⟩
def Cx.Ok.mI{X:Cx}(ok:(X.pM E).Ok):X.Ok:=
 ⟨ok.mod,ok.kind,ok.glob,ok.blt,ok.above,ok.inj,ok.has,ok.AB,ok.hd,ok.frames,ok.ED,ok.GQ,ok.bs,ok.tV,ok.vO,ok.vQ,ok.lg,ok.xJ,ok.gt⟩
section
variable {X:Cx}{pins:List (Addr×Obj)}{σ:St}{H:Hp}{s:Shared}{E:Value->Shared->Prop}
def Inv.pM(I:Inv X pins σ H s)(E:Value->Shared->Prop):Inv (X.pM E) pins σ H s:=⟨I.ok.pM E,I.os,I.bare,I.base,I.loc,I.cell,I.free,I.iS,I.pin,I.aH,I.len⟩
def Inv.mI(I:Inv (X.pM E) pins σ H s):Inv X pins σ H s:=⟨I.ok.mI,I.os,I.bare,I.base,I.loc,I.cell,I.free,I.iS,I.pin,I.aH,I.len⟩
def SP.mI{D:Ends}(h:SP (X.pM E) pins D f s'):SP X pins D f s':=by
 cases f with
 |next=>obtain⟨a,b,I,q⟩:=h;show⟨a,b,I.mI,q⟩
 |brk=>obtain⟨a,b,I,q⟩:=h;show⟨a,b,I.mI,q⟩
 |cont=>obtain⟨a,b,I,q⟩:=h;show⟨a,b,I.mI,q⟩
 |ret u=>obtain⟨v,a,b,I,r,q⟩:=h;show⟨v,a,b,I.mI,r,q⟩
def h_.uV{st:List Stmt}{t:TS}(h:h_ X.uV st t):h_ X st t:=λpins s σ H D I a=>
 X6 (h pins s σ H D (I.pM _) a) (λ_ _ q=>q.mI) λ_ _ z=>False.elim z
end
section
variable {X:Cx}{st:Stmt}{rest:List Stmt}{t u:TS}{e:Expr}{te:TE}{pos:Pos}
def R_:TS:=λD σ H=>D.nx σ H
def Ut(t u:TS):TS:=λD σ H=>t {D with nx:=u D} σ H
def Nv:h_ X [] R_:=λ_ _ σ H _ I h=>ZP ⟨σ,H,I,h⟩
def Jt(g:PS X st t)(d:h_ X rest u):h_ X (st::rest) (Ut t u):=by
 intro a s σ H D I h;show wpAny_execs_cons (bZ (g a s σ H {D with nx:=u D} I h) λf c q=>?_);cases f with
 |next=>
  obtain⟨b,j,i,q⟩:=q;show d a c b j D i q
 |ret v=>show q
 |brk=>show q
 |cont=>show q
def Nu(b:PS X st t):h_ X [st] t:=by
 intro a s σ H D I h;show wpAny_execs_cons (bZ (b a s σ H D I h) λf c q=>?_);cases f with
 |next=>show ZP q
 |ret v=>show q
 |brk=>show q
 |cont=>show q
def Inv.quiet{pins:List (Addr×Obj)}{σ:St}{H:Hp}{s:Shared}(I:Inv X pins σ H s):interactive X.env=false:=by simp[interactive,I.ok.kind]
def SF(te:TE):TS:=λD σ H=>te σ H λ_ H1=>D.nx σ H1
def Oa(c:PE X e te)(hs:swapsWith e none pos.line X.env=pure false:=by rfl):PS X (.Expr e pos) (SF te):=by
 intro a s σ H D I h;show wpAny_Expr_any (bZ (c a s σ H _ I h) λv f ⟨x,H1,d,g,b⟩=>⟨σ,H1,d,b⟩) I.quiet hs
def UE(te:TE):TS:=λD σ H=>te σ H D.rt
def Py(d:PE X e te):PS X (.Return (some e) pos) (UE te):=by
 intro a s σ H D I h;show wpAny_Return_some (bZ (d a s σ H _ I h) λv g ⟨x,H1,f,b,c⟩=>⟨x,σ,H1,f,b,c⟩)
def U_(c:TT)(t u:TS):TS:=λD σ H=>c σ H λb H1=>if b=true then t D σ H1 else u D σ H1
def Tu{g:TT}(l:PT X c g)(n:h_ X a t)(m:h_ X b u):PS X (.If c a b pos) (U_ g t u):=by
 intro f s σ H D I h;show wpAny_If (bZ (l f s σ H _ I h) λd i ⟨H1,k,j⟩=>?_);cases d with
 |true=>show n f i σ H1 D k j
 |false=>show m f i σ H1 D k j
end
abbrev TG:=V->St->Hp->(St->Hp->Prop)->Prop
abbrev Cj:=List V->St->Hp->(St->Hp->Prop)->Prop
def PG(X:Cx)(target:Expr)(t:TG):Prop:=
 ∀(a:List (Addr×Obj)) (s:Shared) (σ:St) (H:Hp) (v:V) (u:Value) (Q:St->Hp->Prop),Inv X a σ H s->RelV v u->t v σ H Q->
  wpAny (model X.prog X.w) X.A (assign target X.env u) (λ_ d=>∃b c,Inv X a b c d/\Q b c) X.xe s
def G_(X:Cx)(ts:List Expr)(t:Cj):Prop:=
 ∀(a:List (Addr×Obj)) (s:Shared) (σ:St) (H:Hp) (vs:List V) (us:List Value) (Q:St->Hp->Prop),Inv X a σ H s->Vals vs us->t vs σ H Q->
  wpAny (model X.prog X.w) X.A (assignInOrder ((assignEach ts X.env).map (·.2)) us) (λ_ d=>∃b c,Inv X a b c d/\Q b c) X.xe s
abbrev KG:=V->V->V->Hp->(Hp->Prop)->Prop
def QK(X:Cx)(t:KG):Prop:=
 ∀(a:List (Addr×Obj)) (s:Shared) (σ:St) (H:Hp) (o i v:V) (ov iv u:Value) (Q:Hp->Prop),Inv X a σ H s->RelV o ov->RelV i iv->RelV v u->t o i v H Q->
  wpAny (model X.prog X.w) X.A (setItem ov iv u) (λ_ c=>∃b,Inv X a σ b c/\Q b) X.xe s
abbrev Ly:=V->V->Hp->VK->Prop
def Qu(X:Cx)(op:Operator)(t:Ly):Prop:=
 ∀(a:List (Addr×Obj)) (s:Shared) (σ:St) (H:Hp) (x y:V) (v u:Value) (Q:VK),Inv X a σ H s->RelV x v->RelV y u->t x y H Q->
  wpAny (model X.prog X.w) X.A (inplaceOp op v u) (EP X a σ Q) X.xe s
section
variable {X:Cx}{pos:Pos}
def jq(i:Nat):TG:=λv σ H Q=>Q (σ.set i (some v)) H
def nX(e:X.N.Nodup)(c:X.N[i]?=some x)(b:Loc X.env.scope x)(d:X.fn x=true\/X.env.scope.names.lookup x=some .local:=by first|show .inl rfl|show .inr rfl|assumption):PG X (.Name x pos) (jq i):=by
 intro a s σ H v u Q I r h;show wpAny_assign_Name (vV I e c b r (λg f=>⟨_,H,f,h⟩) d)
def Fe:Cj:=λa σ H Q=>a=[]/\Q σ H
def o6(t:TG)(u:Cj):Cj:=λb σ H Q=>∃v r,b=v::r/\t v σ H λa c=>u r a c Q
def yw:G_ X [] Fe:=by
 intro a s σ H b c Q I r h;obtain⟨e,h⟩:=h;subst e;cases r;show assignInOrder_nil ⟨σ,H,I,h⟩
def kh{e:Expr}(j:PG X e t)(i:G_ X b u)
 (hs:(assignEach (e::b) X.env).map (·.2)=assign e X.env::(assignEach b X.env).map (·.2):=by rfl):G_ X (e::b) (o6 t u):=by
 intro a s σ H m o Q I r h;obtain⟨v,n,k,h⟩:=h;subst k;cases r with
 |cons r f=>
  rw[hs];show assignInOrder_cons (bZ (j a s σ H _ _ _ I r h) λ_ d ⟨c,H1,l,g⟩=>?_);show i a d c H1 _ _ Q l f g
def KL(K:PySem.W.Frag)(n:Nat)(t:Cj):TG:=λv σ H Q=>∃a b,v= .ref a/\ji K H a b/\b.length=n/\t b σ H Q
def Cs{k:Nat}(y:X.calm=true)(h:G_ X d t)
 (w:(assignEach d X.env).length=n:=by rfl) (g:(assignEach d X.env).findIdx? (·.1)=none:=by rfl):PG X (.Tuple d k pos) (KL X.K n t):=by
 intro c s σ H v u Q I r f;obtain⟨a,j,A,q,x,f⟩:=f;subst A;cases r;obtain⟨l,i,p,C⟩:=I.tuple q;show assign_Tuple_tuple (I.ok.hd y) p (by simp[w,<-x,i.length]) g λz m=>?_;let B:Inv X c σ H {s with heap:=z}:=I.kept (t':=s.toks) λb o e=>m b o (Wb (VY e)) e;show h c _ σ H j _ Q B (by simpa using i) f
def yC(a b:TE)(t:KG):TG:=λv σ H Q=>a σ H λo H1=>b σ H1 λi d=>t o i v d λc=>Q σ c
def wm(m:PE X o b)(n:PE X i c)(hs:QK X t)
 (p:∀v,assign (.Subscript o i pos) X.env v=(do
   let ov <-holding [v] (eval o X.env)
   let iv <-holding [v,ov] (eval i X.env)
   standAt pos
   holding [v,ov,iv] (setItem ov iv v)
   release [v,ov,iv] []):=by intro _;rfl):PG X (.Subscript o i pos) (yC b c t):=by
 intro a s σ H v u Q I r h;rw[p];show VG (XJ (bZ (m a s σ H _ I h) λov e ⟨x,H1,z,g,l⟩=>?_));show VG (XJ (bZ (n a e σ H1 _ z l) λiv d ⟨y,B,w,f,k⟩=>?_));show VG (aaq (VG (XJ (bZ (hs a d σ B x y v ov iv u _ w g f r k) λ_ C ⟨A,q,j⟩=>?_))));show wpAny_release ⟨σ,A,q,j⟩
def ni(a:TE)(g:TG):TS:=λD σ H=>a σ H λx H1=>g x σ H1 D.nx
def BA{b e:Expr}{g:TG}(l:PE X e c)(k:PG X b g)(hs:swapsWithSole [b] e pos.line X.env=pure false:=by rfl)(j:swappedStores [b] e X.env=pure none:=by rfl)
 (m:(assignEach [b] X.env).map (·.2)=[assign b X.env]:=by rfl):PS X (.Assign [b] e pos) (ni c g):=by
 intro a s σ H D I h;show wpAny_Assign_stores (bZ (l a s σ H _ I h) λv d ⟨x,H1,n,f,i⟩=>?_) hs j;rw[m];show bZ (k a d σ H1 x v _ n f i) λ_ o q=>q
def Rf{e:Expr}(m:X.N.Nodup)(j:X.N[i]?=some x)(g:Loc X.env.scope x)(l:PE X e c)(hs:swapsWith e (some (.Name x a)) pos.line X.env=pure false:=by rfl)(k:X.fn x=true\/X.env.scope.names.lookup x=some .local:=by first|show .inl rfl|show .inr rfl|assumption):
 PS X (.Assign [.Name x a] e pos) (ni c (jq i)):=by
 intro b s σ H D I h;show wpAny_Assign_Name (bZ (l b s σ H _ I h) λv q ⟨y,H1,o,d,f⟩=>?_) hs;show vV o m j g d (λp n=>⟨_,H1,n,f⟩) k
def Rw(i:Nat)(b:TE)(a:Ly):TS:=λD σ H=>∃x,σ[i]?=some (some x)/\b σ H λy H1=>a x y H1 λz c=>D.nx (σ.set i (some z)) c
def Rz{e:Expr}(Q:X.N.Nodup)(p:X.N[i]?=some x)(j:Loc X.env.scope x)(O:PE X e o)(J:Qu X op n)(N:X.fn x=true\/X.env.scope.names.lookup x=some .local:=by first|show .inl rfl|show .inr rfl|assumption):
 PS X (.AugAssign (.Name x f) op e pos) (Rw i o n):=by
 intro a s σ H D I h;obtain⟨v,R,h⟩:=h;obtain⟨m,K,M⟩:=I.loc;let g:AW X.env.scope x:=by rcases j with k|k;show .inl k;show .inr (.inl k)
 obtain⟨u,r,l⟩:=M i x v p R g;show wpAny_AugAssign_Name ?_
 let q:wpAny (model X.prog X.w) X.A (eval e X.env) (λw A=>wpAny (model X.prog X.w) X.A (inplaceOp op u w) (λr t=>wpAny (model X.prog X.w) X.A (storeName X.env x r) (λ_=>SP X a D .next) X.xe t) X.xe A) X.xe s:=by
  show bZ (O a s σ H _ I h) λw B ⟨y,H1,U,E,G⟩=>?_;show bZ (J a B σ H1 v y u w _ U r E G) λz Z ⟨W,V,T,C,F⟩=>?_;show vV T Q p j C (λY S=>⟨_,V,S,F⟩) N
 rcases l with⟨b,L⟩|⟨b,c,P,d⟩
 . show wpAny_loadName_local I.ok.kind b K L q
 . rcases b with b|b
   . show wpAny_loadName_cell I.ok.kind b P d q
   . rcases j with k|k
     . have:X.env.scope.names.lookup x=some .free:=b;rw[k]at this;cases this
     . have:X.env.scope.names.lookup x=some .free:=b;rw[k]at this;cases this
def Pc(f:Int->Int->Int):Ly:=λx y H Q=>∃i j,x= .int i/\y= .int j/\Q (.int (f i j)) H
def Q_:Qu X .Add (Pc λi j=>i+j):=by
 intro a s σ H x y v u Q I c b h;obtain⟨i,j,e,d,q⟩:=h;subst e;subst d;obtain⟨t,rfl⟩:=c;obtain⟨f,rfl⟩:=b;show iadd_int ⟨.int _,H,I.tok _,⟨_,rfl⟩,q⟩
def Hk(c:TT)(f:TS):TS:=λD σ H=>∃W:Nat->St->Hp->Prop,(∃m,W m σ H)/\∀m σ H,W m σ H->
 c σ H λb H1=>if b=true then∃N:St->Hp->Prop,(∀a e,N a e->∃d,d<m/\W d a e)/\f {D with nx:=N,ct:=N,bk:=D.nx} σ H1 else D.nx σ H1
def K6(w:PassesOwn (model X.prog X.w) X.A X.env X.xe)(K:PT X c t)(L:h_ X d u):PS X (.While c d [] pos) (Hk t u):=by
 intro a s σ H D I h;obtain⟨W,⟨J,C⟩,turn⟩:=h;show wpAny_While (codeAny_whileLoop (λn G=>∃r A,Inv X a r A G/\W n r A) ?_ J ⟨σ,H,I,C⟩);rintro n F ⟨i,H1,M,B⟩;show Yu w (bZ (K a F i H1 _ M (turn n i H1 B)) λb E ⟨z,y,k⟩=>?_);cases b with
 |true=>
  obtain⟨N,x,k⟩:=k;rw[VN rfl];show Yu w (bZ (L a E i z _ y k) λf O j=>?_);cases f with
  |next=>
   obtain⟨e,g,q,m⟩:=j;obtain⟨o,p,l⟩:=x e g m;show⟨o,p,e,g,q,l⟩
  |cont=>
   obtain⟨e,g,q,m⟩:=j;obtain⟨o,p,l⟩:=x e g m;show⟨o,p,e,g,q,l⟩
  |brk=>show j
  |ret v=>show j
 |false=>
  rw[VM WD];show ZP ⟨i,z,y,k⟩
end
structure It where
 go:Nat->Hp->Prop
 o4:Nat->Hp->V->Hp->Prop
 stop:Nat->Hp->Prop
def mh(X:Cx)(pins:List (Addr×Obj))(H:Hp)(b:Addr):Prop:=
 H b=none/\b≠X.env.locals/\b∉X.fs/\(b∈X.ex\/X.s₀.heap.objs.size<=b)/\(∀x c,X.env.cells.lookup x=some c->c≠b)/\∀p∈X.pn++pins,p.1≠b
def Inv.vH{X:Cx}{pins:List (Addr×Obj)}{σ:St}{H d:Hp}{s:Shared}{b:Addr}(I:Inv X pins σ H s)(a:s.heap.objs.size<=b)(g:d b=none):mh X pins d b:=by
 show⟨g,Xa (V9 I.lt a),I.Rm a,.inr (VU I.sz a),λx c e z=>?_,λp f z=>?_⟩
 . obtain⟨v,q⟩:=I.cell x c e;show absurd (V9 q.lt (by rw[z];show a)) (Xz _)
 . show absurd (V9 (VY (I.pin p f).1) (by rw[z];show a)) (Xz _)
structure Turn(P:Program)(w:World)(K:PySem.W.Frag)(tg:Expr)(J:It)(fp:List Addr)(it:Addr)(tn:Nat->Heap->Prop):Prop where
 mem:it∈fp
 obj:∀i h,tn i h->∀b∈fp,∃o,h.get? b=some o/\∀v,o.data≠ .cell v
 keep:∀i h h',tn i h->(∀b∈fp,∀o,h.get? b=some o->h'.get? b=some o)->tn i h'
 item:∀(X:Cx),X.prog=P->X.w=w->X.K=K->X.calm=true->∀(i:Nat) (pins:List (Addr×Obj)) (s:Shared) (σ:St) (H:Hp) (E:Value->Shared->Prop),Inv X pins σ H s->(∀b∈fp,mh X pins H b)->tn i s.heap->J.go i H->
  wpAny (model P w) X.A (pyNext (.ref it)) (λr s1=>∃u,r=some u/\
   wpAny (model P w) X.A (letOwnedTupleGo tg (.ref it) u) (λ_ s2=>∃x H',Inv X pins σ H' s2/\RelV x u/\J.o4 i H x H'/\tn (i+1) s2.heap/\∀b∈fp,H' b=none) E s1) E s
 done:∀(X:Cx),X.prog=P->X.w=w->X.K=K->X.calm=true->∀(i:Nat) (pins:List (Addr×Obj)) (s:Shared) (σ:St) (H:Hp) (E:Value->Shared->Prop),Inv X pins σ H s->(∀b∈fp,mh X pins H b)->tn i s.heap->J.stop i H->
  wpAny (model P w) X.A (pyNext (.ref it)) (λr s1=>r=none/\Inv X pins σ H s1) E s
 self:∀(A:Around) (i:Nat) (s:Shared) (Q:Value->Shared->Prop) (E:Value->Shared->Prop),tn i s.heap->Q (.ref it) s->wpAny (model P w) A (pyIter (.ref it)) Q E s
abbrev TI:=St->Hp->(It->Hp->Prop)->Prop
def LH(X:Cx)(pins:List (Addr×Obj))(σ:St)(f:Expr)(R:It->Hp->Prop)(a:Value)(c:Shared):Prop:=
 ∃(d:Addr) (e:List Addr) (tn:Nat->Heap->Prop) (J:It) (H':Hp),a= .ref d/\Inv X pins σ H' c/\Turn X.prog X.w X.K f J e d tn/\tn 0 c.heap/\(∀b∈e,mh X pins H' b)/\R J H'
def PI(X:Cx)(d b:Expr)(c:TI):Prop:=
 ∀(a:List (Addr×Obj)) (s:Shared) (σ:St) (H:Hp) (R:It->Hp->Prop),Inv X a σ H s->c σ H R->
  wpAny (model X.prog X.w) X.A (eval b X.env) (λv e=>wpAny (model X.prog X.w) X.A (pyIter v) (LH X a σ d R) X.xe e) X.xe s
def EN{s:Shared}{o:Obj}(c:s.heap.get? it=some o)(f:o.cls= .type n)(e:o.data= .fields vs)
 (d: ["enumerate","zip","dict_itemiterator","dict_reverseitemiterator","odict_iterator","itertools.zip_longest","itertools.pairwise"].contains n=false) (a:Q () s):wpAny M A (letOwnedTupleGo b (.ref it) u) Q E s:=by
 unfold letOwnedTupleGo
 cases b<;>first
  |show VQ a
  |(cases u<;>first
     |show VQ a
     |(show VG (wpAny_load c ?_)
       rw[f,e];change wpAny M A (if(["enumerate","zip","dict_itemiterator","dict_reverseitemiterator","odict_iterator","itertools.zip_longest","itertools.pairwise"].contains n&&vs[0]?==some (rawInt _))=true then _ else _) Q E s;rw[VM (by intro h;rw[d,Bool.false_and]at h;cases h)];show VQ a))
def Pn(K:PySem.W.Frag)(a:Addr):It:=
 ⟨λi H=>∃b x,mO K H a b/\b[i]?=some x,λi H x c=>c=H/\∀b,mO K H a b->b[i]?=some x,λi H=>∃b,mO K H a b/\b.length<=i⟩
def QI(K:PySem.W.Frag)(a:Addr):It:=
 ⟨λi H=>∃b x,ji K H a b/\b[i]?=some x,λi H x c=>c=H/\∀b,ji K H a b->b[i]?=some x,λi H=>∃b,ji K H a b/\b.length<=i⟩
def zh(lo:Int)(n:Nat):It:=⟨λi _=>i<n,λi H x a=>a=H/\x= .int (lo+i),λi _=>n<=i⟩
def HY{P:Program}{w:World}{K:PySem.W.Frag}{Q:Expr}(a it:Addr):Turn P w K Q (Pn K a) [it] it (λi h=>h.IsListIter it a i) where
 mem:=by simp
 obj:=λi h f b j=>by
  let e:b=it:=by simpa using j
  subst e;obtain⟨o,e,c,d⟩:=f;show⟨o,e,λv z=>by rw[d]at z;cases z⟩
 keep:=λi h q f k=>f.at λo e=>k it (by simp) o e
 item:=by
  intro X C A D N i g s σ H E I n f B;subst C A D;obtain⟨O,x,m,y⟩:=B;obtain⟨t,r,p,T⟩:=I.list m;obtain⟨u,V,S⟩:=r.get y;obtain⟨M,L,W,J,G,F⟩:=n it (by simp);show wpAny_pyNext_list_item f p.isList (x:=u) (by simpa using V) λq l R=>?_;let Z:Inv X g σ H {s with heap:=q}:=I.turned (t':=s.toks) (λb o j e=>(R.2 b j).trans e) M L J G F;obtain⟨o,e,c,d⟩:=id l;show⟨u,rfl,EN (s:={s with heap:=q}) e c d (by decide) ⟨x,H,Z,S,⟨rfl,λys U=>by rw[I.CY U m];show y⟩,l,λb j=>(n b j).1⟩⟩
 done:=by
  intro X C A D N i g s σ H E I n f B;subst C A D;obtain⟨O,m,y⟩:=B;obtain⟨t,r,p,T⟩:=I.list m;obtain⟨M,L,W,J,G,F⟩:=n it (by simp);let hl:=r.length;show wpAny_pyNext_list_end (I.ok.hd N) f p.isList (by simp;lia) λq Y=>⟨rfl,I.turned (t':=s.toks) (λb o j e=>Y b o j e) M L J G F⟩
 self:=λ_ _ _ _ _ f h=>wpAny_pyIter_listiter f h
def F5{P:Program}{w:World}{K:PySem.W.Frag}{Q:Expr}(a it:Addr):Turn P w K Q (QI K a) [it] it (λi h=>h.IsTupleIter it a i) where
 mem:=by simp
 obj:=λi h f b l=>by
  let e:b=it:=by simpa using l
  subst e;obtain⟨o,e,c,d⟩:=f;show⟨o,e,λv z=>by rw[d]at z;cases z⟩
 keep:=λi h r f k=>f.at λo e=>k it (by simp) o e
 item:=by
  intro X C A D N i g s σ H E I q f B;subst C A D;obtain⟨O,x,n,y⟩:=B;obtain⟨j,t,p,T⟩:=I.tuple n;obtain⟨u,V,S⟩:=t.get y;obtain⟨M,L,W,J,G,F⟩:=q it (by simp);show wpAny_pyNext_tuple_item f (show s.heap.IsTuple a j.toArray from p) (x:=u) (by simpa using V) λr m R=>?_;let Z:Inv X g σ H {s with heap:=r}:=I.turned (t':=s.toks) (λb o l e=>(R.2 b l).trans e) M L J G F;obtain⟨o,e,c,d⟩:=id m;show⟨u,rfl,EN (s:={s with heap:=r}) e c d (by decide) ⟨x,H,Z,S,⟨rfl,λys U=>by rw[I.yM U n];show y⟩,m,λb l=>(q b l).1⟩⟩
 done:=by
  intro X C A D N i g s σ H E I q f B;subst C A D;obtain⟨O,n,y⟩:=B;obtain⟨j,t,p,T⟩:=I.tuple n;obtain⟨M,L,W,J,G,F⟩:=q it (by simp);let hl:=t.length;show wpAny_pyNext_tuple_end (I.ok.hd N) f (show s.heap.IsTuple a j.toArray from p) (by simp;lia) λr Y=>⟨rfl,I.turned (t':=s.toks) (λb o l e=>Y b o l e) M L J G F⟩
 self:=λ_ _ _ _ _ f h=>wpAny_pyIter_tupleiter f h
def Fi{P:Program}{w:World}{K:PySem.W.Frag}{D:Expr}(it:Addr)(lo:Int)(n:Nat):Turn P w K D (zh lo n) [it] it (λi h=>IsRangeIter h it (lo+(i:Nat)*1) ((n:Int)-(i:Nat)) 1) where
 mem:=by simp
 obj:=λi h a b d=>by
  let e:b=it:=by simpa using d
  subst e
  show⟨_,a,λv z=>by
   let C:Data.fields _=Data.cell v:=z;cases C⟩
 keep:=λi h j a k=>k it (by simp) _ a
 item:=by
  intro X q l r p i c s σ H E I g a m;subst q l r;obtain⟨B,A,J,y,x,u⟩:=g it (by simp);let W:=Walks.range (prog:=X.prog) (w:=X.w) (I.ok.hd p) it lo 1 n;show W.item i s _ _ m a λv j tk G f F=>?_;obtain⟨t,rfl⟩:=G;let M:Inv X c σ H {s with heap:=j,toks:=tk}:=I.turned (λb o d e=>F b o (by simpa using d) e) B A y x u;show⟨_,rfl,EN (s:={s with heap:=j,toks:=tk}) (n:="range_iterator") f rfl rfl (by decide) ⟨.int (lo+i),H,M,⟨t,?_⟩,⟨rfl,rfl⟩,f,λb d=>(g b d).1⟩⟩;rw[Xs]
 done:=by
  intro X q l r p i c s σ H E I g a m;subst q l r;obtain⟨B,A,J,y,x,u⟩:=g it (by simp);show wpAny_pyNext_range_end (I.ok.hd p) a (by let:n<=i:=m;lia) λj L=>⟨rfl,I.turned (t':=s.toks) (λb o d e=>L b o d e) B A y x u⟩
 self:=λ_ _ _ _ _ a h=>wpAny_pyIter_rangeiter a h
section
variable {X:Cx}{tg:Expr}
def AJ{pins:List (Addr×Obj)}{σ:St}{H:Hp}{s:Shared}{R:It->Hp->Prop}{E:Value->Shared->Prop}{lo a:Int}{t u v:Tok}{tk:Nat}(I:Inv X pins σ H s)(i: -(2^62)<=lo)(h:lo<2^62)(g: -(2^62)<=a)(f:a<2^62)
 (q:R (zh lo (a-lo).toNat) H):wpAny (model X.prog X.w) X.A (pyIter (.ref s.heap.objs.size)) (LH X pins σ tg R) E {s with heap:=s.heap.push {cls:= .type "range",data:= .fields #[.int lo t,.int a u,.int 1 v]},toks:=tk}:=by
 show wpAny_pyIter_range (IsRange.new ..) (small_one i h g f) ?_;let c:Inv X pins σ H {s with heap:=s.heap.push {cls:= .type "range",data:= .fields #[.int lo t,.int a u,.int 1 v]},toks:=tk}:=I.kept λb o e=>VJ _ e
 show⟨(s.heap.push {cls:= .type "range",data:= .fields #[.int lo t,.int a u,.int 1 v]}).objs.size,[(s.heap.push {cls:= .type "range",data:= .fields #[.int lo t,.int a u,.int 1 v]}).objs.size],_,_,H,rfl,
  c.kept (t':=tk) λb o e=>VJ _ e,Fi _ lo (a-lo).toNat,?_,λb d=>?_,q⟩
 . have k:lo+((0:Nat):Int)*1=lo:=by simp
   let j:(((a-lo).toNat:Nat):Int)-((0:Nat):Int)=Builtin.Range.rangeSize lo a 1:=by rw[rangeSize_one];split<;>lia
   change IsRangeIter _ _ (lo+((0:Nat):Int)*1) ((((a-lo).toNat:Nat):Int)-((0:Nat):Int)) 1;rw[k,j];show V4 _ rfl
 . have e:b=(s.heap.push {cls:= .type "range",data:= .fields #[.int lo t,.int a u,.int 1 v]}).objs.size:=by simpa using d
   subst e;show c.vH (VL _) (c.aH.fresh (VL _))
def EO(b:TA):TI:=λσ H R=>b σ H λa H1=>∃j:Int,a=[.int j]/\ -(2^62)<=j/\j<2^62/\R (zh 0 j.toNat) H1
def Ft(b:TA):TI:=λσ H R=>b σ H λa H1=>∃i j:Int,a=[.int i,.int j]/\(-(2^62)<=i/\i<2^62/\ -(2^62)<=j/\j<2^62)/\R (zh i (j-i).toNat) H1
def Jj(l:Gl X "range")(k:X.mg "range"=none)(m:PA X [a] d)(hs:starEach [a] X.env=[(false,eval a X.env)]:=by rfl):PI X tg (.Call (.Name "range" p) [a] [] pos) (EO d):=by
 intro b s σ H R I h;show Call_ (kZ I l k boot_range (Xv (bZ (m pos b s σ H _ I h) λu v ⟨o,H1,n,g,c⟩=>?_) hs rfl));obtain⟨j,e,c,i,q⟩:=c;subst e;cases g with
 |cons r f=>
  cases f;obtain⟨t,rfl⟩:=r;show call_range_1 (AJ n (by lia) (by lia) c i (by simpa using q))
def Hw{a b:Expr}{k:TA}{p pos:Pos}(w:Gl X "range")(v:X.mg "range"=none)(x:PA X [a,b] k)(hs:starEach [a,b] X.env=[(false,eval a X.env),(false,eval b X.env)]:=by rfl)(d:starEach [b] X.env=[(false,eval b X.env)]:=by rfl):
 PI X tg (.Call (.Name "range" p) [a,b] [] pos) (Ft k):=by
 intro c s σ H R I h;show Call_ (kZ I w v boot_range (Xv (bZ (x pos c s σ H _ I h) λA C ⟨z,H1,y,l,g⟩=>?_) (by rw[hs,d]) (by rw[d];rfl)));obtain⟨i,j,e,⟨g,u,o,n⟩,q⟩:=g;subst e;cases l with
 |cons r f=>
  cases f with
  |cons m f=>
   cases f;obtain⟨t,rfl⟩:=r;obtain⟨B,rfl⟩:=m;show call_range_2 (AJ y g u o n q)
def QY(e:TI)(g:TG)(f:TS):TS:=λD σ H=>e σ H λJ H1=>∃W:Nat->Nat->St->Hp->Prop,(∃m,W 0 m σ H1)/\∀i m σ H,W i m σ H->
 (J.stop i H/\D.nx σ H)\/(J.go i H/\∃N:St->Hp->Prop,(∀b a,N b a->∃c,c<m/\W (i+1) c b a)/\∀x a,J.o4 i H x a->g x σ a λd h=>f {D with nx:=N,ct:=N,bk:=D.nx} d h)
def tW(fp:List Addr)(h:Heap):List (Addr×Obj):=fp.filterMap λb=>(h.get? b).map λo=>(b,o)
def nI{h:Heap}(a:b∈fp)(e:h.get? b=some o):(b,o)∈tW fp h:=Yq.mpr ⟨b,a,by rw[e];rfl⟩
def HH{h:Heap}(a:p∈tW fp h):p.1∈fp/\h.get? p.1=some p.2:=by
 obtain⟨b,c,e⟩:=Yq.mp a;cases q:h.get? b with
 |none=>rw[q]at e;cases e
 |some o=>
  rw[q]at e;let d:(b,o)=p:=W0 e;subst d;show⟨c,q⟩
def Inv.pinned{pins:List (Addr×Obj)}{σ:St}{H:Hp}{s:Shared}{fp:List Addr}(I:Inv X pins σ H s)(h:∀b∈fp,mh X pins H b)(g:∀b∈fp,∃o,s.heap.get? b=some o/\∀v,o.data≠ .cell v):Inv X (pins++tW fp s.heap) σ H s:=
 I.ur λp f=>(WC.mp f).elim (λz=>I.pin p (We _ z)) λz=>by
  obtain⟨a,e⟩:=HH z;obtain⟨k,j,i,_⟩:=h p.1 a;obtain⟨o,c,d⟩:=g p.1 a;rw[e]at c;cases c;show⟨e,k,j,i,d⟩
def Inv.ie{pins pl:List (Addr×Obj)}{σ:St}{H:Hp}{s:Shared}(I:Inv X (pins++pl) σ H s):Inv X pins σ H s:=I.ur λp a=>I.pin p (We _ (Xh _ a))
def Qp{k:Expr}{g:TG}(G:PassesOwn (model X.prog X.w) X.A X.env X.xe)(hc:X.calm=true)(hi:PI X tg k U)(hg:PG X tg g)(l:h_ X y Y)
 (hs:∀x,foldedSetIterable k X.env x=pure x:=by intro _;rfl):PS X (.For tg k y [] pos) (QY U g Y):=by
 intro a s σ H D I h;show wpAny_For (bZ (hi a s σ H _ I h) λv s1 h1=>bZ h1 λag s2 h2=>?_) hs;obtain⟨it,L,V,J,H2,e,I2,T,O,f2,W,⟨m0,w0⟩,turn⟩:=h2;subst e;let j:∀ {t:Hp},(∀b∈L,t b=none)->∀b∈L,mh X a t b:=λhn b l=>⟨hn b l,(f2 b l).2⟩
 show codeAny_forLoop_any (λn s'=>∃i B t,Inv X a B t s'/\V i s'.heap/\(∀b∈L,t b=none)/\W i n B t) ?_ m0 ⟨0,σ,H2,I2,O,λb l=>(f2 b l).1,w0⟩;rintro n s3 ⟨i,A,M,I3,E,K,w3⟩;rcases turn i n A M w3 with⟨C,qn⟩|⟨go,N,hN,step⟩
 . show Yu G (bZ (T.done X rfl rfl rfl hc i a s3 A M X.xe I3 (j K) E C) λr s4 ⟨Q,I4⟩=>?_);subst Q;show ZP ⟨A,M,I4,qn⟩
 . show Yu G (bZ (T.item X rfl rfl rfl hc i a s3 A M X.xe I3 (j K) E go) λr s4 ⟨u,Q,h4⟩=>?_);subst Q;show Yu G (bZ h4 λ_ Z ⟨x,H5,I5,r5,y5,z,R⟩=>?_);let S:=I5.pinned (j R) (T.obj _ _ z);show Yu G (bZ (hg _ Z A H5 x u _ S r5 (step x H5 y5)) λ_ s6 ⟨σ6,H6,I6,q6⟩=>?_);show Yu G (bZ (l _ s6 σ6 H6 _ I6 q6) λf P w=>?_)
   let again:∀ {c:St} {q:Hp},Inv X (a++tW L Z.heap) c q P->N c q->∃m,m<n/\∃i B t,Inv X a B t P/\V i P.heap/\(∀b∈L,t b=none)/\W i m B t:=λ{c q} p F=>by
    obtain⟨m',hm,w7⟩:=hN c q F;show⟨m',hm,i+1,c,q,p.ie,T.keep _ _ _ z λb l o e=>(p.pin (b,o) (We _ (We _ (nI l e)))).1,λb l=>?_,w7⟩;obtain⟨o,e,d⟩:=T.obj _ _ z b l;show(p.pin (b,o) (We _ (We _ (nI l e)))).2.1
   cases f with
   |next=>obtain⟨c,q,p,F⟩:=w;show again p F
   |cont=>obtain⟨c,q,p,F⟩:=w;show again p F
   |brk=>obtain⟨c,q,p,w⟩:=w;show⟨c,q,p.ie,w⟩
   |ret v=>obtain⟨x7,c,q,p,r7,w⟩:=w;show⟨x7,c,q,p.ie,r7,w⟩
end
def i4{lo:Int}{n:Nat}{g:TG}{h:TS}{D:Ends}{σ:St}{H:Hp}(Pv:Nat->St->Hp->Prop)(o:Pv 0 σ H)
 (hs:∀i σ H,i<n->Pv i σ H->g (.int (lo+i)) σ H λc f=>h {D with nx:=Pv (i+1),ct:=Pv (i+1),bk:=D.nx} c f) (l:∀σ H,Pv n σ H->D.nx σ H):
 ∃W:Nat->Nat->St->Hp->Prop,(∃m,W 0 m σ H)/\∀i m σ H,W i m σ H->
  ((zh lo n).stop i H/\D.nx σ H)\/((zh lo n).go i H/\∃N:St->Hp->Prop,(∀d b,N d b->∃j,j<m/\W (i+1) j d b)/\∀x b,(zh lo n).o4 i H x b->g x σ b λc f=>h {D with nx:=N,ct:=N,bk:=D.nx} c f):=by
 show⟨λi m σ H=>m=n-i/\i<=n/\Pv i σ H,⟨n,by simp,V3 _,o⟩,?_⟩;rintro i m σ H ⟨rfl,q,p⟩;by_cases a:i<n
 . show .inr ⟨a,Pv (i+1),λd b k=>⟨n-(i+1),by lia,rfl,a,k⟩,λx b y=>?_⟩;obtain⟨e,y⟩:=y;subst e y;show hs i σ _ a p
 . have e:i=n:=by lia
   subst e;show .inl ⟨VL _,l σ H p⟩
abbrev R2:=V->V->Hp->VK->Prop
def bU(X:Cx)(f:Value->Value->Sem Value)(r:R2):Prop:=
 ∀(a:List (Addr×Obj)) (s:Shared) (σ:St) (H:Hp) (x y:V) (v u:Value) (Q:VK),Inv X a σ H s->RelV x v->RelV y u->r x y H Q->
  wpAny (model X.prog X.w) X.A (f v u) (EP X a σ Q) X.xe s
def EF(X:Cx)(f:Value->Sem Value)(r:V->Hp->VK->Prop):Prop:=
 ∀(a:List (Addr×Obj)) (s:Shared) (σ:St) (H:Hp) (x:V) (v:Value) (Q:VK),Inv X a σ H s->RelV x v->r x H Q->
  wpAny (model X.prog X.w) X.A (f v) (EP X a σ Q) X.xe s
def bJ(X:Cx)(f:Value)(r:List V->Hp->VK->Prop):Prop:=
 ∀(a:List (Addr×Obj)) (s:Shared) (σ:St) (H:Hp) (xs:List V) (us:List Value) (Q:VK),Inv X a σ H s->Vals xs us->r xs H Q->
  wpAny (model X.prog X.w) X.A (call f us) (EP X a σ Q) X.xe s
def GZ(r:R2)(b a:TE):TE:=λσ H Q=>b σ H λx H1=>a σ H1 λy c=>r x y c Q
def T7(r:V->Hp->VK->Prop)(a:TE):TE:=λσ H Q=>a σ H λx H1=>r x H1 Q
def rI(C:Int->Int->Prop)(g:Int->Int->V):R2:=λx y H Q=>∃i j,x= .int i/\y= .int j/\C i j/\Q (g i j) H
def wC(g:Int->Int->V):R2:=λx y H Q=>∃i j,x= .int i/\y= .int j/\Q (g i j) H
def rU(g:Int->V):V->Hp->VK->Prop:=λx H Q=>∃i,x= .int i/\Q (g i) H
section
variable {X:Cx}{a b c:Expr}{ta tb tc:TE}{pos:Pos}
def K8(q:PE X a ta)(p:PE X b tb){pins:List (Addr×Obj)}{s:Shared}{σ:St}{H:Hp}{R:V->V->Hp->Prop}(I:Inv X pins σ H s)
 (h:ta σ H λx H1=>tb σ H1 λy d=>R x y d) {Q:Value->Shared->Prop} {f:Value->Value->Sem Value}
 (o:∀v u e x y d,Inv X pins σ d e->RelV x v->RelV y u->R x y d->wpAny (model X.prog X.w) X.A (f v u) Q X.xe e):
 wpAny (model X.prog X.w) X.A (eval a X.env) (λv i=>wpAny (model X.prog X.w) X.A (eval b X.env) (λu g=>wpAny (model X.prog X.w) X.A (f v u) Q X.xe g) X.xe i) X.xe s:=by
 show bZ (q pins s σ H _ I h) λv j ⟨x,H1,t,l,n⟩=>?_;show bZ (p pins j σ H1 _ t n) λu e ⟨y,d,r,k,m⟩=>?_;show o v u e x y d r l k m
def RC(i:bU X (binaryOp op) r)(k:PE X a ta)(j:PE X b tb):PE X (.BinOp a op b pos) (GZ r ta tb):=by
 intro d s σ H Q I h;show wpAny_BinOp (K8 k j I h λv u e x y m l g f q=>i d e σ m x y v u Q l g f q)
def Tc(i:EF X (unaryOp op) r)(j:PE X a ta):PE X (.UnaryOp op a pos) (T7 r ta):=by
 intro d s σ H Q I h;show UnaryOp_ (bZ (j d s σ H _ I h) λv e ⟨x,H1,k,f,g⟩=>i d e σ H1 x v Q k f g)
def Mt{f:Value->Value->Sem Value}{g:Int->Int->Int}
 (d:∀(i j:Int) (t u:Tok) (s:Shared) (Q:Value->Shared->Prop) (E:Value->Shared->Prop),C i j->Q (.int (g i j) s.toks) {s with toks:=s.toks+1}->wpAny (model X.prog X.w) X.A (f (.int i t) (.int j u)) Q E s):
 bU X f (rI C λi j=> .int (g i j)):=by
 intro e s σ H x y v u Q I m l h;obtain⟨i,j,rfl,rfl,n,q⟩:=h;obtain⟨t,rfl⟩:=m;obtain⟨k,rfl⟩:=l;show d i j t k s _ _ n ⟨.int (g i j),H,I.tok _,⟨_,rfl⟩,q⟩
def Qr{f:Value->Value->Sem Value}{g:Int->Int->Int}
 (d:∀(i j:Int) (t u:Tok) (s:Shared) (Q:Value->Shared->Prop) (E:Value->Shared->Prop),Q (.int (g i j) s.toks) {s with toks:=s.toks+1}->wpAny (model X.prog X.w) X.A (f (.int i t) (.int j u)) Q E s):
 bU X f (wC λi j=> .int (g i j)):=by
 intro e s σ H x y v u Q I m l h;obtain⟨i,j,rfl,rfl,q⟩:=h;obtain⟨t,rfl⟩:=m;obtain⟨k,rfl⟩:=l;show d i j t k s _ _ ⟨.int (g i j),H,I.tok _,⟨_,rfl⟩,q⟩
def Gw{f:Value->Value->Sem Value}{g:Int->Int->Bool}
 (d:∀(i j:Int) (t u:Tok) (s:Shared) (Q:Value->Shared->Prop) (E:Value->Shared->Prop),Q (.bool (g i j)) s->wpAny (model X.prog X.w) X.A (f (.int i t) (.int j u)) Q E s):
 bU X f (wC λi j=> .bl (g i j)):=by
 intro e s σ H x y v u Q I m l h;obtain⟨i,j,rfl,rfl,q⟩:=h;obtain⟨t,rfl⟩:=m;obtain⟨k,rfl⟩:=l;show d i j t k s _ _ ⟨.bl (g i j),H,I,rfl,q⟩
def Kb(i j:Int):Prop:=0<=j/\j<=1000000/\i.natAbs<2^64
def Qm:bU X (binaryOp .Add) (wC λi j=> .int (i+j)):=Qr λ_ _ _ _ _ _ _ q=>add_int q
def Pa:bU X (binaryOp .Sub) (wC λi j=> .int (i-j)):=Qr λ_ _ _ _ _ _ _ q=>sub_int q
def Nt:bU X (binaryOp .Mod) (rI (λ_ j=>j≠0) λi j=> .int (i.fmod j)):=Mt λ_ _ _ _ _ _ _ d q=>mod_int' d q
def QZ:bU X (binaryOp .Pow) (rI Kb λi j=> .int (i^j.toNat)):=Mt λ_ _ _ _ _ _ _ d q=>pow_int_small d.1 d.2.1 d.2.2 q
def Vd{f:Value->Sem Value}{g:Int->Int}
 (d:∀(i:Int) (t:Tok) (s:Shared) (Q:Value->Shared->Prop) (E:Value->Shared->Prop),Q (.int (g i) s.toks) {s with toks:=s.toks+1}->wpAny (model X.prog X.w) X.A (f (.int i t)) Q E s):
 EF X f (rU λi=> .int (g i)):=by
 intro e s σ H x v Q I j h;obtain⟨i,rfl,q⟩:=h;obtain⟨t,rfl⟩:=j;show d i t s _ _ ⟨.int (g i),H,I.tok _,⟨_,rfl⟩,q⟩
def PX:EF X (unaryOp .USub) (rU λi=> .int (-i)):=Vd λ_ _ _ _ _ q=>neg_int q
end
def UO:V->V->Bool
 | .az,.az=>true| .az,.int _=>true| .int _,.az=>true| .az,.bl _=>true| .bl _,.az=>true| .az,.str _=>true| .str _,.az=>true
 | .int _,.int _=>true| .bl _,.bl _=>true| .str _,.str _=>true| .u7 _,.u7 _=>true
 | .int _,.str _=>true| .str _,.int _=>true| .bl _,.str _=>true| .str _,.bl _=>true
 |_,_=>false
def Vn:R2:=λx y H Q=>UO x y=true/\Q (.bl (!decide (x=y))) H
def N9:decide (V.int i=V.int j)=(i==j):=by
 rw[ZQ];simp
def Qe:decide (V.bl i=V.bl j)=(i==j):=by
 rw[ZQ];simp
def NF:decide (V.str i=V.str j)=(i==j):=by
 rw[ZQ];simp
def OT{i j:Array UInt8}:decide (V.u7 i=V.u7 j)=(i.toList==j.toList):=by
 rw[ZQ];cases i;cases j;simp
section
variable {X:Cx}{a b c:Expr}{ta tb tc:TE}{pos:Pos}
def fo{pins:List (Addr×Obj)}{σ:St}{H:Hp}{s:Shared}{Q:VK}{k d:Bool}(I:Inv X pins σ H s)(q:Q (.bl k) H)(e:k=d):EP X pins σ Q (.bool d) s:=by
 subst e;show⟨.bl k,H,I,rfl,q⟩
def Tv:bU X (compareOp .NotEq) Vn:=by
 intro k s σ H x y v u Q I g d h;obtain⟨f,q⟩:=h;cases x with
 |az=>
  cases g;cases y with
  |az=>cases d;show PySem.EqNone.ne_none_none (fo I q (by simp))
  |bl j=>cases d;show PySem.EqNone.ne_none_bool (fo I q (by simp))
  |int j=>obtain⟨e,rfl⟩:=d;show PySem.EqNone.ne_none_int (fo I q (by simp))
  |str j=>obtain⟨e,rfl⟩:=d;show PySem.EqNone.ne_none_str (fo I q (by simp))
  |_=>show absurd (show false=true from f) WD
 |bl i=>
  cases g;cases y with
  |az=>cases d;show PySem.EqNone.ne_bool_none (fo I q (by simp))
  |bl j=>cases d;show ne_bool (fo I q (XB not Qe))
  |str j=>obtain⟨e,rfl⟩:=d;show PySem.EqMixed.ne_bool_str (fo I q (by simp))
  |_=>show absurd (show false=true from f) WD
 |int i=>
  obtain⟨t,rfl⟩:=g;cases y with
  |az=>cases d;show PySem.EqNone.ne_int_none (fo I q (by simp))
  |int j=>obtain⟨e,rfl⟩:=d;show ne_int (fo I q (XB not N9))
  |str j=>obtain⟨e,rfl⟩:=d;show PySem.EqMixed.ne_int_str (fo I q (by simp))
  |_=>show absurd (show false=true from f) WD
 |str i=>
  obtain⟨t,rfl⟩:=g;cases y with
  |az=>cases d;show PySem.EqNone.ne_str_none (fo I q (by simp))
  |bl j=>cases d;show PySem.EqMixed.ne_str_bool (fo I q (by simp))
  |int j=>obtain⟨e,rfl⟩:=d;show PySem.EqMixed.ne_str_int (fo I q (by simp))
  |str j=>obtain⟨e,rfl⟩:=d;show ne_str (fo I q (XB not NF))
  |_=>show absurd (show false=true from f) WD
 |u7 i=>
  obtain⟨t,rfl⟩:=g;cases y with
  |u7 j=>obtain⟨e,rfl⟩:=d;show PySem.W.ne_bytes (fo I q (XB not OT))
  |_=>show absurd (show false=true from f) WD
 |_=>cases y<;>show absurd (show false=true from f) WD
def Tf:bU X (compareOp .Lt) (wC λi j=> .bl (decide (i<j))):=Gw λ_ _ _ _ _ _ _ q=>lt_int q
def RE:bU X (compareOp .LtE) (wC λi j=> .bl (decide (i<=j))):=Gw λ_ _ _ _ _ _ _ q=>le_int q
def Sb:bU X (compareOp .Gt) (wC λi j=> .bl (decide (j<i))):=Gw λ_ _ _ _ _ _ _ q=>gt_int q
def Sw:bU X (compareOp .GtE) (wC λi j=> .bl (decide (j<=i))):=Gw λ_ _ _ _ _ _ _ q=>ge_int q
def OY:bU X (compareOp .Is) (λx y H Q=>y= .az/\Q (.bl (decide (x= .az))) H):=by
 intro e s σ H x y v u Q I d f h;obtain⟨rfl,q⟩:=h;cases f;show is_none_gen (fo I q ?_)
 cases x<;>first
  |(cases d;rfl)
  |(obtain⟨t,rfl⟩:=d;rfl)
def NQ:bU X (compareOp .IsNot) (λx y H Q=>y= .az/\Q (.bl (!decide (x= .az))) H):=by
 intro e s σ H x y v u Q I d f h;obtain⟨rfl,q⟩:=h;cases f;show isnot_none_gen (fo I q ?_)
 cases x<;>first
  |(cases d;rfl)
  |(obtain⟨t,rfl⟩:=d;rfl)
def eO(b:Expr)(h:op≠ .In:=by decide)(d:op≠ .NotIn:=by decide):behindInMarks op b=false:=by
 let f:(op==CmpOp.In)=false:=by cases op<;>first|rfl|show absurd rfl h
 let e:(op==CmpOp.NotIn)=false:=by cases op<;>first|rfl|show absurd rfl d
 cases b<;>simp[behindInMarks,f,e]
def Oy(i:bU X (compareOp op) r)(l:PE X a ta)(k:PE X b tb)(j:behindInMarks op b=false):PE X (.Compare a [op] [b] pos) (GZ r ta tb):=by
 intro d s σ H Q I h;show wpAny_Compare1 (K8 l k I h λv u e x y n m g f q=>i d e σ n x y v u Q m g f q) j
def So(t:TE):TT:=λσ H Q=>t σ H λx d=>∃k,x= .bl k/\Q k d
def NP(p:bU X (compareOp op) r)(w:PE X a ta)(t:PE X b tb)(q:behindInMarks op b=false):PT X (.Compare a [op] [b] pos) (So (GZ r ta tb)):=by
 intro d s σ H Q I h
 show wpAny_isTrue_Compare1 (bZ (w d s σ H _ I h) λv g ⟨x,H1,C,l,o⟩=>bZ (t d g σ H1 _ C o) λu f ⟨y,E,B,j,n⟩=>
  bZ (p d f σ E x y v u _ B l j n) λc F ⟨z,D,A,i,k,e,m⟩=>?_) q
 subst e;cases i;show Yz ⟨D,A,m⟩
def tE:(sizeLine:Nat)<2^63:=by rw[XT];decide
def E9:bU X (binaryOp .Add) (λx y H Q=>∃i j,x= .str i/\y= .str j/\i.length+j.length<=sizeLine/\Q (.str (i++j)) H):=by
 intro d s σ H x y v u Q I g f h;obtain⟨i,j,rfl,rfl,k,q⟩:=h;obtain⟨t,rfl⟩:=g;obtain⟨e,rfl⟩:=f;show add_str (λe tk=>⟨.str (i++j),H,I.tok _,⟨_,rfl⟩,q⟩) k
def vals1(r:Vals [x] us):∃u,us=[u]/\RelV x u:=by
 cases r with
 |cons e d=>cases d;show⟨_,rfl,e⟩
def vals2(r:Vals [x,y] us):∃u d,us=[u,d]/\RelV x u/\RelV y d:=by
 cases r with
 |cons h g=>
  cases g with
  |cons f e=>cases e;show⟨_,_,rfl,h,f⟩
def J_:bJ X (.builtin "abs") (λxs H Q=>∃i,xs=[.int i]/\Q (.int (if i<0 then-i else i)) H):=by
 intro d s σ H xs e Q I r h;obtain⟨i,rfl,q⟩:=h;obtain⟨u,rfl,t,rfl⟩:=vals1 r;show call_abs_int λu tk=>⟨.int (if i<0 then-i else i),H,I.tok _,⟨_,rfl⟩,q⟩
def HZ(f:X.calm=true):bJ X (.builtin "max") (λxs H Q=>∃i j,xs=[.int i,.int j]/\Q (.int (if j>i then j else i)) H):=by
 intro e s σ H xs l Q I r h;obtain⟨i,j,rfl,q⟩:=h;obtain⟨u,g,rfl,⟨t,rfl⟩,⟨m,rfl⟩⟩:=vals2 r;show max_two_ints (I.ok.hd f) λn tk k=>⟨_,H,I.kept k,?_,q⟩
 by_cases d:j>i
 . rw[VN d,VN d];show⟨_,rfl⟩
 . rw[VM d,VM d];show⟨_,rfl⟩
def GN(f:X.calm=true):bJ X (.builtin "min") (λxs H Q=>∃i j,xs=[.int i,.int j]/\Q (.int (if j<i then j else i)) H):=by
 intro e s σ H xs l Q I r h;obtain⟨i,j,rfl,q⟩:=h;obtain⟨u,g,rfl,⟨t,rfl⟩,⟨m,rfl⟩⟩:=vals2 r;show min_two_ints (I.ok.hd f) λn tk k=>⟨_,H,I.kept k,?_,q⟩
 by_cases d:j<i
 . rw[VN d,VN d];show⟨_,rfl⟩
 . rw[VM d,VM d];show⟨_,rfl⟩
def Ib:bJ X (.type "int") (λxs H Q=>(∃i,xs=[.int i]/\Q (.int i) H)\/∃k,xs=[.bl k]/\Q (.int (if k then 1 else 0)) H):=by
 intro d s σ H xs f Q I r h;rcases h with⟨i,rfl,q⟩|⟨k,rfl,q⟩
 . obtain⟨u,rfl,t,rfl⟩:=vals1 r;show call_int_int ⟨.int i,H,I,⟨_,rfl⟩,q⟩
 . obtain⟨u,rfl,e⟩:=vals1 r;cases e;show call_int_bool ⟨.int (if k then 1 else 0),H,I.tok _,⟨_,rfl⟩,q⟩
end
structure wc(h:Heap)(x dx C:Addr)(mA:Str->Option Value):Prop where
 obj:h.get? x=some (PySem.W.instObj C dx)
 ns:h.Ns1 dx mA
 ne:dx≠x
def ID{h:Heap}{g:Addr}{d:Str->Option Value}(n:h.Ns1 g d):∃c,h.get? g=some c/\∀name,PySem.W.lookIn name c=some (d name):=by
 obtain⟨o,f,r,j,m,l,_,k⟩:=n;show⟨o,j,λname=>?_⟩;let e:=k name;unfold nsFind findBy at e;rw[<-Array.find?_toList]at e;unfold PySem.W.lookIn;rw[m];dsimp only;split
 . rename_i y q;rw[q]at e;show XB some e
 . rename_i q;rw[q]at e
   let a:f.toList.any (·.refKey)=false:=by
    rw[List.any_eq_false];intro y i;obtain⟨z,t,b⟩:=l y (Yg.mp i);simp[DictEntry.refKey,b]
   let p:¬f.toList.any (·.refKey)=true:=by rw[a];show WD
   rw[VM p];show XB some e
def wc.look{b:Str->Option Value}(I:wc h x c C b):∃a,PySem.W.InstAt h x (PySem.W.instObj C c) C (some a)/\∀name,PySem.W.lookIn name a=some (b name):=
 let⟨a,ho,hl⟩:=ID I.ns
 ⟨a,⟨I.obj,rfl,rfl,ho⟩,hl⟩
section
variable {prog:Program}{w:World}{A:Around}{E:Value->Shared->Prop}{s:Shared}{K:PySem.W.Frag}{x dx C f:Addr}{mA:Str->Option Value}{name:Str}{v:Value}
def get_map(X:K.In s.heap)(I:wc s.heap x dx C mA)(g:PySem.W.plainGet K C name=true)(e:PySem.W.hasDictIn K C=true)
 (i:PySem.W.findIn K (.ref C) name=some none) (c:mA name=some v) (b:PySem.W.handedIn v=true) (h:Q v {s with toks:=s.toks+1}):
 wpAny (model prog w) A (getAttr (.ref x) name a) Q E s:=by
 obtain⟨j,J,d⟩:=I.look;show PySem.W.get_value X J (aaa g).1 (PySem.W.findObj_own e i rfl (by rw[d,c])) b h
def Ka{pl:Sem Bool}(X:K.In s.heap)(I:wc s.heap x dx C mA)(a:PySem.W.plainGet K C name=true)
 (g:PySem.W.findIn K (.ref C) name=some (some (.ref f))) (d:PySem.W.isFn K (.ref f)=true) (c:mA name=none) (h:Q (.ref f,[.ref x]) s):
 wpAny (model prog w) A (getMethod (.ref x) name pl) Q E s:=by
 obtain⟨b,J,e⟩:=I.look;show PySem.W.method_fn X J (aaa a).1 (aaa a).2 g (XM.mp d) (by change(PySem.W.lookIn name b).map (·.isSome)=some false;rw[e,c];rfl) h
def iz{ns:List Str}(X:K.In s.heap)(I:wc s.heap x dx C mA)
 (hs:PySem.W.findIn K (.ref C) "__setattr__"=some (some (.builtin "object.__setattr__"))) (o:PySem.W.plainOver K C=true) (m:PySem.W.takerIn K C name=some none) (p:PySem.W.hasDictIn K C=true)
 (l:PySem.Within mA ns) (n:ns.length<=sizeLine)
 (h:∀h',wc h' x dx C (λy=>if y=name then some v else mA y)->Heap.SameBut dx s.heap h'->Q () {s with heap:=h',toks:=s.toks+2}):
 wpAny (model prog w) A (setAttr (.ref x) name v) Q E s:=by
 obtain⟨z,J,D⟩:=I.look;show PySem.W.set_plain X J hs (PySem.W.osa_open (s:={s with toks:=s.toks+1}) (r:=none) X J o m λb=>?_);obtain⟨F,q,i⟩:=PySem.W.any_some p;let k:s.heap.get? x=some ⟨.ref C,some dx,.plain,#[]⟩:=I.obj;show VG (VQ (VG (VG (wpAny_loadPart k (VG (PySem.W.Looks.here (s:={s with toks:=s.toks+1}) (PySem.W.looks_clsIn X q) ?_))))));rw[i];show VQ (a:=some dx) (VG (VQ (VG ?_)));show wpAny_nsSet1 (s:={s with toks:=s.toks+1}) I.ns λh' d c=>?_;obtain⟨B,t,u,e,g,j⟩:=d.count (PySem.Within.cons name v l);show VG (wpAny_lookBehind e (by rw[g];show pastItsLine_dict (VU j (by rw[Wl];lia))) ?_);show VQ (h _ ⟨(c.2 _ (VO I.ne)).trans I.obj,d,I.ne⟩ c)
def K_(X:K.In s.heap)(c:PySem.W.makesIn K C=true)
 (e:PySem.W.findIn K (.ref C) "__init__"=some (some (.ref f))) (i:PySem.W.typeIn K (.ref f)=some (.type "function"))
 (h:codeAny (model prog w) (A.under (.builtin "type.__call__" ⟨.ref C::vs,b⟩)) (.call (.ref f) ⟨.ref (s.heap.objs.size+1)::vs,b⟩) (PySem.W.InitBack (s.heap.objs.size+1) R)
   {s with heap:=(s.heap.push PySem.W.emptyDict).push (PySem.W.instObj C s.heap.objs.size)}):
 codeAny (model prog w) A (.call (.ref C) ⟨vs,b⟩) R s:=by
 obtain⟨k,g,d,t,j⟩:=s;show PySem.W.make_core (PySem.W.makes_of X c) (PySem.W.looks_findIn X e) (λa=>PySem.W.bind_fn X a i) (.inl rfl) h
end
def g7(f:Str)(v:V):List (Str×V)->List (Str×V)
 | []=>[(f,v)]
 |(g,x)::r=>if g=f then(g,v)::r else(g,x)::g7 f v r
def uT(f g:Str)(v:V):∀fs:List (Str×V),(g7 f v fs).lookup g=if g=f then some v else fs.lookup g
 | []=>by
   change List.lookup g [(f,v)]=_;by_cases h:g=f
   . have a:(g==f)=true:=XM.mpr h;simp![List.lookup,a,VN h]
   . have a:(g==f)=false:=Ym.mpr h;simp![List.lookup,a,VM h]
 |(k,x)::r=>by
  let c:=uT f g v r;rw[show g7 f v ((k,x)::r)=(if k=f then(k,v)::r else(k,x)::g7 f v r)from rfl];by_cases b:k=f
  . rw[VN b];by_cases h:g=k
    . have a:(g==k)=true:=XM.mpr h;simp![List.lookup,a,VN (h.trans b)]
    . have a:(g==k)=false:=Ym.mpr h;simp![List.lookup,a,VM (λe:g=f=>h (e.trans b.symm))]
  . rw[VM b];by_cases h:g=k
    . have a:(g==k)=true:=XM.mpr h;simp![List.lookup,a,VM (λe:g=f=>b (h.symm.trans e))]
    . have a:(g==k)=false:=Ym.mpr h;simp![List.lookup,a];show c
def sM(f:Str)(v:V):∀fs:List (Str×V),f∈(g7 f v fs).map (·.1)/\∀g,g∈fs.map (·.1)->g∈(g7 f v fs).map (·.1)
 | []=>⟨by simp[g7],λg h=>by simp at h⟩
 |(k,x)::r=>by
  obtain⟨c,b⟩:=sM f v r;rw[show g7 f v ((k,x)::r)=(if k=f then(k,v)::r else(k,x)::g7 f v r)from rfl];by_cases a:k=f
  . rw[VN a];subst a;show⟨by simp,λg h=>by simpa using h⟩
  . rw[VM a];show⟨?_,λg h=>?_⟩
    . rw[Wq];show VZ _ c
    . rw[Wq]at h⊢;rcases V8.mp h with e|e
      . show V8.mpr (.inl e)
      . show VZ _ (b g e)
def va(f:Str)(v:V):∀fs:List (Str×V),(g7 f v fs).length<=fs.length+1
 | []=>by simp[g7]
 |(k,x)::r=>by
  let b:=va f v r;rw[show g7 f v ((k,x)::r)=(if k=f then(k,v)::r else(k,x)::g7 f v r)from rfl];by_cases a:k=f
  . rw[VN a,Wl,Wl];lia
  . rw[VM a,Wl,Wl];lia
def pN.some_of(r:pN (some v) o):∃u,o=some u/\RelV v u:=by
 cases o with
 |none=>show(show False from r).elim
 |some u=>show⟨u,rfl,r⟩
def pN.none_of(r:pN none o):o=none:=by
 cases o with
 |none=>rfl
 |some u=>show(show False from r).elim
def Jf(r:RelV v u):PySem.W.handedIn u=true:=by
 cases v with
 |az=>cases (show u=Value.none from r);rfl
 |bl b=>cases (show u=Value.bool b from r);rfl
 |int i=>obtain⟨t,e⟩:=(show∃t,u=Value.int i t from r);cases e;rfl
 |str x=>obtain⟨t,e⟩:=(show∃t,u=Value.str x t from r);cases e;rfl
 |u7 b=>obtain⟨t,e⟩:=(show∃t,u=Value.bytes b t from r);cases e;rfl
 |vc b=>obtain⟨t,e⟩:=(show∃t,u=Value.float b t from r);cases e;rfl
 |ref a=>cases (show u=Value.ref a from r);rfl
 |ty n=>cases (show u=Value.type n from r);rfl
section
variable {P:Program}{w:World}{H H':Hp}{h h':Heap}{a C dx:Addr}{fs fs':List (Str×V)}
def qc(i:iu P w H h)(e:H a=some (.ins C dx fs)):∃b,wc h a dx C b/\(∀f,pN (fs.lookup f) (b f))/\PySem.Within b (fs.map (·.1))/\fs.length<=1000/\H dx=some (.own a):=by
 obtain⟨d,z,g,c,b,n,r,q⟩:=(show dm P w H h a (.ins C dx fs)from i a _ e)
 show⟨b,⟨c,n,g⟩,r,q,z,d⟩
end
structure mX(K:PySem.W.Frag)(C:Addr):Prop where
 pg:PySem.W.plainGet K C Str.empty=true
 hd:PySem.W.hasDictIn K C=true
 po:PySem.W.plainOver K C=true
 sa:PySem.W.findIn K (.ref C) "__setattr__"=some (some (.builtin "object.__setattr__"))
def mX.get{K:PySem.W.Frag}{C:Addr}(c:mX K C)(f:Str):PySem.W.plainGet K C f=true:=c.pg
def d4(K:PySem.W.Frag)(C:Addr)(f:Str):Prop:=PySem.W.findIn K (.ref C) f=some none
def d4.RT{K:PySem.W.Frag}{C:Addr}{f:Str}(n:d4 K C f):PySem.W.takerIn K C f=some none:=by
 unfold PySem.W.takerIn;rw[show PySem.W.findIn K (.ref C) f=some none from n];rfl
structure Meth(K:PySem.W.Frag)(C:Addr)(m:Str)(f:Addr):Prop where
 at_:PySem.W.findIn K (.ref C) m=some (some (.ref f))
 fn:PySem.W.isFn K (.ref f)=true
 kp:PySem.W.keepIn K (.ref f)=true
section
variable {X:Cx}{pins:List (Addr×Obj)}{σ:St}{H:Hp}{s:Shared}{a C dx:Addr}{fs:List (Str×V)}{f:Str}{v:V}{A:Around}{E:Value->Shared->Prop}
def F3(I:Inv X pins σ H s)(e:H a=some (.ins C dx fs))(c:mX X.K C)(n:d4 X.K C f)(l:fs.lookup f=some v)
 (h:∀u s',Inv X pins σ H s'->RelV v u->Q u s'):wpAny (model X.prog X.w) A (getAttr (.ref a) f b) Q E s:=by
 obtain⟨g,O,r,_,_,_⟩:=qc I.aH e;obtain⟨u,i,d⟩:=pN.some_of (v:=v) (o:=g f) (by rw[<-l];show r f);show get_map I.g9 O (c.get f) c.hd n i (Jf d) (h u _ (I.tok _) d)
def wI{g:Addr}{pl:Sem Bool}(I:Inv X pins σ H s)(e:H a=some (.ins C dx fs))(c:mX X.K C)(k:Meth X.K C m g)(l:fs.lookup m=none)
 (h:Q (.ref g,[.ref a]) s):wpAny (model X.prog X.w) A (getMethod (.ref a) m pl) Q E s:=by
 obtain⟨b,O,r,_,_,_⟩:=qc I.aH e;let d:b m=none:=pN.none_of (by rw[<-l];show r m);show Ka I.g9 O (c.get m) k.at_ k.fn d h
def FP(I:Inv X pins σ H s)(e:H a=some (.ins C dx fs))(c:mX X.K C)(n:d4 X.K C f)(F:fs.length<1000)(m:RelV y u)
 (h:∀s',Inv X pins σ (upd H a (.ins C dx (g7 f y fs))) s'->Q () s'):wpAny (model X.prog X.w) A (setAttr (.ref a) f u) Q E s:=by
 obtain⟨j,O,r,i,_,k⟩:=qc I.aH e;let p:(fs.map (·.1)).length<=sizeLine:=by rw[VH,XT];lia
 show iz I.g9 O c.sa c.po n.RT c.hd i p λD d l=>h _ ?_;let w:∃o,D.get? dx=some o:=let⟨o,_,_,e',_⟩:=d.ns;⟨o,e'⟩
 show I.write (x:=a) (e:=dx) (by rw[e];show True.intro) (.inr k) (λb q B z=>(l.2 b B).trans z) w ?_;show⟨by rw[aB O.ne];show k,?_,O.ne,d.obj,_,d.ns,λg=>?_,λg t=>?_⟩
 . have:=va f y fs;lia
 . change pN ((g7 f y fs).lookup g) (if g=f then some u else j g);rw[uT];by_cases q:g=f
   . rw[VN q,VN q];show m
   . rw[VM q,VM q];show r g
 . by_cases q:g=f
   . rw[q];show(sM f y fs).1
   . show(sM f y fs).2 g (i g λz=>t ?_);change(if g=f then some u else j g)=none;rw[VM q];show z
def Inv.made(I:Inv X pins σ H s):Inv X pins σ (upd (upd H s.heap.objs.size (.own (s.heap.objs.size+1))) (s.heap.objs.size+1) (.ins C s.heap.objs.size []))
 {s with heap:=(s.heap.push PySem.W.emptyDict).push (PySem.W.instObj C s.heap.objs.size)}:=by
 let d:(s.heap.push PySem.W.emptyDict).get? s.heap.objs.size=some PySem.W.emptyDict:=V4 s.heap rfl
 let j:((s.heap.push PySem.W.emptyDict).push (PySem.W.instObj C s.heap.objs.size)).get? (s.heap.objs.size+1)=some (PySem.W.instObj C s.heap.objs.size):=by
  let:=V4 (s.heap.push PySem.W.emptyDict) (o:=PySem.W.instObj C s.heap.objs.size) rfl;rwa [WG]at this
 let i:(s.heap.push PySem.W.emptyDict).Ns s.heap.objs.size (λ_=>none):=⟨PySem.W.emptyDict,#[],_,d,rfl,(λe h=>absurd h (by simp)),λ_=>rfl⟩
 let k:=I.laid (a:=s.heap.objs.size) (o:= .own (s.heap.objs.size+1)) (h':=s.heap.push PySem.W.emptyDict) (t':=s.toks) (λb u q=>VJ _ q) (VL _) ⟨_,d⟩;show k.laid (a:=s.heap.objs.size+1) (o:= .ins C s.heap.objs.size []) (t':=s.toks) (λb u q=>VJ _ q) (ZR (WG _ _)) ?_;let c:s.heap.objs.size≠s.heap.objs.size+1:=Wb (Wj _);show⟨by rw[aB c,aW],V3 _,c,j,λ_=>none,(Heap.Ns1.of_empty i).at λo q=>VJ _ q,λ_=>True.intro,λy g=>absurd rfl g⟩
def OD{e:Expr}{f:Str}{s:Shared}(c:attributeBase e f env (eval e env)=eval e env)
 (h:wpAny (model prog w) A (eval e env) (λo b=>wpAny (model prog w) A (getAttr o f true) Q E b) E s):wpAny (model prog w) A (eval (.Attribute e f pos) env) Q E s:=
 Attribute_any_ h (by rw[arm_eval_Attribute,c])
end
def Uj(K:PySem.W.Frag)(b:TE)(f:Str):TE:=λσ H Q=>b σ H λx H1=>∃a C c fs v,x= .ref a/\H1 a=some (.ins C c fs)/\mX K C/\d4 K C f/\fs.lookup f=some v/\Q v H1
def Up(K:PySem.W.Frag)(e d:TE)(f:Str):TS:=λD σ H=>d σ H λy H1=>e σ H1 λx c=>∃a C b fs,x= .ref a/\c a=some (.ins C b fs)/\mX K C/\d4 K C f/\fs.length<1000/\
 D.nx σ (upd c a (.ins C b (g7 f y fs)))
section
variable {X:Cx}{o e value:Expr}{f:Str}{pos pos' tpos:Pos}{ta tv:TE}
def Qz(i:PE X e ta)(j:attributeBase e f X.env (eval e X.env)=eval e X.env):PE X (.Attribute e f pos) (Uj X.K ta f):=by
 intro b s σ H Q I h;show OD j (bZ (i b s σ H _ I h) λu y ⟨x,H1,r,d,a,C,z,fs,v,k,m,c,n,l,q⟩=>?_);subst k;obtain rfl:u=Value.ref a:=d;show F3 r m c n l λt w p g=>⟨v,H1,p,g,q⟩
def Pk(p:PE X o ta)(m:PE X value tv)(hs:swapsWith value (some (.Attribute o f pos')) pos.line X.env=pure false):PS X (.Assign [.Attribute o f pos'] value pos) (Up X.K ta tv f):=by
 intro b s σ H D I h;show plainObj_wpAny_Assign_Attribute (bZ (m b s σ H _ I h) λu d ⟨y,H1,z,g,q⟩=>bZ (p b d σ H1 _ z q) λk B ⟨x,F,w,i,a,C,E,fs,r,t,c,n,l,j⟩=>?_) hs;subst r;obtain rfl:k=Value.ref a:=i;show FP w t c n l g λA v=>⟨σ,_,v,j⟩
end
section
variable {X:Cx}{pins:List (Addr×Obj)}{σ:St}{H:Hp}{s:Shared}{A:Around}{E:Value->Shared->Prop}{Q:Value->Shared->Prop}{c:Value}{b:Bool}
inductive jP(K:PySem.W.Frag)(H:Hp):V->Value->Prop where
 |az:jP K H .az (.type "NoneType")
 |bl (x:Bool):jP K H (.bl x) (.type "bool")
 |int (i:Int):jP K H (.int i) (.type "int")
 |str (x:Str):jP K H (.str x) (.type "str")
 |vc (x:UInt64):jP K H (.vc x) (.type "float")
 |lst {a:Addr} {xs:List V} (e:H a=some (.lst xs)):jP K H (.ref a) (.type "list")
 |gI {a:Addr} {o:Obj} {xs:List V} (e:H a=some (.gI o (.lst xs))):jP K H (.ref a) (.type "list")
 |tup {a:Addr} {xs:List V} (e:H a=some (.tup xs)):jP K H (.ref a) (.type "tuple")
 |dK {a:Addr} {kvs:List (Key×V)} (e:H a=some (.dK kvs)):jP K H (.ref a) (.type "dict")
 |dT {a:Addr} {kvs:List (List Key×V)} (e:H a=some (.dT kvs)):jP K H (.ref a) (.type "dict")
 |ins {a C dx:Addr} {fs:List (Str×V)} (e:H a=some (.ins C dx fs)) (cl:mX K C) (ha:PySem.W.findIn K (.ref C) "__class__"=some (some (.builtin "object.__class__")))
   (hn:PySem.W.specialIn K (.builtin "object.__class__") "__get__"=some (some (.builtin "getset_descriptor.__get__"))) (htk:PySem.W.takesIn K (.builtin "object.__class__")=some true)
   (hm:PySem.W.mroIn K C (.type "object")=some true):jP K H (.ref a) (.ref C)
def HA(I:Inv X pins σ H s)(d:RelV x u)(r:jP X.K H x t)(e:PySem.W.kitOne X.K t c=some b)(h:∀tk,Q (.bool b) {s with toks:=tk}):
 wpAny (model X.prog X.w) A (call (.builtin "isinstance") [u,c]) Q E s:=by
 cases r with
 |az=>cases (show u=Value.none from d);show Xu PySem.W.kitx_none I.g9 True.intro e (λz=>nomatch z) h
 |bl y=>cases (show u=Value.bool y from d);show Xu PySem.W.kitx_bool I.g9 True.intro e (λz=>nomatch z) h
 |int i=>obtain⟨t,q⟩:=(show∃t,u=Value.int i t from d);cases q;show Xu PySem.W.kitx_int I.g9 True.intro e (λz=>nomatch z) h
 |str y=>obtain⟨t,q⟩:=(show∃t,u=Value.str y t from d);cases q;show Xu PySem.W.kitx_str I.g9 True.intro e (λz=>nomatch z) h
 |vc y=>obtain⟨t,q⟩:=(show∃t,u=Value.float y t from d);cases q;show Xu PySem.W.kitx_float I.g9 True.intro e (λz=>nomatch z) h
 | @lst a k f=>
   cases (show u=Value.ref a from d);obtain⟨_,_,n,_,g⟩:=(show dm X.prog X.w H s.heap a (.lst k)from I.aH a _ f)
   show Xu Zs I.g9 ⟨_,g,rfl⟩ e (λz=>nomatch z) h
 | @gI a v k f=>
   cases (show u=Value.ref a from d);obtain⟨_,_,_,n,_,g⟩:=(show dm X.prog X.w H s.heap a (.gI v (.lst k))from I.aH a _ f)
   show Xu Zs I.g9 ⟨_,g,rfl⟩ e (λz=>nomatch z) h
 | @tup a k f=>
   cases (show u=Value.ref a from d);obtain⟨_,_,_,p⟩:=(show dm X.prog X.w H s.heap a (.tup k)from I.aH a _ f)
   obtain⟨o,g,l,_⟩:=p;show Xu PySem.W.kitx_tuple I.g9 ⟨o,g,l⟩ e (λz=>nomatch z) h
 | @dK a j f=>
   cases (show u=Value.ref a from d);obtain⟨_,_,K,_,p⟩:=(show dm X.prog X.w H s.heap a (.dK j)from I.aH a _ f)
   obtain⟨o,F,G,g,l,_⟩:=p;show Xu Zu I.g9 ⟨o,g,l.1⟩ e (λz=>nomatch z) h
 | @dT a j f=>
   cases (show u=Value.ref a from d);obtain⟨_,_,k,_,o,F,G,g,l,_⟩:=(show dm X.prog X.w H s.heap a (.dT j)from I.aH a _ f)
   show Xu Zu I.g9 ⟨o,g,l.1⟩ e (λz=>nomatch z) h
 | @ins a C N fs f cl D w m B=>
   cases (show u=Value.ref a from d);obtain⟨M,O,_⟩:=qc I.aH f;obtain⟨L,J,_⟩:=O.look;show Xu (PySem.W.kitx_own (cl.get _) cl.hd D w m B) I.g9 J e (λz=>nomatch z) h
end
structure cJ(k:Nat)(A:Around):Prop where
 hd:A.handled=none
 dp:A.depth+3*k+105<recursionLimit
 un:A.units+16*k+200<cLine
def cJ.mono{j k:Nat}(r:cJ k A)(h:j<=k):cJ j A:=⟨r.hd,by let:=r.dp;lia,by let:=r.un;lia⟩
def cJ.deeper{k:Nat}{A:Around}(r:cJ (k+1) A)(env:Env):cJ k (A.deeper env):=
 ⟨r.hd,by let:=r.dp;change A.depth+1+3*k+105<_;lia,by let:=r.un;change A.units+3+16*k+200<_;lia⟩
def Gr{A:Around}:(A.under (.builtin "type.__call__" ⟨.ref C::us,a⟩)).depth=A.depth+1:=by
 first|rfl|simp[Around.under,Code.weight,Code.isCreation,Code.isGuard,Code.isCaller,Code.frames,Code.isFrame,guardIds]
def Gd{A:Around}:(A.under (.builtin "type.__call__" ⟨.ref C::us,a⟩)).units=A.units+1:=by
 first|rfl|simp[Around.under,Code.cUnits,Code.frames,Code.isFrame]
def cJ.make{k:Nat}{A:Around}(r:cJ (k+1) A)(C:Addr)(us:List Value)(a:List (Str×Value)):cJ k (A.under (.builtin "type.__call__" ⟨.ref C::us,a⟩)):=
 ⟨r.hd,by let:=r.dp;rw[Gr];lia,by let:=r.un;rw[Gd];lia⟩
def cJ.depth{k:Nat}{A:Around}(r:cJ k A):A.depth<recursionLimit:=by let:=r.dp;lia
def cJ.units{k:Nat}{A:Around}(r:cJ k A):A.units+64<cLine:=by let:=r.un;lia
def PV:TA:=λ_ H Q=>Q [] H
def R6(b:TE)(tr:TA):TA:=λσ H Q=>b σ H λx H1=>tr σ H1 λa c=>Q (x::a) c
section
variable {X:Cx}{e:Expr}{es:List Expr}{te:TE}{t:TA}{pos:Pos}
def HP:PA X [] PV:=λ_ _ _ _ H Q I h=>Calls.spliced_nil ⟨[],H,I,.nil,h⟩
def Ej(k:PE X e te)(j:PA X es t)(hs:starEach (e::es) X.env=(false,eval e X.env)::starEach es X.env:=by rfl):PA X (e::es) (R6 te t):=by
 intro pos a s σ H Q I h;rw[hs];change wpAny _ _ (spliced ((false,eval e X.env)::backTo pos (starEach es X.env))) _ _ s;show Calls.spliced_cons (bZ (k a s σ H _ I h) λu c ⟨x,H1,m,f,i⟩=>?_);show bZ (j pos a c σ H1 _ m i) λo p ⟨b,n,l,d,g⟩=>⟨x::b,n,l,.cons f d,g⟩
def UG(t:TA):TE:=λσ H Q=>t σ H λa H1=>a.length<=sizeLine/\∀p,H1 p=none->Q (.ref p) (upd H1 p (.tup a))
def Uk(t:TA):TE:=λσ H Q=>t σ H λa H1=>a.length<=sizeLine/\∀p,H1 p=none->Q (.ref p) (upd H1 p (.lst a))
def Pt{x1}(h:PA X es t):PE X (.Tuple es x1 pos) (UG t):=by
 intro a s σ H Q I i;show wpAny_Tuple_spliced (bZ (h pos a s σ H _ I i) λg c ⟨f,H1,d,r,z,q⟩=>⟨by rw[<-r.length];show z,?_⟩);let j:H1 c.heap.objs.size=none:=d.aH.fresh (VL _);show⟨.ref c.heap.objs.size,upd H1 c.heap.objs.size (.tup f),d.laid (t':=c.toks) (λb u e=>VJ _ e) (VL _) ?_,rfl,q _ j⟩;show⟨z,g,r,⟨_,V4 _ rfl,rfl,_,rfl⟩⟩
def IY(h:PA X es t):PE X (.List es pos) (Uk t):=by
 intro a s σ H Q I i;show wpAny_List_spliced (bZ (h pos a s σ H _ I i) λg c ⟨f,H1,d,r,z,q⟩=>⟨by rw[<-r.length];show z,?_⟩);let j:H1 c.heap.objs.size=none:=d.aH.fresh (VL _);show⟨.ref c.heap.objs.size,upd H1 c.heap.objs.size (.lst f),d.laid (t':=c.toks) (λb u e=>VJ _ e) (VL _) ?_,rfl,q _ j⟩;show⟨z,g,0,r,V4 _ rfl⟩
end
abbrev Sp:=List V->Hp->VK->XK->Prop
abbrev uU:=List Env->Hp->Shared->XK->Value->Shared->Prop
structure vF(P:Program)(w:World)(K:PySem.W.Frag)(mg:Str->Option Value)(base:Heap)(A:Around)(outer:List Env)(s:Shared)(H:Hp):Prop where
 frames:A.frames=some outer
 mod:Mod K mg base
 bs:∀b o,base.get? b=some o->s.heap.get? b=some o/\H b=none
 tV:base.objs.size<=s.heap.objs.size
 lg:s.heap.FunFrames base outer
 xJ:∀b∈pV outer,H b=none
 aH:iu P w H s.heap
 bare:AllBare s.gens
 gt:P.given.tree=none
def CE(outer:List Env)(P:Program)(w:World)(H:Hp)(s:Shared)(Q:VK)(u:Value)(s':Shared):Prop:=
 ∃v a,s'.os=s.os/\AllBare s'.gens/\Un (pV outer) [] H a s.heap s'.heap/\iu P w a s'.heap/\RelV v u/\Q v a
def CR(a:uU)(outer:List Env)(P:Program)(w:World)(H:Hp)(s:Shared)(Q:VK)(E:XK)(r:Result)(s':Shared):Prop:=
 match r with
 | .ok (.ret u)=>CE outer P w H s Q u s'
 | .ok _=>False
 | .error e=>a outer H s E e s'
structure cY(P:Program)(w:World)(K:PySem.W.Frag)(mg:Str->Option Value)(base:Heap)(CX:uU)(k:Nat)(f:Addr)(fd:FuncData)(ps:List Str)(sp:Sp):Prop where
 len:∀vs H Q E,sp vs H Q E->vs.length=ps.length
 run:∀(A:Around) (outer:List Env) (s:Shared) (H:Hp) (args:Args) (us:List Value) (vs:List V) (Q:VK) (E:XK),cJ k A->vF P w K mg base A outer s H->BindsTo s fd args (ps.zip us)->Vals vs us->sp vs H Q E->
  codeAny (model P w) A (.call (.ref f) args) (CR CX outer P w H s Q E) s
def cY.imp{P:Program}{w:World}{K:PySem.W.Frag}{e:Str->Option Value}{a:Heap}{g:uU}{k:Nat}{f:Addr}{fd:FuncData}{d:List Str}{sp b:Sp}(F:cY P w K e a g k f fd d sp)
 (h:∀vs H Q E,b vs H Q E->sp vs H Q E):cY P w K e a g k f fd d b:=
 ⟨λvs H Q E q=>F.len vs H Q E (h _ _ _ _ q),λA outer s H c i vs Q E m n o j l=>F.run A outer s H c i vs Q E m n o j (h _ _ _ _ l)⟩
def vF.make{P:Program}{w:World}{K:PySem.W.Frag}{b:Str->Option Value}{a:Heap}{A:Around}{outer:List Env}{s:Shared}{H:Hp}(e:vF P w K b a A outer s H)(C:Addr)(us:List Value)(c:List (Str×Value)):
 vF P w K b a (A.under (.builtin "type.__call__" ⟨.ref C::us,c⟩)) outer s H:=⟨by first|show e.frames|(simpa[Around.under,Code.envs,Code.isFrame,pushEnvs]using e.frames),e.mod,e.bs,e.tV,e.lg,e.xJ,e.aH,e.bare,e.gt⟩
section
variable {X:Cx}{pins:List (Addr×Obj)}{σ:St}{H:Hp}{s s':Shared}
def Inv.QQ(I:Inv X pins σ H s):vF X.prog X.w X.K X.mg X.base X.A X.stack s H:=
 ⟨I.ok.frames,I.ok.mod,I.bs,VU I.ok.tV I.sz,I.stack,I.xR,I.aH,I.bare,I.ok.gt⟩
def Inv.after(I:Inv X pins σ H s)(h:CE X.stack X.prog X.w H s Q u s'):EP X pins σ Q u s':=by
 obtain⟨v,j,e,a,un,i,r,q⟩:=h;obtain⟨f,g,d,t,c⟩:=s';obtain rfl:c=s.os:=e;show⟨v,j,I.call (h':=f) (g':=g) (d':=d) (t':=t) (ch:=[]) un i a (λb z=>absurd z (by simp)),r,q⟩
end
def LV(sp:Sp)(a:List V)(E:XK)(t:TA):TE:=λσ H Q=>t σ H λb H1=>sp (b++a) H1 Q E
def Fd(C:Addr)(m:Str)(sp:Sp)(b:List V)(E:XK)(d:TE)(t:TA):TE:=λσ H Q=>d σ H λx H1=>∃a e fs,x= .ref a/\H1 a=some (.ins C e fs)/\fs.lookup m=none/\
 t σ H1 λc f=>sp (x::(c++b)) f Q E
def Mv(C:Addr)(sp:Sp)(b:List V)(E:XK)(t:TA):TE:=λσ H Q=>t σ H λc H1=>∀x a,H1 x=none->H1 a=none->a≠x->
 sp (.ref x::(c++b)) (upd (upd H1 a (.own x)) x (.ins C a [])) (λv d=>v= .az/\Q (.ref x) d) E
def Binds(K:PySem.W.Frag)(fd:FuncData)(a:List Str)(ds:List Value):Prop:=
 ∀(s:Shared) (us:List Value),K.In s.heap->(us++ds).length=a.length->BindsTo s fd ⟨us,[]⟩ (a.zip (us++ds))
def Binds.all{K:PySem.W.Frag}{fd:FuncData}{a:List Str}(h:∀us:List Value,us.length=a.length->bindArgs fd ⟨us,[]⟩=pure (a.zip us)):Binds K fd a []:=λs us _ b=>by
 rw[XD]at b⊢;show .of_eq (h us b)
def Passes(b:uU)(X:Cx)(E:XK):Prop:=∀(a:List (Addr×Obj)) (σ:St) (H:Hp) (s:Shared) (e:Value) (s':Shared),Inv X a σ H s->b X.stack H s E e s'->X.xe e s'
section
variable {X:Cx}{CX:uU}{k:Nat}{f C:Addr}{fd:FuncData}{ps:List Str}{sp:Sp}{dvs:List V}{ds:List Value}{E:XK}{x m:Str}{p pos apos:Pos}{e o:Expr}{es:List Expr}{ta:TE}{t:TA}
def C6{pins:List (Addr×Obj)}{σ:St}{H:Hp}{s:Shared}{Q:VK}{us:List Value}{vs:List V}(F:cY X.prog X.w X.K X.mg X.base CX k f fd ps sp)(g:cJ k X.A)(l:Binds X.K fd ps ds)(j:Vals dvs ds)(d:Passes CX X E)
 (I:Inv X pins σ H s) (r:Vals vs us) (h:sp (vs++dvs) H Q E):wpAny (model X.prog X.w) X.A (call (.ref f) us) (EP X pins σ Q) X.xe s:=by
 let b:Vals (vs++dvs) (us++ds):=r.append j;let i:(us++ds).length=ps.length:=by rw[<-b.length];show F.len _ _ _ _ h
 show wpAny_call (Zh (F.run X.A X.stack s H ⟨us,[]⟩ (us++ds) (vs++dvs) Q E g I.QQ (l s us I.g9 i) b h) λr c a=>?_);cases r with
 |error e=>show d pins σ H s e c I a
 |ok n=>
  cases n with
  |ret u=>show I.after a
  |next=>show False.elim a
  |brk=>show False.elim a
  |cont=>show False.elim a
def NK(F:cY X.prog X.w X.K X.mg X.base CX k f fd ps sp)(i:cJ k X.A)(n:Gl X x)(j:X.mg x=some (.ref f))(l:PySem.W.keepIn X.K (.ref f)=true)(w:Binds X.K fd ps ds)(v:Vals dvs ds)(g:Passes CX X E)
 (y:PA X (e::es) t) (c:(x==("__debug__":Str))=false:=by decide) (u:starEach (e::es) X.env=(false,eval e X.env)::starEach es X.env:=by rfl) (b:(backTo pos (starEach es X.env)).any (·.1)=false:=by rfl):
 PE X (.Call (.Name x p) (e::es) [] pos) (LV sp dvs E t):=by
 intro a s σ H Q I h;show YL (yF I n j ?_ c);show aag (h₀:=X.base) I.ok.mod.Ik l (bZ (y pos a s σ H _ I h) λA B ⟨z,H1,d,r,q⟩=>⟨d.g9,?_⟩) u b;show C6 F i w v g d r q
def NH{pl:Sem Bool}(D:PE X o ta)(c:mX X.K C)(i:Meth X.K C m f)(F:cY X.prog X.w X.K X.mg X.base CX k f fd ps sp)(B:cJ k X.A)(J:Binds X.K fd ps ds)(G:Vals dvs ds)(z:Passes CX X E)(K:PA X (e::es) t)
 (d:starEach (e::es) X.env=(false,eval e X.env)::starEach es X.env:=by rfl) (g:(backTo pos (starEach es X.env)).any (·.1)=false:=by rfl)
 (A:eval (.Call (.Attribute o m apos) (e::es) [] pos) X.env=(do
   let ov <-eval o X.env
   standAt apos.atName
   let(f,first) <-holding [ov] (getMethod ov m pl)
   callWith pos f first (backTo pos (starEach (e::es) X.env)) (backToKw pos (keywordEach [] X.env))):=by rfl):
 PE X (.Call (.Attribute o m apos) (e::es) [] pos) (Fd C m sp dvs E ta t):=by
 intro b s σ H Q I h;show abb (pl:=pl) (bZ (D b s σ H _ I h) λu v ⟨x,H1,n,w,a,O,fs,L,M,l,q⟩=>?_) A;subst L;obtain rfl:u=Value.ref a:=w;show wI n M c i l ?_;show aag (first:=[.ref a]) (h₀:=X.base) I.ok.mod.Ik i.kp (bZ (K pos b v σ H1 _ n q) λus N ⟨vs,P,j,r,y⟩=>⟨j.g9,?_⟩) d g;show C6 (us:= .ref a::us) (vs:= .ref a::vs) F B J G z j (.cons rfl r) y
def JJ{pl:Sem Bool}(v:PE X o ta)(c:mX X.K C)(g:Meth X.K C m f)(F:cY X.prog X.w X.K X.mg X.base CX k f fd ps sp)(r:cJ k X.A)(y:Binds X.K fd ps ds)(w:Vals dvs ds)(j:Passes CX X E)
 (n:eval (.Call (.Attribute o m apos) [] [] pos) X.env=(do
   let ov <-eval o X.env
   standAt apos.atName
   let(f,first) <-holding [ov] (getMethod ov m pl)
   callWith pos f first (backTo pos (starEach [] X.env)) (backToKw pos (keywordEach [] X.env))):=by rfl):
 PE X (.Call (.Attribute o m apos) [] [] pos) (Fd C m sp dvs E ta PV):=by
 intro b s σ H Q I h;show abb (pl:=pl) (bZ (v b s σ H _ I h) λu B ⟨x,H1,d,i,a,D,fs,z,A,l,q⟩=>?_) n;subst z;obtain rfl:u=Value.ref a:=i;show wI d A c g l ?_;show PySem.W.callWith_K0 (first:=[.ref a]) d.g9 g.kp (C6 (us:=[.ref a]) (vs:=[.ref a]) F r y w j d (.cons rfl .nil) q)
structure Mk(K:PySem.W.Frag)(C f:Addr):Prop where
 makes:PySem.W.makesIn K C=true
 init:PySem.W.findIn K (.ref C) "__init__"=some (some (.ref f))
 fn:PySem.W.isFn K (.ref f)=true
 kp:PySem.W.keepIn K (.ref C)=true
def Jv{pins:List (Addr×Obj)}{σ:St}{H:Hp}{s:Shared}{Q:VK}{us:List Value}{vs:List V}(M:Mk X.K C f)(F:cY X.prog X.w X.K X.mg X.base CX k f fd ps sp)(q:cJ (k+1) X.A)(z:Binds X.K fd ps ds)(y:Vals dvs ds)
 (n:Passes CX X E) (I:Inv X pins σ H s) (r:Vals vs us)
 (h:∀x b,H x=none->H b=none->b≠x->sp (.ref x::(vs++dvs)) (upd (upd H b (.own x)) x (.ins C b [])) (λv D=>v= .az/\Q (.ref x) D) E):
 wpAny (model X.prog X.w) X.A (call (.ref C) us) (EP X pins σ Q) X.xe s:=by
 let g:=h (s.heap.objs.size+1) s.heap.objs.size (I.aH.fresh (aa2 _)) (I.aH.fresh (VL _)) (Wb (Wj _));let c:=Inv.made (C:=C) I;let d:Vals (V.ref (s.heap.objs.size+1)::(vs++dvs)) (Value.ref (s.heap.objs.size+1)::(us++ds)):= .cons rfl (r.append y)
 let w:(Value.ref (s.heap.objs.size+1)::us++ds).length=ps.length:=by
  let e:=d.length;rw[F.len _ _ _ _ g]at e;show e.symm
 show wpAny_call (K_ (f:=f) I.g9 M.makes M.init (XM.mp M.fn) (Zh (F.run _ X.stack _ _ ⟨Value.ref (s.heap.objs.size+1)::us,[]⟩ (Value.ref (s.heap.objs.size+1)::(us++ds)) _ _ E (q.make C us [])
  (c.QQ.make C us []) (z _ (Value.ref (s.heap.objs.size+1)::us) c.g9 w) d g) λr i a=>?_))
 cases r with
 |error e=>show n pins σ _ _ e i c a
 |ok A=>
  cases A with
  |ret u=>
   obtain⟨v,G,B,j,ev,l⟩:=c.after a;subst ev;show⟨j,⟨V.ref (s.heap.objs.size+1),G,B,rfl,l⟩⟩
  |next=>show False.elim a
  |brk=>show False.elim a
  |cont=>show False.elim a
def N1(M:Mk X.K C f)(F:cY X.prog X.w X.K X.mg X.base CX k f fd ps sp)(i:cJ (k+1) X.A)(l:Gl X x)(j:X.mg x=some (.ref C))(v:Binds X.K fd ps ds)(u:Vals dvs ds)(g:Passes CX X E)
 (w:PA X (e::es) t) (c:(x==("__debug__":Str))=false:=by decide) (n:starEach (e::es) X.env=(false,eval e X.env)::starEach es X.env:=by rfl) (b:(backTo pos (starEach es X.env)).any (·.1)=false:=by rfl):
 PE X (.Call (.Name x p) (e::es) [] pos) (Mv C sp dvs E t):=by
 intro a s σ H Q I h;show YL (yF I l j ?_ c);show aag (h₀:=X.base) I.ok.mod.Ik M.kp (bZ (w pos a s σ H _ I h) λz A ⟨y,H1,d,r,q⟩=>⟨d.g9,?_⟩) n b;show Jv M F i v u g d r q
end
structure ma(N P:List Str)(sc:Scope):Prop where
 kind:sc.kind= .function
 co:sc.isCoroutine=false
 gen:sc.isGenerator=false
 nd:N.Nodup
 pre:N.take P.length=P
 par:∀x∈P,sc.names.lookup x=some .local\/sc.names.lookup x=some .cell
 Pl:∀y∈sc.names,y.2≠ .free
def zj{kindOf:Str->Option NameKind}:∀ {binds:List (Str×Value)} {m:Str->Option Value},(∀v,(x,v)∉binds)->bindL kindOf binds m x=m x
 | [],_,_=>rfl
 |(n,v)::r,m,h=>by
  unfold bindL;rw[zj λw a=>h w (VZ _ a)];split
  . have:x≠n:=by rintro rfl;show h v V6
    simp[this]
  . rfl
def zH{kindOf:Str->Option NameKind}:∀ {binds:List (Str×Value)} {m:Str->Option Value},(∀v,(x,v)∉binds)->bindC kindOf binds m x=m x
 | [],_,_=>rfl
 |(n,v)::r,m,h=>by
  unfold bindC;rw[zH λw a=>h w (VZ _ a)];split
  . rfl
  . have:x≠n:=by rintro rfl;show h v V6
    simp[this]
def yZ{kindOf:Str->Option NameKind}:∀ {P:List Str} {vs:List Value} {i:Nat} {m:Str->Option Value},P.Nodup->P[i]?=some x->vs[i]?=some v->kindOf x=some .local->
 bindL kindOf (P.zip vs) m x=some v
 | [],_,_,_,_,h,_,_=>by simp at h
 |_::_,[],_,_,_,_,h,_=>by simp at h
 |p::P,w::vs,0,m,c,b,a,d=>by
  simp at b a;subst b;subst a;change bindL kindOf ((p,w)::P.zip vs) m p=_;unfold bindL;rw[zj λv e=>(XO.mp c).1 (ZS e).1,VN d];simp
 |p::P,w::vs,i+1,m,c,b,a,d=>by
  change bindL kindOf ((p,w)::P.zip vs) m x=_;unfold bindL;show yZ (i:=i) (XO.mp c).2 (by simpa using b) (by simpa using a) d
def zE{kindOf:Str->Option NameKind}:∀ {P:List Str} {vs:List Value} {i:Nat} {m:Str->Option Value},P.Nodup->P[i]?=some x->vs[i]?=some v->kindOf x≠some .local->
 bindC kindOf (P.zip vs) m x=some v
 | [],_,_,_,_,h,_,_=>by simp at h
 |_::_,[],_,_,_,_,h,_=>by simp at h
 |p::P,w::vs,0,m,c,b,a,d=>by
  simp at b a;subst b;subst a;change bindC kindOf ((p,w)::P.zip vs) m p=_;unfold bindC;rw[zH λv e=>(XO.mp c).1 (ZS e).1,VM d];simp
 |p::P,w::vs,i+1,m,c,b,a,d=>by
  change bindC kindOf ((p,w)::P.zip vs) m x=_;unfold bindC;show zE (i:=i) (XO.mp c).2 (by simpa using b) (by simpa using a) d
def start(N:List Str)(vs:List V):St:=vs.map some++List.replicate (N.length-vs.length) none
def pC(d:uU)(P:Program)(w:World)(K:PySem.W.Frag)(mg:Str->Option Value)(base:Heap)(N:List Str)(a:Str)(scope:Scope)(f:Addr)(c:Value)(A:Around)(outer:List Env)(s:Shared)(H:Hp)(E:XK):Cx where
 prog:=P
 w:=w
 K:=K
 mg:=mg
 base:=base
 A:=A.deeper (envOfC a scope s.heap.objs.size f c)
 N:=N
 s₀:=s
 H₀:=H
 env:=envOfC a scope s.heap.objs.size f c
 outer:=outer
 stack:=envOfC a scope s.heap.objs.size f c::outer
 ex:=[]
 calm:=true
 fn:=λ_=>true
 pn:=[]
 xe:=λe g=>wpAny (model P w) (A.deeper (envOfC a scope s.heap.objs.size f c)) (leaving (envOfC a scope s.heap.objs.size f c) e) (λ_ b=>d outer H s E e b) (λh b=>d outer H s E h b) g
def A6{a:Scope}(h:a.names.lookup x=some .cell):∃c,(cellsFrom n a.names []).lookup x=some c:=by
 let q:=Yo a.names n [] (.inl h);show YH.mp q
def HJ{O:uU}{P:Program}{w:World}{K:PySem.W.Frag}{I:Str->Option Value}{l:Heap}{N m:List Str}{d:Str}{scope:Scope}{f:Addr}{G:Value}{A:Around}{outer:List Env}{s J:Shared}{H:Hp}{E:XK}{us:List Value}{vs:List V}
 (S:ma N m scope) (T:A.handled=none) (j:vF P w K I l A outer s H) (W:vs.length=m.length) (r:Vals vs us)
 (x:InCallC s s.heap.objs.size (bindL (envOfC d scope s.heap.objs.size f G).kindOf (m.zip us) λ_=>none) (cellsFrom (s.heap.objs.size+1) scope.names []) (bindC (envOfC d scope s.heap.objs.size f G).kindOf (m.zip us) λ_=>none) J):
 Inv (pC O P w K I l N d scope f G A outer s H E) [] (start N vs) H J:=by
 let R:m.length<=N.length:=by let:=XB List.length S.pre;rw[W4]at this;lia
 obtain⟨F,tk,rfl,M⟩:=x.done;let o:∀b:Addr,b∉(pC O P w K I l N d scope f G A outer s H E).ex:=λb z=>absurd (show b∈([]:List Addr)from z) (by simp)
 show⟨⟨j.mod,S.kind,rfl,rfl,VL _,λy z c F g=>?_,λy t=>?_,λy c _ h=>?_,λ_=>T,Around.frames_deeper j.frames,.inr ⟨rfl,rfl⟩,λb z=>absurd z (o b),j.bs,j.tV,λb _ _=>o b,λb z=>absurd z (o b),j.lg,j.xJ,j.gt⟩,
  rfl,j.bare,Un.kept M,⟨_,x.toInCall.ns,λi y v F g X=>?_⟩,λy c h=>⟨_,x.cell y c h⟩,j.aH.fresh (VL _),λy c h=>?_,λp C=>absurd (show p∈([]:List (Addr×Obj))from C) (by simp),j.aH.kept M,?_⟩
 . show name_of_addr x.apart (WH F) (WH g)
 . have t:scope.names.lookup y=some .cell\/scope.names.lookup y=some .free:=t;rcases t with t|t
   . show A6 t
   . show absurd rfl (S.Pl _ (WH t))
 . show Xq (x.above y c (WH h))
 . have D:i<vs.length:=by
    unfold start at g;by_cases D:i<vs.length
    . show D
    . rw[V_ (by simpa using D)]at g;rw[aaT]at g;split at g<;>cases g
   let U:vs[i]?=some v:=by
    unfold start at g;rw[VR (by simpa using D),V5]at g;cases e:vs[i]? with
    |none=>rw[e]at g;cases g
    |some a=>rw[e]at g;cases g;rfl
   obtain⟨u,L,Q⟩:=r.get U
   let C:m[i]?=some y:=by
    rw[<-S.pre,YI (by lia)];show F
   let B:m.Nodup:=by rw[<-S.pre];show S.nd.sublist (List.take_sublist _ _)
   show⟨u,Q,?_⟩;rcases S.par y (Wn C)with k|k
   . show .inl ⟨k,yZ B C L k⟩
   . obtain⟨c,e⟩:=A6 (n:=s.heap.objs.size+1) k;show .inr ⟨.inl k,c,e,?_⟩;let q:=x.cell y c e;rw[zE B C L (by change scope.names.lookup y≠_;rw[k];decide)]at q;show q
 . show j.aH.fresh (Xq (x.above y c (WH h)))
 . unfold start;change _=N.length;rw[Wu,VH,YZ];lia
def Lr{K:PySem.W.Frag}{F:Str->Option Value}{k:Nat}{g:List Stmt}{Y kV B X c ct oc:Value}
  {N D:List Str}  (lk:K.lookup f=some ⟨oc,od,.func (PySem.W.fnOf name a params g scope Y kV B X an c ct),O⟩) (U:PySem.W.codeIn K c a=true) (S:ma N D scope)
 (len:∀vs H Q E,sp vs H Q E->vs.length=D.length)
 (j:∀(A:Around) (outer:List Env) (s:Shared) (H:Hp) (vs:List V) (Q:VK) (E:XK),cJ k (A.deeper (envOfC a scope s.heap.objs.size f c))->sp vs H Q E->
   ∃t,h_ (pC G P w K F d N a scope f c A outer s H E) g t/\t {nx:=λ_ h=>Q .az h,rt:=Q} (start N vs) H):
 cY P w K F d G (k+1) f (PySem.W.fnOf name a params g scope Y kV B X an c ct) D sp:=by
 show⟨len,λA outer s H Z us vs Q E T z hb r m=>?_⟩;let hl:=len _ _ _ _ m;let KX:K.In s.heap:=z.mod.Ik.keeps λb o e=>(z.bs b o e).1;let R:s.heap.NoLimit:=z.mod.nolimit.keeps λb o e=>(z.bs b o e).1
 let i:∀y∈D.zip us,scope.names.lookup y.1=some .local\/(scope.names.lookup y.1=some .cell/\((cellsFrom (s.heap.objs.size+1) scope.names []).lookup y.1).isSome=true):=λ⟨n,v⟩ hy=>by
  rcases S.par n (ZS hy).1 with q|q
  . show .inl q
  . show .inr ⟨q,Yo _ _ _ (.inl q)⟩
 show codeAny_call_function T.depth (KX _ _ lk) rfl S.co S.gen rfl (PySem.W.codeRec_of KX U) (hb _ _ _ _ ?_);show wpAny_newFunctionEnv_cells S.kind i λag he W x=>?_;subst he;show⟨R.keeps x.toInCall.keep,codeAny_func ?_⟩;obtain⟨t,ht,hq⟩:=j A outer s H vs Q E (T.deeper _) m;let I:Inv (pC G P w K F d N a scope f c A outer s H E) [] (start N vs) H W:=HJ S T.hd z hl r x;show X6 (ht [] W (start N vs) H _ I hq) (λfl L l=>?_) λe L l=>l
 let p:∀ {C:St} {h:Hp} {v:V} {u:Value},Inv (pC G P w K F d N a scope f c A outer s H E) [] C h L->RelV v u->Q v h->CE outer P w H s Q u L:=
  λ{C h v u} J M q=>⟨v,h,J.os,J.bare,J.base,J.aH,M,q⟩
 cases fl with
 |ret u=>
  obtain⟨v,C,h,J,M,q⟩:=l;show p J M q
 |next=>
  obtain⟨C,h,J,q⟩:=l;show p (v:=V.az) (u:=Value.none) J rfl q
 |brk=>
  obtain⟨_,_,_,q⟩:=l;show False.elim q
 |cont=>
  obtain⟨_,_,_,q⟩:=l;show False.elim q
section
variable {X:Cx}{x:Str}{p pos:Pos}{e:Expr}{es:List Expr}{t:TA}{id T:String}{r:List V->Hp->VK->Prop}
def QV(r:List V->Hp->VK->Prop)(t:TA):TE:=λσ H Q=>t σ H λa H1=>r a H1 Q
def CK(q:bJ X (.builtin id) r)(n:Gl X x)(m:X.mg x=none)(k:bootBuiltins x=some (.builtin id))(u:PA X (e::es) t)(l:x≠"__name__":=by decide)(c:(x==("__debug__":Str))=false:=by decide)
 (o:starEach (e::es) X.env=(false,eval e X.env)::starEach es X.env:=by rfl) (b:(backTo pos (starEach es X.env)).any (·.1)=false:=by rfl):PE X (.Call (.Name x p) (e::es) [] pos) (QV r t):=by
 intro a s σ H Q I h;show YL (kZ I n m k ?_ l c);show PyProof.Rows.callWith_builtin1 (bZ (u pos a s σ H _ I h) λf g ⟨d,H1,v,i,j⟩=>q a g σ H1 d f Q v i j) o b
def zw(q:bJ X (.type T) r)(n:Gl X x)(m:X.mg x=none)(k:bootBuiltins x=some (.type T))(u:PA X (e::es) t)(l:x≠"__name__":=by decide)(c:(x==("__debug__":Str))=false:=by decide)
 (o:starEach (e::es) X.env=(false,eval e X.env)::starEach es X.env:=by rfl) (b:(backTo pos (starEach es X.env)).any (·.1)=false:=by rfl):PE X (.Call (.Name x p) (e::es) [] pos) (QV r t):=by
 intro a s σ H Q I h;show YL (kZ I n m k ?_ l c);show Xv (bZ (u pos a s σ H _ I h) λf g ⟨d,H1,v,i,j⟩=>q a g σ H1 d f Q v i j) o b
end
end L2
namespace HT
open PySem PyProof.Rows
section
open PySem.SeqAt
open PySem.AutoSeq1 (wpAny_loadPart')
open PySem.MeetsSeq PySem.MeetsSeq2 PySem.MeetsSeq3
end
section
variable {prog:Program}{w:World}{A:Around}{E:Value->Shared->Prop}{s:Shared}
def Od{vs a:List Value}(v:IsTup s.heap t vs.toArray)(x:IsTup s.heap b a.toArray)(o:vs≠ [])
 (z:a=[]->Q (.ref t) s) (y:a≠ []->Q (.ref s.heap.objs.size) {s with heap:=s.heap.push {cls:= .type "tuple",data:= .seq (vs++a).toArray}})
 (k:vs.length+a.length<=sizeLine):wpAny (model prog w) A (binaryOp .Add (.ref t) (.ref b)) Q E s:=by
 obtain⟨⟨cls,r,data,l⟩,j,q,n,p⟩:=id v;obtain⟨⟨u,h,data2,d⟩,c,g,m,f⟩:=id x;simp only at q p g f;subst q p g f;let e:vs.toArray++a.toArray=(vs++a).toArray:=by simp
 by_cases i:a=[]
 . show concat_meets ⟨_,j,rfl⟩ ⟨_,c,rfl⟩ aaI seq_tuple_add Zw Zp (Zi _ _)
    (tuple_addW1 t b vs.toArray a.toArray n m r h l d (by simpa using o) (by simp[i])) ⟨j,c,z i⟩
 . show concat_meets ⟨_,j,rfl⟩ ⟨_,c,rfl⟩ aaI seq_tuple_add Zw Zp (Zi _ _)
    (tuple_addW2 t b vs.toArray a.toArray n m r h l d (by simpa using o) (by simpa using i) (by rw[VW,VW];show k)) ⟨j,c,?_⟩
   rw[e];show y i
def cn(n d:Nat):Option Int->Nat
 |none=>d
 |some v=>if v<0 then(v+(n:Int)).toNat else min v.toNat n
def J9(n d:Nat):cn n d none=d:=rfl
def NZ(n d k:Nat):cn n d (some (k:Int))=min k n:=by
 change(if(k:Int)<0 then((k:Int)+(n:Int)).toNat else min (k:Int).toNat n)=min k n;rw[VM (by lia),V7]
def Qh(n d:Nat)(b:d<=n)(o:Option Int):cn n d o<=n:=by
 cases o with
 |none=>show b
 |some v=>
  change(if v<0 then(v+(n:Int)).toNat else min v.toNat n)<=n;by_cases a:v<0
  . rw[VN a];lia
  . rw[VM a];show aaJ _ _
def DN(v:Int)(n d:Nat):(if v<0 then max (v+(n:Int)) 0 else min v (n:Int))=((cn n d (some v):Nat):Int):=by
 change(if v<0 then max (v+(n:Int)) 0 else min v (n:Int))=(((if v<0 then(v+(n:Int)).toNat else min v.toNat n):Nat):Int)
 by_cases a:v<0
 . simp![VN a];lia
 . simp![VM a];lia
def Fb(lo a:Option Int)(n:Nat):Builtin.Slice.sliceAdjust lo a 1 (n:Int)=(((cn n 0 lo:Nat):Int),((cn n n a:Nat):Int)):=by
 let b:¬((1:Int)<0):=by lia
 unfold Builtin.Slice.sliceAdjust;simp![b,Xl];show Prod.ext ?_ ?_
 . cases lo with
   |none=>rfl
   |some v=>show DN v n 0
 . cases a with
   |none=>rfl
   |some v=>show DN v n n
def FL(i j:Nat):Builtin.Slice.slicePlaces (i:Int) (j:Int) 1=j-i:=by
 unfold Builtin.Slice.slicePlaces;let a:(1:Int)>0:=by lia
 simp![a,Yv,Int.ediv_one];split<;>lia
def xG(p:IsPart v o)(h:Q o s):wpAny (model prog w) A (Builtin.Slice.slicePartIndex v) Q E s:=by
 cases p with
 |none=>show slicePart_none h
 |int i t=>show slicePart_int h
def oH{f:Addr}{e d:Value}{lo b:Option Int}{n:Nat}{Q:Int×Int×Nat->Shared->Prop}(hs:s.heap.IsSliceOf f e d .none)(pl:IsPart e lo)(g:IsPart d b)
 (h:Q (((cn n 0 lo:Nat):Int),1,cn n n b-cn n 0 lo) s):wpAny (model prog w) A (Builtin.Slice.sliceApplied (.ref f) (pure (n:Int))) Q E s:=by
 obtain⟨j,a,i,c⟩:=id hs;unfold Builtin.Slice.sliceApplied Builtin.Slice.sliceFields;show VG (VG (WI a c (x:=e) rfl (VG (WI a c (x:=d) rfl (VG (WI a c (x:= .none) rfl (VQ ?_)))))));show VG (slicePart_none ?_);change wpAny _ _ (if((1:Int)==0)=true then _ else _) _ _ s;rw[VM (by decide)];show VG (xG pl (VG (xG g (VG (VQ ?_)))));change wpAny _ _ (match Builtin.Slice.sliceAdjust lo b 1 (n:Int)with|(lo,b)=>pure (lo,(1:Int),Builtin.Slice.slicePlaces lo b 1)) _ _ s;rw[Fb lo b n];change wpAny _ _ (pure (((cn n 0 lo:Nat):Int),(1:Int),Builtin.Slice.slicePlaces ((cn n 0 lo:Nat):Int) ((cn n n b:Nat):Int) 1)) _ _ s;rw[FL];show VQ h
def Ku(xs:Array Value)(i k:Nat):((List.range k).filterMap λ(m:Nat)=>xs[((i:Int)+(m:Int)*1).toNat]?).toArray=((xs.toList.drop i).take k).toArray:=by
 let e:(λ(m:Nat)=>xs[((i:Int)+(m:Int)*1).toNat]?)=λm=>xs[i+m]?:=by
  funext m;let:((i:Int)+(m:Int)*1).toNat=i+m:=by lia
  rw[this]
 rw[e];let:=pick_run xs i k;rw[List.filterMap_map]at this;let a:((λx=>xs[x]?)∘λx=>i+x)=λm=>xs[i+m]?:=rfl;rw[a]at this;rw[this]
def uO{t d:Addr}{items:Array Value}{k j:Value}{lo b:Option Int}{Q:Value->Shared->Prop}(c:IsTup s.heap t items)(hs:s.heap.IsSliceOf d k j .none)(pl:IsPart k lo)(l:IsPart j b)
 (o:¬(cn items.size 0 lo=0/\cn items.size items.size b=items.size))
 (h:Q (.ref s.heap.objs.size) {s with heap:=s.heap.push {cls:= .type "tuple",data:= .seq ((items.toList.drop (cn items.size 0 lo)).take (cn items.size items.size b-cn items.size 0 lo)).toArray}})
 (p:items.size<=sizeLine):wpAny (model prog w) A (getItem (.ref t) (.ref d)) Q E s:=by
 let a:sizeOk (.seq ((items.toList.drop (cn items.size 0 lo)).take (cn items.size items.size b-cn items.size 0 lo)).toArray):=by
  change((items.toList.drop (cn items.size 0 lo)).take (cn items.size items.size b-cn items.size 0 lo)).toArray.size<=sizeLine;rw[VW,W4,Yn,WE];lia
 let x:cn items.size items.size b<=items.size:=Qh _ _ (VL _) b;obtain⟨n,e,g,r⟩:=id hs;let i:s.TypeIs (.ref d) "slice":=⟨n,e,g⟩
 unfold getItem;try with_reducible show XJ ?_
 first|show VG (VQ ?_)|skip
 show VG (wpAny_sequenceKey c.typeIs (by decide) ?_)
 show VG (W7 (name:=Str.ofString "__getitem__") c.typeIs Xf
  (XE Xf c.typeIs entry_tuple_getitem ?_ (args_tuple_getitem _ _)))
 change wpAny _ _ (Builtin.Tuple.tupleItemsOf (.ref t) >>= _) _ _ s;show VG (tupleItemsOf_ c ?_);show VG (aaK i ?_);rw[VN (by decide)];show VG (oH hs pl l ?_)
 let f:¬((((cn items.size 0 lo:Nat):Int)==0&&(1:Int)==1&&(cn items.size items.size b-cn items.size 0 lo)==items.size)=true):=by
  intro q;rw[WV,WV]at q;let v:((cn items.size 0 lo:Nat):Int)=0:=eq_of_beq q.1.1;let u:cn items.size items.size b-cn items.size 0 lo=items.size:=eq_of_beq q.2;show o ⟨by lia,by lia⟩
 change wpAny _ _ (if(((cn items.size 0 lo:Nat):Int)==0&&(1:Int)==1&&(cn items.size items.size b-cn items.size 0 lo)==items.size)=true then _ else _) _ _ s;rw[VM f,Ku]
 first
  |show VG (m:=Builtin.Tuple.tupleExact _) (YA (VQ ⟨_,rfl,VQ h⟩) a)
  |show VG (m:=Builtin.Tuple.tupleExact _) (YA (VG (VQ (VQ ⟨_,rfl,VQ h⟩))) a)
  |show VG (VG (m:=Builtin.Tuple.tupleExact _) (YA (VQ (VQ ⟨_,rfl,VQ h⟩)) a))
  |show VG (VG (m:=Builtin.Tuple.tupleExact _) (YA (VQ ⟨_,rfl,VQ h⟩) a))
end
end HT
namespace L2
open PySem PySem.Spec PyProof.Rows
abbrev TO:=St->Hp->(Option Int->Hp->Prop)->Prop
def PO(X:Cx)(e:Option Expr)(t:TO):Prop:=
 ∀(a:List (Addr×Obj)) (s:Shared) (σ:St) (H:Hp) (Q:Option Int->Hp->Prop),Inv X a σ H s->t σ H Q->
  wpAny (model X.prog X.w) X.A (evalPart e X.env) (λu c=>∃o b,Inv X a σ b c/\IsPart u o/\Q o b) X.xe s
def OB:TO:=λ_ H Q=>Q none H
def RY(t:TE):TO:=λσ H Q=>t σ H λx H1=>∃i,x= .int i/\Q (some i) H1
section
variable {X:Cx}{e:Expr}{te:TE}{lo hi:Option Expr}{tl th:TO}{pos p2:Pos}
def NW:PO X none OB:=by
 intro a s σ H Q I h;rw[evalPart_none];show VQ ⟨none,H,I,.none,h⟩
def Oc(h:PE X e te):PO X (some e) (RY te):=by
 intro a s σ H Q I d;rw[evalPart_some];show bZ (h a s σ H _ I d) λu g ⟨x,H1,f,b,c⟩=>?_;obtain⟨i,rfl,q⟩:=c;obtain⟨t,rfl⟩:=b;show⟨some i,H1,f,.int i t,q⟩
def HG(X:Cx)(r:V->Option Int->Option Int->Hp->VK->Prop):Prop:=
 ∀(a:List (Addr×Obj)) (s:Shared) (σ:St) (H:Hp) (x:V) (v vl vu:Value) (lo hi:Option Int) (sl:Addr) (Q:VK),Inv X a σ H s->RelV x v->s.heap.IsSliceOf sl vl vu .none->IsPart vl lo->IsPart vu hi->r x lo hi H Q->
  ∃T b,typeLookup (.type T) "__getitem__"=pure (some (.builtin b))/\s.TypeIs v T/\wpAny (model X.prog X.w) X.A (getItem v (.ref sl)) (EP X a σ Q) X.xe s
def Vu(r:V->Option Int->Option Int->Hp->VK->Prop)(te:TE)(tl th:TO):TE:=λσ H Q=>te σ H λx H1=>tl σ H1 λl b=>th σ b λu a=>r x l u a Q
def Kp(y:HG X r)(B:PE X e te)(z:PO X lo tl)(t:PO X hi th):PE X (.Subscript e (.Slice lo hi none p2) pos) (Vu r te tl th):=by
 intro a s σ H Q I h;show Subscript_ (bZ (B a s σ H _ I h) λv j ⟨x,H1,G,k,o⟩=>?_);show wpAny_Slice (bZ (z a j σ H1 _ G o) λf i ⟨l,J,F,pl,n⟩=>bZ (t a i σ J _ F n) λd c ⟨u,g,E,p,m⟩=>?_);rw[evalPart_none];show VQ ?_;let D:Inv X a σ g {c with heap:=c.heap.push {cls:= .type "slice",data:= .fields #[f,d,.none]}}:=E.kept (t':=c.toks) λb K q=>VJ _ q;obtain⟨T,L,C,w,A⟩:=y a {c with heap:=c.heap.push {cls:= .type "slice",data:= .fields #[f,d,.none]}} σ g x v f d l u c.heap.objs.size Q D k (Heap.IsSliceOf.new ..) pl p m;change wpAny (model X.prog X.w) X.A (subscriptTail e (.Slice lo hi none p2) v (.ref c.heap.objs.size)) (EP X a σ Q) X.xe {c with heap:=c.heap.push {cls:= .type "slice",data:= .fields #[f,d,.none]}};show tail_any (ops:=[.ref c.heap.objs.size,v]) w C A (by with_unfolding_all rfl)
def qB(xs:List V)(lo hi:Option Int):List V:=(xs.drop (HT.cn xs.length 0 lo)).take (HT.cn xs.length xs.length hi-HT.cn xs.length 0 lo)
def uW(xs:List V)(lo hi:Option Int):(qB xs lo hi).length<=xs.length:=by
 unfold qB;rw[W4,Yn];lia
def UQ(K:PySem.W.Frag):V->Option Int->Option Int->Hp->VK->Prop:=λx lo hi H Q=>∃a b,x= .ref a/\ji K H a b/\
 ¬(HT.cn b.length 0 lo=0/\HT.cn b.length b.length hi=b.length)/\∀p,H p=none->Q (.ref p) (upd H p (.tup (qB b lo hi)))
def PY:HG X (UQ X.K):=by
 intro g s σ H x v u t lo hi w Q I k p pl l h;obtain⟨a,d,rfl,m,n,q⟩:=h;cases k;obtain⟨f,r,j,i⟩:=I.tuple m;let c:f.toArray.size=d.length:=by rw[VW];show r.length.symm
 show⟨"tuple",_,Xf.lookup,j.typeIs,?_⟩;show HT.uO j p pl l (by rw[c];show n) ?_ (by rw[c];show i);rw[c];show⟨.ref s.heap.objs.size,_,I.laid (t':=s.toks) (o:= .tup (qB d lo hi)) (λb y q=>VJ _ q) (VL _) ?_,rfl,q _ (I.aH.fresh (VL _))⟩;show⟨VU (uW d lo hi) i,_,(r.drop (HT.cn d.length 0 lo)).take (HT.cn d.length d.length hi-HT.cn d.length 0 lo),IsTup.new _ _⟩
def RZ(K:PySem.W.Frag):R2:=λx y H Q=>∃a b d c,x= .ref a/\y= .ref b/\ji K H a d/\ji K H b c/\d≠ []/\d.length+c.length<=sizeLine/\
 (c=[]->Q (.ref a) H)/\(c≠ []->∀p,H p=none->Q (.ref p) (upd H p (.tup (d++c))))
def Vals.uD(r:Vals xs us):us=[]↔xs=[]:=by
 cases r with
 |nil=>simp
 |cons _ _=>simp
def NN:bU X (binaryOp .Add) (RZ X.K):=by
 intro f s σ H x y v u Q I m l h;obtain⟨a,b,k,j,rfl,rfl,C,B,A,i,p,n⟩:=h;cases m;cases l;obtain⟨t,d,r,_⟩:=I.tuple C;obtain⟨g,c,p2,_⟩:=I.tuple B;show HT.Od r p2 (λz=>A (d.uD.mp z)) (λz=>⟨.ref a,H,I,rfl,p (c.uD.mp z)⟩) (λz=>?_) (by rw[<-d.length,<-c.length];show i);show⟨.ref s.heap.objs.size,_,I.laid (t':=s.toks) (o:= .tup (k++j)) (λb D q=>VJ _ q) (VL _) ?_,rfl,n (λw=>z (c.uD.mpr w)) _ (I.aH.fresh (VL _))⟩;show⟨by rw[Wu];show i,_,d.append c,IsTup.new _ _⟩
end
def ox(n:Nat)(i:Int):Option Nat:=if 0<=i then(if i<n then some i.toNat else none)else if-(n:Int)<=i then some (i+n).toNat else none
def dN{α:Type}(xs:List α)(i:Int):Option α:=(ox xs.length i).bind λj=>xs[j]?
def DZ(h:ox n i=some j):seqIndex? i n=some j/\j<n/\ -(n:Int)<=i/\i<n:=by
 unfold ox at h;by_cases b:0<=i
 . rw[VN b]at h;by_cases a:i<n
   . rw[VN a]at h;let e:i.toNat=j:=W0 h;show⟨by rw[seqIndex_of b a,e],by lia,by lia,a⟩
   . rw[VM a]at h;cases h
 . rw[VM b]at h;by_cases a: -(n:Int)<=i
   . rw[VN a]at h;let e:(i+n).toNat=j:=W0 h;show⟨by rw[seqIndex_neg (by lia) a,e],by lia,a,by lia⟩
   . rw[VM a]at h;cases h
def x5{α:Type}{xs:List α}{v:α}(h:dN xs i=some v):∃j,seqIndex? i xs.length=some j/\xs[j]?=some v/\j<xs.length/\ -(xs.length:Int)<=i/\i<xs.length:=by
 unfold dN at h;cases e:ox xs.length i with
 |none=>rw[e]at h;cases h
 |some j=>
  rw[e]at h;obtain⟨d,c,b,a⟩:=DZ e;show⟨j,d,h,c,b,a⟩
def fP{α:Type}{xs:List α}{j:Nat}{v:α}(h:xs[j]?=some v):dN xs (j:Int)=some v:=by
 let a:j<xs.length:=(VI.mp h).1
 let e:ox xs.length (j:Int)=some j:=by
  unfold ox;rw[VN (by lia),VN (by lia)];simp
 unfold dN;rw[e];show h
def ux(b:Expr):Prop:=∀o i,subscripted b false o i=operate [o,i] (getItem o i)
def Ll(X:Cx)(r:R2):Prop:=
 ∀(value slice:Expr) (pins:List (Addr×Obj)) (s:Shared) (σ:St) (H:Hp) (x y:V) (v u:Value) (Q:VK),Inv X pins σ H s->RelV x v->RelV y u->r x y H Q->
  subscripted slice false v u=operate [v,u] (getItem v u)->wpAny (model X.prog X.w) X.A (subscriptTail value slice v u) (EP X pins σ Q) X.xe s
def Rv(X:Cx)(id:String)(r:V->List V->Hp->VK->Prop):Prop:=
 ∀(a:List (Addr×Obj)) (s:Shared) (σ:St) (H:Hp) (x:V) (xs:List V) (v:Value) (us:List Value) (Q:VK),Inv X a σ H s->RelV x v->Vals xs us->r x xs H Q->
  wpAny (model X.prog X.w) X.A (call (.builtin id) (v::us)) (EP X a σ Q) X.xe s
section
variable {X:Cx}{a b:Expr}{ta tb:TE}{pos:Pos}
def Sg(g:Ll X r)(j:PE X a ta)(i:PE X b tb)(hs:ux b):PE X (.Subscript a b pos) (GZ r ta tb):=by
 intro c s σ H Q I h;show Subscript_ (K8 j i I h λv u d x y l k f e q=>g a b c d σ l x y v u Q k f e q (hs _ _))
def UN(K:PySem.W.Frag):R2:=λx y H Q=>∃p c i v,x= .ref p/\y= .int i/\mO K H p c/\dN c i=some v/\Q v H
def Uh(K:PySem.W.Frag):R2:=λx y H Q=>∃p c i v,x= .ref p/\y= .int i/\ji K H p c/\dN c i=some v/\Q v H
def D9:Ll X (UN X.K):=by
 intro value slice c s σ H x y v u Q I B A h l;obtain⟨p,K,i,z,rfl,rfl,C,E,q⟩:=h;cases B;obtain⟨t,rfl⟩:=A;obtain⟨g,r,pl,L⟩:=I.list C;obtain⟨j,e,J,N,G,F⟩:=x5 E;obtain⟨w,n,f⟩:=r.get J;let D:=r.length;let M:=tE;let d:EP X c σ Q w s:=⟨z,H,I,f,q⟩
 by_cases m:0<=i
 . have k:i.toNat=j:=by
    rw[seqIndex_of m F]at e;show W0 e
   show item_listR pl.isList m (by lia) (by rw[k];simpa using n) d l
 . have k:(i+(g.toArray.size:Int)).toNat=j:=by
    rw[seqIndex_neg (by lia) G]at e;rw[VW,<-D];show W0 e
   show subscriptTail_builtinR (x:=w) pl.isList.typeIs slot_list_getitem.lookup
    (wpAny_getItem_list_neg (Q:=λr o=>r=w/\EP X c σ Q r o) pl.isList (by lia) (by rw[VW]<;>lia) (by lia) (by rw[k];simpa using n) ⟨rfl,d⟩) l
def Qv:Ll X (Uh X.K):=by
 intro value slice c s σ H x y v u Q I k g h m;obtain⟨p,E,i,z,rfl,rfl,n,A,q⟩:=h;cases k;obtain⟨t,rfl⟩:=g;obtain⟨l,r,pl,F⟩:=I.tuple n;obtain⟨j,C,B,L,K,J⟩:=x5 A;obtain⟨w,D,d⟩:=r.get B;let o:=r.length;let G:=tE;let e:EP X c σ Q w s:=⟨z,H,I,d,q⟩
 show subscriptTail_builtinR (x:=w) pl.typeIs slot_tuple_getitem.lookup
  (getItem_tuple (j:=j) (Q:=λr f=>r=w/\EP X c σ Q r f) pl (by lia) (by lia) (by rw[VW,<-o];show C) (by simpa using D) ⟨rfl,e⟩) m
def E4(its:List Value)(n j:Nat)(u:Value):Obj.mapSeq (·.setIfInBounds j u) {cls:= .type "list",data:= .seq its.toArray n}= {cls:= .type "list",data:= .seq (its.set j u).toArray n}:=by
 simp[Obj.mapSeq]
def Inv.lst{pins:List (Addr×Obj)}{σ:St}{H:Hp}{s:Shared}{p:Addr}{xs:List V}(I:Inv X pins σ H s)(h:H p=some (.lst xs)):
 ∃(its:List Value) (n:Nat),Vals xs its/\s.heap.get? p=some {cls:= .type "list",data:= .seq its.toArray n}/\xs.length<=sizeLine:=by
 obtain⟨z,its,n,r,e⟩:=I.aH p _ h;show⟨its,n,r,e,z⟩
def Inv.Rh{pins:List (Addr×Obj)}{σ:St}{H:Hp}{s:Shared}{p:Addr}{xs ys:List V}{its its':List Value}{n c:Nat}{f:Obj->Obj}(I:Inv X pins σ H s)(h:H p=some (.lst xs))
 (i:s.heap.get? p=some {cls:= .type "list",data:= .seq its.toArray n}) (d:f {cls:= .type "list",data:= .seq its.toArray n}= {cls:= .type "list",data:= .seq its'.toArray c}) (r:Vals ys its') (g:ys.length<=sizeLine) (t:Nat):
 Inv X pins σ (upd H p (.lst ys)) {s with heap:=s.heap.update p f,toks:=t}:=by
 let e:(s.heap.update p f).get? p=some {cls:= .type "list",data:= .seq its'.toArray c}:=by
  rw[Y0 f i (by rw[d]<;>rfl),d]
 show I.write (x:=p) (e:=p) (by rw[h];trivial) (.inl rfl) (λb u j q=>(Heap.get?_update_other _ _ (VO j)).trans q) ⟨_,e⟩ ?_;show⟨g,its',c,r,e⟩
def uk:V->V->V->Hp->(Hp->Prop)->Prop:=λo i v H Q=>∃p c k j,o= .ref p/\i= .int k/\H p=some (.lst c)/\ox c.length k=some j/\Q (upd H p (.lst (c.set j v)))
def set_list:QK X uk:=by
 intro c s σ H o i v G J u Q I C D B h;obtain⟨p,A,k,j,rfl,rfl,m,F,q⟩:=h;cases C;obtain⟨t,rfl⟩:=D;obtain⟨d,n,r,f,E⟩:=I.lst m;obtain⟨e,L,x,w⟩:=DZ F;let g:=r.length;let K:=tE
 let z:Inv X c σ (upd H p (.lst (A.set j v))) {s with heap:=s.heap.update p (Obj.mapSeq (·.setIfInBounds j u))}:=
  I.Rh m f (E4 d n j u) (r.set B j) (by rw[V0];show E) s.toks
 by_cases y:0<=k
 . have l:k.toNat=j:=by
    rw[seqIndex_of y w]at e;show W0 e
   show PySem.W.ki_setAt f y (by lia) (by rw[VW,<-g];show w) (by rw[l];show⟨_,z,q⟩)
 . have l:(k+(d.toArray.size:Int)).toNat=j:=by
    rw[seqIndex_neg (by lia) x]at e;rw[VW,<-g];show W0 e
   show PySem.W.ki_setBack f (by lia) (by rw[VW,<-g];show x) (by lia) (by rw[l];show⟨_,z,q⟩)
def BZ(lo c:Option Int)(n:Nat):(sliceBounds lo c none n).1=((HT.cn n 0 lo:Nat):Int)/\(sliceBounds lo c none n).2.1=((HT.cn n n c:Nat):Int)/\(sliceBounds lo c none n).2.2=1:=by
 show⟨?_,?_,rfl⟩
 . cases lo with
   |none=>simp[sliceBounds,HT.cn]
   |some i=>
    simp![sliceBounds,HT.cn,Option.getD_none,show(1:Int)>0 by decide,Yv];by_cases h:i<0
    . simp![h,Yv]<;>lia
    . simp![h,Xl]<;>lia
 . cases c with
   |none=>simp[sliceBounds,HT.cn]
   |some i=>
    simp![sliceBounds,HT.cn,Option.getD_none,show(1:Int)>0 by decide,Yv];by_cases h:i<0
    . simp![h,Yv]<;>lia
    . simp![h,Xl]<;>lia
def zM(its:List Value)(lo c:Option Int):slicePick its.toArray lo c none=((its.drop (HT.cn its.length 0 lo)).take (HT.cn its.length its.length c-HT.cn its.length 0 lo)).toArray:=by
 obtain⟨f,e,d⟩:=BZ lo c its.toArray.size;unfold slicePick;rw[f,e,d];simp![sliceRange_one,pick_run,VW]<;>rfl
def UB(K:PySem.W.Frag):V->Option Int->Option Int->Hp->VK->Prop:=λx lo d H Q=>∃a c,x= .ref a/\mO K H a c/\∀p,H p=none->Q (.ref p) (upd H p (.lst (qB c lo d)))
def DL:HG X (UB X.K):=by
 intro f s σ H x v t p lo e u Q I i n pl j h;obtain⟨a,c,rfl,m,q⟩:=h;cases i;obtain⟨k,r,g,l⟩:=I.list m;let d:=r.length;show⟨"list",_,slot_list_getitem.lookup,g.isList.typeIs,?_⟩;show wpAny_getItem_list_slice g.isList n pl j .none (by simp) ?_ (by rw[VW]<;>lia);rw[zM,<-d];show⟨.ref s.heap.objs.size,_,I.laid (t':=s.toks) (o:= .lst (qB c lo e)) (λb w q=>VJ _ q) (VL _) ?_,rfl,q _ (I.aH.fresh (VL _))⟩;show⟨VU (uW c lo e) l,_,0,(r.drop (HT.cn c.length 0 lo)).take (HT.cn c.length c.length e-HT.cn c.length 0 lo),V4 _ rfl⟩
def Bu:bJ X (.builtin "len") (λxs H Q=>∃p ys,xs=[.ref p]/\(mO X.K H p ys\/ji X.K H p ys)/\Q (.int ys.length) H):=by
 intro g s σ H xs k Q I r h;obtain⟨p,ys,rfl,d,q⟩:=h;obtain⟨u,rfl,i⟩:=vals1 r;cases i;let l:=tE;rcases d with d|d
 . obtain⟨f,e,pl,j⟩:=I.list d;let c:=e.length;show Calls.call_len_list pl.isList (by simp![VW]<;>lia) ⟨.int ys.length,H,I.tok _,⟨s.toks+1,by rw[VW,c]⟩,q⟩
 . obtain⟨f,e,pl,j⟩:=I.tuple d;let c:=e.length;show len_tuple pl (by simp![VW]<;>lia) ⟨.int ys.length,H,I.tok _,⟨s.toks+1,by rw[VW,c]⟩,q⟩
def Bw:bJ X (.builtin "len") (λxs H Q=>∃z,xs=[.str z]/\z.length<=sizeLine/\Q (.int z.length) H):=by
 intro c s σ H xs d Q I r h;obtain⟨z,rfl,e,q⟩:=h;obtain⟨u,rfl,t,rfl⟩:=vals1 r;let f:=tE;show len_str (by lia) ⟨.int z.length,H,I.tok _,⟨_,rfl⟩,q⟩
def uc:bJ X (.type "list") (λxs H Q=>∃p ys,xs=[.ref p]/\(mO X.K H p ys\/ji X.K H p ys)/\∀l,H l=none->Q (.ref l) (upd H l (.lst ys))):=by
 intro i s σ H xs B Q I r h;obtain⟨p,ys,rfl,m,q⟩:=h;obtain⟨u,rfl,A⟩:=vals1 r;cases A
 let v:∀(c:List Value),Vals ys c->ys.length<=sizeLine->∀(d:Heap) (g:Nat),(∀b z,s.heap.get? b=some z->d.get? b=some z)->
  d.get? s.heap.objs.size=some {cls:= .type "list",dict:=none,data:= .seq c.toArray g,slots:= #[]}->EP X i σ Q (.ref s.heap.objs.size) {s with heap:=d}:=λc f k d g j e=>
  ⟨.ref s.heap.objs.size,_,I.laid (t':=s.toks) j (VL _) (show dm X.prog X.w _ d _ (.lst ys)from⟨k,c,g,f,e⟩),rfl,q _ (I.aH.fresh (VL _))⟩
 rcases m with m|m
 . obtain⟨c,f,pl,k⟩:=I.list m;let t:=f.length;obtain⟨o,w,y,n,x⟩:=pl.isList;show call_list_seq p (.inl rfl) w y x (λd g j e=>v c f k d g j e) (by simp![VW]<;>lia)
 . obtain⟨c,f,pl,k⟩:=I.tuple m;let t:=f.length;obtain⟨o,w,y,n,x⟩:=pl;show call_list_seq p (.inr rfl) w y x (λd g j e=>v c f k d g j e) (by simp![VW]<;>lia)
def zX:bJ X (.type "tuple") (λxs H Q=>∃p ys,xs=[.ref p]/\((mO X.K H p ys/\∀l,H l=none->Q (.ref l) (upd H l (.tup ys)))\/(ji X.K H p ys/\Q (.ref p) H))):=by
 intro c s σ H xs w Q I r h;obtain⟨p,ys,rfl,h⟩:=h;obtain⟨u,rfl,n⟩:=vals1 r;cases n;rcases h with⟨i,q⟩|⟨i,q⟩
 . obtain⟨d,g,pl,j⟩:=I.list i;let k:=g.length;show call_tuple_list pl.isList (λf t=>?_) (by simp![VW]<;>lia);let m:Inv X c σ H {s with heap:=f}:=I.kept (t':=s.toks) t
   let v:Inv X c σ (upd H f.objs.size (.tup ys)) {s with heap:=f.push {cls:= .type "tuple",data:= .seq d.toArray}}:=
    m.laid (t':=s.toks) (λb o e=>VJ _ e) (VL _) (show dm X.prog X.w _ _ _ (.tup ys)from⟨j,d,g,IsTup.new _ _⟩)
   show⟨.ref f.objs.size,_,v,rfl,q _ (m.aH.fresh (VL _))⟩
 . obtain⟨d,g,pl,j⟩:=I.tuple i;show call_tuple_same pl ⟨.ref p,H,I,rfl,q⟩
def Uc(K:PySem.W.Frag)(T:String)(x:V)(H:Hp):Prop:=match x with
 | .str _=>T="str"
 | .int _=>T="int"
 | .ref p=>(T="list"/\∃d,mO K H p d)\/(T="tuple"/\∃o,K.lookup p=some o/\o.cls= .type "tuple"/\o.dict=none)\/
    (T="dict"/\((∃c,H p=some (.dK c))\/∃c,H p=some (.dT c)))\/(T="set"/\∃S n,H p=some (.set S n))
 |_=>False
def PK{pins:List (Addr×Obj)}{σ:St}{H:Hp}{s:Shared}{T:String}{x:V}{v:Value}(I:Inv X pins σ H s)(r:RelV x v)(g:Uc X.K T x H):
 s.TypeIs v T/\∀a,v= .ref a->∃l,s.heap.get? a=some l/\l.dict=none:=by
 cases x with
 |str z=>
  obtain⟨t,rfl⟩:=r;cases (show T="str" from g);show⟨typeIs_str s z t,λ_ e=>nomatch e⟩
 |int i=>
  obtain⟨t,rfl⟩:=r;cases (show T="int" from g);show⟨aaC s i t,λ_ e=>nomatch e⟩
 |ref p=>
  cases r;rcases g with⟨rfl,w,q⟩|⟨rfl,o,d,u,j⟩|⟨rfl,d⟩|⟨rfl,S,n,d⟩
  . obtain⟨m,_,pl,_⟩:=I.list q;show⟨pl.isList.typeIs,λa e=>?_⟩;cases e;obtain⟨o,n,e,c,j,_⟩:=pl;show⟨o,e,j⟩
  . show⟨⟨o,I.g9 p o d,u⟩,λa e=>?_⟩;cases e;show⟨o,I.g9 _ o d,j⟩
  . have z:∃o,s.heap.get? p=some o/\o.ExactDict:=by
     rcases d with⟨h,d⟩|⟨h,d⟩
     . obtain⟨_,_,_,_,o,_,_,e,f,_⟩:=I.aH p _ d;show⟨o,e,f⟩
     . obtain⟨_,_,_,_,o,_,_,e,f,_⟩:=I.aH p _ d;show⟨o,e,f⟩
    obtain⟨o,e,f⟩:=z;show⟨⟨o,e,f.1⟩,λa k=>?_⟩;cases k;show⟨o,e,f.2.1⟩
  . obtain⟨o,_,_,_,e,f,_⟩:=I.aH p _ d;show⟨⟨o,e,f.1⟩,λa k=>?_⟩;cases k;show⟨o,e,f.2.1⟩
 |_=>show False.elim g
def PC(K:PySem.W.Frag)(T:String)(r:V->List V->Hp->VK->Prop)(d:TE)(t:TA):TE:=λσ H Q=>d σ H λx H1=>Uc K T x H1/\t σ H1 λc e=>r x c e Q
variable {o e:Expr}{es:List Expr}{to:TE}{t:TA}{name:Str}{apos cpos:Pos}{T id:String}{r:V->List V->Hp->VK->Prop}
def MN(B:PlainAttrs T)(slot:Slot T name id)(j:typeOf (.builtin id)=pure (.type "method_descriptor"))(D:Rv X id r)(C:PE X o to)(E:PA X (e::es) t)
 (g:attributeBase o name X.env (eval o X.env)=eval o X.env:=by rfl)
 (i:((backTo cpos (starEach (e::es) X.env)).all (λx=> !x.1)&&(backToKw cpos (keywordEach [] X.env)).all (λx=>x.1.isSome)
   &&decide ((e::es).length+([]:List Keyword).length+(if([]:List Keyword).isEmpty then 0 else 1)<30))=true:=by rfl)
 (f:(apos.endLine==cpos.line)=true:=by rfl) (hs:starEach (e::es) X.env=(false,eval e X.env)::starEach es X.env:=by rfl) (d:(backTo cpos (starEach es X.env)).any (·.1)=false:=by rfl):
 PE X (.Call (.Attribute o name apos) (e::es) [] cpos) (PC X.K T r to t):=by
 intro c s σ H Q I h;show wpAny_Call_method_late g i f rfl (bZ (C c s σ H _ I h) λv w ⟨x,H1,m,k,q,A⟩=>?_);obtain⟨G,F⟩:=PK m k q;show⟨T,id,B,slot,j,G,F,?_⟩;let l:=E cpos c w σ H1 _ m A;rw[hs]at l⊢;show Calls.callWith_builtin (by change(false||(backTo cpos (starEach es X.env)).any (·.1))=false;rw[d]<;>rfl) (Calls.evalArgs_plain ?_);show bZ l λp u ⟨n,K,J,y,z⟩=>D c u σ K x n v p Q J k y z
/-xs.append(e),list.index on a module's tuple .. are Rv facts of 06m-/
end
def Ue(X:Cx)(id:String)(r:V->List V->Hp->VK->Prop):Prop:=
 ∀(a:List (Addr×Obj)) (s:Shared) (σ:St) (H:Hp) (x:V) (xs:List V) (v:Value) (us:List Value) (Q:VK),Inv X a σ H s->RelV x v->Vals xs us->r x xs H Q->
  wpAny (model X.prog X.w) X.A (call (.builtin id) (v::us)) (EP X a σ Q) X.xe s
def Vals.one:∀ {x:V} {us:List Value},Vals [x] us->∃u,us=[u]/\RelV x u
 |_,_,.cons r .nil=>⟨_,rfl,r⟩
def Vals.rep(h:Vals xs us):∀k:Nat,Vals (List.replicate k xs).flatten (List.replicate k us).flatten
 |0=> .nil
 |k+1=>by
  rw[W3,W3,XN,XN];show Vals.append h (Vals.rep h k)
def foldl_rep(its:List Value):∀(k:Nat) (acc:List Value),
 List.foldl (λb a=>b++a) acc.toArray (List.replicate k its.toArray)=(acc++(List.replicate k its).flatten).toArray
 |0,acc=>by simp
 |k+1,acc=>by
  let e:acc.toArray++its.toArray=(acc++its).toArray:=by simp
  let c:(acc++its)++(List.replicate k its).flatten=acc++(List.replicate (k+1) its).flatten:=by
   rw[W3,XN,Yk]
  rw[<-c,<-foldl_rep its k (acc++its),<-e,W3,YM]
section
variable {X:Cx}{pins:List (Addr×Obj)}{σ:St}{H:Hp}{s:Shared}{l b:Addr}{xs ys zs:List V}
def Inv.Qf{its its':List Value}{f:Array Value->Array Value}(I:Inv X pins σ H s)(i:H l=some (.lst xs))
 (e:s.heap.get? l=some {cls:= .type "list",data:= .seq its.toArray n}) (g:f its.toArray=its'.toArray) (c:Vals ys its') (a:ys.length<=sizeLine):
 Inv X pins σ (upd H l (.lst ys)) {s with heap:=s.heap.update l (Obj.mapSeq f),toks:=t'}:=by
 let q:=PySem.IsL.update e f;rw[g]at q;show I.write (x:=l) (e:=l) (by rw[i];show trivial) (.inl rfl) (λj u h d=>(Heap.get?_update_other s.heap (Obj.mapSeq f) (VO h)).trans d) ⟨_,q⟩ ?_;show⟨a,its',_,c,q⟩
def Inv.Km{its:List Value}(I:Inv X pins σ H s)(c:Vals ys its)(a:ys.length<=sizeLine):
 Inv X pins σ (upd H s.heap.objs.size (.lst ys)) {s with heap:=s.heap.push {cls:= .type "list",data:= .seq its.toArray},toks:=t'}:=
 I.laid (λ_ _ q=>VJ _ q) (VL _) ⟨a,its,0,c,V4 _ rfl⟩
def Inv.fresh(I:Inv X pins σ H s):H s.heap.objs.size=none:=I.aH.fresh (VL _)
def Inv.Pb(I:Inv X pins σ H s)(a:H l=some (.lst xs)):xs.length<=sizeLine/\∃(its:List Value) (n:Nat),Vals xs its/\xs.length=its.length/\s.heap.get? l=some {cls:= .type "list",data:= .seq its.toArray n}:=by
 obtain⟨z,its,n,r,e⟩:=I.aH l _ a;show⟨z,its,n,r,r.length,e⟩
def KQ(h:n<=sizeLine):Builtin.List.listTooLong n=false:=by
 unfold Builtin.List.listTooLong;show Wt (by lia)
end
section
variable {X:Cx}
def Eo:V->List V->Hp->VK->Prop:=λx b H Q=>∃l a y,x= .ref l/\b=[y]/\H l=some (.lst a)/\a.length<sizeLine/\Q .az (upd H l (.lst (a++[y])))
def zi:Ue X "list.append" Eo:=by
 intro b s σ H x j v k Q I d f h;obtain⟨l,i,y,rfl,rfl,c,m,q⟩:=h;cases d;obtain⟨u,rfl,g⟩:=f.one;obtain⟨z,a,n,r,o,e⟩:=I.Pb c;show Y4 F.slot_list_append ⟨_,e,rfl⟩ F.entry_list_append (F.args_list_append_2 _ _) (PySem.list_append l a.toArray n u (by rw[VW];lia)) ⟨e,?_⟩;show⟨.az,_,I.Qf (its':=a++[u]) c e (by simp) (r.append (.cons g .nil)) ?_,rfl,q⟩;rw[Wu,ZL];lia
def len_rep{α:Type}(xs:List α)(k:Nat):(List.replicate k xs).flatten.length=k*xs.length:=by
 induction k with
 |zero=>simp
 |succ k a=>rw[W3,XN,Wu,a,aaL,abo]
end
section
variable {prog:Program}{w:World}{A:Around}{E:Value->Shared->Prop}{s:Shared}
set_option maxRecDepth 100000 in
end
end L2
namespace Att
open PySem PySem.W PySem.Calls PyProof.Rows
def xy:∀(ns:List Int) (vs:List Value),WellAll P h vs (ns.map WData.int)->IntsAre vs ns:=by
 intro ns;induction ns with
 |nil=>
  intro vs w;rw[List.map_nil]at w;cases w;show .nil
 |cons n ns c=>
  intro vs w;rw[Wq]at w;cases w with
  |cons a b=>
   cases a;show .cons _ _ (c _ b)
def Ji{l:OpenLaw}(u:l.most=some n){h:Heap}
 (c:l.row.toRowW.claim.pre args=true) (j:WellAll P h b args):
 ∃a vs ns,b=[Value.ref a]/\args=[WData.list (ns.map WData.int)]/\h.get? a=some {cls:= .type "list",data:= .seq vs.toArray}/\IntsAre vs ns/\ns.length<=n:=by
 let k:WShape.hasAll [] args [.list .int]=true:=(pre_splitW c).1;let m:l.pre.holds [] {args:=args}=true:=(pre_splitW c).2;obtain⟨d,r,rfl,x,w⟩:=hasAllW_cons k;obtain rfl:=hasAllW_nil w;obtain⟨y,rfl,v⟩:=hasW_list x;obtain⟨ns,rfl⟩:=items_int v
 let e:ns.length<=n:=by
  unfold OpenLaw.pre at m
  let i:(WTm.not (.lt (.lit (.int (n:Int))) (.len (.arg 0)))).holds [] {args:=[.list (ns.map .int)]}=true:=by
   let i:=(holds_andW m).1;rw[u]at i;show i
  let g:=condW_of i (w_not (w_lt w_lit (w_len_list (w_arg rfl))));rw[VH]at g;show W5 λq=>?_;let s:(n:Int)<((ns.length:Nat):Int):=by lia
  first
   |(rw[WS s]at g;show absurd g (by decide))
   |(simp at g;lia)
 cases j with
 |cons p o=>
  cases o;cases p with
  |list t f=>show⟨_,_,ns,rfl,rfl,t,xy ns _ f,e⟩
def H0(l:OpenLaw)(args:List WData):l.row.toRowW.claim.post args (.bool true) args=true:=
 postW_of (r:=l.row.toRowW) (X:=(true==true))
  (show WShape.has [] (.bool true) .bool=true by first|rfl|decide|simp[WShape.has,WShape.arms,WShape.armsAll])
  (show(WTm.eq .res (.lit (.bool true))).value [] {args:=args,res:=some (.bool true),after:=args}=some (.bool (true==true))from w_eq_bool (w_res rfl) w_lit) rfl
def De{l:OpenLaw}{d:DefRec}
 (x:l.most=some n) (i:d.params.defaults=[])
 (call:∀(w:World) (s₀ s₁:Shared) (mg mb:Str->Option Value) (fa:Addr) (o:Obj) (pm cd doc:Value) (a:Addr) (vs:List Value) (ns:List Int),
   Ground q loose [] XP w s₀ mg mb s₁.heap->YP w s₁.heap->
   s₁.heap.get? fa=some o->o.data= .func (docDef d.name d.params d.body d.scope pm cd doc)->s₁.heap.CodeRec cd d.name->mg d.name=some (.ref fa)->
   s₁.heap.get? a=some {cls:= .type "list",data:= .seq vs.toArray}->IntsAre vs ns->ns.length<=n->s₁.gens= #[]->
   codeAny (model l.prog w) callerA (.call (.ref fa) ⟨[.ref a],[]⟩) (λr s'=>r= .ok (.ret (.bool true))/\OldK s₁.heap s'.heap/\s'.os=s₁.os/\AllBare s'.gens) s₁):
 WalkO q loose XP YP l.row.toRowW d [] (λf vs=>PySem.call f vs):=by
 intro w s₀ s₁ mg mb G Y fa o pm cd doc F kV v B j p h A s k H b m t g z;obtain rfl:F= .none:=Dflts.none p i;obtain rfl:kV= .none:=Dflts.noKw p;obtain⟨a,vs,ns,rfl,rfl,c,hints,e⟩:=Ji x b g;show enter_call (Zh (call w s₀ s₁ mg mb fa o pm cd doc a vs ns G Y v (fd_plain B) j h c hints e A) λr s' u=>?_);obtain⟨rfl,E,D,C⟩:=u;show⟨.inl ⟨.bool true,.bool true,[],rfl,λ_=>rfl,.bool true,H0 l _,λ_=>⟨List.Pairwise.nil,λ_ y=>(nomatch y)⟩⟩,E,D,C⟩
end Att
namespace L2
open PySem PySem.Spec PyProof.Rows
def mH:∀ {vs:List Value} {ns:List Int},IntsAre vs ns->Vals (ns.map V.int) vs
 |_,_,.nil=> .nil
 |_,_,.cons n t h=> .cons ⟨t,rfl⟩ (mH h)
end L2
/-THE LAST THEOREM (shape;LID,My.*are yours):
 My.Adr:a structure of the addresses that your layer names (classes,functions);My.Txt K t:a structure (Prop) of the equations over K;
 My.txt_mk:{K} {implicit addresses ..} (e1:nsIn K mainGlobals "law"=some (some (.ref f))) (e2:K.lookup f=some ⟨oc,od,.func (fnOf "law" "law" params body scope dV kV doc pm an cdv ct),sl⟩) (e3:codeIn K cdv "law"=true) .. :∃t,My.Txt K t
set_option maxRecDepth 100000 in
set_option maxHeartbeats 0 in
(the tactic k_is has no namespace:write k_is)-/
namespace L2
open PySem PySem.Spec PyProof.Rows
def inClass(s:Stmt)(j:Nat):Stmt:=match s with
 | .ClassDef _ _ _ a _ _ _ _ _ _ _=>a.getD j (.Pass ⟨0,0,0,0⟩)
 |_=> .Pass ⟨0,0,0,0⟩
def ko(s:Stmt):Arguments:=match s with
 | .FunctionDef _ a _ _ _ _ _ _ _ _=>a
 |_=>{posonlyargs:=[],args:=[],vararg:=none,kwonlyargs:=[],kw_defaults:=[],kwarg:=none,defaults:=[]}
def gf(s:Stmt):List Stmt:=match s with
 | .FunctionDef _ _ b _ _ _ _ _ _ _=>b
 |_=>[]
def bf(s:Stmt):Scope:=match s with
 | .FunctionDef _ _ _ _ _ _ a _ _ _=>a
 |_=>{kind:= .function,names:=[],isGenerator:=false,isCoroutine:=false}
abbrev fN:uU:=λ_ _ _ _ _ _=>False
abbrev E0:XK:=λ_ _ _=>False
def Ao:Passes fN X E0:=λ_ _ _ _ _ _ _ h=>h.elim
structure oo(K:PySem.W.Frag)(x qual:Str)(st:Stmt)(f:Addr)(fd:FuncData):Prop where
 ex:∃(oc:Value) (od:Option Addr) (kV doc pm:Value) (an:Option Addr) (cdv ct:Value) (osl:Array (Option Value)),
  fd=PySem.W.fnOf x qual (ko st) (gf st) (bf st) .none kV doc pm an cdv ct/\K.lookup f=some ⟨oc,od,.func fd,osl⟩/\PySem.W.codeIn K cdv qual=true
 kp:PySem.W.keepIn K (.ref f)=true
section
variable {P:Program}{w:World}{K:PySem.W.Frag}{mg:Str->Option Value}{base:Heap}
def oo.ok{x a:Str}{st:Stmt}{f:Addr}{fd:FuncData}{N d:List Str}{k:Nat}{sp:Sp}(F:oo K x a st f fd)(S:ma N d (bf st))(len:∀vs H Q E,sp vs H Q E->vs.length=d.length)
 (c:∀(b:Value) (A:Around) (outer:List Env) (s:Shared) (H:Hp) (vs:List V) (Q:VK) (E:XK),cJ k (A.deeper (envOfC a (bf st) s.heap.objs.size f b))->sp vs H Q E->
   ∃t,h_ (pC fN P w K mg base N a (bf st) f b A outer s H E).uV (gf st) t/\t {nx:=λ_ n=>Q .az n,rt:=Q} (start N vs) H):cY P w K mg base fN (k+1) f fd d sp:=by
 obtain⟨r,p,kV,m,o,v,b,u,i,rfl,j,g⟩:=F.ex;show Lr j g S len λA outer s H vs Q E l e=>?_;obtain⟨t,h,q⟩:=c b A outer s H vs Q E l e;show⟨t,h.uV,q⟩
def oo.binds{x a:Str}{st:Stmt}{f:Addr}{fd:FuncData}{c:List Str}(F:oo K x a st f fd)
 (h:∀(kV b d:Value) (an:Option Addr) (cdv ct:Value) (us:List Value),us.length=c.length->bindArgs (PySem.W.fnOf x a (ko st) (gf st) (bf st) .none kV b d an cdv ct) ⟨us,[]⟩=pure (c.zip us)):Binds K fd c []:=by
 obtain⟨j,i,kV,b,d,an,cdv,ct,e,rfl,k,g⟩:=F.ex;show .all (h kV b d an cdv ct)
def II{x a:Str}{st:Stmt}{f:Addr}{j:Value}{i h:Option Addr}{e:Array (Option Value)}{kV d g b ct:Value}(l:K.lookup f=some ⟨j,i,.func (PySem.W.fnOf x a (ko st) (gf st) (bf st) .none kV d g h b ct),e⟩)
 (c:PySem.W.codeIn K b a=true) (k:PySem.W.keepIn K (.ref f)=true):oo K x a st f (PySem.W.fnOf x a (ko st) (gf st) (bf st) .none kV d g h b ct):=⟨⟨j,i,kV,d,g,h,b,ct,e,rfl,l,c⟩,k⟩
end
def fe{A B:Prop}(h:A):if true=true then A else B:=by
 rw[VN rfl];show h
def Kw(H a:Hp):Prop:=∀b o,H b=some o->a b=some o
end L2
set_option maxHeartbeats 4000000
namespace Hd
open PySem PySem.W PySem.Calls PyProof.Rows
noncomputable def bt (P:Params):BT:=(.node (boot_o_0 P) (.node (boot_o_1 P) (.node (boot_o_3 P) (.node (boot_o_7 P) .nil .nil) .nil) (.node (boot_o_5 P) (.node (boot_o_9 P) .nil .nil) .nil)) (.node (boot_o_2 P) (.node (boot_o_4 P) (.node (boot_o_8 P) .nil .nil) .nil) (.node (boot_o_6 P) (.node (boot_o_10 P) .nil .nil) .nil)))
def Rr(P:Params):absHeap (bt P) 11 (boot_heap P).life=boot_heap P:=by kernel_rfl
noncomputable def run (p:Program) (w:World) (n:Nat) (a:Option Value):Nat->SharedT->Thread->Option SharedT
 |0,_,_=>none
 |k+1,s,t=>match through t with
  |true=>some s
  |false=>match Fast.tw6613529449190102663 n a t with
   |false=>none
   |true=>match Fast.tw10156331382660048174 (Fast.tw11892475500146522536 Fast.tw14364793385576792824) p w s t with
    |some (c,b)=>run p w n a k c b
    |none=>none
def Iv:∀ {k:Nat} {s s':SharedT} {t:Thread},run p w n a k s t=some s'->topRun treeTable p w n a k s.abs t=some s'.abs
 |0,_,_,_,h=>by cases h
 |k+1,s,s',t,h=>by
  unfold run at h;unfold topRun;cases d:through t with
  |true=>rw[d]at h;cases h;rfl
  |false=>
   rw[d]at h;rw[<-Fast.te6613529449190102663,<-Fast.te10156331382660048174,<-Fast.te11892475500146522536,<-Fast.te14364793385576792824]at h;cases c:stepOk n a t with
   |false=>simp![c]at h;cases h
   |true=>
    simp![c]at h;cases b:stepT (denote treeTable) p w s t with
    |none=>rw[b]at h;cases h
    |some r=>obtain⟨f,e⟩:=r;rw[b]at h;rw[stepT_spec b];show Iv h
noncomputable def b0 (w:World) (a:OsState):SharedT:=⟨bt w.params,11,(boot_heap w.params).life,⟨[]⟩,boot_drawn,boot_toks,a⟩
def PM(w:World)(a:OsState):(b0 w a).abs=⟨boot_heap w.params,⟨[]⟩,boot_drawn,boot_toks,a⟩:=by
 unfold b0 SharedT.abs;dsimp only;rw[Rr]
def left{p q:Program}{α:Type}{c:Shared->α}{g:World->α}
 (e:opening p=plainProg p.main.scope.names) (f:∀s,fenceModules? p s=some s) (l:Nat.ble 600 N=true)
 (h:∀(w:World) (os:OsState),(run p w 11 (some (.ref 6)) N (b0 w os) (topStub p)).bind (λs=>match staticsOk (importedModules p.main.body) (boot_heap w.params) s.abs.heap&&namesBound p s.abs.heap&&gensDone s.abs&&laidKept (boot_heap w.params) s.abs.heap with
   |true=>some (Fast.tw4187177175401517315 q loose (importedModules p.main.body) (λ_=>true) true s.abs,c s.abs)
   |false=>none)=some (openGood q loose,g w)):LeftO p q loose (λ_=>true) c g N:=λw=>by
 obtain⟨⟨j,m,d,k,os⟩,o,n⟩:=aa3.mp (boot_open e l f w);obtain⟨rfl,rfl,rfl,rfl⟩:j=boot_heap w.params/\m=⟨[]⟩/\d=boot_drawn/\k=boot_toks:=by simpa using n
 obtain⟨s,i,a⟩:=Option.bind_eq_some_iff.mp (h w os);let b:=Iv i;rw[PM]at b;rw[<-Fast.te4187177175401517315]at a;unfold openEnds;rw[o];change(topFrom treeTable p w N _).map _=_;unfold topFrom;rw[show((boot_heap w.params).isNs mainGlobals&&(⟨[]⟩:Array GenState).size==0)=true from by kernel_rfl];dsimp only;rw[show(boot_heap w.params).objs.size=11 from by kernel_rfl,show(boot_heap w.params).nsMap mainGlobals "__annotations__"=some (.ref 6)from by kernel_rfl,b];change((match staticsOk (importedModules p.main.body) (boot_heap w.params) s.abs.heap&&namesBound p s.abs.heap&&gensDone s.abs&&laidKept (boot_heap w.params) s.abs.heap with|true=>some s.abs|false=>none):Option Shared).map _=_;cases z:(staticsOk (importedModules p.main.body) (boot_heap w.params) s.abs.heap&&namesBound p s.abs.heap&&gensDone s.abs&&laidKept (boot_heap w.params) s.abs.heap)with
 |false=>rw[z]at a;cases a
 |true=>rw[z]at a;show a
abbrev e(x:Str)(t:Nat)(v:Value):Str×Nat×Value:=(x,t,v)
abbrev k(a:Addr)(o:Obj):Addr×Obj:=(a,o)
def no(P:Params)(n:Nat)(l:List (Str×Nat×Value)):Obj:=⟨.type "dict",none,.dict (l.map λe=>⟨PyData.keyHash P e.1,.str e.1 e.2.1,e.2.2⟩).toArray n,#[]⟩
def fd(st:Stmt)(x q:Str)(a:Value)(c:Addr):FuncData:=fnOf x q (L2.ko st) (L2.gf st) (L2.bf st) .none .none .none a none (.ref c) .none
def fq(st:Stmt)(x q:Str)(a:Value)(c:Addr):Obj:=⟨.type "function",none,.func (fd st x q a c),#[]⟩
def co(x q:Str)(t:Nat)(c e:Int)(a b:Addr)(u v:Value)(d:Addr)(i:Int)(z:Nat):Obj:=⟨.type "code",none,.fields #[.str x t,.str q (t+1),.str "/claim/cut.py" (t+2),.int c 0,.int e 0,.int 0 0,.int 0 0,.int 3 0,.ref a,.bool true,.int 181 0,.ref b,.none,u,v,.ref d,.int i 0,.int c 0,.str "/claim/cut.py" z],#[]⟩
end Hd
namespace Row
open PySem L2
open PySem.Spec hiding items?
open PyProof.Rows hiding St
def top(i:Nat):Stmt:=PySem.Challenge.pw_latticeworks_k30_whole_rests_told_apart.main.body.getD i (.Pass ⟨0,0,0,0⟩)
abbrev PW:Program:=PySem.Challenge.pw_latticeworks_k30_whole_rests_told_apart
abbrev pw:Stmt:=top 1
abbrev pf:Stmt:=top 2
abbrev lV:Stmt:=top 3
abbrev nh:Stmt:=top 4
abbrev tw:Stmt:=top 6
abbrev xY:Stmt:=top 7
abbrev vq:Stmt:=top 8
abbrev sI:Stmt:=top 9
abbrev vI:Stmt:=top 10
abbrev nv:Stmt:=top 11
abbrev qT:Stmt:=top 12
abbrev pG:Stmt:=top 13
abbrev sD:Stmt:=top 14
abbrev rh:Stmt:=top 15
abbrev oA:Stmt:=top 16
abbrev ud:Stmt:=top 18
abbrev iV:Stmt:=top 19
abbrev pK:Stmt:=top 20
abbrev sG:Stmt:=top 21
abbrev dz:Stmt:=inClass (top 22) 0
abbrev jh:Stmt:=inClass (top 22) 1
abbrev fT:Stmt:=inClass (top 22) 2
abbrev e_:Stmt:=inClass (top 22) 3
abbrev dP:Stmt:=inClass (top 22) 4
abbrev g8:Stmt:=inClass (top 22) 5
abbrev e8:Stmt:=inClass (top 22) 6
abbrev qD:Stmt:=top 23
abbrev uf:Stmt:=top 24
abbrev x3:Stmt:=top 25
abbrev fV:Stmt:=inClass (top 27) 0
abbrev fJ:Stmt:=inClass (top 27) 1
abbrev fw:Stmt:=inClass (top 27) 2
abbrev fv:Stmt:=inClass (top 27) 3
abbrev d8:Stmt:=inClass (top 27) 4
abbrev nj:Stmt:=top 29
abbrev gX:Stmt:=inClass (top 27) 5
abbrev kK:Stmt:=top 28
abbrev ir:Stmt:=inClass (top 27) 6
abbrev oq:Stmt:=top 30
abbrev rl:Stmt:=top 31
abbrev l_:Stmt:=top 32
abbrev qJ:Stmt:=top 33
abbrev kb:Stmt:=top 34
abbrev vN:Stmt:=top 39
abbrev sW:Stmt:=top 42
abbrev iO:Stmt:=top 43
abbrev mz:Stmt:=top 44
abbrev qx:Stmt:=top 45
abbrev oN:Stmt:=top 46
abbrev oa:Stmt:=top 48
abbrev qQ:Stmt:=top 49
abbrev oz:Stmt:=top 50
abbrev ot:Stmt:=top 51
abbrev rj:Stmt:=top 52
abbrev pF:Stmt:=top 53
abbrev qu:Stmt:=top 54
abbrev jG:Stmt:=top 55
abbrev oU:Stmt:=top 56
def zp:Value:=(.str "latticeworks.kinds" 187)
def jC:Value:=(.str "latticeworks.rows" 217)
def fx:Value:=(.str "latticeworks.standing" 297)
def fy:Value:=(.str "latticeworks.dividing" 448)
def TF:Value:=(.str "latticeworks.fractions" 626)
def uS:Value:=(.str "latticeworks.rests" 639)
def la:Value:=(.str "law_latticeworks_k30_whole_rests_told_apart" 677)
def KX(P:Params):PySem.W.Frag:=[Hd.k 3 (Hd.no P 58 [Hd.e "__name__" 165 (.str "law_latticeworks_k30_whole_rests_told_apart" 677),Hd.e "__doc__" 166 .none,Hd.e "__package__" 167 .none,Hd.e "__loader__" 168 (.builtin "__main__.__loader__#opaque"),Hd.e "__spec__" 169 .none,Hd.e "__annotations__" 170 (.ref 6),Hd.e "__builtins__" 171 (.ref 4),Hd.e "__file__" 173 (.str "/claim/cut.py" 172),Hd.e "__cached__" 174 .none,Hd.e "is_number" 195 (.ref 21),Hd.e "is_listed" 202 (.ref 28),Hd.e "is_listed_of" 210 (.ref 35),Hd.e "are_numbers" 216 (.ref 40),Hd.e "as_rows" 224 (.ref 45),Hd.e "added" 230 (.ref 50),Hd.e "sum_by" 242 (.ref 57),Hd.e "product" 248 (.ref 62),Hd.e "column" 254 (.ref 67),Hd.e "turned_over" 260 (.ref 72),Hd.e "unit_row" 266 (.ref 77),Hd.e "unit_rows" 272 (.ref 82),Hd.e "is_rows" 278 (.ref 87),Hd.e "are_back" 287 (.ref 94),Hd.e "is_turn_of" 296 (.ref 101),Hd.e "lead_of" 307 (.ref 108),Hd.e "nearest_quotient" 315 (.ref 115),Hd.e "exchanged" 325 (.ref 122),Hd.e "negated" 331 (.ref 127),Hd.e "Bench" 415 (.ref 182),Hd.e "standing" 426 (.ref 193),Hd.e "weighed" 439 (.ref 200),Hd.e "falls" 447 (.ref 207),Hd.e "Sides" 534 (.ref 266),Hd.e "unit_rows_but" 540 (.ref 275),Hd.e "is_diagonal" 546 (.ref 280),Hd.e "numbers_of" 552 (.ref 285),Hd.e "dividing" 563 (.ref 292),Hd.e "are_dividing" 573 (.ref 299),Hd.e "diagonal" 579 (.ref 304),Hd.e "shows_dividing" 589 (.ref 311),Hd.e "LatticeError" 609 (.ref 321),Hd.e "TooMany" 625 (.ref 334),Hd.e "common" 638 (.ref 343),Hd.e "MOST_RESTS" 642 (.int (300) 641),Hd.e "form_of" 649 (.ref 350),Hd.e "longer_by_one" 655 (.ref 355),Hd.e "all_rests" 661 (.ref 360),Hd.e "rest_sum" 670 (.ref 367),Hd.e "rest_order" 676 (.ref 372),Hd.e "_law_source" 687 (.ref 379),Hd.e "_law_take" 697 (.ref 386),Hd.e "_law_number" 705 (.ref 393),Hd.e "_law_turned" 711 (.ref 398),Hd.e "_law_form" 723 (.ref 405),Hd.e "_law_leads" 738 (.ref 412),Hd.e "_law_seen" 744 (.ref 417),Hd.e "_law_comes_round" 755 (.ref 424),Hd.e "law" 761 (.ref 429)]),
 Hd.k 20 (Hd.co "is_number" "is_number" 189 2 1 15 16 (.ref 17) (.ref 18) 19 193 194),
 Hd.k 21 (Hd.fq pw "is_number" "is_number" zp 20),
 Hd.k 27 (Hd.co "is_listed" "is_listed" 196 4 1 22 23 (.ref 24) (.ref 25) 26 200 201),
 Hd.k 28 (Hd.fq pf "is_listed" "is_listed" zp 27),
 Hd.k 34 (Hd.co "is_listed_of" "is_listed_of" 203 6 2 29 30 (.ref 31) (.ref 32) 33 208 209),
 Hd.k 35 (Hd.fq lV "is_listed_of" "is_listed_of" zp 34),
 Hd.k 39 (Hd.co "are_numbers" "are_numbers" 211 8 2 36 37 .none .none 38 214 215),
 Hd.k 40 (Hd.fq nh "are_numbers" "are_numbers" zp 39),
 Hd.k 44 (Hd.co "as_rows" "as_rows" 219 11 1 41 42 .none .none 43 222 223),
 Hd.k 45 (Hd.fq tw "as_rows" "as_rows" jC 44),
 Hd.k 49 (Hd.co "added" "added" 225 13 3 46 47 .none .none 48 228 229),
 Hd.k 50 (Hd.fq xY "added" "added" jC 49),
 Hd.k 56 (Hd.co "sum_by" "sum_by" 231 15 3 51 52 (.ref 53) (.ref 54) 55 240 241),
 Hd.k 57 (Hd.fq vq "sum_by" "sum_by" jC 56),
 Hd.k 61 (Hd.co "product" "product" 243 20 2 58 59 .none .none 60 246 247),
 Hd.k 62 (Hd.fq sI "product" "product" jC 61),
 Hd.k 66 (Hd.co "column" "column" 249 23 2 63 64 .none .none 65 252 253),
 Hd.k 67 (Hd.fq vI "column" "column" jC 66),
 Hd.k 71 (Hd.co "turned_over" "turned_over" 255 25 2 68 69 .none .none 70 258 259),
 Hd.k 72 (Hd.fq nv "turned_over" "turned_over" jC 71),
 Hd.k 76 (Hd.co "unit_row" "unit_row" 261 27 2 73 74 .none .none 75 264 265),
 Hd.k 77 (Hd.fq qT "unit_row" "unit_row" jC 76),
 Hd.k 81 (Hd.co "unit_rows" "unit_rows" 267 29 1 78 79 .none .none 80 270 271),
 Hd.k 82 (Hd.fq pG "unit_rows" "unit_rows" jC 81),
 Hd.k 86 (Hd.co "is_rows" "is_rows" 273 31 3 83 84 .none .none 85 276 277),
 Hd.k 87 (Hd.fq sD "is_rows" "is_rows" jC 86),
 Hd.k 93 (Hd.co "are_back" "are_back" 279 37 2 88 89 (.ref 90) (.ref 91) 92 285 286),
 Hd.k 94 (Hd.fq rh "are_back" "are_back" jC 93),
 Hd.k 100 (Hd.co "is_turn_of" "is_turn_of" 288 44 3 95 96 (.ref 97) (.ref 98) 99 294 295),
 Hd.k 101 (Hd.fq oA "is_turn_of" "is_turn_of" jC 100),
 Hd.k 107 (Hd.co "lead_of" "lead_of" 299 47 1 102 103 (.ref 104) (.ref 105) 106 305 306),
 Hd.k 108 (Hd.fq ud "lead_of" "lead_of" fx 107),
 Hd.k 114 (Hd.co "nearest_quotient" "nearest_quotient" 308 52 2 109 110 (.ref 111) (.ref 112) 113 313 314),
 Hd.k 115 (Hd.fq iV "nearest_quotient" "nearest_quotient" fx 114),
 Hd.k 121 (Hd.co "exchanged" "exchanged" 316 54 3 116 117 (.ref 118) (.ref 119) 120 323 324),
 Hd.k 122 (Hd.fq pK "exchanged" "exchanged" fx 121),
 Hd.k 126 (Hd.co "negated" "negated" 326 59 1 123 124 .none .none 125 329 330),
 Hd.k 127 (Hd.fq sG "negated" "negated" fx 126),
 Hd.k 138 (Hd.co "__init__" "Bench.__init__" 344 63 2 135 136 .none .none 137 347 348),
 Hd.k 139 (Hd.fq dz "__init__" "Bench.__init__" fx 138),
 Hd.k 145 (Hd.co "take" "Bench.take" 350 68 4 140 141 (.ref 142) (.ref 143) 144 357 358),
 Hd.k 146 (Hd.fq jh "take" "Bench.take" fx 145),
 Hd.k 152 (Hd.co "exchange" "Bench.exchange" 360 73 3 147 148 (.ref 149) (.ref 150) 151 366 367),
 Hd.k 153 (Hd.fq fT "exchange" "Bench.exchange" fx 152),
 Hd.k 159 (Hd.co "change_sign" "Bench.change_sign" 369 78 2 154 155 (.ref 156) (.ref 157) 158 374 375),
 Hd.k 160 (Hd.fq e_ "change_sign" "Bench.change_sign" fx 159),
 Hd.k 164 (Hd.co "live_rows" "Bench.live_rows" 377 83 3 161 162 .none .none 163 380 381),
 Hd.k 165 (Hd.fq dP "live_rows" "Bench.live_rows" fx 164),
 Hd.k 171 (Hd.co "gather" "Bench.gather" 383 87 3 166 167 (.ref 168) (.ref 169) 170 392 393),
 Hd.k 172 (Hd.fq g8 "gather" "Bench.gather" fx 171),
 Hd.k 178 (Hd.co "lower_above" "Bench.lower_above" 395 101 3 173 174 (.ref 175) (.ref 176) 177 402 403),
 Hd.k 179 (Hd.fq e8 "lower_above" "Bench.lower_above" fx 178),
 Hd.k 181 (Hd.no P 4 [Hd.e "__module__" 339 (.str "latticeworks.standing" 297),Hd.e "__firstlineno__" 343 (.int (61) 342),Hd.e "__init__" 349 (.ref 139),Hd.e "take" 359 (.ref 146),Hd.e "exchange" 368 (.ref 153),Hd.e "change_sign" 376 (.ref 160),Hd.e "live_rows" 382 (.ref 165),Hd.e "gather" 394 (.ref 172),Hd.e "lower_above" 404 (.ref 179),Hd.e "__static_attributes__" 408 (.ref 180),Hd.e "__dict__" 410 (.ref 183),Hd.e "__weakref__" 412 (.ref 184),Hd.e "__doc__" 413 .none]),
 Hd.k 182 (⟨(.type "type"),none,.cls {name:="Bench",bases:=[(.type "object")],mro:=[(.ref 182),(.type "object")],ns:=181,qualname:="Bench",hasDict:=true,subclasses:=[],abstract:=false,hasDel:=false},#[none,none,(some (.str "Bench" 332)),(some (.str "Bench" 340)),(some (.builtin "object.__new__")),(some (.bool true))]⟩),
 Hd.k 192 (Hd.co "standing" "standing" 416 104 1 187 188 (.ref 189) (.ref 190) 191 424 425),
 Hd.k 193 (Hd.fq qD "standing" "standing" fx 192),
 Hd.k 199 (Hd.co "weighed" "weighed" 427 113 2 194 195 (.ref 196) (.ref 197) 198 437 438),
 Hd.k 200 (Hd.fq uf "weighed" "weighed" fx 199),
 Hd.k 206 (Hd.co "falls" "falls" 440 122 2 201 202 (.ref 203) (.ref 204) 205 445 446),
 Hd.k 207 (Hd.fq x3 "falls" "falls" fx 206),
 Hd.k 220 (Hd.co "__init__" "Sides.__init__" 462 127 2 215 216 (.ref 217) (.ref 218) 219 467 468),
 Hd.k 221 (Hd.fq fV "__init__" "Sides.__init__" fy 220),
 Hd.k 227 (Hd.co "turn_left" "Sides.turn_left" 470 136 3 222 223 (.ref 224) (.ref 225) 226 476 477),
 Hd.k 228 (Hd.fq fJ "turn_left" "Sides.turn_left" fy 227),
 Hd.k 234 (Hd.co "turn_right" "Sides.turn_right" 479 141 3 229 230 (.ref 231) (.ref 232) 233 485 486),
 Hd.k 235 (Hd.fq fw "turn_right" "Sides.turn_right" fy 234),
 Hd.k 241 (Hd.co "stand_rows" "Sides.stand_rows" 488 146 1 236 237 (.ref 238) (.ref 239) 240 493 494),
 Hd.k 242 (Hd.fq fv "stand_rows" "Sides.stand_rows" fy 241),
 Hd.k 248 (Hd.co "stand_columns" "Sides.stand_columns" 496 150 1 243 244 (.ref 245) (.ref 246) 247 501 502),
 Hd.k 249 (Hd.fq d8 "stand_columns" "Sides.stand_columns" fy 248),
 Hd.k 255 (Hd.co "settle" "Sides.settle" 504 154 1 250 251 (.ref 252) (.ref 253) 254 508 509),
 Hd.k 256 (Hd.fq gX "settle" "Sides.settle" fy 255),
 Hd.k 262 (Hd.co "merge" "Sides.merge" 511 161 3 257 258 (.ref 259) (.ref 260) 261 517 518),
 Hd.k 263 (Hd.fq ir "merge" "Sides.merge" fy 262),
 Hd.k 265 (Hd.no P 4 [Hd.e "__module__" 457 (.str "latticeworks.dividing" 448),Hd.e "__firstlineno__" 461 (.int (125) 460),Hd.e "__init__" 469 (.ref 221),Hd.e "turn_left" 478 (.ref 228),Hd.e "turn_right" 487 (.ref 235),Hd.e "stand_rows" 495 (.ref 242),Hd.e "stand_columns" 503 (.ref 249),Hd.e "settle" 510 (.ref 256),Hd.e "merge" 519 (.ref 263),Hd.e "__static_attributes__" 527 (.ref 264),Hd.e "__dict__" 529 (.ref 267),Hd.e "__weakref__" 531 (.ref 268),Hd.e "__doc__" 532 .none]),
 Hd.k 266 (⟨(.type "type"),none,.cls {name:="Sides",bases:=[(.type "object")],mro:=[(.ref 266),(.type "object")],ns:=265,qualname:="Sides",hasDict:=true,subclasses:=[],abstract:=false,hasDel:=false},#[none,none,(some (.str "Sides" 450)),(some (.str "Sides" 458)),(some (.builtin "object.__new__")),(some (.bool true))]⟩),
 Hd.k 274 (Hd.co "unit_rows_but" "unit_rows_but" 535 164 4 271 272 .none .none 273 538 539),
 Hd.k 275 (Hd.fq kK "unit_rows_but" "unit_rows_but" fy 274),
 Hd.k 279 (Hd.co "is_diagonal" "is_diagonal" 541 168 1 276 277 .none .none 278 544 545),
 Hd.k 280 (Hd.fq nj "is_diagonal" "is_diagonal" fy 279),
 Hd.k 284 (Hd.co "numbers_of" "numbers_of" 547 173 1 281 282 .none .none 283 550 551),
 Hd.k 285 (Hd.fq oq "numbers_of" "numbers_of" fy 284),
 Hd.k 291 (Hd.co "dividing" "dividing" 553 176 1 286 287 (.ref 288) (.ref 289) 290 561 562),
 Hd.k 292 (Hd.fq rl "dividing" "dividing" fy 291),
 Hd.k 298 (Hd.co "are_dividing" "are_dividing" 564 185 2 293 294 (.ref 295) (.ref 296) 297 571 572),
 Hd.k 299 (Hd.fq l_ "are_dividing" "are_dividing" fy 298),
 Hd.k 303 (Hd.co "diagonal" "diagonal" 574 194 3 300 301 .none .none 302 577 578),
 Hd.k 304 (Hd.fq qJ "diagonal" "diagonal" fy 303),
 Hd.k 310 (Hd.co "shows_dividing" "shows_dividing" 580 199 2 305 306 (.ref 307) (.ref 308) 309 587 588),
 Hd.k 311 (Hd.fq kb "shows_dividing" "shows_dividing" fy 310),
 Hd.k 342 (Hd.co "common" "common" 628 213 2 337 338 (.ref 339) (.ref 340) 341 636 637),
 Hd.k 343 (Hd.fq vN "common" "common" TF 342),
 Hd.k 349 (Hd.co "form_of" "form_of" 643 223 1 344 345 (.ref 346) (.ref 347) 348 647 648),
 Hd.k 350 (Hd.fq sW "form_of" "form_of" uS 349),
 Hd.k 354 (Hd.co "longer_by_one" "longer_by_one" 650 225 2 351 352 .none .none 353 653 654),
 Hd.k 355 (Hd.fq iO "longer_by_one" "longer_by_one" uS 354),
 Hd.k 359 (Hd.co "all_rests" "all_rests" 656 230 1 356 357 .none .none 358 659 660),
 Hd.k 360 (Hd.fq mz "all_rests" "all_rests" uS 359),
 Hd.k 366 (Hd.co "rest_sum" "rest_sum" 662 244 3 361 362 (.ref 363) (.ref 364) 365 668 669),
 Hd.k 367 (Hd.fq qx "rest_sum" "rest_sum" uS 366),
 Hd.k 371 (Hd.co "rest_order" "rest_order" 671 246 2 368 369 .none .none 370 674 675),
 Hd.k 372 (Hd.fq oN "rest_order" "rest_order" uS 371),
 Hd.k 378 (Hd.co "_law_source" "_law_source" 679 257 2 373 374 (.ref 375) (.ref 376) 377 685 686),
 Hd.k 379 (Hd.fq oa "_law_source" "_law_source" la 378),
 Hd.k 385 (Hd.co "_law_take" "_law_take" 688 262 2 380 381 (.ref 382) (.ref 383) 384 695 696),
 Hd.k 386 (Hd.fq qQ "_law_take" "_law_take" la 385),
 Hd.k 392 (Hd.co "_law_number" "_law_number" 698 271 1 387 388 (.ref 389) (.ref 390) 391 703 704),
 Hd.k 393 (Hd.fq oz "_law_number" "_law_number" la 392),
 Hd.k 397 (Hd.co "_law_turned" "_law_turned" 706 278 2 394 395 .none .none 396 709 710),
 Hd.k 398 (Hd.fq ot "_law_turned" "_law_turned" la 397),
 Hd.k 404 (Hd.co "_law_form" "_law_form" 712 292 2 399 400 (.ref 401) (.ref 402) 403 721 722),
 Hd.k 405 (Hd.fq rj "_law_form" "_law_form" la 404),
 Hd.k 411 (Hd.co "_law_leads" "_law_leads" 724 300 2 406 407 (.ref 408) (.ref 409) 410 736 737),
 Hd.k 412 (Hd.fq pF "_law_leads" "_law_leads" la 411),
 Hd.k 416 (Hd.co "_law_seen" "_law_seen" 739 313 2 413 414 .none .none 415 742 743),
 Hd.k 417 (Hd.fq qu "_law_seen" "_law_seen" la 416),
 Hd.k 423 (Hd.co "_law_comes_round" "_law_comes_round" 745 319 3 418 419 (.ref 420) (.ref 421) 422 753 754),
 Hd.k 424 (Hd.fq jG "_law_comes_round" "_law_comes_round" la 423),
 Hd.k 428 (Hd.co "law" "law" 756 326 1 425 426 .none .none 427 759 760),
 Hd.k 429 (Hd.fq oU "law" "law" la 428)]
def KA:List Addr:=[3,20,21,27,28,34,35,39,40,44,45,49,50,56,57,61,62,66,67,71,72,76,77,81,82,86,87,93,94,100,101,107,108,114,115,121,122,126,127,138,139,145,146,152,153,159,160,164,165,171,172,178,179,181,182,192,193,199,200,206,207,220,221,227,228,234,235,241,242,248,249,255,256,262,263,265,266,274,275,279,280,284,285,291,292,298,299,303,304,310,311,342,343,349,350,354,355,359,360,366,367,371,372,378,379,385,386,392,393,397,398,404,405,411,412,416,417,423,424,428,429]
set_option maxHeartbeats 0 in
def left:PySem.W.LeftO PW (PySem.W.view PW [1,2,3,4,6,7,8,9,10,11,12,13,14,15,16,18,19,20,21,22,23,24,25,27,28,29,30,31,32,33,34,36,37,39,41,42,43,44,45,46,48,49,50,51,52,53,54,55,56]) [] (λ_=>true) (PySem.W.kmHook Row.KX Row.KA (λ_=>rfl) [162]).obs (PySem.W.kmHook Row.KX Row.KA (λ_=>rfl) [162]).val 5328:=
 Hd.left (by kernel_rfl) (λs=>by kernel_rfl) rfl λw os=>by kernel_rfl
end Row
namespace L3
open PySem PySem.Spec PyProof.Rows L2
section
variable {prog:Program}{w:World}{A:Around}{R:Result->Shared->Prop}{s:Shared}
def Df{e target b:Expr}(I:Nat->Shared->Prop)
 (turn:∀n s,I n s->wpAny (model prog w) A (pyNext it) (λr i=>match r with
   |none=>R (.ok .next) i
   |some v=>wpAny (model prog w) A (letOwnedTupleGo target it v) (λ_ s₀=>wpAny (model prog w) A (assign target env v) (λ_ l=>
     wpAny (model prog w) A (forIn d true λc r=>if r=true then do let ok <-isTrue c env (eval c env);pure (ForInStep.yield ok)else pure (ForInStep.yield r)) (λok g=>
      if ok=true then wpAny (model prog w) A (eval e env) (λx k=>
       wpAny (model prog w) A (call (.builtin "list.append") [f,x]) (λ_ j=>∃m,m<n/\I m j) (λ_ _=>False) k) (λ_ _=>False) g
      else∃m,m<n/\I m g) (λ_ _=>False) l) (λ_ _=>False) s₀) (λ_ _=>False) i) (λ_ _=>False) s)
 (n:Nat) (h:I n s):
 codeAny (model prog w) A (.compLoop (.ListComp e [⟨target,b,d,0⟩] scope pos) 0 it f env) R s:=by
 show codeAny_loop rfl I (λn s z=>?_) n h;change wpAny _ A ((compTurn (.ListComp e [⟨target,b,d,0⟩] scope pos) 0 it f env).onRaise (λx=>do noteFrame x env;theTreesLotGoes x)) _ _ s;show wpAny_noted ?_;rw[compTurn_list];show VG (aaq (VG (X6 (turn n s z) (λr i p=>?_) λ_ _ a=>a.elim)));cases r with
 |none=>show VQ p
 |some v=>
  show VG (X6 p (λ_ s₀ y=>?_) λ_ _ a=>a.elim);show VG (X6 y (λ_ l u=>VG (X6 u (λok g o=>?_) λ_ _ a=>a.elim)) λ_ _ a=>a.elim);cases ok with
  |false=>show VQ ⟨rfl,o⟩
  |true=>
   show VG (VG (X6 o (λx k t=>VG (X6 t (λ_ j q=>VQ (VQ ⟨rfl,q⟩)) λ_ _ a=>a.elim)) λ_ _ a=>a.elim))
end
def dq(cells:List (Str×Addr)):List (Str×NameKind)->List (Str×Addr)->List (Str×Addr)
 | [],a=>a
 |(n,k)::r,a=>if k== .free then(match cells.lookup n with|some c=>dq cells r ((n,c)::a)|none=>dq cells r a)else dq cells r a
def cW{cells:List (Str×Addr)}:∀(names:List (Str×NameKind)) (acc:List (Str×Addr)),(∀x c,acc.lookup x=some c->cells.lookup x=some c)->
 ∀x c,(dq cells names acc).lookup x=some c->cells.lookup x=some c
 | [],acc,h,x,c,e=>h x c e
 |(n,k)::r,acc,h,x,c,e=>by
  unfold dq at e;split at e
  . split at e
    . rename_i d q;show cW r _ (λy b a=>?_) x c e;rw[WW]at a;split at a
      . rename_i z;cases a;let f:y=n:=by simpa using z
        rw[f];show q
      . show h y b a
    . show cW r _ h x c e
  . show cW r _ h x c e
def i7{cells:List (Str×Addr)}:∀(names:List (Str×NameKind)) (acc:List (Str×Addr)),(∃c,cells.lookup x=some c)->((x,NameKind.free)∈names\/∃c,acc.lookup x=some c)->
 ∃c,(dq cells names acc).lookup x=some c
 | [],acc,_,h=>by
   rcases h with h|h
   . simp at h
   . show h
 |(n,k)::r,acc,a,h=>by
  unfold dq;split
  . rename_i b;split
    . rename_i d q;show i7 r _ a ?_;rcases h with h|⟨c,h⟩
      . rcases V8.mp h with e|e
        . cases e;show .inr ⟨d,by simp[WW]⟩
        . show .inl e
      . show .inr ?_;rw[WW];split
        . show⟨_,rfl⟩
        . show⟨c,h⟩
    . rename_i q;show i7 r _ a ?_;rcases h with h|h
      . rcases V8.mp h with e|e
        . cases e;obtain⟨c,a⟩:=a;rw[a]at q;cases q
        . show .inl e
      . show .inr h
  . rename_i b;show i7 r _ a ?_;rcases h with h|h
    . rcases V8.mp h with e|e
      . cases e;show absurd rfl b
      . show .inl e
    . show .inr h
def nk{scope:Scope}{env:Env}(h:∀x∈scope.names,x.2= .free->∃c,env.cells.lookup x.1=some c):closureFor scope env=pure (dq env.cells scope.names []):=by
 let g:∀(names:List (Str×NameKind)) (b:List (Str×Addr)),(∀x∈names,x.2= .free->∃c,env.cells.lookup x.1=some c)->
  (forIn names b (λ(x:Str×NameKind) (m:List (Str×Addr))=>if(x.2==NameKind.free)=true then(do let a <-cellOf env x.1;pure (ForInStep.yield ((x.1,a)::m)):Sem (ForInStep (List (Str×Addr))))else pure (ForInStep.yield m)))=(pure (dq env.cells names b):Sem (List (Str×Addr))):=by
  intro names;induction names with
  |nil=>intro b _;rfl
  |cons p r i=>
   intro b l;obtain⟨n,k⟩:=p;rw[Ze];let o:=i;by_cases f:(k==NameKind.free)=true
   . obtain⟨c,e⟩:=l (n,k) V6 (by simpa using f);simp![f,Yv]
     let q:cellOf env n=pure c:=by
      unfold cellOf;rw[e]
     rw[q];simp![pure_bind];rw[i _ λx j=>l x (VZ _ j)];conv=>rhs;unfold dq
     simp![f,Yv];rw[show env.cells.lookup n=some c from e]
   . have d:(k==NameKind.free)=false:=by simpa using f
     simp![d,Wv,Xl,pure_bind];rw[i _ λx j=>l x (VZ _ j)];conv=>rhs;unfold dq
     simp![d,Wv,Xl]
 unfold closureFor;let:=g scope.names [] h;rw[bind_pure]
 first
  |show this
  |(simp![bind_pure]at this⊢;show this)
end L3
namespace L3
open PySem PySem.Spec L2
open PyProof.Rows hiding St
def ju(env:Env):∀(names:List (Str×NameKind)) (x:Str),
 (names.map λ(n,k)=>if(k==NameKind.free&&env.scope.kind== .function&&env.kindOf n==some .cell)then(n,NameKind.cell)else(n,k)).lookup x=
   (names.lookup x).map λk=>if(k==NameKind.free&&env.scope.kind== .function&&env.kindOf x==some .cell)then NameKind.cell else k
 | [],_=>rfl
 |(n,k)::r,x=>by
  change List.lookup x ((if(k==NameKind.free&&env.scope.kind== .function&&env.kindOf n==some .cell)=true then(n,NameKind.cell)else(n,k))::_)=_;cases b:x==n with
  |true=>
   have e:x=n:=by simpa using b
   subst e;by_cases a:(k==NameKind.free&&env.scope.kind== .function&&env.kindOf x==some .cell)=true
   . rw[VN a];simp![WW,ZD,YN];rw[VN a]
   . rw[VM a];simp![WW,ZD,YN];rw[VM a]
  |false=>
   by_cases a:(k==NameKind.free&&env.scope.kind== .function&&env.kindOf n==some .cell)=true
   . rw[VN a];simp![WW,b];show ju env r x
   . rw[VM a];simp![WW,b];show ju env r x
def CM{scope:Scope}(h:scope.names.lookup x=some .free):(relabel scope env).names.lookup x=some .cell\/(relabel scope env).names.lookup x=some .free:=by
 let e:(relabel scope env).names.lookup x=_:=ju env scope.names x;rw[e,h];simp![YN];split
 . show .inl rfl
 . show .inr rfl
def BE{scope:Scope}(h:(relabel scope env).names.lookup x=some .cell\/(relabel scope env).names.lookup x=some .free):(x,NameKind.free)∈scope.names\/scope.names.lookup x=some .cell:=by
 let e:(relabel scope env).names.lookup x=_:=ju env scope.names x;rw[e]at h;cases q:scope.names.lookup x with
 |none=>rw[q]at h;rcases h with h|h<;>cases h
 |some k=>
  rw[q]at h;simp![YN]at h;let m:=WH q;by_cases a:(k==NameKind.free&&env.scope.kind== .function&&env.kindOf x==some .cell)=true
  . have:k= .free:=by
     simp![WV]at a;simpa using a.1.1
    subst this;show .inl m
  . rw[VM a]at h;rcases h with h|h
    . cases h;show .inr rfl
    . cases h;show .inl m
def gn:∀(names:List (Str×NameKind)) (L:Nat) (acc:List (Str×Addr)),cellsFrom L names acc=cellsFrom L names []++acc
 | [],_,_=>rfl
 |(n,k)::r,L,acc=>by
  unfold cellsFrom;by_cases a:(k==NameKind.cell)=true
  . rw[VN a,VN a,gn r (L+1) ((n,L)::acc),gn r (L+1) [(n,L)],Yk];rfl
  . rw[VM a,VM a];show gn r L acc
def sv:∀ {names:List (Str×NameKind)} {L:Nat} {x:Str} {c:Addr},(x,c)∈cellsFrom L names []->(x,NameKind.cell)∈names
 | [],_,_,_,h=>by unfold cellsFrom at h;cases h
 |(n,k)::r,L,x,c,h=>by
  unfold cellsFrom at h;by_cases b:(k==NameKind.cell)=true
  . rw[VN b,gn]at h;let a:k= .cell:=by simpa using b
    subst a;rcases WC.mp h with h|h
    . show VZ _ (sv h)
    . have:(x,c)=(n,L):=by simpa using h
      cases this;show V6
  . rw[VM b]at h;show VZ _ (sv h)
def q_:∀ {a b:List (Str×Addr)} {x:Str} {c:Addr},(a++b).lookup x=some c->a.lookup x=some c\/(a.lookup x=none/\b.lookup x=some c)
 | [],_,_,_,h=> .inr ⟨rfl,h⟩
 |(n,d)::a,b,x,c,h=>by
  rw[List.cons_append,WW]at h;rw[WW];cases e:x==n with
  |true=>rw[e]at h;show .inl h
  |false=>rw[e]at h;show q_ h
def vi:∀ {b a:List (Str×Addr)} {x:Str},b.lookup x=none->(b++a).lookup x=a.lookup x
 | [],_,_,_=>rfl
 |(n,d)::b,a,x,h=>by
  rw[WW]at h;rw[List.cons_append,WW];cases c:x==n with
  |true=>rw[c]at h;cases h
  |false=>rw[c]at h;show vi h
def mN(scope:Scope)(C:Addr)(cl:List (Str×Addr)):List (Str×Addr):=cellsFrom (C+1) scope.names cl
def jb{scope:Scope}{cl:List (Str×Addr)}(h:(mN scope C cl).lookup x=some c):(x,c)∈cellsFrom (C+1) scope.names []\/cl.lookup x=some c:=by
 unfold mN at h;rw[gn]at h;rcases q_ h with h|h
 . show .inl (WH h)
 . show .inr h.2
def QO(names:List (Str×NameKind))(h:Heap){C:Addr}(e:h.objs.size=C+1):CellsOk (pushCells h names) (C+1) (cellsFrom (C+1) names []):=by
 let:=cellsFrom_ok names h (C+1) [] ⟨λ_ _ a=>(nomatch a),List.Pairwise.nil⟩ (by rw[e];show VL _);rw[e]at this;show this
def oy{names:List (Str×NameKind)}{C:Addr}{x:Str}{c:Addr}:∀ {L:Nat},C<=L->(x,c)∈cellsFrom L names []->C<=c:=by
 induction names with
 |nil=>intro L _ h;unfold cellsFrom at h;cases h
 |cons p r b=>
  obtain⟨n,k⟩:=p;intro L a h;unfold cellsFrom at h;by_cases d:(k==NameKind.cell)=true
  . rw[VN d,gn]at h;rcases WC.mp h with h|h
    . show b (VU a (aa2 L)) h
    . have:(x,c)=(n,L):=by simpa using h
      cases this;show a
  . rw[VM d]at h;show b a h
def own_apart:∀ {L:Nat},(x,c)∈cellsFrom L names []->(y,c)∈cellsFrom L names []->x=y:=by
 induction names with
 |nil=>intro L h;unfold cellsFrom at h;cases h
 |cons p r j=>
  obtain⟨n,k⟩:=p;intro L b a;unfold cellsFrom at b a;by_cases l:(k==NameKind.cell)=true
  . rw[VN l,gn]at b a;rcases WC.mp b with e|e<;>rcases WC.mp a with d|d
    . show j e d
    . have g:(y,c)=(n,L):=by simpa using d
      let f:c=L:=(aa4 g).2;let:=oy (C:=L+1) (VL _) e;rw[f]at this;show absurd this (Nat.not_succ_le_self _)
    . have i:(x,c)=(n,L):=by simpa using e
      let f:c=L:=(aa4 i).2;let:=oy (C:=L+1) (VL _) d;rw[f]at this;show absurd this (Nat.not_succ_le_self _)
    . have i:(x,c)=(n,L):=by simpa using e
      let g:(y,c)=(n,L):=by simpa using d
      show(aa4 i).1.trans (aa4 g).1.symm
  . rw[VM l]at b a;show j b a
def vL{s:Shared}{scope:Scope}{cl:List (Str×Addr)}
 (e:Q (newEnv scope s.heap.objs.size globals (mN scope s.heap.objs.size cl) a none .none (some env) builtinsNs) {s with heap:=pushCells (s.heap.push {cls:= .type "dict",data:= .dict #[]}) scope.names}):
 wpAny M A (newFunctionEnv scope globals cl [] a none .none (some env)) Q E s:=by
 simp![newFunctionEnv,Option.isSome_some,Yv];show VG (wpAny_alloc ?_);show VG (wpAny_layCells _ (λd b cells=>by cases c:b==NameKind.cell<;>simp[c]) _ _ _ _ ?_);rw[show({s with heap:=s.heap.push {cls:= .type "dict",data:= .dict #[]}}:Shared).heap.objs.size=s.heap.objs.size+1 from WG ..];rw[Zn];show VG (VQ (VQ e))
structure cN(X:Cx)(scope:Scope)(Nc:List Str)(fr:List (Option Nat)):Prop where
 kind:scope.kind= .function
 cells:∀x∈scope.names,x.2= .cell->scope.names.lookup x.1=some .cell
 names:∀x∈scope.names,x.2= .local->scope.names.lookup x.1=some .local
 free:∀x∈scope.names,x.2= .free->X.env.kindOf x.1=some .cell\/X.env.kindOf x.1=some .free
 len:fr.length=Nc.length
 map:∀(i j:Nat) (x:Str),Nc[i]?=some x->fr[i]?=some (some j)->X.N[j]?=some x/\scope.names.lookup x=some .free/\(X.env.kindOf x=some .cell\/X.env.kindOf x=some .free)
def σC(fr:List (Option Nat))(σ:St):St:=fr.map λo=>o.bind λj=>(σ[j]?).join
def cO(X:Cx)(scope:Scope)(Nc:List Str)(C:Addr)(s:Shared)(H:Hp)(ex:List Addr):Cx:=
 {X with N:=Nc,s₀:=s,H₀:=H,env:=compEnvC scope (mN scope C (dq X.env.cells scope.names [])) C X.env,outer:=X.stack,stack:=X.stack,ex:=ex,fn:=λx=>scope.names.lookup x==some .cell,pn:=[],xe:=λ_ _=>False}
def uE(n:TI)(fr:List (Option Nat))(g:TG)(c:TT)(o:TE):TE:=λσ H Q=>n σ H λJ H1=>∀l,H1 l=none->
 ∃W:Nat->Nat->L2.St->Hp->Prop,(∃m,W 0 m (σC fr σ) (upd H1 l (.lst [])))/\∀i m σ H,W i m σ H->
  (J.stop i H/\Q (.ref l) H)\/(J.go i H/\∃N:L2.St->Hp->Prop,(∀f a,N f a->∃h,h<m/\W (i+1) h f a)/\∀x a,J.o4 i H x a->
    g x σ a λd p=>c d p λb k=>if b=true then o d k λy j=>∃e,j l=some (.lst e)/\e.length<sizeLine/\N d (upd j l (.lst (e++[y])))else N d k)
def tS(X:Cx)(b:List Expr)(t:TT):Prop:=
 ∀(a:List (Addr×Obj)) (s:Shared) (σ:St) (H:Hp) (Q:Bool->Hp->Prop),Inv X a σ H s->t σ H Q->
  wpAny (model X.prog X.w) X.A (forIn b true λc r=>if r=true then do let ok <-isTrue c X.env (eval c X.env);pure (ForInStep.yield ok)else pure (ForInStep.yield r)) (TP X a σ Q) X.xe s
def Tw:TT:=λ_ H Q=>Q true H
def NS:tS X [] Tw:=λ_ _ _ H _ I h=>wpAny_tests_nil ⟨H,I,h⟩
def Nb(h:PT X c t):tS X [c] t:=λa s σ H Q I q=>wpAny_tests_one (h a s σ H Q I q)
section
variable {X:Cx}{scope:Scope}{Nc:List Str}{fr:List (Option Nat)}{pins:List (Addr×Obj)}{σ:St}{H:Hp}{s:Shared}
def QR{C:Addr}{fp:List Addr}(S:cN X scope Nc fr)(I:Inv X pins σ H s)(i:C=s.heap.objs.size)(l:∀b∈fp,mh X pins H b)(k:∀b∈fp,b<s.heap.objs.size)(n:∀b∈fp,∀x c,X.env.cells.lookup x=some c->c≠b):
 (cO X scope Nc C s H fp).Ok where
 mod:=I.ok.mod
 kind:=S.kind
 glob:=I.ok.glob
 blt:=I.ok.blt
 above:=ZR i.symm
 inj:=λx y c g f=>by
  let low:∀ {z},(dq X.env.cells scope.names []).lookup z=some c->c<s.heap.objs.size:=λ{z} p=>by
   obtain⟨v,q⟩:=I.cell z c (cW _ [] (λ_ _ e=>by cases e) z c p);show q.lt
  rcases jb g with g|g<;>rcases jb f with f|f
  . show own_apart g f
  . have a:=oy (C:=C+1) (VL _) g;let b:c<C:=by rw[i];show low f
    show absurd a (Nat.not_le_of_gt (Wo b))
  . have a:=oy (C:=C+1) (VL _) f;let b:c<C:=by rw[i];show low g
    show absurd a (Nat.not_le_of_gt (Wo b))
  . show I.ok.inj x y c (cW _ [] (λ_ _ e=>by cases e) x c g) (cW _ [] (λ_ _ e=>by cases e) y c f)
 has:=λx r=>by
  rcases BE r with m|m
  . obtain⟨c,e⟩:=i7 scope.names [] (I.ok.has x (S.free _ m rfl)) (.inl m);show YH.mp (Yo _ _ _ (.inr (by rw[e];rfl)))
  . show YH.mp (Yo _ _ _ (.inl m))
 AB:=λx c l h=>by
  let t:scope.names.lookup x=some .cell:=by
   let:(scope.names.lookup x==some .cell)=true:=l;simpa using this
  obtain⟨A,e⟩:=YH.mp (Yo (x:=x) scope.names (C+1) [] (.inl t))
  let u:(cellsFrom (C+1) scope.names []++dq X.env.cells scope.names []).lookup x=some c:=by
   rw[<-gn];show h
  rcases q_ u with q|q
  . have:=oy (C:=C+1) (VL _) (WH q);change s.heap.objs.size<=c;rw[<-i];show aaw this
  . rw[q.1]at e;cases e
 hd:=I.ok.hd
 frames:=I.ok.frames
 ED:= .inl rfl
 GQ:=λb d=>⟨by rw[show(cO X scope Nc C s H fp).env.locals=s.heap.objs.size from i];show Wb (k b d),λx c h=>by
  rcases jb h with h|h
  . have a:=oy (C:=C+1) (VL _) h;let w:b<C:=by rw[i];show k b d
    show Xa (V9 w (aaw a))
  . show n b d x c (cW _ [] (λ_ _ e=>by cases e) x c h)⟩
 bs:=I.bs
 tV:=VU I.ok.tV I.sz
 vO:=λb o e d=>by
  let j:=(l b d).2.2.2.1;rcases j with j|j
  . show I.ok.vO b o e j
  . show absurd (VY (I.ok.bs b o e).1) (Nat.not_lt.mpr j)
 vQ:=λb d z=>by
  let q:=I.CJ b z;rcases V8.mp q with q|q
  . show(l b d).2.1 q
  . show(l b d).2.2.1 q
 lg:=I.stack
 xJ:=λb d=>I.xR b d
 gt:=I.ok.gt
def Ek{i:Nat}{v:V}(h:(σC fr σ)[i]?=some (some v)):∃j,fr[i]?=some (some j)/\σ[j]?=some (some v):=by
 unfold σC at h;rw[V5]at h;cases q:fr[i]? with
 |none=>rw[q]at h;cases h
 |some o=>
  rw[q]at h;cases o with
  |none=>simp at h
  |some j=>
   simp![YN,Option.some.injEq,aaM]at h;show⟨j,rfl,?_⟩;cases r:σ[j]? with
   |none=>rw[r]at h;cases h
   |some u=>rw[r]at h;simp at h;rw[h]
def Jy{s':Shared}{h':Heap}{C:Addr}{fp:List Addr}{t':Nat}(S:cN X scope Nc fr)(I:Inv X pins σ H s)(n:C=s.heap.objs.size)(ok:(cO X scope Nc C s H fp).Ok)(L:∀b∈fp,H b=none)
 (k:∀b o,s.heap.get? b=some o->h'.get? b=some o) (J:h'.Ns C (λ_=>none)) (g:∀x c,(x,c)∈cellsFrom (C+1) scope.names []->h'.IsCell c none):Inv (cO X scope Nc C s H fp) [] (σC fr σ) H {s with heap:=h',toks:=t'} where
 ok:=ok
 os:=rfl
 bare:=I.bare
 base:=Un.kept k
 loc:=⟨_,J,λi x v N M Q=>by
  obtain⟨j,B,A⟩:=Ek M;obtain⟨D,f,l⟩:=S.map i j x N B;obtain⟨m,P,K⟩:=I.loc
  let d:AW X.env.scope x:=by
   rcases l with z|z
   . show .inr (.inl z)
   . show .inr (.inr z)
  obtain⟨u,r,E⟩:=K j x v D A d;show⟨u,r,?_⟩;rcases E with⟨z,_⟩|⟨z,c,e,F⟩
  . rcases l with y|y
    . rw[y]at z;cases z
    . rw[y]at z;cases z
  . show .inr ⟨CM f,?_⟩;obtain⟨O,w⟩:=i7 scope.names [] ⟨c,e⟩ (.inl (WH f));let t:=cW _ [] (λ_ _ e=>by cases e) x O w;rw[e]at t;cases t;show⟨c,?_,F.keeps k⟩;change(mN scope C (dq X.env.cells scope.names [])).lookup x=some c;unfold mN;rw[gn,vi ?_]
    . show w
    . cases q:(cellsFrom (C+1) scope.names []).lookup x with
      |none=>rfl
      |some R=>
       have:=S.cells _ (sv (WH q)) rfl;rw[f]at this;cases this⟩
 cell:=λx c h=>by
  rcases jb h with h|h
  . show⟨_,g x c h⟩
  obtain⟨v,q⟩:=I.cell x c (cW _ [] (λ_ _ e=>by cases e) x c h);show⟨v,q.keeps k⟩
 free:=by change H C=none;rw[n];show I.aH.fresh (VL _)
 iS:=λx c h=>by
  rcases jb h with h|h
  . have a:=oy (C:=C+1) (VL _) h;show I.aH.fresh (by rw[<-n];show aaw a)
  . show I.iS x c (cW _ [] (λ_ _ e=>by cases e) x c h)
 pin:=λp G=>by cases G
 aH:=I.aH.kept k
 len:=by unfold σC;rw[VH];show S.len
def Inv.forget(I:Inv X pins σ H s)(f:mh X pins H C)(hs:Heap.SameBut C s.heap h'):Inv X pins σ H {s with heap:=h'}:=by
 show I.E_ (s':={s with heap:=h'}) (ch:=[C]) rfl ?_ ?_ I.bare λb c=>?_
 . have g:∀b,b∉[C]->b≠C:=λb c z=>c (by simp[z]);show{keep:=λb o q _ _ d=>(hs.2 b (g b d)).trans q,slot:=λb o q _ _ d=>⟨o.slots,(hs.2 b (g b d)).trans q⟩,free:=λb o q n _=>n,there:=λb o q d=>⟨o,(hs.2 b (g b d)).trans q⟩,pq:=λ_ _ e=>e,oR:=λ_ _ _ e=>e,og:=λb h e=>⟨#[],by rw[e];simp⟩}
 . intro a o q;let na:∀b u,H b=some u->b≠C:=λb u q z=>by rw[z,f.1]at q;cases q
   show(I.aH a o q).pL (λb u c e=>?_) (λ_ q=>q) λ_ _ q=>q;rw[hs.2 b ?_]
   . show e
   . rcases c with rfl|c
     . show na _ _ q
     . show na _ _ c
 . have:b=C:=by simpa using c
   subst this;show⟨f.2.2.2.1,f.2.1,f.2.2.2.2.1,f.2.2.2.2.2⟩
def xa{z tg t:Expr}{w:List Expr}{wi:TI}{g:TG}{c:TT}{te:TE}{pos:Pos}{Q:VK}{RR:Value->Addr->Result->Shared->Prop}(hx:X.xe=λ_ _=>False)(hc:X.calm=true)(S:cN X scope Nc fr)(hi:PI X tg t wi)
 (hg:∀C s H ex,PG (cO X scope Nc C s H ex) tg g) (ht:∀C s H ex,tS (cO X scope Nc C s H ex) w c) (he:∀C s H ex,PE (cO X scope Nc C s H ex) z te) (I:Inv X pins σ H s) (h:uE wi fr g c te σ H Q)
 (bw:∀(l C:Addr) (s6:Shared) (H5:Hp) (m:Str->Option Value),s6.heap.Ns C m->mh X pins H5 C->Inv X pins σ H5 s6->Q (.ref l) H5->RR (.ref l) C (.ok .next) s6):
 wpAny (model X.prog X.w) X.A (eval t X.env) (λx s₁=>wpAny (model X.prog X.w) X.A (pyIter x) (λit s₂=>wpAny (model X.prog X.w) X.A (newList []) (λa0 s₃=>
  wpAny (model X.prog X.w) X.A (newFunctionEnv scope X.env.globals (dq X.env.cells scope.names []) [] X.env.qual none .none (some X.env)) (λF s₄=>
   codeAny (model X.prog X.w) X.A (.compStart (.ListComp z [⟨tg,t,w,0⟩] scope pos) 0 it a0 {F with scope:=relabel scope X.env}) (RR a0 F.locals) s₄) X.xe s₃) X.xe s₂) X.xe s₁) X.xe s:=by
 show bZ (hi pins s σ H _ I h) λv s1 h1=>bZ h1 λbR j h2=>?_;obtain⟨it,fp,tn,J,Y,e,I2,T,az,f2,hR⟩:=h2;subst e;show wpAny_newList ?_ (V3 _);let V:=I2.Km (t':=j.toks) (its:=[]) (ys:=[]) .nil (V3 _);generalize e3:({j with heap:=j.heap.push {cls:= .type "list",data:= .seq ([]:List Value).toArray}}:Shared)=s3;let V:Inv X pins σ (upd Y j.heap.objs.size (.lst [])) s3:=by rw[<-e3];show V
 let ml:j.heap.objs.size<s3.heap.objs.size:=by rw[<-e3];change _<(j.heap.push _).objs.size;rw[WG];lia
 let k3:∀b o,j.heap.get? b=some o->s3.heap.get? b=some o:=λb o q=>by rw[<-e3];show VJ _ q
 obtain⟨W,⟨m0,w0⟩,turn⟩:=hR j.heap.objs.size (I2.aH.fresh (VL _));show vL ?_;let hn:(pushCells (s3.heap.push {cls:= .type "dict",data:= .dict #[]}) scope.names).Ns s3.heap.objs.size (λ_=>none):=(Heap.Ns.new s3.heap (.type "dict")).keeps (pushCells_keeps _ _);let aH:∀x c,(x,c)∈cellsFrom (s3.heap.objs.size+1) scope.names []->(pushCells (s3.heap.push {cls:= .type "dict",data:= .dict #[]}) scope.names).IsCell c none:=λx c h=>((QO scope.names _ (WG ..)).empty x c h).1;let k4:∀b o,s3.heap.get? b=some o->(pushCells (s3.heap.push {cls:= .type "dict",data:= .dict #[]}) scope.names).get? b=some o:=λb o q=>pushCells_keeps _ _ b o (VJ _ q);generalize(pushCells (s3.heap.push {cls:= .type "dict",data:= .dict #[]}) scope.names)=h' at hn aH k4⊢;let D:∀b∈fp,∃o,j.heap.get? b=some o/\∀v,o.data≠ .cell v:=T.obj _ _ az;let E:∀b∈fp,b<s3.heap.objs.size:=λb a=>let⟨o,q,_⟩:=D b a;VY (k3 b o q)
 let bj:∀b∈fp,b≠j.heap.objs.size:=λb a=>by
  obtain⟨o,q,_⟩:=D b a;show Wb (VY q)
 let P:∀b∈fp,mh X pins (upd Y j.heap.objs.size (.lst [])) b:=λb a=>⟨by rw[aB (bj b a)];show(f2 b a).1,(f2 b a).2⟩
 let ok:=QR (C:=s3.heap.objs.size) (fp:=fp) S V rfl P E λb a=>(f2 b a).2.2.2.2.1
 let I4:Inv (cO X scope Nc s3.heap.objs.size s3 (upd Y j.heap.objs.size (.lst [])) fp) [] (σC fr σ) (upd Y j.heap.objs.size (.lst [])) {s3 with heap:=h',toks:=s3.toks}:=
  Jy (s':=s3) S V rfl ok (λb a=>(P b a).1) k4 hn aH
 let ar:tn 0 h':=T.keep _ _ _ az λb _ o q=>k4 b o (k3 b o q);generalize f:cO X scope Nc s3.heap.objs.size s3 (upd Y j.heap.objs.size (.lst [])) fp=Xc at I4;let bq:PG Xc tg g:=by rw[<-f];show hg _ _ _ _
 let bg:tS Xc w c:=by rw[<-f];show ht _ _ _ _
 let br:PE Xc z te:=by rw[<-f];show he _ _ _ _
 let K:Xc.prog=X.prog:=by rw[<-f];rfl
 let G:Xc.w=X.w:=by rw[<-f];rfl
 let xK:Xc.K=X.K:=by rw[<-f];rfl
 let xc:Xc.calm=true:=by rw[<-f];show hc
 let R:Xc.A=X.A:=by rw[<-f];rfl
 let xE:Xc.env=compEnvC scope (mN scope s3.heap.objs.size (dq X.env.cells scope.names [])) s3.heap.objs.size X.env:=by rw[<-f];rfl
 let xx:Xc.xe=λ_ _=>False:=by rw[<-f];rfl
 let O:∀ {k:Hp},(∀b∈fp,k b=none)->∀b∈fp,mh Xc [] k b:=λ{k} hn b a=>by
  rw[<-f];show⟨hn b a,Wb (E b a),ok.vQ b a,.inl a,(ok.GQ b a).2,λp hp=>by cases hp⟩
 let B:codeAny (model X.prog X.w) X.A (.compLoop (.ListComp z [⟨tg,t,w,0⟩] scope pos) 0 (.ref it) (.ref j.heap.objs.size) (compEnvC scope (mN scope s3.heap.objs.size (dq X.env.cells scope.names [])) s3.heap.objs.size X.env))
  (RR (.ref j.heap.objs.size) s3.heap.objs.size) {s3 with heap:=h',toks:=s3.toks}:=by
  show Df (λn s'=>∃i Z k,Inv Xc [] Z k s'/\tn i s'.heap/\(∀b∈fp,k b=none)/\W i n Z k) ?_ m0 ⟨0,_,_,I4,ar,λb a=>(P b a).1,w0⟩;rintro n s5 ⟨i,σ5,H5,I5,ah,aU,w5⟩;rcases turn i n σ5 H5 w5 with⟨ag,qn⟩|⟨go,N,hN,step⟩
  . have q:=T.done Xc K G xK xc i [] s5 σ5 H5 (λ_ _=>False) I5 (O aU) ah ag;rw[R]at q;show bZ q λr s6 ⟨hr,U⟩=>?_;subst hr;obtain⟨m,hm,_⟩:=U.loc;rw[xE]at hm;let M:H5 s3.heap.objs.size=none:=by let:=U.free;rw[xE]at this;show this
    let a3:Un (pV X.stack) fp (upd Y j.heap.objs.size (.lst [])) H5 s3.heap s6.heap:=by let:=U.base;rw[<-f]at this;show this
    let bb:s6.os=s3.os:=by let:=U.os;rw[<-f]at this;show this
    let aA:iu X.prog X.w H5 s6.heap:=by let:=U.aH;rw[K,G]at this;show this
    let J:=V.E_ (s':=s6) (ch:=fp) bb a3 aA U.bare λb a=>⟨(P b a).2.2.2.1,(P b a).2.1,(P b a).2.2.2.2.1,(P b a).2.2.2.2.2⟩
    show bw _ _ s6 H5 m hm (V.vH (VL _) M) J qn
  . have q:=T.item Xc K G xK xc i [] s5 σ5 H5 (λ_ _=>False) I5 (O aU) ah go;rw[R]at q;show bZ q λr s6 ⟨u,hr,h6⟩=>?_;subst hr;show bZ h6 λ_ s7 ⟨x,H7,I7,r7,y7,L,bu⟩=>?_;let bA:=I7.pinned (O bu) (T.obj _ _ L);let q8:=bq _ s7 σ5 H7 x u _ bA r7 (step x H7 y7);rw[K,G,R,xE,xx]at q8;show bZ q8 λ_ s8 ⟨A,H8,I8,q8⟩=>?_;let q9:=bg _ s8 A H8 _ I8 q8;rw[K,G,R,xE,xx]at q9;show bZ q9 λb s9 ⟨H9,I9,q9⟩=>?_
    let again:∀ {k:Hp} {s':Shared},Inv Xc ([]++tW fp s7.heap) A k s'->N A k->∃m,m<n/\∃i Z k,Inv Xc [] Z k s'/\tn i s'.heap/\(∀b∈fp,k b=none)/\W i m Z k:=λ{k s'} J nn=>by
     obtain⟨m',hm,w7⟩:=hN A k nn;show⟨m',hm,i+1,A,k,J.ie,T.keep _ _ _ L λb a o e=>(J.pin (b,o) (We _ (We _ (nI a e)))).1,λb a=>?_,w7⟩;obtain⟨o,e,d⟩:=T.obj _ _ L b a;show(J.pin (b,o) (We _ (We _ (nI a e)))).2.1
    cases b with
    |false=>show again I9 q9
    |true=>
     have qe:=br _ s9 A H9 _ I9 q9;rw[K,G,R,xE,xx]at qe;show bZ qe λy a4 ⟨vy,bG,bF,ry,ys,hy,bl,qN⟩=>?_;let qa:=zi (X:=Xc) _ a4 A bG (.ref j.heap.objs.size) [vy] (.ref j.heap.objs.size) [y] (λ_ k=>N A k) bF rfl (.cons ry .nil) ⟨_,ys,vy,rfl,rfl,hy,bl,qN⟩;rw[K,G,R,xx]at qa;show bZ qa λ_ bL ⟨_,bX,bB,_,a8⟩=>again bB a8
 show codeAny_compStart_list ?_ ?_
 . show B
 . show T.self _ 0 _ _ _ ar B
def Ef{e i a:Expr}{g:TG}(j:X.xe=λ_ _=>False)(z:X.calm=true)(S:cN X scope Nc fr)(v:PI X i a o)
 (w:∀C s H ex,PG (cO X scope Nc C s H ex) i g) (r:∀C s H ex,tS (cO X scope Nc C s H ex) b c) (y:∀C s H ex,PE (cO X scope Nc C s H ex) e p)
 (hs:∀x,foldedSetIterable a X.env x=pure x:=by intro _;rfl):PE X (.ListComp e [⟨i,a,b,0⟩] scope pos) (uE o fr g c p):=by
 intro pins s σ H Q I h;rw[eval_ListComp];let k:closureFor scope X.env=pure (dq X.env.cells scope.names []):=nk λx j u=>I.ok.has x.1 (S.free x j u);show wpAny_comprehension_free rfl hs k S.kind S.names ?_;show xa (RR:=λn C=>compPost (model X.prog X.w) X.A X.xe none (EP X pins σ Q) n C) j z S v w r y I h λl C D B m t f J q=>⟨m,t,λA d=>⟨.ref l,B,Inv.forget J f d,rfl,q⟩⟩
def Ee{k p d:Expr}{j:List Expr}{G:TI}{g:TG}{c:TT}{K:TE}{pos b n:Pos}{i:Nat}{x:Str}(u:X.xe=λ_ _=>False)(W:X.calm=true)(S:cN X scope Nc fr)(R:PI X p d G)
 (T:∀C s H ex,PG (cO X scope Nc C s H ex) p g) (L:∀C s H ex,tS (cO X scope Nc C s H ex) j c) (V:∀C s H ex,PE (cO X scope Nc C s H ex) k K) (Y:X.N.Nodup) (w:X.N[i]?=some x) (O:Loc X.env.scope x) (U:X.fn x=true\/X.env.scope.names.lookup x=some .local)
 (v:swapsWith (.ListComp k [⟨p,d,j,0⟩] scope pos) (some (.Name x b)) n.line X.env=pure true)
 (hs:∀x,foldedSetIterable d X.env x=pure x:=by intro _;rfl):PS X (.Assign [.Name x b] (.ListComp k [⟨p,d,j,0⟩] scope pos) n) (ni (uE G fr g c K) (jq i)):=by
 intro pins s σ H D I h;let y:closureFor scope X.env=pure (dq X.env.cells scope.names []):=nk λx u P=>I.ok.has x.1 (S.free x u P);rw[exec_Assign_Name_used _ _ _ _ v];show VG (aaq (VG ?_));change wpAny _ X.A (do let _ <-comprehension (.ListComp k [⟨p,d,j,0⟩] scope pos) scope X.env _ (newList []) false (eval d X.env) (some (assign (.Name x b) X.env))) _ _ s
 show VG (X6 (wpAny_comprehension_free (use:=some (assign (.Name x b) X.env)) (Q:=λ_ t=>SP X pins D .next t) rfl hs y S.kind S.names
  (xa (RR:=λF C=>compPost (model X.prog X.w) X.A X.xe (some (assign (.Name x b) X.env)) (λ_ t=>SP X pins D .next t) F C) u W S R T L V I h λl C s6 H5 m N f J q=>?_)) (λ_ t M=>VQ (VQ M)) λ_ _ e=>e)
 change wpAny _ X.A (assign (.Name x b) X.env (.ref l)) _ _ _;show wpAny_assign_Name (zt J Y w O (show RelV (.ref l) (.ref l)from rfl) (λs7 J7 A=>?_) U);obtain⟨a,o,B⟩:=A
 let E:C≠a:=by
  rcases B with rfl|B
  . show f.2.1
  . show λz=>f.2.2.2.2.1 x a B z.symm
 show⟨m,N.sameBut o E,λZ r=>⟨σ.set i (some (.ref l)),H5,Inv.forget J7 f r,q⟩⟩
end
inductive D where
 |az|bl (b:Bool)|int (i:Int)|str (x:Str)|ty (n:String)|ref (n:Nat)|lst (xs:List D)|tup (xs:List D)
inductive Cell where
 |lst (xs:List D)|ins (C:Addr) (fs:List (Str×D))|dead
  |tab (P:Addr) (pos:Pos) (qual:Str) (b:Bool)
abbrev ae:=List Cell
abbrev bO:=List (Option D)
mutual
def Rep(α:List (Option Addr))(H:Hp):D->V->Prop
 | .az,v=>v= .az
 | .bl b,v=>v= .bl b
 | .int i,v=>v= .int i
 | .str x,v=>v= .str x
 | .ty n,v=>v= .ty n
 | .ref n,v=>α[n]?=some none\/∃a,α[n]?=some (some a)/\v= .ref a
 | .lst d,v=>∃a c,v= .ref a/\some a∉α/\Rd H a (.lst c)/\aF α H d c
 | .tup d,v=>∃a c,v= .ref a/\some a∉α/\H a=some (.tup c)/\aF α H d c
def aF(α:List (Option Addr))(H:Hp):List D->List V->Prop
 | [],a=>a=[]
 |d::ds,a=>∃v r,a=v::r/\Rep α H d v/\aF α H ds r
end
def aX:∀ {ds:List D} {vs:List V},aF α H ds vs↔Paired (Rep α H) ds vs
 | [],vs=>by
   unfold aF;constructor
   . rintro rfl;show .nil
   . intro h;cases h;rfl
 |d::ds,vs=>by
  unfold aF;constructor
  . rintro⟨v,r,rfl,b,a⟩;show .cons b (aX.mp a)
  . intro h;cases h with|cons b a=>show⟨_,_,rfl,b,aX.mpr a⟩
section
variable {α:List (Option Addr)}{H:Hp}
def aF.length{ds:List D}{vs:List V}(h:aF α H ds vs):ds.length=vs.length:=Zy (aX.mp h)
def nH{A B:Type}{F:A->B->Prop}:∀ {xs:List A} {ys:List B} {i:Nat} {x:A},Paired F xs ys->xs[i]?=some x->∃y,ys[i]?=some y/\F x y
 |_,_,_,_,.nil,e=>by simp at e
 |_,_,0,_,.cons r _,e=>by simp at e;subst e;show⟨_,rfl,r⟩
 |_,_,i+1,x,.cons _ t,e=>by
  obtain⟨u,b,a⟩:=nH (i:=i) (x:=x) t (by simpa using e);show⟨u,by simpa using b,a⟩
def fF{A B:Type}{F:A->B->Prop}:∀ {xs a:List A} {ys ys':List B},Paired F xs ys->Paired F a ys'->Paired F (xs++a) (ys++ys')
 |_,_,_,_,.nil,s=>s
 |_,_,_,_,.cons r t,s=> .cons r (fF t s)
def uY{A B:Type}{F:A->B->Prop}:∀ {xs:List A} {ys:List B} (n:Nat),Paired F xs ys->Paired F (xs.take n) (ys.take n)
 |_,_,0,_=> .nil
 |_,_,_+1,.nil=> .nil
 |_,_,n+1,.cons r t=> .cons r (uY n t)
def vb{A B:Type}{F:A->B->Prop}:∀ {xs:List A} {ys:List B} (n:Nat),Paired F xs ys->Paired F (xs.drop n) (ys.drop n)
 |_,_,0,r=>r
 |_,_,_+1,.nil=> .nil
 |_,_,n+1,.cons _ t=>vb n t
def qY{A B:Type}{F:A->B->Prop}{x:A}{y:B}(r:F x y):∀ {xs:List A} {ys:List B} (i:Nat),Paired F xs ys->Paired F (xs.set i x) (ys.set i y)
 |_,_,_,.nil=> .nil
 |_,_,0,.cons _ t=> .cons r t
 |_,_,i+1,.cons q t=> .cons q (qY r i t)
def mB{A B:Type}{F:A->B->Prop}{xs:List A}{ys:List B}(h:Paired F xs ys):∀k:Nat,Paired F (List.replicate k xs).flatten (List.replicate k ys).flatten
 |0=> .nil
 |k+1=>by
  rw[W3,W3,XN,XN];show fF h (mB h k)
def aF.get{ds:List D}{vs:List V}{i:Nat}{d:D}(h:aF α H ds vs)(e:ds[i]?=some d):∃v,vs[i]?=some v/\Rep α H d v:=nH (aX.mp h) e
end
structure Step(α:List (Option Addr))(H:Hp)(α':List (Option Addr))(H':Hp):Prop where
 ext:∀b o,some b∉α->H b=some o->H' b=some o
 pre:∀(n:Nat) (x:Option Addr),α[n]?=some x->α'[n]?=some x\/α'[n]?=some none
 new:∀b,some b∈α'->some b∉α->H b=none
def Step.refl:Step α H α H:=⟨λ_ _ _ h=>h,λ_ _ h=> .inl h,λ_ h n=>absurd h n⟩
def Step.trans{H H1 k:Hp}(a:Step α H f H1)(b:Step f H1 i k):Step α H i k where
 ext:=λc o d e=>b.ext c o (λz=>by rw[a.new c z d]at e;cases e) (a.ext c o d e)
 pre:=λn x e=>by
  rcases a.pre n x e with h|h
  . show b.pre n x h
  . rcases b.pre n none h with g|g
    . show .inr g
    . show .inr g
 new:=λc d n=>by
  by_cases j:some c∈f
  . show a.new c j n
  . have:=b.new c d j;cases q:H c with
    |none=>rfl
    |some o=>rw[a.ext c o n q]at this;cases this
def Step.laid(h:H p=none):Step α H α (upd H p o):=
 ⟨λb u _ e=>by rw[aB (dH e h)];show e,λ_ _ h=> .inl h,λ_ h n=>absurd h n⟩
def Step.cell(h:H p=none):Step α H (α++[some p]) (upd H p o):=
 ⟨λb u _ e=>by rw[aB (dH e h)];show e,λn x e=> .inl (by rw[VR (VI.mp e).1];show e),λb a n=>by
  rcases WC.mp a with z|z
  . show absurd z n
  . have:b=p:=by simpa using z
    subst this;show h⟩
def Step.write(h:some p∈α):Step α H α (upd H p o):=
 ⟨λb u n e=>by rw[aB (λz=>by subst z;show n h)];show e,λ_ _ h=> .inl h,λ_ h n=>absurd h n⟩
mutual
def Rep.step(s:Step α H c f):∀ {d:D} {v:V},Rep α H d v->Rep c f d v
 | .az,_,h=>by unfold Rep at h⊢;show h
 | .bl _,_,h=>by unfold Rep at h⊢;show h
 | .int _,_,h=>by unfold Rep at h⊢;show h
 | .str _,_,h=>by unfold Rep at h⊢;show h
 | .ty _,_,h=>by unfold Rep at h⊢;show h
 | .ref n,_,h=>by
   unfold Rep at h⊢;rcases h with h|⟨a,e,r⟩
   . rcases s.pre _ _ h with z|z<;>show .inl z
   . rcases s.pre _ _ e with z|z
     . show .inr ⟨a,z,r⟩
     . show .inl z
 | .lst g,_,h=>by
   unfold Rep at h⊢;obtain⟨a,b,e,n,r,q⟩:=h;show⟨a,b,e,λz=>?_,?_,aF.step s q⟩
   . have:=s.new a z n;rcases r with r|⟨o,r⟩<;>(rw[this]at r;cases r)
   . rcases r with r|⟨o,r⟩
     . show .inl (s.ext _ _ n r)
     . show .inr ⟨o,s.ext _ _ n r⟩
 | .tup g,_,h=>by
   unfold Rep at h⊢;obtain⟨a,b,e,n,r,q⟩:=h;show⟨a,b,e,(λz=>by rw[s.new a z n]at r;show nomatch r),s.ext _ _ n r,aF.step s q⟩
def aF.step(s:Step α H a b):∀ {ds:List D} {vs:List V},aF α H ds vs->aF a b ds vs
 | [],_,h=>by unfold aF at h⊢;show h
 |d::ds,_,h=>by
  unfold aF at h⊢;obtain⟨v,r,e,f,c⟩:=h;show⟨v,r,e,Rep.step s f,aF.step s c⟩
end
structure b_(G F H:Hp):Prop where
 eq:∀b,H b=(G b).or (F b)
 Bp:∀b o,G b=some o->F b=none
section
variable {G F H:Hp}
def b_.get(P:b_ G F H)(h:G b=some o):H b=some o:=by rw[P.eq b,h];rfl
def b_.same(P:b_ G F H):Kw G H:=λ_ _ h=>P.get h
def b_.none(P:b_ G F H)(h:H b=none):G b=none/\F b=none:=by
 let e:=P.eq b;rw[h]at e;cases q:G b with
 |none=>rw[q]at e;show⟨rfl,e.symm⟩
 |some o=>rw[q]at e;cases e
def b_.frame(P:b_ G F H)(h:F b=some o):H b=some o/\G b=Option.none:=by
 let a:G b=Option.none:=by
  cases q:G b with
  |none=>rfl
  |some u=>rw[P.Bp b u q]at h;cases h
 show⟨by rw[P.eq b,a,h];rfl,a⟩
def b_.laid(P:b_ G F H)(h:H p=Option.none):b_ (upd G p o) F (upd H p o):=by
 obtain⟨d,c⟩:=P.none h;show⟨λb=>?_,λb u e=>?_⟩
 . by_cases a:b=p
   . subst a;rw[aW,aW];rfl
   . rw[aB a,aB a];show P.eq b
 . by_cases a:b=p
   . subst a;show c
   . rw[aB a]at e;show P.Bp b u e
def b_.write(P:b_ G F H)(h:G p=some o):b_ (upd G p o') F (upd H p o'):=by
 show⟨λb=>?_,λb u e=>?_⟩
 . by_cases a:b=p
   . subst a;rw[aW,aW];rfl
   . rw[aB a,aB a];show P.eq b
 . by_cases a:b=p
   . subst a;show P.Bp b o h
   . rw[aB a]at e;show P.Bp b u e
def b_.hide(P:b_ G F H)(h:H p=Option.none):b_ G (upd F p o) (upd H p o):=by
 obtain⟨c,d⟩:=P.none h;show⟨λb=>?_,λb u e=>?_⟩
 . by_cases a:b=p
   . subst a;rw[aW,aW,c];rfl
   . rw[aB a,aB a];show P.eq b
 . by_cases a:b=p
   . subst a;rw[c]at e;cases e
   . rw[aB a];show P.Bp b u e
def b_.Vk(P:b_ G F H)(h:F p=some o):b_ G (upd F p o') (upd H p o'):=by
 let c:=(P.frame h).2;show⟨λb=>?_,λb u e=>?_⟩
 . by_cases a:b=p
   . subst a;rw[aW,aW,c];rfl
   . rw[aB a,aB a];show P.eq b
 . by_cases a:b=p
   . subst a;rw[c]at e;cases e
   . rw[aB a];show P.Bp b u e
def b_.show(P:b_ G (upd F p o) H)(h:F p=Option.none):b_ (upd G p o) F H:=by
 let c:=(P.frame (b:=p) aW)
 show⟨λb=>?_,λb u e=>?_⟩
 . by_cases a:b=p
   . subst a;rw[aW,c.1];rfl
   . rw[aB a,P.eq b,aB a]
 . by_cases a:b=p
   . subst a;show h
   . rw[aB a]at e;let:=P.Bp b u e;rw[aB a]at this;show this
end
mutual
def Rep.mono(s:Kw G H):∀ {d:D} {v:V},Rep α G d v->Rep α H d v
 | .az,_,h=>by unfold Rep at h⊢;show h
 | .bl _,_,h=>by unfold Rep at h⊢;show h
 | .int _,_,h=>by unfold Rep at h⊢;show h
 | .str _,_,h=>by unfold Rep at h⊢;show h
 | .ty _,_,h=>by unfold Rep at h⊢;show h
 | .ref n,_,h=>by unfold Rep at h⊢;show h
 | .lst c,_,h=>by
   unfold Rep at h⊢;obtain⟨a,b,e,n,r,q⟩:=h;show⟨a,b,e,n,?_,aF.mono s q⟩;rcases r with r|⟨o,r⟩
   . show .inl (s _ _ r)
   . show .inr ⟨o,s _ _ r⟩
 | .tup c,_,h=>by
   unfold Rep at h⊢;obtain⟨a,b,e,n,r,q⟩:=h;show⟨a,b,e,n,s _ _ r,aF.mono s q⟩
def aF.mono(s:Kw G H):∀ {ds:List D} {vs:List V},aF α G ds vs->aF α H ds vs
 | [],_,h=>by unfold aF at h⊢;show h
 |d::ds,_,h=>by
  unfold aF at h⊢;obtain⟨v,r,e,b,a⟩:=h;show⟨v,r,e,Rep.mono s b,aF.mono s a⟩
end
def ka(α:List (Option Addr))(H:Hp):List (Str×D)->List (Str×V)->Prop:=Paired λp q=>p.1=q.1/\Rep α H p.2 q.2
def kD(α:List (Option Addr))(H:Hp)(a:Addr):Cell->Prop
 | .lst xs=>∃d,H a=some (.lst d)/\aF α H xs d
 | .ins C fs=>∃h d,H a=some (.ins C h d)/\ka α H fs d
 | .dead=>False
 | .tab P f e b=>a=P/\∃g:Array Value,H a=some (.kn g)/\TriplesOk g.toList/\
    ((b=false/\codeAmong f g.toList=none)\/(b=true/\∃c o d t,codeAmong f g.toList=some (.ref c)/\some c∉α/\H c=some (.gI o (.own c))/\o.data= .fields d/\d[1]?=some (.str e t)))
structure aV(α:List (Option Addr))(st:ae)(H:Hp):Prop where
 len:α.length=st.length
 nd:∀(i j:Nat) (a:Addr),α[i]?=some (some a)->α[j]?=some (some a)->i=j
 at':∀(n:Nat) (c:Cell),st[n]?=some c->(c= .dead/\α[n]?=some none)\/∃a,α[n]?=some (some a)/\kD α H a c
def ka.step(s:Step α H a b)(h:ka α H ds vs):ka a b ds vs:=Paired.JP h λ_ _ z=>⟨z.1,z.2.step s⟩
def kD.same{H k:Hp}(s:Step α H l k)(e:k a=H a)(h:kD α H a c):kD l k a c:=by
 cases c with
 |lst x=>obtain⟨d,g,f⟩:=h;show⟨d,e.trans g,f.step s⟩
 |ins C fs=>obtain⟨w,d,g,f⟩:=h;show⟨w,d,e.trans g,f.step s⟩
 |dead=>show h.elim
 |tab P u m b=>
  obtain⟨z,r,g,f,j⟩:=h;show⟨z,r,e.trans g,f,?_⟩;rcases j with j|⟨v,c,o,d,t,q,n,i,p⟩
  . show .inl j
  . show .inr ⟨v,c,o,d,t,q,(λy=>by rw[s.new c y n]at i;cases i),s.ext c _ n i,p⟩
def kD.some(h:kD α H a c):∃o,H a=some o:=by
 cases c with
 |lst j=>obtain⟨f,d,i⟩:=h;show⟨_,d⟩
 |ins C fs=>obtain⟨l,f,d,i⟩:=h;show⟨_,d⟩
 |dead=>show h.elim
 |tab P g e b=>obtain⟨_,k,d,_⟩:=h;show⟨_,d⟩
def dY(e:α[n]?=Option.some (Option.some a))(r:Rep α H (.ref n) v):v= .ref a:=by
 unfold Rep at r;rcases r with r|⟨b,c,rfl⟩
 . rw[e]at r;cases r
 . rw[e]at c;cases c;rfl
section
variable {α:List (Option Addr)}{st:ae}{H:Hp}
def aV.gL(S:aV α st H){n:Nat}{xs:List D}(e:st[n]?=Option.some (.lst xs)):∃a,α[n]?=Option.some (Option.some a)/\∃vs,H a=Option.some (.lst vs)/\aF α H xs vs:=by
 rcases S.at' n _ e with⟨z,_⟩|z
 . cases z
 . show z
def aV.xF(S:aV α st H){n:Nat}{C:Addr}{fs:List (Str×D)}(e:st[n]?=Option.some (.ins C fs)):∃a,α[n]?=Option.some (Option.some a)/\∃b vs,H a=Option.some (.ins C b vs)/\ka α H fs vs:=by
 rcases S.at' n _ e with⟨z,_⟩|z
 . cases z
 . show z
def aV.mem(S:aV α st H)(h:Option.some a∈α):∃(n:Nat) (c:Cell),α[n]?=Option.some (Option.some a)/\st[n]?=Option.some c/\kD α H a c:=by
 obtain⟨n,d,e⟩:=Wf.mp h;let f:n<st.length:=by rw[<-S.len];show d
 let b:α[n]?=Option.some (Option.some a):=by rw[VV d,e]
 rcases S.at' n st[n] (by simp[f])with⟨_,q⟩|⟨a',q,ca⟩
 . rw[b]at q;cases q
 . rw[b]at q;cases q;show⟨n,_,b,by simp[f],ca⟩
def aV.jW(S:aV α st H)(h:H p=none):Option.some p∉α:=λz=>by
 obtain⟨n,c,_,_,a⟩:=S.mem z;obtain⟨o,e⟩:=a.some;rw[h]at e;cases e
def aV.laid(S:aV α st H)(h:H p=none):aV α st (upd H p o):=
 ⟨S.len,S.nd,λn c e=>by
  rcases S.at' n c e with z|⟨a,q,b⟩
  . show .inl z
  . show .inr ⟨a,q,b.same (Step.laid h) (aB (by obtain⟨u,z⟩:=b.some;show dH z h))⟩⟩
def aV.cell(S:aV α st H)(h:H p=none)(w:kD (α++[Option.some p]) (upd H p o) p c):aV (α++[Option.some p]) (st++[c]) (upd H p o) where
 len:=by rw[Wu,Wu,S.len];rfl
 nd:=λi j a B A=>by
  let b:∀(i:Nat) (a:Addr),(α++[Option.some p])[i]?=Option.some (Option.some a)->(i<α.length/\α[i]?=Option.some (Option.some a))\/(i=α.length/\a=p):=by
   intro i a e;by_cases r:i<α.length
   . rw[VR r]at e;show .inl ⟨r,e⟩
   . rw[V_ (W5 r)]at e
     let g:i-α.length=0:=by
      cases q:i-α.length with
      |zero=>rfl
      |succ k=>rw[q]at e;simp at e
     rw[g]at e;let:p=a:=by simpa using e
     show .inr ⟨by lia,this.symm⟩
  rcases b i a B with⟨y,m⟩|⟨y,m⟩<;>rcases b j a A with⟨x,l⟩|⟨x,l⟩
  . show S.nd i j a m l
  . subst l;show absurd (Wn m) (S.jW h)
  . subst m;show absurd (Wn l) (S.jW h)
  . lia
 at':=λn d e=>by
  by_cases f:n<st.length
  . rw[VR f]at e;let s:n<α.length:=by rw[S.len];show f
    rcases S.at' n d e with⟨z,q⟩|⟨a,q,t⟩
    . show .inl ⟨z,by rw[VR s];show q⟩
    . show .inr ⟨a,by rw[VR s];show q,t.same (Step.cell h) (aB (by obtain⟨u,z⟩:=t.some;show dH z h))⟩
  . rw[V_ (W5 f)]at e
    let g:n-st.length=0:=by
     cases q:n-st.length with
     |zero=>rfl
     |succ k=>rw[q]at e;simp at e
    rw[g]at e;let v:c=d:=by simpa using e
    subst v;show .inr ⟨p,?_,w⟩;rw[V_ (by rw[S.len];show W5 f),S.len,g];rfl
def aV.write(S:aV α st H)(e:α[n]?=Option.some (Option.some p))(h:kD α (upd H p o) p c):aV α (st.set n c) (upd H p o) where
 len:=by rw[V0];show S.len
 nd:=S.nd
 at':=λm d q=>by
  let f:Option.some p∈α:=Wn e;by_cases b:m=n
  . subst b
    let g:m<st.length:=by
     let:=(VI.mp q).1;rw[V0]at this;show this
    rw[VX g]at q;cases q;show .inr ⟨p,e,h⟩
  . rw[VP (VO b)]at q;rcases S.at' m d q with z|⟨a,r,i⟩
    . show .inl z
    . show .inr ⟨a,r,i.same (Step.write f) (aB λz=>?_)⟩;subst z;show b (S.nd m n _ r e)
end
abbrev DK:=D->ae->Prop
abbrev DE:=bO->ae->DK->Prop
abbrev DT:=bO->ae->(Bool->ae->Prop)->Prop
abbrev DA:=bO->ae->(List D->ae->Prop)->Prop
structure kG where
 nx:bO->ae->Prop
 rt:DK
 bk:bO->ae->Prop:=λ_ _=>False
 ct:bO->ae->Prop:=λ_ _=>False
abbrev DS:=kG->bO->ae->Prop
structure d5(α:List (Option Addr))(H:Hp)(σd:bO)(σ:L2.St):Prop where
 len:σd.length=σ.length
 at':∀(i:Nat) (d:D),σd[i]?=some (some d)->∃v,σ[i]?=some (some v)/\Rep α H d v
def d5.step(s:Step α H b c)(h:d5 α H a σ):d5 b c a σ:=
 ⟨h.len,λi d e=>let⟨v,q,r⟩:=h.at' i d e;⟨v,q,r.step s⟩⟩
def d5.set{a:bO}{σ:L2.St}(h:d5 α H a σ)(i:Nat)(r:Rep α H d v):d5 α H (a.set i (some d)) (σ.set i (some v)):=by
 show⟨by rw[V0,V0,h.len],λj e q=>?_⟩;let f:=h.len;by_cases c:j=i
 . subst c
   let b:j<a.length:=by
    let:=(VI.mp q).1;rw[V0]at this;show this
   rw[VX b]at q;cases q;show⟨v,VX (by lia),r⟩
 . rw[VP (VO c)]at q;rw[VP (VO c)];show h.at' j e q
def LK(α:List (Option Addr))(G F:Hp)(K:DK)(Q:VK):Prop:=∀d a,K d a->∀c b e v,Step α G c b->b_ b F e->aV c a b->Rep c b d v->Q v e
def Lm(α:List (Option Addr))(G F:Hp)(K:Bool->ae->Prop)(Q:Bool->Hp->Prop):Prop:=∀b a,K b a->∀d c e,Step α G d c->b_ c F e->aV d a c->Q b e
def Vf(α:List (Option Addr))(G F:Hp)(K:List D->ae->Prop)(Q:List V->Hp->Prop):Prop:=∀e a,K e a->∀c b f d,Step α G c b->b_ b F f->aV c a b->aF c b e d->Q d f
inductive T5(t:DE)(σ:L2.St)(H:Hp)(Q:VK):Prop
 |mk (α:List (Option Addr)) (σd:bO) (st:ae) (K:DK) (G F:Hp) (P:b_ G F H) (R:d5 α G σd σ) (S:aV α st G) (h:t σd st K) (k:LK α G F K Q):T5 t σ H Q
def LE(t:DE):TE:=T5 t
inductive TM(t:DT)(σ:L2.St)(H:Hp)(Q:Bool->Hp->Prop):Prop
 |mk (α:List (Option Addr)) (σd:bO) (st:ae) (K:Bool->ae->Prop) (G F:Hp) (P:b_ G F H) (R:d5 α G σd σ) (S:aV α st G) (h:t σd st K) (k:Lm α G F K Q):TM t σ H Q
def LT(t:DT):TT:=TM t
inductive T9(t:DA)(σ:L2.St)(H:Hp)(Q:List V->Hp->Prop):Prop
 |mk (α:List (Option Addr)) (σd:bO) (st:ae) (K:List D->ae->Prop) (G F:Hp) (P:b_ G F H) (R:d5 α G σd σ) (S:aV α st G) (h:t σd st K) (k:Vf α G F K Q):T9 t σ H Q
def LA(t:DA):TA:=T9 t
def LK.here{α:List (Option Addr)}{G F H:Hp}{K:DK}{Q:VK}(h:LK α G F K Q)(P:b_ G F H){d:D}{st:ae}{v:V}(k:K d st)(S:aV α st G)(r:Rep α G d v):Q v H:=h d st k α G H v Step.refl P S r
def LK.at{α b:List (Option Addr)}{G F c:Hp}{K:DK}{Q:VK}(h:LK α G F K Q)(s:Step α G b c):LK b c F K Q:=λd a k e i g v f P S r=>h d a k e i g v (s.trans f) P S r
def Lm.at{α b:List (Option Addr)}{G F c:Hp}{K:Bool->ae->Prop}{Q:Bool->Hp->Prop}(h:Lm α G F K Q)(s:Step α G b c):Lm b c F K Q:=λd a k e i g f P S=>h d a k e i g (s.trans f) P S
section
variable {X:Cx}{a b c e:Expr}{es:List Expr}{ta tb tc te:DE}{pos:Pos}
def PE.imp(h:PE X e t)(f:∀σ H Q,t' σ H Q->t σ H Q):PE X e t':=λd s σ H Q I q=>h d s σ H Q I (f σ H Q q)
def PT.imp(h:PT X e t)(f:∀σ H Q,t' σ H Q->t σ H Q):PT X e t':=λd s σ H Q I q=>h d s σ H Q I (f σ H Q q)
def PW.imp(h:PW X e t)(f:∀σ H Q,t' σ H Q->t σ H Q):PW X e t':=λw d s σ H Q I q=>h w d s σ H Q I (f σ H Q q)
def PA.imp(h:PA X es t)(f:∀σ H Q,t' σ H Q->t σ H Q):PA X es t':=λp d s σ H Q I q=>h p d s σ H Q I (f σ H Q q)
def aa(i:Nat):DE:=λσ f K=>match σ[i]? with|some (some d)=>K d f|_=>False
def dC(d:D):DE:=λ_ f K=>K d f
def RK(h:PE X (.Name x pos) (Q6 i)):PE X (.Name x pos) (LE (aa i)):=PE.imp h λσ H Q ⟨α,f,g,K,G,F,P,R,S,t,k⟩=>by
 unfold aa at t;split at t
 . rename_i d q;obtain⟨v,e,r⟩:=R.at' i d q;show⟨v,e,k.here P t S r⟩
 . show t.elim
def uy(h:PE X e (tC v))(r:∀α H,Rep α H d v):PE X e (LE (dC d)):=PE.imp h λσ H Q ⟨α,f,g,K,G,F,P,R,S,t,k⟩=>k.here P t S (r α G)
def S_:PE X (.Constant (.int i) j pos) (LE (dC (.int i))):=uy Rj λ_ _=>by unfold Rep;rfl
def UI:PE X (.Constant (.bool i) j pos) (LE (dC (.bl i))):=uy SN λ_ _=>by unfold Rep;rfl
def Sq:PE X (.Constant .none j pos) (LE (dC .az)):=uy QC λ_ _=>by unfold Rep;rfl
abbrev cZ:=D->D->ae->DK->Prop
abbrev Bv:=D->ae->DK->Prop
abbrev eX:=List D->ae->DK->Prop
inductive TY(r:cZ)(x y:V)(H:Hp)(Q:VK):Prop
 |mk (α:List (Option Addr)) (d e:D) (st:ae) (K:DK) (G F:Hp) (P:b_ G F H) (rx:Rep α G d x) (ry:Rep α G e y) (S:aV α st G) (h:r d e st K) (k:LK α G F K Q):TY r x y H Q
def LR(r:cZ):R2:=TY r
inductive OZ(r:Bv)(x:V)(H:Hp)(Q:VK):Prop
 |mk (α:List (Option Addr)) (d:D) (st:ae) (K:DK) (G F:Hp) (P:b_ G F H) (rx:Rep α G d x) (S:aV α st G) (h:r d st K) (k:LK α G F K Q):OZ r x H Q
def MO(r:Bv):V->Hp->VK->Prop:=OZ r
inductive Q1(r:eX)(xs:List V)(H:Hp)(Q:VK):Prop
 |mk (α:List (Option Addr)) (ds:List D) (st:ae) (K:DK) (G F:Hp) (P:b_ G F H) (rx:aF α G ds xs) (S:aV α st G) (h:r ds st K) (k:LK α G F K Q):Q1 r xs H Q
def fU(r:eX):List V->Hp->VK->Prop:=Q1 r
def ak(r:cZ)(ta tb:DE):DE:=λσ g K=>ta σ g λx f=>tb σ f λy d=>r x y d K
def o8(r:Bv)(ta:DE):DE:=λσ f K=>ta σ f λx d=>r x d K
def LE.op(h:LE (ak r ta tb) σ H Q):GZ (LR r) (LE ta) (LE tb) σ H Q:=by
 obtain⟨α,i,o,K,G,F,P,R,S,t,k⟩:=h;show⟨α,i,o,_,G,F,P,R,S,t,λd g q n C H1 v l A y s=>?_⟩;show⟨n,i,g,_,C,F,A,R.step l,y,q,λw f u m B E D j z x p=>?_⟩;show⟨m,d,w,f,K,B,F,z,s.step j,p,x,u,(k.at l).at j⟩
def LE.un(h:LE (o8 r ta) σ H Q):T7 (MO r) (LE ta) σ H Q:=by
 obtain⟨α,g,j,K,G,F,P,R,S,t,k⟩:=h;show⟨α,g,j,_,G,F,P,R,S,t,λd f q i p H1 v l o n m=>?_⟩;show⟨i,d,f,K,p,F,o,m,n,q,k.at l⟩
def UD(d:bU X (binaryOp op) (LR r))(g:PE X a (LE ta))(f:PE X b (LE tb)):PE X (.BinOp a op b pos) (LE (ak r ta tb)):=PE.imp (RC d g f) λ_ _ _ h=>LE.op h
def UU(d:EF X (unaryOp op) (MO r))(f:PE X a (LE ta)):PE X (.UnaryOp op a pos) (LE (o8 r ta)):=PE.imp (Tc d f) λ_ _ _ h=>LE.un h
def RX(d:bU X (compareOp op) (LR r))(i:PE X a (LE ta))(g:PE X b (LE tb))(f:behindInMarks op b=false:=by first|show eO _|rfl):PE X (.Compare a [op] [b] pos) (LE (ak r ta tb)):=PE.imp (Oy d i g f) λ_ _ _ h=>LE.op h
def bH(t:DE):DT:=λσ g K=>t σ g λd f=>match d with| .bl b=>K b f|_=>False
def LT.test(h:LT (bH te) σ H Q):LE te σ H λx p=>∃k,x= .bl k/\Q k p:=by
 obtain⟨α,i,l,K,G,F,P,R,S,t,k⟩:=h;show⟨α,i,l,_,G,F,P,R,S,t,λd f q j r H1 v m o n g=>?_⟩;cases d with
 |bl b=>
  unfold Rep at g;show⟨b,g,k b f q j r H1 m o n⟩
 |_=>show q.elim
def QX(d:bU X (compareOp op) (LR r))(i:PE X a (LE ta))(g:PE X b (LE tb))(f:behindInMarks op b=false:=by first|show eO _|rfl):PT X (.Compare a [op] [b] pos) (LT (bH (ak r ta tb))):=PT.imp (NP d i g f) λσ H Q h=>by
 let q:=LT.test h;show LE.op (Q:=λx j=>∃k,x= .bl k/\Q k j) q
def Qx(f:PE X e (LE te))(d:∀whole,isTrue e X.env whole=(do let v <-whole;standAt e.pos;holding [v] (truthy v)):=by intro _;rfl):PT X e (LT (bH te)):=PT.imp (QU f d) λσ H Q h=>LT.test h
def gN(t:DT):DT:=λσ f K=>t σ f λb d=>K (!b) d
def Aq(t u:DT):DT:=λσ f K=>t σ f λb d=>if b=true then u σ d K else K false d
def oC(t u:DT):DT:=λσ f K=>t σ f λb d=>if b=true then K true d else u σ d K
def Pm(j:PT X a (LT t)):PT X (.UnaryOp .Not a pos) (LT (gN t)):=PT.imp (Pu j) λσ H Q ⟨α,f,h,K,G,F,P,R,S,t,k⟩=>
 ⟨α,f,h,_,G,F,P,R,S,t,λb d q g n H1 i m l=>k _ d q g n H1 i m l⟩
def LT.and(h:LT (Aq t u) σ H Q):O0 (LT t) (LT u) σ H Q:=by
 obtain⟨α,g,n,K,G,F,P,R,S,t,k⟩:=h;show⟨α,g,n,_,G,F,P,R,S,t,λb d q i m H1 f l j=>?_⟩;cases b with
 |true=>show⟨i,g,d,K,m,F,l,R.step f,j,q,k.at f⟩
 |false=>show k _ d q i m H1 f l j
def LT.or(h:LT (oC t u) σ H Q):TK (LT t) (LT u) σ H Q:=by
 obtain⟨α,g,n,K,G,F,P,R,S,t,k⟩:=h;show⟨α,g,n,_,G,F,P,R,S,t,λb d q i m H1 f l j=>?_⟩;cases b with
 |false=>show⟨i,g,d,K,m,F,l,R.step f,j,q,k.at f⟩
 |true=>show k _ d q i m H1 f l j
def N_(d:PT X a (LT t)):PW X (.BoolOp .And [a] pos) (LT t):=pw_and1 d
def QM(d:PT X a (LT t)):PW X (.BoolOp .Or [a] pos) (LT t):=pw_or1 d
def Rt(f:PT X a (LT t))(d:PW X (.BoolOp .And (b::es) pos) (LT u)):PW X (.BoolOp .And (a::b::es) pos) (LT (Aq t u)):=PW.imp (pw_and f d) λ_ _ _ h=>LT.and h
def Tg(f:PT X a (LT t))(d:PW X (.BoolOp .Or (b::es) pos) (LT u)):PW X (.BoolOp .Or (a::b::es) pos) (LT (oC t u)):=PW.imp (pw_or f d) λ_ _ _ h=>LT.or h
def oX(ta tb:DE):DE:=λσ g K=>ta σ g λd f=>match d with| .bl b=>if b=true then tb σ f K else K (.bl false) f|_=>False
def FH(ta tb:DE):DE:=λσ g K=>ta σ g λd f=>match d with| .bl b=>if b=true then K (.bl true) f else tb σ f K|_=>False
def Au(t:DT):DE:=λσ f K=>t σ f λb d=>K (.bl (!b)) d
def R8(d:PE X a (LE ta)):PE X (.BoolOp op [a] pos) (LE ta):=PU d
def RO(r:PE X a (LE ta))(p:PE X (.BoolOp .And (b::es) pos) (LE tb)):PE X (.BoolOp .And (a::b::es) pos) (LE (oX ta tb)):=PE.imp (O4 r p) λσ H Q ⟨α,h,o,K,G,F,P,R,S,t,k⟩=>by
 show⟨α,h,o,_,G,F,P,R,S,t,λd f q i n H1 v g m l j=>?_⟩;cases d with
 |bl b=>
  unfold Rep at j;show⟨b,j,?_⟩;cases b with
  |true=>show⟨i,h,f,K,n,F,m,R.step g,l,q,k.at g⟩
  |false=>show k _ f q i n H1 _ g m l (by unfold Rep;rfl)
 |_=>show q.elim
def Uw(r:PE X a (LE ta))(p:PE X (.BoolOp .Or (b::es) pos) (LE tb)):PE X (.BoolOp .Or (a::b::es) pos) (LE (FH ta tb)):=PE.imp (SQ r p) λσ H Q ⟨α,h,o,K,G,F,P,R,S,t,k⟩=>by
 show⟨α,h,o,_,G,F,P,R,S,t,λd f q i n H1 v g m l j=>?_⟩;cases d with
 |bl b=>
  unfold Rep at j;show⟨b,j,?_⟩;cases b with
  |false=>show⟨i,h,f,K,n,F,m,R.step g,l,q,k.at g⟩
  |true=>show k _ f q i n H1 _ g m l (by unfold Rep;rfl)
 |_=>show q.elim
def Tp(m:PE X a (LE ta)):PE X (.UnaryOp .Not a pos) (LE (Au (bH ta))):=PE.imp (Q4 m) λσ H Q ⟨α,h,j,K,G,F,P,R,S,t,k⟩=>by
 show⟨α,h,j,_,G,F,P,R,S,t,λd f q i p H1 v l o n g=>?_⟩;cases d with
 |bl b=>
  unfold Rep at g;show⟨b,g,k _ f q i p H1 _ l o n (by unfold Rep;rfl)⟩
 |_=>show q.elim
def L5(t:DT)(ta tb:DE):DE:=λσ f K=>t σ f λb d=>if b=true then ta σ d K else tb σ d K
def Td(n:PT X c (LT t))(p:PE X a (LE ta))(o:PE X b (LE tb)):PE X (.IfExp c a b pos) (LE (L5 t ta tb)):=PE.imp (Kg n p o) λσ H Q ⟨α,g,m,K,G,F,P,R,S,t,k⟩=>by
 show⟨α,g,m,_,G,F,P,R,S,t,λb d q h l H1 f j i=>?_⟩;cases b with
 |true=>show⟨h,g,d,K,l,F,j,R.step f,i,q,k.at f⟩
 |false=>show⟨h,g,d,K,l,F,j,R.step f,i,q,k.at f⟩
def ai:DA:=λ_ d K=>K [] d
def ab(ta:DE)(tr:DA):DA:=λσ h K=>ta σ h λx f=>tr σ f λg d=>K (x::g) d
def xj:PA X [] (LA ai):=PA.imp HP λσ H Q ⟨α,f,d,K,G,F,P,R,S,t,k⟩=>k [] d t α G H [] Step.refl P S (by unfold aF;rfl)
def uv{tr:DA}(w:PE X e (LE te))(u:PA X es (LA tr))(hs:starEach (e::es) X.env=(false,eval e X.env)::starEach es X.env:=by rfl):PA X (e::es) (LA (ab te tr)):=PA.imp (Ej w u hs) λσ H Q ⟨α,h,o,K,G,F,P,R,S,t,k⟩=>by
 show⟨α,h,o,_,G,F,P,R,S,t,λd g q n D H1 v l A y r=>?_⟩;show⟨n,h,g,_,D,F,A,R.step l,y,q,λE f s m C B i j z x p=>?_⟩;show k _ f s m C B (v::i) (l.trans j) z x (by unfold aF;show⟨v,i,rfl,r.step j,p⟩)
def pH(t:DA):DE:=λσ g K=>t σ g λf d=>f.length<=sizeLine/\K (.tup f) d
def qZ(t:DA):DE:=λσ g K=>t σ g λf d=>f.length<=sizeLine/\K (.lst f) d
def tP(t:DA):DE:=λσ g K=>t σ g λf d=>f.length<=sizeLine/\K (.ref d.length) (d++[.lst f])
def LK.tup{α:List (Option Addr)}{G F H:Hp}{K:DK}{Q:VK}{ds:List D}{vs:List V}{st:ae}{p:Addr}(k:LK α G F K Q)(P:b_ G F H)(q:K (.tup ds) st)(S:aV α st G)(r:aF α G ds vs)(f:H p=none):Q (.ref p) (upd H p (.tup vs)):=
 have d:=(P.none f).1
 k _ st q α _ _ _ (Step.laid d) (P.laid f) (S.laid d) (by unfold Rep;show⟨p,vs,rfl,S.jW d,aW,r.step (Step.laid d)⟩)
def LK.lst{α:List (Option Addr)}{G F H:Hp}{K:DK}{Q:VK}{ds:List D}{vs:List V}{st:ae}{p:Addr}(k:LK α G F K Q)(P:b_ G F H)(q:K (.lst ds) st)(S:aV α st G)(r:aF α G ds vs)(f:H p=none):Q (.ref p) (upd H p (.lst vs)):=
 have d:=(P.none f).1
 k _ st q α _ _ _ (Step.laid d) (P.laid f) (S.laid d) (by unfold Rep;show⟨p,vs,rfl,S.jW d,.of aW,r.step (Step.laid d)⟩)
def LK.new{α:List (Option Addr)}{G F H:Hp}{K:DK}{Q:VK}{ds:List D}{vs:List V}{st:ae}{p:Addr}(k:LK α G F K Q)(P:b_ G F H)(q:K (.ref st.length) (st++[.lst ds]))(S:aV α st G)(r:aF α G ds vs)(f:H p=none):Q (.ref p) (upd H p (.lst vs)):=
 have d:=(P.none f).1
 k _ _ q (α++[some p]) _ _ _ (Step.cell d) (P.laid f) (S.cell d ⟨vs,aW,r.step (Step.cell d)⟩) (by
  unfold Rep;show .inr ⟨p,?_,rfl⟩;rw[V_ (by rw[S.len];show VL _),S.len,W9];rfl)
def RD(h:PA X es (LA t)):PE X (.Tuple es n pos) (LE (pH t)):=PE.imp (Pt h) λσ H Q ⟨α,f,i,K,G,F,P,R,S,t,k⟩=>
 ⟨α,f,i,_,G,F,P,R,S,t,λu g q r v H1 s j o m d=>⟨by rw[<-d.length];show q.1,λp l=>(k.at j).tup o q.2 m d l⟩⟩
def SV(h:PA X es (LA t)):PE X (.List es pos) (LE (qZ t)):=PE.imp (IY h) λσ H Q ⟨α,f,i,K,G,F,P,R,S,t,k⟩=>
 ⟨α,f,i,_,G,F,P,R,S,t,λs g q o u H1 r j n m d=>⟨by rw[<-d.length];show q.1,λp l=>(k.at j).lst n q.2 m d l⟩⟩
def Tj(h:PA X es (LA t)):PE X (.List es pos) (LE (tP t)):=PE.imp (IY h) λσ H Q ⟨α,f,i,K,G,F,P,R,S,t,k⟩=>
 ⟨α,f,i,_,G,F,P,R,S,t,λs g q o u H1 r j n m d=>⟨by rw[<-d.length];show q.1,λp l=>(k.at j).new n q.2 m d l⟩⟩
abbrev bW:=List D->ae->DK->Prop
inductive PQ(T:bW)(vs:List V)(H:Hp)(Q:VK):Prop
 |mk (α:List (Option Addr)) (ds:List D) (st:ae) (K:DK) (G F:Hp) (P:b_ G F H) (rx:aF α G ds vs) (S:aV α st G) (h:T ds st K) (k:LK α G F K Q):PQ T vs H Q
def gj(S:bW):Sp:=λd H Q _=>PQ S d H Q
def av(S:bW)(t:DA):DE:=λσ f K=>t σ f λg d=>S g d K
def LE.call{S:bW}(h:LE (av S t) σ H Q):LV (gj S) [] E0 (LA t) σ H Q:=by
 obtain⟨α,f,i,K,G,F,P,R,S,t,k⟩:=h;show⟨α,f,i,_,G,F,P,R,S,t,λm d q g p H1 r j o n l=>?_⟩;try dsimp only
 rw[XD];show⟨g,m,d,K,p,F,o,l,n,q,k.at j⟩
def Qq{S:bW}{k:Nat}{f:Addr}{fd:FuncData}{i:List Str}{x:Str}{p:Pos}{t:DA}(F:cY X.prog X.w X.K X.mg X.base fN k f fd i (gj S))(j:cJ k X.A)(n:Gl X x)(l:X.mg x=some (.ref f))(m:PySem.W.keepIn X.K (.ref f)=true)(q:Binds X.K fd i [])
 (r:PA X (e::es) (LA t)) (g:(x==("__debug__":Str))=false:=by decide) (o:starEach (e::es) X.env=(false,eval e X.env)::starEach es X.env:=by rfl) (d:(backTo pos (starEach es X.env)).any (·.1)=false:=by rfl):
 PE X (.Call (.Name x p) (e::es) [] pos) (LE (av S t)):=PE.imp (NK F j n l m q .nil Ao r g o d) λ_ _ _ h=>LE.call h
def bI(r:eX)(t:DA):DE:=λσ f K=>t σ f λg d=>r g d K
def LE.cb(h:LE (bI r t) σ H Q):QV (fU r) (LA t) σ H Q:=by
 obtain⟨α,f,i,K,G,F,P,R,S,t,k⟩:=h;show⟨α,f,i,_,G,F,P,R,S,t,λm d q g p H1 s j o n l=>?_⟩;show⟨g,m,d,K,p,F,o,l,n,q,k.at j⟩
end
section
variable {X:Cx}
def bU.imp{f:Value->Value->Sem Value}(h:bU X f r)(k:∀x y H Q,b x y H Q->r x y H Q):bU X f b:=λa s σ H x y v u Q I d c q=>h a s σ H x y v u Q I d c (k x y H Q q)
def bJ.imp(h:bJ X f r)(k:∀xs H Q,b xs H Q->r xs H Q):bJ X f b:=λa s σ H xs c Q I d q=>h a s σ H xs c Q I d (k xs H Q q)
def vd(C:Int->Int->Prop)(g:Int->Int->D):cZ:=λx y a K=>match x,y with| .int i,.int j=>C i j/\K (g i j) a|_,_=>False
def kT{f:Value->Value->Sem Value}{g:Int->Int->D}{g':Int->Int->V}(c:∀i j α H,Rep α H (g i j) (g' i j))(h:bU X f (rI C g')):bU X f (LR (vd C g)):=bU.imp h λx y H Q ⟨α,d,e,l,K,G,m,P,b,a,S,q,k⟩=>by
 cases d<;>cases e<;>first
  |show q.elim
  |(unfold Rep at b a;show⟨_,_,b,a,q.1,k.here P q.2 S (c _ _ _ _)⟩)
abbrev T2:Int->Int->Prop:=λ_ _=>True
def xr{g:Int->Int->V}{f:Value->Value->Sem Value}(h:bU X f (wC g)):bU X f (rI T2 g):=bU.imp h λx y H Q ⟨i,j,b,a,_,q⟩=>⟨i,j,b,a,q⟩
abbrev LY:cZ:=vd T2 λi j=> .int (i-j)
abbrev GA:cZ:=vd (λ_ j=>j≠0/\j.natAbs.log2<9000) λi j=> .int (i.fdiv j)
abbrev Ms:cZ:=vd (λ_ j=>j≠0) λi j=> .int (i.fmod j)
abbrev LU:cZ:=vd Kb λi j=> .int (i^j.toNat)
abbrev O7:cZ:=vd T2 λi j=> .bl (decide (i<j))
abbrev O3:cZ:=vd T2 λi j=> .bl (decide (i<=j))
abbrev Pz:cZ:=vd T2 λi j=> .bl (decide (j<i))
abbrev QE:cZ:=vd T2 λi j=> .bl (decide (j<=i))
def SI:bU X (binaryOp .Sub) (LR LY):=kT (λ_ _ _ _=>by unfold Rep;rfl) (xr Pa)
def QG:bU X (binaryOp .FloorDiv) (LR GA):=kT (λ_ _ _ _=>by unfold Rep;rfl) (Mt λi j _ _ _ _ _ a q=>floordiv_int a.1 q (.inl (PyProof.noPylong_of_log2 a.2)))
def Sj:bU X (binaryOp .Mod) (LR Ms):=kT (λ_ _ _ _=>by unfold Rep;rfl) Nt
def SH:bU X (binaryOp .Pow) (LR LU):=kT (λ_ _ _ _=>by unfold Rep;rfl) QZ
def UW:bU X (compareOp .Lt) (LR O7):=kT (λ_ _ _ _=>by unfold Rep;rfl) (xr Tf)
def Ui:bU X (compareOp .LtE) (LR O3):=kT (λ_ _ _ _=>by unfold Rep;rfl) (xr RE)
def U8:bU X (compareOp .Gt) (LR Pz):=kT (λ_ _ _ _=>by unfold Rep;rfl) (xr Sb)
def UT:bU X (compareOp .GtE) (LR QE):=kT (λ_ _ _ _=>by unfold Rep;rfl) (xr Sw)
def L9:Bv:=λx a K=>match x with| .int i=>K (.int (-i)) a|_=>False
def To:EF X (unaryOp .USub) (MO L9):=λa s σ H x v Q I b ⟨α,d,c,K,G,e,P,r,S,q,k⟩=>by
 cases d<;>first
  |show q.elim
  |(unfold Rep at r;show PX a s σ H x v Q I b ⟨_,r,k.here P q S (by unfold Rep;rfl)⟩)
def Inv.vD{pins:List (Addr×Obj)}{σ:L2.St}{H:Hp}{s:Shared}{l:Addr}{xs:List V}(I:Inv X pins σ H s)(h:Rd H l (.lst xs)):
 xs.length<=sizeLine/\∃(its:List Value) (n:Nat),Vals xs its/\xs.length=its.length/\s.heap.get? l=some {cls:= .type "list",data:= .seq its.toArray n}:=by
 obtain⟨z,its,n,r,e⟩:=h.ok I.aH;show⟨z,its,n,r,r.length,e⟩
def fE(P:b_ G F H)(h:Rd G a u):Rd H a u:=by
 rcases h with h|⟨o,h⟩
 . show .inl (P.get h)
 . show .inr ⟨o,P.get h⟩
def D2:bU X (binaryOp .Add) (λx y H Q=>∃l b xs d,x= .ref l/\y= .ref b/\Rd H l (.lst xs)/\Rd H b (.lst d)/\xs.length+d.length<=sizeLine/\∀p,H p=none->Q (.ref p) (upd H p (.lst (xs++d)))):=by
 intro f s σ H x y v u Q I i g h;obtain⟨l,b,xs,d,rfl,rfl,m,o,C,q⟩:=h;cases i;cases g;obtain⟨z,c,n,r,D,e⟩:=Inv.vD I m;obtain⟨A,a,B,j,k,w⟩:=Inv.vD I o;show PySem.P.add_list e w ?_ (by rw[VW,VW];lia);let t:c.toArray++a.toArray=(c++a).toArray:=by simp
 rw[t];show⟨.ref _,_,I.Km (t':=s.toks) (r.append j) (by rw[Wu];lia),rfl,q _ I.fresh⟩
def Ec:bU X (binaryOp .Mult) (λx y H Q=>∃l k xs,x= .ref l/\y= .int k/\Rd H l (.lst xs)/\ -(2^63)<=k/\k<2^63/\xs.length*k.toNat<=sizeLine/\
 ∀p,H p=none->Q (.ref p) (upd H p (.lst (List.replicate k.toNat xs).flatten))):=by
 intro w s σ H x y v u Q I D C h;obtain⟨l,k,xs,rfl,rfl,G,K,J,A,q⟩:=h;cases D;obtain⟨t,rfl⟩:=C;obtain⟨z,b,n,r,E,e⟩:=Inv.vD I G;let f:b.toArray.size*k.toNat<=sizeLine:=by rw[VW,<-E];show A
 let i:¬b.toArray.size*k.toNat>(2^63-1)/8:=by
  let:(sizeLine:Nat)<=(2^63-1)/8:=by decide
  lia
 let g:¬(!Builtin.List.listFitsIndex k)=true:=by
  rw[fitsIndex_both K J];show WD
 let c:¬Builtin.List.listTooLong (b.toArray.size*k.toNat)=true:=by
  rw[KQ f];show WD
 let d:List.foldl (λo j=>o++j) #[] (List.replicate (if b.toArray.isEmpty=true then 0 else k.toNat) b.toArray)=(List.replicate k.toNat b).flatten.toArray:=by
  let L:∀m:Nat,List.foldl (λo j=>o++j) #[] (List.replicate m b.toArray)=(List.replicate m b).flatten.toArray:=λm=>by
   let:=foldl_rep b m [];rw[List.nil_append]at this;show this
  rw[L];cases b with
  |nil=>simp
  |cons a M=>rw[VM (by simp)]
 show aaD (T:="list") (U:="int") (by decide) ⟨_,e,rfl⟩ (λB=>aaC B k t) noFill_list_mul F.fills_int_mul ZT repeat_list F.slot_int_index.lookup
  (Y4 ZT (aaC s k t) F.entry_int_rmul (F.args_int_rmul_2 _ _) (int___rmul___int_list k t l b.toArray n)
    ⟨e,rfl,⟨_,e,rfl⟩,Y4 F.slot_list_mul ⟨_,e,rfl⟩ F.entry_list_mul (F.args_list_mul_2 _ _) (AutoListH.list___mul___list_int_3 l b.toArray n k t g i c) ⟨e,?_⟩⟩)
 rw[d];show⟨.ref _,_,I.Km (t':=s.toks) (r.rep k.toNat) (by rw[len_rep,XW];show A),rfl,q _ I.fresh⟩
def KJ:bU X (binaryOp .Add) (λx y H Q=>∃a b xs ys,x= .ref a/\y= .ref b/\H a=some (.tup xs)/\H b=some (.tup ys)/\xs.length+ys.length<=sizeLine/\
 (xs=[]->Q (.ref b) H)/\(xs≠ []->ys=[]->Q (.ref a) H)/\(xs≠ []->ys≠ []->∀p,H p=none->Q (.ref p) (upd H p (.tup (xs++ys))))):=by
 intro c s σ H x y v u Q I o m h;obtain⟨a,b,xs,ys,rfl,rfl,z,w,M,G,F,E⟩:=h;by_cases f:xs=[]
 . cases o;cases m;obtain⟨e,D,K,_⟩:=I.tuple (.of z);obtain⟨d,R,J,_⟩:=I.tuple (.of w);obtain⟨⟨P,O,A,C⟩,q,t,n,r⟩:=id K;obtain⟨⟨B,l,data2,k⟩,g,j,L,i⟩:=id J;simp only at t r j i;subst t r j i;let N:e=[]:=(L2.Vals.uD D).mpr f
   show concat_meets ⟨_,q,rfl⟩ ⟨_,g,rfl⟩ aaI seq_tuple_add Zw Zp (Zi _ _)
    (tuple_addW0 a b e.toArray d.toArray n L O l C k (by simp[N])) ⟨q,g,⟨.ref b,H,I,rfl,G f⟩⟩
 . show NN c s σ H _ _ v u Q I o m ⟨a,b,xs,ys,rfl,rfl,.of z,.of w,f,M,F f,E f⟩
def yg:fillsNumberSlot (.type "tuple") "mul"=pure false:=
 PySem.fillsNumberSlot_seq (id:="tuple.__mul__") (r:=some (.builtin "tuple.__rmul__")) Y5.lookup (by decide+kernel) F.slot_tuple_rmul.lookup (by decide+kernel)
def Fu:seqRepeat? (.type "tuple")=pure (some (.builtin "tuple.__mul__")):=by
 unfold seqRepeat?;rw[PySem.seqSlot_of (T:="tuple") (name:="__mul__") (id:="tuple.__mul__") Y5.lookup (by decide+kernel),PySem.seqSlot_of (T:="tuple") (name:="__rmul__") (id:="tuple.__rmul__") F.slot_tuple_rmul.lookup (by decide+kernel)];rfl
def BG(a:Int)(t:Tok)(l:Addr)(its:Array Value)(n:Nat)(c:Option Addr)(b:Array (Option Value)):Meets (Builtin.«int.__rmul__» ⟨[.int a t,.ref l],[]⟩) (λ_ R s=>s.heap.get? l=some {cls:= .type "tuple",dict:=c,data:= .seq its n,slots:=b}/\R (.ok (.ret Value.notImplemented)) s):=
 .of_wp λP w A R s h=>by
  obtain⟨f,g,d,tk,e⟩:=s;obtain⟨i,h⟩:=h
  wp_walk
  show⟨_,rfl,h⟩
def A5(l:Addr)(its:Array Value)(n:Nat)(c:Option Addr)(a:Array (Option Value))(x:Int)(u:Tok)(b:(decide (x< -(2^63))||decide (x>=2^63))=false)(j:(its.isEmpty||x==1)=true):
 Meets (Builtin.«tuple.__mul__» ⟨[.ref l,.int x u],[]⟩) (λ_ R s=>s.heap.get? l=some {cls:= .type "tuple",dict:=c,data:= .seq its n,slots:=a}/\R (.ok (.ret (.ref l))) s):=
 .of_wp λP w A R s h=>by
  obtain⟨f,g,d,tk,e⟩:=s;obtain⟨i,h⟩:=h
  wp_walk
  show ZU (by rw[b];rfl) ?_
  wp_walk
  show⟨_,rfl,h⟩
def AH(l:Addr)(its:Array Value)(n:Nat)(c:Option Addr)(a:Array (Option Value))(x:Int)(u:Tok)(b:(decide (x< -(2^63))||decide (x>=2^63))=false)(k:(its.isEmpty||x==1)=false)(j:(decide (x<=0)||its.isEmpty)=true):
 Meets (Builtin.«tuple.__mul__» ⟨[.ref l,.int x u],[]⟩) (λ_ R s=>s.heap.get? l=some {cls:= .type "tuple",dict:=c,data:= .seq its n,slots:=a}/\R (.ok (.ret (.ref s.heap.objs.size))) {s with heap:=s.heap.push {cls:= .type "tuple",data:= .seq #[]}}):=
 .of_wp λP w A R s h=>by
  obtain⟨f,g,d,tk,e⟩:=s;obtain⟨i,h⟩:=h
  wp_walk
  show ZU (by rw[b];rfl) ?_
  wp_walk
  show⟨_,rfl,h⟩
def BK(l:Addr)(its:Array Value)(n:Nat)(i:Option Addr)(c:Array (Option Value))(x:Int)(u:Tok)(f:(decide (x< -(2^63))||decide (x>=2^63))=false)(r:(its.isEmpty||x==1)=false)(q:(decide (x<=0)||its.isEmpty)=false)(e:¬((its.size:Int)*x>(2^63-1)/8))(p:Builtin.Tuple.tupleTooMany (its.size*x)=false)
 (k:(List.foldl (λb a=>b++a) #[] (List.replicate x.toNat its)).size<=sizeLine):
 Meets (Builtin.«tuple.__mul__» ⟨[.ref l,.int x u],[]⟩) (λ_ R s=>s.heap.get? l=some {cls:= .type "tuple",dict:=i,data:= .seq its n,slots:=c}/\R (.ok (.ret (.ref s.heap.objs.size))) {s with heap:=s.heap.push {cls:= .type "tuple",data:= .seq (List.foldl (λb a=>b++a) #[] (List.replicate x.toNat its))}}):=
 .of_wp λP w A R s h=>by
  obtain⟨m,g,d,tk,j⟩:=s;obtain⟨o,h⟩:=h
  wp_walk
  show ZU (by rw[f];rfl) ?_
  wp_walk
  show ZU (Wt e) ?_
  wp_walk
  show⟨_,rfl,h⟩
def OU:bU X (binaryOp .Mult) (λx y H Q=>∃l k xs,x= .ref l/\y= .int k/\H l=some (.tup xs)/\ -(2^63)<=k/\k<2^63/\xs.length*k.toNat<=sizeLine/\
 ((xs=[]\/k=1)->Q (.ref l) H)/\(¬(xs=[]\/k=1)->∀p,H p=none->Q (.ref p) (upd H p (.tup (List.replicate k.toNat xs).flatten)))):=by
 intro f s σ H x y v u Q I W S h;obtain⟨l,k,xs,rfl,rfl,hH,h1,h2,J,Y,w⟩:=h;cases W;obtain⟨t,rfl⟩:=S;obtain⟨a,r,Z,_⟩:=I.tuple (.of hH);obtain⟨⟨cls,o,data,j⟩,b,L,n,K⟩:=id Z;simp only at L K;subst L K;let B:xs.length=a.length:=r.length
 let G:(decide (k< -(2^63))||decide (k>=2^63))=false:=by
  rw[Wt (by lia),Wt (by lia)];rfl
 show aaD (T:="tuple") (U:="int") (by decide) ⟨_,b,rfl⟩ (λR=>aaC R k t) yg F.fills_int_mul ZT Fu F.slot_int_index.lookup
  (Y4 ZT (aaC s k t) F.entry_int_rmul (F.args_int_rmul_2 _ _) (BG k t l a.toArray n o j) ⟨b,rfl,⟨_,b,rfl⟩,?_⟩)
 by_cases e:xs=[]\/k=1
 . have m:(a.toArray.isEmpty||k==1)=true:=by
    rcases e with z|z
    . have:a=[]:=Xw.mp (by rw[<-B,z];rfl);rw[this];rfl
    . rw[z];simp
   show Y4 Y5 ⟨_,b,rfl⟩ aax (aah _ _) (A5 l a.toArray n o j k t G m) ⟨b,⟨.ref l,H,I,rfl,Y e⟩⟩
 . have A:a≠ []:=λz=>e (.inl (Xw.mp (by rw[B,z];rfl)));let C:k≠1:=λz=>e (.inr z);let N:a.toArray.isEmpty=false:=by simpa using A
   let m:(a.toArray.isEmpty||k==1)=false:=by rw[N];simpa using C
   let new:∀(i:List Value) (g:List V),Vals g i->g.length<=sizeLine->Inv X f σ (upd H s.heap.objs.size (.tup g)) {s with heap:=s.heap.push {cls:= .type "tuple",data:= .seq i.toArray}}:=λi g hv hy=>
    I.laid (t':=s.toks) (λ_ _ q=>VJ _ q) (VL _) ⟨hy,i,hv,⟨_,V4 _ rfl,rfl,_,rfl⟩⟩
   by_cases M:k<=0
   . have E:(decide (k<=0)||a.toArray.isEmpty)=true:=by rw[WS M];rfl
     show Y4 Y5 ⟨_,b,rfl⟩ aax (aah _ _) (AH l a.toArray n o j k t G m E) ⟨b,?_⟩;let ez:k.toNat=0:=by lia
     rw[ez]at w;show⟨.ref _,_,new [] [] .nil (V3 _),rfl,w e _ I.fresh⟩
   . have E:(decide (k<=0)||a.toArray.isEmpty)=false:=by rw[Wt M,N];rfl
     let hk:(k.toNat:Int)=k:=by lia
     let d:a.toArray.size*k.toNat<=sizeLine:=by rw[VW,<-B];show J
     let ag:((a.toArray.size:Nat):Int)*k<=(sizeLine:Int):=by
      rw[<-hk]
      exact_mod_cast d
     let f3:¬(((a.toArray.size:Nat):Int)*k>(2^63-1)/8):=by
      let:((sizeLine:Nat):Int)<=(2^63-1)/8:=by decide
      lia
     let f4:Builtin.Tuple.tupleTooMany (((a.toArray.size:Nat):Int)*k)=false:=by
      unfold Builtin.Tuple.tupleTooMany;show Wt (by lia)
     let c:List.foldl (λP O=>P++O) #[] (List.replicate k.toNat a.toArray)=(List.replicate k.toNat a).flatten.toArray:=by
      let:=foldl_rep a k.toNat [];rw[List.nil_append]at this;show this
     let D:(List.replicate k.toNat a).flatten.length=a.length*k.toNat:=by rw[len_rep,XW]
     show Y4 Y5 ⟨_,b,rfl⟩ aax (aah _ _) (BK l a.toArray n o j k t G m E f3 f4 (by rw[c,VW,D];show d)) ⟨b,?_⟩;rw[c];show⟨.ref _,_,new _ _ (r.rep k.toNat) (by rw[len_rep,XW];show J),rfl,w e _ I.fresh⟩
def LQ:cZ:=λx y c K=>match x,y with
 | .int i,.int j=>K (.int (i+j)) c
 | .tup b,.tup a=>b.length+a.length<=sizeLine/\K (.tup (b++a)) c
 | .lst b,.lst a=>b.length+a.length<=sizeLine/\K (.lst (b++a)) c
 | .str x,.str y=>x.length+y.length<=sizeLine/\K (.str (x++y)) c
 |_,_=>False
def S7:bU X (binaryOp .Add) (LR LQ):=λc s σ H x y v u Q I r o ⟨α,d,e,D,K,G,E,P,g,f,S,q,k⟩=>by
 cases d<;>cases e<;>try show q.elim
 . unfold Rep at g f;show Qm c s σ H x y v u Q I r o ⟨_,_,g,f,k.here P q S (by unfold Rep;rfl)⟩
 . unfold Rep at g f;show E9 c s σ H x y v u Q I r o ⟨_,_,g,f,q.1,k.here P q.2 S (by unfold Rep;rfl)⟩
 . unfold Rep at g f;obtain⟨a,n,rfl,na,w,l⟩:=g;obtain⟨b,m,rfl,nb,t,j⟩:=f;show D2 c s σ H _ _ v u Q I r o ⟨a,b,n,m,rfl,rfl,fE P w,fE P t,by rw[<-l.length,<-j.length];show q.1,λp A=>?_⟩;show k.lst P q.2 S (aX.mpr (fF (aX.mp l) (aX.mp j))) A
 . rename_i C B;unfold Rep at g f;obtain⟨a,n,rfl,na,w,l⟩:=g;obtain⟨b,m,rfl,nb,t,j⟩:=f;let i:=l.length;let h:=j.length;show KJ c s σ H _ _ v u Q I r o ⟨a,b,n,m,rfl,rfl,P.get w,P.get t,by rw[<-i,<-h];show q.1,λz=>?_,λ_ z=>?_,λ_ _ p A=>?_⟩
   . show k.here P q.2 S ?_;unfold Rep;let:C=[]:=by rw[z]at i;show Xw.mp i
     subst this;show⟨b,m,rfl,nb,t,j⟩
   . show k.here P q.2 S ?_;unfold Rep;let:B=[]:=by rw[z]at h;show Xw.mp h
     subst this;rw[XD];show⟨a,n,rfl,na,w,l⟩
   . show k.tup P q.2 S (aX.mpr (fF (aX.mp l) (aX.mp j))) A
def Mm:cZ:=λx y b K=>match x,y with
 | .int i,.int j=>IntMulOk i j/\K (.int (i*j)) b
 | .lst a,.int k=>(-(2^63)<=k/\k<2^63/\a.length*k.toNat<=sizeLine)/\K (.lst (List.replicate k.toNat a).flatten) b
 | .tup a,.int k=>(-(2^63)<=k/\k<2^63/\a.length*k.toNat<=sizeLine)/\K (.tup (List.replicate k.toNat a).flatten) b
 |_,_=>False
def Se:bU X (binaryOp .Mult) (LR Mm):=λb s σ H x y v u Q I r o ⟨α,d,e,E,K,G,F,P,c,g,S,q,k⟩=>by
 cases d<;>cases e<;>try show q.elim
 . unfold Rep at c g;let h:bU X (binaryOp .Mult) (rI IntMulOk λi j=> .int (i*j)):=Mt λ_ _ _ _ _ _ _ D q=>mul_int q D;show h b s σ H x y v u Q I r o ⟨_,_,c,g,q.1,k.here P q.2 S (by unfold Rep;rfl)⟩
 . unfold Rep at c g;obtain⟨a,n,rfl,na,A,f⟩:=c;show Ec b s σ H _ _ v u Q I r o ⟨a,_,n,rfl,g,fE P A,q.1.1,q.1.2.1,by rw[<-f.length];show q.1.2.2,λp w=>?_⟩;show k.lst P q.2 S (aX.mpr (mB (aX.mp f) _)) w
 . rename_i l m;let t:=c;unfold Rep at c g;obtain⟨a,n,rfl,na,A,f⟩:=c;show OU b s σ H _ _ v u Q I r o ⟨a,_,n,rfl,g,P.get A,q.1.1,q.1.2.1,by rw[<-f.length];show q.1.2.2,λC=>?_,λ_ p w=>k.tup P q.2 S (aX.mpr (mB (aX.mp f) _)) w⟩
   let e:(List.replicate m.toNat l).flatten=l:=by
    rcases C with z|z
    . have:l=[]:=Xw.mp (by rw[f.length,z];rfl);rw[this];simp
    . rw[z];simp
   let B:=q.2;rw[e]at B;show k.here P B S t
def live(st:ae):D->Bool
 | .ref n=>(match st[n]? with|some (.lst _)=>true|some (.ins _ _)=>true|_=>false)
 |_=>true
def we{α:List (Option Addr)}{H:Hp}{st:ae}{n:Nat}{v:V}(S:aV α st H)(h:live st (.ref n)=true)(r:Rep α H (.ref n) v):∃a,v= .ref a:=by
 unfold live at h;simp only at h;split at h
 . rename_i e;obtain⟨a,b,_⟩:=S.gL e;show⟨a,dY b r⟩
 . rename_i e;obtain⟨a,b,_⟩:=S.xF e;show⟨a,dY b r⟩
 . cases h
def NL:cZ:=λx y a K=>match y with| .az=>live a x=true/\K (.bl (match x with| .az=>false|_=>true)) a|_=>False
def OL:bU X (compareOp .IsNot) (LR NL):=bU.imp NQ λx y H Q ⟨α,d,e,g,K,G,h,P,b,c,S,q,k⟩=>by
 cases e<;>try show q.elim
 unfold Rep at c;show⟨c,k.here P q.2 S ?_⟩;unfold Rep;cases d
 case ref n=>
  obtain⟨a,rfl⟩:=we S q.1 b;rfl
 all_goals(unfold Rep at b;first|(rw[b];rfl)|(obtain⟨a,f,rfl,_⟩:=b;rfl))
def qr:cZ:=λx y b K=>match y with
 | .int i=>(match x with
   | .lst a=>(match dN a i with|some d=>K d b|none=>False)
   | .tup a=>(match dN a i with|some d=>K d b|none=>False)
   | .ref n=>(match b[n]? with|some (.lst a)=>(match dN a i with|some d=>K d b|none=>False)|_=>False)
   |_=>False)
 |_=>False
def aF.dN(h:aF α H ds vs)(e:L2.dN ds i=some d):∃v,L2.dN vs i=some v/\Rep α H d v:=by
 unfold L2.dN at e⊢;rw[<-h.length];cases q:ox ds.length i with
 |none=>rw[q]at e;cases e
 |some j=>rw[q]at e;show h.get e
def Uq:Ll X (LR qr):=λvalue slice b s σ H x y v u Q I o m ⟨α,d,e,J,K,G,L,P,g,l,S,q,k⟩ t=>by
 cases e<;>try show q.elim
 unfold Rep at l;cases d<;>try show q.elim
 . rename_i i n;unfold qr at q;simp only at q;split at q
   . split at q
     . rename_i A F _ B j;obtain⟨a,E,c,D,C⟩:=S.gL F;let r:=dY E g;subst r;obtain⟨z,h,f⟩:=C.dN j;show D9 value slice b s σ H _ _ v u Q I o m ⟨a,c,_,z,rfl,l,.of (P.get D),h,k.here P q S f⟩ t
     . show q.elim
   . show q.elim
 . unfold qr at q;simp only at q;split at q
   . rename_i A B j;unfold Rep at g;obtain⟨a,c,rfl,na,w,p⟩:=g;obtain⟨z,h,f⟩:=p.dN j;show D9 value slice b s σ H _ _ v u Q I o m ⟨a,c,_,z,rfl,l,.inl (fE P w),h,k.here P q S f⟩ t
   . show q.elim
 . unfold qr at q;simp only at q;split at q
   . rename_i A B j;unfold Rep at g;obtain⟨a,c,rfl,na,w,p⟩:=g;obtain⟨z,h,f⟩:=p.dN j;show Qv value slice b s σ H _ _ v u Q I o m ⟨a,c,_,z,rfl,l,.of (P.get w),h,k.here P q S f⟩ t
   . show q.elim
def Uz(f:PE X a (LE d))(e:PE X b (LE c))(hs:ux b:=by intro _ _;rfl):PE X (.Subscript a b pos) (LE (ak qr d c)):=PE.imp (Sg Uq f e hs) λ_ _ _ h=>LE.op h
def items?(st:ae):D->Option (List D)
 | .lst a=>some a
 | .tup a=>some a
 | .ref n=>(match st[n]? with|some (.lst a)=>some a|_=>none)
 |_=>none
@[simp] theorem TH(st:ae)(xs:List D):items? st (.lst xs)=some xs:=rfl
@[simp] theorem TC(st:ae)(xs:List D):items? st (.tup xs)=some xs:=rfl
@[simp] theorem items_int(st:ae)(i:Int):items? st (.int i)=none:=rfl
@[simp] theorem Uu(st:ae)(i:Bool):items? st (.bl i)=none:=rfl
@[simp] theorem items_str(st:ae)(i:Str):items? st (.str i)=none:=rfl
@[simp] theorem T6(st:ae):items? st .az=none:=rfl
def aK{st:ae}{n:Nat}{xs:List D}(h:st[n]?=some (.lst xs)):items? st (.ref n)=some xs:=by unfold items?;simp![h]
def o9{α:List (Option Addr)}{H:Hp}{st:ae}{d:D}{v:V}{xs:List D}(S:aV α st H)(r:Rep α H d v)(e:items? st d=some xs):
 ∃p vs,v= .ref p/\aF α H xs vs/\(Rd H p (.lst vs)\/H p=some (.tup vs)):=by
 cases d<;>try(cases e;done)
 . unfold items? at e;simp only at e;split at e
   . rename_i h q;cases e;obtain⟨a,g,vs,c,b⟩:=S.gL q;let f:=dY g r;subst f;show⟨a,vs,rfl,b,.inl (.of c)⟩
   . cases e
 . cases e;unfold Rep at r;obtain⟨a,vs,rfl,_,c,b⟩:=r;show⟨a,vs,rfl,b,.inl c⟩
 . cases e;unfold Rep at r;obtain⟨a,vs,rfl,_,c,b⟩:=r;show⟨a,vs,rfl,b,.inr c⟩
def FI{K:PySem.W.Frag}{G F H:Hp}(P:b_ G F H){p:Addr}{vs:List V}(h:Rd G p (.lst vs)\/G p=some (.tup vs)):mO K H p vs\/ji K H p vs:=h.elim (λz=> .inl (.inl (fE P z))) λz=> .inr (.of (P.get z))
def gq(r:aF α H ds xs)(e:ds=[d]):∃v,xs=[v]/\Rep α H d v:=by
 subst e;unfold aF at r;obtain⟨v,q,rfl,b,a⟩:=r;unfold aF at a;subst a;show⟨v,rfl,b⟩
def nF{d e:D}(r:aF α H ds xs)(q:ds=[d,e]):∃v u,xs=[v,u]/\Rep α H d v/\Rep α H e u:=by
 subst q;unfold aF at r;obtain⟨v,q,rfl,c,b⟩:=r;obtain⟨u,rfl,a⟩:=gq b rfl;show⟨v,u,rfl,c,a⟩
def Ae:eX:=λc a K=>match c with
 | [.str x]=>x.length<=sizeLine/\K (.int x.length) a
 | [d]=>(match items? a d with|some b=>K (.int b.length) a|none=>False)
 |_=>False
def RU:bJ X (.builtin "len") (fU Ae):=λa s σ H l c Q I f ⟨α,n,m,K,G,o,P,r,S,q,k⟩=>by
 unfold Ae at q;split at q
 . rename_i x;obtain⟨v,rfl,b⟩:=gq r rfl;unfold Rep at b;subst b;show Bw a s σ H _ c Q I f ⟨x,rfl,q.1,k.here P q.2 S (by unfold Rep;rfl)⟩
 . rename_i d _;split at q
   . rename_i j e;obtain⟨v,rfl,b⟩:=gq r rfl;obtain⟨p,g,rfl,i,h⟩:=o9 S b e;show Bu a s σ H _ c Q I f ⟨p,g,rfl,FI P h,k.here P q S (by unfold Rep;rw[i.length])⟩
   . show q.elim
 . show q.elim
def TJ(g:Int->Int):eX:=λb a K=>match b with| [.int i]=>K (.int (g i)) a|_=>False
abbrev EM:eX:=TJ λi=>if i<0 then-i else i
def Tz:bJ X (.builtin "abs") (fU EM):=bJ.imp J_ λb H Q ⟨α,d,c,K,G,e,P,r,S,q,k⟩=>by
 unfold EM TJ at q;split at q
 . obtain⟨v,rfl,a⟩:=gq r rfl;unfold Rep at a;subst a;show⟨_,rfl,k.here P q S (by unfold Rep;rfl)⟩
 . show q.elim
def FA(g:Int->Int->Int):eX:=λb a K=>match b with| [.int i,.int j]=>K (.int (g i j)) a|_=>False
abbrev Gx:eX:=FA λi j=>if j>i then j else i
abbrev FY:eX:=FA λi j=>if j<i then j else i
def SX(c:X.calm=true):bJ X (.builtin "max") (fU Gx):=bJ.imp (HZ c) λd H Q ⟨α,f,e,K,G,g,P,r,S,q,k⟩=>by
 unfold Gx FA at q;split at q
 . obtain⟨v,u,rfl,b,a⟩:=nF r rfl;unfold Rep at b a;subst b a;show⟨_,_,rfl,k.here P q S (by unfold Rep;rfl)⟩
 . show q.elim
def SJ(c:X.calm=true):bJ X (.builtin "min") (fU FY):=bJ.imp (GN c) λd H Q ⟨α,f,e,K,G,g,P,r,S,q,k⟩=>by
 unfold FY FA at q;split at q
 . obtain⟨v,u,rfl,b,a⟩:=nF r rfl;unfold Rep at b a;subst b a;show⟨_,_,rfl,k.here P q S (by unfold Rep;rfl)⟩
 . show q.elim
def FN:eX:=λc a K=>match c with| [.int i]=>K (.int i) a| [.bl b]=>K (.int (if b then 1 else 0)) a|_=>False
def Sh:bJ X (.type "int") (fU FN):=bJ.imp Ib λb H Q ⟨α,d,c,K,G,e,P,r,S,q,k⟩=>by
 unfold FN at q;split at q
 . obtain⟨v,rfl,a⟩:=gq r rfl;unfold Rep at a;subst a;show .inl ⟨_,rfl,k.here P q S (by unfold Rep;rfl)⟩
 . obtain⟨v,rfl,a⟩:=gq r rfl;unfold Rep at a;subst a;show .inr ⟨_,rfl,k.here P q S (by unfold Rep;rfl)⟩
 . show q.elim
def uu:eX:=λc a K=>match c with| [d]=>(match items? a d with|some b=>K (.tup b) a|none=>False)|_=>False
def OS:bJ X (.type "tuple") (fU uu):=bJ.imp zX λx H Q ⟨α,A,y,K,G,B,P,r,S,q,k⟩=>by
 unfold uu at q;split at q
 . rename_i d;split at q
   . rename_i w e;obtain⟨v,rfl,c⟩:=gq r rfl;cases d with
     |tup u=>
      cases e;let m:=c;unfold Rep at c;obtain⟨a,g,rfl,na,b,s⟩:=c;show⟨a,g,rfl,.inr ⟨.of (P.get b),k.here P q S m⟩⟩
     |_=>
      obtain⟨p,g,rfl,j,h⟩:=o9 S c e;show⟨p,g,rfl,?_⟩;rcases h with h|h
      . show .inl ⟨.inl (fE P h),λl n=>k.tup P q S j n⟩
      . first
         |(cases e;done)
         |(exfalso
           unfold items? at e;simp only at e
           first
            |(split at e
              . rename_i z;obtain⟨a,t,f,b,s⟩:=S.gL z;let i:=dY t c;cases i;rw[h]at b;cases b
              . cases e)
            |(unfold Rep at c
              obtain⟨a,f,i,_,b,_⟩:=c;cases i;rcases b with b|⟨o,b⟩<;>(rw[h]at b;cases b)))
   . show q.elim
 . show q.elim
def wN:eX:=λc a K=>match c with| [d]=>(match items? a d with|some b=>K (.lst b) a|none=>False)|_=>False
def Px:bJ X (.type "list") (fU wN):=bJ.imp uc λg H Q ⟨α,j,i,K,G,m,P,r,S,q,k⟩=>by
 unfold wN at q;split at q
 . split at q
   . rename_i f e;obtain⟨v,rfl,c⟩:=gq r rfl;obtain⟨p,a,rfl,b,h⟩:=o9 S c e;show⟨p,a,rfl,FI P h,λl d=>k.lst P q S b d⟩
   . show q.elim
 . show q.elim
def uA:eX:=λc a K=>match c with| [d]=>(match items? a d with|some b=>K (.ref a.length) (a++[.lst b])|none=>False)|_=>False
def OJ:bJ X (.type "list") (fU uA):=bJ.imp uc λg H Q ⟨α,j,i,K,G,m,P,r,S,q,k⟩=>by
 unfold uA at q;split at q
 . split at q
   . rename_i f e;obtain⟨v,rfl,c⟩:=gq r rfl;obtain⟨p,a,rfl,b,h⟩:=o9 S c e;show⟨p,a,rfl,FI P h,λl d=>k.new P q S b d⟩
   . show q.elim
 . show q.elim
def jS:List D->Option (List Bool)
 | []=>some []
 | .bl b::r=>(jS r).map (b:: ·)
 |_::_=>none
def mq:List D->Option (List Int)
 | []=>some []
 | .int b::r=>(mq r).map (b:: ·)
 |_::_=>none
def xh:∀ {ds:List D} {vs:List V} {bs:List Bool},aF α H ds vs->jS ds=some bs->vs=bs.map V.bl
 | [],vs,bs,r,e=>by
   unfold aF at r;cases e;show r
 |d::ds,vs,bs,r,e=>by
  unfold aF at r;obtain⟨v,q,rfl,a,b⟩:=r;cases d<;>try(cases e;done)
  unfold jS at e;cases z:jS ds with
  |none=>rw[z]at e;cases e
  |some c=>
   rw[z]at e;cases e;unfold Rep at a;rw[a,xh b z];rfl
def su:∀ {ds:List D} {vs:List V} {bs:List Int},aF α H ds vs->mq ds=some bs->vs=bs.map V.int
 | [],vs,bs,r,e=>by
   unfold aF at r;cases e;show r
 |d::ds,vs,bs,r,e=>by
  unfold aF at r;obtain⟨v,q,rfl,a,b⟩:=r;cases d<;>try(cases e;done)
  unfold mq at e;cases z:mq ds with
  |none=>rw[z]at e;cases e
  |some c=>
   rw[z]at e;cases e;unfold Rep at a;rw[a,su b z];rfl
def wt:∀ {bs:List Bool} {us:List Value},Vals (bs.map V.bl) us->us=bs.map Value.bool
 | [],_,.nil=>rfl
 |b::bs,_,.cons h t=>by
  let h:_=Value.bool b:=h;rw[h,wt t];rfl
def Ap:eX:=λc b K=>match c with| [.lst a]=>(match jS a with|some bs=>K (.bl (bs.all id)) b|none=>False)|_=>False
def range_all{α:Type}(l:List α)(f:α->Bool)(tr:Nat->Bool)(h:∀i x,l[i]?=some x->tr i=f x):(List.range l.length).all tr=l.all f:=by
 induction l generalizing tr with
 |nil=>rfl
 |cons a l b=>
  rw[Wl,Wm,Zz,Zz,List.all_map,h 0 a rfl];congr 1;show b (tr∘Nat.succ) λi x e=>h (i+1) x (by simpa using e)
def Su(J:X.calm=true):bJ X (.builtin "all") (fU Ap):=λm s σ H U W Q I B ⟨α,ds,Y,K,G,F',P,r,S,q,k⟩=>by
 unfold Ap at q;split at q
 . rename_i T;split at q
   . rename_i bs e;obtain⟨v,rfl,l⟩:=gq r rfl;unfold Rep at l;obtain⟨a,V,rfl,na,N,M⟩:=l;obtain⟨u,rfl,y⟩:=vals1 B;cases y;let E:=xh M e;subst E;obtain⟨z,D,n,t,hl,j⟩:=Inv.vD I (fE P N);let c:=wt t;subst c;let g:s.heap.IsList a (bs.map Value.bool).toArray:=⟨_,j,rfl,n,rfl⟩
     show call_all_walk (YW g ?_);let h:a≠s.heap.objs.size:=Wb (VY j);show⟨s.heap.objs.size,_,_,_,_,_,λi=>(bs[i]?).getD true,rfl,Walks.list (A:=X.A.in1) (I.ok.hd J) _ a h (bs.map Value.bool).toArray,⟨⟨_,V4 _ rfl,rfl,rfl⟩,⟨_,VJ _ j,rfl,n,rfl⟩⟩,?_,?_⟩
     . intro i w Z Q' E' d p;rw[List.getElem?_toArray,V5]at d;cases f:bs[i]? with
       |none=>rw[f]at d;cases d
       |some b=>
        rw[f]at d;cases d;simp![f]at p;show Yz p
     . intro O tk F
       let C:∀b o,s.heap.get? b=some o->O.get? b=some o:=λb o q=>F b o (by
        intro L;let:b=s.heap.objs.size:=by simpa using L
        show absurd (VY q) (by rw[this];show Xz _)) (VJ _ q)
       let R:(List.range (bs.map Value.bool).toArray.size).all (λi=>(bs[i]?).getD true)=bs.all id:=by
        rw[VW,VH];show range_all bs id _ λi x e=>by rw[e];rfl
       rw[R];show⟨.bl (bs.all id),H,I.kept (t':=tk) C,rfl,k.here P q S (by unfold Rep;rfl)⟩
   . show q.elim
 . show q.elim
def fL(st:ae):D->Option String
 | .az=>some "NoneType"
 | .bl _=>some "bool"
 | .int _=>some "int"
 | .str _=>some "str"
 | .lst _=>some "list"
 | .tup _=>some "tuple"
 | .ref n=>(match st[n]? with|some (.lst _)=>some "list"|_=>none)
 | .ty _=>none
@[simp] theorem Vm(st:ae)(xs:List D):fL st (.lst xs)=some "list":=rfl
@[simp] theorem VC(st:ae)(xs:List D):fL st (.tup xs)=some "tuple":=rfl
@[simp] theorem ty_int(st:ae)(i:Int):fL st (.int i)=some "int":=rfl
@[simp] theorem VD(st:ae)(i:Bool):fL st (.bl i)=some "bool":=rfl
@[simp] theorem ty_str(st:ae)(i:Str):fL st (.str i)=some "str":=rfl
@[simp] theorem Vs(st:ae):fL st .az=some "NoneType":=rfl
def tF(t c:String):Bool:=t==c||(t=="bool"&&c=="int")
def AD{α:List (Option Addr)}{H:Hp}{st:ae}{K:PySem.W.Frag}{d:D}{v:V}{t:String}(S:aV α st H)(r:Rep α H d v)(e:fL st d=some t):jP K H v (.type t):=by
 cases d<;>unfold fL at e<;>try(cases e;done)
 . unfold Rep at r;cases e;subst r;show .az
 . unfold Rep at r;cases e;subst r;show .bl _
 . unfold Rep at r;cases e;subst r;show .int _
 . unfold Rep at r;cases e;subst r;show .str _
 . simp only at e;split at e
   . rename_i z;cases e;obtain⟨a,i,f,b,c⟩:=S.gL z;let h:=dY i r;subst h;show .lst b
   . cases e
 . cases e;unfold Rep at r;obtain⟨a,g,rfl,na,b,c⟩:=r;rcases b with b|⟨o,b⟩
   . show .lst b
   . show .gI b
 . cases e;unfold Rep at r;obtain⟨a,g,rfl,na,b,c⟩:=r;show .tup b
def En{G F H:Hp}{K:PySem.W.Frag}(P:b_ G F H){x:V}{t:Value}(h:jP K G x t):jP K H x t:=by
 cases h with
 |az=>show .az
 |bl x=>show .bl x
 |int x=>show .int x
 |str x=>show .str x
 |vc x=>show .vc x
 |lst e=>show .lst (P.get e)
 |gI e=>show .gI (P.get e)
 |tup e=>show .tup (P.get e)
 |dK e=>show .dK (P.get e)
 |dT e=>show .dT (P.get e)
 |ins e a b c d f=>show .ins (P.get e) a b c d f
def nL:List String:=["NoneType","bool","int","str","list","tuple"]
def lY:List String:=["bool","int","str","list","tuple"]
def D5(K:PySem.W.Frag)(a:t∈nL)(b:c∈lY):PySem.W.kitOne K (.type t) (.type c)=some (tF t c):=by
 simp![nL,lY,V8,Wc,Yb]at a b;rcases a with rfl|rfl|rfl|rfl|rfl|rfl<;>rcases b with rfl|rfl|rfl|rfl|rfl<;>with_unfolding_all rfl
def qP{st:ae}{d:D}{t:String}(e:fL st d=some t):t∈nL:=by
 cases d<;>unfold fL at e<;>first
  |(cases e;done)
  |(cases e;decide)
  |(simp only at e;split at e<;>cases e;decide)
def kitx_of{pins:List (Addr×Obj)}{σ:L2.St}{H:Hp}{s:Shared}{x:V}{u:Value}{t:String}(I:Inv X pins σ H s)(b:RelV x u)(j:jP X.K H x (.type t)):
 ∃h:Heap->Prop,PySem.W.KitX X.K u (.type t) h/\h s.heap/\u≠ .builtin "__main__.__loader__#opaque":=by
 cases j with
 |az=>cases (show u=Value.none from b);show⟨_,PySem.W.kitx_none,True.intro,λz=>nomatch z⟩
 |bl y=>cases (show u=Value.bool y from b);show⟨_,PySem.W.kitx_bool,True.intro,λz=>nomatch z⟩
 |int i=>obtain⟨t,q⟩:=(show∃t,u=Value.int i t from b);cases q;show⟨_,PySem.W.kitx_int,True.intro,λz=>nomatch z⟩
 |str y=>obtain⟨t,q⟩:=(show∃t,u=Value.str y t from b);cases q;show⟨_,PySem.W.kitx_str,True.intro,λz=>nomatch z⟩
 |vc y=>obtain⟨t,q⟩:=(show∃t,u=Value.float y t from b);cases q;show⟨_,PySem.W.kitx_float,True.intro,λz=>nomatch z⟩
 | @lst a f d=>
   cases (show u=Value.ref a from b);obtain⟨_,_,n,_,c⟩:=(show dm X.prog X.w H s.heap a (.lst f)from I.aH a _ d)
   show⟨_,Zs,⟨_,c,rfl⟩,λz=>nomatch z⟩
 | @gI a k f d=>
   cases (show u=Value.ref a from b);obtain⟨_,_,_,n,_,c⟩:=(show dm X.prog X.w H s.heap a (.gI k (.lst f))from I.aH a _ d)
   show⟨_,Zs,⟨_,c,rfl⟩,λz=>nomatch z⟩
 | @tup a f d=>
   cases (show u=Value.ref a from b);obtain⟨_,_,_,p⟩:=(show dm X.prog X.w H s.heap a (.tup f)from I.aH a _ d)
   obtain⟨o,c,g,_⟩:=p;show⟨_,PySem.W.kitx_tuple,⟨o,c,g⟩,λz=>nomatch z⟩
 | @dK a e d=>
   cases (show u=Value.ref a from b);obtain⟨_,_,r,_,p⟩:=(show dm X.prog X.w H s.heap a (.dK e)from I.aH a _ d)
   obtain⟨o,l,m,c,g,_⟩:=p;show⟨_,Zu,⟨o,c,g.1⟩,λz=>nomatch z⟩
 | @dT a e d=>
   cases (show u=Value.ref a from b);obtain⟨_,_,f,_,o,l,m,c,g,_⟩:=(show dm X.prog X.w H s.heap a (.dT e)from I.aH a _ d)
   show⟨_,Zu,⟨o,c,g.1⟩,λz=>nomatch z⟩
def nN:List D->Option (List String)
 | []=>some []
 | .ty b::r=>(nN r).map (b:: ·)
 |_::_=>none
def CU:∀ {ds:List D} {vs:List V} {bs:List String},aF α H ds vs->nN ds=some bs->vs=bs.map V.ty
 | [],vs,bs,r,e=>by
   unfold aF at r;cases e;show r
 |d::ds,vs,bs,r,e=>by
  unfold aF at r;obtain⟨v,q,rfl,a,b⟩:=r;cases d<;>try(cases e;done)
  unfold nN at e;cases z:nN ds with
  |none=>rw[z]at e;cases e
  |some c=>
   rw[z]at e;cases e;unfold Rep at a;rw[a,CU b z];rfl
def Ck:∀ {bs:List String} {us:List Value},Vals (bs.map V.ty) us->us=bs.map Value.type
 | [],_,.nil=>rfl
 |b::bs,_,.cons h t=>by
  let h:_=Value.type b:=h;rw[h,Ck t];rfl
def Ea(K:PySem.W.Frag)(a:t∈nL):∀cs:List String,(∀c∈cs,c∈lY)->PySem.W.kitAny K (.type t) (cs.map Value.type)=some (cs.any (tF t))
 | [],_=>rfl
 |c::cs,h=>by
  change(match PySem.W.kitOne K (.type t) (.type c)with|some true=>some true|some false=>PySem.W.kitAny K (.type t) (cs.map Value.type)|none=>none)=_;rw[D5 K a (h c V6),aar];cases tF t c with
  |true=>rfl
  |false=>show Ea K a cs λc b=>h c (VZ _ b)
def xv:eX:=λb a K=>match b with
 | [d,.ty c]=>(match fL a d with|some t=>c∈lY/\K (.bl (tF t c)) a|none=>False)
 | [d,.tup e]=>(match fL a d,nN e with|some t,some cl=>(∀c∈cl,c∈lY)/\K (.bl (cl.any (tF t))) a|_,_=>False)
 |_=>False
def R7:bJ X (.builtin "isinstance") (fU xv):=λm s σ H M O Q I l ⟨α,V,R,K,G,F',P,r,S,q,k⟩=>by
 unfold xv at q;split at q
 . rename_i d c;split at q
   . rename_i t e;obtain⟨v,x,rfl,i,f⟩:=nF r rfl;obtain⟨u,g,rfl,h,b⟩:=vals2 l;unfold Rep at f;subst f;cases (show g=Value.type c from b);show HA I h (En P (AD S i e)) (D5 _ (qP e) q.1) λtk=>⟨.bl (tF t c),H,I.tok tk,rfl,k.here P q.2 S (by unfold Rep;rfl)⟩
   . show q.elim
 . rename_i d Y;split at q
   . rename_i t cl e J;obtain⟨v,x,rfl,i,f⟩:=nF r rfl;obtain⟨u,g,rfl,h,b⟩:=vals2 l;unfold Rep at f;obtain⟨a,N,rfl,na,F,E⟩:=f;cases (show g=Value.ref a from b);let A:=CU E J;subst A;obtain⟨Hh,Z,D,j⟩:=kitx_of I h (En P (AD S i e));obtain⟨z,y,pl,U⟩:=I.tuple (ji.of (P.get F));let C:=Ck y;subst C;obtain⟨⟨L,W,w,T⟩,B,p,n,o⟩:=pl;simp only at p o;subst p o;show PySem.W.kia_tup Z I.g9 D B (Ea _ (qP e) cl q.1) j λtk=>⟨.bl _,H,I.tok tk,rfl,k.here P q.2 S (by unfold Rep;rfl)⟩
   . show q.elim
 . show q.elim
end
end L3
namespace L3
open PySem PySem.Spec L2 PySem.SeqAt
open PyProof.Rows hiding St
mutual
def cU:D->D->Bool
 | .az,.az=>true
 | .bl a,.bl b=>a==b
 | .bl a,.int b=>(if a then 1 else 0)==b
 | .int a,.bl b=>a==(if b then 1 else 0)
 | .int a,.int b=>a==b
 | .str a,.str b=>a==b
 | .lst d,.lst c=>lH d c
 | .tup d,.tup c=>lH d c
 |_,_=>false
def lH:List D->List D->Bool
 | [],[]=>true
 |x::xs,y::ys=>cU x y&&lH xs ys
 |_,_=>false
end
def pl:Nat->D->Bool
 |_,.az=>true
 |_,.bl _=>true
 |_,.int _=>true
 |_,.str _=>true
 |n+1,.lst a=>a.all (pl n)
 |n+1,.tup a=>a.all (pl n)
 |_,_=>false
mutual
def qU:∀(n:Nat) (d:D),pl n d=true->cU d d=true
 |_,.az,_=>rfl
 |_,.bl _,_=>by simp[cU]
 |_,.int _,_=>by simp[cU]
 |_,.str _,_=>by simp[cU]
 |n+1,.lst a,h=>by unfold cU;show tQ n a (by unfold pl at h;show h)
 |n+1,.tup a,h=>by unfold cU;show tQ n a (by unfold pl at h;show h)
 |0,.lst a,h=>by cases h
 |0,.tup a,h=>by cases h
 |_,.ref _,h=>by unfold pl at h;cases h
 |_,.ty _,h=>by unfold pl at h;cases h
def tQ:∀(n:Nat) (xs:List D),xs.all (pl n)=true->lH xs xs=true
 |_,[],_=>by unfold lH;rfl
 |n,x::xs,h=>by
  rw[Zz,WV]at h;unfold lH;rw[qU n x h.1,tQ n xs h.2];rfl
end
mutual
def Rep.inj:∀ {d e:D} {v:V} (n:Nat),pl n d=true->pl n e=true->Rep α H d v->Rep α H e v->d=e
 | .az,e,v,n,_,g,h,c=>by
   unfold Rep at h;subst h;cases e<;>first|(unfold pl at g;cases g;done)|(unfold Rep at c;cases c;rfl)|(unfold Rep at c;cases c;done)|(unfold Rep at c;obtain⟨_,_,c,_⟩:=c;cases c)|rfl|(cases c;done)|(obtain⟨_,_,c,_⟩:=c;cases c)|(obtain⟨_,_,c⟩:=c;cases c)
 | .bl b,e,v,n,_,g,h,c=>by
   unfold Rep at h;subst h;cases e<;>first|(unfold pl at g;cases g;done)|(unfold Rep at c;cases c;rfl)|(unfold Rep at c;cases c;done)|(unfold Rep at c;obtain⟨_,_,c,_⟩:=c;cases c)|(cases c;rfl)|(cases c;done)|(obtain⟨_,_,c,_⟩:=c;cases c)|(obtain⟨_,_,c⟩:=c;cases c)
 | .int b,e,v,n,_,g,h,c=>by
   unfold Rep at h;subst h;cases e<;>first|(unfold pl at g;cases g;done)|(unfold Rep at c;cases c;rfl)|(unfold Rep at c;cases c;done)|(unfold Rep at c;obtain⟨_,_,c,_⟩:=c;cases c)|(cases c;rfl)|(cases c;done)|(obtain⟨_,_,c,_⟩:=c;cases c)|(obtain⟨_,_,c⟩:=c;cases c)
 | .str b,e,v,n,_,g,h,c=>by
   unfold Rep at h;subst h;cases e<;>first|(unfold pl at g;cases g;done)|(unfold Rep at c;cases c;rfl)|(unfold Rep at c;cases c;done)|(unfold Rep at c;obtain⟨_,_,c,_⟩:=c;cases c)|(cases c;rfl)|(cases c;done)|(obtain⟨_,_,c,_⟩:=c;cases c)|(obtain⟨_,_,c⟩:=c;cases c)
 | .ty b,e,v,n,i,g,h,c=>by unfold pl at i;cases i
 | .ref b,e,v,n,i,g,h,c=>by unfold pl at i;cases i
 | .lst q,e,v,0,i,g,h,c=>by cases i
 | .tup q,e,v,0,i,g,h,c=>by cases i
 | .lst q,e,v,n+1,i,g,h,c=>by
   unfold Rep at h;obtain⟨a,t,rfl,na,k,r⟩:=h;cases e<;>unfold Rep at c<;>try(cases c;done)
   . unfold pl at g;cases g
   . obtain⟨s,l,p,m,f,j⟩:=c;cases p
     let:t=l:=by
      rcases k with k|⟨o,k⟩<;>rcases f with f|⟨u,f⟩<;>(rw[k]at f;first|(cases f;rfl)|(cases f;done))
     subst this;rw[aF.inj n (by unfold pl at i;show i) (by unfold pl at g;show g) r j]
   . obtain⟨s,l,p,m,f,j⟩:=c;cases p;rcases k with k|⟨o,k⟩<;>(rw[k]at f;cases f)
 | .tup q,e,v,n+1,i,g,h,c=>by
   unfold Rep at h;obtain⟨a,t,rfl,na,k,r⟩:=h;cases e<;>unfold Rep at c<;>try(cases c;done)
   . unfold pl at g;cases g
   . obtain⟨s,l,p,m,f,j⟩:=c;cases p;rcases f with f|⟨o,f⟩<;>(rw[k]at f;cases f)
   . obtain⟨s,l,p,m,f,j⟩:=c;cases p;rw[k]at f;cases f;rw[aF.inj n (by unfold pl at i;show i) (by unfold pl at g;show g) r j]
def aF.inj:∀ {ds a:List D} {vs:List V} (n:Nat),ds.all (pl n)=true->a.all (pl n)=true->aF α H ds vs->aF α H a vs->ds=a
 | [],a,vs,n,_,_,c,b=>by
   unfold aF at c;subst c;cases a with
   |nil=>rfl
   |cons e a=>unfold aF at b;obtain⟨_,_,h,_⟩:=b;cases h
 |d::ds,a,vs,n,g,f,c,b=>by
  unfold aF at c;obtain⟨v,r,rfl,j,i⟩:=c;cases a with
  |nil=>unfold aF at b;cases b
  |cons e a=>
   unfold aF at b;obtain⟨m,o,h,l,k⟩:=b;cases h;rw[Zz,WV]at g f;rw[Rep.inj n g.1 f.1 j l,aF.inj n g.2 f.2 i k]
end
def n_:∀ {xs ys:List D},xs.length≠ys.length->lH xs ys=false
 | [],[],h=>absurd rfl h
 | [],_::_,_=>by unfold lH;rfl
 |_::_,[],_=>by unfold lH;rfl
 |x::xs,y::ys,h=>by
  unfold lH;rw[n_ (by simpa using h),aad]
def nZ:∀ {xs ys:List D},xs.length=ys.length->lH xs ys=(List.range xs.length).all λj=>cU (xs.getD j .az) (ys.getD j .az)
 | [],[],_=>by unfold lH;rfl
 | [],_::_,h=>by cases h
 |_::_,[],h=>by cases h
 |x::xs,y::ys,h=>by
  unfold lH;rw[Wl,Wm,Zz,List.all_map,nZ (by simpa using h)];rfl
section
variable {X:Cx}{pins:List (Addr×Obj)}{σ:L2.St}{H:Hp}{s:Shared}{α:List (Option Addr)}
def kB{xs:List D}{its:List Value}(r:aF α H xs vs)(v:Vals vs its)(j:Nat)(f:j<its.length):∃x,xs[j]?=some (xs.getD j .az)/\Rep α H (xs.getD j .az) x/\RelV x its[j]:=by
 let h:=r.length;let g:=v.length;let b:j<xs.length:=by lia
 let e:xs[j]?=some (xs.getD j .az):=by rw[VV b,VT,VV b];rfl
 obtain⟨x,q,d⟩:=r.get e;obtain⟨u,a,c⟩:=v.get q;rw[VV f]at a;cases a;show⟨x,e,d,c⟩
def jc{xs:List D}(h:xs.all (pl n)=true)(j:Nat):pl n (xs.getD j .az)=true:=by
 rw[VT];cases e:xs[j]? with
 |none=>cases n<;>rfl
 |some d=>show WR.mp h d (Wn e)
def zC:D->Bool
 | .az=>true
 | .bl _=>true
 | .int _=>true
 | .str _=>true
 |_=>false
def DH{d e:D}(h:zC d=true)(g:zC e=true)(f:Rep α H d x)(c:Rep α H e y)(b:RelV x u)(a:RelV y v):RcAt A s u v (cU d e)/\EqAt A s u v (cU d e):=by
 cases d<;>cases e<;>try(first|(cases h;done)|(cases g;done))
 all_goals(unfold Rep at f c;subst f c)
 all_goals(first|(obtain⟨t,rfl⟩:=b;obtain⟨i,rfl⟩:=a)|(obtain⟨t,rfl⟩:=b;cases a)|(cases b;obtain⟨t,rfl⟩:=a)|(cases b;cases a))
 all_goals unfold cU
 . show⟨RcAt.none_none,EqAt.same _⟩
 . show⟨RcAt.none_bool _,EqAt.none_bool _⟩
 . show⟨RcAt.none_int _ _,EqAt.none_int _ _⟩
 . show⟨RcAt.none_str _ _,EqAt.none_str _ _⟩
 . show⟨RcAt.bool_none _,EqAt.bool_none _⟩
 . show⟨RcAt.bool_bool _ _,EqAt.bool_bool _ _⟩
 . show⟨RcAt.bool_int _ _ _,EqAt.bool_int _ _ _⟩
 . show⟨RcAt.bool_str _ _ _,EqAt.bool_str _ _ _⟩
 . show⟨RcAt.int_none _ _,EqAt.int_none _ _⟩
 . show⟨RcAt.int_bool _ _ _,EqAt.int_bool _ _ _⟩
 . show⟨RcAt.int_int _ _ _ _,EqAt.int_int _ _ _ _⟩
 . show⟨RcAt.int_str _ _ _ _,EqAt.int_str _ _ _ _⟩
 . show⟨RcAt.str_none _ _,EqAt.str_none _ _⟩
 . show⟨RcAt.str_bool _ _ _,EqAt.str_bool _ _ _⟩
 . show⟨RcAt.str_int _ _ _ _,EqAt.str_int _ _ _ _⟩
 . show⟨RcAt.str_str _ _ _ _,EqAt.str_str _ _ _ _⟩
def lst_is(I:Inv X pins σ H s)(r:Rep α H (.lst xs) x)(b:RelV x u):∃a vs its,u= .ref a/\aF α H xs vs/\Vals vs its/\s.heap.IsList a its.toArray:=by
 unfold Rep at r;obtain⟨a,vs,rfl,na,e,d⟩:=r;cases b;obtain⟨z,its,n,c,g,f⟩:=Inv.vD I e;show⟨a,vs,its,rfl,d,c,⟨_,f,rfl,n,rfl⟩⟩
def tup_is(I:Inv X pins σ H s)(r:Rep α H (.tup xs) x)(b:RelV x u):∃a vs its,u= .ref a/\aF α H xs vs/\Vals vs its/\s.heap.IsTuple a its.toArray:=by
 unfold Rep at r;obtain⟨a,vs,rfl,na,e,c⟩:=r;cases b;obtain⟨its,d,p,f⟩:=I.tuple (ji.of e);show⟨a,vs,its,rfl,c,d,p⟩
def zI(I:Inv X pins σ H s){A:Around}{e:D}(j:zC e=true)(h:Rep α H (.lst xs) x)(f:Rep α H e y)(g:RelV x u)(d:RelV y v)(b:A.units<cLine):
 (RcAt A s u v (cU (.lst xs) e)/\EqAt A s u v (cU (.lst xs) e))/\RcAt A s v u (cU e (.lst xs))/\EqAt A s v u (cU e (.lst xs)):=by
 obtain⟨a,k,i,rfl,_,_,c⟩:=lst_is I h g;cases e<;>try(cases j;done)
 all_goals(unfold Rep at f;subst f)
 all_goals(first|(obtain⟨t,rfl⟩:=d)|(cases d))
 all_goals unfold cU
 . show⟨⟨RcAt.list_none c b,EqAt.list_none c b⟩,RcAt.none_list c b,EqAt.none_list c b⟩
 . show⟨⟨RcAt.list_bool _ c b,EqAt.list_bool _ c b⟩,RcAt.bool_list _ c b,EqAt.bool_list _ c b⟩
 . show⟨⟨RcAt.list_int _ _ c b,EqAt.list_int _ _ c b⟩,RcAt.int_list _ _ c b,EqAt.int_list _ _ c b⟩
 . show⟨⟨RcAt.list_str _ _ c b,EqAt.list_str _ _ c b⟩,RcAt.str_list _ _ c b,EqAt.str_list _ _ c b⟩
def yS(I:Inv X pins σ H s){A:Around}{e:D}(j:zC e=true)(h:Rep α H (.tup xs) x)(f:Rep α H e y)(g:RelV x u)(d:RelV y v)(b:A.units<cLine):
 (RcAt A s u v (cU (.tup xs) e)/\EqAt A s u v (cU (.tup xs) e))/\RcAt A s v u (cU e (.tup xs))/\EqAt A s v u (cU e (.tup xs)):=by
 obtain⟨a,k,i,rfl,_,_,c⟩:=tup_is I h g;cases e<;>try(cases j;done)
 all_goals(unfold Rep at f;subst f)
 all_goals(first|(obtain⟨t,rfl⟩:=d)|(cases d))
 all_goals unfold cU
 . show⟨⟨RcAt.tuple_none c b,EqAt.tuple_none c b⟩,RcAt.none_tuple c b,EqAt.none_tuple c b⟩
 . show⟨⟨RcAt.tuple_bool _ c b,EqAt.tuple_bool _ c b⟩,RcAt.bool_tuple _ c b,EqAt.bool_tuple _ c b⟩
 . show⟨⟨RcAt.tuple_int _ _ c b,EqAt.tuple_int _ _ c b⟩,RcAt.int_tuple _ _ c b,EqAt.int_tuple _ _ c b⟩
 . show⟨⟨RcAt.tuple_str _ _ c b,EqAt.tuple_str _ _ c b⟩,RcAt.str_tuple _ _ c b,EqAt.str_tuple _ _ c b⟩
def Es{d e:D}(f:pl n d=true)(m:pl n e=true)(k:Rep α H d x)(j:Rep α H e y)(i:RelV x (.ref a))(g:RelV y (.ref b))(h:RcAt A s (.ref a) (.ref b) (cU d e)):
 RcAt A s (.ref a) (.ref b) (cU d e)/\EqAt A s (.ref a) (.ref b) (cU d e):=by
 show⟨h,?_⟩;by_cases c:a=b
 . subst c;let l:x=y:=RelV.inj i g;subst l;let:=Rep.inj n f m k j;subst this;rw[qU n d f];show EqAt.same _
 . show EqAt.of_refs c h
def F_(I:Inv X pins σ H s):∀(n:Nat) (A:Around) (d e:D) (x y:V) (u v:Value),pl n d=true->pl n e=true->Rep α H d x->Rep α H e y->RelV x u->RelV y v->A.units+n<cLine->
 RcAt A s u v (cU d e)/\EqAt A s u v (cU d e):=by
 intro n;induction n with
 |zero=>
  intro A d e x y u v z o m l k i hu;show DH ?_ ?_ m l k i
  . cases d<;>first|rfl|(cases z)
  . cases e<;>first|rfl|(cases o)
 |succ n ih=>
  intro A d e x y u v z o m l k i hu;let c:A.units<cLine:=by lia
  let Q:A.in1.units+n<cLine:=by rw[Around.in1_units];lia
  cases d<;>try(cases z;done)
  case lst xs=>
   cases e<;>try(cases o;done)
   case lst ys=>
    have J:=m;let G:=l;let F:=k;let E:=i;obtain⟨a,S,f,rfl,L,C,r⟩:=lst_is I m k;obtain⟨b,R,g,rfl,K,B,q⟩:=lst_is I l i;let e1:=L.length;let e2:=C.length;let e3:=K.length;let e4:=B.length;show Es z o J G F E ?_;unfold cU;by_cases h:xs.length=ys.length
    . rw[nZ h];let w:f.toArray.size=g.toArray.size:=by simp![VW];lia
      let Y:xs.length=f.toArray.size:=by simp![VW];lia
      rw[Y];show RcAt.lists r q w c λj h1 h2=>?_;let P:j<f.length:=by simpa using h1
      let O:j<g.length:=by simpa using h2
      obtain⟨p,_,U,T⟩:=kB L C j P;obtain⟨W,_,N,M⟩:=kB K B j O;show(ih A.in1 _ _ p W _ _ (jc (by unfold pl at z;show z) j) (jc (by unfold pl at o;show o) j) U N (by simpa using T) (by simpa using M) Q).2
    . rw[n_ h];show RcAt.lists_lengths r q (by simp![VW,aaE,ne_eq];lia) c
   case tup ys=>
    obtain⟨a,S,f,rfl,L,C,r⟩:=lst_is I m k;obtain⟨b,R,g,rfl,K,B,q⟩:=tup_is I l i;unfold cU;show⟨RcAt.list_tuple r q c,EqAt.list_tuple r q c⟩
   all_goals show(zI I rfl m l k i c).1
  case tup xs=>
   cases e<;>try(cases o;done)
   case tup ys=>
    have J:=m;let G:=l;let F:=k;let E:=i;obtain⟨a,S,f,rfl,L,C,r⟩:=tup_is I m k;obtain⟨b,R,g,rfl,K,B,q⟩:=tup_is I l i;let e1:=L.length;let e2:=C.length;let e3:=K.length;let e4:=B.length;show Es z o J G F E ?_;unfold cU
    let t:=RcAt.tuples (e:=λj=>cU (xs.getD j .az) (ys.getD j .az)) r q c λj h1 h2=>by
     let P:j<f.length:=by simpa using h1
     let O:j<g.length:=by simpa using h2
     obtain⟨p,_,U,T⟩:=kB L C j P;obtain⟨W,_,N,M⟩:=kB K B j O;show(ih A.in1 _ _ p W _ _ (jc (by unfold pl at z;show z) j) (jc (by unfold pl at o;show o) j) U N (by simpa using T) (by simpa using M) Q).2
    by_cases h:xs.length=ys.length
    . rw[nZ h];let w:f.toArray.size=g.toArray.size:=by simp![VW];lia
      let Y:xs.length=f.toArray.size:=by simp![VW];lia
      rw[w,abp,ZD,Bool.and_true,<-w,<-Y]at t;show t
    . rw[n_ h];let Z:(f.toArray.size==g.toArray.size)=false:=by simp![VW,Ym,ne_eq];lia
      rw[Z,aad]at t;show t
   case lst ys=>
    obtain⟨a,S,f,rfl,L,C,r⟩:=tup_is I m k;obtain⟨b,R,g,rfl,K,B,q⟩:=lst_is I l i;unfold cU;show⟨RcAt.tuple_list r q c,EqAt.tuple_list r q c⟩
   all_goals show(yS I rfl m l k i c).1
  all_goals
   cases e<;>try(cases o;done)
   case lst ys=>show(zI I rfl l m i k c).2
   case tup ys=>show(yS I rfl l m i k c).2
   all_goals show DH rfl rfl m l k i
def P9:cZ:=λx y a K=>pl 40 x=true/\pl 40 y=true/\K (.bl (cU x y)) a
def Uv{k:Nat}(g:cJ k X.A):bU X (compareOp .Eq) (LR P9):=λpins s σ H x y v u Q I b a ⟨α,d,e,h,K,G,j,P,f,c,S,q,k⟩=>by
 let i:=g.units;show(F_ I 40 X.A d e x y v u q.1 q.2.1 (f.mono P.same) (c.mono P.same) b a (by lia)).1 _ _ _ _ ⟨.bl (cU d e),H,I,rfl,k.here P q.2.2 S (by unfold Rep;rfl)⟩
def Pg:cZ:=λx y a K=>match x,y with
 | .int i,.int j=>K (.bl (!decide (i=j))) a
 | .bl i,.bl j=>K (.bl (!decide (i=j))) a
 | .str i,.str j=>K (.bl (!decide (i=j))) a
 |_,_=>False
def Ul:bU X (compareOp .NotEq) (LR Pg):=bU.imp Tv λx y H Q ⟨α,d,e,c,K,G,f,P,b,a,S,q,k⟩=>by
 cases d<;>cases e<;>try show q.elim
 all_goals(unfold Rep at b a;subst b a)
 . show⟨rfl,k.here P q S (by unfold Rep;congr 2;show ZE.mpr ⟨λh=>by cases h;rfl,λh=>by rw[h]⟩)⟩
 . show⟨rfl,k.here P q S (by unfold Rep;congr 2;show ZE.mpr ⟨λh=>by cases h;rfl,λh=>by rw[h]⟩)⟩
 . show⟨rfl,k.here P q S (by unfold Rep;congr 2;show ZE.mpr ⟨λh=>by cases h;rfl,λh=>by rw[h]⟩)⟩
end
end L3
namespace L3
open PySem PySem.Spec L2
open PyProof.Rows hiding St
def LC(α:List (Option Addr))(G F:Hp)(K:bO->ae->Prop)(Q:L2.St->Hp->Prop):Prop:=∀a b,K a b->∀d c f e,Step α G d c->b_ c F f->d5 d c a e->aV d b c->Q e f
structure Am(α:List (Option Addr))(G F:Hp)(DD:kG)(D:Ends):Prop where
 nx:LC α G F DD.nx D.nx
 rt:LK α G F DD.rt D.rt
 bk:LC α G F DD.bk D.bk
 ct:LC α G F DD.ct D.ct
inductive TV(t:DS)(D:Ends)(σ:L2.St)(H:Hp):Prop
 |mk (α:List (Option Addr)) (σd:bO) (st:ae) (DD:kG) (G F:Hp) (P:b_ G F H) (R:d5 α G σd σ) (S:aV α st G) (h:t DD σd st) (k:Am α G F DD D):TV t D σ H
def LS(t:DS):TS:=TV t
def LC.at{α b:List (Option Addr)}{G F c:Hp}{K:bO->ae->Prop}{Q:L2.St->Hp->Prop}(h:LC α G F K Q)(s:Step α G b c):LC b c F K Q:=λd a k e i g v f P R S=>h d a k e i g v (s.trans f) P R S
def LC.here{α:List (Option Addr)}{G F H:Hp}{K:bO->ae->Prop}{Q:L2.St->Hp->Prop}(h:LC α G F K Q)(P:b_ G F H){a:bO}{st:ae}{σ:L2.St}(k:K a st)(R:d5 α G a σ)(S:aV α st G):Q σ H:=h a st k α G H σ Step.refl P R S
def Am.at{D:Ends}(h:Am α G F c D)(s:Step α G a b):Am a b F c D:=⟨h.nx.at s,h.rt.at s,h.bk.at s,h.ct.at s⟩
section
variable {X:Cx}{a b c e o i:Expr}{es:List Expr}{ta tb tc te:DE}{pos:Pos}{st:Stmt}{sts:List Stmt}{t u:DS}
def PS.imp{t t':TS}(h:PS X st t)(f:∀D σ H,t' D σ H->t D σ H):PS X st t':=λd s σ H D I q=>h d s σ H D I (f D σ H q)
def h_.imp{t t':TS}(h:h_ X sts t)(f:∀D σ H,t' D σ H->t D σ H):h_ X sts t':=λd s σ H D I q=>h d s σ H D I (f D σ H q)
def du:DS:=λD σ st=>D.nx σ st
def au(t u:DS):DS:=λD σ st=>t {D with nx:=u D} σ st
def NA:h_ X [] (LS du):=h_.imp Nv λD σ H ⟨α,d,st,f,G,F,P,R,S,t,k⟩=>k.nx.here P t R S
def NT(h:PS X st (LS t)):h_ X [st] (LS t):=Nu h
def KU(h:PS X st (LS t))(m:h_ X sts (LS u)):h_ X (st::sts) (LS (au t u)):=h_.imp (Jt h m) λD σ H ⟨α,g,st,v,G,F,P,R,S,t,k⟩=>
 ⟨α,g,st,_,G,F,P,R,S,t,λd f q j s x w l r p n=>⟨j,d,f,v,s,F,r,p,n,q,k.at l⟩,k.rt,k.bk,k.ct⟩
def bC(te:DE):DS:=λD σ st=>te σ st D.rt
def QW(h:PE X e (LE te)):PS X (.Return (some e) pos) (LS (bC te)):=PS.imp (Py h) λD σ H ⟨α,d,st,f,G,F,P,R,S,t,k⟩=>⟨α,d,st,_,G,F,P,R,S,t,k.rt⟩
def eN(te:DE):DS:=λD σ st=>te σ st λ_ d=>D.nx σ d
def Nh(h:PE X e (LE te))(hs:swapsWith e none pos.line X.env=pure false:=by rfl):PS X (.Expr e pos) (LS (eN te)):=PS.imp (Oa h hs) λD σ H ⟨α,g,st,s,G,F,P,R,S,t,k⟩=>
 ⟨α,g,st,_,G,F,P,R,S,t,λd j q n r H1 v f m l p=>(k.nx.at f).here m q (R.step f) l⟩
def eG(c:DT)(t u:DS):DS:=λD σ st=>c σ st λb d=>if b=true then t D σ d else u D σ d
def SM{tc:DT}(p:PT X c (LT tc))(s:h_ X x (LS t))(r:h_ X y (LS u)):PS X (.If c x y pos) (LS (eG tc t u)):=PS.imp (Tu p s r) λD σ H ⟨α,g,st,n,G,F,P,R,S,t,k⟩=>by
 show⟨α,g,st,_,G,F,P,R,S,t,λb d q h m H1 f l j=>?_⟩;cases b with
 |true=>show⟨h,g,d,n,m,F,l,R.step f,j,q,k.at f⟩
 |false=>show⟨h,g,d,n,m,F,l,R.step f,j,q,k.at f⟩
abbrev fI:=D->bO->Option bO
def bz(i:Nat):fI:=λd σ=>some (σ.set i (some d))
def gQ(i j:Nat):fI:=λd σ=>match d with| .tup [x,y]=>some ((σ.set i (some x)).set j (some y))|_=>none
inductive T_(t:fI)(v:V)(σ:L2.St)(H:Hp)(Q:L2.St->Hp->Prop):Prop
 |mk (α:List (Option Addr)) (σd:bO) (st:ae) (d:D) (K:bO->ae->Prop) (G F:Hp) (P:b_ G F H) (R:d5 α G σd σ) (S:aV α st G) (r:Rep α G d v) (h:∃σ',t d σd=some σ'/\K σ' st) (k:LC α G F K Q):T_ t v σ H Q
def LG(t:fI):TG:=T_ t
def PG.imp{g:Expr}{t t':TG}(h:PG X g t)(f:∀v σ H Q,t' v σ H Q->t v σ H Q):PG X g t':=λd s σ H v u Q I r q=>h d s σ H v u Q I r (f v σ H Q q)
def Oi{i:Nat}(h:PG X f (jq i)):PG X f (LG (bz i)):=PG.imp h λv σ H Q ⟨α,g,st,d,K,G,F,P,R,S,r,⟨j,e,q⟩,k⟩=>by
 cases e;show k.here P q (R.set i r) S
def Q0{i j:Nat}(h:PG X f (KL X.K 2 (o6 (jq i) (o6 (jq j) Fe)))):PG X f (LG (gQ i j)):=PG.imp h λv σ H Q ⟨α,w,st,d,K,G,F,P,R,S,r,⟨z,e,q⟩,k⟩=>by
 unfold gQ at e;split at e
 . rename_i x y;cases e;unfold Rep at r;obtain⟨a,A,rfl,na,s,p⟩:=r;obtain⟨l,g,rfl,n,m⟩:=nF p rfl;show⟨a,_,rfl,.of (P.get s),rfl,l,_,rfl,g,_,rfl,rfl,k.here P q ((R.set i n).set j m) S⟩
 . cases e
def aT(i:Nat)(te:DE):DS:=λD σ st=>te σ st λd f=>D.nx (σ.set i (some d)) f
def Pq{i:Nat}(h:PS X st (ni (LE te) (jq i))):PS X st (LS (aT i te)):=PS.imp h λD σ H ⟨α,g,st,s,G,F,P,R,S,t,k⟩=>
 ⟨α,g,st,_,G,F,P,R,S,t,λd j q p r H1 v f n m l=>(k.nx.at f).here n q ((R.step f).set i l) m⟩
def E1(i:Nat)(r:cZ)(te:DE):DS:=λD σ st=>match σ[i]? with|some (some x)=>te σ st λy f=>r x y f λz d=>D.nx (σ.set i (some z)) d|_=>False
def BJ(f:Int->Int->Int):cZ:=λx y st K=>match x,y with| .int i,.int j=>K (.int (f i j)) st|_,_=>False
def QT{i:Nat}{f:Int->Int->Int}(h:PS X st (Rw i (LE te) (Pc f))):PS X st (LS (E1 i (BJ f) te)):=PS.imp h λD σ H ⟨α,l,st,A,G,F,P,R,S,t,k⟩=>by
 unfold E1 at t;split at t
 . rename_i x e;obtain⟨v,ev,d⟩:=R.at' i x e;show⟨v,ev,α,l,st,_,G,F,P,R,S,t,λy m q s z H1 w g r p j=>?_⟩;cases x<;>cases y<;>try show q.elim
   let n:=d;unfold Rep at d j;show⟨_,_,d,j,(k.nx.at g).here r q ((R.step g).set i (by unfold Rep;rfl)) p⟩
 . show t.elim
def BX(x y d:D)(st:ae)(K:ae->Prop):Prop:=match x,y with
 | .ref n,.int k=>(match st[n]? with
   |some (.lst f)=>(match ox f.length k with|some j=>K (st.set n (.lst (f.set j d)))|none=>False)
   |_=>False)
 |_,_=>False
def Rn(k l te:DE):DS:=λD σ st=>te σ st λd j=>k σ j λx h=>l σ h λy g=>BX x y d g λf=>D.nx σ f
def KP(h:PS X st (ni (LE te) (yC (LE I) (LE J) uk))):PS X st (LS (Rn I J te)):=PS.imp h λD σ H ⟨α,g,st,DD,G,F,P,R,S,t,k⟩=>by
 show⟨α,g,st,_,G,F,P,R,S,t,λd z q Q G1 H1 v r P1 S1 W=>?_⟩;show⟨Q,g,z,_,G1,F,P1,R.step r,S1,q,λx w Y O G2 H2 v2 m P2 S2 V=>?_⟩;show⟨O,g,w,_,G2,F,P2,(R.step r).step m,S2,Y,λy T f E G3 H3 v3 l P3 N L=>?_⟩;cases x<;>cases y<;>try show f.elim
 rename_i n Z;unfold BX at f;simp only at f;split at f
 . rename_i xs e;split at f
   . rename_i j ej;obtain⟨p,C,s,M,K⟩:=N.gL e;let A:=dY C (V.step l);subst A;unfold Rep at L;let B:some p∈E:=Wn C;let U:=(W.step m).step l;show⟨p,s,Z,j,rfl,L,P3.get M,by rw[<-K.length];show ej,?_⟩;show(((k.nx.at r).at m).at l) g _ f E (upd G3 p (.lst (s.set j v))) _ σ (Step.write B) (P3.write M) ((((R.step r).step m).step l).step (Step.write B)) ?_;show N.write C ⟨s.set j v,aW,(aX.mpr (qY U j (aX.mp K))).step (Step.write B)⟩
   . show f.elim
 . show f.elim
def sV(c:DT)(tb:DS):DS:=λD σ st=>∃W:Nat->bO->ae->Prop,(∃m,W m σ st)/\∀m σ st,W m σ st->
 c σ st λb f=>if b=true then tb {D with nx:=λh d=>∃g,g<m/\W g h d,ct:=λh d=>∃g,g<m/\W g h d,bk:=D.nx} σ f else D.nx σ f
def Kj{tc:DT}(h:PS X st (Hk (LT tc) (LS t))):PS X st (LS (sV tc t)):=PS.imp h λD σ H ⟨α,Q,st,DD,G,F,P,R,S,⟨W,⟨m0,Z⟩,turn⟩,k⟩=>by
 show⟨λm x y=>∃n d f g,Step α G n g/\b_ g F y/\d5 n g d x/\aV n f g/\W m d f,⟨m0,α,Q,st,G,Step.refl,P,R,S,Z⟩,?_⟩;rintro m σ1 H1 ⟨V,l,v,G1,w,P1,L,S1,Y⟩;show⟨V,l,v,_,G1,F,P1,L,S1,turn m l v Y,λb C q U G2 H2 r O N=>?_⟩;cases b with
 |false=>show((k.nx.at w).at r).here O q (L.step r) N
 |true=>
  show⟨λx y=>∃s,s<m/\∃n d f g,Step α G n g/\b_ g F y/\d5 n g d x/\aV n f g/\W s d f,λx y z=>z,?_⟩;show⟨U,l,C,_,G2,F,O,L.step r,N,q,?_⟩;show⟨?_,(k.rt.at w).at r,(k.nx.at w).at r,?_⟩
  . rintro j p ⟨s,I,B⟩ A M H3 T E P3 K J;show⟨s,I,A,j,p,M,(w.trans r).trans E,P3,K,J,B⟩
  . rintro j p ⟨s,I,B⟩ A M H3 T E P3 K J;show⟨s,I,A,j,p,M,(w.trans r).trans E,P3,K,J,B⟩
abbrev DI:=bO->ae->(List D->(ae->Prop)->ae->Prop)->Prop
structure vW(J:It)(α:List (Option Addr))(G:Hp)(ok:ae->Prop)(xs:List D):Prop where
 stop:∀(n:Nat) α' G' F' H' st',Step α G α' G'->b_ G' F' H'->aV α' st' G'->ok st'->xs.length<=n->J.stop n H'
 go:∀(n:Nat) d α' G' F' H' st',Step α G α' G'->b_ G' F' H'->aV α' st' G'->ok st'->xs[n]?=some d->J.go n H'
 o4:∀(n:Nat) d α' G' F' H' st' x H'',Step α G α' G'->b_ G' F' H'->aV α' st' G'->ok st'->xs[n]?=some d->J.o4 n H' x H''->∃G'',Step α' G' α' G''/\b_ G'' F' H''/\aV α' st' G''/\Rep α' G'' d x
def LI(t:DI):TI:=λσ H R=>∃α h st K G F,b_ G F H/\d5 α G h σ/\aV α st G/\t h st K/\∀j ok d,K j ok d->∀J g f H1,Step α G g f->b_ f F H1->aV g d f->vW J g f ok j->R J H1
def yl(d:D)(f:ae)(K:List D->(ae->Prop)->ae->Prop):Prop:=match d with
 | .lst g=>K g (λ_=>True) f
 | .tup g=>K g (λ_=>True) f
 | .ref n=>(match f[n]? with|some (.lst g)=>K g (λh=>h[n]?=some (.lst g)) f|_=>False)
 |_=>False
def Sv(t:DE):DI:=λσ st K=>t σ st λd f=>yl d f K
def Eb{K:PySem.W.Frag}{a:Addr}{α:List (Option Addr)}{G:Hp}{ok:ae->Prop}{xs:List D}
 (h:∀j g f,Step α G j g->aV j f g->ok f->∃vs,Rd g a (.lst vs)/\aF j g xs vs):vW (Pn K a) α G ok xs where
 stop:=λn j g q p f s P S o k=>by
  obtain⟨vs,m,l⟩:=h j g f s S o;show⟨vs,.inl (fE P m),by rw[<-l.length];show k⟩
 go:=λn d j g q p f s P S o k=>by
  obtain⟨vs,m,l⟩:=h j g f s S o;obtain⟨v,e,_⟩:=l.get k;show⟨vs,v,.inl (fE P m),e⟩
 o4:=λn d j g q p f x w s P S o k y=>by
  obtain⟨vs,m,l⟩:=h j g f s S o;obtain⟨v,e,r⟩:=l.get k;obtain⟨rfl,y⟩:=y;let:=y vs (.inl (fE P m));rw[e]at this;cases this;show⟨g,Step.refl,P,S,r⟩
def Q7{K:PySem.W.Frag}{a:Addr}{α:List (Option Addr)}{G:Hp}{ok:ae->Prop}{xs:List D}
 (h:∀j g f,Step α G j g->aV j f g->ok f->∃vs,g a=some (.tup vs)/\aF j g xs vs):vW (QI K a) α G ok xs where
 stop:=λn j g q p f s P S o k=>by
  obtain⟨vs,m,l⟩:=h j g f s S o;show⟨vs,.of (P.get m),by rw[<-l.length];show k⟩
 go:=λn d j g q p f s P S o k=>by
  obtain⟨vs,m,l⟩:=h j g f s S o;obtain⟨v,e,_⟩:=l.get k;show⟨vs,v,.of (P.get m),e⟩
 o4:=λn d j g q p f x w s P S o k y=>by
  obtain⟨vs,m,l⟩:=h j g f s S o;obtain⟨v,e,r⟩:=l.get k;obtain⟨rfl,y⟩:=y;let:=y vs (.of (P.get m));rw[e]at this;cases this;show⟨g,Step.refl,P,S,r⟩
def Ld{a:Addr}(s:Step α G f d)(na:some a∉α)(j:Rd G a (.lst vs))(g:aF α G xs vs):Rd d a (.lst vs)/\aF f d xs vs:=by
 show⟨?_,g.step s⟩;rcases j with h|⟨o,h⟩
 . show .inl (s.ext _ _ na h)
 . show .inr ⟨o,s.ext _ _ na h⟩
def Ro(hl:PE X l (LE tl)):PI X Q l (LI (Sv tl)):=by
 intro j s σ H R I h;obtain⟨α,σd,st,K,G,F,P,RS,S,t,k⟩:=h;show bZ (hl j s σ H (λx H1=>∃d w r f,Step α G w r/\b_ r F H1/\aV w f r/\Rep w r d x/\yl d f K) I ⟨α,σd,st,_,G,F,P,RS,S,t,λd f q w r H1 v g A E D=>⟨d,w,r,f,g,A,E,D,q⟩⟩) λv g ⟨x,H1,B,rx,d,w,r,f,C,A,E,D,q⟩=>?_;unfold yl at q
 let y:∀ {a:Addr} {m:List V},x= .ref a->Rd H1 a (.lst m)->R (Pn X.K a) H1->wpAny (model X.prog X.w) X.A (pyIter v) (LH X j σ Q R) X.xe g:=by
  intro a m Z W Y;subst Z;cases rx;obtain⟨M,rv,p,hz⟩:=B.list (.inl W);show YW p.isList ?_;show⟨g.heap.objs.size,[g.heap.objs.size],_,_,H1,rfl,B.kept (t':=g.toks) λb o e=>VJ _ e,HY a _,⟨_,V4 _ rfl,rfl,rfl⟩,λb N=>?_,Y⟩;let e:b=g.heap.objs.size:=by simpa using N
  subst e;show B.vH (VL _) (B.aH.fresh (VL _))
 let J:∀ {a:Addr} {m:List V},x= .ref a->H1 a=some (.tup m)->R (QI X.K a) H1->wpAny (model X.prog X.w) X.A (pyIter v) (LH X j σ Q R) X.xe g:=by
  intro a m Z W Y;subst Z;cases rx;obtain⟨M,rv,p,hz⟩:=B.tuple (ji.of W);show Yr (show g.heap.IsTuple a M.toArray from p) ?_;show⟨g.heap.objs.size,[g.heap.objs.size],_,_,H1,rfl,B.kept (t':=g.toks) λb o e=>VJ _ e,F5 a _,⟨_,V4 _ rfl,rfl,rfl⟩,λb N=>?_,Y⟩;let e:b=g.heap.objs.size:=by simpa using N
  subst e;show B.vH (VL _) (B.aH.fresh (VL _))
 cases d<;>try show q.elim
 . rename_i n;simp only at q;split at q
   . rename_i xs e;obtain⟨a,ea,m,h1,h2⟩:=E.gL e;let U:=dY ea D;subst U;show y rfl (fE A (.of h1)) (k _ _ f q _ w r H1 C A E (Eb λα' G' L s S o=>?_));obtain⟨b,eb,ws,g1,g2⟩:=S.gL o
     let N:b=a:=by
      rcases s.pre _ _ ea with z|z<;>(rw[z]at eb;cases eb)
      rfl
     subst N;show⟨ws,.of g1,g2⟩
   . show q.elim
 . unfold Rep at D;obtain⟨a,m,rfl,na,O,T⟩:=D;show y rfl (fE A O) (k _ _ f q _ w r H1 C A E (Eb λα' G' L s S o=>⟨m,Ld s na O T⟩))
 . unfold Rep at D;obtain⟨a,m,rfl,na,O,T⟩:=D;show J rfl (A.get O) (k _ _ f q _ w r H1 C A E (Q7 λα' G' L s S o=>⟨m,s.ext _ _ na O,T.step s⟩))
def cM(lo:Int)(n:Nat):List D:=(List.range n).map λ(k:Nat)=>D.int (lo+(k:Int))
def wx{lo:Int}{n k:Nat}:(cM lo n)[k]?=if k<n then some (.int (lo+(k:Int)))else none:=by
 unfold cM;rw[V5];by_cases h:k<n
 . rw[Zc h,VN h];rfl
 . rw[Yc (by simpa using h),VM h];rfl
def fM{lo:Int}{n:Nat}:(cM lo n).length=n:=by unfold cM;simp
def Bq{α:List (Option Addr)}{G:Hp}{lo:Int}{n:Nat}:vW (zh lo n) α G (λ_=>True) (cM lo n) where
 stop:=λm j h l k g s P S o f=>by rw[fM]at f;show f
 go:=λm d j h l k g s P S o f=>by
  rw[wx]at f;split at f
  . assumption
  . cases f
 o4:=λm d j h l k g x p s P S o f y=>by
  obtain⟨rfl,rfl⟩:=y;rw[wx]at f;split at f
  . cases f;show⟨h,Step.refl,P,S,by unfold Rep;rfl⟩
  . cases f
def PI.imp{t t':TI}(h:PI X j d t)(f:∀σ H R,t' σ H R->t σ H R):PI X j d t':=λg s σ H R I q=>h g s σ H R I (f σ H R q)
def LW(ds:List D)(d:ae)(K:List D->(ae->Prop)->ae->Prop):Prop:=match ds with
 | [.int j]=>(-(2^62)<=j/\j<2^62)/\K (cM 0 j.toNat) (λ_=>True) d
 |_=>False
def Lq(ds:List D)(d:ae)(K:List D->(ae->Prop)->ae->Prop):Prop:=match ds with
 | [.int i,.int j]=>(-(2^62)<=i/\i<2^62/\ -(2^62)<=j/\j<2^62)/\K (cM i (j-i).toNat) (λ_=>True) d
 |_=>False
def OH(t:DA):DI:=λσ st K=>t σ st λf d=>LW f d K
def OW(t:DA):DI:=λσ st K=>t σ st λf d=>Lq f d K
def GX{t:DA}(h:PI X l d (EO (LA t))):PI X l d (LI (OH t)):=PI.imp h λσ H R ⟨α,n,st,K,G,F,P,x,S,t,k⟩=>by
 show⟨α,n,st,_,G,F,P,x,S,t,λs f q p z H1 A r y w g=>?_⟩;match s,q,g with
 | [.int j],q,g=>
   obtain⟨v,rfl,m⟩:=gq g rfl;unfold Rep at m;subst m;show⟨j,rfl,q.1.1,q.1.2,k _ _ f q.2 _ p z H1 r y w Bq⟩
def HM{t:DA}(h:PI X l d (Ft (LA t))):PI X l d (LI (OW t)):=PI.imp h λσ H R ⟨α,p,st,K,G,F,P,y,S,t,k⟩=>by
 show⟨α,p,st,_,G,F,P,y,S,t,λw f q r A H1 B s z x g=>?_⟩;match w,q,g with
 | [.int i,.int j],q,g=>
   obtain⟨v,u,rfl,n,m⟩:=nF g rfl;unfold Rep at n m;subst n m;show⟨i,j,rfl,q.1,k _ _ f q.2 _ r A H1 s z x Bq⟩
def fG(f:fI)(d:DS)(ok:ae->Prop)(E:kG):List D->bO->ae->Prop
 | [],σ,st=>ok st/\E.nx σ st
 |x::xs,σ,st=>ok st/\∃g,f x σ=some g/\d {E with nx:=fG f d ok E xs,ct:=fG f d ok E xs,bk:=E.nx} g st
def ft(g:DI)(j:fI)(d:DS):DS:=λD σ st=>g σ st λh ok f=>fG j d ok D h σ f
def Qb{B:DI}{K:fI}(h:PS X st (QY (LI B) (LG K) (LS t))):PS X st (LS (ft B K t)):=PS.imp h λD σ H ⟨α,σd,st,DD,G,F,P,R,S,tt,k⟩=>by
 show⟨α,σd,st,_,G,F,P,R,S,tt,λn ok U q J T G1 H1 L P1 S1 Y=>?_⟩;show⟨λi m s A=>∃p g f l,Step T G1 p l/\b_ l F A/\d5 p l g s/\aV p f l/\fG K t ok DD (n.drop i) g f/\m=n.length-i,⟨n.length,T,σd,U,G1,Step.refl,P1,R.step L,S1,q,rfl⟩,?_⟩;rintro i m σ2 H2 ⟨I,O,j,G2,C,N,R2,M,z,rfl⟩;cases e:n[i]? with
 |none=>
  have E:n.length<=i:=aaF.mp e;rw[WJ E]at z;unfold fG at z;show .inl ⟨Y.stop i I G2 F H2 j C N M z.1 E,((k.nx.at L).at C).here N z.2 R2 M⟩
 |some d=>
  have E:i<n.length:=(VI.mp e).1
  let ed:n.drop i=d::n.drop (i+1):=by
   rw[Wa E];congr 1;rw[VV E]at e;show W0 e
  rw[ed]at z;unfold fG at z;obtain⟨aH,σ3,e3,q3⟩:=z;show .inr ⟨Y.go i d I G2 F H2 j C N M aH e,λs A=>∃p g f l,Step T G1 p l/\b_ l F A/\d5 p l g s/\aV p f l/\fG K t ok DD (n.drop (i+1)) g f,?_,?_⟩
  . rintro s A ⟨p,g,f,l,z1,z2,z3,z4,z5⟩;show⟨n.length-(i+1),by lia,p,g,f,l,z1,z2,z3,z4,z5,rfl⟩
  . intro x A y;obtain⟨G3,s3,P3,S3,r3⟩:=Y.o4 i d I G2 F H2 j x A C N M aH e y;show⟨I,O,j,d,λs f=>s=σ3/\f=j,G3,F,P3,R2.step s3,S3,r3,⟨σ3,e3,rfl,rfl⟩,?_⟩;rintro s f ⟨rfl,rfl⟩ α4 G4 H4 σ4 s4 P4 R4 S4;let r:=(C.trans s3).trans s4;show⟨α4,s,f,_,G4,F,P4,R4,S4,q3,?_,((k.rt.at L).at r),(k.nx.at L).at r,?_⟩
    . intro v w W Q G5 H5 σ5 V P5 R5 Z;show⟨Q,v,w,G5,r.trans V,P5,R5,Z,W⟩
    . intro v w W Q G5 H5 σ5 V P5 R5 Z;show⟨Q,v,w,G5,r.trans V,P5,R5,Z,W⟩
end
def gS(fr:List (Option Nat))(σ:bO):bO:=fr.map λo=>o.bind λj=>(σ[j]?).join
def d5.comp(h:d5 α G a σ):d5 α G (gS fr a) (σC fr σ):=by
 show⟨by unfold gS σC;simp,λi d e=>?_⟩;unfold gS at e;rw[V5]at e;cases q:fr[i]? with
 |none=>rw[q]at e;cases e
 |some o=>
  rw[q]at e;cases o with
  |none=>simp at e
  |some j=>
   simp![YN,Option.some.injEq,aaM]at e
   let c:a[j]?=some (some d):=by
    cases r:a[j]? with
    |none=>rw[r]at e;cases e
    |some u=>rw[r]at e;simp at e;rw[e]
   obtain⟨v,ev,b⟩:=h.at' j d c;show⟨v,?_,b⟩;unfold σC;rw[V5,q];simp[ev]
def cR(h:fI)(c:DT)(i:DE)(ok:ae->Prop)(f:bO):List D->List D->ae->(List D->ae->Prop)->Prop
 | [],a,e,K=>ok e/\K a e
 |x::xs,a,e,K=>ok e/\∃g,h x f=some g/\c g e λb d=>if b=true then i g d λy j=>cR h c i ok f xs (a++[y]) j K else cR h c i ok f xs a d K
def di(d:DI)(fr:List (Option Nat))(g:fI)(c:DT)(h:DE):DE:=λσ i K=>d σ i λe ok b=>e.length<=sizeLine/\cR g c h ok (gS fr σ) e [] b λf a=>K (.lst f) a
def i5(d:DI)(fr:List (Option Nat))(g:fI)(c:DT)(h:DE):DE:=λσ i K=>d σ i λe ok b=>e.length<=sizeLine/\cR g c h ok (gS fr σ) e [] b λf a=>K (.ref a.length) (a++[.lst f])
def cy:DT:=λ_ a K=>K true a
def gT(fr:List (Option Nat))(a:fI):Prop:=∀(σ:bO) (d:D) (σ2:bO),a d (gS fr σ)=some σ2->σ2.length=(gS fr σ).length/\∀(i:Nat) (e:D),(gS fr σ)[i]?=some (some e)->σ2[i]?=some (some e)
def ku{k:Nat}(h:fr[k]?=some none){e:D}(q:(gS fr σ)[k]?=some (some e)):False:=by
 unfold gS at q;rw[V5,h]at q;simp at q
def i9{k:Nat}(h:fr[k]?=some none:=by rfl):gT fr (bz k):=λσ d b e=>by
 cases e;show⟨V0,λi x q=>?_⟩;by_cases a:i=k
 . subst a;show(ku h q).elim
 . rw[VP (VO a)];show q
def Ez{k j:Nat}(h:fr[k]?=some none:=by rfl)(h':fr[j]?=some none:=by rfl):gT fr (gQ k j):=λσ d c e=>by
 unfold gQ at e;split at e
 . cases e;show⟨by rw[V0,V0],λi x q=>?_⟩;by_cases b:i=k
   . subst b;show(ku h q).elim
   . by_cases a:i=j
     . subst a;show(ku h' q).elim
     . rw[VP (VO a),VP (VO b)];show q
 . cases e
section
variable {X:Cx}
def QB(h:PT X c (LT t)):tS X [c] (LT t):=Nb h
def Kh:tS X [] (LT cy):=λa s σ H Q I ⟨α,c,b,K,G,F,P,R,S,t,k⟩=>NS a s σ H Q I (k true b t α G H Step.refl P S)
def LE.comp{K:DI}{fr:List (Option Nat)}{E:fI}{c:DT}{T:DE}(N:gT fr E){σ:L2.St}{H:Hp}{Q:VK}{α:List (Option Addr)}{n:bO}{st:ae}{KE:List D->ae->Prop}{G F:Hp}(P:b_ G F H)(R:d5 α G n σ)(S:aV α st G)
 (t:K n st λxs ok v=>xs.length<=sizeLine/\cR E c T ok (gS fr n) xs [] v KE)
 (ar:∀ys g s u B l vs,KE ys g->Step α G s u->b_ u (upd F l (.lst vs)) B->F l=none->aV s g u->aF s u ys vs->Q (.ref l) B):
 uE (LI K) fr (LG E) (LT c) (LE T) σ H Q:=by
 show⟨α,n,st,_,G,F,P,R,S,t,λxs ok v q J Z G1 H1 s1 P1 S1 it l hl=>?_⟩;obtain⟨aA,q⟩:=q;obtain⟨hG,hF⟩:=P1.none hl
 show⟨λi m o C=>∃r a k f vs,Step Z G1 r k/\b_ k (upd F l (.lst vs)) C/\d5 r k (gS fr n) o/\aV r a k/\aF r k f vs/\f.length<=i/\i<=xs.length/\cR E c T ok (gS fr n) (xs.drop i) f a KE/\m=xs.length-i,
  ⟨xs.length,Z,v,G1,[],[],Step.refl,P1.hide hl,(R.step s1).comp,S1,by unfold aF;rfl,VL _,V3 _,q,rfl⟩,?_⟩
 rintro i m σ2 B ⟨s,g,u,f,vs,M,Y,R2,V,ra,az,hi,A,rfl⟩;cases e:xs[i]? with
 |none=>
  have h:xs.length<=i:=aaF.mp e;rw[WJ h]at A;unfold cR at A;show .inl ⟨it.stop i s u _ B g M Y V A.1 h,ar f g s u B l vs A.2 (s1.trans M) Y hF V ra⟩
 |some d=>
  have h:i<xs.length:=(VI.mp e).1
  let ed:xs.drop i=d::xs.drop (i+1):=by
   rw[Wa h];congr 1;rw[VV h]at e;show W0 e
  rw[ed]at A;unfold cR at A;obtain⟨aH,σ3,e3,q3⟩:=A;show .inr ⟨it.go i d s u _ B g M Y V aH e,λo C=>∃r a k f vs,Step Z G1 r k/\b_ k (upd F l (.lst vs)) C/\d5 r k (gS fr n) o/\aV r a k/\aF r k f vs/\f.length<=i+1/\cR E c T ok (gS fr n) (xs.drop (i+1)) f a KE,?_,?_⟩
  . rintro o C ⟨r,a,k,O,ag,z1,z2,z3,z4,z5,z6,z7⟩;show⟨xs.length-(i+1),by lia,r,a,k,O,ag,z1,z2,z3,z4,z5,z6,h,z7,rfl⟩
  . intro x C y;obtain⟨G3,U,P3,S3,r3⟩:=it.o4 i d s u _ B g x C M Y V aH e y;show⟨s,gS fr n,g,d,λo a=>o=σ3/\a=g,G3,_,P3,R2.step U,S3,r3,⟨σ3,e3,rfl,rfl⟩,?_⟩;rintro o a ⟨rfl,rfl⟩ α4 G4 H4 σ4 s4 P4 W S4;let L:=(M.trans U).trans s4;let Rc:d5 α4 G4 (gS fr n) σ4:=⟨by rw[<-(N n d o e3).1];show W.len,λj z hz=>W.at' j z ((N n d o e3).2 j z hz)⟩
    show⟨α4,o,a,_,G4,_,P4,W,S4,q3,λb I q5 α5 G5 H5 w P5 S5=>?_⟩;cases b with
    |false=>show⟨α5,I,G5,f,vs,L.trans w,P5,Rc.step w,S5,((ra.step U).step s4).step w,by lia,q5⟩
    |true=>
     show⟨α5,o,I,_,G5,_,P5,W.step w,S5,q5,λz ah q6 α6 G6 H6 v6 s6 P6 S6 r6=>?_⟩;let hr:=(((ra.step U).step s4).step w).step s6;show⟨vs,(P6.frame aW).1,by rw[<-hr.length];lia,α6,ah,G6,f++[z],vs++[v6],(L.trans w).trans s6,?_,(Rc.step w).step s6,S6,aX.mpr (fF (aX.mp hr) (.cons r6 .nil)),by rw[Wu,ZL];lia,q6⟩;let:=P6.Vk (p:=l) (o':= .lst (vs++[v6])) aW;rw[NB]at this;show this
def Po{scope:Scope}{Nc:List Str}{g h a:Expr}{f:List Expr}{pos:Pos}{e:DI}{fr:List (Option Nat)}{b:fI}{c:DT}{n:DE}(S:cN X scope Nc fr)(B:PI X h a (LI e))
 (d:∀C s H ex,PG (cO X scope Nc C s H ex) h (LG b)) (z:∀C s H ex,tS (cO X scope Nc C s H ex) f (LT c)) (D:∀C s H ex,PE (cO X scope Nc C s H ex) g (LE n)) (j:gT fr b)
 (y:X.xe=λ_ _=>False:=by rfl) (E:X.calm=true:=by rfl) (hs:∀x,foldedSetIterable a X.env x=pure x:=by intro _;rfl):PE X (.ListComp g [⟨h,a,f,0⟩] scope pos) (LE (di e fr b c n)):=
 PE.imp (Ef y E S B d z D hs) λσ H Q ⟨α,J,M,K,G,F,P,R,S,t,k⟩=>LE.comp j P R S t λL i v u I l m q w p A o r=>by
  let d:u l=none:=(p.frame aW).2;show k _ i q v (upd u l (.lst m)) I (.ref l) (w.trans (Step.laid d)) (p.show A) (o.laid d) ?_;unfold Rep;show⟨l,m,rfl,o.jW d,.of aW,r.step (Step.laid d)⟩
def OO{scope:Scope}{Nc:List Str}{g h a:Expr}{e:List Expr}{pos:Pos}{d:DI}{fr:List (Option Nat)}{b:fI}{c:DT}{n:DE}(S:cN X scope Nc fr)(B:PI X h a (LI d))
 (f:∀C s H ex,PG (cO X scope Nc C s H ex) h (LG b)) (z:∀C s H ex,tS (cO X scope Nc C s H ex) e (LT c)) (D:∀C s H ex,PE (cO X scope Nc C s H ex) g (LE n)) (i:gT fr b)
 (y:X.xe=λ_ _=>False:=by rfl) (E:X.calm=true:=by rfl) (hs:∀x,foldedSetIterable a X.env x=pure x:=by intro _;rfl):PE X (.ListComp g [⟨h,a,e,0⟩] scope pos) (LE (i5 d fr b c n)):=
 PE.imp (Ef y E S B f z D hs) λσ H Q ⟨α,J,M,K,G,F,P,R,S,t,k⟩=>LE.comp i P R S t λL v u p I l m q w o A j r=>by
  let f:p l=none:=(o.frame aW).2;show k _ _ q (u++[some l]) (upd p l (.lst m)) I (.ref l) (w.trans (Step.cell f)) (o.show A) (j.cell f ⟨m,aW,r.step (Step.cell f)⟩) ?_;unfold Rep;show .inr ⟨l,?_,rfl⟩;rw[V_ (by rw[j.len];show VL _),j.len,W9];rfl
def M_{st:Stmt}{k:Nat}{b:DI}{fr:List (Option Nat)}{a:fI}{c:DT}{i:DE}(g:gT fr a)(h:PS X st (ni (uE (LI b) fr (LG a) (LT c) (LE i)) (jq k))):PS X st (LS (aT k (di b fr a c i))):=
 PS.imp h λD σ H ⟨α,y,st,A,G,F,P,R,S,t,q⟩=>LE.comp g P R S t λz f s p x l e v u n w m r=>by
  let d:p l=none:=(n.frame aW).2;let j:=u.trans (Step.laid (o:= .lst e) d);show q.nx _ f v s (upd p l (.lst e)) x _ j (n.show w) ((R.step j).set k ?_) (m.laid d);unfold Rep;show⟨l,e,rfl,m.jW d,.of aW,r.step (Step.laid d)⟩
def La{st:Stmt}{k:Nat}{b:DI}{fr:List (Option Nat)}{a:fI}{c:DT}{i:DE}(f:gT fr a)(h:PS X st (ni (uE (LI b) fr (LG a) (LT c) (LE i)) (jq k))):PS X st (LS (aT k (i5 b fr a c i))):=
 PS.imp h λD σ H ⟨α,y,st,A,G,F,P,R,S,t,q⟩=>LE.comp f P R S t λz s p n x l d v u m w g r=>by
  let e:n l=none:=(m.frame aW).2;let j:=u.trans (Step.cell (o:= .lst d) e);show q.nx _ _ v (p++[some l]) (upd n l (.lst d)) x _ j (m.show w) ((R.step j).set k ?_) (g.cell e ⟨d,aW,r.step (Step.cell e)⟩);unfold Rep;show .inr ⟨l,?_,rfl⟩;rw[V_ (by rw[g.len];show VL _),g.len,W9];rfl
def aN(N:List Str)(ds:List D):bO:=ds.map some++List.replicate (N.length-ds.length) none
def d5.start(r:aF α G ds vs):d5 α G (aN N ds) (L2.start N vs):=by
 let c:=r.length;show⟨by unfold aN L2.start;simp[c],λi d e=>?_⟩;unfold aN at e;by_cases a:i<ds.length
 . rw[VR (by simpa using a),V5]at e;cases q:ds[i]? with
   |none=>rw[q]at e;cases e
   |some x=>
    rw[q]at e;cases e;obtain⟨v,ev,b⟩:=r.get q;show⟨v,?_,b⟩;unfold L2.start;rw[VR (by rw[VH];lia),V5,ev];rfl
 . rw[V_ (by simpa using a),aaT]at e;split at e<;>cases e
def Te{P:Program}{w:World}{K:PySem.W.Frag}{m:Str->Option Value}{d:Heap}{x b:Str}{st:Stmt}{f:Addr}{fd:FuncData}{N l:List Str}{k:Nat}{sp:bW}{t:DS}(F:oo K x b st f fd)(S:ma N l (bf st))
 (e:∀(c:Value) (A:Around) (outer:List Env) (s:Shared) (H:Hp) (E:XK),cJ k (A.deeper (envOfC b (bf st) s.heap.objs.size f c))->h_ (pC fN P w K m d N b (bf st) f c A outer s H E).uV (gf st) (LS t))
 (j:∀ds st K,sp ds st K->ds.length=l.length/\t {nx:=λ_ a=>K .az a,rt:=K} (aN N ds) st):cY P w K m d fN (k+1) f fd l (gj sp):=by
 show F.ok S (λo H Q E h=>?_) λc A outer s H o Q E u h=>⟨_,e c A outer s H E u,?_⟩
 . obtain⟨α,ds,st,K,G,F,P,r,S,q,k⟩:=h;rw[<-r.length];show(j ds st K q).1
 . obtain⟨α,ds,st,K,G,F,P,r,S,q,k⟩:=h;show⟨α,aN N ds,st,_,G,F,P,d5.start r,S,(j ds st K q).2,?_,k,?_,?_⟩
   . intro g a i n B z C p y D v;show k .az a i n B z .az p y v (by unfold Rep;rfl)
   . intro g a i;show i.elim
   . intro g a i;show i.elim
def qj(e f:DE):DE:=λσ g K=>e σ g λx b=>match x with
 | .ref n=>(match b[n]? with
   |some (.lst _)=>f σ b λy a=>∃c,[y]=[c]/\(match a[n]? with|some (.lst d)=>d.length<sizeLine/\K .az (a.set n (.lst (d++[c])))|_=>False)
   |_=>False)
 |_=>False
end
structure nG(K:PySem.W.Frag)(mg:Str->Option Value)(x qual:Str)(st:Stmt)(ps:List Str)(f:Addr)(fd:FuncData):Prop where
 fn:oo K x qual st f fd
 mg:mg x=some (.ref f)
 bd:Binds K fd ps []
def tR(a:Scope)(N:List Str)(scope:Scope)(Nc:List Str)(fr:List (Option Nat)):Bool:=
 (scope.kind== .function)&&scope.names.all (λx=>x.2 != .cell||scope.names.lookup x.1==some .cell)&&scope.names.all (λx=>x.2 != .local||scope.names.lookup x.1==some .local)&&
 scope.names.all (λx=>x.2 != .free||a.names.lookup x.1==some .cell||a.names.lookup x.1==some .free)&&(fr.length==Nc.length)&&
 (List.range fr.length).all λi=>match fr[i]?,Nc[i]? with
   |some (some j),some x=>(N[j]?==some x)&&(scope.names.lookup x==some .free)&&(a.names.lookup x==some .cell||a.names.lookup x==some .free)
   |_,_=>true
def cN.look{X:Cx}(d:Scope)(N:List Str)(h:tR d N scope Nc fr=true)(c:X.env.scope=d:=by rfl)(g:X.N=N:=by rfl):cN X scope Nc fr:=by
 unfold tR at h;simp![WV]at h;obtain⟨⟨⟨⟨⟨p,o⟩,n⟩,m⟩,l⟩,k⟩:=h;subst c g;show⟨by simpa using p,λx a b=>?_,λx a b=>?_,λx a b=>?_,by simpa using l,λi j x q e=>?_⟩
 . have:=WR.mp o x a;rw[b]at this;simpa using this
 . have:=WR.mp n x a;rw[b]at this;simpa using this
 . have:=WR.mp m x a;rw[b]at this;let z:X.env.scope.names.lookup x.1=some .cell\/X.env.scope.names.lookup x.1=some .free:=by simpa using this
   show z
 . have f:i<fr.length:=(VI.mp e).1;let:=WR.mp k i (WU.mpr f);rw[q,e]at this;simp![WV,aaY,XM]at this;show⟨this.1.1,this.1.2,this.2⟩
section
variable {X:Cx}
def UZ{e:Expr}{a:List Expr}{pos p:Pos}{x:Str}{id:String}{r:eX}{t:DA}(k:bJ X (.builtin id) (fU r))(l:PA X (e::a) (LA t))(g:X.mg x=none)(d:bootBuiltins x=some (.builtin id))(i:Gl X x:=by rfl)(f:x≠"__name__":=by decide)(c:(x==("__debug__":Str))=false:=by decide)
 (j:starEach (e::a) X.env=(false,eval e X.env)::starEach a X.env:=by rfl) (b:(backTo pos (starEach a X.env)).any (·.1)=false:=by rfl):PE X (.Call (.Name x p) (e::a) [] pos) (LE (bI r t)):=PE.imp (CK k i g d l f c j b) λ_ _ _ h=>LE.cb h
def Ux{e:Expr}{a:List Expr}{pos p:Pos}{x:Str}{T:String}{r:eX}{t:DA}(k:bJ X (.type T) (fU r))(l:PA X (e::a) (LA t))(g:X.mg x=none)(d:bootBuiltins x=some (.type T))(i:Gl X x:=by rfl)(f:x≠"__name__":=by decide)(c:(x==("__debug__":Str))=false:=by decide)
 (j:starEach (e::a) X.env=(false,eval e X.env)::starEach a X.env:=by rfl) (b:(backTo pos (starEach a X.env)).any (·.1)=false:=by rfl):PE X (.Call (.Name x p) (e::a) [] pos) (LE (bI r t)):=PE.imp (zw k i g d l f c j b) λ_ _ _ h=>LE.cb h
def UX{pos:Pos}{x:Str}{T:String}(d:X.mg x=none)(b:bootBuiltins x=some (.type T))(e:Gl X x:=by rfl)(c:x≠"__name__":=by decide)(a:(x==("__debug__":Str))=false:=by decide):PE X (.Name x pos) (LE (dC (.ty T))):=
 uy (v:= .ty T) (NX e d b rfl c a) λ_ _=>by unfold Rep;rfl
def UM{e:Expr}{b:List Expr}{pos p:Pos}{x a:Str}{st:Stmt}{g:List Str}{f:Addr}{fd:FuncData}{k:Nat}{S:bW}{t:DA}(A:nG X.K X.mg x a st g f fd)(F:cY X.prog X.w X.K X.mg X.base fN k f fd g (gj S))(h:cJ k X.A)
 (l:PA X (e::b) (LA t)) (i:Gl X x:=by rfl) (d:(x==("__debug__":Str))=false:=by decide) (j:starEach (e::b) X.env=(false,eval e X.env)::starEach b X.env:=by rfl) (c:(backTo pos (starEach b X.env)).any (·.1)=false:=by rfl):
 PE X (.Call (.Name x p) (e::b) [] pos) (LE (av S t)):=Qq F h i A.mg A.fn.kp A.bd l d j c
def Dk(r:RelV x v)(h:Q (.bool (v== .bool b)) s):wpAny M A (compareOp .Is v (.bool b)) Q E s:=by
 cases x
 case bl c=>
  cases r;let e:(Value.bool c==Value.bool b)=(c==b):=by cases c<;>cases b<;>rfl
  rw[e]at h;show is_bool h
 all_goals first
  |(cases r;show VQ h)
  |(obtain⟨t,rfl⟩:=r;show VQ h)
def GF(d:D)(b:Bool):Bool:=match d with| .bl c=>c==b|_=>false
def MV(d:D):Bool:=match d with| .az=>true|_=>false
def MD:cZ:=λx y a K=>match y with| .az=>live a x=true/\K (.bl (MV x)) a| .bl b=>live a x=true/\K (.bl (GF x b)) a|_=>False
def D7{α:List (Option Addr)}{H:Hp}{st:ae}{d:D}{v:V}{u:Value}{b:Bool}(S:aV α st H)(f:live st d=true)(r:Rep α H d v)(e:RelV v u):(u==Value.bool b)=GF d b:=by
 cases d
 case ref n=>
  obtain⟨a,rfl⟩:=we S f r;cases e;rfl
 all_goals unfold Rep at r
 case bl c=>
  subst r;cases e;cases c<;>cases b<;>rfl
 all_goals first
  |(subst r;first|(cases e;rfl)|(obtain⟨t,rfl⟩:=e;rfl))
  |(obtain⟨a,g,rfl,_⟩:=r;cases e;rfl)
def SG:bU X (compareOp .Is) (LR MD):=λf s σ H x y v u Q I h i ⟨α,d,e,l,K,G,m,P,c,g,S,q,k⟩=>by
 cases e<;>try show q.elim
 . unfold Rep at g;show OY f s σ H x y v u Q I h i ⟨g,k.here P q.2 S ?_⟩;unfold Rep;cases d
   case ref n=>
    obtain⟨a,rfl⟩:=we S q.1 c;rfl
   all_goals(unfold Rep at c;first|(rw[c];rfl)|(obtain⟨a,j,rfl,_⟩:=c;rfl))
 . rename_i b;unfold Rep at g;subst g;cases i;show Dk h ?_;rw[D7 S q.1 c h];show⟨.bl (GF d b),H,I,rfl,k.here P q.2 S (by unfold Rep;rfl)⟩
def LE.append(h:LE (qj r s) σ H Q):PC X.K "list" Eo (LE r) (LA (ab s ai)) σ H Q:=by
 obtain⟨α,m,U,K,G,F,P,R,S,t,k⟩:=h;show⟨α,m,U,_,G,F,P,R,S,t,λx i q O G1 H1 v A N L W=>?_⟩;cases x<;>try show q.elim
 rename_i n;simp only at q;split at q
 . rename_i ys e;obtain⟨p,E,T,Y,h2⟩:=L.gL e;let l:=dY E W;subst l;show⟨.inl ⟨rfl,T,.inl (.of (N.get Y))⟩,O,m,i,λI b=>∃y,I=[y]/\(match b[n]? with|some (.lst f)=>f.length<sizeLine/\K .az (b.set n (.lst (f++[y])))|_=>False),G1,F,N,R.step A,L,?_,?_⟩
   . show Eq.mp ?_ q;rfl
   . rintro I b ⟨y,rfl,c⟩ o G2 H2 ws u M J V;obtain⟨w,rfl,j⟩:=gq V rfl;split at c
     . rename_i f Z;obtain⟨d,a,g,D,C⟩:=J.gL Z
       let:d=p:=by
        rcases u.pre _ _ E with z|z<;>(rw[z]at a;cases a)
        rfl
       subst this;let B:some d∈o:=Wn a;show⟨d,g,w,rfl,rfl,M.get D,by rw[<-C.length];show c.1,?_⟩;show((k.at A).at u) _ _ c.2 o (upd G2 d (.lst (g++[w]))) _ .az (Step.write B) (M.write D) ?_ (by unfold Rep;rfl);show J.write a ⟨g++[w],aW,(aX.mpr (fF (aX.mp C) (.cons j .nil))).step (Step.write B)⟩
     . show c.elim
 . show q.elim
def Kt{o e:Expr}{c a:Pos}(k:PE X o (LE i))(l:PE X e (LE j))(f:attributeBase o "append" X.env (eval o X.env)=eval o X.env:=by rfl)
 (g:((backTo a (starEach [e] X.env)).all (λx=> !x.1)&&(backToKw a (keywordEach [] X.env)).all (λx=>x.1.isSome)
   &&decide (([e]:List Expr).length+([]:List Keyword).length+(if([]:List Keyword).isEmpty then 0 else 1)<30))=true:=by rfl)
 (d:(c.endLine==a.line)=true:=by rfl) (hs:starEach [e] X.env=(false,eval e X.env)::starEach [] X.env:=by rfl) (b:(backTo a (starEach [] X.env)).any (·.1)=false:=by rfl):PE X (.Call (.Attribute o "append" c) [e] [] a) (LE (qj i j)):=
 PE.imp (MN aaU PySem.F.slot_list_append PySem.F.type_list_append zi k (uv l xj hs) f g d hs b) λ_ _ _ h=>LE.append h
end
end L3
namespace L3
open PySem L2
open PySem.Spec hiding items?
open PyProof.Rows hiding St
section
variable {X:Cx}
@[irreducible] def f9:cZ:=LQ
def uB:bU X (binaryOp .Add) (LR f9):=by unfold f9;show S7
@[irreducible] def vm:cZ:=LY
def Mq:bU X (binaryOp .Sub) (LR vm):=by unfold vm;show SI
@[irreducible] def dQ:cZ:=Mm
def rf:bU X (binaryOp .Mult) (LR dQ):=by unfold dQ;show Se
@[irreducible] def mF:cZ:=GA
def GS:bU X (binaryOp .FloorDiv) (LR mF):=by unfold mF;show QG
@[irreducible] def jL:cZ:=Ms
def Af:bU X (binaryOp .Mod) (LR jL):=by unfold jL;show Sj
@[irreducible] def qp:cZ:=LU
def M5:bU X (binaryOp .Pow) (LR qp):=by unfold qp;show SH
@[irreducible] def tH:cZ:=O7
def Co:bU X (compareOp .Lt) (LR tH):=by unfold tH;show UW
@[irreducible] def zq:cZ:=O3
def FK:bU X (compareOp .LtE) (LR zq):=by unfold zq;show Ui
@[irreducible] def rP:cZ:=Pz
def BF:bU X (compareOp .Gt) (LR rP):=by unfold rP;show U8
@[irreducible] def D_:cZ:=QE
def JF:bU X (compareOp .GtE) (LR D_):=by unfold D_;show UT
@[irreducible] def mM:cZ:=Pg
def tM:bU X (compareOp .NotEq) (LR mM):=by unfold mM;show Ul
@[irreducible] def Jb:cZ:=MD
def Kf:bU X (compareOp .Is) (LR Jb):=by unfold Jb;show SG
@[irreducible] def ki:cZ:=P9
def FG{k:Nat}(a:cJ k X.A):bU X (compareOp .Eq) (LR ki):=by unfold ki;show Uv a
@[irreducible] def jN:Bv:=L9
def Sa:EF X (unaryOp .USub) (MO jN):=by unfold jN;show To
@[irreducible] def bh:cZ:=qr
def Va(f:PE X a (LE d))(e:PE X b (LE c))(hs:ux b:=by intro _ _;rfl):PE X (.Subscript a b pos) (LE (ak bh d c)):=by unfold bh;show Uz f e hs
@[irreducible] def cT:eX:=Ae
def eM:bJ X (.builtin "len") (fU cT):=by unfold cT;show RU
@[irreducible] def vp:eX:=EM
def Fj:bJ X (.builtin "abs") (fU vp):=by unfold vp;show Tz
@[irreducible] def BL:eX:=Gx
def L_(a:X.calm=true):bJ X (.builtin "max") (fU BL):=by unfold BL;show SX a
@[irreducible] def wj:eX:=FY
def MU(a:X.calm=true):bJ X (.builtin "min") (fU wj):=by unfold wj;show SJ a
@[irreducible] def yc:eX:=FN
def Lu:bJ X (.type "int") (fU yc):=by unfold yc;show Sh
@[irreducible] def dO:eX:=uu
def p8:bJ X (.type "tuple") (fU dO):=by unfold dO;show OS
@[irreducible] def mj:eX:=wN
def tu:bJ X (.type "list") (fU mj):=by unfold mj;show Px
@[irreducible] def pW:eX:=uA
def Ex:bJ X (.type "list") (fU pW):=by unfold pW;show OJ
@[irreducible] def vY:eX:=Ap
def L0(a:X.calm=true):bJ X (.builtin "all") (fU vY):=by unfold vY;show Su a
@[irreducible] def qE:eX:=xv
def LP:bJ X (.builtin "isinstance") (fU qE):=by unfold qE;show R7
@[irreducible] def pA:D->ae->(List D->(ae->Prop)->ae->Prop)->Prop:=yl
def dR(t:DE):DI:=λσ b K=>t σ b λd a=>pA d a K
def Pp(b:PE X l (LE tl)):PI X a l (LI (dR tl)):=by unfold dR pA;show Ro b
@[irreducible] def Ah:List D->ae->(List D->(ae->Prop)->ae->Prop)->Prop:=LW
@[irreducible] def An:List D->ae->(List D->(ae->Prop)->ae->Prop)->Prop:=Lq
def eS(t:DA):DI:=λσ b K=>t σ b λc a=>Ah c a K
def lI(t:DA):DI:=λσ b K=>t σ b λc a=>An c a K
def Iq(h:PI X b a (EO (LA t))):PI X b a (LI (eS t)):=by unfold eS Ah;show GX h
def G8(h:PI X b a (Ft (LA t))):PI X b a (LI (lI t)):=by unfold lI An;show HM h
@[irreducible] def vj:D->D->D->ae->(ae->Prop)->Prop:=BX
def eQ(f g h:DE):DS:=λD σ i=>h σ i λd e=>f σ e λx c=>g σ c λy b=>vj x y d b λa=>D.nx σ a
def BY{st:Stmt}{a b c:DE}(h:PS X st (ni (LE c) (yC (LE a) (LE b) uk))):PS X st (LS (eQ a b c)):=by unfold eQ vj;show KP h
end
section
variable {st:ae}{K:DK}{i j:Int}{b c:Bool}{xs ys:List D}{d e:D}{n:Nat}
def gy(k:K (.int (i+j)) st):f9 (.int i) (.int j) st K:=by unfold f9;show k
def Nl(h:xs.length+ys.length<=sizeLine)(k:K (.tup (xs++ys)) st):f9 (.tup xs) (.tup ys) st K:=by unfold f9;show⟨h,k⟩
def Bs(k:K (.int (i-j)) st):vm (.int i) (.int j) st K:=by unfold vm;show⟨trivial,k⟩
def eA(h:IntMulOk i j)(k:K (.int (i*j)) st):dQ (.int i) (.int j) st K:=by unfold dQ;show⟨h,k⟩
def EA(h: -(2^63)<=i/\i<2^63/\xs.length*i.toNat<=sizeLine)(k:K (.lst (List.replicate i.toNat xs).flatten) st):dQ (.lst xs) (.int i) st K:=by unfold dQ;show⟨h,k⟩
def Oj(h: -(2^63)<=i/\i<2^63/\xs.length*i.toNat<=sizeLine)(k:K (.tup (List.replicate i.toNat xs).flatten) st):dQ (.tup xs) (.int i) st K:=by unfold dQ;show⟨h,k⟩
def nS(a:j≠0)(h:j.natAbs.log2<9000)(k:K (.int (i.fdiv j)) st):mF (.int i) (.int j) st K:=by unfold mF;show⟨⟨a,h⟩,k⟩
def iw(a:j≠0)(k:K (.int (i.fmod j)) st):jL (.int i) (.int j) st K:=by unfold jL;show⟨a,k⟩
def w9(h:Kb i j)(k:K (.int (i^j.toNat)) st):qp (.int i) (.int j) st K:=by unfold qp;show⟨h,k⟩
def MW(k:K (.bl (decide (i<j))) st):tH (.int i) (.int j) st K:=by unfold tH;show⟨trivial,k⟩
def Lv(k:K (.bl (decide (i<=j))) st):zq (.int i) (.int j) st K:=by unfold zq;show⟨trivial,k⟩
def E7(k:K (.bl (decide (j<i))) st):rP (.int i) (.int j) st K:=by unfold rP;show⟨trivial,k⟩
def S8(k:K (.bl (decide (j<=i))) st):D_ (.int i) (.int j) st K:=by unfold D_;show⟨trivial,k⟩
def M3(k:K (.bl (!decide (i=j))) st):mM (.int i) (.int j) st K:=by unfold mM;show k
def IL(h:live st d=true)(k:K (.bl (MV d)) st):Jb d .az st K:=by unfold Jb;show⟨h,k⟩
def L8(f:pl 40 d=true)(a:pl 40 e=true)(k:K (.bl (cU d e)) st):ki d e st K:=by unfold ki;show⟨f,a,k⟩
def NR(a b:Int):(a==b)=decide (a=b):=by
 by_cases h:a=b
 . subst h;simp
 . simp[h]
def AA(k:K (.bl (decide (i=j))) st):ki (.int i) (.int j) st K:=by
 show L8 rfl rfl ?_;let:cU (.int i) (.int j)=decide (i=j):=by unfold cU;show NR i j
 rw[this];show k
def i_(k:K (.int (-i)) st):jN (.int i) st K:=by unfold jN;show k
def Ke(h:items? st d=some xs)(a:dN xs i=some e)(k:K e st):qr d (.int i) st K:=by
 cases d<;>unfold items? at h<;>first
  |(cases h;done)
  |(cases h;simp![qr,a];show k)
  |(simp only at h
    split at h
    . rename_i q;cases h;simp![qr,q,a];show k
    . cases h)
def aJ(h:items? st d=some xs)(a:dN xs i=some e)(k:K e st):bh d (.int i) st K:=by unfold bh;show Ke h a k
def cj(h:items? st d=some xs)(k:K (.int xs.length) st):cT [d] st K:=by
 unfold cT Ae;split
 . rename_i z;cases z;cases h
 . rename_i z;cases z;rw[h];show k
 . rename_i f a;show absurd rfl (a d)
def Nj(i:Int):(if i<0 then-i else i)=((i.natAbs:Nat):Int):=by split<;>lia
def BC(k:K (.int ((i.natAbs:Nat):Int)) st):vp [.int i] st K:=by unfold vp;change K (.int (if i<0 then-i else i)) st;rw[Nj];show k
def P8(k:K (.int (if j>i then j else i)) st):BL [.int i,.int j] st K:=by unfold BL;show k
def CD(k:K (.int (if j<i then j else i)) st):wj [.int i,.int j] st K:=by unfold wj;show k
def Ng(k:K (.int (if b then 1 else 0)) st):yc [.bl b] st K:=by unfold yc;show k
def df(h:items? st d=some xs)(k:K (.tup xs) st):dO [d] st K:=by unfold dO uu;simp![h];show k
def nU(h:items? st d=some xs)(k:K (.lst xs) st):mj [d] st K:=by unfold mj wN;simp![h];show k
def BU(h:items? st d=some xs)(k:K (.ref st.length) (st++[.lst xs])):pW [d] st K:=by unfold pW uA;simp![h];show k
def CN{bs:List Bool}(h:jS xs=some bs)(k:K (.bl (bs.all id)) st):vY [.lst xs] st K:=by unfold vY Ap;simp![h];show k
def CG{t c:String}(h:fL st d=some t)(a:c∈lY)(k:K (.bl (tF t c)) st):qE [d,.ty c] st K:=by unfold qE xv;simp![h];show⟨a,k⟩
def M7{cl:List String}(h:fL st d=some t)(f:nN cs=some cl)(a:∀c∈cl,c∈lY)(k:K (.bl (cl.any (tF t))) st):qE [d,.tup cs] st K:=by unfold qE xv;simp![h,f];show⟨a,k⟩
def m7{K:List D->(ae->Prop)->ae->Prop}(h:items? st d=some xs)(k:∀ok:ae->Prop,ok st->K xs ok st):pA d st K:=by
 unfold pA yl
 cases d<;>unfold items? at h<;>first
  |(cases h;done)
  |(cases h;show k _ trivial)
  |(simp only at h
    split at h
    . rename_i q;cases h;simp![q];show k _ q
    . cases h)
def qh{K:List D->(ae->Prop)->ae->Prop}(k:K xs (λ_=>True) st):pA (.lst xs) st K:=by unfold pA;show k
def gZ{K:List D->(ae->Prop)->ae->Prop}(k:K xs (λ_=>True) st):pA (.tup xs) st K:=by unfold pA;show k
def fO{K:List D->(ae->Prop)->ae->Prop}(h: -(2^62)<=j/\j<2^62)(k:K (cM 0 j.toNat) (λ_=>True) st):Ah [.int j] st K:=by unfold Ah;show⟨h,k⟩
def uq{K:List D->(ae->Prop)->ae->Prop}(h: -(2^62)<=i/\i<2^62/\ -(2^62)<=j/\j<2^62)(k:K (cM i (j-i).toNat) (λ_=>True) st):An [.int i,.int j] st K:=by unfold An;show⟨h,k⟩
def fu{K:ae->Prop}(h:st[n]?=some (.lst xs))(e:ox xs.length i=some m)(k:K (st.set n (.lst (xs.set m d)))):vj (.ref n) (.int i) d st K:=by unfold vj BX;simp![h,e];show k
end
def GD(K:PySem.W.Frag):Bool:=K.all λp=>p.2.cls != .type "list"
def vg:∀ {l:List (Addr×Obj)},l.lookup a=some o->(a,o)∈l
 | [],h=>by cases h
 |(b,u)::r,h=>by
  rw[WW]at h;split at h
  . rename_i z;cases h;let:a=b:=by simpa using z
    subst this;show V6
  . show VZ _ (vg h)
def zV{K:PySem.W.Frag}(h:GD K=true){o:Obj}(e:K.lookup a=some o):o.cls≠ .type "list":=by
 let:=WR.mp h (a,o) (vg e);simpa using this
def zD:∀ns:List Int,aF α G (ns.map D.int) (ns.map V.int)
 | []=>by unfold aF;rfl
 |n::ns=>by
  rw[Wq,Wq];unfold aF;show⟨_,_,rfl,by unfold Rep;rfl,zD ns⟩
def notStar:Expr->Bool
 | .Starred .. =>false
 |_=>true
def bP{e:Expr}(h:notStar e=true):starEach (e::a) env=(false,eval e env)::starEach a env:=by
 cases e<;>first|rfl|cases h
def g4:List Expr->Bool
 | []=>true
 |e::es=>notStar e&&g4 es
def lJ:∀ {a:List Expr},g4 a=true->(backTo pos (starEach a env)).any (·.1)=false
 | [],_=>rfl
 |e::a,h=>by
  unfold g4 at h;rw[WV]at h;rw[bP h.1];let b:=lJ (pos:=pos) (env:=env) h.2;unfold backTo at b⊢;rw[Wq,aar,b];rfl
def j_:Expr->Bool
 | .Slice .. =>false
 |_=>true
def s_:Expr->Bool
 | .Name .. =>true
 | .Call .. =>true
 | .Subscript .. =>true
 | .Attribute .. =>true
 |_=>false
def lP:Expr->Bool
 | .ListComp .. =>false
 | .SetComp .. =>false
 | .DictComp .. =>false
 |_=>true
section
variable {X:Cx}
def Kq(h:j_ b=true):ux b:=by
 intro o i;cases b<;>first|rfl|cases h
def ER{e:Expr}(h:s_ e=true):∀whole,isTrue e X.env whole=(do let v <-whole;standAt e.pos;holding [v] (truthy v)):=by
 intro whole;cases e<;>first|(cases h;done)|rfl
def yD{e:Expr}(h:lP e=true):swapsWith e a n env=pure false:=by
 cases e<;>first|(cases h;done)|rfl
def KR{e:Expr}{tr:DA}(d:PE X e (LE a))(c:PA X b (LA tr))(hs:notStar e=true:=by rfl):PA X (e::b) (LA (ab a tr)):=uv d c (bP hs)
def RG{e:Expr}{c:List Expr}{pos p:Pos}{x:Str}{id:String}{r:eX}{t:DA}(i:bJ X (.builtin id) (fU r))(j:PA X (e::c) (LA t))(g:X.mg x=none)(d:bootBuiltins x=some (.builtin id))(f:x≠"__name__")(b:(x==("__debug__":Str))=false)(h:Gl X x:=by rfl)(hs:notStar e=true:=by rfl)(a:g4 c=true:=by rfl):
 PE X (.Call (.Name x p) (e::c) [] pos) (LE (bI r t)):=UZ i j g d h f b (bP hs) (lJ a)
def Th{e:Expr}{c:List Expr}{pos p:Pos}{x:Str}{T:String}{r:eX}{t:DA}(i:bJ X (.type T) (fU r))(j:PA X (e::c) (LA t))(g:X.mg x=none)(d:bootBuiltins x=some (.type T))(f:x≠"__name__")(b:(x==("__debug__":Str))=false)(h:Gl X x:=by rfl)(hs:notStar e=true:=by rfl)(a:g4 c=true:=by rfl):
 PE X (.Call (.Name x p) (e::c) [] pos) (LE (bI r t)):=Ux i j g d h f b (bP hs) (lJ a)
def Ss{e:Expr}{d:List Expr}{pos p:Pos}{x a:Str}{st:Stmt}{g:List Str}{f:Addr}{fd:FuncData}{k:Nat}{S:bW}{t:DA}(A:nG X.K X.mg x a st g f fd)(F:cY X.prog X.w X.K X.mg X.base fN k f fd g (gj S))(h:cJ k X.A)
 (j:PA X (e::d) (LA t)) (c:(x==("__debug__":Str))=false) (i:Gl X x:=by rfl) (hs:notStar e=true:=by rfl) (b:g4 d=true:=by rfl):
 PE X (.Call (.Name x p) (e::d) [] pos) (LE (av S t)):=UM A F h j i c (bP hs) (lJ b)
def SY(f:PE X a (LE d))(e:PE X b (LE c))(hs:j_ b=true:=by rfl):PE X (.Subscript a b pos) (LE (ak bh d c)):=Va f e (Kq hs)
def Om{e:Expr}(b:PE X e (LE a))(h:s_ e=true:=by rfl):PT X e (LT (bH a)):=Qx b (ER h)
def KO{e:Expr}(b:PE X e (LE a))(h:lP e=true:=by rfl):PS X (.Expr e pos) (LS (eN a)):=Nh b (yD h)
def Nw{i:Nat}{x:Str}{e:Expr}{b:TE}{pos a:Pos}(j:X.N.Nodup)(d:X.N[i]?=some x)(c:Loc X.env.scope x)(g:PE X e b)(f:X.fn x=true\/X.env.scope.names.lookup x=some .local:=by first|show .inl rfl|show .inr rfl)(h:lP e=true:=by rfl):
 PS X (.Assign [.Name x a] e pos) (ni b (jq i)):=Rf j d c g (yD h) f
def Oe(c:(x==("__debug__":Str))=false)(a:(x==("__classdict__":Str))=false)(b:AW X.env.scope x)(d:X.N[i]?=some x:=by rfl):PE X (.Name x pos) (LE (aa i)):=RK (Qa d b c a)
def PH{o i e:Expr}{b c d:TE}{pos a:Pos}(h:PE X e d)(f:PE X o b)(g:PE X i c)(k:lP e=true:=by rfl)(j:j_ i=true:=by rfl):PS X (.Assign [.Subscript o i a] e pos) (ni d (yC b c uk)):=
 BA h (wm f g set_list (by intro v;cases i<;>first|rfl|cases j)) (by unfold swapsWithSole;show yD k) (by cases e<;>rfl) rfl
end
@[irreducible] def JE(X:Cx)(e:Expr)(t:DE):Prop:=PE X e (LE t)
@[irreducible] def JT(X:Cx)(e:Expr)(t:DT):Prop:=PT X e (LT t)
@[irreducible] def JW(X:Cx)(e:Expr)(t:DT):Prop:=PW X e (LT t)
@[irreducible] def JA(X:Cx)(a:List Expr)(t:DA):Prop:=PA X a (LA t)
@[irreducible] def JS(X:Cx)(s:Stmt)(t:DS):Prop:=PS X s (LS t)
@[irreducible] def JB(X:Cx)(s:List Stmt)(t:DS):Prop:=h_ X s (LS t)
@[irreducible] def JG(X:Cx)(e:Expr)(t:fI):Prop:=PG X e (LG t)
@[irreducible] def JI(X:Cx)(a e:Expr)(t:DI):Prop:=PI X a e (LI t)
@[irreducible] def JC(X:Cx)(a:List Expr)(t:DT):Prop:=tS X a (LT t)
section
variable {X:Cx}{a b c e o i:Expr}{es:List Expr}{ta tb tc te to ti:DE}{t u:DT}{ar:DA}{pos p pos':Pos}{s:Stmt}{ss:List Stmt}{T U:DS}
def IA(g:(x==("__debug__":Str))=false)(d:(x==("__classdict__":Str))=false)(f:AW X.env.scope x)(h:X.N[n]?=some x:=by rfl):JE X (.Name x pos) (aa n):=by unfold JE;show Oe g d f h
def sy{T:String}(h:X.mg x=none)(f:bootBuiltins x=some (.type T))(g:x≠"__name__")(d:(x==("__debug__":Str))=false)(j:Gl X x):JE X (.Name x pos) (dC (.ty T)):=by unfold JE;show UX h f j g d
def cQ{k:Int}:JE X (.Constant (.int k) j pos) (dC (.int k)):=by unfold JE;show S_
def tX{k:Bool}:JE X (.Constant (.bool k) j pos) (dC (.bl k)):=by unfold JE;show UI
def Ar:JE X (.Constant .none j pos) (dC .az):=by unfold JE;show Sq
def j7(d:bU X (binaryOp op) (LR r))(g:JE X a ta)(f:JE X b tb):JE X (.BinOp a op b pos) (ak r ta tb):=by unfold JE at*;show UD d g f
def rD(d:JE X a ta):JE X (.UnaryOp .USub a pos) (o8 jN ta):=by unfold JE at*;show UU Sa d
def MQ(d:JE X a ta):JE X (.UnaryOp .Not a pos) (Au (bH ta)):=by unfold JE at*;show Tp d
def EK(d:JE X a ta):JE X (.BoolOp op [a] pos) ta:=by unfold JE at*;show R8 d
def Ag(f:JE X a ta)(d:JE X (.BoolOp .And (b::es) pos) tb):JE X (.BoolOp .And (a::b::es) pos) (oX ta tb):=by unfold JE at*;show RO f d
def Q9(f:JE X a ta)(d:JE X (.BoolOp .Or (b::es) pos) tb):JE X (.BoolOp .Or (a::b::es) pos) (FH ta tb):=by unfold JE at*;show Uw f d
def Ad(d:bU X (compareOp op) (LR r))(f:behindInMarks op b=false)(h:JE X a ta)(g:JE X b tb):JE X (.Compare a [op] [b] pos) (ak r ta tb):=by unfold JE at*;show RX d h g f
def MZ(d:JT X c t)(g:JE X a ta)(f:JE X b tb):JE X (.IfExp c a b pos) (L5 t ta tb):=by unfold JE at*;unfold JT at d;show Td d g f
def qz(h:JA X es ar):JE X (.Tuple es n pos) (pH ar):=by unfold JE;unfold JA at h;show RD h
def E6(h:JA X es ar):JE X (.List es pos) (qZ ar):=by unfold JE;unfold JA at h;show SV h
def Gm(h:JA X es ar):JE X (.List es pos) (tP ar):=by unfold JE;unfold JA at h;show Tj h
def ax:JA X [] ai:=by unfold JA;show xj
def af(d:JE X e te)(f:JA X es ar)(hs:notStar e=true:=by rfl):JA X (e::es) (ab te ar):=by unfold JA at*;unfold JE at d;show KR d f hs
def cE(f:JE X a ta)(d:JE X b tb)(hs:j_ b=true:=by rfl):JE X (.Subscript a b pos) (ak bh ta tb):=by unfold JE at*;show SY f d hs
def cX{x:Str}{id:String}{r:eX}(m:bJ X (.builtin id) (fU r))(g:JA X (e::es) ar)(k:X.mg x=none)(h:bootBuiltins x=some (.builtin id))(j:x≠"__name__")(f:(x==("__debug__":Str))=false)(l:Gl X x)(hs:notStar e=true:=by rfl)(d:g4 es=true:=by rfl):JE X (.Call (.Name x p) (e::es) [] pos) (bI r ar):=by
 unfold JE;unfold JA at g;show RG m g k h j f l hs d
def kL{T:String}(m:bJ X (.type T) (fU r))(g:JA X (e::es) ar)(k:X.mg x=none)(h:bootBuiltins x=some (.type T))(j:x≠"__name__")(f:(x==("__debug__":Str))=false)(l:Gl X x)(hs:notStar e=true:=by rfl)(d:g4 es=true:=by rfl):JE X (.Call (.Name x p) (e::es) [] pos) (bI r ar):=by
 unfold JE;unfold JA at g;show Th m g k h j f l hs d
def a7{x d:Str}{st:Stmt}{j:List Str}{f:Addr}{fd:FuncData}{k:Nat}{S:bW}(A:nG X.K X.mg x d st j f fd)(F:cY X.prog X.w X.K X.mg X.base fN k f fd j (gj S))(m:cJ k X.A)(l:JA X (e::es) ar)(h:(x==("__debug__":Str))=false)(n:Gl X x)(hs:notStar e=true:=by rfl)(g:g4 es=true:=by rfl):
 JE X (.Call (.Name x p) (e::es) [] pos) (av S ar):=by unfold JE;unfold JA at l;show Ss A F m l h n hs g
def KZ{f d:Pos}(j:JE X o to)(k:JE X e te)(h:attributeBase o "append" X.env (eval o X.env)=eval o X.env:=by rfl)(g:(f.endLine==d.line)=true:=by rfl)(hs:notStar e=true:=by rfl):JE X (.Call (.Attribute o "append" f) [e] [] d) (qj to te):=by
 unfold JE at*;show Kt j k h ?_ g (bP hs) rfl;rw[bP hs];rfl
def g6(d:bU X (compareOp op) (LR r))(f:behindInMarks op b=false)(h:JE X a ta)(g:JE X b tb):JT X (.Compare a [op] [b] pos) (bH (ak r ta tb)):=by unfold JE at*;unfold JT;show QX d h g f
def Ci(d:JT X a t):JT X (.UnaryOp .Not a pos) (gN t):=by unfold JT at*;show Pm d
def wu(d:JE X e te)(h:s_ e=true:=by rfl):JT X e (bH te):=by unfold JT;unfold JE at d;show Om d h
def Oh(d:JT X a t):JW X (.BoolOp .And [a] pos) t:=by unfold JW;unfold JT at d;show N_ d
def AZ(d:JT X a t):JW X (.BoolOp .Or [a] pos) t:=by unfold JW;unfold JT at d;show QM d
def Ra(d:JT X a t)(f:JW X (.BoolOp .And (b::es) pos) u):JW X (.BoolOp .And (a::b::es) pos) (Aq t u):=by unfold JW at*;unfold JT at d;show Rt d f
def FX(d:JT X a t)(f:JW X (.BoolOp .Or (b::es) pos) u):JW X (.BoolOp .Or (a::b::es) pos) (oC t u):=by unfold JW at*;unfold JT at d;show Tg d f
def Fl(h:JW X e t):JT X e t:=by unfold JT;unfold JW at h;show PW.pt h
def my(d:JE X l ta):JI X f l (dR ta):=by unfold JI;unfold JE at d;show Pp d
def ke(h:Gl X "range")(g:X.mg "range"=none)(d:JA X [a] ar)(hs:notStar a=true:=by rfl):JI X f (.Call (.Name "range" p) [a] [] pos) (eS ar):=by unfold JI;unfold JA at d;show Iq (Jj h g d (bP hs))
def qy{g:Expr}(j:Gl X "range")(h:X.mg "range"=none)(f:JA X [a,b] ar)(hs:notStar a=true:=by rfl)(d:notStar b=true:=by rfl):JI X g (.Call (.Name "range" p) [a,b] [] pos) (lI ar):=by unfold JI;unfold JA at f;show G8 (Hw j h f (by rw[bP hs,bP d];rfl) (bP d))
def je{k:Nat}(h:X.N.Nodup)(d:Loc X.env.scope x:=by first|show Or.inl rfl|show Or.inr rfl)(g:X.fn x=true\/X.env.scope.names.lookup x=some .local:=by first|show .inl rfl|show .inr rfl)(f:X.N[k]?=some x:=by rfl):JG X (.Name x pos) (bz k):=by unfold JG;show Oi (nX h f d g)
def FT{k j n:Nat}{x y:Str}{g f:Pos}(w:X.calm=true)(d:X.N.Nodup)(l:Loc X.env.scope x:=by first|show Or.inl rfl|show Or.inr rfl)(v:X.fn x=true\/X.env.scope.names.lookup x=some .local:=by first|show .inl rfl|show .inr rfl)(h:Loc X.env.scope y:=by first|show Or.inl rfl|show Or.inr rfl)(r:X.fn y=true\/X.env.scope.names.lookup y=some .local:=by first|show .inl rfl|show .inr rfl)(q:X.N[k]?=some x:=by rfl)(m:X.N[j]?=some y:=by rfl):
 JG X (.Tuple [.Name x g,.Name y f] n pos) (gQ k j):=by unfold JG;show Q0 (Cs w (kh (nX d q l v) (kh (nX d m h r) yw)))
def jy:JC X [] cy:=by unfold JC;show Kh
def Im(h:JT X c t):JC X [c] t:=by unfold JC;unfold JT at h;show QB h
def wZ{j k d:Expr}{g:DI}(S:cN X scope Nc fr)(q:JI X k d g)(r:∀C s H ex,JG (cO X scope Nc C s H ex) k f)(n:∀C s H ex,JC (cO X scope Nc C s H ex) h t)(v:∀C s H ex,JE (cO X scope Nc C s H ex) j te)(l:gT fr f)
 (m:X.xe=λ_ _=>False:=by rfl) (w:X.calm=true:=by rfl) (hs:∀x,foldedSetIterable d X.env x=pure x:=by intro _;rfl):JE X (.ListComp j [⟨k,d,h,0⟩] scope pos) (di g fr f t te):=by
 unfold JE JI JG JC at*;show Po S q r n v l m w hs
def yj{j k d:Expr}{g:DI}(S:cN X scope Nc fr)(q:JI X k d g)(r:∀C s H ex,JG (cO X scope Nc C s H ex) k f)(n:∀C s H ex,JC (cO X scope Nc C s H ex) h t)(v:∀C s H ex,JE (cO X scope Nc C s H ex) j te)(l:gT fr f)
 (m:X.xe=λ_ _=>False:=by rfl) (w:X.calm=true:=by rfl) (hs:∀x,foldedSetIterable d X.env x=pure x:=by intro _;rfl):JE X (.ListComp j [⟨k,d,h,0⟩] scope pos) (i5 g fr f t te):=by
 unfold JE JI JG JC at*;show OO S q r n v l m w hs
def i6:JB X [] du:=by unfold JB;show NA
def bM(h:JS X s T):JB X [s] T:=by unfold JB;unfold JS at h;show NT h
def aG(h:JS X s T)(d:JB X ss U):JB X (s::ss) (au T U):=by unfold JB at*;unfold JS at h;show KU h d
def fR(h:JE X e te):JS X (.Return (some e) pos) (bC te):=by unfold JS;unfold JE at h;show QW h
def eh(h:JE X e te)(d:lP e=true:=by rfl):JS X (.Expr e pos) (eN te):=by unfold JS;unfold JE at h;show KO h d
def kE(d:JT X c t)(g:JB X x T)(f:JB X y U):JS X (.If c x y pos) (eG t T U):=by unfold JS;unfold JB at*;unfold JT at d;show SM d g f
def v_(d:JT X c t)(f:JB X x T)(g:X.xe=λ_ _=>False:=by rfl):JS X (.While c x [] pos) (sV t T):=by unfold JS;unfold JB at f;unfold JT at d;show Kj (K6 (by rw[g];show PassesOwn.never) d f)
def kO{g:fI}(j:JI X h d f)(k:JG X h g)(l:JB X x T)(m:X.xe=λ_ _=>False:=by rfl)(n:X.calm=true:=by rfl)(hs:∀x,foldedSetIterable d X.env x=pure x:=by intro _;rfl):JS X (.For h d x [] pos) (ft f g T):=by
 unfold JS;unfold JI at j;unfold JG at k;unfold JB at l;show Qb (Qp (by rw[m];show PassesOwn.never) n j k l hs)
def cH{k:Nat}(l:X.N.Nodup)(f:Loc X.env.scope x)(d:JE X e te)(j:X.fn x=true\/X.env.scope.names.lookup x=some .local:=by first|show .inl rfl|show .inr rfl)(h:lP e=true:=by rfl)(g:X.N[k]?=some x:=by rfl):JS X (.Assign [.Name x pos'] e pos) (aT k te):=by
 unfold JS;unfold JE at d;show Pq (Nw l g f d j h)
def uG{g l d:Expr}{k:Nat}(E:X.N.Nodup)(w:Loc X.env.scope x)(S:cN X scope Nc fr)(y:JI X l d j)(z:∀C s H ex,JG (cO X scope Nc C s H ex) l h)(v:∀C s H ex,JC (cO X scope Nc C s H ex) f t)(B:∀C s H ex,JE (cO X scope Nc C s H ex) g te)(q:gT fr h)
 (A:X.fn x=true\/X.env.scope.names.lookup x=some .local:=by first|show .inl rfl|show .inr rfl) (m:swapsWith (.ListComp g [⟨l,d,f,0⟩] scope p) (some (.Name x pos')) pos.line X.env=pure true:=by rfl) (n:X.N[k]?=some x:=by rfl) (r:X.xe=λ_ _=>False:=by rfl) (D:X.calm=true:=by rfl) (hs:∀x,foldedSetIterable d X.env x=pure x:=by intro _;rfl):
 JS X (.Assign [.Name x pos'] (.ListComp g [⟨l,d,f,0⟩] scope p) pos) (aT k (di j fr h t te)):=by
 unfold JS;unfold JE JI JG JC at*;show M_ q (Ee r D S y z v B E n w A m hs)
def K9{g l d:Expr}{k:Nat}(E:X.N.Nodup)(w:Loc X.env.scope x)(S:cN X scope Nc fr)(y:JI X l d j)(z:∀C s H ex,JG (cO X scope Nc C s H ex) l h)(v:∀C s H ex,JC (cO X scope Nc C s H ex) f t)(B:∀C s H ex,JE (cO X scope Nc C s H ex) g te)(q:gT fr h)
 (A:X.fn x=true\/X.env.scope.names.lookup x=some .local:=by first|show .inl rfl|show .inr rfl) (m:swapsWith (.ListComp g [⟨l,d,f,0⟩] scope p) (some (.Name x pos')) pos.line X.env=pure true:=by rfl) (n:X.N[k]?=some x:=by rfl) (r:X.xe=λ_ _=>False:=by rfl) (D:X.calm=true:=by rfl) (hs:∀x,foldedSetIterable d X.env x=pure x:=by intro _;rfl):
 JS X (.Assign [.Name x pos'] (.ListComp g [⟨l,d,f,0⟩] scope p) pos) (aT k (i5 j fr h t te)):=by
 unfold JS;unfold JE JI JG JC at*;show La q (Ee r D S y z v B E n w A m hs)
def j5(g:JE X e te)(d:JE X o to)(f:JE X i ti)(j:lP e=true:=by rfl)(h:j_ i=true:=by rfl):JS X (.Assign [.Subscript o i pos'] e pos) (eQ to ti te):=by unfold JS;unfold JE at*;show BY (PH g d f j h)
def Qc{k:Nat}{f:Int->Int->Int}(m:X.N.Nodup)(g:Loc X.env.scope x)(d:JE X e te)(h:Qu X op (Pc f))(l:X.fn x=true\/X.env.scope.names.lookup x=some .local:=by first|show .inl rfl|show .inr rfl)(j:X.N[k]?=some x:=by rfl):JS X (.AugAssign (.Name x pos') op e pos) (E1 k (BJ f) te):=by
 unfold JS;unfold JE at d;show QT (Rz m j g d h l)
end
def iQ{P:Program}{w:World}{K:PySem.W.Frag}{i:Str->Option Value}{c:Heap}{x a:Str}{st:Stmt}{f:Addr}{fd:FuncData}{N g:List Str}{k:Nat}{sp:bW}{t:DS}(F:oo K x a st f fd)(S:ma N g (bf st))
 (b:∀(d:Value) (A:Around) (outer:List Env) (s:Shared) (H:Hp) (E:XK),cJ k (A.deeper (envOfC a (bf st) s.heap.objs.size f d))->JB (pC fN P w K i c N a (bf st) f d A outer s H E).uV (gf st) t)
 (h:∀ds st K,sp ds st K->ds.length=g.length/\t {nx:=λ_ e=>K .az e,rt:=K} (aN N ds) st):cY P w K i c fN (k+1) f fd g (gj sp):=by
 unfold JB at b;show Te F S b h
end L3
namespace HT
open PySem PyProof.Rows
section
variable {prog:Program}{w:World}{A:Around}{E:Value->Shared->Prop}{s:Shared}
def sh{t d:Addr}{items:Array Value}{j i:Value}{lo c:Option Int}{Q:Value->Shared->Prop}(b:IsTup s.heap t items)(hs:s.heap.IsSliceOf d j i .none)(pl:IsPart j lo)(l:IsPart i c)
 (k:cn items.size 0 lo=0/\cn items.size items.size c=items.size) (h:Q (.ref t) s):wpAny (model prog w) A (getItem (.ref t) (.ref d)) Q E s:=by
 obtain⟨m,e,f,n⟩:=id hs;let g:s.TypeIs (.ref d) "slice":=⟨m,e,f⟩
 unfold getItem;try with_reducible show XJ ?_
 first|show VG (VQ ?_)|skip
 show VG (wpAny_sequenceKey b.typeIs (by decide) ?_)
 show VG (W7 (name:=Str.ofString "__getitem__") b.typeIs Xf
  (XE Xf b.typeIs entry_tuple_getitem ?_ (args_tuple_getitem _ _)))
 change wpAny _ _ (Builtin.Tuple.tupleItemsOf (.ref t) >>= _) _ _ s;show VG (tupleItemsOf_ b ?_);show VG (aaK g ?_);rw[VN (by decide)];show VG (oH hs pl l ?_)
 let a:(((cn items.size 0 lo:Nat):Int)==0&&(1:Int)==1&&(cn items.size items.size c-cn items.size 0 lo)==items.size)=true:=by
  rw[k.1,k.2];simp
 change wpAny _ _ (if(((cn items.size 0 lo:Nat):Int)==0&&(1:Int)==1&&(cn items.size items.size c-cn items.size 0 lo)==items.size)=true then _ else _) _ _ s;rw[VN a];show VG ?_;unfold Builtin.Tuple.tupleIsExact;show VG (aaK b.typeIs (VQ (VG (Zo (VQ ⟨_,rfl,VQ h⟩)))))
end
end HT
namespace L3
open PySem L2
open PySem.Spec hiding items?
open PyProof.Rows hiding St
abbrev DO:=bO->ae->(Option Int->ae->Prop)->Prop
def xQ:DO:=λ_ a K=>K none a
def Fq(t:DE):DO:=λσ b K=>t σ b λd a=>match d with| .int i=>K (some i) a|_=>False
def cutD(xs:List D)(lo a:Option Int):List D:=(xs.drop (HT.cn xs.length 0 lo)).take (HT.cn xs.length xs.length a-HT.cn xs.length 0 lo)
def CA(d:D)(lo b:Option Int)(st:ae)(K:DK):Prop:=match d with
 | .lst a=>K (.lst (cutD a lo b)) st
 | .tup a=>K (.tup (cutD a lo b)) st
 | .ref n=>(match st[n]? with|some (.lst a)=>K (.lst (cutD a lo b)) st|_=>False)
 |_=>False
@[irreducible] def sO:D->Option Int->Option Int->ae->DK->Prop:=CA
def CO(t:DE)(lo f:DO):DE:=λσ e K=>t σ e λd c=>lo σ c λl b=>f σ b λu a=>sO d l u a K
def vn{α:List (Option Addr)}{G:Hp}{xs:List D}{vs:List V}{lo a:Option Int}(r:aF α G xs vs):aF α G (cutD xs lo a) (qB vs lo a):=by
 unfold cutD qB;rw[<-r.length];show aX.mpr (uY _ (vb _ (aX.mp r)))
def Vz(α:List (Option Addr))(G F:Hp)(K:Option Int->ae->Prop)(Q:Option Int->Hp->Prop):Prop:=∀o a,K o a->∀c b d,Step α G c b->b_ b F d->aV c a b->Q o d
inductive T8(t:DO)(σ:L2.St)(H:Hp)(Q:Option Int->Hp->Prop):Prop
 |mk (α:List (Option Addr)) (σd:bO) (st:ae) (K:Option Int->ae->Prop) (G F:Hp) (P:b_ G F H) (R:d5 α G σd σ) (S:aV α st G) (h:t σd st K) (k:Vz α G F K Q):T8 t σ H Q
def LO(t:DO):TO:=T8 t
section
variable {X:Cx}
def PO.imp{e:Option Expr}(h:PO X e t)(f:∀σ H Q,t' σ H Q->t σ H Q):PO X e t':=λa s σ H Q I q=>h a s σ H Q I (f σ H Q q)
def N3:PO X none (LO xQ):=PO.imp NW λσ H Q ⟨α,b,a,K,G,F,P,R,S,t,k⟩=>k none a t α G H Step.refl P S
def Nf{e:Expr}(h:PE X e (LE b)):PO X (some e) (LO (Fq b)):=PO.imp (Oc h) λσ H Q ⟨α,f,i,K,G,F,P,R,S,t,k⟩=>by
 show⟨α,f,i,_,G,F,P,R,S,t,λd a q g n H1 v j m l c=>?_⟩;cases d<;>try show q.elim
 unfold Rep at c;show⟨_,c,k _ a q g n H1 j m l⟩
def Vw(x:V)(lo b:Option Int)(H:Hp)(Q:VK):Prop:=∃α d a K G F,b_ G F H/\Rep α G d x/\aV α a G/\sO d lo b a K/\LK α G F K Q
def N4:HG X (λx lo b H Q=>∃a xs,x= .ref a/\H a=some (.tup xs)/\((HT.cn xs.length 0 lo=0/\HT.cn xs.length xs.length b=xs.length)->Q (.ref a) H)/\(¬(HT.cn xs.length 0 lo=0/\HT.cn xs.length xs.length b=xs.length)->∀p,H p=none->Q (.ref p) (upd H p (.tup (qB xs lo b))))):=by
 intro c s σ H x v n m lo b o Q I g l pl i h;obtain⟨a,xs,rfl,j,t,q⟩:=h;by_cases e:HT.cn xs.length 0 lo=0/\HT.cn xs.length xs.length b=xs.length
 . cases g;obtain⟨f,r,k,u⟩:=I.tuple (ji.of j);let d:f.toArray.size=xs.length:=by rw[VW];show r.length.symm
   show⟨"tuple",_,Xf.lookup,k.typeIs,HT.sh k l pl i (by rw[d];show e) ⟨.ref a,H,I,rfl,t e⟩⟩
 . show PY c s σ H _ v n m lo b o Q I g l pl i ⟨a,xs,rfl,.of j,e,q e⟩
def Jk{xs:List D}{lo b:Option Int}(a:HT.cn xs.length 0 lo=0/\HT.cn xs.length xs.length b=xs.length):cutD xs lo b=xs:=by
 unfold cutD;rw[a.1,a.2];simp
def P7:HG X Vw:=by
 intro b s σ H x v j i lo u l Q I m t pl r ⟨α,d,E,K,G,F,P,c,S,q,k⟩;unfold sO CA at q;cases d<;>try show q.elim
 . rename_i n;simp only at q;split at q
   . rename_i z e;obtain⟨a,D,f,C,B⟩:=S.gL e;let o:=dY D c;subst o;show DL b s σ H _ v j i lo u l Q I m t pl r ⟨a,f,rfl,.inl (.of (P.get C)),λp g=>k.lst P q S (vn B) g⟩
   . show q.elim
 . unfold Rep at c;obtain⟨a,f,rfl,na,w,h⟩:=c;show DL b s σ H _ v j i lo u l Q I m t pl r ⟨a,f,rfl,.inl (fE P w),λp g=>k.lst P q S (vn h) g⟩
 . rename_i z;let A:=c;unfold Rep at c;obtain⟨a,f,rfl,na,w,h⟩:=c;show N4 b s σ H _ v j i lo u l Q I m t pl r ⟨a,f,rfl,P.get w,λy=>?_,λ_ p g=>k.tup P q S (vn h) g⟩;rw[<-h.length]at y;simp only at q;rw[Jk y]at q;show k.here P q S A
def Ny{e:Expr}{lo n:Option Expr}{j:DE}{tl i:DO}{z pos:Pos}(C:PE X e (LE j))(A:PO X lo (LO tl))(B:PO X n (LO i)):PE X (.Subscript e (.Slice lo n none z) pos) (LE (CO j tl i)):=PE.imp (Kp P7 C A B) λσ H Q ⟨α,a,s,K,G,F,P,R,S,t,k⟩=>by
 show⟨α,a,s,_,G,F,P,R,S,t,λd f q r O H1 v h L I w=>?_⟩;show⟨r,a,f,_,O,F,L,R.step h,I,q,λl c y p N U g J E=>?_⟩;show⟨p,a,c,_,N,F,J,(R.step h).step g,E,y,λu b x o M T m P3 D=>?_⟩;show⟨o,d,b,K,M,F,P3,(w.step g).step m,D,x,((k.at h).at g).at m⟩
@[irreducible] def JO(X:Cx)(e:Option Expr)(t:DO):Prop:=PO X e (LO t)
def OC:JO X none xQ:=by unfold JO;show N3
def Ov{e:Expr}(h:JE X e a):JO X (some e) (Fq a):=by unfold JO;unfold JE at h;show Nf h
def Ob{e:Expr}{lo c:Option Expr}{b:DE}{tl a:DO}{d pos:Pos}(h:JE X e b)(f:JO X lo tl)(g:JO X c a):JE X (.Subscript e (.Slice lo c none d) pos) (CO b tl a):=by unfold JE at*;unfold JO at*;show Ny h f g
end
def Iz{st:ae}{K:DK}{xs:List D}{lo a:Option Int}{n:Nat}(h:st[n]?=some (.lst xs))(k:K (.lst (cutD xs lo a)) st):sO (.ref n) lo a st K:=by unfold sO CA;simp![h];show k
section
variable {prog:Program}{w:World}{A:Around}{E:Value->Shared->Prop}{s:Shared}
def F2(e:s.heap.IsTupleIter b a n)(h:s.heap.IsTuple a its)(f:its[n]?=some v)
 (q:∀g,g.IsTupleIter b a (n+1)->Heap.SameBut b s.heap g->Q v {s with heap:=g}):wpAny (model prog w) A (Builtin.SmallTypes.nextOf (.ref b)) Q E s:=by
 obtain⟨m,d,k,c⟩:=id e;obtain⟨l,i,_,o,j⟩:=h;unfold Builtin.SmallTypes.nextOf;show VG (W7 (name:=Str.ofString "__next__") e.typeIs Yw (XE Yw e.typeIs aai ?_ (aae _)));change wpAny _ _ (field (.ref b) 0 >>= _) _ _ s;show VG (WI d c (x:= .ref a) rfl ?_);change wpAny _ _ (if(Value.ref a==Value.none)=true then _ else _) _ _ s;rw[VM (show¬((Value.ref a==Value.none)=true)from WD)];change wpAny _ _ (field (.ref b) 1 >>= _) _ _ s;show VG (WI d c (x:= .int n 0) rfl ?_);change wpAny _ _ (seqItems? (.ref a) >>= _) _ _ s;show VG (WM i j ?_);simp![V7,f];show VG (wpAny_setField d c (by simp) (VQ ⟨v,rfl,VQ (q _ ?_ (Xb ..))⟩));show⟨_,Y0 _ d (Obj.isFreed_of_fields (Obj.data_mapFields c _)),(Obj.cls_mapFields ..).trans k,?_⟩;rw[Obj.data_mapFields c];simp[rawInt]
def Iu(i:A.handled=none)(d:s.heap.IsTupleIter c b n)(k:s.heap.IsTuple b its)(j:its[n]?=none)
 (q:∀g e,Heap.ExtBut c s.heap g->(∃o,g.get? e=some o/\o.cls= .type "StopIteration")->E (.ref e) {s with heap:=g}):wpAny (model prog w) A (Builtin.SmallTypes.nextOf (.ref c)) Q E s:=by
 obtain⟨t,f,v,h⟩:=id d;obtain⟨r,l,_,u,p⟩:=k;unfold Builtin.SmallTypes.nextOf;show VG (W7 (name:=Str.ofString "__next__") d.typeIs Yw (XE Yw d.typeIs aai ?_ (aae _)));change wpAny _ _ (field (.ref c) 0 >>= _) _ _ s;show VG (WI f h (x:= .ref b) rfl ?_);change wpAny _ _ (if(Value.ref b==Value.none)=true then _ else _) _ _ s;rw[VM (show¬((Value.ref b==Value.none)=true)from WD)];change wpAny _ _ (field (.ref c) 1 >>= _) _ _ s;show VG (WI f h (x:= .int n 0) rfl ?_);change wpAny _ _ (seqItems? (.ref b) >>= _) _ _ s;show VG (WM l p ?_);simp![V7,j];show VG (Zo (VG (wpAny_setField f h (by simp) ?_)));change wpAny _ _ (newExc (.type "StopIteration") [] >>= _) _ _ _;show VG ?_;simp![newExc,newTuple];show VG (YA ?_ (by size_fits));show VG (m:=firstArgMember _ _) (wpAny_of_eq (a:=Value.none) (by first|rfl|(simp![firstArgMember];rfl)) ?_);show YA ?_ (by size_fits);simp![raiseNew];show VG (wpAny_handled ?_);first|rw[show A.in1.handled=none from i]|rw[i]
 show VG (VQ (wpAny_throw ?_));show q _ _ (((Xb ..).extBut.push _).push _) ⟨_,V4 _ rfl,rfl⟩
end
section
variable {st:ae}{K:DK}{i j:Int}{b c:Bool}{xs ys:List D}{d e:D}{n:Nat}
def eqT(h:i=j)(k:K (.bl true) st):ki (.int i) (.int j) st K:=AA (by rw[WS h];show k)
def Ud(h:i≠j)(k:K (.bl false) st):ki (.int i) (.int j) st K:=AA (by rw[Wt h];show k)
def eq2(f:i=j->K (.bl true) st)(a:i≠j->K (.bl false) st):ki (.int i) (.int j) st K:=by
 by_cases h:i=j
 . show eqT h (f h)
 . show Ud h (a h)
def neT(h:i≠j)(k:K (.bl true) st):mM (.int i) (.int j) st K:=M3 (by rw[Wt h];show k)
def D0(h:i=j)(k:K (.bl false) st):mM (.int i) (.int j) st K:=M3 (by rw[WS h];show k)
def ne2(f:i≠j->K (.bl true) st)(a:i=j->K (.bl false) st):mM (.int i) (.int j) st K:=by
 by_cases h:i=j
 . show D0 h (a h)
 . show neT h (f h)
def Vh(h:i<j)(k:K (.bl true) st):tH (.int i) (.int j) st K:=MW (by rw[WS h];show k)
def Vp(h:j<=i)(k:K (.bl false) st):tH (.int i) (.int j) st K:=MW (by rw[Wt (by lia)];show k)
def Mu(f:i<j->K (.bl true) st)(a:j<=i->K (.bl false) st):tH (.int i) (.int j) st K:=by
 by_cases h:i<j
 . show Vh h (f h)
 . show Vp (by lia) (a (by lia))
def VB(h:i<=j)(k:K (.bl true) st):zq (.int i) (.int j) st K:=Lv (by rw[WS h];show k)
def Vl(h:j<i)(k:K (.bl false) st):zq (.int i) (.int j) st K:=Lv (by rw[Wt (by lia)];show k)
def Vi(h:j<i)(k:K (.bl true) st):rP (.int i) (.int j) st K:=E7 (by rw[WS h];show k)
def TQ(h:i<=j)(k:K (.bl false) st):rP (.int i) (.int j) st K:=E7 (by rw[Wt (by lia)];show k)
def PD(f:j<i->K (.bl true) st)(a:i<=j->K (.bl false) st):rP (.int i) (.int j) st K:=by
 by_cases h:j<i
 . show Vi h (f h)
 . show TQ (by lia) (a (by lia))
def O6(h:xs.length<=1000)(k:P):xs.length<=sizeLine/\P:=⟨by rw[XT];lia,k⟩
def cv(h:m<=1000):m<=sizeLine:=by rw[XT];lia
def x5(a:0<=i)(e:xs[i.toNat]?=some d):dN xs i=some d:=by
 let:=fP e;rw[Xp a]at this;show this
def mY(a:0<=i)(h:i.toNat<m):ox m i=some i.toNat:=by
 unfold ox;let:i<(m:Int):=by lia
 simp[a,this]
end
def dS{e:fI}{E:kG}(I:List D->bO->ae->Prop)(d:∀σ st,I [] σ st->ok st/\E.nx σ st)
 (b:∀x xs σ st,I (x::xs) σ st->(∀f c,I xs f c->fG e a ok E xs f c)->ok st/\∃g,e x σ=some g/\a {E with nx:=fG e a ok E xs,ct:=fG e a ok E xs,bk:=E.nx} g st):
 ∀xs σ st,I xs σ st->fG e a ok E xs σ st
 | [],σ,st,h=>by unfold fG;show d σ st h
 |x::xs,σ,st,h=>by unfold fG;show b x xs σ st h λf c i=>dS I d b xs f c i
def eK{j:fI}{c:DT}{k:DE}{ok:ae->Prop}{i:bO}{K:List D->ae->Prop}(I:List D->List D->ae->Prop)(g:∀a st,I [] a st->ok st/\K a st)
 (e:∀x xs a st,I (x::xs) a st->(∀d f,I xs d f->cR j c k ok i xs d f K)->ok st/\∃m,j x i=some m/\c m st λb l=>if b=true then k m l λy n=>cR j c k ok i xs (a++[y]) n K else cR j c k ok i xs a l K):
 ∀xs a st,I xs a st->cR j c k ok i xs a st K
 | [],a,st,h=>by unfold cR;show g a st h
 |x::xs,a,st,h=>by unfold cR;show e x xs a st h λd f o=>eK I g e xs d f o
def comp_map{f:fI}{i:DE}{ok:ae->Prop}{d:bO}{st:ae}{K:List D->ae->Prop}{g:D->D}(m:ok st)(xs:List D)(p:∀x∈xs,∀n,n (g x) st->∃c,f x d=some c/\i c st n)(k:K (xs.map g) st):cR f cy i ok d xs [] st K:=by
 show eK (λr a b=>b=st/\(∀x∈r,x∈xs)/\a++r.map g=xs.map g) (λa b h=>?_) (λx r a b h next=>?_) xs [] st ⟨rfl,λ_ h=>h,rfl⟩
 . obtain⟨rfl,_,e⟩:=h;rw[List.map_nil,XD]at e;rw[e];show⟨m,k⟩
 . obtain⟨rfl,l,e⟩:=h;obtain⟨c,s,q⟩:=p x (l x V6) (λy j=>cR f cy i ok d r (a++[y]) j K) (next _ _ ⟨rfl,λz o=>l z (VZ _ o),by rw[<-e];simp⟩);show⟨m,c,s,q⟩
def nO{A B:DS}{E:kG}{σ:bO}{st:ae}(J:bO->ae->Prop)(h:∀nx,(∀b a,J b a->nx b a)->A {E with nx:=nx} σ st)(k:∀b a,J b a->B E b a):au A B E σ st:=h (B E) k
def Qg(n:Nat)(K:DK)(y:D)(a:ae):Prop:=∃b,[y]=[b]/\(match a[n]? with|some (.lst c)=>c.length<sizeLine/\K .az (a.set n (.lst (c++[b])))|_=>False)
def ug{n:Nat}{K:DK}{y:D}{st:ae}{xs:List D}(e:st[n]?=some (.lst xs))(h:xs.length<sizeLine)(k:K .az (st.set n (.lst (xs++[y])))):Qg n K y st:=by
 show⟨y,rfl,?_⟩;simp![e];show⟨h,k⟩
@[irreducible] def ky(a b:DE):DE:=qj a b
def xt{σ:bO}{st:ae}{K:DK}{i n:Nat}{xs:List D}{a:DE}(b:σ[i]?=some (some (.ref n)))(e:st[n]?=some (.lst xs))(h:a σ st (Qg n K)):ky (aa i) a σ st K:=by
 unfold ky qj aa;simp![b,e];show h
def yQ{X:Cx}{o e:Expr}{f g:DE}{b a:Pos}(h:JE X o f)(i:JE X e g)(d:attributeBase o "append" X.env (eval o X.env)=eval o X.env:=by rfl)(c:(b.endLine==a.line)=true:=by rfl)(hs:notStar e=true:=by rfl):JE X (.Call (.Attribute o "append" b) [e] [] a) (ky f g):=by
 unfold ky;show KZ h i d c hs
structure Src(P:Program)(w:World)(t a:Addr)(J:Nat->Heap->Prop)(us:Array Value):Prop where
 fr:∀n g k,J n g->(∀b,b=t\/b=a->∀o,g.get? b=some o->k.get? b=some o)->J n k
 lv:∀n g,J n g->(∃o,g.get? t=some o)/\∃o,g.get? a=some o
 nx:∀n (A:Around) (s:Shared) (Q:Value->Shared->Prop) (E:Value->Shared->Prop) v,J n s.heap->us[n]?=some v->(∀k,J (n+1) k->Heap.SameBut t s.heap k->Q v {s with heap:=k})->wpAny (model P w) A (Builtin.SmallTypes.nextOf (.ref t)) Q E s
 en:∀n (A:Around) (s:Shared) (Q:Value->Shared->Prop) (E:Value->Shared->Prop),A.handled=none->J n s.heap->us[n]?=none->(∀k e,Heap.ExtBut t s.heap k->(∃o,k.get? e=some o/\o.cls= .type "StopIteration")->E (.ref e) {s with heap:=k})->wpAny (model P w) A (Builtin.SmallTypes.nextOf (.ref t)) Q E s
section
variable {P:Program}{w:World}
def src_list(t a:Addr)(c:a≠t)(us:Array Value):Src P w t a (λn g=>g.IsListIter t a n/\g.IsList a us) us where
 fr:=λn g k j f=>⟨j.1.at λo e=>f t (.inl rfl) o e,j.2.at λo e=>f a (.inr rfl) o e⟩
 lv:=λn g j=>⟨let⟨o,e,_⟩:=j.1;⟨o,e⟩,let⟨o,e,_⟩:=j.2;⟨o,e⟩⟩
 nx:=λn A s Q E v j b q=>wpAny_nextOf_list_item j.1 j.2 b λk h d=>q k ⟨h,j.2.extBut d.extBut c⟩ d
 en:=λn A s Q E i j b q=>wpAny_nextOf_list_end i j.1 j.2 b q
def Nn(t a:Addr)(c:a≠t)(us:Array Value):Src P w t a (λn g=>g.IsTupleIter t a n/\g.IsTuple a us) us where
 fr:=λn g k j h=>by
  obtain⟨⟨o,e,r⟩,⟨f,p,i⟩⟩:=j;show⟨⟨o,h t (.inl rfl) o e,r⟩,⟨f,h a (.inr rfl) f p,i⟩⟩
 lv:=λn g j=>⟨let⟨o,e,_⟩:=j.1;⟨o,e⟩,let⟨o,e,_⟩:=j.2;⟨o,e⟩⟩
 nx:=λn A s Q E v j b q=>F2 j.1 j.2 b λk l d=>q k ⟨l,j.2.extBut d.extBut c⟩ d
 en:=λn A s Q E m j b q=>Iu m j.1 j.2 b q
def Src.ext(S:Src P w t a J us){g k:Heap}(j:J n g)(x:Heap.ExtBut c g k)(h:c≠t)(f:c≠a):J n k:=
 S.fr n g k j λb d o e=>x b o (by rcases d with rfl|rfl;show VO h;show VO f) e
structure Eu(z ti to t1 t2 a1 a2:Addr):Prop where
 nd: [z,ti,to,t1,t2].Nodup
 a1:a1∉[z,ti,to,t1,t2]
 a2:a2∉[z,ti,to,t1,t2]
section
variable {z ti to t1 t2 a1 a2:Addr}
def Eu.n(D:Eu z ti to t1 t2 a1 a2):(ti≠z/\to≠z/\t1≠z/\t2≠z)/\(ti≠to/\ti≠t1/\ti≠t2)/\(to≠t1/\to≠t2)/\t1≠t2:=by
 let:=D.nd;simp![XO,V8,YO,Wc,WY,Yx,List.nodup_nil]at this;obtain⟨⟨j,i,h,g⟩,⟨f,e,d⟩,⟨c,b⟩,a⟩:=this;show⟨⟨VO j,VO i,VO h,VO g⟩,⟨f,e,d⟩,⟨c,b⟩,a⟩
def GV{A:Around}{s:Shared}{E:Value->Shared->Prop}{O K:Nat->Heap->Prop}{us vs:Array Value}{n:Nat}{x y a b:Value}{Q:Value->Shared->Prop}(D:Eu z ti to t1 t2 a1 a2)(m:Src P w t1 a1 O us)(l:Src P w t2 a2 K vs)
 (Z:IsZip s.heap z ti to .none) (pI:IsPair s.heap ti (.ref t1) (.ref t2)) (pO:IsPair s.heap to a b) (j1:O n s.heap) (j2:K n s.heap) (ex:us[n]?=some x) (ey:vs[n]?=some y)
 (q:∀k,IsZip k z ti to (rawInt s.heap.objs.size)->IsPair k to x y->O (n+1) k->K (n+1) k->IsPair k s.heap.objs.size x y->k.objs.size=s.heap.objs.size+1->
   (∀c o,c≠z->c≠to->c≠t1->c≠t2->s.heap.get? c=some o->k.get? c=some o)->Q (.ref s.heap.objs.size) {s with heap:=k}):
 wpAny (model P w) A (Builtin.«zip.__next__» ⟨[.ref z],[]⟩) (λar s'=>∃v,ar= .done (.ret v)/\Q v s') E s:=by
 obtain⟨⟨n1,L,U,T⟩,⟨n5,n6,n7⟩,⟨S,R⟩,u⟩:=D.n;let j:=D.a1;let i:=D.a2;simp![V8,YO,Wc,WY,Yx]at j i;change wpAny _ _ (field (.ref z) 2 >>= _) _ _ _;show VG (WI Z rfl (x:= .bool false) rfl ?_);change wpAny _ _ (field (.ref z) 3 >>= _) _ _ _;show VG (WI Z rfl (x:= .ref ti) rfl ?_);show VG (WM pI rfl ?_);change wpAny _ _ (Builtin.SmallTypes.ownedTupleIsFree (.ref z) >>= _) _ _ _;show VG ?_;unfold Builtin.SmallTypes.ownedTupleIsFree;show VG (WI Z rfl (x:= .none) rfl (VQ ?_));simp![Yv];show VG (Zo ?_);show VG (WI Z rfl (x:= .ref to) rfl ?_);show VG (WT Z (by simp) λk1 Z1 J=>?_);replace Z1:IsZip k1 z ti to .ellipsis:=Z1;show VG ?_;simp![ZF,ZV,Ze,Zn];show VG (VG (X7 ?_));change wpAny _ _ (Builtin.SmallTypes.nextOf (.ref t1) >>= _) _ _ _;show VG (m.nx n _ _ _ _ x (m.ext j1 J.extBut (VO U) (VO j.1)) ex λk2 ah I=>VQ ?_);let t:IsPair k2 to a b:=I.extBut _ _ S (J.extBut _ _ L pO);show VG (WM t rfl ?_);show VG (ZW t λk3 g H=>?_);replace g:IsPair k3 to x b:=g;show VG (YE (VQ ?_));show VG (VG (X7 ?_));change wpAny _ _ (Builtin.SmallTypes.nextOf (.ref t2) >>= _) _ _ _;let Y:K n k3:=l.ext (l.ext (l.ext j2 J.extBut (VO T) (VO i.1)) I.extBut u (VO i.2.2.2.1)) H.extBut R (VO i.2.2.1);show VG (l.nx n _ _ _ _ y Y ey λk4 X G=>VQ ?_);let r:IsPair k4 to x b:=G.extBut _ _ R g;show VG (WM r rfl ?_);show VG (ZW r λd f F=>?_);replace f:IsPair d to x y:=f;show VG (YE (VQ (VQ ?_)));show VG (WM f rfl ?_);show VG (abc ?_);let sz:d.objs.size=s.heap.objs.size:=by rw[F.1,G.1,H.1,I.1,J.1]
 let Z5:IsZip d z ti to .ellipsis:=F.extBut _ _ (VO L) (G.extBut _ _ (VO T) (H.extBut _ _ (VO L) (I.extBut _ _ (VO U) Z1)));let V:∀c o,c≠z->c≠to->c≠t1->c≠t2->s.heap.get? c=some o->d.get? c=some o:=λc o h M c3 c4 e=>F.extBut _ _ M (G.extBut _ _ c4 (H.extBut _ _ M (I.extBut _ _ c3 (J.extBut _ _ h e))));let ag:O (n+1) d:=m.ext (m.ext (m.ext ah H.extBut S (VO j.2.2.1)) G.extBut (VO u) (VO j.2.2.2.2)) F.extBut S (VO j.2.2.1);let W:K (n+1) d:=l.ext X F.extBut R (VO i.2.2.1);let B:z<d.objs.size:=VY Z5;change wpAny _ _ (Builtin.SmallTypes.ownedTupleHandOut (.ref z) (.ref d.objs.size) >>= _) _ _ _;show VG ?_;unfold Builtin.SmallTypes.ownedTupleHandOut;let Z6:IsZip (d.push {cls:= .type "tuple",data:= .seq #[x,y]}) z ti to .ellipsis:=VJ _ Z5;show VG (WT Z6 (by simp) λk7 Z7 b7=>?_);replace Z7:IsZip k7 z ti to (rawInt d.objs.size):=Z7;show WT Z7 (by simp) λC N b8=>?_;replace N:IsZip C z ti to (rawInt d.objs.size):=N;let up:∀c o,c≠z->d.get? c=some o->C.get? c=some o:=λc o h e=>b8.extBut _ _ h (b7.extBut _ _ h (VJ _ e));let pT:IsPair C d.objs.size x y:=b8.extBut _ _ (Xa B) (b7.extBut _ _ (Xa B) (V4 _ rfl));let p:C.objs.size=d.objs.size+1:=by rw[b8.1,b7.1,WG]
 rw[sz]at N pT p;show VQ ⟨_,rfl,?_⟩;change Q (.ref d.objs.size) _;rw[sz];show q C N (up _ _ L f) (m.fr _ _ _ ag λb hb o e=>up b o ?_ e) (l.fr _ _ _ W λb hb o e=>up b o ?_ e) pT p λc o h M c3 c4 e=>up c o h (V c o h M c3 c4 e)
 . rcases hb with rfl|rfl
   . show U
   . show j.1
 . rcases hb with rfl|rfl
   . show T
   . show i.1
def JY{A:Around}{s:Shared}(V:A.handled=none)(D:Eu z ti to t1 t2 a1 a2)(M:Src P w t1 a1 O us)(y:Src P w t2 a2 N vs)
 (Z:IsZip s.heap z ti to .none) (pI:IsPair s.heap ti (.ref t1) (.ref t2)) (pO:IsPair s.heap to a b) (j1:O n s.heap) (j2:N n s.heap) (he:us[n]?=none\/vs[n]?=none)
 (q:∀k e,(∀c o,c≠z->c≠to->c≠t1->c≠t2->s.heap.get? c=some o->k.get? c=some o)->(∃o,k.get? e=some o/\o.cls= .type "StopIteration")->E (.ref e) {s with heap:=k}):
 wpAny (model P w) A (Builtin.«zip.__next__» ⟨[.ref z],[]⟩) Q E s:=by
 obtain⟨⟨n1,S,C,R⟩,⟨n5,n6,n7⟩,⟨n8,n9⟩,F⟩:=D.n;let T:=D.a1;let u:=D.a2;simp![V8,YO,Wc,WY,Yx]at T u;change wpAny _ _ (field (.ref z) 2 >>= _) _ _ _;show VG (WI Z rfl (x:= .bool false) rfl ?_);change wpAny _ _ (field (.ref z) 3 >>= _) _ _ _;show VG (WI Z rfl (x:= .ref ti) rfl ?_);show VG (WM pI rfl ?_);change wpAny _ _ (Builtin.SmallTypes.ownedTupleIsFree (.ref z) >>= _) _ _ _;show VG ?_;unfold Builtin.SmallTypes.ownedTupleIsFree;show VG (WI Z rfl (x:= .none) rfl (VQ ?_));simp![Yv];show VG (Zo ?_);show VG (WI Z rfl (x:= .ref to) rfl ?_);show VG (WT Z (by simp) λU v t=>?_);replace v:IsZip U z ti to .ellipsis:=v;show VG ?_;simp![ZF,ZV,Ze,Zn];show VG (VG (X7 ?_));change wpAny _ _ (Builtin.SmallTypes.nextOf (.ref t1) >>= _) _ _ _;let p:O n U:=M.ext j1 t.extBut (VO C) (VO T.1);cases K:us[n]? with
 |none=>
  show VG (M.en n _ _ _ _ V p K λH e j J=>?_);obtain⟨B,d,g⟩:=J;let Z2:IsZip H z ti to .ellipsis:=j _ _ (VO C) v;let i:e≠z:=λc=>by subst c;rw[Z2]at d;cases d;simp at g
  show WT Z2 (by simp) λG _ l=>q G e (λc o r _ L _ f=>l.extBut _ _ r (j _ _ L (t.extBut _ _ r f))) ⟨B,l.extBut _ _ i d,g⟩
 |some x=>
  have ey:vs[n]?=none:=by
   rcases he with h|h
   . rw[K]at h;cases h
   . show h
  show VG (M.nx n _ _ _ _ x p K λH ah j=>VQ ?_);let m:IsPair H to a b:=j.extBut _ _ n8 (t.extBut _ _ S pO);show VG (WM m rfl ?_);show VG (ZW m λG ag l=>?_);show VG (YE (VQ ?_));show VG (VG (X7 ?_));change wpAny _ _ (Builtin.SmallTypes.nextOf (.ref t2) >>= _) _ _ _;let I:N n G:=y.ext (y.ext (y.ext j2 t.extBut (VO R) (VO u.1)) j.extBut F (VO u.2.2.2.1)) l.extBut n9 (VO u.2.2.1);show VG (y.en n _ _ _ _ V I ey λk4 e X J=>?_);obtain⟨B,d,g⟩:=J;let Y:IsZip k4 z ti to .ellipsis:=X _ _ (VO R) (l.extBut _ _ (VO S) (j.extBut _ _ (VO C) v));let i:e≠z:=λc=>by subst c;rw[Y]at d;cases d;simp at g
  show WT Y (by simp) λk5 _ W=>q k5 e (λc o r c2 L c4 f=>W.extBut _ _ r (X _ _ c4 (l.extBut _ _ c2 (j.extBut _ _ L (t.extBut _ _ r f))))) ⟨B,W.extBut _ _ i d,g⟩
end
end
def EY{X:Cx}{pins:List (Addr×Obj)}{σ:L2.St}{H:Hp}{s:Shared}{g:Heap}{tk:Nat}{fp:List Addr}{T:Addr}{xs:List V}(I:Inv X pins σ H s)(i:∀b∈fp,mh X pins H b)
 (k:∀b o,b∉fp->s.heap.get? b=some o->g.get? b=some o) (j:s.heap.objs.size<=T) (new:dm X.prog X.w (upd H T (.tup xs)) g T (.tup xs)):Inv X pins σ (upd H T (.tup xs)) {s with heap:=g,toks:=tk}:=by
 let t:H T=none:=I.aH.fresh j;let d:∀b u,H b=some u->b∉fp:=λb u e z=>by rw[(i b z).1]at e;cases e
 let f:∀b u,H b=some u->b≠T:=λb u e=>dH e t
 show I.step (g':=s.gens) (d':=s.drawn) (ch:=fp) (λb h=>?_) (λb o _ _ a e _=>k b o a e) (λb o _ _ a e _=>⟨o.slots,k b o a e⟩) (λb o _ e n=>?_) (λb o a e=>⟨o,k b o a e⟩)
  (λb l e=>by rw[aB (f b _ e)];show e) (λb o u e=>by rw[aB (f b _ e)];show e) (λb E e=>⟨#[],by rw[aB (f b _ e),e];simp⟩) (λm w=>?_) (λb u e=>?_) I.bare
 . obtain⟨G,B,F,A,y,x⟩:=i b h;show⟨A,B,y,x⟩
 . rw[aB (Wb (V9 (VY e) j))];show n
 . obtain⟨o,C,D,p,r⟩:=w;show⟨o,C,D,k _ o (λz=>(i _ z).2.1 rfl) p,r⟩
 . by_cases h:b=T
   . subst h;rw[aW]at e;cases e;show new
   . rw[aB h]at e;show(I.aH b u e).pL (λc v a q=>k c v ?_ q) (λc q=>by rw[aB (f c _ q)];show q) λc l q=>by rw[aB (f c _ q)];show q
     rcases a with z|z
     . rw[z];show d b u e
     . show d c _ z
def EV{X:Cx}{pins:List (Addr×Obj)}{σ:L2.St}{H:Hp}{s:Shared}{g:Heap}{tk:Nat}{fp:List Addr}(I:Inv X pins σ H s)(f:∀b∈fp,mh X pins H b)
 (k:∀b o,b∉fp->s.heap.get? b=some o->g.get? b=some o):Inv X pins σ H {s with heap:=g,toks:=tk}:=by
 let d:∀b u,H b=some u->b∉fp:=λb u e z=>by rw[(f b z).1]at e;cases e
 show I.step (g':=s.gens) (d':=s.drawn) (ch:=fp) (λb l=>?_) (λb o _ _ a e _=>k b o a e) (λb o _ _ a e _=>⟨o.slots,k b o a e⟩) (λb o _ e n=>n) (λb o a e=>⟨o,k b o a e⟩)
  (λb h e=>e) (λb o u e=>e) (λb B e=>⟨#[],by rw[e];simp⟩) (λm j=>?_) (λb u e=>?_) I.bare
 . obtain⟨D,x,C,w,t,p⟩:=f b l;show⟨w,x,t,p⟩
 . obtain⟨o,y,A,i,r⟩:=j;show⟨o,y,A,k _ o (λz=>(f _ z).2.1 rfl) i,r⟩
 . show(I.aH b u e).pL (λc v a q=>k c v ?_ q) (λc q=>q) λc h q=>q;rcases a with z|z
   . rw[z];show d b u e
   . show d c _ z
inductive SK where
 |l|t
def jD(k:SK)(K:PySem.W.Frag)(H:Hp)(a:Addr)(xs:List V):Prop:=match k with
 | .l=>mO K H a xs
 | .t=>ji K H a xs
def lz(k:SK)(t a:Addr)(n:Nat)(g:Heap):Prop:=match k with
 | .l=>g.IsListIter t a n
 | .t=>g.IsTupleIter t a n
def f7(k:SK)(g:Heap)(a:Addr)(us:Array Value):Prop:=match k with
 | .l=>g.IsList a us
 | .t=>g.IsTuple a us
def o_(k:SK)(a:Addr):Obj:=match k with
 | .l=>{cls:= .type "list_iterator",data:= .fields #[.ref a,.int 0 0]}
 | .t=>{cls:= .type "tuple_iterator",data:= .fields #[.ref a,.int 0 0]}
def ib(k:SK)(t a:Addr)(b:a≠t)(us:Array Value):Src P w t a (λn g=>lz k t a n g/\f7 k g a us) us:=by
 cases k
 . show src_list t a b us
 . show Nn t a b us
def e9{X:Cx}{pins:List (Addr×Obj)}{σ:L2.St}{H:Hp}{s:Shared}{k:SK}{a:Addr}{xs:List V}(I:Inv X pins σ H s)(h:jD k X.K H a xs):∃its:List Value,Vals xs its/\f7 k s.heap a its.toArray:=by
 cases k
 . obtain⟨its,b,p,_⟩:=I.list h;show⟨its,b,p.isList⟩
 . obtain⟨its,b,p,_⟩:=I.tuple h;show⟨its,b,p⟩
def nW{X:Cx}{pins:List (Addr×Obj)}{σ:L2.St}{H:Hp}{s:Shared}{k:SK}{a:Addr}{xs ys:List V}(I:Inv X pins σ H s)(h:jD k X.K H a xs)(h':jD k X.K H a ys):xs=ys:=by
 cases k
 . show I.CY h h'
 . show I.yM h h'
def sE{s:Shared}{k:SK}(h:f7 k s.heap a us)(q:Q (.ref s.heap.objs.size) {s with heap:=s.heap.push (o_ k a)}):wpAny (model P w) A (pyIter (.ref a)) Q E s:=by
 cases k
 . show YW h q
 . show Yr h q
def f7.push{k:SK}{g:Heap}(h:f7 k g a us)(o:Obj):f7 k (g.push o) a us:=by
 cases k
 . obtain⟨b,e,r⟩:=h;show⟨b,VJ _ e,r⟩
 . obtain⟨b,e,r⟩:=h;show⟨b,VJ _ e,r⟩
def f7.some{k:SK}{g:Heap}(h:f7 k g a us):∃o,g.get? a=Option.some o:=by
 cases k
 . obtain⟨b,e,r⟩:=h;show⟨b,e⟩
 . obtain⟨b,e,r⟩:=h;show⟨b,e⟩
def qk{k:SK}{g h:Heap}(e:g.get? t=Option.some (o_ k a)):lz k t a 0 g:=by
 cases k
 . show⟨_,e,rfl,rfl⟩
 . show⟨_,e,rfl,rfl⟩
def ip{k:SK}{g g':Heap}(h:lz k t a n g)(b:∀o,g.get? t=Option.some o->g'.get? t=Option.some o):lz k t a n g':=by
 cases k
 . obtain⟨o,e,r⟩:=h;show⟨o,b o e,r⟩
 . obtain⟨o,e,r⟩:=h;show⟨o,b o e,r⟩
def f_{k:SK}{g:Heap}(h:lz k t a n g):∃o,g.get? t=Option.some o/\∀v,o.data≠ .cell v:=by
 cases k
 . obtain⟨o,e,c,d⟩:=h;show⟨o,e,λv z=>by rw[d]at z;cases z⟩
 . obtain⟨o,e,c,d⟩:=h;show⟨o,e,λv z=>by rw[d]at z;cases z⟩
def TU(K:PySem.W.Frag)(d c:SK)(f e:Addr):It:=
 ⟨λi H=>∃b a x y,jD d K H f b/\jD c K H e a/\b[i]?=some x/\a[i]?=some y,
  λi H v g=>∃T x y,H T=none/\v= .ref T/\g=upd H T (.tup [x,y])/\(∀b,jD d K H f b->b[i]?=some x)/\∀a,jD c K H e a->a[i]?=some y,
  λi H=>∃b a,jD d K H f b/\jD c K H e a/\(b.length<=i\/a.length<=i)⟩
def SE(z d c f e l k:Addr)(j g:SK)(i:Nat)(h:Heap):Prop:=IsZip h z d c .none/\IsPair h d (.ref f) (.ref e)/\(∃a b,IsPair h c a b)/\lz j f l i h/\lz g e k i h
def KD{P:Program}{w:World}{K:PySem.W.Frag}{F:List Expr}{kx:Nat}{pos:Pos}{z t r n m J G:Addr}(Q O:SK)(D:Eu z t r n m J G):
 Turn P w K (.Tuple F kx pos) (TU K Q O J G) [z,t,r,n,m] z (SE z t r n m J G Q O) where
 mem:=by simp
 obj:=λi h d b c=>by
  obtain⟨Z,f,⟨a,S,g⟩,l,j⟩:=d;simp![V8,Wc,Yb]at c;rcases c with rfl|rfl|rfl|rfl|rfl
  . show⟨_,Z,λv e=>by cases e⟩
  . show⟨_,f,λv e=>by cases e⟩
  . show⟨_,g,λv e=>by cases e⟩
  . show f_ l
  . show f_ j
 keep:=λi h h' d k=>by
  obtain⟨Z,f,⟨a,S,g⟩,l,j⟩:=d;show⟨k z (by simp) _ Z,k t (by simp) _ f,⟨a,S,k r (by simp) _ g⟩,ip l (k n (by simp)),ip j (k m (by simp))⟩
 item:=by
  intro X hP hw hK hc i A s σ H E I R d hg;subst hP hw hK;obtain⟨Z,f,⟨a,S,g⟩,l,j⟩:=d;obtain⟨xs,ys,x,y,M,L,ex,ey⟩:=hg;obtain⟨V,Y,l1⟩:=e9 I M;obtain⟨U,W,l2⟩:=e9 I L;obtain⟨u,eu,ru⟩:=Y.get ex;obtain⟨v,ev,rv⟩:=W.get ey;let C:=D.a1;let B:=D.a2;simp![V8,YO,Wc,WY,Yx]at C B;obtain⟨⟨n1,n2,n3,n4⟩,⟨n5,n6,n7⟩,⟨n8,n9⟩,aU⟩:=D.n;let q:s.TypeIs (.ref z) "zip":=⟨_,Z,rfl⟩
  unfold pyNext;show VG (Za (W7 (name:=Str.ofString "__next__") q Yh (XE Yh q ZG (GV D (ib Q n J C.2.2.2.1 V.toArray) (ib O m G B.2.2.2.2 U.toArray) Z f g ⟨l,l1⟩ ⟨j,l2⟩ (x:=u) (y:=v) (by simpa using eu) (by simpa using ev) λk Z2 ag j1 j2 pT aH N=>VQ ⟨_,rfl,?_⟩) (Zv _))));show aaG (s:={s with heap:=k}) Z2 λk' Z3 p=>?_;let hT:s.heap.objs.size≠z:=Xa (VY Z)
  let ah:∀b o,b∉[z,t,r,n,m]->s.heap.get? b=some o->k'.get? b=some o:=λb o c e=>by
   simp![V8,YO,Wc,WY,Yx]at c;show p.extBut _ _ c.1 (N b o c.1 c.2.2.1 c.2.2.2.1 c.2.2.2.2 e)
  show⟨.ref s.heap.objs.size,upd H s.heap.objs.size (.tup [x,y]),EY (s:=s) (tk:=s.toks) I R ah (VL _) ?_,rfl,⟨s.heap.objs.size,x,y,I.aH.fresh (VL _),rfl,rfl,?_,?_⟩,?_,?_⟩
  . show⟨V1 rfl,[u,v],.cons ru (.cons rv .nil),?_⟩;show⟨_,p.extBut _ _ hT pT,rfl,_,rfl⟩
  . intro aA q';rw[nW I q' M];show ex
  . intro az q';rw[nW I q' L];show ey
  . show⟨Z3,p.extBut _ _ n1 (N _ _ n1 n5 n6 n7 f),⟨_,_,p.extBut _ _ n2 ag⟩,ip j1.1 λo e=>p.extBut _ _ n3 e,ip j2.1 λo e=>p.extBut _ _ n4 e⟩
  . intro b c
    let:b≠s.heap.objs.size:=by
     obtain⟨o,e,_⟩:∃o,s.heap.get? b=some o/\True:=by
      simp![V8,Wc,Yb]at c;rcases c with rfl|rfl|rfl|rfl|rfl
      . show⟨_,Z,trivial⟩
      . show⟨_,f,trivial⟩
      . show⟨_,g,trivial⟩
      . obtain⟨o,e,_⟩:=f_ l;show⟨o,e,trivial⟩
      . obtain⟨o,e,_⟩:=f_ j;show⟨o,e,trivial⟩
     show Wb (VY e)
    rw[aB this];show(R b c).1
 done:=by
  intro X hP hw hK hc i A s σ H E I R d hg;subst hP hw hK;obtain⟨Z,f,⟨a,S,g⟩,l,j⟩:=d;obtain⟨xs,ys,M,L,he⟩:=hg;obtain⟨V,Y,l1⟩:=e9 I M;obtain⟨U,W,l2⟩:=e9 I L;let e1:=Y.length;let e2:=W.length;let C:=D.a1;let B:=D.a2;simp![V8,YO,Wc,WY,Yx]at C B;let q:s.TypeIs (.ref z) "zip":=⟨_,Z,rfl⟩
  unfold pyNext;show VG (Za (W7 (name:=Str.ofString "__next__") q Yh (XE Yh q ZG (JY (I.ok.hd hc) D (ib Q n J C.2.2.2.1 V.toArray) (ib O m G B.2.2.2.2 U.toArray) Z f g ⟨l,l1⟩ ⟨j,l2⟩ ?_ λk e N hx=>?_) (Zv _))))
  . rcases he with h|h
    . left;simp;lia
    . right;simp;lia
  . obtain⟨o,ho,ar⟩:=hx;show VG (aaN (T:="StopIteration") (b:=true) ⟨o,ho,ar⟩ abd ?_);show VQ ⟨rfl,EV (s:=s) (tk:=s.toks) I R λb o c e=>?_⟩;simp![V8,YO,Wc,WY,Yx]at c;show N b o c.1 c.2.2.1 c.2.2.2.1 c.2.2.2.2 e
 self:=λ_ _ _ _ _ d h=>ZH d.1 h
abbrev AR(h:Heap)(k1:SK)(a1:Addr):Heap:=h.push (o_ k1 a1)
abbrev zF(h:Heap)(k1 k2:SK)(a1 a2:Addr):Heap:=(AR h k1 a1).push (o_ k2 a2)
abbrev Mj(h:Heap)(k1 k2:SK)(a1 a2:Addr):Heap:=(zF h k1 k2 a1 a2).push {cls:= .type "tuple",data:= .seq #[.ref h.objs.size,.ref (AR h k1 a1).objs.size]}
abbrev MY(h:Heap)(k1 k2:SK)(a1 a2:Addr):Heap:=(Mj h k1 k2 a1 a2).push {cls:= .type "tuple",data:= .seq #[.none,.none]}
abbrev DX(h:Heap)(k1 k2:SK)(a1 a2:Addr):Heap:=(MY h k1 k2 a1 a2).push {cls:= .type "zip",data:= .fields #[.none,.bool false,.bool false,.ref (zF h k1 k2 a1 a2).objs.size,.ref (Mj h k1 k2 a1 a2).objs.size]}
def Jl(b e:SK)(a c:Addr)(us vs:Array Value):Meets (Builtin.«zip.__new__» ⟨[.type "zip",.ref a,.ref c],[]⟩) (λ_ R s=>f7 b s.heap a us/\f7 e s.heap c vs/\
 R (.ok (.ret (.ref (MY s.heap b e a c).objs.size))) {s with heap:=DX s.heap b e a c}):=
 .of_wp λP w A R s h=>by
  obtain⟨j,g,d,tk,f⟩:=s;obtain⟨l,k,h⟩:=h;let i:=sub_zip;let m:f7 b (Shared.heap ⟨j,g,d,tk,f⟩) a us:=l;let L2:f7 e (Shared.heap ⟨j.push (o_ b a),g,d,tk,f⟩) c vs:=f7.push k _
  wp_walk using sE m,sE L2
  show⟨_,rfl,h⟩
def KN{s:Shared}{b e:Addr}(y:f7 a s.heap b us)(v:f7 d s.heap e vs)
 (q:∀g n,n=s.heap.objs.size->IsZip g (n+4) (n+2) (n+3) .none->IsPair g (n+2) (.ref n) (.ref (n+1))->IsPair g (n+3) .none .none->lz a n b 0 g->lz d (n+1) e 0 g->(∀c o,s.heap.get? c=some o->g.get? c=some o)->Q (.ref (n+4)) {s with heap:=g}):
 wpAny (model P w) A (call (.type "zip") [.ref b,.ref e]) Q E s:=by
 show callType_new F.called_zip (by decide) (F.typeCall_zip_2 _ _) (F.newCall_zip_2 _ _) (λt=>F.args_object_init_3 t _ _) F.entry_zip_new (Jl a d b e us vs) ⟨y,v,?_⟩;let j:(AR s.heap a b).objs.size=s.heap.objs.size+1:=WG ..;let i:(zF s.heap a d b e).objs.size=s.heap.objs.size+2:=by rw[WG,j]
 let f:(Mj s.heap a d b e).objs.size=s.heap.objs.size+3:=by rw[WG,i]
 let l:(MY s.heap a d b e).objs.size=s.heap.objs.size+4:=by rw[WG,f]
 let k:(DX s.heap a d b e).get? (MY s.heap a d b e).objs.size=some _:=V4 _ rfl;let m:(DX s.heap a d b e).get? (Mj s.heap a d b e).objs.size=some _:=VJ _ (V4 _ rfl);let p:(DX s.heap a d b e).get? (zF s.heap a d b e).objs.size=some _:=VJ _ (VJ _ (V4 _ rfl));let r:(DX s.heap a d b e).get? (AR s.heap a b).objs.size=some (o_ d e):=VJ _ (VJ _ (VJ _ (V4 _ (by cases d<;>rfl))));let u:(DX s.heap a d b e).get? s.heap.objs.size=some (o_ a b):=VJ _ (VJ _ (VJ _ (VJ _ (V4 _ (by cases a<;>rfl)))));change _/\_;rw[i,f,l]at k;rw[j,i]at p;rw[f]at m;rw[j]at r;rw[l];show⟨⟨_,k,rfl⟩,q _ _ rfl k p m (qk (h:=s.heap) u) (qk (h:=s.heap) r) λc o x=>VJ _ (VJ _ (VJ _ (VJ _ (VJ _ x))))⟩
def Cg:D->SK
 | .tup _=> .t
 |_=> .l
def yU(k:SK)(G:Hp)(a:Addr)(vs:List V):Prop:=match k with
 | .l=>Rd G a (.lst vs)
 | .t=>G a=some (.tup vs)
def eD{K:PySem.W.Frag}{k:SK}{G F H:Hp}(P:b_ G F H){a:Addr}{vs:List V}(h:yU k G a vs):jD k K H a vs:=by
 cases k
 . show .inl (fE P h)
 . show ji.of (P.get h)
def gc{α:List (Option Addr)}{H:Hp}{st:ae}{d:D}{v:V}{xs:List D}(S:aV α st H)(r:Rep α H d v)(e:items? st d=some xs):∃p vs,v= .ref p/\aF α H xs vs/\yU (Cg d) H p vs:=by
 cases d<;>try(cases e;done)
 . unfold items? at e;simp only at e;split at e
   . rename_i g q;cases e;obtain⟨a,f,vs,c,b⟩:=S.gL q;show⟨a,vs,dY f r,b,Rd.of c⟩
   . cases e
 . cases e;unfold Rep at r;obtain⟨a,vs,rfl,_,c,b⟩:=r;show⟨a,vs,rfl,b,c⟩
 . cases e;unfold Rep at r;obtain⟨a,vs,rfl,_,c,b⟩:=r;show⟨a,vs,rfl,b,c⟩
def iI(xs ys:List D):List D:=(xs.zip ys).map λp=> .tup [p.1,p.2]
def rm{xs ys:List D}:(iI xs ys).length=min xs.length ys.length:=by unfold iI;simp
def vw{xs ys:List D}{n:Nat}{d:D}(e:(iI xs ys)[n]?=some d):∃x y,xs[n]?=some x/\ys[n]?=some y/\d= .tup [x,y]:=by
 unfold iI at e;rw[V5]at e;cases q:(xs.zip ys)[n]? with
 |none=>rw[q]at e;cases e
 |some p=>
  rw[q]at e;cases e;rw[List.getElem?_zip_eq_some]at q;show⟨p.1,p.2,q.1,q.2,rfl⟩
def Ph{K:PySem.W.Frag}{t r:SK}{A z:Addr}{α:List (Option Addr)}{G:Hp}{ok:ae->Prop}{xs ys:List D}
 (h:∀f b a,Step α G f b->aV f a b->ok a->∃vs g,yU t b A vs/\yU r b z g/\aF f b xs vs/\aF f b ys g):vW (TU K t r A z) α G ok (iI xs ys) where
 stop:=λn f b C B a s P S o k=>by
  obtain⟨vs,g,p,m,j,i⟩:=h f b a s S o;rw[rm]at k;show⟨vs,g,eD P p,eD P m,?_⟩;let:=j.length;let:=i.length;lia
 go:=λn d f b C B a s P S o k=>by
  obtain⟨vs,g,p,m,j,i⟩:=h f b a s S o;obtain⟨x,y,L,J,rfl⟩:=vw k;obtain⟨v,ev,_⟩:=j.get L;obtain⟨u,q,_⟩:=i.get J;show⟨vs,g,v,u,eD P p,eD P m,ev,q⟩
 o4:=λn d f b C B a x O s P S o k y=>by
  obtain⟨vs,g,p,m,j,i⟩:=h f b a s S o;obtain⟨c,e,N,M,rfl⟩:=vw k;obtain⟨T,v,u,w,rfl,rfl,F,E⟩:=y;obtain⟨Q,ev,H⟩:=j.get N;obtain⟨R,q,I⟩:=i.get M;rw[F vs (eD P p)]at ev;rw[E g (eD P m)]at q;cases ev;cases q;let l:=(P.none w).1;show⟨upd b T (.tup [v,u]),Step.laid l,P.laid w,S.laid l,?_⟩;unfold Rep;show⟨T,[v,u],rfl,S.jW l,aW,?_⟩;unfold aF;show⟨v,[u],rfl,H.step (Step.laid l),?_⟩;unfold aF;show⟨u,[],rfl,I.step (Step.laid l),by unfold aF;rfl⟩
def Kx(ds:List D)(a:ae)(K:List D->(ae->Prop)->ae->Prop):Prop:=match ds with
 | [x,y]=>(match items? a x,items? a y with
   |some d,some c=>K (iI d c) (λb=>items? b x=some d/\items? b y=some c) a
   |_,_=>False)
 |_=>False
@[irreducible] def wX:List D->ae->(List D->(ae->Prop)->ae->Prop)->Prop:=Kx
def yG(t:DA):DI:=λσ b K=>t σ b λc a=>wX c a K
def OK{n c b:Nat}(f:c<n)(e:b<n):Eu (n+4) (n+2) (n+3) n (n+1) c b:=by
 let g:([n+4,n+2,n+3,n,n+1]:List Nat).Nodup:=by
  simp![XO,V8,YO,Wc,WY,Yx,List.nodup_nil];lia
 let d:∀a:Nat,a<n->a∉([n+4,n+2,n+3,n,n+1]:List Nat):=λa h=>by
  simp![V8,YO,Wc,WY,Yx];lia
 show⟨g,d c f,d b e⟩
def Q3{X:Cx}(hg:Gl X "zip")(hm:X.mg "zip"=none)(ha:PA X [a,b] (LA t))(hs:starEach [a,b] X.env=[(false,eval a X.env),(false,eval b X.env)])(l:starEach [b] X.env=[(false,eval b X.env)]):
 PI X (.Tuple r kx f) (.Call (.Name "zip" p) [a,b] [] pos) (LI (yG t)):=by
 intro j s σ H R I h;obtain⟨α,σd,st,K,G,F,P,RS,S,t,k⟩:=h;show Call_ (kZ I hg hm boot_zip (Xv (bZ (ha pos j s σ H (λC H1=>∃u e d c,Step α G e d/\b_ d F H1/\aV e c d/\aF e d u C/\wX u c K) I ⟨α,σd,st,_,G,F,P,RS,S,t,λu c q e d H1 C i w v J=>⟨u,e,d,c,i,w,v,J,q⟩⟩) λus i ⟨C,H1,z,rv,u,e,d,c,w1,w,v,J,q⟩=>?_) (by rw[hs,l]) (by rw[l];rfl)));unfold wX Kx at q;split at q
 . rename_i x y;split at q
   . rename_i xs ys ex ey;obtain⟨v1,v2,rfl,T,Q⟩:=nF J rfl;obtain⟨p1,ah,rfl,g1,c1⟩:=gc v T ex;obtain⟨p2,ag,rfl,g2,c2⟩:=gc v Q ey;obtain⟨u1,u2,rfl,E,D⟩:=vals2 rv;cases E;cases D;obtain⟨Y,_,V⟩:=e9 z (eD w c1);obtain⟨W,_,U⟩:=e9 z (eD w c2);show KN V U λg n L Z pI pO i1 i2 kp=>?_;obtain⟨o1,N⟩:=V.some;obtain⟨o2,M⟩:=U.some;show ZH (s:={i with heap:=g}) Z ?_;show⟨n+4,[n+4,n+2,n+3,n,n+1],_,_,H1,rfl,z.kept (t':=i.toks) kp,KD (Cg x) (Cg y) (OK (by rw[L];show VY N) (by rw[L];show VY M)),⟨Z,pI,⟨_,_,pO⟩,i1,i2⟩,λb hb=>?_,?_⟩
     . have m:i.heap.objs.size<=b:=by
        simp![V8,Wc,Yb]at hb;rcases hb with rfl|rfl|rfl|rfl|rfl<;>(rw[<-L];first|show VL _|show ZI _ _)
       show z.vH m (z.aH.fresh m)
     . show k _ _ c q _ e d H1 w1 w v (Ph λα' G' ar O S' o=>?_);obtain⟨aA,B,e1,f1,d1⟩:=gc S' (T.step O) o.1;obtain⟨az,A,e2,f2,d2⟩:=gc S' (Q.step O) o.2;cases e1;cases e2;show⟨B,A,d1,d2,f1,f2⟩
   . show q.elim
 . show q.elim
def wL{st:ae}{x y:D}{xs ys:List D}{K:List D->(ae->Prop)->ae->Prop}(ex:items? st x=some xs)(d:items? st y=some ys)(k:∀ok:ae->Prop,(∀a,items? a x=some xs->items? a y=some ys->ok a)->K (iI xs ys) ok st):wX [x,y] st K:=by
 unfold wX Kx;simp![ex,d];show k _ λa c b=>⟨c,b⟩
def Mg{X:Cx}{a b:Expr}{e:List Expr}{h:Nat}{c p pos:Pos}{g:DA}(j:Gl X "zip")(i:X.mg "zip"=none)(f:JA X [a,b] g)(hs:notStar a=true:=by rfl)(d:notStar b=true:=by rfl):JI X (.Tuple e h c) (.Call (.Name "zip" p) [a,b] [] pos) (yG g):=by
 unfold JI;unfold JA at f;show Q3 j i f (by rw[bP hs,bP d];rfl) (bP d)
def C3(f:Nat->Int):∀n,preSum f (n+1)=f 0+preSum (λi=>f (i+1)) n
 |0=>by change preSum f 0+f 0=f 0+0;change(0:Int)+f 0=f 0+0;lia
 |n+1=>by
  let h:=C3 f n;change preSum f (n+1)+f (n+1)=f 0+(preSum (λi=>f (i+1)) n+f (n+1));rw[h];lia
def DU:∀ns:List Int,preSum (λi=>ns.getD i 0) ns.length=ns.sum
 | []=>rfl
 |n::ns=>by
  rw[Wl,C3];let:(λi=>(n::ns).getD (i+1) 0)=λi=>ns.getD i 0:=by funext i;simp
  rw[this,DU ns,List.sum_cons];rfl
section
variable {X:Cx}
def Ac:eX:=λd b K=>match d with| [.lst a]=>(match mq a with|some c=>K (.int c.sum) b|none=>False)|_=>False
def mH:∀ {ns:List Int} {us:List Value},Vals (ns.map V.int) us->∀(i:Nat) (u:Value),us[i]?=some u->∃t,u=Value.int (ns.getD i 0) t
 | [],_,.nil,i,u,e=>by simp at e
 |n::ns,_,.cons h t,0,u,e=>by
  obtain⟨tk,rfl⟩:=h;simp at e;show⟨tk,by rw[<-e];rfl⟩
 |n::ns,_,.cons h t,i+1,u,e=>by
  obtain⟨tk,q⟩:=mH t i u (by simpa using e);show⟨tk,by rw[q];simp⟩
def S0(N:X.calm=true):bJ X (.builtin "sum") (fU Ac):=λB s σ H W Z Q I E ⟨α,ds,st,K,G,F',P,r,S,q,k⟩=>by
 unfold Ac at q;split at q
 . rename_i V;split at q
   . rename_i h e;obtain⟨v,rfl,y⟩:=gq r rfl;unfold Rep at y;obtain⟨a,Y,rfl,na,R,O⟩:=y;obtain⟨u,rfl,D⟩:=vals1 E;cases D;let L:=su O e;subst L;obtain⟨z,c,n,C,M,m⟩:=Inv.vD I (fE P R);let p:s.heap.IsList a c.toArray:=⟨_,m,rfl,n,rfl⟩
     show call_sum_walkAnyB (YW p ?_);let x:a≠s.heap.objs.size:=Wb (VY m);show⟨s.heap.objs.size,_,_,_,_,_,_,λi=>h.getD i 0,rfl,(Walks.list (A:=X.A.in1) (I.ok.hd N) _ a x c.toArray).toS,⟨⟨_,V4 _ rfl,rfl,rfl⟩,⟨_,VJ _ m,rfl,n,rfl⟩⟩,?_,?_,?_⟩
     . intro b l;rw[WG];simp![V8,Wc,Yb]at l;rcases l with rfl|rfl
       . show Wj _
       . show Wo (VY m)
     . intro i w J;obtain⟨t,e⟩:=mH C i w (by simpa using J);show .inl ⟨t,e⟩
     . intro f t' j
       let F:∀b o,s.heap.get? b=some o->f.heap.get? b=some o:=λb o q=>j.heap b o (by
        intro l;let:b=s.heap.objs.size:=by simpa using l
        show absurd (VY q) (by rw[this];show Xz _)) (VJ _ q)
       let T:f= {s with heap:=f.heap,toks:=f.toks}:=by
        let g:=j.gens;let d:=j.drawn;let o:=j.os;cases f;cases s
        simp_all
       let U:preSum (λi=>h.getD i 0) c.toArray.size=h.sum:=by
        let:c.toArray.size=h.length:=by rw[VW,<-M,VH]
        rw[this];show DU h
       rw[U,T];show⟨.int h.sum,H,I.kept (t':=f.toks) F,⟨t',rfl⟩,k.here P q S (by unfold Rep;rfl)⟩
   . show q.elim
 . show q.elim
@[irreducible] def A8:eX:=Ac
def L6(a:X.calm=true):bJ X (.builtin "sum") (fU A8):=by unfold A8;show S0 a
end
def ints_map:∀ns:List Int,mq (ns.map D.int)=some ns
 | []=>rfl
 |n::ns=>by simp[mq,ints_map ns]
def Pd{st:ae}{K:DK}{xs:List D}{ns:List Int}(h:mq xs=some ns)(k:K (.int ns.sum) st):A8 [.lst xs] st K:=by unfold A8 Ac;simp![h];show k
section
variable {X:Cx}{pos:Pos}
def MP{d e f:D}(r:aF α H ds xs)(q:ds=[d,e,f]):∃v u t,xs=[v,u,t]/\Rep α H d v/\Rep α H e u/\Rep α H f t:=by
 subst q;unfold aF at r;obtain⟨v,q,rfl,g,c⟩:=r;obtain⟨u,t,rfl,b,a⟩:=nF c rfl;show⟨v,u,t,rfl,g,b,a⟩
def nK(i j k:Nat):fI:=λd σ=>match d with| .tup [x,y,z]=>some (((σ.set i (some x)).set j (some y)).set k (some z))|_=>none
def KH{i j k:Nat}(h:PG X b (KL X.K 3 (o6 (jq i) (o6 (jq j) (o6 (jq k) Fe))))):PG X b (LG (nK i j k)):=PG.imp h λv σ H Q ⟨α,t,A,d,K,G,F,P,R,S,r,⟨u,e,q⟩,o⟩=>by
 unfold nK at e;split at e
 . rename_i x y z;cases e;unfold Rep at r;obtain⟨a,w,rfl,na,s,p⟩:=r;obtain⟨g,f,c,rfl,n,m,l⟩:=MP p rfl;show⟨a,_,rfl,.of (P.get s),rfl,g,_,rfl,f,_,rfl,c,_,rfl,rfl,o.here P q (((R.set i n).set j m).set k l) S⟩
 . cases e
def Sn{i j k n:Nat}{x y z:Str}{d c b:Pos}(r:X.calm=true)(a:X.N.Nodup)(g:Loc X.env.scope x:=by first|show Or.inl rfl|show Or.inr rfl)(q:X.fn x=true\/X.env.scope.names.lookup x=some .local:=by first|show .inl rfl|show .inr rfl)(f:Loc X.env.scope y:=by first|show Or.inl rfl|show Or.inr rfl)(p:X.fn y=true\/X.env.scope.names.lookup y=some .local:=by first|show .inl rfl|show .inr rfl)(e:Loc X.env.scope z:=by first|show Or.inl rfl|show Or.inr rfl)(o:X.fn z=true\/X.env.scope.names.lookup z=some .local:=by first|show .inl rfl|show .inr rfl)
 (m:X.N[i]?=some x:=by rfl) (l:X.N[j]?=some y:=by rfl) (h:X.N[k]?=some z:=by rfl):JG X (.Tuple [.Name x d,.Name y c,.Name z b] n pos) (nK i j k):=by
 unfold JG;show KH (Cs r (kh (nX a m g q) (kh (nX a l f p) (kh (nX a h e o) yw))))
def Ie{i j k:Nat}(h:fr[i]?=some none:=by rfl)(h':fr[j]?=some none:=by rfl)(a:fr[k]?=some none:=by rfl):gT fr (nK i j k):=λσ d g e=>by
 unfold nK at e;split at e
 . cases e;show⟨by rw[V0,V0,V0],λm x q=>?_⟩;by_cases f:m=i
   . subst f;show(ku h q).elim
   . by_cases c:m=j
     . subst c;show(ku h' q).elim
     . by_cases b:m=k
       . subst b;show(ku a q).elim
       . rw[VP (VO b),VP (VO c),VP (VO f)];show q
 . cases e
end
end L3
namespace L3
open PySem L2 PySem.SeqAt
open PySem.Spec hiding items?
open PyProof.Rows hiding St
section
variable {X:Cx}{pins:List (Addr×Obj)}{σ:L2.St}{H:Hp}{s:Shared}{α:List (Option Addr)}
def Eg{d e:D}(h:zC d=true)(g:zC e=true)(f:Rep α H d x)(c:Rep α H e y)(b:RelV x u)(a:RelV y v):RcNeAt A s u v (!cU d e):=by
 cases d<;>cases e<;>try(first|(cases h;done)|(cases g;done))
 all_goals(unfold Rep at f c;subst f c)
 all_goals(first|(obtain⟨t,rfl⟩:=b;obtain⟨i,rfl⟩:=a)|(obtain⟨t,rfl⟩:=b;cases a)|(cases b;obtain⟨t,rfl⟩:=a)|(cases b;cases a))
 all_goals unfold cU
 . show RcNeAt.none_none
 . show RcNeAt.none_bool _
 . show RcNeAt.none_int _ _
 . show RcNeAt.none_str _ _
 . show RcNeAt.bool_none _
 . show RcNeAt.bool_bool _ _
 . show RcNeAt.bool_int _ _ _
 . show RcNeAt.bool_str _ _ _
 . show RcNeAt.int_none _ _
 . show RcNeAt.int_bool _ _ _
 . show RcNeAt.int_int _ _ _ _
 . show RcNeAt.int_str _ _ _ _
 . show RcNeAt.str_none _ _
 . show RcNeAt.str_bool _ _ _
 . show RcNeAt.str_int _ _ _ _
 . show RcNeAt.str_str _ _ _ _
def y9(I:Inv X pins σ H s){A:Around}{e:D}(j:zC e=true)(h:Rep α H (.lst xs) x)(f:Rep α H e y)(g:RelV x u)(d:RelV y v)(b:A.units<cLine):
 RcNeAt A s u v (!cU (.lst xs) e)/\RcNeAt A s v u (!cU e (.lst xs)):=by
 obtain⟨a,k,i,rfl,_,_,c⟩:=lst_is I h g;cases e<;>try(cases j;done)
 all_goals(unfold Rep at f;subst f)
 all_goals(first|(obtain⟨t,rfl⟩:=d)|(cases d))
 all_goals unfold cU
 . show⟨RcNeAt.list_none c b,RcNeAt.none_list c b⟩
 . show⟨RcNeAt.list_bool _ c b,RcNeAt.bool_list _ c b⟩
 . show⟨RcNeAt.list_int _ _ c b,RcNeAt.int_list _ _ c b⟩
 . show⟨RcNeAt.list_str _ _ c b,RcNeAt.str_list _ _ c b⟩
def zd(I:Inv X pins σ H s){A:Around}{e:D}(j:zC e=true)(h:Rep α H (.tup xs) x)(f:Rep α H e y)(g:RelV x u)(d:RelV y v)(b:A.units<cLine):
 RcNeAt A s u v (!cU (.tup xs) e)/\RcNeAt A s v u (!cU e (.tup xs)):=by
 obtain⟨a,k,i,rfl,_,_,c⟩:=tup_is I h g;cases e<;>try(cases j;done)
 all_goals(unfold Rep at f;subst f)
 all_goals(first|(obtain⟨t,rfl⟩:=d)|(cases d))
 all_goals unfold cU
 . show⟨RcNeAt.tuple_none c b,RcNeAt.none_tuple c b⟩
 . show⟨RcNeAt.tuple_bool _ c b,RcNeAt.bool_tuple _ c b⟩
 . show⟨RcNeAt.tuple_int _ _ c b,RcNeAt.int_tuple _ _ c b⟩
 . show⟨RcNeAt.tuple_str _ _ c b,RcNeAt.str_tuple _ _ c b⟩
def RM(I:Inv X pins σ H s)(n:Nat)(A:Around)(d e:D)(x y:V)(u v:Value)(J:pl n d=true)(w:pl n e=true)(m:Rep α H d x)(l:Rep α H e y)(k:RelV x u)(i:RelV y v)(hu:A.units+n<cLine):RcNeAt A s u v (!cU d e):=by
 cases n with
 |zero=>
  show Eg ?_ ?_ m l k i
  . cases d<;>first|rfl|(cases J)
  . cases e<;>first|rfl|(cases w)
 |succ n=>
  have c:A.units<cLine:=by lia
  let K:A.in1.units+n<cLine:=by rw[Around.in1_units];lia
  cases d<;>try(cases J;done)
  case lst xs=>
   cases e<;>try(cases w;done)
   case lst ys=>
    obtain⟨a,M,f,rfl,E,B,t⟩:=lst_is I m k;obtain⟨b,L,h,rfl,C,z,r⟩:=lst_is I l i;let Z:=E.length;let Y:=B.length;let W:=C.length;let U:=z.length;unfold cU;by_cases g:xs.length=ys.length
    . rw[nZ g];let q:f.toArray.size=h.toArray.size:=by simp![VW];lia
      let Q:xs.length=f.toArray.size:=by simp![VW];lia
      rw[Q];show RcNeAt.lists t r q c λj T S=>?_;obtain⟨p,_,O,N⟩:=kB E B j (by simpa using T);obtain⟨P,_,G,F⟩:=kB C z j (by simpa using S);show(F_ I n A.in1 _ _ p P _ _ (jc (by unfold pl at J;show J) j) (jc (by unfold pl at w;show w) j) O G (by simpa using N) (by simpa using F) K).2
    . rw[n_ g];show RcNeAt.lists_lengths t r (by simp![VW,aaE,ne_eq];lia) c
   case tup ys=>
    obtain⟨a,M,f,rfl,E,B,t⟩:=lst_is I m k;obtain⟨b,L,h,rfl,C,z,r⟩:=tup_is I l i;unfold cU;show RcNeAt.list_tuple t r c
   all_goals show(y9 I rfl m l k i c).1
  case tup xs=>
   cases e<;>try(cases w;done)
   case tup ys=>
    obtain⟨a,M,f,rfl,E,B,t⟩:=tup_is I m k;obtain⟨b,L,h,rfl,C,z,r⟩:=tup_is I l i;let Z:=E.length;let Y:=B.length;let W:=C.length;let U:=z.length;unfold cU
    let o:=RcNeAt.tuples (e:=λj=>cU (xs.getD j .az) (ys.getD j .az)) t r c λj T S=>by
     obtain⟨p,_,O,N⟩:=kB E B j (by simpa using T);obtain⟨P,_,G,F⟩:=kB C z j (by simpa using S);show(F_ I n A.in1 _ _ p P _ _ (jc (by unfold pl at J;show J) j) (jc (by unfold pl at w;show w) j) O G (by simpa using N) (by simpa using F) K).2
    by_cases g:xs.length=ys.length
    . rw[nZ g];let q:f.toArray.size=h.toArray.size:=by simp![VW];lia
      let Q:xs.length=f.toArray.size:=by simp![VW];lia
      rw[q,abp,ZD,Bool.and_true,<-q,<-Q]at o;show o
    . rw[n_ g];let R:(f.toArray.size==h.toArray.size)=false:=by simp![VW,Ym,ne_eq];lia
      rw[R,aad]at o;show o
   case lst ys=>
    obtain⟨a,M,f,rfl,E,B,t⟩:=tup_is I m k;obtain⟨b,L,h,rfl,C,z,r⟩:=lst_is I l i;unfold cU;show RcNeAt.tuple_list t r c
   all_goals show(zd I rfl m l k i c).1
  all_goals
   cases e<;>try(cases w;done)
   case lst ys=>show(y9 I rfl l m i k c).2
   case tup ys=>show(zd I rfl l m i k c).2
   all_goals show Eg rfl rfl m l k i
def Ql:cZ:=λx y a K=>pl 40 x=true/\pl 40 y=true/\K (.bl (!cU x y)) a
def Sz{k:Nat}(g:cJ k X.A):bU X (compareOp .NotEq) (LR Ql):=λpins s σ H x y v u Q I b a ⟨α,d,e,h,K,G,j,P,f,c,S,q,k⟩=>by
 let i:=g.units;show RM I 40 X.A d e x y v u q.1 q.2.1 (f.mono P.same) (c.mono P.same) b a (by lia) _ _ _ _ ⟨.bl (!cU d e),H,I,rfl,k.here P q.2.2 S (by unfold Rep;rfl)⟩
@[irreducible] def vk:cZ:=Ql
def Mi{k:Nat}(a:cJ k X.A):bU X (compareOp .NotEq) (LR vk):=by unfold vk;show Sz a
end
def QP{st:ae}{K:DK}{d e:D}(b:pl 40 d=true)(a:pl 40 e=true)(k:K (.bl (!cU d e)) st):vk d e st K:=by unfold vk;show⟨b,a,k⟩
def Cd{st:ae}{K:DK}{d:D}(h:pl 40 d=true)(k:K (.bl false) st):vk d d st K:=QP h h (by rw[qU 40 d h];show k)
def tI{st:ae}{n:Nat}{xs:List D}(h:items? st (.ref n)=some xs):st[n]?=some (.lst xs):=by
 unfold items? at h;simp only at h;split at h
 . rename_i q;cases h;show q
 . cases h
def NG{st:ae}{d:D}{xs:List D}{K:List D->(ae->Prop)->ae->Prop}(h:items? st d=some xs)(k:∀ok:ae->Prop,(∀a,items? a d=some xs->ok a)->K xs ok st):pA d st K:=by
 cases d with
 |lst b=>cases h;show qh (k _ λ_ _=>trivial)
 |tup b=>cases h;show gZ (k _ λ_ _=>trivial)
 |ref n=>
  have e:=tI h;unfold pA yl;simp![e];show k _ λa c=>tI c
 |_=>cases h
end L3
namespace L3
open PySem L2
open PySem.Spec hiding items?
open PyProof.Rows hiding St
section
variable {X:Cx}
def MS:cZ:=λx y b K=>match x,y with
 | .lst a,.int k=>(-(2^63)<=k/\k<2^63/\a.length*k.toNat<=sizeLine)/\K (.ref b.length) (b++[.lst (List.replicate k.toNat a).flatten])
 |_,_=>False
def QA:bU X (binaryOp .Mult) (LR MS):=λb s σ H x y v u Q I j i ⟨α,d,e,n,K,G,o,P,g,f,S,q,k⟩=>by
 cases d<;>cases e<;>try show q.elim
 unfold Rep at g f;obtain⟨a,h,rfl,na,m,c⟩:=g;show Ec b s σ H _ _ v u Q I j i ⟨a,_,h,rfl,f,fE P m,q.1.1,q.1.2.1,by rw[<-c.length];show q.1.2.2,λp l=>?_⟩;show k.new P q.2 S (aX.mpr (mB (aX.mp c) _)) l
@[irreducible] def uh:cZ:=MS
def Iw:bU X (binaryOp .Mult) (LR uh):=by unfold uh;show QA
end
def D3{st:ae}{K:DK}{xs:List D}{i:Int}(h: -(2^63)<=i/\i<2^63/\xs.length*i.toNat<=sizeLine)(k:K (.ref st.length) (st++[.lst (List.replicate i.toNat xs).flatten])):uh (.lst xs) (.int i) st K:=by unfold uh;show⟨h,k⟩
def yR(h:d∈cM 0 n):∃i:Nat,i<n/\d= .int (i:Int):=by
 unfold cM at h;obtain⟨i,a,rfl⟩:=Wi.mp h;rw[WU]at a;show⟨i,a,by rw[YJ]⟩
def zo{f:Nat->D}(n:Nat):(cM 0 n).map (λd=>match d with| .int i=>f i.toNat|_=> .az)=(List.range n).map f:=by
 unfold cM;rw[Wr];show Wy λi _=>?_;change f ((0:Int)+(i:Int)).toNat=f i;let:((0:Int)+(i:Int)).toNat=i:=by lia
 rw[this]
def rp{e:fI}{h:DE}{b:bO}{st:ae}{K:List D->ae->Prop}(f:Nat->D)(n:Nat)(j:∀i:Nat,i<n->∀a,a (f i) st->∃c,e (.int (i:Int)) b=some c/\h c st a)(k:K ((List.range n).map f) st):cR e cy h (λ_=>True) b (cM 0 n) [] st K:=by
 show comp_map (g:=λd=>match d with| .int i=>f i.toNat|_=> .az) trivial _ (λd m a q=>?_) (by rw[zo];show k);obtain⟨i,l,rfl⟩:=yR m;show j i l a q
def i4{g:fI}{a:DS}{E:kG}(n:Nat)(I:Nat->bO->ae->Prop)(h:∀σ st,I n σ st->E.nx σ st)
 (e:∀(j:Nat) σ st (rest:List D),j<n->I j σ st->(∀k b,I (j+1) k b->fG g a (λ_=>True) E rest k b)->∃p,g (.int (j:Int)) σ=some p/\a {E with nx:=fG g a (λ_=>True) E rest,ct:=fG g a (λ_=>True) E rest,bk:=E.nx} p st)
 {σ:bO} {st:ae} (s:I 0 σ st):fG g a (λ_=>True) E (cM 0 n) σ st:=by
 show dS (λrest σ st=>∃j:Nat,j<=n/\rest=(List.range (n-j)).map (λi=>D.int (((j+i:Nat):Int)))/\I j σ st) ?_ ?_ _ _ _ ⟨0,V3 _,by unfold cM;simp,s⟩
 . rintro σ st ⟨j,r,c,o⟩
   let:n-j=0:=by
    cases q:n-j with
    |zero=>rfl
    |succ m=>rw[q,Wm]at c;cases c
   let l:j=n:=by lia
   subst l;show⟨trivial,h σ st o⟩
 . rintro d rest σ st ⟨j,r,c,o⟩ next
   cases q:n-j with
   |zero=>rw[q]at c;cases c
   |succ m=>
    rw[q,Wm,Wq,Wr]at c;simp![XQ]at c;obtain⟨rfl,f⟩:=c;show⟨trivial,e j σ st rest (by lia) o λk b t=>next k b ⟨j+1,by lia,?_,t⟩⟩;let:n-(j+1)=m:=by lia
    rw[this,f];show Wy λi _=>?_;change D.int (((j+(i+1):Nat):Int))=D.int (((j+1+i:Nat):Int));congr 2;lia
abbrev DM:=Nat->List D->ae->DK->Prop
def LiftM(r:DM)(b:V->List V->Hp->VK->Prop):Prop:=∀(α:List (Option Addr)) (G F H:Hp) (st:ae) (K:DK) (Q:VK) (n:Nat) (a:Addr) (ds:List D) (ws:List V),b_ G F H->aV α st G->α[n]?=some (some a)->aF α G ds ws->r n ds st K->LK α G F K Q->b (.ref a) ws H Q
@[irreducible] def qC(r:DM)(d:DE)(e:DA):DE:=λσ f K=>d σ f λx b=>match x with
 | .ref n=>(match b[n]? with|some (.lst _)=>e σ b λg a=>(∃c,a[n]?=some (.lst c))/\r n g a K|_=>False)
 |_=>False
section
variable {X:Cx}
def LE.UC(L:LiftM r m){g:DE}(h:LE (qC r g i) σ H Q):PC X.K "list" m (LE g) (LA i) σ H Q:=by
 obtain⟨α,f,E,K,G,F,P,R,S,t,k⟩:=h;unfold qC at t;show⟨α,f,E,_,G,F,P,R,S,t,λx c q B Z H1 v l y w J=>?_⟩;cases x<;>try show q.elim
 rename_i n;simp only at q;split at q
 . rename_i ys e;obtain⟨p,s,D,N,h2⟩:=w.gL e;let d:=dY s J;subst d;show⟨.inl ⟨rfl,D,.inl (.of (y.get N))⟩,B,f,c,_,Z,F,y,R.step l,w,q,?_⟩;rintro T b ⟨⟨xs,O⟩,M⟩ A Y W C j U u I;obtain⟨o,a,_⟩:=u.gL O
   let:o=p:=by
    rcases j.pre _ _ s with z|z<;>(rw[z]at a;cases a)
    rfl
   subst this;show L A Y F W b K Q n o T C U u a I M ((k.at l).at j)
 . show q.elim
def QH{r:DM}{m:V->List V->Hp->VK->Prop}{name:Str}{id:String}(L:LiftM r m)(slot:Slot "list" name id)(j:typeOf (.builtin id)=pure (.type "method_descriptor"))(p:Rv X id m){o e:Expr}{g:List Expr}{k:DE}{l:DA}{c a:Pos}(n:PE X o (LE k))(q:PA X (e::g) (LA l))
 (f:attributeBase o name X.env (eval o X.env)=eval o X.env) (i:((backTo a (starEach (e::g) X.env)).all (λx=> !x.1)&&(backToKw a (keywordEach [] X.env)).all (λx=>x.1.isSome)
   &&decide ((e::g).length+([]:List Keyword).length+(if([]:List Keyword).isEmpty then 0 else 1)<30))=true)
 (d:(c.endLine==a.line)=true) (hs:starEach (e::g) X.env=(false,eval e X.env)::starEach g X.env) (b:(backTo a (starEach g X.env)).any (·.1)=false):PE X (.Call (.Attribute o name c) (e::g) [] a) (LE (qC r k l)):=
 PE.imp (MN aaU slot j p n q f i d hs b) λ_ _ _ h=>LE.UC L h
end
abbrev zx:=D->bO->ae->(bO->ae->Prop)->Prop
inductive Rk(t:zx)(v:V)(σ:L2.St)(H:Hp)(Q:L2.St->Hp->Prop):Prop
 |mk (α:List (Option Addr)) (σd:bO) (st:ae) (d:D) (K:bO->ae->Prop) (G F:Hp) (P:b_ G F H) (R:d5 α G σd σ) (S:aV α st G) (r:Rep α G d v) (h:t d σd st K) (k:LC α G F K Q):Rk t v σ H Q
def Cb(t:zx):TG:=Rk t
def uw(e f:DE):zx:=λd σ g K=>e σ g λx c=>f σ c λy b=>vj x y d b λa=>K σ a
section
variable {X:Cx}{pos:Pos}
def Ip(h:PG X w (yC (LE t) (LE u) uk)):PG X w (Cb (uw t u)):=PG.imp h λv σ H Q ⟨α,f,I,d,K,G,F,P,R,S,r,q,k⟩=>by
 unfold uw vj at q;show⟨α,f,I,_,G,F,P,R,S,q,λx i M D W H2 v2 c U T L=>?_⟩;show⟨D,f,i,_,W,F,U,R.step c,T,M,λy E a s V H3 Z b P3 C A=>?_⟩;cases x<;>cases y<;>try show a.elim
 rename_i n N;unfold BX at a;simp only at a;split at a
 . rename_i Y e;split at a
   . rename_i j O;obtain⟨p,o,g,B,z⟩:=C.gL e;let l:=dY o (L.step b);subst l;unfold Rep at A;let m:some p∈s:=Wn o;let J:=(r.step c).step b;show⟨p,g,N,j,rfl,A,P3.get B,by rw[<-z.length];show O,?_⟩;show((k.at c).at b) f _ a s (upd V p (.lst (g.set j v))) _ σ (Step.write m) (P3.write B) (((R.step c).step b).step (Step.write m)) ?_;show C.write o ⟨g.set j v,aW,(aX.mpr (qY J j (aX.mp z))).step (Step.write m)⟩
   . show a.elim
 . show a.elim
def wy(t u:zx):zx:=λd σ c K=>match d with| .tup [x,y]=>t x σ c λb a=>u y b a K|_=>False
def OM(J:X.calm=true)(ha:PG X a (Cb t))(hb:PG X b (Cb u))(I:(assignEach [a,b] X.env).length=2)(e:(assignEach [a,b] X.env).findIdx? (·.1)=none)(f:G_ X [a,b] (o6 (Cb t) (o6 (Cb u) Fe))):
 PG X (.Tuple [a,b] E pos) (Cb (wy t u)):=PG.imp (Cs J f I e) λv σ H Q ⟨α,h,w,d,K,G,F,P,R,S,r,q,k⟩=>by
 unfold wy at q;split at q
 . rename_i x y;unfold Rep at r;obtain⟨p,vs,rfl,na,M,L⟩:=r;obtain⟨o,n,rfl,B,A⟩:=nF L rfl;show⟨p,_,rfl,.of (P.get M),rfl,o,_,rfl,α,h,w,x,_,G,F,P,R,S,B,q,λl c D m W H1 j g V T O=>?_⟩;show⟨n,_,rfl,m,l,c,y,_,W,F,V,T,O,A.step g,D,λY s C Z G2 H2 i z U R2 N=>?_⟩;show⟨rfl,((k.at g).at z).here U C R2 N⟩
 . show q.elim
def Ge(t:zx)(b:DE):DS:=λE σ c=>b σ c λd a=>t d σ a E.nx
def OE(h:PS X s (ni (LE c) (Cb t))):PS X s (LS (Ge t c)):=PS.imp h λD σ H ⟨α,b,g,o,G,F,P,R,S,q,k⟩=>
 ⟨α,b,g,_,G,F,P,R,S,q,λd a j f n H1 v e m l i=>⟨f,b,a,d,o.nx,n,F,m,R.step e,l,i,j,k.nx.at e⟩⟩
def Nq{b d a c e:Expr}{m:Nat}{g f h:Pos}{j l i k u:DE}(p:JE X b j)(r:JE X d l)(o:JE X a i)(q:JE X c k)(A:JE X e u)(B:X.calm=true:=by rfl)
 (hs:swapsWithSole [.Tuple [.Subscript b d g,.Subscript a c f] m h] e pos.line X.env=pure false:=by rfl) (y:swappedStores [.Tuple [.Subscript b d g,.Subscript a c f] m h] e X.env=pure none:=by rfl)
 (C:(assignEach [.Tuple [.Subscript b d g,.Subscript a c f] m h] X.env).map (·.2)=[assign (.Tuple [.Subscript b d g,.Subscript a c f] m h) X.env]:=by rfl) (z:(assignEach [.Subscript b d g,.Subscript a c f] X.env).length=2:=by rfl) (n:(assignEach [.Subscript b d g,.Subscript a c f] X.env).findIdx? (·.1)=none:=by rfl)
 (t:∀v,assign (.Subscript b d g) X.env v=(do
   let ov <-holding [v] (eval b X.env)
   let iv <-holding [v,ov] (eval d X.env)
   standAt g
   holding [v,ov,iv] (setItem ov iv v)
   release [v,ov,iv] []):=by intro _;rfl) (s:∀v,assign (.Subscript a c f) X.env v=(do
   let ov <-holding [v] (eval a X.env)
   let iv <-holding [v,ov] (eval c X.env)
   standAt f
   holding [v,ov,iv] (setItem ov iv v)
   release [v,ov,iv] []):=by intro _;rfl):
 JS X (.Assign [.Tuple [.Subscript b d g,.Subscript a c f] m h] e pos) (Ge (wy (uw j l) (uw i k)) u):=by
 unfold JS;unfold JE at*;let x:=Ip (wm p r set_list t);let w:=Ip (wm o q set_list s);show OE (BA A (OM B x w z n (kh x (kh w yw))) hs y C)
end
section
variable {X:Cx}
def yh(r:RelV x v)(h:Q (.bool (!(v== .bool b))) s):wpAny M A (compareOp .IsNot v (.bool b)) Q E s:=by
 cases x
 case bl c=>
  cases r;cases c<;>cases b<;>show VQ h
 all_goals first
  |(cases r;show VQ h)
  |(obtain⟨t,rfl⟩:=r;show VQ h)
def Bb:cZ:=λx y a K=>match y with| .az=>live a x=true/\K (.bl (!MV x)) a| .bl b=>live a x=true/\K (.bl (!GF x b)) a|_=>False
def Kv:bU X (compareOp .IsNot) (LR Bb):=λa s σ H x y v u Q I c g ⟨α,d,e,i,K,G,l,P,h,f,S,q,k⟩=>by
 cases e<;>try show q.elim
 . show OL a s σ H x y v u Q I c g ⟨α,d,.az,i,K,G,l,P,h,f,S,⟨q.1,?_⟩,k⟩;let j:=q.2;cases d<;>show j
 . rename_i b;unfold Rep at f;subst f;cases g;show yh c ?_;rw[D7 S q.1 h c];show⟨.bl (!GF d b),H,I,rfl,k.here P q.2 S (by unfold Rep;rfl)⟩
@[irreducible] def uF:cZ:=Bb
def wY:bU X (compareOp .IsNot) (LR uF):=by unfold uF;show Kv
end
section
variable {st:ae}{K:DK}{d:D}{b:Bool}
def Ir(h:live st d=true)(k:K (.bl (!MV d)) st):uF d .az st K:=by unfold uF;show⟨h,k⟩
end
section
variable {X:Cx}
def N0{c d e:TE}(j:PE X (.ListComp b gs f p) e)(g:PE X o c)(h:PE X i d)(k:j_ i=true:=by rfl):PS X (.Assign [.Subscript o i a] (.ListComp b gs f p) pos) (ni e (yC c d uk)):=
 BA j (wm g h set_list (by intro v;cases i<;>first|rfl|cases k)) (by unfold swapsWithSole swapsWith;rfl) rfl rfl
def Il{e c d:DE}(j:JE X (.ListComp b gs f p) e)(g:JE X o c)(h:JE X i d)(k:j_ i=true:=by rfl):JS X (.Assign [.Subscript o i a] (.ListComp b gs f p) pos) (eQ c d e):=by
 unfold JS;unfold JE at*;show BY (N0 j g h k)
end
end L3
namespace L3
open PySem L2
open PySem.Spec hiding items?
open PyProof.Rows hiding St
open AutoSeq1 (wpAny_loadPart')
def Nm{A:Around}(m:A.handled=none)(k:SK)(t a:Addr)(c:a≠t)(us:Array Value):Draws P w A t [t,a] us.size (λi v=>us[i]?=some v) (λn g=>lz k t a n g/\f7 k g a us) where
 live:=λi h z=>((ib (P:=P) (w:=w) k t a c us).lv i h z).1
 frame:=λi h r z l=>(ib (P:=P) (w:=w) k t a c us).fr i h r z λb p o e=>l b (by rcases p with rfl|rfl<;>simp) o e
 item:=λi s Q E d z q=>(ib (P:=P) (w:=w) k t a c us).nx i A s Q E us[i] z (by simp[d]) λg j f=>q _ g s.toks (by simp[d]) j f
 done:=λs Q E z q=>(ib (P:=P) (w:=w) k t a c us).en us.size A s Q E m z (by simp) q
def qK(l:Addr)(items:Array Value)(n:Nat)(e:Option Addr)(j:Array (Option Value)):
 Meets (Builtin.«enumerate.__new__» ⟨[.type "enumerate",.ref l],[]⟩) (λ_ R s=>s.heap.get? l=some {cls:= .type "tuple",dict:=e,data:= .seq items n,slots:=j}/\
  R (.ok (.ret (.ref (s.heap.push {cls:= .type "tuple_iterator",data:= .fields #[.ref l,.int 0 0]}).objs.size)))
   {s with heap:=(s.heap.push {cls:= .type "tuple_iterator",data:= .fields #[.ref l,.int 0 0]}).push {cls:= .type "enumerate",data:= .fields #[.none,.bool false,.ref s.heap.objs.size,rawInt 0,.none,.none]}}):=
 .of_wp λf w A R s h=>by
  obtain⟨m,g,d,tk,k⟩:=s;obtain⟨a,h⟩:=h;let i:=sub_enumerate;let b:Heap.IsTuple (Shared.heap ⟨m,g,d,tk,k⟩) l items:=⟨_,a,rfl,n,rfl⟩
  wp_walk using wpAny_loadPart' a
  show wpAny_stack_any λo=>VQ ?_;split
  . rename_i c _ _ _ _ _;cases (c==Value.type "enumerate")
    . wp_walk using wpAny_loadPart' a,Yr b
      show⟨_,rfl,h⟩
    . wp_walk using wpAny_loadPart' a,Yr b
      show⟨_,rfl,h⟩
  . wp_walk using wpAny_loadPart' a,Yr b
    show⟨_,rfl,h⟩
def IX{s:Shared}{k:SK}(c:f7 k s.heap a us)
 (q:∀g,IsEnum g (s.heap.objs.size+1) s.heap.objs.size 0 .none->lz k s.heap.objs.size a 0 g->(∀b o,s.heap.get? b=some o->g.get? b=some o)->Q (.ref (s.heap.objs.size+1)) {s with heap:=g}):
 wpAny (model P w) A (call (.type "enumerate") [.ref a]) Q E s:=by
 cases k
 . show call_enumerate_list c λg t r _ p=>q g t r p
 . obtain⟨⟨c,h,u,l⟩,m,f,n,e⟩:=c;replace f:c= .type "tuple":=f;replace e:u= .seq us n:=e;subst f e
   show callType_new F.called_enumerate (by decide) (F.typeCall_enumerate_1 _) (F.newCall_enumerate_1 _) (λd=>F.args_object_init_2 d _) F.entry_enumerate_new
    (qK a us n h l) ⟨m,?_⟩
   let i:(s.heap.push {cls:= .type "tuple_iterator",data:= .fields #[.ref a,.int 0 0]}).objs.size=s.heap.objs.size+1:=WG ..;change _/\_;rw[i]
   let j:IsEnum ((s.heap.push {cls:= .type "tuple_iterator",data:= .fields #[.ref a,.int 0 0]}).push
    {cls:= .type "enumerate",data:= .fields #[.none,.bool false,.ref s.heap.objs.size,rawInt 0,.none,.none]}) (s.heap.objs.size+1) s.heap.objs.size 0 .none:=by
    let:=V4 (s.heap.push {cls:= .type "tuple_iterator",data:= .fields #[.ref a,.int 0 0]})
     (o:={cls:= .type "enumerate",data:= .fields #[.none,.bool false,.ref s.heap.objs.size,rawInt 0,.none,.none]}) rfl
    rw[i]at this;show this
   show⟨⟨_,j,rfl⟩,q _ j ⟨_,VJ _ (V4 _ rfl),rfl,rfl⟩ λb o x=>VJ _ (VJ _ x)⟩
def T4(K:PySem.W.Frag)(k:SK)(a:Addr):It:=
 ⟨λi H=>∃b x,jD k K H a b/\b[i]?=some x,
  λi H v c=>∃T x,H T=none/\v= .ref T/\c=upd H T (.tup [.int (i:Int),x])/\∀b,jD k K H a b->b[i]?=some x,
  λi H=>∃b,jD k K H a b/\b.length<=i⟩
def Ug(e t a:Addr)(k:SK)(i:Nat)(h:Heap):Prop:=(∃b,IsEnum h e t i b)/\lz k t a i h
def Ih{P:Program}{w:World}{K:PySem.W.Frag}{q:List Expr}{kx:Nat}{pos:Pos}{e t a:Addr}(k:SK)(J:e≠t)(n2:a≠e)(n3:a≠t):
 Turn P w K (.Tuple q kx pos) (T4 K k a) [e,t] e (Ug e t a k) where
 mem:=by simp
 obj:=λi h f b c=>by
  obtain⟨⟨j,d⟩,l⟩:=f;simp![V8,Wc,Yb]at c;rcases c with rfl|rfl
  . show⟨_,d,λv z=>by cases z⟩
  . show f_ l
 keep:=λi h h' f C=>by
  obtain⟨⟨j,d⟩,l⟩:=f;show⟨⟨j,C e (by simp) _ d⟩,ip l (C t (by simp))⟩
 item:=by
  intro X Y N Z V i p s σ H E I D f R;subst Y N Z;obtain⟨⟨j,d⟩,l⟩:=f;obtain⟨xs,x,B,ex⟩:=R;obtain⟨m,G,L⟩:=e9 I B;obtain⟨u,eu,ru⟩:=G.get ex
  let Q:i<m.toArray.size:=by
   let:=(VI.mp eu).1;simpa using this
  show wpAny_pyNext_enum_itemD (Nm (A:=X.A.in1) (show X.A.in1.handled=none from I.ok.hd V) k t a n3 m.toArray) d ⟨l,L⟩ Q J (by simp![V8,Wc,Yb,YO];show⟨J,VO n2⟩) λy h' tk py O hs hT ah C=>⟨_,rfl,?_⟩
  let hy:y=u:=by
   let:m[i]?=some y:=by simpa using py
   rw[eu]at this;cases this;rfl
  subst hy;show wpAny_letOwnedTupleGo_enum (s:={s with heap:=h',toks:=tk+1}) O λk' S n=>?_;let W:s.heap.objs.size≠e:=Xa (VY d)
  let M:∀b o,b∉[e,t]->s.heap.get? b=some o->k'.get? b=some o:=λb o c r=>by
   simp![V8,YO,Wc,WY,Yx]at c;show n.extBut _ _ c.1 (C b o c.1 c.2 r)
  show⟨.ref s.heap.objs.size,upd H s.heap.objs.size (.tup [.int (i:Int),x]),EY (s:=s) (tk:=tk+1) I D M (VL _) ?_,rfl,⟨s.heap.objs.size,x,I.aH.fresh (VL _),rfl,rfl,?_⟩,?_,?_⟩
  . show⟨V1 rfl,[.int (i:Int) tk,y],.cons ⟨tk,rfl⟩ (.cons ru .nil),?_⟩;show⟨_,n.extBut _ _ W hT,rfl,_,rfl⟩
  . intro ag q';rw[nW I q' B];show ex
  . show⟨⟨_,by simpa using S⟩,ip hs.1 λo eo=>n.extBut _ _ (VO J) eo⟩
  . intro b c
    let:b≠s.heap.objs.size:=by
     obtain⟨o,r⟩:∃o,s.heap.get? b=some o:=by
      simp![V8,Wc,Yb]at c;rcases c with rfl|rfl
      . show⟨_,d⟩
      . obtain⟨o,eo,_⟩:=f_ l;show⟨o,eo⟩
     show Wb (VY r)
    rw[aB this];show(D b c).1
 done:=by
  intro X Y N Z V i p s σ H E I D f R;subst Y N Z;obtain⟨⟨j,d⟩,l⟩:=f;obtain⟨xs,B,ar⟩:=R;obtain⟨m,G,L⟩:=e9 I B;let e1:=G.length;let tz:s.TypeIs (.ref e) "enumerate":=⟨_,d,rfl⟩
  unfold pyNext;show VG (Za (W7 (name:=Str.ofString "__next__") tz F.slot_enumerate_next (XE F.slot_enumerate_next tz F.entry_enumerate_next ?_ (F.args_enumerate_next_1 _))));change wpAny _ _ (field (.ref e) 2 >>= _) _ _ _;show VG (WI d rfl (x:= .ref t) rfl ?_);show VG ((ib k t a n3 m.toArray).en i _ s _ _ (I.ok.hd V) ⟨l,L⟩ (by simp;lia) λg x n hx=>?_);obtain⟨o,O,U⟩:=hx;show VG (aaN (T:="StopIteration") (b:=true) ⟨o,O,U⟩ abd ?_);show VQ ⟨rfl,EV (s:=s) (tk:=s.toks) I D λb o c r=>?_⟩;simp![V8,YO,Wc,WY,Yx]at c;show n b o c.2 r
 self:=λ_ _ _ _ _ f h=>wpAny_pyIter_enum f.1.choose_spec h
def dE:Nat->List D->List D
 |_,[]=>[]
 |i,x::xs=> .tup [.int (i:Int),x]::dE (i+1) xs
def kl:∀ {xs:List D} {i:Nat},(dE i xs).length=xs.length
 | [],_=>rfl
 |_::xs,i=>by unfold dE;rw[Wl,Wl,kl]
def pe:∀ {xs:List D} {i n:Nat} {d:D},(dE i xs)[n]?=some d->∃x,xs[n]?=some x/\d= .tup [.int ((i+n:Nat):Int),x]
 | [],_,_,_,e=>by unfold dE at e;cases e
 |x::xs,i,0,d,e=>by
  unfold dE at e;rw[aaV]at e;cases e;show⟨x,rfl,rfl⟩
 |x::xs,i,n+1,d,e=>by
  unfold dE at e;rw[Xx]at e;obtain⟨y,b,a⟩:=pe e;show⟨y,by rw[Xx];show b,?_⟩;rw[a,show i+1+n=i+(n+1) by lia]
def Nx{K:PySem.W.Frag}{k:SK}{a:Addr}{α:List (Option Addr)}{G:Hp}{ok:ae->Prop}{xs:List D}
 (h:∀f e b,Step α G f e->aV f b e->ok b->∃vs,yU k e a vs/\aF f e xs vs):vW (T4 K k a) α G ok (dE 0 xs) where
 stop:=λn f e q p b s P S o i=>by
  obtain⟨vs,j,g⟩:=h f e b s S o;rw[kl]at i;show⟨vs,eD P j,?_⟩;let:=g.length;lia
 go:=λn d f e q p b s P S o i=>by
  obtain⟨vs,j,g⟩:=h f e b s S o;obtain⟨x,u,rfl⟩:=pe i;obtain⟨v,ev,_⟩:=g.get u;show⟨vs,v,eD P j,ev⟩
 o4:=λn d f e q p b x z s P S o i y=>by
  obtain⟨vs,j,g⟩:=h f e b s S o;obtain⟨c,w,rfl⟩:=pe i;obtain⟨T,v,m,rfl,rfl,r⟩:=y;obtain⟨A,ev,t⟩:=g.get w;rw[r vs (eD P j)]at ev;cases ev;let l:=(P.none m).1;show⟨upd e T (.tup [.int (n:Int),v]),Step.laid l,P.laid m,S.laid l,?_⟩;unfold Rep;show⟨T,[.int (n:Int),v],rfl,S.jW l,aW,?_⟩;unfold aF;show⟨.int (n:Int),[v],rfl,?_,?_⟩
  . unfold Rep;rw[XX]
  unfold aF;show⟨v,[],rfl,t.step (Step.laid l),by unfold aF;rfl⟩
def Fx(ds:List D)(a:ae)(K:List D->(ae->Prop)->ae->Prop):Prop:=match ds with
 | [x]=>(match items? a x with
   |some c=>K (dE 0 c) (λb=>items? b x=some c) a
   |_=>False)
 |_=>False
@[irreducible] def sH:List D->ae->(List D->(ae->Prop)->ae->Prop)->Prop:=Fx
def o5(t:DA):DI:=λσ b K=>t σ b λc a=>sH c a K
def GU:bootBuiltins "enumerate"=some (.type "enumerate"):=by decide+kernel
def Oo{X:Cx}(hg:Gl X "enumerate")(hm:X.mg "enumerate"=none)(ha:PA X [a] (LA t))(hs:starEach [a] X.env=[(false,eval a X.env)]):
 PI X (.Tuple n kx i) (.Call (.Name "enumerate" p) [a] [] pos) (LI (o5 t)):=by
 intro j s σ H R I h;obtain⟨α,N,U,K,G,F,P,RS,S,t,k⟩:=h;show Call_ (kZ I hg hm GU (Xv (bZ (ha pos j s σ H (λz H1=>∃r f e c,Step α G f e/\b_ e F H1/\aV f c e/\aF f e r z/\sH r c K) I ⟨α,N,U,_,G,F,P,RS,S,t,λr c q f e H1 z d v u B=>⟨r,f,e,c,d,v,u,B,q⟩⟩) λus d ⟨z,H1,w,W,r,f,e,c,O,v,u,B,q⟩=>?_) (by rw[hs];rfl) (by rfl)));unfold sH Fx at q;split at q
 . rename_i x;split at q
   . rename_i xs ex;obtain⟨v1,rfl,D⟩:=gq B rfl;obtain⟨Z,Q,rfl,g1,c1⟩:=gc u D ex;obtain⟨u1,rfl,A⟩:=vals1 W;cases A;obtain⟨J,_,E⟩:=e9 w (eD v c1);show IX E λg L i1 kp=>?_;obtain⟨o1,C⟩:=E.some;let l:Z<d.heap.objs.size:=VY C;show wpAny_pyIter_enum (s:={d with heap:=g}) L ?_;show⟨d.heap.objs.size+1,[d.heap.objs.size+1,d.heap.objs.size],_,_,H1,rfl,w.kept (t':=d.toks) kp,Ih (Cg x) (Xa (Wj _)) (Wb (Wo l)) (Wb l),⟨⟨_,L⟩,i1⟩,λb M=>?_,?_⟩
     . have m:d.heap.objs.size<=b:=by
        simp![V8,Wc,Yb]at M;rcases M with rfl|rfl
        . show aa2 _
        . show VL _
       show w.vH m (w.aH.fresh m)
     . show k _ _ c q _ f e H1 O v u (Nx λα' G' T V S' o=>?_);obtain⟨Y,y,e1,f1,d1⟩:=gc S' (D.step V) o;cases e1;show⟨y,d1,f1⟩
   . show q.elim
 . show q.elim
def nP{st:ae}{x:D}{xs:List D}{K:List D->(ae->Prop)->ae->Prop}(ex:items? st x=some xs)(k:∀ok:ae->Prop,(∀a,items? a x=some xs->ok a)->K (dE 0 xs) ok st):sH [x] st K:=by
 unfold sH Fx;simp![ex];show k _ λa b=>b
def BW{X:Cx}{e:DA}(h:Gl X "enumerate")(g:X.mg "enumerate"=none)(d:JA X [a] e)(hs:notStar a=true:=by rfl):JI X (.Tuple c f b) (.Call (.Name "enumerate" p) [a] [] pos) (o5 e):=by
 unfold JI;unfold JA at d;show Oo h g d (bP hs)
end L3
namespace L3
open PySem L2
open PySem.Spec hiding items?
open PyProof.Rows hiding St
section
variable {X:Cx}
def Mc:cZ:=λx y c K=>match x,y with
 | .lst b,.lst a=>b.length+a.length<=sizeLine/\K (.ref c.length) (c++[.lst (b++a)])
 |_,_=>False
def Rl:bU X (binaryOp .Add) (LR Mc):=λc s σ H x y v u Q I n m ⟨α,d,e,w,K,G,z,P,i,h,S,q,k⟩=>by
 cases d<;>cases e<;>try show q.elim
 unfold Rep at i h;obtain⟨a,l,rfl,na,t,g⟩:=i;obtain⟨b,j,rfl,nb,r,f⟩:=h;show D2 c s σ H _ _ v u Q I n m ⟨a,b,l,j,rfl,rfl,fE P t,fE P r,by rw[<-g.length,<-f.length];show q.1,λp o=>?_⟩;show k.new P q.2 S (aX.mpr (fF (aX.mp g) (aX.mp f))) o
@[irreducible] def wJ:cZ:=Mc
def HC:bU X (binaryOp .Add) (LR wJ):=by unfold wJ;show Rl
end
def N5{st:ae}{K:DK}{xs ys:List D}(h:xs.length+ys.length<=sizeLine)(k:K (.ref st.length) (st++[.lst (xs++ys)])):wJ (.lst xs) (.lst ys) st K:=by unfold wJ;show⟨h,k⟩
end L3
namespace L3
open PySem L2
open PySem.Spec hiding items?
open PyProof.Rows hiding St
open PySem PySem.Spec L2 PySem.SeqAt
end L3
namespace L3
open PySem L2
open PySem.Spec hiding items?
open PyProof.Rows hiding St
abbrev fh(h:Heap)(T:Addr)(a b c:Value):Prop:=h.get? T=some {cls:= .type "tuple",data:= .seq #[a,b,c]}
section
variable {P:Program}{w:World}
def eW{s:Shared}{k:Nat}(d:fh s.heap T a b c)
 (h:∀h',h'.get? T=some {cls:= .type "tuple",data:= .seq ((#[a,b,c]:Array Value).setIfInBounds k x)}->Heap.SameBut T s.heap h'->Q () {s with heap:=h'}):
 wpAny (model P w) A (updateSeq T (·.setIfInBounds k x)) Q E s:=by
 show wpAny_updateSeq d rfl (h _ ?_ (Xb ..));rw[Y0 _ d rfl];simp[Obj.mapSeq]
structure MJ(z ti to t1 t2 t3 a1 a2 a3:Nat):Prop where
 f:(ti≠z/\to≠z/\t1≠z/\t2≠z/\t3≠z)/\(ti≠to/\ti≠t1/\ti≠t2/\ti≠t3)/\(to≠t1/\to≠t2/\to≠t3)/\(t1≠t2/\t1≠t3/\t2≠t3)
 a1:a1≠z/\a1≠to/\a1≠t1/\a1≠t2/\a1≠t3
 a2:a2≠z/\a2≠to/\a2≠t1/\a2≠t2/\a2≠t3
 a3:a3≠z/\a3≠to/\a3≠t1/\a3≠t2/\a3≠t3
section
variable {z ti to t1 t2 t3 a1 a2 a3:Addr}
def He{A:Around}{s:Shared}{E:Value->Shared->Prop}{J1 J2 J3:Nat->Heap->Prop}{us vs ws:Array Value}{n:Nat}{x y u a b c:Value}{Q:Value->Shared->Prop}(D:MJ z ti to t1 t2 t3 a1 a2 a3)(p:Src P w t1 a1 J1 us)(m:Src P w t2 a2 J2 vs)(l:Src P w t3 a3 J3 ws)
 (Z:IsZip s.heap z ti to .none) (pI:fh s.heap ti (.ref t1) (.ref t2) (.ref t3)) (pO:fh s.heap to a b c) (j1:J1 n s.heap) (j2:J2 n s.heap) (j3:J3 n s.heap) (ex:us[n]?=some x) (ey:vs[n]?=some y) (ez:ws[n]?=some u)
 (q:∀k,IsZip k z ti to (rawInt s.heap.objs.size)->fh k to x y u->J1 (n+1) k->J2 (n+1) k->J3 (n+1) k->fh k s.heap.objs.size x y u->k.objs.size=s.heap.objs.size+1->
   (∀c o,c≠z->c≠to->c≠t1->c≠t2->c≠t3->s.heap.get? c=some o->k.get? c=some o)->Q (.ref s.heap.objs.size) {s with heap:=k}):
 wpAny (model P w) A (Builtin.«zip.__next__» ⟨[.ref z],[]⟩) (λa8 s'=>∃v,a8= .done (.ret v)/\Q v s') E s:=by
 obtain⟨⟨n1,S,n3,n4,B⟩,⟨n5,n6,n7,bb⟩,⟨n8,n9,h⟩,V,U,T⟩:=D.f;obtain⟨p1,p2,p3,p4,p5⟩:=D.a1;obtain⟨q1,q2,q3,q4,q5⟩:=D.a2;obtain⟨r1,r2,r3,r4,r5⟩:=D.a3;change wpAny _ _ (field (.ref z) 2 >>= _) _ _ _;show VG (WI Z rfl (x:= .bool false) rfl ?_);change wpAny _ _ (field (.ref z) 3 >>= _) _ _ _;show VG (WI Z rfl (x:= .ref ti) rfl ?_);show VG (WM pI rfl ?_);change wpAny _ _ (Builtin.SmallTypes.ownedTupleIsFree (.ref z) >>= _) _ _ _;show VG ?_;unfold Builtin.SmallTypes.ownedTupleIsFree;show VG (WI Z rfl (x:= .none) rfl (VQ ?_));simp![Yv];show VG (Zo ?_);show VG (WI Z rfl (x:= .ref to) rfl ?_);show VG (WT Z (by simp) λk1 Z1 M=>?_);replace Z1:IsZip k1 z ti to .ellipsis:=Z1;show VG ?_;simp![ZF,ZV,Ze,Zn];show VG (VG (X7 ?_));change wpAny _ _ (Builtin.SmallTypes.nextOf (.ref t1) >>= _) _ _ _;show VG (p.nx n _ _ _ _ x (p.ext j1 M.extBut (VO n3) (VO p1)) ex λk2 a4 L=>VQ ?_);let R:fh k2 to a b c:=L.extBut _ _ n8 (M.extBut _ _ S pO);show VG (WM R rfl ?_);show VG (eW R λk3 t K=>?_);replace t:fh k3 to x b c:=t;show VG (YE (VQ ?_));show VG (VG (X7 ?_));change wpAny _ _ (Builtin.SmallTypes.nextOf (.ref t2) >>= _) _ _ _;let aU:J2 n k3:=m.ext (m.ext (m.ext j2 M.extBut (VO n4) (VO q1)) L.extBut V (VO q3)) K.extBut n9 (VO q2);show VG (m.nx n _ _ _ _ y aU ey λk4 aH J=>VQ ?_);let O:fh k4 to x b c:=J.extBut _ _ n9 t;show VG (WM O rfl ?_);show VG (eW O λk5 r I=>?_);replace r:fh k5 to x y c:=r;show VG (YE (VQ ?_));show VG (VG (X7 ?_));change wpAny _ _ (Builtin.SmallTypes.nextOf (.ref t3) >>= _) _ _ _;let az:J3 n k5:=l.ext (l.ext (l.ext (l.ext (l.ext j3 M.extBut (VO B) (VO r1)) L.extBut U (VO r3)) K.extBut h (VO r2)) J.extBut T (VO r4)) I.extBut h (VO r2);show VG (l.nx n _ _ _ _ u az ez λk6 ar H=>VQ ?_);let N:fh k6 to x y c:=H.extBut _ _ h r;show VG (WM N rfl ?_);show VG (eW N λd g G=>?_);replace g:fh d to x y u:=g;show VG (YE (VQ (VQ ?_)));show VG (WM g rfl ?_);show VG (abc ?_);let sz:d.objs.size=s.heap.objs.size:=by rw[G.1,H.1,I.1,J.1,K.1,L.1,M.1]
 let ag:∀c o,c≠z->c≠to->c≠t1->c≠t2->c≠t3->s.heap.get? c=some o->d.get? c=some o:=λc o C Y c3 c4 c5 e=>G.extBut _ _ Y (H.extBut _ _ c5 (I.extBut _ _ Y (J.extBut _ _ c4 (K.extBut _ _ Y (L.extBut _ _ c3 (M.extBut _ _ C e))))));let Z7:IsZip d z ti to .ellipsis:=G.extBut _ _ (VO S) (H.extBut _ _ (VO B) (I.extBut _ _ (VO S) (J.extBut _ _ (VO n4) (K.extBut _ _ (VO S) (L.extBut _ _ (VO n3) Z1)))));let a0:J1 (n+1) d:=p.ext (p.ext (p.ext (p.ext (p.ext a4 K.extBut n8 (VO p2)) J.extBut (VO V) (VO p4)) I.extBut n8 (VO p2)) H.extBut (VO U) (VO p5)) G.extBut n8 (VO p2);let aA:J2 (n+1) d:=m.ext (m.ext (m.ext aH I.extBut n9 (VO q2)) H.extBut (VO T) (VO q5)) G.extBut n9 (VO q2);let ah:J3 (n+1) d:=l.ext ar G.extBut h (VO r2);let W:z<d.objs.size:=VY Z7;change wpAny _ _ (Builtin.SmallTypes.ownedTupleHandOut (.ref z) (.ref d.objs.size) >>= _) _ _ _;show VG ?_;unfold Builtin.SmallTypes.ownedTupleHandOut;let Z8:IsZip (d.push {cls:= .type "tuple",data:= .seq #[x,y,u]}) z ti to .ellipsis:=VJ _ Z7;show VG (WT Z8 (by simp) λk9 Z9 b9=>?_);replace Z9:IsZip k9 z ti to (rawInt d.objs.size):=Z9;show WT Z9 (by simp) λf i F=>?_;replace i:IsZip f z ti to (rawInt d.objs.size):=i;let up:∀c o,c≠z->d.get? c=some o->f.get? c=some o:=λc o C e=>F.extBut _ _ C (b9.extBut _ _ C (VJ _ e));let pT:fh f d.objs.size x y u:=F.extBut _ _ (Xa W) (b9.extBut _ _ (Xa W) (V4 _ rfl));let j:f.objs.size=d.objs.size+1:=by rw[F.1,b9.1,WG]
 rw[sz]at i pT j;show VQ ⟨_,rfl,?_⟩;change Q (.ref d.objs.size) _;rw[sz];show q f i (up _ _ S g) (p.fr _ _ _ a0 λb X o e=>up b o ?_ e) (m.fr _ _ _ aA λb X o e=>up b o ?_ e) (l.fr _ _ _ ah λb X o e=>up b o ?_ e) pT j λc o C Y c3 c4 c5 e=>up c o C (ag c o C Y c3 c4 c5 e)
 . rcases X with rfl|rfl
   . show n3
   . show p1
 . rcases X with rfl|rfl
   . show n4
   . show q1
 . rcases X with rfl|rfl
   . show B
   . show r1
def Ky{A:Around}{s:Shared}(hh:A.handled=none)(D:MJ z ti to t1 t2 t3 a1 a2 a3)(S1:Src P w t1 a1 J1 us)(N:Src P w t2 a2 J2 vs)(v:Src P w t3 a3 J3 U)
 (Z:IsZip s.heap z ti to .none) (pI:fh s.heap ti (.ref t1) (.ref t2) (.ref t3)) (pO:fh s.heap to a b c) (j1:J1 n s.heap) (j2:J2 n s.heap) (j3:J3 n s.heap) (he:us[n]?=none\/vs[n]?=none\/U[n]?=none)
 (q:∀k e,(∀c o,c≠z->c≠to->c≠t1->c≠t2->c≠t3->s.heap.get? c=some o->k.get? c=some o)->(∃o,k.get? e=some o/\o.cls= .type "StopIteration")->E (.ref e) {s with heap:=k}):
 wpAny (model P w) A (Builtin.«zip.__next__» ⟨[.ref z],[]⟩) Q E s:=by
 obtain⟨⟨n1,R,O,V,H⟩,⟨n5,n6,n7,ar⟩,⟨n8,n9,G⟩,Y,X,W⟩:=D.f;obtain⟨p1,p2,p3,p4,p5⟩:=D.a1;obtain⟨q1,q2,q3,q4,q5⟩:=D.a2;obtain⟨r1,r2,r3,r4,r5⟩:=D.a3;change wpAny _ _ (field (.ref z) 2 >>= _) _ _ _;show VG (WI Z rfl (x:= .bool false) rfl ?_);change wpAny _ _ (field (.ref z) 3 >>= _) _ _ _;show VG (WI Z rfl (x:= .ref ti) rfl ?_);show VG (WM pI rfl ?_);change wpAny _ _ (Builtin.SmallTypes.ownedTupleIsFree (.ref z) >>= _) _ _ _;show VG ?_;unfold Builtin.SmallTypes.ownedTupleIsFree;show VG (WI Z rfl (x:= .none) rfl (VQ ?_));simp![Yv];show VG (Zo ?_);show VG (WI Z rfl (x:= .ref to) rfl ?_);show VG (WT Z (by simp) λk1 M t=>?_);replace M:IsZip k1 z ti to .ellipsis:=M;show VG ?_;simp![ZF,ZV,Ze,Zn];show VG (VG (X7 ?_));change wpAny _ _ (Builtin.SmallTypes.nextOf (.ref t1) >>= _) _ _ _;let J:J1 n k1:=S1.ext j1 t.extBut (VO O) (VO p1);cases ex:us[n]? with
 |none=>
  show VG (S1.en n _ _ _ _ hh J ex λk2 e j K=>?_);obtain⟨F,d,g⟩:=K;let Z2:IsZip k2 z ti to .ellipsis:=j _ _ (VO O) M;let i:e≠z:=λc=>by subst c;rw[Z2]at d;cases d;simp at g
  show WT Z2 (by simp) λS _ l=>q S e (λc o m _ L _ _ f=>l.extBut _ _ m (j _ _ L (t.extBut _ _ m f))) ⟨F,l.extBut _ _ i d,g⟩
 |some x=>
  show VG (S1.nx n _ _ _ _ x J ex λk2 aA j=>VQ ?_);let C:fh k2 to a b c:=j.extBut _ _ n8 (t.extBut _ _ R pO);show VG (WM C rfl ?_);show VG (eW C λS p l=>?_);replace p:fh S to x b c:=p;show VG (YE (VQ ?_));show VG (VG (X7 ?_));change wpAny _ _ (Builtin.SmallTypes.nextOf (.ref t2) >>= _) _ _ _;let I:J2 n S:=N.ext (N.ext (N.ext j2 t.extBut (VO V) (VO q1)) j.extBut Y (VO q3)) l.extBut n9 (VO q2);cases ey:vs[n]? with
  |none=>
   show VG (N.en n _ _ _ _ hh I ey λk4 e r K=>?_);obtain⟨F,d,g⟩:=K;let Z4:IsZip k4 z ti to .ellipsis:=r _ _ (VO V) (l.extBut _ _ (VO R) (j.extBut _ _ (VO O) M));let i:e≠z:=λc=>by subst c;rw[Z4]at d;cases d;simp at g
   show WT Z4 (by simp) λk5 _ u=>q k5 e (λc o m T L c4 _ f=>u.extBut _ _ m (r _ _ c4 (l.extBut _ _ T (j.extBut _ _ L (t.extBut _ _ m f))))) ⟨F,u.extBut _ _ i d,g⟩
  |some y=>
   have ez:U[n]?=none:=by
    rcases he with h|h|h
    . rw[ex]at h;cases h
    . rw[ey]at h;cases h
    . show h
   show VG (N.nx n _ _ _ _ y I ey λk4 az r=>VQ ?_);let B:fh k4 to x b c:=r.extBut _ _ n9 p;show VG (WM B rfl ?_);show VG (eW B λk5 ah u=>?_);show VG (YE (VQ ?_));show VG (VG (X7 ?_));change wpAny _ _ (Builtin.SmallTypes.nextOf (.ref t3) >>= _) _ _ _;let ag:J3 n k5:=v.ext (v.ext (v.ext (v.ext (v.ext j3 t.extBut (VO H) (VO r1)) j.extBut X (VO r3)) l.extBut G (VO r2)) r.extBut W (VO r4)) u.extBut G (VO r2);show VG (v.en n _ _ _ _ hh ag ez λk6 e b6 K=>?_);obtain⟨F,d,g⟩:=K;let Z6:IsZip k6 z ti to .ellipsis:=b6 _ _ (VO H) (u.extBut _ _ (VO R) (r.extBut _ _ (VO V) (l.extBut _ _ (VO R) (j.extBut _ _ (VO O) M))));let i:e≠z:=λc=>by subst c;rw[Z6]at d;cases d;simp at g
   show WT Z6 (by simp) λk7 _ b7=>q k7 e (λc o m T L c4 c5 f=>b7.extBut _ _ m (b6 _ _ c5 (u.extBut _ _ T (r.extBut _ _ c4 (l.extBut _ _ T (j.extBut _ _ L (t.extBut _ _ m f))))))) ⟨F,b7.extBut _ _ i d,g⟩
end
end
def Pw(K:PySem.W.Frag)(f e d:SK)(j h g:Addr):It:=
 ⟨λi H=>∃c b a x y z,jD f K H j c/\jD e K H h b/\jD d K H g a/\c[i]?=some x/\b[i]?=some y/\a[i]?=some z,
  λi H v k=>∃T x y z,H T=none/\v= .ref T/\k=upd H T (.tup [x,y,z])/\(∀c,jD f K H j c->c[i]?=some x)/\(∀b,jD e K H h b->b[i]?=some y)/\∀a,jD d K H g a->a[i]?=some z,
  λi H=>∃c b a,jD f K H j c/\jD e K H h b/\jD d K H g a/\(c.length<=i\/b.length<=i\/a.length<=i)⟩
def P_(z e d j g f p o n:Addr)(m l k:SK)(i:Nat)(h:Heap):Prop:=IsZip h z e d .none/\fh h e (.ref j) (.ref g) (.ref f)/\(∃a b c,fh h d a b c)/\lz m j p i h/\lz l g o i h/\lz k f n i h
def Hf{P:Program}{w:World}{K:PySem.W.Frag}{G:List Expr}{kx:Nat}{pos:Pos}{z B A q p n M L J:Addr}(V U S:SK)(D:MJ z B A q p n M L J):
 Turn P w K (.Tuple G kx pos) (Pw K V U S M L J) [z,B,A,q,p,n] z (P_ z B A q p n M L J V U S) where
 mem:=by simp
 obj:=λi h d b c=>by
  obtain⟨Z,f,⟨a,b',Y,g⟩,m,l,j⟩:=d;simp![V8,Wc,Yb]at c;rcases c with rfl|rfl|rfl|rfl|rfl|rfl
  . show⟨_,Z,λv e=>by cases e⟩
  . show⟨_,f,λv e=>by cases e⟩
  . show⟨_,g,λv e=>by cases e⟩
  . show f_ m
  . show f_ l
  . show f_ j
 keep:=λi h h' d k=>by
  obtain⟨Z,f,⟨a,b',Y,g⟩,m,l,j⟩:=d;show⟨k z (by simp) _ Z,k B (by simp) _ f,⟨a,b',Y,k A (by simp) _ g⟩,ip m (k q (by simp)),ip l (k p (by simp)),ip j (k n (by simp))⟩
 item:=by
  intro X hP hw hK hc i F s σ H E I W d hg;subst hP hw hK;obtain⟨Z,f,⟨a,b',Y,g⟩,m,l,j⟩:=d;obtain⟨xs,ys,zs,x,y,zz,Q,O,N,ex,ey,ez⟩:=hg;obtain⟨us,r1,l1⟩:=e9 I Q;obtain⟨vs,r2,l2⟩:=e9 I O;obtain⟨ws,r3,l3⟩:=e9 I N;obtain⟨u,eu,ru⟩:=r1.get ex;obtain⟨v,ev,rv⟩:=r2.get ey;obtain⟨wv,ew,ag⟩:=r3.get ez;obtain⟨⟨n1,n2,n3,n4,az⟩,⟨n5,n6,n7,ar⟩,⟨n8,n9,bb⟩,bl,bj,bg⟩:=D.f;let t:s.TypeIs (.ref z) "zip":=⟨_,Z,rfl⟩
  unfold pyNext;show VG (Za (W7 (name:=Str.ofString "__next__") t Yh (XE Yh t ZG (He D (ib V q M D.a1.2.2.1 us.toArray) (ib U p L D.a2.2.2.2.1 vs.toArray) (ib S n J D.a3.2.2.2.2 ws.toArray) Z f g ⟨m,l1⟩ ⟨l,l2⟩ ⟨j,l3⟩ (x:=u) (y:=v) (u:=wv) (by simpa using eu) (by simpa using ev) (by simpa using ew) λk Z2 ah j1 j2 j3 pT a8 R=>VQ ⟨_,rfl,?_⟩) (Zv _))));show aaG (s:={s with heap:=k}) Z2 λk' Z3 r=>?_;let hT:s.heap.objs.size≠z:=Xa (VY Z)
  let aA:∀b o,b∉[z,B,A,q,p,n]->s.heap.get? b=some o->k'.get? b=some o:=λb o c e=>by
   simp![V8,YO,Wc,WY,Yx]at c;show r.extBut _ _ c.1 (R b o c.1 c.2.2.1 c.2.2.2.1 c.2.2.2.2.1 c.2.2.2.2.2 e)
  show⟨.ref s.heap.objs.size,upd H s.heap.objs.size (.tup [x,y,zz]),EY (s:=s) (tk:=s.toks) I W aA (VL _) ?_,rfl,⟨s.heap.objs.size,x,y,zz,I.aH.fresh (VL _),rfl,rfl,?_,?_,?_⟩,?_,?_⟩
  . show⟨V1 rfl,[u,v,wv],.cons ru (.cons rv (.cons ag .nil)),?_⟩;show⟨_,r.extBut _ _ hT pT,rfl,_,rfl⟩
  . intro a4 C;rw[nW I C Q];show ex
  . intro a0 C;rw[nW I C O];show ey
  . intro aU C;rw[nW I C N];show ez
  . show⟨Z3,r.extBut _ _ n1 (R _ _ n1 n5 n6 n7 ar f),⟨_,_,_,r.extBut _ _ n2 ah⟩,ip j1.1 λo e=>r.extBut _ _ n3 e,ip j2.1 λo e=>r.extBut _ _ n4 e,ip j3.1 λo e=>r.extBut _ _ az e⟩
  . intro b c
    let:b≠s.heap.objs.size:=by
     obtain⟨o,e,_⟩:∃o,s.heap.get? b=some o/\True:=by
      simp![V8,Wc,Yb]at c;rcases c with rfl|rfl|rfl|rfl|rfl|rfl
      . show⟨_,Z,trivial⟩
      . show⟨_,f,trivial⟩
      . show⟨_,g,trivial⟩
      . obtain⟨o,e,_⟩:=f_ m;show⟨o,e,trivial⟩
      . obtain⟨o,e,_⟩:=f_ l;show⟨o,e,trivial⟩
      . obtain⟨o,e,_⟩:=f_ j;show⟨o,e,trivial⟩
     show Wb (VY e)
    rw[L2.aB this];show(W b c).1
 done:=by
  intro X hP hw hK hc i F s σ H E I W d hg;subst hP hw hK;obtain⟨Z,f,⟨a,b',Y,g⟩,m,l,j⟩:=d;obtain⟨xs,ys,zs,Q,O,N,he⟩:=hg;obtain⟨us,r1,l1⟩:=e9 I Q;obtain⟨vs,r2,l2⟩:=e9 I O;obtain⟨ws,r3,l3⟩:=e9 I N;let e1:=r1.length;let e2:=r2.length;let e3:=r3.length;let t:s.TypeIs (.ref z) "zip":=⟨_,Z,rfl⟩
  unfold pyNext;show VG (Za (W7 (name:=Str.ofString "__next__") t Yh (XE Yh t ZG (Ky (I.ok.hd hc) D (ib V q M D.a1.2.2.1 us.toArray) (ib U p L D.a2.2.2.2.1 vs.toArray) (ib S n J D.a3.2.2.2.2 ws.toArray) Z f g ⟨m,l1⟩ ⟨l,l2⟩ ⟨j,l3⟩ ?_ λk e R hx=>?_) (Zv _))))
  . rcases he with h|h|h
    . left;simp;lia
    . right;left;simp;lia
    . right;right;simp;lia
  . obtain⟨o,ho,aH⟩:=hx;show VG (aaN (T:="StopIteration") (b:=true) ⟨o,ho,aH⟩ abd ?_);show VQ ⟨rfl,EV (s:=s) (tk:=s.toks) I W λb o c e=>?_⟩;simp![V8,YO,Wc,WY,Yx]at c;show R b o c.1 c.2.2.1 c.2.2.2.1 c.2.2.2.2.1 c.2.2.2.2.2 e
 self:=λ_ _ _ _ _ d h=>ZH d.1 h
def yr(a b c:Value):checkTypeCall "zip" ⟨[a,b,c],[]⟩=pure ():=by kernel_rfl
def zW(a b c:Value):checkBuiltinCall "zip.__new__" ⟨[.type "zip",a,b,c],[]⟩=pure ():=by kernel_rfl
def si(a b c d:Value):argsOk "object.__init__" ⟨[a,b,c,d],[]⟩:=by
 unfold argsOk;rw[signature?_of (id:="object.__init__") (n:=['_','_','t','i','n','i','_','_']) (o:=['t','c','e','j','b','o']) (by kernel_rfl) F.owner_object];kernel_rfl
abbrev Mr(h:Heap)(k1 k2 k3:SK)(a1 a2 a3:Addr):Heap:=(zF h k1 k2 a1 a2).push (o_ k3 a3)
abbrev M4(h:Heap)(k1 k2 k3:SK)(a1 a2 a3:Addr):Heap:=(Mr h k1 k2 k3 a1 a2 a3).push {cls:= .type "tuple",data:= .seq #[.ref h.objs.size,.ref (AR h k1 a1).objs.size,.ref (zF h k1 k2 a1 a2).objs.size]}
abbrev L4(h:Heap)(k1 k2 k3:SK)(a1 a2 a3:Addr):Heap:=(M4 h k1 k2 k3 a1 a2 a3).push {cls:= .type "tuple",data:= .seq #[.none,.none,.none]}
abbrev BI(h:Heap)(k1 k2 k3:SK)(a1 a2 a3:Addr):Heap:=(L4 h k1 k2 k3 a1 a2 a3).push {cls:= .type "zip",data:= .fields #[.none,.bool false,.bool false,.ref (Mr h k1 k2 k3 a1 a2 a3).objs.size,.ref (M4 h k1 k2 k3 a1 a2 a3).objs.size]}
def FQ(b e i:SK)(a c f:Addr)(us vs l:Array Value):Meets (Builtin.«zip.__new__» ⟨[.type "zip",.ref a,.ref c,.ref f],[]⟩) (λ_ R s=>f7 b s.heap a us/\f7 e s.heap c vs/\f7 i s.heap f l/\
 R (.ok (.ret (.ref (L4 s.heap b e i a c f).objs.size))) {s with heap:=BI s.heap b e i a c f}):=
 .of_wp λP w A R s h=>by
  obtain⟨k,g,d,tk,j⟩:=s;obtain⟨p,o,n,h⟩:=h;let m:=sub_zip;let q:f7 b (Shared.heap ⟨k,g,d,tk,j⟩) a us:=p;let L2:f7 e (Shared.heap ⟨k.push (o_ b a),g,d,tk,j⟩) c vs:=f7.push o _;let L3:f7 i (Shared.heap ⟨(k.push (o_ b a)).push (o_ e c),g,d,tk,j⟩) f l:=f7.push (f7.push n _) _
  wp_walk using sE q,sE L2,sE L3
  show⟨_,rfl,h⟩
def IE{s:Shared}{b e i:Addr}(H:f7 a s.heap b us)(G:f7 d s.heap e vs)(D:f7 f s.heap i t)
 (q:∀g n,n=s.heap.objs.size->IsZip g (n+5) (n+3) (n+4) .none->fh g (n+3) (.ref n) (.ref (n+1)) (.ref (n+2))->fh g (n+4) .none .none .none->lz a n b 0 g->lz d (n+1) e 0 g->lz f (n+2) i 0 g->(∀c o,s.heap.get? c=some o->g.get? c=some o)->Q (.ref (n+5)) {s with heap:=g}):
 wpAny (model P w) A (call (.type "zip") [.ref b,.ref e,.ref i]) Q E s:=by
 show callType_new F.called_zip (by decide) (yr _ _ _) (zW _ _ _) (λB=>si B _ _ _) F.entry_zip_new (FQ a d f b e i us vs t) ⟨H,G,D,?_⟩;let m:(AR s.heap a b).objs.size=s.heap.objs.size+1:=WG ..;let l:(zF s.heap a d b e).objs.size=s.heap.objs.size+2:=by rw[WG,m]
 let k:(Mr s.heap a d f b e i).objs.size=s.heap.objs.size+3:=by rw[WG,l]
 let j:(M4 s.heap a d f b e i).objs.size=s.heap.objs.size+4:=by rw[WG,k]
 let r:(L4 s.heap a d f b e i).objs.size=s.heap.objs.size+5:=by rw[WG,j]
 let p:(BI s.heap a d f b e i).get? (L4 s.heap a d f b e i).objs.size=some _:=V4 _ rfl;let u:(BI s.heap a d f b e i).get? (M4 s.heap a d f b e i).objs.size=some _:=VJ _ (V4 _ rfl);let v:(BI s.heap a d f b e i).get? (Mr s.heap a d f b e i).objs.size=some _:=VJ _ (VJ _ (V4 _ rfl));let y:(BI s.heap a d f b e i).get? (zF s.heap a d b e).objs.size=some (o_ f i):=VJ _ (VJ _ (VJ _ (V4 _ (by cases f<;>rfl))));let z:(BI s.heap a d f b e i).get? (AR s.heap a b).objs.size=some (o_ d e):=VJ _ (VJ _ (VJ _ (VJ _ (V4 _ (by cases d<;>rfl)))));let C:(BI s.heap a d f b e i).get? s.heap.objs.size=some (o_ a b):=VJ _ (VJ _ (VJ _ (VJ _ (VJ _ (V4 _ (by cases a<;>rfl))))));change _/\_;rw[k,j,r]at p;rw[m,l,k]at v;rw[j]at u;rw[l]at y;rw[m]at z;rw[r];show⟨⟨_,p,rfl⟩,q _ _ rfl p v u (qk (h:=s.heap) C) (qk (h:=s.heap) z) (qk (h:=s.heap) y) λc o x=>VJ _ (VJ _ (VJ _ (VJ _ (VJ _ (VJ _ x)))))⟩
def fX:List D->List D->List D->List D
 |x::xs,y::ys,z::zs=> .tup [x,y,z]::fX xs ys zs
 |_,_,_=>[]
def sN:∀ {xs ys a:List D},(fX xs ys a).length=min xs.length (min ys.length a.length)
 | [],_,_=>by unfold fX;simp
 |_::_,[],_=>by unfold fX;simp
 |_::_,_::_,[]=>by unfold fX;simp
 |x::xs,y::ys,z::a=>by unfold fX;rw[Wl,sN];simp![Wl];lia
def tm:∀ {xs ys f:List D} {n:Nat} {d:D},(fX xs ys f)[n]?=some d->∃x y z,xs[n]?=some x/\ys[n]?=some y/\f[n]?=some z/\d= .tup [x,y,z]
 | [],_,_,_,_,e=>by unfold fX at e;cases e
 |_::_,[],_,_,_,e=>by unfold fX at e;cases e
 |_::_,_::_,[],_,_,e=>by unfold fX at e;cases e
 |x::xs,y::ys,z::f,0,d,e=>by
  unfold fX at e;rw[aaV]at e;cases e;show⟨x,y,z,rfl,rfl,rfl,rfl⟩
 |x::xs,y::ys,z::f,n+1,d,e=>by
  unfold fX at e;rw[Xx]at e;obtain⟨a,b,c,j,i,h,g⟩:=tm e;show⟨a,b,c,by rw[Xx];show j,by rw[Xx];show i,by rw[Xx];show h,g⟩
def ND{K:PySem.W.Frag}{H F E:SK}{M L J:Addr}{α:List (Option Addr)}{G:Hp}{ok:ae->Prop}{xs ys C:List D}
 (h:∀g b a,Step α G g b->aV g a b->ok a->∃vs i us,yU H b M vs/\yU F b L i/\yU E b J us/\aF g b xs vs/\aF g b ys i/\aF g b C us):vW (Pw K H F E M L J) α G ok (fX xs ys C) where
 stop:=λn g b O N a s P S o p=>by
  obtain⟨vs,i,us,w,r,q,m,l,k⟩:=h g b a s S o;rw[sN]at p;show⟨vs,i,us,eD P w,eD P r,eD P q,?_⟩;let:=m.length;let:=l.length;let:=k.length;lia
 go:=λn d g b O N a s P S o p=>by
  obtain⟨vs,i,us,w,r,q,m,l,k⟩:=h g b a s S o;obtain⟨x,y,z,ex,Z,Y,rfl⟩:=tm p;obtain⟨v,ev,_⟩:=m.get ex;obtain⟨u,A,_⟩:=l.get Z;obtain⟨t,B,_⟩:=k.get Y;show⟨vs,i,us,v,u,t,eD P w,eD P r,eD P q,ev,A,B⟩
 o4:=λn d g b O N a x ag s P S o p y=>by
  obtain⟨vs,i,us,w,r,q,m,l,k⟩:=h g b a s S o;obtain⟨c,e,f,ec,ee,ef,rfl⟩:=tm p;obtain⟨T,v,u,t,I,rfl,rfl,U,R,Q⟩:=y;obtain⟨v',ev,V⟩:=m.get ec;obtain⟨u',A,W⟩:=l.get ee;obtain⟨t',B,X⟩:=k.get ef;rw[U vs (eD P w)]at ev;rw[R i (eD P r)]at A;rw[Q us (eD P q)]at B;cases ev;cases A;cases B;let j:=(P.none I).1;show⟨L2.upd b T (.tup [v,u,t]),Step.laid j,P.laid I,S.laid j,?_⟩;unfold Rep;show⟨T,[v,u,t],rfl,S.jW j,aW,?_⟩;unfold aF;show⟨v,[u,t],rfl,V.step (Step.laid j),?_⟩;unfold aF;show⟨u,[t],rfl,W.step (Step.laid j),?_⟩;unfold aF;show⟨t,[],rfl,X.step (Step.laid j),by unfold aF;rfl⟩
def Gh(ds:List D)(a:ae)(K:List D->(ae->Prop)->ae->Prop):Prop:=match ds with
 | [x,y,z]=>(match items? a x,items? a y,items? a z with
   |some e,some d,some c=>K (fX e d c) (λb=>items? b x=some e/\items? b y=some d/\items? b z=some c) a
   |_,_,_=>False)
 |_=>False
@[irreducible] def tD:List D->ae->(List D->(ae->Prop)->ae->Prop)->Prop:=Gh
def E8(t:DA):DI:=λσ b K=>t σ b λc a=>tD c a K
def M6(f:c<n)(e:b<n)(d:a<n):MJ (n+5) (n+3) (n+4) n (n+1) (n+2) c b a:=⟨by lia,by lia,by lia,by lia⟩
def vals3(h:Vals vs us)(e:vs=[a,b,c]):∃u v w,us=[u,v,w]/\RelV a u/\RelV b v/\RelV c w:=by
 subst e;cases h with
 |cons p q=>
  cases q with
  |cons i g=>
   cases g with
   |cons f d=>
    cases d;show⟨_,_,_,rfl,p,i,f⟩
def Oz{X:Cx}(hg:Gl X "zip")(hm:X.mg "zip"=none)(ha:PA X [a,b,c] (LA t))(hs:starEach [a,b,c] X.env=(false,eval a X.env)::starEach [b,c] X.env)(T:starEach [b,c] X.env=[(false,eval b X.env),(false,eval c X.env)]):
 PI X (.Tuple w kx m) (.Call (.Name "zip" p) [a,b,c] [] pos) (LI (E8 t)):=by
 intro u s σ H R I h;obtain⟨α,σd,st,K,G,F,P,RS,S,t,k⟩:=h;show Call_ (kZ I hg hm boot_zip (Xv (bZ (ha pos u s σ H (λJ H1=>∃A f e d,Step α G f e/\b_ e F H1/\aV f d e/\aF f e A J/\tD A d K) I ⟨α,σd,st,_,G,F,P,RS,S,t,λA d q f e H1 J r j i Q=>⟨A,f,e,d,r,j,i,Q,q⟩⟩) λus r ⟨J,H1,l,rv,A,f,e,d,w1,j,i,Q,q⟩=>?_) hs (by rw[T];rfl)));unfold tD Gh at q;split at q
 . rename_i x y z;split at q
   . rename_i xs ys zs ex ey ez;obtain⟨v1,v2,v3,rfl,q1,q2,q3⟩:=MP Q rfl;obtain⟨p1,aH,rfl,g1,c1⟩:=gc i q1 ex;obtain⟨p2,aA,rfl,g2,c2⟩:=gc i q2 ey;obtain⟨p3,az,rfl,g3,c3⟩:=gc i q3 ez;obtain⟨u1,u2,u3,rfl,O,N,M⟩:=vals3 rv rfl;cases O;cases N;cases M;obtain⟨ar,_,l1⟩:=e9 l (eD j c1);obtain⟨ah,_,l2⟩:=e9 l (eD j c2);obtain⟨ag,_,l3⟩:=e9 l (eD j c3);show IE l1 l2 l3 λg n B Z pI pO i1 i2 i3 kp=>?_;obtain⟨o1,W⟩:=l1.some;obtain⟨o2,V⟩:=l2.some;obtain⟨o3,U⟩:=l3.some;show ZH (s:={r with heap:=g}) Z ?_;show⟨n+5,[n+5,n+3,n+4,n,n+1,n+2],_,_,H1,rfl,l.kept (t':=r.toks) kp,Hf (Cg x) (Cg y) (Cg z) (M6 (by rw[B];show VY W) (by rw[B];show VY V) (by rw[B];show VY U)),⟨Z,pI,⟨_,_,_,pO⟩,i1,i2,i3⟩,λb hb=>?_,?_⟩
     . have v:r.heap.objs.size<=b:=by
        simp![V8,Wc,Yb]at hb;rcases hb with rfl|rfl|rfl|rfl|rfl|rfl<;>(rw[<-B];first|show VL _|show ZI _ _)
       show l.vH v (l.aH.fresh v)
     . show k _ _ d q _ f e H1 w1 j i (ND λα' G' aU L Y o=>?_);obtain⟨a4,E,e1,f1,d1⟩:=gc Y (q1.step L) o.1;obtain⟨a3,D,e2,f2,d2⟩:=gc Y (q2.step L) o.2.1;obtain⟨a0,C,e3,f3,d3⟩:=gc Y (q3.step L) o.2.2;cases e1;cases e2;cases e3;show⟨E,D,C,d1,d2,d3,f1,f2,f3⟩
   . show q.elim
 . show q.elim
def N7{st:ae}{x y z:D}{xs ys b:List D}{K:List D->(ae->Prop)->ae->Prop}(ex:items? st x=some xs)(g:items? st y=some ys)(f:items? st z=some b)(k:∀ok:ae->Prop,(∀a,items? a x=some xs->items? a y=some ys->items? a z=some b->ok a)->K (fX xs ys b) ok st):tD [x,y,z] st K:=by
 unfold tD Gh;simp![ex,g,f];show k _ λa e d c=>⟨e,d,c⟩
def Pj{X:Cx}{a b c:Expr}{e:List Expr}{j:Nat}{d p pos:Pos}{i:DA}(l:Gl X "zip")(k:X.mg "zip"=none)(h:JA X [a,b,c] i)(hs:notStar a=true:=by rfl)(g:notStar b=true:=by rfl)(f:notStar c=true:=by rfl):JI X (.Tuple e j d) (.Call (.Name "zip" p) [a,b,c] [] pos) (E8 i):=by
 unfold JI;unfold JA at h;show Oz l k h (bP hs) (by rw[bP g,bP f];rfl)
def HE:DS:=λ_ _ _=>False
def JD:JS X s HE:=by
 unfold JS;intro a s σ H D I h;obtain⟨α,b,c,d,G,F,P,R,S,q,k⟩:=h;show q.elim
end L3
namespace L3
open PySem L2
open PySem.Spec hiding items?
open PyProof.Rows hiding St
open Sem (wp)
end L3
namespace L3
open PySem L2
open PySem.Spec hiding items?
open PyProof.Rows hiding St
section
variable {X:Cx}
def range_any{α:Type}(l:List α)(f:α->Bool)(tr:Nat->Bool)(h:∀i x,l[i]?=some x->tr i=f x):(List.range l.length).any tr=l.any f:=by
 induction l generalizing tr with
 |nil=>rfl
 |cons a l b=>
  rw[Wl,Wm,aar,aar,List.any_map,h 0 a rfl];congr 1;show b (tr∘Nat.succ) λi x e=>h (i+1) x (by simpa using e)
end
def putD(f:Str)(v:D):List (Str×D)->List (Str×D)
 | []=>[(f,v)]
 |(g,x)::r=>if g=f then(g,v)::r else(g,x)::putD f v r
def ka.look:∀ {fs:List (Str×D)} {vs:List (Str×V)},ka α H fs vs->fs.lookup f=some v->∃u,vs.lookup f=some u/\Rep α H v u
 | [],_,_,e=>by cases e
 |(g,x)::fs,_,.cons (b:=q) h t,e=>by
  obtain⟨i,y⟩:=q;obtain⟨d,c⟩:=h;simp only at d c;subst d;rw[WW]at e⊢;cases a:f==g with
  |true=>rw[a]at e;cases e;show⟨y,rfl,c⟩
  |false=>rw[a]at e;show ka.look t e
def ka.none:∀ {fs:List (Str×D)} {vs:List (Str×V)},ka α H fs vs->fs.lookup f=Option.none->vs.lookup f=Option.none
 | [],_,.nil,_=>rfl
 |(g,x)::fs,_,.cons (b:=q) h t,e=>by
  obtain⟨i,y⟩:=q;obtain⟨c,d⟩:=h;simp only at c d;subst c;rw[WW]at e⊢;cases a:f==g with
  |true=>rw[a]at e;cases e
  |false=>rw[a]at e;show ka.none t e
def ka.put(r:Rep α H d v):∀ {fs:List (Str×D)} {vs:List (Str×V)},ka α H fs vs->ka α H (putD f d fs) (g7 f v vs)
 | [],_,.nil=> .cons ⟨rfl,r⟩ .nil
 |(g,x)::fs,_,.cons (b:=q) h t=>by
  obtain⟨i,y⟩:=q;obtain⟨e,c⟩:=h;simp only at e c;subst e;unfold putD g7;by_cases a:g=f
  . rw[VN a,VN a];show .cons ⟨rfl,r⟩ t
  . rw[VM a,VM a];show .cons ⟨rfl,c⟩ (ka.put r t)
def KS(C:Addr)(f:Str)(d:D)(st:ae)(K:DK):Prop:=match d with
 | .ref n=>(match st[n]? with|some (.ins a fs)=>a=C/\∃v,fs.lookup f=some v/\K v st|_=>False)
 |_=>False
@[irreducible] def F6(C:Addr)(f:Str):D->ae->DK->Prop:=KS C f
def bV(C:Addr)(f:Str)(b:DE):DE:=λσ c K=>b σ c λd a=>F6 C f d a K
def a6{C:Addr}{f:Str}{n:Nat}{st:ae}{K:DK}{fs:List (Str×D)}{v:D}(e:st[n]?=some (.ins C fs))(h:fs.lookup f=some v)(k:K v st):F6 C f (.ref n) st K:=by
 unfold F6 KS;simp![e];show⟨trivial,v,h,k⟩
def F8(C:Addr)(f:Str)(x d:D)(st:ae)(K:ae->Prop):Prop:=match x with
 | .ref n=>(match st[n]? with|some (.ins a fs)=>a=C/\fs.length<1000/\K (st.set n (.ins C (putD f d fs)))|_=>False)
 |_=>False
@[irreducible] def wK(C:Addr)(f:Str):D->D->ae->(ae->Prop)->Prop:=F8 C f
def ff(C:Addr)(f:Str)(e g:DE):DS:=λD σ h=>g σ h λd c=>e σ c λx b=>wK C f x d b λa=>D.nx σ a
def lK{C:Addr}{f:Str}{n:Nat}{d:D}{st:ae}{K:ae->Prop}{fs:List (Str×D)}(e:st[n]?=some (.ins C fs))(h:fs.length<1000)(k:K (st.set n (.ins C (putD f d fs)))):wK C f (.ref n) d st K:=by
 unfold wK F8;simp![e];show⟨trivial,h,k⟩
def Aj(C:Addr)(m:Str)(x:D)(st:ae)(k:Prop):Prop:=match x with
 | .ref n=>(match st[n]? with|some (.ins a fs)=>a=C/\fs.lookup m=none/\k|_=>False)
 |_=>False
@[irreducible] def wG(C:Addr)(m:Str):D->ae->Prop->Prop:=Aj C m
def dX{C:Addr}{m:Str}{n:Nat}{st:ae}{k:Prop}{fs:List (Str×D)}(e:st[n]?=some (.ins C fs))(h:fs.lookup m=none)(q:k):wG C m (.ref n) st k:=by
 unfold wG Aj;simp![e];show⟨trivial,h,q⟩
def dZ(C:Addr)(m:Str)(S:bW)(c:DE)(t:DA):DE:=λσ d K=>c σ d λx a=>wG C m x a (t σ a λe b=>S (x::e) b K)
def Al(C:Addr)(S:bW)(t:DA):DE:=λσ c K=>t σ c λd a=>S (.ref a.length::d) (a++[.ins C []]) λr b=>r= .az/\K (.ref a.length) b
section
variable {X:Cx}{C f g:Addr}{fd:FuncData}{k:Nat}{x m fl:Str}{e o value:Expr}{es:List Expr}{p pos pos' apos:Pos}{te to:DE}{t:DA}{S:bW}{ps:List Str}
def Ts(c:mX X.K C)(na:d4 X.K C fl)(D:PE X e (LE te))(E:attributeBase e fl X.env (eval e X.env)=eval e X.env):PE X (.Attribute e fl pos) (LE (bV C fl te)):=PE.imp (Qz D E) λσ H Q ⟨α,j,r,K,G,F,P,R,S,t,k⟩=>by
 show⟨α,j,r,_,G,F,P,R,S,t,λd n q O T H1 v s i h z=>?_⟩;unfold F6 KS at q;cases d<;>try show q.elim
 simp only at q;split at q
 . rename_i U fs M;obtain⟨rfl,w,A,q⟩:=q;obtain⟨a,L,N,l,J,I⟩:=h.xF M;let b:=dY L z;subst b;obtain⟨u,B,y⟩:=I.look A;show⟨a,_,N,l,u,rfl,i.get J,c,na,B,(k.at s).here i q h y⟩
 . show q.elim
def Qs(c:mX X.K C)(na:d4 X.K C fl)(Q:PE X o (LE to))(O:PE X value (LE te))(hs:swapsWith value (some (.Attribute o fl pos')) pos.line X.env=pure false):PS X (.Assign [.Attribute o fl pos'] value pos) (LS (ff C fl to te)):=PS.imp (Pk Q O hs) λD σ H ⟨α,i,K,DD,G,F,P,R,S,t,k⟩=>by
 show⟨α,i,K,_,G,F,P,R,S,t,λd j q I Z H1 v n W V M=>?_⟩;show⟨I,i,j,_,Z,F,W,R.step n,V,q,λx J b y Y H2 v2 l E B L=>?_⟩;unfold wK F8 at b;cases x<;>try show b.elim
 simp only at b;split at b
 . rename_i C' fs U;obtain⟨rfl,T,b⟩:=b;obtain⟨a,u,w,h,A,z⟩:=B.xF U;let r:=dY u L;subst r;let s:some a∈y:=Wn u;let N:h.length<1000:=by rw[<-z.length];show T
   show⟨a,_,w,h,rfl,E.get A,c,na,N,?_⟩;show((k.nx.at n).at l) i _ b y (upd Y a (.ins _ w (g7 fl v h))) _ σ (Step.write s) (E.write A) (((R.step n).step l).step (Step.write s)) ?_;show B.write u ⟨w,g7 fl v h,aW,(z.put (M.step l)).step (Step.write s)⟩
 . show b.elim
def LE.R0(h:LE (dZ C m S to t) σ H Q):Fd C m (gj S) [] E0 (LE to) (LA t) σ H Q:=by
 obtain⟨α,j,D,K,G,F,P,R,U,B,k⟩:=h;show⟨α,j,D,_,G,F,P,R,U,B,λd c q z Z H1 v r w u s=>?_⟩;unfold wG Aj at q;cases d<;>try show q.elim
 simp only at q;split at q
 . rename_i n C' fs O;obtain⟨rfl,J,q⟩:=q;obtain⟨a,N,T,A,M,L⟩:=u.xF O;let i:=dY N s;subst i;show⟨a,T,A,rfl,w.get M,L.none J,?_⟩;show⟨z,j,c,_,Z,F,w,R.step r,u,q,λds b I y Y H2 us l W V E=>?_⟩;try dsimp only
   rw[XD];show⟨y,_,b,K,Y,F,W,by unfold aF;show⟨_,_,rfl,s.step l,E⟩,V,I,(k.at r).at l⟩
 . show q.elim
def LE.make(h:LE (Al C S t) σ H Q):Mv C (gj S) [] E0 (LA t) σ H Q:=by
 obtain⟨α,M,T,K,G,F,P,R,Z,O,k⟩:=h;show⟨α,M,T,_,G,F,P,R,Z,O,λY b q i s H1 us U L z V=>?_⟩;intro x a W r y;let l:=(L.none r).1;let J:=L.laid (o:= .own x) r;let S2:=z.laid (o:= .own x) l;let j:upd H1 a (.own x) x=none:=by rw[aB (VO y)];show W
 let n:=(J.none j).1;let P3:=J.laid (o:= .ins C a []) j;let S3:=S2.cell (o:= .ins C a []) (c:= .ins C []) n ⟨a,[],aW,.nil⟩;let B:Step i s i (upd s a (.own x)):=Step.laid l;let A:Step i (upd s a (.own x)) (i++[some x]) (upd (upd s a (.own x)) x (.ins C a [])):=Step.cell n
 let E:Rep (i++[some x]) (upd (upd s a (.own x)) x (.ins C a [])) (.ref b.length) (.ref x):=by
  unfold Rep;show .inr ⟨x,?_,rfl⟩;rw[V_ (by rw[z.len];show VL _),z.len,W9];rfl
 rw[XD];show⟨i++[some x],.ref b.length::Y,b++[.ins C []],_,_,F,P3,by unfold aF;show⟨_,_,rfl,E,(V.step B).step A⟩,S3,q,λd u w N G' H' v D P' S' I=>?_⟩;obtain⟨rfl,w⟩:=w;unfold Rep at I;show⟨I,(((k.at U).at B).at A) _ u w N G' H' _ D P' S' (E.step D)⟩
end
section
variable {X:Cx}{e o i value:Expr}{es:List Expr}{te to ti:DE}{t:DA}{pos pos' tpos apos p:Pos}{C f:Addr}{fl m x:Str}{S:bW}{k:Nat}{fd:FuncData}{ps:List Str}
def G0{value o:Expr}{fl:Str}{pos':Pos}:swapsWith value (some (.Attribute o fl pos')) n env=pure false:=by cases value<;>rfl
def bD(c:mX X.K C)(na:d4 X.K C fl)(a:JE X e te)(b:attributeBase e fl X.env (eval e X.env)=eval e X.env:=by rfl):JE X (.Attribute e fl pos) (bV C fl te):=by unfold JE at*;show Ts c na a b
def dF(c:mX X.K C)(na:d4 X.K C fl)(b:JE X o to)(a:JE X value te):JS X (.Assign [.Attribute o fl pos'] value pos) (ff C fl to te):=by unfold JS;unfold JE at*;show Qs c na b a G0
def iq{pl:Sem Bool}(l:JE X o to)(c:mX X.K C)(j:Meth X.K C m f)(F:cY X.prog X.w X.K X.mg X.base fN k f fd ps (gj S))(g:cJ k X.A)(n:Binds X.K fd ps [])(b:JA X (e::es) t)
 (hs:notStar e=true:=by rfl) (a:g4 es=true:=by rfl)
 (d:eval (.Call (.Attribute o m apos) (e::es) [] pos) X.env=(do
   let ov <-eval o X.env
   standAt apos.atName
   let(f,first) <-holding [ov] (getMethod ov m pl)
   callWith pos f first (backTo pos (starEach (e::es) X.env)) (backToKw pos (keywordEach [] X.env))):=by rfl):
 JE X (.Call (.Attribute o m apos) (e::es) [] pos) (dZ C m S to t):=by
 unfold JE at*;unfold JA at b;show PE.imp (NH l c j F g n .nil Ao b (bP hs) (lJ a) d) λ_ _ _ h=>LE.R0 h
def nV{pl:Sem Bool}(J:JE X o to)(c:mX X.K C)(E:Meth X.K C m f)(F:cY X.prog X.w X.K X.mg X.base fN k f fd ps (gj S))(D:cJ k X.A)(L:Binds X.K fd ps [])
 (B:eval (.Call (.Attribute o m apos) [] [] pos) X.env=(do
   let ov <-eval o X.env
   standAt apos.atName
   let(f,first) <-holding [ov] (getMethod ov m pl)
   callWith pos f first (backTo pos (starEach [] X.env)) (backToKw pos (keywordEach [] X.env))):=by rfl):
 JE X (.Call (.Attribute o m apos) [] [] pos) (dZ C m S to ai):=by
 unfold JE at*;show PE.imp (JJ J c E F D L .nil Ao B) λσ H Q h=>?_;obtain⟨α,s,z,K,G,F,P,R,V,y,k⟩:=h;show⟨α,s,z,_,G,F,P,R,V,y,λd b q u W H1 v A r l j=>?_⟩;unfold wG Aj at q;cases d<;>try show q.elim
 simp only at q;split at q
 . rename_i n Y fs T;obtain⟨rfl,I,q⟩:=q;obtain⟨a,O,U,w,N,M⟩:=l.xF T;let g:=dY O j;subst g;show⟨a,U,w,rfl,r.get N,M.none I,u,_,b,K,W,F,r,by unfold aF;show⟨_,_,rfl,j,by unfold aF;rfl⟩,l,q,k.at A⟩
 . show q.elim
def GL(M:Mk X.K C f)(F:cY X.prog X.w X.K X.mg X.base fN k f fd ps (gj S))(g:cJ (k+1) X.A)(j:Gl X x)(b:X.mg x=some (.ref C))(l:Binds X.K fd ps [])(d:JA X (e::es) t)(c:(x==("__debug__":Str))=false)
 (hs:notStar e=true:=by rfl) (a:g4 es=true:=by rfl):JE X (.Call (.Name x p) (e::es) [] pos) (Al C S t):=by
 unfold JE;unfold JA at d;show PE.imp (N1 M F g j b l .nil Ao d c (bP hs) (lJ a)) λ_ _ _ h=>LE.make h
end
end L3
namespace L2
open PySem PySem.Spec PyProof.Rows
structure Entry(K:PySem.W.Frag)(ts:List (Addr×Addr))(a:Addr)(ns:List Int)(H:Hp):Prop where
 lst:mO K H a (ns.map V.int)
 tab:∀q∈ts,H q.2=some (.kn #[])/\q.2≠a
def zu:∀ {vs:List Value} {ns:List Int},IntsAre vs ns->Vals (ns.map V.int) vs
 |_,_,.nil=> .nil
 |_,_,.cons n t h=> .cons ⟨t,rfl⟩ (zu h)
structure O9(K:PySem.W.Frag)(ts:List (Addr×Addr))(h:Heap):Prop where
 hd:∀q∈ts,PySem.W.codeHdIn K q.1 q.2=true
 no:∀q∈ts,K.lookup q.2=none
 at':∀q∈ts,h.get? q.2=some (PySem.W.tabObj #[])
def Hx{P:Program}{K:PySem.W.Frag}{M mb:Str->Option Value}{k:Nat}{fd:FuncData}{c:Shared}{vs:List Value}{ns:List Int}
 (KX:K.In c.heap) (S:c.heap.Ns mainGlobals M) (hb:c.heap.Ns builtinsNs mb) (a4:∀x:Str,x≠"__name__"->mb x=bootBuiltins x) (T:c.heap.NoLimit) (aU:c.heap.NoSeer) (a0:P.given.tree=none)
 (a3:∃N D,M "__builtins__"=some (.ref N)/\N≠builtinsNs/\c.heap.get? N=some D/\D.cls= .type "module"/\D.dict=some builtinsNs/\D.data= .plain) (A:O9 K ts c.heap) (hg:c.gens= #[])
 (y:c.heap.get? a=some {cls:= .type "list",data:= .seq vs.toArray}) (hi:IntsAre vs ns) (hl:ns.length<=sizeLine) (hr:cJ k callerA)
 (F:∀i:Heap,K.In i->i.Ns mainGlobals M->cY P w K M i (λ_ _ _ _ _ _=>False) k fa fd [x] sp) (G:∀(s:Shared) (u:Value),BindsTo s fd ⟨[u],[]⟩ [(x,u)])
 (aA:∀H:Hp,Entry K ts a ns H->sp [.ref a] H (λv _=>v= .bl true) λ_ _ _=>False):
 codeAny (model P w) callerA (.call (.ref fa) ⟨[.ref a],[]⟩) (λr s'=>r= .ok (.ret (.bool true))/\OldK c.heap s'.heap/\s'.os=c.os/\AllBare s'.gens) c:=by
 let rv:=zu hi;let R:=hi.length
 let Q:∀q∈ts,q.2≠a:=λq g z=>by
  let:=A.at' q g;rw[z,y]at this;cases this
 letI Y:Option HO:=match K.lookup a with
  |some _=>none
  |none=>some (.gI {cls:= .type "list",data:= .seq vs.toArray} (.lst (ns.map V.int)))
 letI H:Hp:=λb=>if b=a then Y else if b∈ts.map (·.2)then some (.kn #[])else none
 let Ha:H a=Y:=VN rfl
 let Ht:∀q∈ts,H q.2=some (.kn #[]):=λq g=>by
  change(if q.2=a then Y else if q.2∈ts.map (·.2)then some (HO.kn #[])else none)=_;rw[VM (Q q g),VN (aab g)]
 let O:∀b u,H b=some u->(b=a/\K.lookup a=none/\u= .gI {cls:= .type "list",data:= .seq vs.toArray} (.lst (ns.map V.int)))\/(∃q∈ts,q.2=b/\u= .kn #[]):=λb u e=>by
  let J:(if b=a then Y else if b∈ts.map (·.2)then some (HO.kn #[])else none)=some u:=e;by_cases I:b=a
  . rw[VN I]at J
    let l:(match K.lookup a with
     |some _=>none
     |none=>some (HO.gI {cls:= .type "list",data:= .seq vs.toArray} (.lst (ns.map V.int))))=some u:=J
    cases q:K.lookup a with
    |some o=>rw[q]at l;cases l
    |none=>rw[q]at l;cases l;show .inl ⟨I,rfl,rfl⟩
  . rw[VM I]at J;by_cases E:b∈ts.map (·.2)
    . rw[VN E]at J;cases J;obtain⟨q,g,e⟩:=Wi.mp E;show .inr ⟨q,g,e,rfl⟩
    . rw[VM E]at J;cases J
 let aH:iu P w H c.heap:=λb u e=>by
  rcases O b u e with⟨rfl,_,rfl⟩|⟨q,g,rfl,rfl⟩
  . show⟨y,by rw[VH];show hl,vs,_,rv,y⟩
  . show A.at' q g
 let hE:Entry K ts a ns H:=by
  show⟨?_,λq g=>⟨Ht q g,Q q g⟩⟩;cases q:K.lookup a with
  |some o=>
   have e:=KX a o q;rw[y]at e;cases e;show .inr ⟨_,vs.toArray,_,q,rfl,rfl,rfl,by rw[VW,R];show hl,by simpa using rv⟩
  |none=>
   show .inl (.inr ⟨{cls:= .type "list",data:= .seq vs.toArray},?_⟩);rw[Ha]
   change(match K.lookup a with
    |some _=>none
    |none=>some (HO.gI {cls:= .type "list",data:= .seq vs.toArray} (.lst (ns.map V.int))))=_
   rw[q]
 let n:∀ {b:Addr} {o:Obj},c.heap.get? b=some o->(∀Z ep,o.data≠ .seq Z ep)->o.cls≠ .none->H b=none:=λ{b o} e d1 d2=>by
  cases q:H b with
  |none=>rfl
  |some u=>
   rcases O b u q with⟨rfl,_,_⟩|⟨t,j,rfl,_⟩
   . rw[y]at e;cases e;show absurd rfl (d1 _ _)
   . rw[A.at' t j]at e;cases e;show absurd rfl d2
 let f:∀ {b:Addr} {m:Str->Option Value},c.heap.Ns b m->(pD c.heap H).Ns b m:=λ{b m} ⟨o,Z,ep,e,d,r⟩=>by
  show⟨o,Z,ep,qO e ?_,d,r⟩;cases q:H b with
  |none=>rfl
  |some u=>
   rcases O b u q with⟨rfl,_,_⟩|⟨t,j,rfl,_⟩
   . rw[y]at e;cases e;cases d
   . rw[A.at' t j]at e;cases e;cases d
 let W:K.In (pD c.heap H):=λb o e=>qO (KX b o e) (by
  cases q:H b with
  |none=>rfl
  |some u=>
   rcases O b u q with⟨rfl,z,_⟩|⟨t,j,rfl,_⟩
   . rw[z]at e;cases e
   . rw[A.no t j]at e;cases e)
 obtain⟨N,D,b1,b2,b3,b4,b5,b6⟩:=a3;let U:(pD c.heap H).get? N=some D:=qO b3 (n b3 (λZ ep z=>by rw[b6]at z;cases z) (λz=>by rw[b4]at z;cases z))
 let ag:(pD c.heap H).NoSeer:=by
  obtain⟨⟨m1,a1,a2⟩,⟨m2,c1,c2⟩,⟨m3,d1,d2⟩,⟨az,L,ah,e1,l,B,e4,e5⟩⟩:=aU;show⟨⟨m1,f a1,a2⟩,⟨m2,f c1,c2⟩,⟨m3,f d1,d2⟩,⟨az,L,ah,f e1,l,qO B ?_,e4,e5⟩⟩;cases q:H L with
  |none=>rfl
  |some u=>
   rcases O L u q with⟨rfl,_,_⟩|⟨t,j,rfl,_⟩
   . rw[y]at B;cases B;show absurd (show Value.type "list"=Value.type "module" from e4) (by intro z;injection z with z;show absurd z (by decide))
   . rw[A.at' t j]at B;cases B;cases e4
 let hM:Mod K M (pD c.heap H):=⟨W,f S,⟨mb,f hb,a4⟩,let⟨mc,h1,h2⟩:=T;⟨mc,f h1,h2⟩,ag,⟨N,D,b1,b2,U,b4,b5,b6⟩⟩
 let e0:vF P w K M (pD c.heap H) callerA [] c H:=⟨rfl,hM,λb o e=>OV e,ZR (GB _ _),trivial,λb hb=>absurd (show b∈([]:List Addr)from hb) (by simp),aH,.of_eq hg,a0⟩
 show Zh ((F _ W (f S)).run callerA [] c H ⟨[.ref a],[]⟩ [.ref a] [.ref a] _ _ hr e0 (G c (.ref a)) (.cons rfl .nil) (aA H hE)) λr s' h=>?_;cases r with
 |error e=>show False.elim h
 |ok fl=>
  cases fl with
  |next=>show False.elim h
  |brk=>show False.elim h
  |cont=>show False.elim h
  |ret u=>
   obtain⟨v,H',os,X,un,p,r',q⟩:=h;let q':v= .bl true:=q;subst q';obtain rfl:u=Value.bool true:=r';let ar:∀b:Addr,b∉pV ([]:List Env):=λb z=>absurd (show b∈([]:List Addr)from z) (by simp);show⟨rfl,⟨λb o e=>?_,λb o e=>un.there b o e (by simp)⟩,os,X⟩;cases q:H b with
   |none=>show .inl (un.keep b o e q (ar b) (by simp))
   |some u=>
    rcases O b u q with⟨rfl,_,rfl⟩|⟨t,j,rfl,rfl⟩
    . obtain⟨l,_⟩:=p b _ (un.oR b _ _ q);rw[y]at e;cases e;show .inl l
    . obtain⟨more,e1⟩:=un.og _ _ q;let l:s'.heap.get? t.2=some {cls:= .none,data:= .fields (#[]++more)}:=p _ _ e1;let B:=A.at' t j;rw[B]at e;cases e;let C:PySem.W.CodeHd c.heap t.1 t.2:=PySem.W.codeHd_of_K KX (A.hd t j);show .inr (.inl ⟨(C.tab B).isCodeTable,rfl,#[],more,rfl,l⟩)
def RQ{l:PySem.W.OpenLaw}{n k:Nat}{d:DefRec}{K:Params->PySem.W.Frag}{sp:World->Sp}
 (y:l.most=some n) (i:n<=sizeLine) (p:d.params.defaults=[]) (r:cJ k callerA) (t:importsNone q=true) (m:l.prog.given.tree=none)
 (C:∀(w:World) (h:Heap),YP w h->(K w.params).In h/\O9 (K w.params) ts h)
 (F:∀(w:World) (mg:Str->Option Value) (fa:Addr) (h:Heap),(K w.params).In h->h.Ns mainGlobals mg->mg d.name=some (.ref fa)->
   ∃fd:FuncData,(∀(s:Shared) (u:Value),BindsTo s fd ⟨[u],[]⟩ [(x,u)])/\
    ∀b:Heap,(K w.params).In b->b.Ns mainGlobals mg->cY l.prog w (K w.params) mg b (λ_ _ _ _ _ _=>False) k fa fd [x] (sp w))
 (g:∀(w:World) (H:Hp) (a:Addr) (ns:List Int),ns.length<=n->Entry (K w.params) ts a ns H->sp w [.ref a] H (λv _=>v= .bl true) λ_ _ _=>False):
 PySem.W.WalkO q loose XP YP l.row.toRowW d [] (λf vs=>PySem.call f vs):=by
 show Att.De y p λw M L mg O fa o N R J a vs ns G Y P Q A j e hints c z=>?_;obtain⟨KX,D⟩:=C w _ Y;obtain⟨fd,B,E⟩:=F w mg fa _ KX G.T.g j;show Hx KX G.T.g G.T.b G.T.builtins G.T.nolimit (G.T.seer t) m G.T.bmain D z e hints (VU c i) r E B λH I=>g w H a ns c I
end L2
namespace L3
open PySem PySem.Spec L2
open PyProof.Rows hiding St
section
variable {X:Cx}{pins:List (Addr×Obj)}{σ:L2.St}{H:Hp}{s:Shared}{p:Addr}{o o':Obj}{h':Heap}
def lS(I:Inv X pins σ H s)(f:∀v,o.data≠ .cell v)(c:o.isFreed=false:=by rfl):Inv X (pins++[(s.heap.objs.size,o)]) σ H {s with heap:=s.heap.push o,toks:=t'}:=by
 let d:=I.kept (h':=s.heap.push o) (t':=t') (λb u e=>VJ _ e);show d.ur λq a=>?_;rcases WC.mp a with a|a
 . show d.pin q (We _ a)
 . have e:q=(s.heap.objs.size,o):=by simpa using a
   subst e;show⟨V4 _ c,I.aH.fresh (VL _),Xa I.lt,I.Rm (VL _),f⟩
def fS(I:Inv X (pins++[(p,o)]) σ H s):s.heap.get? p=some o/\H p=none/\p≠X.env.locals/\p∉X.fs/\∀v,o.data≠ .cell v:=
 I.pin (p,o) (We _ (We _ (Xi.mpr rfl)))
def BS(I:Inv X (pins++[(p,o)]) σ H s):∀x c,X.env.cells.lookup x=some c->c≠p:=λx c e z=>by
 obtain⟨v,u,a,b⟩:=I.cell x c e;obtain⟨f,_,_,_,d⟩:=fS I;rw[z,f]at a;cases a;show d v b
def ou(I:Inv X (pins++[(p,o)]) σ H s)(hs:Heap.SameBut p s.heap h')(h:h'.get? p=some o')(i:∀v,o'.data≠ .cell v)(k:X.s₀.heap.objs.size<=p)(g:∀q∈X.pn++pins,q.1≠p):
 Inv X (pins++[(p,o')]) σ H {s with heap:=h',toks:=t'}:=by
 obtain⟨_,n,a,d,_⟩:=fS I;let l:Inv X pins σ H s:=I.ie;let f:=l.turned (t':=t') (h':=h') (it:=p) (λb u j e=>(hs.2 b j).trans e) n a (.inr k) (BS I) g;show f.ur λq c=>?_;rcases WC.mp c with c|c
 . show f.pin q (We _ c)
 . have e:q=(p,o'):=by simpa using c
   subst e;show⟨h,n,a,d,i⟩
def IK(I:Inv X (pins++[(p,o)]) σ H s)(v:X.s₀.heap.objs.size<=p)(t:∀q∈X.pn++pins,q.1≠p)(new:dm X.prog X.w (upd H p u) s.heap p u):Inv X pins σ (upd H p u) s:=by
 obtain⟨D,n,d,l,_⟩:=fS I;let a:∀ {b:Addr} {w:HO},H b=some w->b≠p:=λe=>dH e n;let f:∀ {b:Addr} {w:Obj},X.s₀.heap.get? b=some w->b≠p:=λe=>Wb (V9 (VY e) v);show⟨I.ok,I.os,I.bare,⟨I.base.keep,I.base.slot,λb w e q r=>?_,I.base.there,λb h e=>?_,λb w y e=>?_,λb k e=>?_⟩,I.loc,I.cell,?_,λx c e=>?_,λq i=>?_,λb w e=>?_,I.len⟩
 . rw[aB (f e)];show I.base.free b w e q r
 . have:=I.base.pq b h e;rw[aB (a this)];show this
 . have:=I.base.oR b w y e;rw[aB (a this)];show this
 . obtain⟨m,q⟩:=I.base.og b k e;show⟨m,by rw[aB (a q)];show q⟩
 . rw[aB (VO d)];show I.free
 . rw[aB (BS I x c e)];show I.iS x c e
 . have g:q∈X.pn++(pins++[(p,o)]):=by
    rcases WC.mp i with z|z
    . show Xh _ z
    . show We _ (Xh _ z)
   obtain⟨C,B,A⟩:=I.pin q g;show⟨C,by rw[aB (t q i)];show B,A⟩
 . by_cases j:b=p
   . subst j;rw[aW]at e;cases e;show new
   . rw[aB j]at e;show(I.aH b w e).pL (λ_ _ _ q=>q) (λc q=>by rw[aB (a q)];show q) λc h q=>by rw[aB (a q)];show q
end
def nB(X:Cx)(pins:List (Addr×Obj))(σ:L2.St)(R:Hp->Prop)(a:List (Addr×Obj))(s:Shared):Prop:=∃H,Inv X (pins++a) σ H s/\R H
section
variable {X:Cx}{pins:List (Addr×Obj)}{σ:L2.St}{R:Hp->Prop}{s:Shared}{A:Around}{E:Value->Shared->Prop}{a kS:Addr}{e1 e:Nat}{keys:Array Value}{P:PySem.Fin->Shared->Prop}
structure Own(X:Cx)(pins:List (Addr×Obj))(p:Addr):Prop where
 ge:X.s₀.heap.objs.size<=p
 ne:∀q∈X.pn++pins,q.1≠p
def um(I:Inv X pins σ H s):Own X pins s.heap.objs.size:=⟨I.sz,λq b=>Wb (VY (I.pin q b).1)⟩
def Bj(h:Own X pins p)(c:q.1≠p):Own X (pins++[q]) p:=⟨h.ge,λr b=>by
 rcases WC.mp b with z|z
 . show h.ne r (Xh _ z)
 . rcases WC.mp z with z|z
   . show h.ne r (We _ z)
   . have e:r=q:=by simpa using z
     rw[e];show c⟩
def Ay(J:nB X pins σ R [x,y] s):∃H,Inv X ((pins++[x])++[y]) σ H s/\R H:=by
 obtain⟨H,I,r⟩:=J;show⟨H,by rw[Yk];show I,r⟩
def Hz(I:Inv X ((pins++[x])++[y]) σ H s)(r:R H):nB X pins σ R [x,y] s:=⟨H,by rw[Yk]at I;show I,r⟩
def Bi{st:SortSt}(J:nB X pins σ R [(a,seqObj "list" #[] e1),(kS,seqObj "list" keys e)] s)(k:Own X pins a)(j:Own X pins kS)(f:kS≠a)(d:keys.size<=sizeLine)(b:(arrOf st).size<=sizeLine)(o:failedOf st=none)
 (h:∀s' c,nB X pins σ R [(a,seqObj "list" ((arrOf st).map (·.2)) c)] s'->P (.done (.ret .none)) s'):
 wpAny (model X.prog X.w) A (PyProof.Rows.ksk_tail a false e1 (.ref kS) st) P E s:=by
 obtain⟨H,I,r⟩:=Ay J;let i:=(fS I).1;let n:=Xb s.heap kS (Obj.mapSeq λ_=>(#[]:Array Value));let q:=ou (t':=s.toks) I n (Zf i λ_=> #[]) (λv z=>by cases z) j.ge (Bj j f.symm).ne;let l:Inv X (pins++[(a,seqObj "list" #[] e1)]) σ H {s with heap:=s.heap.update kS (Obj.mapSeq λ_=>(#[]:Array Value)),toks:=s.toks}:=q.ie;let g:=(fS l).1;let m:=Xb (s.heap.update kS (Obj.mapSeq λ_=>(#[]:Array Value))) a (Obj.mapSeq λ_=>(arrOf st).map (·.2));let p:=ou (t':=s.toks) l m (Zf g λ_=>(arrOf st).map (·.2)) (λv z=>by cases z) k.ge k.ne;unfold ksk_tail;simp![Wv,Xl];show VG (aas i rfl ?_ d (V3 _));show VG (YE ?_);show VG (seqEpoch_at g rfl ?_);show VG (aas g rfl ?_ (V3 _) (Nat.le_succ_of_le (by rw[abe];show b)));rw[o];simp![bne_self_eq_false,Wv,Xl];show VQ (h _ _ ⟨H,p,r⟩)
def Fy(kz:List Int)(vs out:List Value):Prop:=
 ∃b:List (Int×Value),b.Perm (kz.zip vs)/\out=b.map Prod.snd/\b.Pairwise λp q=>p.1<=q.1
def Ep{vs:List Value}(f:IntsAre keys.toList kz){xs:Array Keyed}(d:xs.Perm (keys.zip vs.toArray))(hs:SortedTo xs xs.size):Fy kz vs (xs.map (·.2)).toList:=by
 obtain⟨c,i,h,g⟩:=ksk_out f (b:=false) d hs;show⟨c,i,h,g⟩
def N2{kz:List Int}{vs:List Value}(J:nB X pins σ R [(a,seqObj "list" #[] e1),(kS,seqObj "list" keys e)] s)(r:Own X pins a)(p:Own X pins kS)(g:kS≠a)(k:IntsAre keys.toList kz)(F:kz.length=vs.length)(m:vs.length<64)
 (h:∀s' out c,nB X pins σ R [(a,seqObj "list" out c)] s'->Fy kz vs out.toList->P (.done (.ret .none)) s'):
 wpAny (model X.prog X.w) A (ksk_end a false vs.toArray e1 (.ref kS) keys) P E s:=by
 let l:keys.size=vs.length:=by let:=k.length;rw[WE]at this;lia
 let t:(keys.zip vs.toArray).size=vs.length:=by rw[Array.size_zip,l,VW,abp]
 let q:vs.length<=sizeLine:=VU (Xq m) (by decide);unfold ksk_end;simp![Wv,Xl];by_cases d:vs.toArray.size<2
 . rw[VN d,VN d];show VG (VQ ?_);rw[StateT.run_pure];show VG (VQ ?_);show Bi (st:=SortSt.mk' general' (keys.zip vs.toArray) #[] 7 none) J r p g (by lia) (by change(keys.zip vs.toArray).size<=_;lia) rfl λs' c n=>h s' _ c n ?_;show Ep k (Array.Perm.refl _) λi j x w=>?_;let v:j<(keys.zip vs.toArray).size:=w;rw[VW]at d;let:i=j:=by lia
   rw[this];show aa5 _
 . rw[VM d,VM d];rw[VW]at d;rw[ksk_kind k (by lia)];show VG (VQ ?_)
   show VG (X6 (wpS_sortRuns (a₀:=keys.zip vs.toArray) (st:=SortSt.mk' oneType' (keys.zip vs.toArray) #[] 7 none)
    (Q:=λ_ b=>(arrOf b).Perm (keys.zip vs.toArray)/\failedOf b=none/\SortedTo (arrOf b) (keys.zip vs.toArray).size)
    (ksk_intKeys k) ⟨Array.Perm.refl _,rfl,rfl,rfl⟩ (by lia) (by lia) λb D C B=>⟨D,C,B⟩) ?_ λ_ _ z=>z)
   rintro⟨⟨⟩,b⟩ s' ⟨rfl,o,y,u⟩;let f:=o.size_eq;show Bi (st:=b) J r p g (by lia) (by rw[f];lia) y λs' c n=>h s' _ c n (Ep k o (by rw[f];show u))
def JU{kz:List Int}{vs:List Value}(J:nB X pins σ R [(a,seqObj "list" #[] e1),(kS,seqObj "list" #[] 0)] s)(G:Own X pins a)(p:Own X pins kS)(m:kS≠a)(D:kz.length=vs.length)(n:vs.length<64)
 (turn:∀(i:Nat) (v:Value) (k:Int),vs[i]?=some v->kz[i]?=some k->∀(d:List (Addr×Obj)) (s:Shared),nB X pins σ R d s->wpAny (model X.prog X.w) A (call f [v]) (λu s'=>(∃t,u= .int k t)/\nB X pins σ R d s') (λ_ _=>False) s)
 (h:∀s' out c,nB X pins σ R [(a,seqObj "list" out c)] s'->Fy kz vs out.toList->P (.done (.ret .none)) s'):
 wpAny (model X.prog X.w) A (ksk_rest a f false vs.toArray e1 (.ref kS)) P E s:=by
 let B:vs.length<=sizeLine:=VU (Xq n) (by decide);unfold ksk_rest;show VG (Zo ?_)
 first
  |rw[List.forIn_toArray]
  |(rw[<-Zj];simp![List.toList_toArray])
  |rw[<-Zj]
 show VG (ksk_fold (λi s'=>∃g e,nB X pins σ R [(a,seqObj "list" #[] e1),(kS,seqObj "list" g e)] s'/\IntsAre g.toList (kz.take i)) vs 0 s ⟨#[],0,J,by simpa using IntsAre.nil⟩ ?st ?en)
 case st=>
  rintro j x s' y ⟨g,e,o,b⟩;simp![XX]at b⊢;let O:j<vs.length:=(VI.mp y).1;let l:kz[j]?=some (kz[j]'(by lia)):=VV _
  let N:g.size<=vs.length:=by
   let:=b.length;rw[WE,W4]at this;lia
  show VG (Za (X6 (turn j x _ y l _ s' o) (λv q F=>?_) λ_ _ z=>z.elim));obtain⟨⟨t,rfl⟩,L⟩:=F;obtain⟨H,I,r⟩:=Ay L;let w:=(fS I).1;let C:=Xb q.heap kS (Obj.mapSeq (·.push (.int (kz[j]'(by lia)) t)));let M:=ou (t':=q.toks) I C (Zf w (·.push (.int (kz[j]'(by lia)) t))) (λv z=>by cases z) p.ge (Bj p m.symm).ne;show VG (aas w rfl ?_ (by lia) (VU (ZR (Array.size_push ..)) (by lia)));show VQ ⟨rfl,_,_,Hz M r,?_⟩;let K:kz.take (j+1)=kz.take j++[kz[j]'(by lia)]:=by rw[List.take_add_one,l];simp
  rw[K,Array.toList_push];show ksk_snoc b
 case en=>
  rintro s' ⟨g,e,o,b⟩;rw[show kz.take (0+vs.length)=kz from Xm (by lia)]at b;obtain⟨H,I,r⟩:=Ay o;show VG (listItems_at (fS I).1 rfl ?_);show N2 o G p m b D n h
def EJ{kz:List Int}{vs:List Value}(I:Inv X pins σ H s)(r:R H)(y:s.heap.IsList l vs.toArray)(O:kz.length=vs.length)(g:vs.length<64)
 (turn:∀(i:Nat) (v:Value) (k:Int),vs[i]?=some v->kz[i]?=some k->∀(d:List (Addr×Obj)) (s:Shared),nB X pins σ R d s->wpAny (model X.prog X.w) A.in1.in1 (call (.ref f) [v]) (λu s'=>(∃t,u= .int k t)/\nB X pins σ R d s') (λ_ _=>False) s)
 (h:∀D s' out c,Own X pins D->nB X pins σ R [(D,seqObj "list" out c)] s'->Fy kz vs out.toList->Q (.ref D) s'):
 wpAny (model X.prog X.w) A (call (.builtin "sorted") [.ref l] [(Str.ofString "key",.ref f)]) Q E s:=by
 let b:vs.length<=sizeLine:=VU (Xq g) (by decide);show call_function_entry_kw kind_sorted plain_sorted entry_sorted (ksk_s1 _ _) ?_;unfold Builtin.«sorted»;show VG (m:=checkCount "sorted" 1 1 _) (VQ ?_);show VG (collect_list y ?_ b);let J:=lS (o:=seqObj "list" #[] 0) (t':=s.toks) I (λv z=>by cases z);let M:=Xb (s.heap.push (seqObj "list" #[] 0)) s.heap.objs.size (Obj.mapSeq (· ++vs.toArray));let V:=ou (t':=s.toks) J M (Zf (fS J).1 (· ++vs.toArray)) (λv z=>by cases z) (um I).ge (um I).ne;let U:Inv X pins σ H {s with heap:=(s.heap.push (seqObj "list" #[] 0)).update s.heap.objs.size (Obj.mapSeq (· ++vs.toArray)),toks:=s.toks}:=V.ie;show VG (wpAny_newList ?_ b);generalize x:({s with heap:=(s.heap.push (seqObj "list" #[] 0)).update s.heap.objs.size (Obj.mapSeq (· ++vs.toArray))}:Shared)=s3;let j:Inv X pins σ H s3:=by rw[<-x];show U
 let n:=um j;let G:=lS (o:=seqObj "list" vs.toArray 0) (t':=s3.toks) j (λv z=>by cases z);let p:=(fS G).1;show VG (XJ (wpAny_call_entry_kw slot_list_sort ⟨_,p,rfl⟩ entry_list_sort ?body (ksk_l1 _ _)))
 case body=>
  change wpAny (model X.prog X.w) A.in1.in1 (Builtin.«list.sort» ⟨[.ref s3.heap.objs.size],[(Str.ofString "key",.ref f)]⟩) _ _ _;rw[ksk_t1];unfold ksk_tree;show VG (listItems_at p rfl ?_);let L:=Xb (s3.heap.push (seqObj "list" vs.toArray 0)) s3.heap.objs.size (Obj.mapSeq λ_=>(#[]:Array Value));let F:=ou (t':=s3.toks) G L (Zf p λ_=> #[]) (λv z=>by cases z) n.ge n.ne;let B:=(fS F).1;show VG (aas p rfl ?_ (by rw[VW];show b) (V3 _));show VG (seqEpoch_at B rfl ?_);show VG (abc ?_ (by change vs.length<=_;show b));let C:=(lS (o:=seqObj "tuple" vs.toArray 0) (t':=s3.toks) F (λv z=>by cases z)).ie;show VG (wpAny_newList ?_ (V3 _));let ok:=um C;let T:=lS (o:=seqObj "list" #[] 0) (t':=s3.toks) C (λv z=>by cases z);show XJ ?_
  let w:Own X pins _:=⟨ok.ge,λq N=>ok.ne q (by
   rcases WC.mp N with z|z
   . show Xh _ z
   . show We _ (Xh _ z))⟩
  show JU (Hz T r) n w (λz=>ok.ne (s3.heap.objs.size,_) (We _ (We _ (Xi.mpr rfl))) z.symm) O g turn λs' out c S K=>⟨_,rfl,?_⟩
  show VQ ⟨_,rfl,h _ s' out c n S K⟩
end
structure nJ(X:Cx)(scope:Scope)(Nc:List Str)(fr:List (Option Nat))(p:Str):Prop where
 sc:cN X scope Nc fr
 Hl:∀x∈scope.names,x.2≠ .cell
 co:scope.isCoroutine=false
 gen:scope.isGenerator=false
 p0:Nc[0]?=some p
 f0:fr[0]?=some none
 loc:scope.names.lookup p=some .local
abbrev Fp(X:Cx)(scope:Scope)(qual:Str)(f c:Addr)(s:Shared):Env:=PySem.W.envX qual scope s.heap.objs.size f (.ref c) (dq X.env.cells scope.names [])
def HX(X:Cx)(scope:Scope)(Nc:List Str)(a:Str)(f c:Addr)(s:Shared)(H:Hp):Cx:=
 {X with A:=X.A.in1.in1.deeper (Fp X scope a f c s),N:=Nc,s₀:=s,H₀:=H,env:=Fp X scope a f c s,outer:=X.stack,stack:=Fp X scope a f c s::X.stack,ex:=[],fn:=λ_=>false,calm:=true,pn:=[],xe:=λ_ _=>False}
section
variable {X:Cx}{scope:Scope}{Nc:List Str}{fr:List (Option Nat)}{p qual:Str}{f c:Addr}{pins:List (Addr×Obj)}{σ:L2.St}{H:Hp}{s:Shared}
def Pf(S:nJ X scope Nc fr p)(I:Inv X pins σ H s)(j:X.calm=true):(HX X scope Nc qual f c s H).Ok where
 mod:=I.ok.mod
 kind:=S.sc.kind
 glob:=rfl
 blt:=rfl
 above:=VL _
 inj:=λx y a l k=>I.ok.inj x y a (cW _ [] (λ_ _ e=>by cases e) x a l) (cW _ [] (λ_ _ e=>by cases e) y a k)
 has:=λx d=>by
  let h:scope.names.lookup x=some .cell\/scope.names.lookup x=some .free:=d;rcases h with d|d
  . show absurd rfl (S.Hl _ (WH d))
  . show i7 scope.names [] (I.ok.has x (S.sc.free _ (WH d) rfl)) (.inl (WH d))
 AB:=λx a i _=>by cases i
 hd:=λ_=>I.ok.hd j
 frames:=Around.frames_deeper (by change X.A.frames=_;show I.ok.frames)
 ED:= .inr ⟨rfl,rfl⟩
 GQ:=λb g=>by cases g
 bs:=I.bs
 tV:=VU I.ok.tV I.sz
 vO:=λb o e g=>by cases g
 vQ:=λb g=>by cases g
 lg:=I.stack
 xJ:=I.xR
 gt:=I.ok.gt
def N8{h':Heap}(S:nJ X scope Nc fr p)(I:Inv X pins σ H s)(P:X.calm=true)(r:RelV v u)(O:h'.Ns s.heap.objs.size (λx=>[(p,u)].reverse.lookup x))
 (k:∀b o,s.heap.get? b=some o->h'.get? b=some o):Inv (HX X scope Nc qual f c s H) [] ((σC fr σ).set 0 (some v)) H {s with heap:=h',toks:=t'} where
 ok:=Pf S I P
 os:=rfl
 bare:=I.bare
 base:=Un.kept k
 loc:=⟨_,O,λi x w A d T=>by
  by_cases t:i=0
  . subst t;let N:=S.p0;let e:p=x:=W0 (N.symm.trans A);subst e
    let g:0<(σC fr σ).length:=by
     let:=(VI.mp d).1;rw[V0]at this;show this
    rw[VX g]at d;cases d;show⟨u,r,.inl ⟨S.loc,by simp⟩⟩
  . rw[VP (VO t)]at d;obtain⟨j,G,F⟩:=Ek d;obtain⟨J,n,l⟩:=S.sc.map i j x A G;obtain⟨m,R,g⟩:=I.loc;obtain⟨D,E,K⟩:=g j x w J F (l.elim (λz=> .inr (.inl z)) λz=> .inr (.inr z));show⟨D,E,?_⟩;rcases K with⟨z,_⟩|⟨_,a,e,L⟩
    . rcases l with y|y<;>(rw[y]at z;cases z)
    . obtain⟨Q,C⟩:=i7 scope.names [] ⟨a,e⟩ (.inl (WH n));let B:=cW _ [] (λ_ _ e=>by cases e) x Q C;rw[e]at B;cases B;show .inr ⟨.inr n,a,C,L.keeps k⟩⟩
 cell:=λx a h=>by
  obtain⟨v,q⟩:=I.cell x a (cW _ [] (λ_ _ e=>by cases e) x a h);show⟨v,q.keeps k⟩
 free:=I.aH.fresh (VL _)
 iS:=λx a h=>I.iS x a (cW _ [] (λ_ _ e=>by cases e) x a h)
 pin:=λq M=>by cases M
 aH:=I.aH.kept k
 len:=by rw[V0];unfold σC;rw[VH];show S.sc.len
def JH{k:Int}(S:nJ X scope Nc fr p)(P:X.calm=true)(K:X.A.depth<recursionLimit)
 (Q:∀(s:Shared) (H:Hp),PE (HX X scope Nc qual f c s H) a B)
 (g:∀(cl:List (Str×Addr)) (i cd ct v:Value),bindArgs (PySem.W.kla_fn "<lambda>" qual params a scope cl i cd ct) ⟨[v],[]⟩=pure [(p,v)])
 (r:RelV v u) (N:(f,PySem.W.kla_obj "<lambda>" qual params a scope (dq X.env.cells scope.names []) i c h)∈pins)
 (q:∀(H:Hp) (s:Shared),Inv X (pins++d) σ H s->R H->s.heap.CodeRec (.ref c) qual)
 (L:∀H,R H->B ((σC fr σ).set 0 (some v)) H λx A=>x= .int k/\R A) (J:nB X pins σ R d s):
 wpAny (model X.prog X.w) X.A.in1.in1 (call (.ref f) [u]) (λu' s'=>(∃t,u'= .int k t)/\nB X pins σ R d s') (λ_ _=>False) s:=by
 obtain⟨H,I,C⟩:=J;let M:=(I.pin _ (We _ (Xh _ N))).1;show wpAny_call (PySem.W.kla_callFunE (fd:=PySem.W.kla_fn "<lambda>" qual params a scope (dq X.env.cells scope.names []) i (.ref c) h) (by change X.A.depth<_;show K) M rfl S.co S.gen rfl (q H s I C) ?_);rw[g]
 show VQ (wpAny_newFunctionEnv S.Hl (λy G=>by
  let e:y=(p,u):=by simpa using G
  rw[e];show S.loc) (λF n m=>?_) S.sc.kind)
 let D:∀b o,s.heap.get? b=some o->F.get? b=some o:=λb o e=>m.extBut b o (Wb (VY e)) (VJ _ e);show⟨I.nolimit.keeps D,?_⟩;change codeAny _ X.A.in1.in1 (.expr a (Fp X scope qual f c s)) _ _;show PySem.W.kla_codeExpr (X6 (Q s H [] _ _ H _ (N8 S I P r n D) (L H C)) (λw s' O=>?_) λe s' z=>False.elim z);obtain⟨x,A,j,E,rfl,l⟩:=O;show⟨E,A,I.E_ (s':=s') (ch:=[]) j.os j.base j.aH j.bare (λb z=>absurd z (by simp)),l⟩
def set_same{α:Type}:∀ {l:List α} {n:Nat} {x:α},l[n]?=some x->l.set n x=l
 | [],n,x,h=>by simp at h
 |a::l,0,x,h=>by simp at h;subst h;rfl
 |a::l,n+1,x,h=>by
  rw[List.set_cons_succ,set_same (n:=n) (by simpa using h)]
def K7{k:Expr}{g:Pos}{st:ae}(S:nJ X scope Nc fr p)(A:X.env.code= .ref c0)(hC:PySem.W.codeHdIn X.K c0 T=true)
 (ah:defaultsOf params X.env=([],[])) (aA:X.env.qual++"<lambda>"=qual) (I:Inv X pins σ H s) (Sp:b_ G F H) (SR:aV α st G) (Z:st[n0]?=some (.tab T g qual b))
 (h:∀(f c:Addr) (ctv pm:Value) (G2 H2:Hp) (s2:Shared),Inv X (pins++[(f,PySem.W.kla_obj "<lambda>" qual params k scope (dq X.env.cells scope.names []) pm c ctv)]) σ H2 s2->Step α G α G2->b_ G2 F H2->aV α (st.set n0 (.tab T g qual true)) G2->
   (some c∉α/\∃o vs t,G2 c=some (.gI o (.own c))/\o.data= .fields vs/\vs[1]?=some (.str qual t))->Q (.ref f) s2):
 wpAny (model X.prog X.w) X.A (eval (.Lambda params k scope g) X.env) Q E s:=by
 show PySem.W.kla_eval ah ?_;rw[aA];rcases SR.at' n0 _ Z with⟨z,_⟩|⟨a,ha,rfl,O,gP,tr,cs⟩
 . cases z
 let R:=I.aH a _ (Sp.get gP);let R:s.heap.get? a=some (PySem.W.tabObj O):=R;let hg:s.heap.Ns mainGlobals X.mg:=I.mod.glob.keeps I.bk;obtain⟨bm,ob,b1,b2,b3,b4,b5,b6⟩:=I.mod.bmain;let B:=I.bk _ _ b3
 let aH:mainGlobals≠a:=λq=>by
  obtain⟨o,es,ep,e,y,_⟩:=hg;rw[q,R]at e;cases e;cases y
 let n1:bm≠mainGlobals:=λq=>by
  obtain⟨o,es,ep,e,y,_⟩:=hg;rw[q,e]at B;cases B;rw[y]at b6;cases b6
 let n2:bm≠a:=λq=>by rw[q,R]at B;cases B;cases b4
 let hB:s.heap.BuiltinsAt X.mg a:=⟨bm,ob,b1,b2,n1,n2,B,b4,b5,b6⟩
 let ar:closureFor scope X.env=pure (dq X.env.cells scope.names []):=nk λx M hk=>I.ok.has x.1 (S.sc.free x M hk);let C:PySem.W.CodeHd s.heap c0 a:=PySem.W.codeHd_of_K I.g9 hC;rcases cs with⟨rfl,Y⟩|⟨rfl,c,o,vs,t,q1,q2,q3,q4,q5⟩
 . show PySem.W.kla_makeFunction ar I.ok.glob hg A C R tr Y aH hB λi ctv h' tk M ag a3 V U=>?_;obtain⟨c2,P,vs,t,e2,W,y,hv⟩:=V;cases e2;let K:H i=none:=I.aH.fresh ag;let L:G i=none:=(Sp.none K).1;let j:H a=some (.kn O):=Sp.get gP;let N:a≠i:=dH j K
   letI D:=O++ #[rawInt g.line,rawInt g.col,.ref i]
   let nb:∀ {b:Addr},H b=none->b≠a:=λe z=>by rw[z,j]at e;cases e
   let I1:Inv X pins σ (upd (upd H i (.gI P (.own i))) a (.kn D)) {s with heap:=h',gens:=s.gens,drawn:=s.drawn,toks:=tk}:=by
    let l:∀ {b:Addr} {u:HO},H b=some u->b≠a->upd (upd H i (.gI P (.own i))) a (.kn D) b=some u:=λe n=>by rw[aB n,aB (dH e K)];show e
    show I.step (ch:=[]) (λ_ z=>nomatch z) (λb o _ _ _ e n=>M b o (nb n) e) (λb o _ _ _ e n=>⟨o.slots,M b o (nb n) e⟩) (λb o _ e n=>?_) (λb o _ e=>?_) (λb xs e=>?_) (λb o u e=>?_) (λb qs e=>?_) (λm hm=>?_) (λb u e=>?_) I.bare
    . rw[aB (nb n),aB (Wb (V9 (VY e) ag))];show n
    . by_cases J:b=a
      . show⟨_,by rw[J];show U⟩
      . show⟨o,M b o J e⟩
    . show l e λz=>by rw[z,j]at e;cases e
    . show l e λz=>by rw[z,j]at e;cases e
    . by_cases J:b=a
      . subst J;rw[j]at e;cases e;show⟨_,aW⟩
      . show⟨#[],by rw[l e J];simp⟩
    . obtain⟨o,es,ep,ho,r⟩:=hm;show⟨o,es,ep,M _ o (nb I.free) ho,r⟩
    . by_cases J:b=a
      . subst J;rw[aW]at e;cases e;show U
      . rw[aB J]at e;by_cases az:b=i
        . subst az;rw[aW]at e;cases e;show⟨W,_,W⟩
        . rw[aB az]at e;show(I.aH b u e).pL (λd w y q=>M d w ?_ q) (λd q=>l q λz=>by rw[z,j]at q;cases q) λd xs q=>l q λz=>by rw[z,j]at q;cases q
          rcases y with rfl|y
          . show J
          . intro z;rw[z,j]at y;cases y
   let I2:=lS (o:=PySem.W.kla_obj "<lambda>" qual params k scope (dq X.env.cells scope.names []) ((X.mg "__name__").getD .none) i ctv) (t':=tk) I1 (λv z=>by cases z);let aU:upd G i (.gI P (.own i)) a=some (.kn O):=by rw[aB N];show gP
   show h _ i ctv _ (upd (upd G i (.gI P (.own i))) a (.kn D)) _ _ I2 ((Step.laid L).trans (Step.write (Wn ha))) ((Sp.laid K).write aU) ((SR.laid L).write ha ⟨rfl,D,aW,?_,.inr ⟨rfl,i,P,vs,t,?_,SR.jW L,?_,y,hv⟩⟩) ⟨SR.jW L,P,vs,t,?_,y,hv⟩
   . change TriplesOk (O++ #[rawInt g.line,rawInt g.col,.ref i]).toList;rw[aac];show TriplesOk_snoc _ _ _ _ tr
   . change codeAmong g (O++ #[rawInt g.line,rawInt g.col,.ref i]).toList=_;rw[aac];show codeAmong_snoc _ tr Y
   . rw[aB N.symm,aW]
   . rw[aB N.symm,aW]
 . show PySem.W.kla_makeFunctionHit ar I.ok.glob hg A C R tr q1 hB λctv h' tk hk a0=>?_;let I1:=I.kept (t':=tk) hk;let I2:=lS (o:=PySem.W.kla_obj "<lambda>" qual params k scope (dq X.env.cells scope.names []) ((X.mg "__name__").getD .none) c ctv) (t':=tk) I1 (λv z=>by cases z);show h _ c ctv _ G H _ I2 Step.refl Sp (by rw[set_same Z];show SR) ⟨q2,o,vs,t,q3,q4,q5⟩
end
def slt(p q:Int×Int):Prop:=p.1<=q.1
def Cr(g:Nat)(T:Addr)(c:Pos)(a:Str)(fr:List (Option Nat))(o m:DE):DE:=λσ q K=>m σ q λd e=>∃(f l:List Int) (b:Bool),d= .lst (f.map .int)/\f.length<64/\f.Pairwise (· < ·)/\l.length=f.length/\
 e[g]?=some (.tab T c a b)/\(∀(i:Nat) (n k:Int),f[i]?=some n->l[i]?=some k->o ((gS fr σ).set 0 (some (.int n))) (e.set g (.tab T c a true)) λv h=>v= .int k/\h=e.set g (.tab T c a true))/\
 ∀j:List (Int×Int),j.Perm (l.zip f)->j.Pairwise slt->K (.lst (j.map λp=> .int p.2)) (e.set g (.tab T c a true))
def A3:∀ {ns:List Int} {vs:List V},aF α H (ns.map D.int) vs->vs=ns.map V.int
 | [],vs,h=>by unfold aF at h;show h
 |n::ns,vs,h=>by
  unfold aF at h;obtain⟨v,r,rfl,a,b⟩:=h;unfold Rep at a;rw[a,A3 b];rfl
def Bc:∀(ns:List Int),aF α H (ns.map D.int) (ns.map V.int)
 | []=>by unfold aF;rfl
 |n::ns=>by unfold aF;show⟨_,_,rfl,by unfold Rep;rfl,Bc ns⟩
def BR:∀ {ns:List Int} {us:List Value},Vals (ns.map V.int) us->IntsAre us ns
 | [],_,.nil=> .nil
 |n::ns,_,.cons ⟨t,rfl⟩ h=> .cons n t (BR h)
section
variable {X:Cx}{scope:Scope}{Nc:List Str}{fr:List (Option Nat)}{p x qual:Str}{params:Arguments}{e body:Expr}{te tb:DE}{lpos kpos pos ppos:Pos}{c0 T:Addr}{n0:Nat}
def Ou(S:nJ X scope Nc fr p)(hc:X.calm=true)(hr:cJ 2 X.A)(N:X.env.code= .ref c0)(hC:PySem.W.codeHdIn X.K c0 T=true)(a4:defaultsOf params X.env=([],[]))(bl:X.env.qual++"<lambda>"=qual)
 (O:∀(cl:List (Str×Addr)) (pm cd ct v:Value),bindArgs (PySem.W.kla_fn "<lambda>" qual params body scope cl pm cd ct) ⟨[v],[]⟩=pure [(p,v)])
 (hb:∀(f c:Addr) (s:Shared) (H:Hp),PE (HX X scope Nc qual f c s H) body (LE tb)) (ha:PA X [e] (LA (ab te ai)))
 (hg:Gl X "sorted") (hm:X.mg "sorted"=none) (hv:bootBuiltins "sorted"=some (.builtin "sorted"))
 (he:backTo pos (starEach [e] X.env)=(false,eval e X.env)::backTo pos (starEach [] X.env):=by rfl) (bq:(backTo pos (starEach [e] X.env)).any (·.1)=false:=by rfl):
 PE X (.Call (.Name "sorted" ppos) [e] [⟨some "key",.Lambda params body scope lpos,kpos⟩] pos) (LE (Cr n0 T lpos qual fr tb te)):=by
 intro pins s σ H Q I h;obtain⟨α,σd,st,K,G,F,Sp,RS,SR,t,k⟩:=h;show YL (kZ I hg hm hv ?_);show callWith_kw ?_ he bq
 letI K1:DK:=λd g=>∃(j B:List Int) (b:Bool),d= .lst (j.map .int)/\j.length<64/\j.Pairwise (· < ·)/\B.length=j.length/\
  g[n0]?=some (.tab T lpos qual b)/\(∀(i:Nat) (n k:Int),j[i]?=some n->B[i]?=some k->tb ((gS fr σd).set 0 (some (.int n))) (g.set n0 (.tab T lpos qual true)) λv m=>v= .int k/\m=g.set n0 (.tab T lpos qual true))/\
  ∀os:List (Int×Int),os.Perm (B.zip j)->os.Pairwise slt->K (.lst (os.map λp=> .int p.2)) (g.set n0 (.tab T lpos qual true))
 show bZ (ha pos pins s σ H (λvs H1=>∃d v g C U,vs=[v]/\K1 d g/\Step α G C U/\b_ U F H1/\aV C g U/\Rep C U d v) I
  ⟨α,σd,st,λds g=>match ds with| [d]=>K1 d g|_=>False,G,F,Sp,RS,SR,t,λds g q C U H1 vs s1 P1 S1 W=>?_⟩) λus s1 ⟨vs,H1,I1,rv,d,v,g,C,U,bg,kd,ah,P1,S1,W⟩=>?_
 . match ds,q,W with
   | [d],q,W=>
     unfold aF at W;obtain⟨v,r,rfl,h1,h2⟩:=W;unfold aF at h2;subst h2;show⟨d,v,g,C,U,rfl,q,s1,P1,S1,h1⟩
 subst bg;obtain⟨j,B,b,rfl,b9,b7,b4,br,a3,hK⟩:=kd;change wpAny _ _ (evalAll ((do let v <-eval (.Lambda params body scope lpos) X.env;standAt pos;pure v)::[])) _ _ s1;show wpAny_evalAll_cons (VG (K7 S N hC a4 bl I1 P1 S1 br λf c bY pm G2 H2 s2 I2 m P2 S2 ⟨bR,o,vs,tq,bL,bG,bF⟩=>VG (aaq (VQ (wpAny_evalAll_nil ?_)))));let r2:=W.step m;unfold Rep at r2;obtain⟨l,xs,rfl,b8,bB,bA⟩:=r2;let bX:=A3 bA;subst bX;cases rv with
 |cons ru rn=>
  cases rn;cases ru
  let bj:Rd H2 l (.lst (j.map V.int)):=by
   rcases bB with z|⟨w,z⟩
   . show .inl (P2.get z)
   . show .inr ⟨w,P2.get z⟩
  obtain⟨_,L,nn,vv,a0⟩:=bj.ok I2.aH;let hints:=BR vv;let bw:=hints.length;let bb:∀(M:Hp),(∃A y,Step C G2 A y/\b_ y F M/\aV A (g.set n0 (.tab T lpos qual true)) y)->M c=some (.gI o (.own c)):=λM ⟨A,y,Z,Y,q3⟩=>Y.get (Z.ext c _ bR bL);change wpAny _ _ (call (.builtin "sorted") [.ref l] [(Str.ofString "key",.ref f)]) _ _ _
  show EJ (X:=X) (pins:=pins++[(f,PySem.W.kla_obj "<lambda>" qual params body scope (dq X.env.cells scope.names []) pm c bY)]) (R:=λM=>∃A y,Step C G2 A y/\b_ y F M/\aV A (g.set n0 (.tab T lpos qual true)) y) (kz:=B) (vs:=L)
   I2 ⟨C,G2,Step.refl,P2,S2⟩ ⟨_,a0,rfl,nn,rfl⟩ (by lia) (by lia) (λi u kk hu hk b6 s' J=>?_) λD s' out cc oD J so=>?_
  . have hi:i<j.length:=by
     let:=(VI.mp hu).1;lia
    obtain⟨tt,ht⟩:=hints.get i j[i] (VV hi);let ht:some u=some (Value.int j[i] tt):=by rw[<-hu];show ht
    cases ht;show JH (v:= .int j[i]) (u:= .int j[i] tt) S hc (by let:=hr.dp;lia) (hb f c) O ⟨tt,rfl⟩ (We _ (Xi.mpr rfl)) (λM ar J' r'=>?_) (λM r'=>?_) J
    . have q:=J'.aH c _ (bb M r');show⟨c,o,vs,tq,rfl,q.1,bG,bF⟩
    . obtain⟨A,y,Z,Y,q3⟩:=r';show⟨A,(gS fr σd).set 0 (some (.int j[i])),_,_,y,F,Y,?_,q3,a3 i j[i] kk (VV hi) hk,λd' b5 hd a8 b3 cg v' ar b2 b1 az=>?_⟩
      . show((RS.step ((ah.trans m).trans Z)).comp).set 0 (by unfold Rep;rfl)
      . obtain⟨rfl,rfl⟩:=hd;unfold Rep at az;show⟨az,a8,b3,Z.trans ar,b2,b1⟩
  . obtain⟨M,I',A,y,Z,Y,q3⟩:=J;obtain⟨E,hp,ho,hs⟩:=so
    let aH:∀q∈E,∃t,q.2= .int (numOf q.2) t:=λq hq=>by
     let h1:=hp.mem_iff.mp hq;let h2:q.2∈L:=(ZS (show(q.1,q.2)∈B.zip L from h1)).2;obtain⟨n,t,e⟩:=hints.all _ h2;show⟨t,by rw[e];rfl⟩
    let aU:(E.map λq=>(q.1,numOf q.2)).Perm (B.zip j):=by
     let h1:=hp.map λq:Int×Value=>(q.1,numOf q.2)
     let e:(B.zip L).map (λq:Int×Value=>(q.1,numOf q.2))=B.zip j:=by
      rw[<-hints.nums,List.zip_map_right];show Wy λ⟨a,b⟩ _=>rfl
     rw[e]at h1;show h1
    let aA:(E.map λq=>(q.1,numOf q.2)).Pairwise slt:=by rw[YB];show hs
    let kk:=hK _ aU aA;rw[Wr]at kk;let P:=fS I'
    let ag:Vals ((E.map λq=>numOf q.2).map V.int) out.toList:=by
     rw[ho];clear aU aA kk hs hp ho;induction E with
     |nil=>show .nil
     |cons q r ih=>
      obtain⟨t,e⟩:=aH q (V6 ..);show .cons ⟨t,e⟩ (ih λz hz=>aH z (VZ _ hz))
    let bu:(E.map λq=>numOf q.2).length<=sizeLine:=by
     rw[VH,hp.length_eq,List.length_zip];show VU (Nat.min_le_left _ _) (VU (show B.length<=64 by lia) (by decide))
    let I3:=IK (u:= .lst ((E.map λq=>numOf q.2).map V.int)) I' oD.ge oD.ne ⟨by rw[VH];show bu,out.toList,cc,ag,P.1⟩;let hG:=(Y.none P.2.1).1;show⟨.ref D,_,I3.ie,rfl,k _ _ kk A _ _ _ ((ah.trans m).trans (Z.trans (Step.laid hG))) (Y.laid P.2.1) (q3.laid hG) ?_⟩;unfold Rep;show⟨D,_,rfl,q3.jW hG,.inl aW,?_⟩;let e:List.map ((λp:Int×Int=>L3.D.int p.snd)∘λq:Int×Value=>(q.fst,numOf q.snd)) E=(E.map λq=>numOf q.2).map L3.D.int:=by rw[Wr];rfl
    rw[e];show Bc _
end
end L3
namespace L3
open PySem L2
open PySem.Spec hiding items?
open PyProof.Rows hiding St
def Gs(a:Scope)(N b:List Str):Bool:=
 N.all (λx=>(a.names.lookup x==some .local||a.names.lookup x==some .cell)&&x != "__debug__"&&x != "__classdict__")&&b.all (λx=>a.names.lookup x==some .globalImplicit&&x != "__debug__")
structure VS(sc:Scope)(N gl:List Str):Prop where
 ok:Gs sc N gl=true
def VS.at_{a:Scope}{N b:List Str}(V:VS a N b){i:Nat}{x:Str}(h:N[i]?=some x):Loc a x/\(x==("__debug__":Str))=false/\(x==("__classdict__":Str))=false:=by
 let o:=V.ok;unfold Gs at o;let:=WR.mp (ZX.mp o).1 x (Wn h);simp![WV,aaY,XM,aaE,ne_eq]at this;show⟨this.1.1,aaZ this.1.2,aaZ this.2⟩
def VS.TZ{a:Scope}{N b:List Str}(V:VS a N b){i:Nat}{x:Str}(h:b[i]?=some x):a.names.lookup x=some .globalImplicit/\(x==("__debug__":Str))=false:=by
 let o:=V.ok;unfold Gs at o;let:=WR.mp (ZX.mp o).2 x (Wn h);simp![WV,XM,aaE,ne_eq]at this;show⟨this.1,aaZ this.2⟩
section
variable {X:Cx}{sc:Scope}{N gl:List Str}{x:Str}{pos:Pos}
def VS.nm(V:VS X.env.scope X.N gl)(i:Nat)(h:X.N[i]?=some x:=by rfl):JE X (.Name x pos) (aa i):=
 let q:=V.at_ h
 IA q.2.1 q.2.2 (q.1.elim .inl λz=> .inr (.inl z)) h
def VS.l(V:VS sc N gl)(i:Nat)(h:N[i]?=some x:=by rfl):Loc sc x:=(V.at_ h).1
def VS.g(V:VS sc N gl)(i:Nat)(h:gl[i]?=some x:=by rfl):sc.names.lookup x=some .globalImplicit:=(V.TZ h).1
def VS.d(V:VS sc N gl)(i:Nat)(h:gl[i]?=some x:=by rfl):(x==("__debug__":Str))=false:=(V.TZ h).2
def jU(c:X.N[n]?=some x:=by rfl)(a:((x==("__debug__":Str))||(x==("__classdict__":Str)))=false:=by decide+kernel)
 (b:AW X.env.scope x:=by first|show Or.inl rfl|show Or.inr (Or.inl rfl)|show Or.inr (Or.inr rfl)):JE X (.Name x pos) (aa n):=
 IA (Bool.or_eq_false_iff.mp a).1 (Bool.or_eq_false_iff.mp a).2 b c
@[irreducible] def qd:cZ:=vd (λ_ j=>j≠0) λi j=> .int (i.fdiv j)
def Et{k:Nat}(f:cJ k X.A)(hs:X.stack=X.env::X.outer)(a:X.env.scope.isGenerator=false)(b:X.env.scope.isCoroutine=false):bU X (binaryOp .FloorDiv) (LR qd):=by
 unfold qd;show kT (g':=λi j=> .int (i.fdiv j)) (λ_ _ _ _=>by unfold Rep;rfl) ?_;intro c s σ H x y v u Q I e d h;obtain⟨i,j,rfl,rfl,g,q⟩:=h;obtain⟨t,rfl⟩:=e;obtain⟨m,rfl⟩:=d;show floordiv_int g ⟨.int (i.fdiv j),H,I.tok _,⟨_,rfl⟩,q⟩ (.inr (PySem.PylongRoom.of I.nolimit ?_ ?_))
 . have:=f.dp;change X.A.depth+100<_;lia
 . show PySem.SeerAt.of (env:=X.env) (l:=X.outer) (I.mod.seer.keeps I.bk) I.ok.gt (by rw[I.ok.frames,hs]) a b I.ok.blt I.ok.glob
def By{st:ae}{K:DK}{i j:Int}(a:j≠0)(k:K (.int (i.fdiv j)) st):qd (.int i) (.int j) st K:=by unfold qd;show⟨a,k⟩
def nJ.look{scope:Scope}(S:cN X scope Nc fr)(h:(scope.names.all (λx=>x.2 != .cell)&&(!scope.isCoroutine&& !scope.isGenerator)&&(scope.names.lookup p==some .local))=true:=by decide+kernel)
 (a:Nc[0]?=some p:=by rfl) (c:fr[0]?=some none:=by rfl):nJ X scope Nc fr p:=by
 simp![WV,Bool.not_eq_true',XM]at h;show⟨S,λx b=>by simpa using WR.mp h.1.1 x b,h.1.2.1,h.1.2.2,a,c,h.2⟩
def OR{e b:Expr}{d l pos j:Pos}{u k:Nat}(S:nJ X scope Nc fr p)(B:X.calm=true)(w:cJ k X.A)(h:X.env.code= .ref c0)(C:PySem.W.codeHdIn X.K c0 T=true)
 (t:∀(f c:Addr) (s:Shared) (H:Hp),JE (HX X scope Nc a f c s H) b q) (r:JE X e o) (A:X.env.kindOf "sorted"=some .globalImplicit) (y:X.mg "sorted"=none)
 (m:defaultsOf params X.env=([],[]):=by rfl) (n:X.env.qual++"<lambda>"=a:=by rfl)
 (i:∀(cl:List (Str×Addr)) (pm cd ct v:Value),bindArgs (PySem.W.kla_fn "<lambda>" a params b scope cl pm cd ct) ⟨[v],[]⟩=pure [(p,v)]:=by(intros;rfl)) (z:2<=k:=by decide)
 (g:starEach [e] X.env=(false,eval e X.env)::starEach [] X.env:=by rfl):
 JE X (.Call (.Name "sorted" j) [e] [⟨some "key",.Lambda params b scope d,l⟩] pos) (Cr u T d a fr q o):=by
 unfold JE at r t⊢;show Ou S B (w.mono z) h C m n i t (uv r xj g) A y rfl ?_ ?_
 . rw[g];rfl
 . rw[g];rfl
end
structure QF(K:PySem.W.Frag)(x qual:Str)(st:Stmt)(f:Addr)(fd:FuncData)(c:Addr):Prop where
 ex:∃(oc:Value) (od:Option Addr) (kV doc pm:Value) (an:Option Addr) (ct:Value) (osl:Array (Option Value)),
  fd=PySem.W.fnOf x qual (ko st) (gf st) (bf st) .none kV doc pm an (.ref c) ct/\K.lookup f=some ⟨oc,od,.func fd,osl⟩/\PySem.W.codeIn K (.ref c) qual=true
def Q2{P:Program}{w:World}{K:PySem.W.Frag}{n:Str->Option Value}{e:Heap}{x b:Str}{st:Stmt}{f c:Addr}{fd:FuncData}{N l:List Str}{k:Nat}{sp:bW}{t:DS}(F:QF K x b st f fd c)(S:ma N l (bf st))
 (d:∀(A:Around) (outer:List Env) (s:Shared) (H:Hp) (E:XK),cJ k (A.deeper (envOfC b (bf st) s.heap.objs.size f (.ref c)))->JB (pC fN P w K n e N b (bf st) f (.ref c) A outer s H E).uV (gf st) t)
 (j:∀ds st K,sp ds st K->ds.length=l.length/\t {nx:=λ_ a=>K .az a,rt:=K} (aN N ds) st):cY P w K n e fN (k+1) f fd l (gj sp):=by
 obtain⟨U,T,kV,z,O,W,V,u,rfl,v,m⟩:=F.ex;unfold JB at d;show Lr v m S (λp H Q E h=>?_) λA outer s H p Q E y h=>?_
 . obtain⟨α,ds,st,K,G,F,P,R,S,q,k⟩:=h;rw[<-R.length];show(j ds st K q).1
 . obtain⟨α,ds,st,K,G,L,P,R,B,q,k⟩:=h;show⟨_,(d A outer s H E y).uV,α,aN N ds,st,_,G,L,P,d5.start R,B,(j ds st K q).2,?_,k,?_,?_⟩
   . intro g a i o J I M r D X C;show k .az a i o J I .az r D C (by unfold Rep;rfl)
   . intro g a i;show i.elim
   . intro g a i;show i.elim
def G7(tl:List (Addr×Pos×Str)):bW:=λd c K=>∃b:List Int,d=[.lst (b.map .int)]/\b.length<=63/\c=tl.map (λq=> .tab q.1 q.2.1 q.2.2 false)/\∀a,K (.bl true) a
def HW(K:PySem.W.Frag)(ts:List (Addr×Addr)):Sp:=λb H Q _=>∃(a:Addr) (ns:List Int),b=[.ref a]/\Entry K ts a ns H/\ns.length<=63/\∀c,Q (.bl true) c
def GW{K:PySem.W.Frag}{ts:List (Addr×Addr)}{tl:List (Addr×Pos×Str)}(y:GD K=true)(l:ts.map (·.2)=tl.map (·.1))(A:(tl.map (·.1)).Nodup){vs:List V}{H:Hp}{Q:VK}{E:XK}(h:HW K ts vs H Q E):gj (G7 tl) vs H Q E:=by
 obtain⟨a,k,rfl,s,L,q⟩:=h
 let f:∀q∈tl,H q.1=some (.kn #[])/\q.1≠a:=λq I=>by
  let P:q.1∈ts.map (·.2):=by rw[l];show aab I
  obtain⟨t,F,e⟩:=Wi.mp P;rw[<-e];show s.tab t F
 let at_:∀(i:Nat) (x:Addr),(tl.map λq=>some q.1)[i]?=some (some x)->∃q,tl[i]?=some q/\q.1=x:=λi x e=>by
  rw[V5]at e;cases z:tl[i]? with
  |none=>rw[z]at e;cases e
  |some w=>rw[z]at e;simp at e;show⟨w,rfl,e⟩
 let g:some a∉tl.map λq=>some q.1:=λz=>by
  obtain⟨w,D,e⟩:=Wi.mp z;show(f w D).2 (W0 e)
 rcases s.lst with O|⟨o,C,n,e,N,_⟩
 . show⟨tl.map λq=>some q.1,[.lst (k.map .int)],tl.map (λq=> .tab q.1 q.2.1 q.2.2 false),λd _=>d= .bl true,H,λ_=>none,⟨λb=>by cases H b<;>rfl,λ_ _ _=>rfl⟩,?_,⟨by simp,λi j x U T=>?_,λn c e=>?_⟩,⟨k,rfl,L,rfl,λ_=>rfl⟩,?_⟩
   . unfold aF;show⟨.ref a,[],rfl,?_,by unfold aF;rfl⟩;unfold Rep;show⟨a,k.map V.int,rfl,g,O,zD k⟩
   . obtain⟨p,J,S⟩:=at_ i x U;obtain⟨r,G,R⟩:=at_ j x T;let m:(tl.map (·.1))[i]?=some x:=by rw[V5,J,<-S];rfl
     let B:(tl.map (·.1))[j]?=some x:=by rw[V5,G,<-R];rfl
     let M:=(VI.mp m).1;show(List.getElem?_inj M A).mp (m.trans B.symm)
   . rw[V5]at e;cases z:tl[n]? with
     |none=>rw[z]at e;cases e
     |some w=>
      rw[z]at e;let W:Cell.tab w.1 w.2.1 w.2.2 false=c:=W0 e;subst W;show .inr ⟨w.1,by rw[V5,z];rfl,rfl,#[],(f w (Wn z)).1,trivial,.inl ⟨rfl,rfl⟩⟩
   . rintro d u rfl Y Z X v _ _ _ r;unfold Rep at r;subst r;show q X
 . show absurd N (zV y e)
section
variable {K:PySem.W.Frag}{x qual p1 p2 p3 p4 p5:Str}{st:Stmt}{f:Addr}{fd:FuncData}
abbrev rO(x qual:Str)(st:Stmt)(kV doc pm:Value)(an:Option Addr)(cdv ct:Value):FuncData:=PySem.W.fnOf x qual (ko st) (gf st) (bf st) .none kV doc pm an cdv ct
def gF{α:Type}{us:List α}(h:us.length=n+1):∃a r,us=a::r/\r.length=n:=by
 cases us with
 |nil=>cases h
 |cons a r=>show⟨a,r,rfl,Nat.succ.inj h⟩
def uz{α:Type}{us:List α}(h:us.length=0):us=[]:=Xw.mp h
def TL(F:oo K x qual st f fd)(h:∀kV b d e c ct a,bindArgs (rO x qual st kV b d e c ct) ⟨[a],[]⟩=pure [(p1,a)]):Binds K fd [p1] []:=
 F.binds λkV b d e c ct j g=>by
  obtain⟨a,k,rfl,i⟩:=gF g;cases uz i;show h kV b d e c ct a
def TX(F:oo K x qual st f fd)(h:∀kV c e g d ct a b,bindArgs (rO x qual st kV c e g d ct) ⟨[a,b],[]⟩=pure [(p1,a),(p2,b)]):Binds K fd [p1,p2] []:=
 F.binds λkV c e g d ct l i=>by
  obtain⟨a,n,rfl,k⟩:=gF i;obtain⟨b,m,rfl,j⟩:=gF k;cases uz j;show h kV c e g d ct a b
def Ua(F:oo K x qual st f fd)(h:∀kV d g i e ct a b c,bindArgs (rO x qual st kV d g i e ct) ⟨[a,b,c],[]⟩=pure [(p1,a),(p2,b),(p3,c)]):Binds K fd [p1,p2,p3] []:=
 F.binds λkV d g i e ct n j=>by
  obtain⟨a,q,rfl,m⟩:=gF j;obtain⟨b,p,rfl,l⟩:=gF m;obtain⟨c,o,rfl,k⟩:=gF l;cases uz k;show h kV d g i e ct a b c
def T3(F:oo K x qual st f fd)(h:∀kV e i j g ct a b c d,bindArgs (rO x qual st kV e i j g ct) ⟨[a,b,c,d],[]⟩=pure [(p1,a),(p2,b),(p3,c),(p4,d)]):Binds K fd [p1,p2,p3,p4] []:=
 F.binds λkV e i j g ct p k=>by
  obtain⟨a,t,rfl,o⟩:=gF k;obtain⟨b,s,rfl,n⟩:=gF o;obtain⟨c,r,rfl,m⟩:=gF n;obtain⟨d,q,rfl,l⟩:=gF m;cases uz l;show h kV e i j g ct a b c d
end
section
variable {X:Cx}
def ON(n:Int):(n != 0)=decide (n≠0):=by
 by_cases h:n=0
 . subst h;rfl
 . rw[WS h];simpa using h
def Ai:eX:=λd b K=>match d with| [.tup a]=>(match mq a with|some c=>K (.bl (c.any λn=>decide (n≠0))) b|none=>False)|_=>False
def Qo(J:X.calm=true):bJ X (.builtin "any") (fU Ai):=λm s σ H Y us Q I z ⟨α,ds,st,K,G,F',P,r,S,q,k⟩=>by
 unfold Ai at q;split at q
 . rename_i W;split at q
   . rename_i d e;obtain⟨v,rfl,l⟩:=gq r rfl;unfold Rep at l;obtain⟨a,Z,rfl,na,R,O⟩:=l;obtain⟨u,rfl,y⟩:=vals1 z;cases y;let D:=su O e;subst D;obtain⟨c,j,p,hl⟩:=I.tuple (.of (P.get R));let f:s.heap.IsTuple a c.toArray:=p;obtain⟨o,U,_⟩:=id f;show call_any_walk (Yr f ?_);let h:a≠s.heap.objs.size:=Wb (VY U);let E:c.length=d.length:=by rw[<-j.length,VH]
     let g:∀(i:Nat) (w:Value),c.toArray[i]?=some w->∃t,w=Value.int (d.getD i 0) t:=λi w C=>mH j i w (by simpa using C);show⟨s.heap.objs.size,_,_,_,_,_,λi=>decide (d.getD i 0≠0),rfl,Walks.tuple (A:=X.A.in1) (I.ok.hd J) _ a h c.toArray,⟨⟨_,V4 _ rfl,rfl,rfl⟩,f7.push (k:= .t) f _⟩,?_,?_⟩
     . intro i w s' Q' E' N M;obtain⟨t,rfl⟩:=g i w N;show PyProof.Rows.truthy_int ?_;rw[ON];show M
     . intro T tk F
       let B:∀b o,s.heap.get? b=some o->T.get? b=some o:=λb o q=>F b o (by
        intro L;let:b=s.heap.objs.size:=by simpa using L
        show absurd (VY q) (by rw[this];show Xz _)) (VJ _ q)
       let V:(List.range c.toArray.size).any (λi=>decide (d.getD i 0≠0))=d.any λn=>decide (n≠0):=by
        rw[VW,E];show range_any d _ _ λi x e=>by rw[VT,e];rfl
       rw[V];show⟨.bl (d.any λn=>decide (n≠0)),H,I.kept (t':=tk) B,rfl,k.here P q S (by unfold Rep;rfl)⟩
   . show q.elim
 . show q.elim
@[irreducible] def uC:eX:=Ai
def Hq(a:X.calm=true):bJ X (.builtin "any") (fU uC):=by unfold uC;show Qo a
end
def EC{st:ae}{K:DK}{xs:List D}{ns:List Int}(h:mq xs=some ns)(k:K (.bl (ns.any λn=>decide (n≠0))) st):uC [.tup xs] st K:=by unfold uC Ai;simp![h];show k
def qt{A B:Type}{F:A->B->Prop}:∀ {xs a:List A} {ys us:List B},Paired F xs ys->Paired F a us->Paired F (xs++a) (ys++us)
 |_,_,_,_,.nil,h=>h
 |_,_,_,_,.cons r t,h=> .cons r (qt t h)
section
variable {X:Cx}
def Rx:V->List V->Hp->VK->Prop:=λx a H Q=>∃(l b:Addr) (xs ys:List V),x= .ref l/\a=[.ref b]/\H l=some (.lst xs)/\Rd H b (.lst ys)/\xs.length+ys.length<=sizeLine/\Q .az (upd H l (.lst (xs++ys)))
def QL:Ue X "list.extend" Rx:=by
 intro g s σ H x E v G Q I k m h;obtain⟨l,b,D,C,rfl,rfl,j,y,i,q⟩:=h;cases k;obtain⟨u,rfl,o⟩:=vals1 m;cases o;obtain⟨z,c,n,r,w,e⟩:=I.Pb j;obtain⟨B,a,t,p,f,A⟩:=Inv.vD I y;let d:c.toArray.size+a.toArray.size<=sizeLine:=by rw[VW,VW,<-w,<-f];show i
 let M:=AutoSeq1.list_extend_list_list_0 l c.toArray n b a.toArray t (extend_door d) (VU (ZI _ _) d) (Nat.le_succ_of_le d);show Y4 F.slot_list_extend ⟨_,e,rfl⟩ F.entry_list_extend (F.args_list_extend_2 _ _) M ⟨e,A,?_⟩;show⟨.az,_,I.Qf (its':=c++a) j e (by rw[List.append_toArray]) (qt r p) ?_,rfl,q⟩;rw[Wu];show i
def oS:DM:=λn d c K=>match d with
 | [.lst a]=>(match c[n]? with|some (.lst b)=>b.length+a.length<=sizeLine/\K .az (c.set n (.lst (b++a)))|_=>False)
 |_=>False
def HB:LiftM oS Rx:=by
 intro α G F H w K Q n a z u P S g o q k;unfold oS at q;split at q
 . rename_i s;split at q
   . rename_i t e;obtain⟨y,q⟩:=q;obtain⟨v,rfl,i⟩:=gq o rfl;unfold Rep at i;obtain⟨b,f,rfl,nb,r,h⟩:=i;obtain⟨A,c,d,m,l⟩:=S.gL e;rw[g]at c;cases c;let x:=l.length;let p:=h.length;let j:some a∈α:=Wn g;show⟨a,b,d,f,rfl,rfl,P.get m,fE P r,by lia,?_⟩;show k .az _ q α (upd G a (.lst (d++f))) _ .az (Step.write j) (P.write m) ?_ (by unfold Rep;rfl);show S.write g ⟨d++f,aW,(aX.mpr (qt (aX.mp l) (aX.mp h))).step (Step.write j)⟩
   . show q.elim
 . show q.elim
def RL{o e:Expr}{f g:DE}{b a:Pos}(h:JE X o f)(i:JE X e g)(d:attributeBase o "extend" X.env (eval o X.env)=eval o X.env:=by rfl)(c:(b.endLine==a.line)=true:=by rfl)(hs:notStar e=true:=by rfl):JE X (.Call (.Attribute o "extend" b) [e] [] a) (qC oS f (ab g ai)):=by
 unfold JE at*;show QH HB PySem.F.slot_list_extend PySem.F.type_list_extend QL h (uv i xj (bP hs)) d ?_ c (bP hs) rfl;rw[bP hs];rfl
end
def PL{σ:bO}{st:ae}{K:DK}{n:Nat}{xs:List D}{b:DE}{c:DA}(f:∀d,d (.ref n) st->b σ st d)(e:st[n]?=some (.lst xs))(g:c σ st λds a=>(∃ys,a[n]?=some (.lst ys))/\oS n ds a K):qC oS b c σ st K:=by
 unfold qC;show f _ ?_;simp![e];show g
def UL{a:ae}{K:DK}{n:Nat}{xs ys:List D}(b:a[n]?=some (.lst xs))(h:xs.length+ys.length<=sizeLine)(k:K .az (a.set n (.lst (xs++ys)))):(∃ys,a[n]?=some (.lst ys))/\oS n [.lst ys] a K:=by
 show⟨⟨xs,b⟩,?_⟩;unfold oS;simp![b];show⟨h,k⟩
section
variable {X:Cx}
def uV(X:Cx):Cx:={X with xe:=λ_ _=>False}
end
variable {st:ae}{K:D->ae->Prop}{i j:Int}
end L3
namespace L3
open PySem L2
structure ClsAt(K:PySem.W.Frag)(mg:Str->Option Value)(x:Str)(C:Addr):Prop where
 cl:mX K C
 mg:mg x=some (.ref C)
 TN:PySem.W.makesIn K C=true
 kp:PySem.W.keepIn K (.ref C)=true
structure MethAt(K:PySem.W.Frag)(C:Addr)(m qual:Str)(st:Stmt)(ps:List Str)(f:Addr)(fd:FuncData):Prop where
 fn:oo K m qual st f fd
 me:Meth K C m f
 bd:Binds K fd ps []
end L3
namespace Hd
open PySem PySem.W L2 L3
open PySem.Spec hiding items?
open PyProof.Rows hiding St
section
variable {K:Frag}{mg:Str->Option Value}{h:Heap}{x q:Str}{st:Stmt}{f c C:Addr}{pm:Value}{p1 p2 p3 p4 p5 p6:Str}
abbrev Ed(K:Frag)(x:Str)(st:Stmt)(f:Addr)(pm:Value)(c:Addr):Prop:=(nsIn K mainGlobals x,K.lookup f,codeIn K (.ref c) x,keepIn K (.ref f))=(some (some (.ref f)),some (fq st x x pm c),true,true)
abbrev Em(K:Frag)(C:Addr)(x q:Str)(st:Stmt)(f:Addr)(pm:Value)(c:Addr):Prop:=(findIn K (.ref C) x,isFn K (.ref f),K.lookup f,codeIn K (.ref c) q,keepIn K (.ref f))=(some (some (.ref f)),true,some (fq st x q pm c),true,true)
def Ed.fn(e:Ed K x st f pm c):oo K x x st f (fd st x x pm c)/\nsIn K mainGlobals x=some (some (.ref f)):=by
 obtain⟨g,d,b,a⟩:_/\_/\_/\_:=by simpa only[abn]using e
 show⟨II (st:=st) d b a,g⟩
def Em.fn(e:Em K C x q st f pm c):oo K x q st f (fd st x q pm c)/\Meth K C x f:=by
 obtain⟨i,g,d,b,a⟩:_/\_/\_/\_/\_:=by simpa only[abn]using e
 show⟨II (st:=st) d b a,i,g,a⟩
def Vv(X:K.In h)(G:h.Ns mainGlobals mg)(e:Ed K x st f pm c)(b:∀kV d pm i g ct a,bindArgs (rO x x st kV d pm i g ct) ⟨[a],[]⟩=pure [(p1,a)]):nG K mg x x st [p1] f (fd st x x pm c):=⟨e.fn.1,mg_of X G e.fn.2,TL e.fn.1 b⟩
def Ve(X:K.In h)(G:h.Ns mainGlobals mg)(e:Ed K x st f pm c)(b:∀kV a pm j d ct i g,bindArgs (rO x x st kV a pm j d ct) ⟨[i,g],[]⟩=pure [(p1,i),(p2,g)]):nG K mg x x st [p1,p2] f (fd st x x pm c):=⟨e.fn.1,mg_of X G e.fn.2,TX e.fn.1 b⟩
def Vg(X:K.In h)(G:h.Ns mainGlobals mg)(e:Ed K x st f pm c)(b:∀kV a pm k d ct j i g,bindArgs (rO x x st kV a pm k d ct) ⟨[j,i,g],[]⟩=pure [(p1,j),(p2,i),(p3,g)]):nG K mg x x st [p1,p2,p3] f (fd st x x pm c):=⟨e.fn.1,mg_of X G e.fn.2,Ua e.fn.1 b⟩
def Vy(X:K.In h)(G:h.Ns mainGlobals mg)(e:Ed K x st f pm c)(b:∀kV a pm l d ct k j i g,bindArgs (rO x x st kV a pm l d ct) ⟨[k,j,i,g],[]⟩=pure [(p1,k),(p2,j),(p3,i),(p4,g)]):nG K mg x x st [p1,p2,p3,p4] f (fd st x x pm c):=⟨e.fn.1,mg_of X G e.fn.2,T3 e.fn.1 b⟩
def PF(e:Em K C x q st f pm c)(b:∀kV d pm i g ct a,bindArgs (rO x q st kV d pm i g ct) ⟨[a],[]⟩=pure [(p1,a)]):MethAt K C x q st [p1] f (fd st x q pm c):=⟨e.fn.1,e.fn.2,TL e.fn.1 b⟩
def PR(e:Em K C x q st f pm c)(b:∀kV a pm j d ct i g,bindArgs (rO x q st kV a pm j d ct) ⟨[i,g],[]⟩=pure [(p1,i),(p2,g)]):MethAt K C x q st [p1,p2] f (fd st x q pm c):=⟨e.fn.1,e.fn.2,TX e.fn.1 b⟩
def B7(e:Em K C x q st f pm c)(b:∀kV a pm k d ct j i g,bindArgs (rO x q st kV a pm k d ct) ⟨[j,i,g],[]⟩=pure [(p1,j),(p2,i),(p3,g)]):MethAt K C x q st [p1,p2,p3] f (fd st x q pm c):=⟨e.fn.1,e.fn.2,Ua e.fn.1 b⟩
def Vt(e:Em K C x q st f pm c)(b:∀kV a pm l d ct k j i g,bindArgs (rO x q st kV a pm l d ct) ⟨[k,j,i,g],[]⟩=pure [(p1,k),(p2,j),(p3,i),(p4,g)]):MethAt K C x q st [p1,p2,p3,p4] f (fd st x q pm c):=⟨e.fn.1,e.fn.2,T3 e.fn.1 b⟩
def fc(e:(K.lookup f,codeIn K (.ref c) q)=(some (fq st x q pm c),true)):QF K x q st f (fd st x q pm c) c:=by
 obtain⟨b,a⟩:_/\_:=by simpa only[abn]using e
 show⟨_,_,_,_,_,_,_,_,rfl,b,a⟩
def na(e:findIn K (.ref C) a=some none):d4 K C a:=e
end
end Hd
namespace L3
open PySem L2
open PySem.Spec hiding items?
open PyProof.Rows hiding St
end L3
namespace L3
open PySem L2
open PySem.Spec hiding items?
end L3
namespace L3
open PySem PySem.Spec L2
open PyProof.Rows hiding St
end L3
namespace L3
open PySem L2
open PySem.Spec hiding items?
open PyProof.Rows hiding St
namespace RF
end RF
section
variable {X:Cx}{sc:Scope}{N gl:List Str}{x:Str}{pos:Pos}
def VS.lM(V:VS sc N gl)(h:N.contains x=true:=by decide+kernel):Loc sc x:=by
 obtain⟨i,a,e⟩:=Wf.mp (abf.mp h);show V.l i (by rw[VV a,e])
def VS.gM(V:VS sc N gl)(h:gl.contains x=true:=by decide+kernel):sc.names.lookup x=some .globalImplicit:=by
 obtain⟨i,a,e⟩:=Wf.mp (abf.mp h);show V.g i (by rw[VV a,e])
def Qy(N P:List Str)(sc:Scope):Bool:=(sc.kind== .function)&& !sc.isCoroutine&& !sc.isGenerator&&decide N.Nodup&&(N.take P.length==P)&&P.all (λx=>sc.names.lookup x==some .local||sc.names.lookup x==some .cell)&&sc.names.all λy=>y.2 != .free
structure VF(s:Stmt)(N P gl:List Str):Prop where
 v:VS (bf s) N gl
 sc:ma N P (bf s)
def VF.of{N P gl:List Str}(h:(Gs (bf s) N gl&&Qy N P (bf s))=true):VF s N P gl:=by
 obtain⟨j,i⟩:=ZX.mp h;unfold Qy at i;simp![WV,XM,Bool.not_eq_true',aay,WR,aaY,aaE,ne_eq]at i;obtain⟨⟨⟨⟨⟨⟨a,b⟩,c⟩,d⟩,e⟩,f⟩,g⟩:=i;show⟨⟨j⟩,a,b,c,d,e,f,g⟩
def Um:Expr->List Str
 | .Name x _=>[x]
 | .Tuple [.Name x _,.Name y _] _ _=>[x,y]
 | .Tuple [.Name x _,.Name y _,.Name z _] _ _=>[x,y,z]
 | .Tuple [.Tuple [.Name x _,.Name y _] _ _,.Name z _] _ _=>[x,y,z]
 |_=>[]
def nu(a:Expr)(fr:List (Option Nat))(N:List Str):List Str:=Um a++(fr.filterMap id).map λk=>N.getD k ""
variable {scope:Scope}{elt tg iter:Expr}{ifs:List Expr}{src:DI}{fr:List (Option Nat)}{dtg:fI}{t:DT}{te:DE}{pos' p:Pos}
def Nz(V:VS sc N gl)(h:tR sc N scope (nu tg fr N) fr=true)(e:JI X tg iter src)(f:∀C s H ex,JG (cO X scope (nu tg fr N) C s H ex) tg dtg)(d:∀C s H ex,JC (cO X scope (nu tg fr N) C s H ex) ifs t)(g:∀C s H ex,JE (cO X scope (nu tg fr N) C s H ex) elt te)(b:gT fr dtg)(a:X.env.scope=sc:=by rfl)(j:X.N=N:=by rfl)
 (c:X.xe=λ_ _=>False:=by rfl) (i:X.calm=true:=by rfl) (hs:∀x,foldedSetIterable iter X.env x=pure x:=by intro _;rfl):JE X (.ListComp elt [⟨tg,iter,ifs,0⟩] scope pos) (di src fr dtg t te):=wZ (cN.look sc N h a j) e f d g b c i hs
def JQ{k:Nat}(V:VS sc N gl)(g:X.N.Nodup)(i:Loc X.env.scope x)(h:tR sc N scope (nu tg fr N) fr=true)(j:JI X tg iter src)(l:∀C s H ex,JG (cO X scope (nu tg fr N) C s H ex) tg dtg)(f:∀C s H ex,JC (cO X scope (nu tg fr N) C s H ex) ifs t)(n:∀C s H ex,JE (cO X scope (nu tg fr N) C s H ex) elt te)(d:gT fr dtg)(b:X.env.scope=sc:=by rfl)(q:X.N=N:=by rfl)
 (m:X.fn x=true\/X.env.scope.names.lookup x=some .local:=by first|show .inl rfl|show .inr rfl) (a:swapsWith (.ListComp elt [⟨tg,iter,ifs,0⟩] scope p) (some (.Name x pos')) pos.line X.env=pure true:=by rfl) (c:X.N[k]?=some x:=by rfl) (e:X.xe=λ_ _=>False:=by rfl) (o:X.calm=true:=by rfl) (hs:∀x,foldedSetIterable iter X.env x=pure x:=by intro _;rfl):
 JS X (.Assign [.Name x pos'] (.ListComp elt [⟨tg,iter,ifs,0⟩] scope p) pos) (aT k (di src fr dtg t te)):=uG g i (cN.look sc N h b q) j l f n d m a c e o hs
def IH{k:Nat}(V:VS sc N gl)(g:X.N.Nodup)(i:Loc X.env.scope x)(h:tR sc N scope (nu tg fr N) fr=true)(j:JI X tg iter src)(l:∀C s H ex,JG (cO X scope (nu tg fr N) C s H ex) tg dtg)(f:∀C s H ex,JC (cO X scope (nu tg fr N) C s H ex) ifs t)(n:∀C s H ex,JE (cO X scope (nu tg fr N) C s H ex) elt te)(d:gT fr dtg)(b:X.env.scope=sc:=by rfl)(q:X.N=N:=by rfl)
 (m:X.fn x=true\/X.env.scope.names.lookup x=some .local:=by first|show .inl rfl|show .inr rfl) (a:swapsWith (.ListComp elt [⟨tg,iter,ifs,0⟩] scope p) (some (.Name x pos')) pos.line X.env=pure true:=by rfl) (c:X.N[k]?=some x:=by rfl) (e:X.xe=λ_ _=>False:=by rfl) (o:X.calm=true:=by rfl) (hs:∀x,foldedSetIterable iter X.env x=pure x:=by intro _;rfl):
 JS X (.Assign [.Name x pos'] (.ListComp elt [⟨tg,iter,ifs,0⟩] scope p) pos) (aT k (i5 src fr dtg t te)):=K9 g i (cN.look sc N h b q) j l f n d m a c e o hs
variable {X0:Cx}{scope0:Scope}{Nc:List Str}{C:Addr}{s:Shared}{H:Hp}{ex:List Addr}
def Tt{k:Nat}(b:Nc.Nodup:=by decide+kernel)(a:Loc (cO X0 scope0 Nc C s H ex).env.scope x:=by first|show Or.inl rfl|show Or.inr rfl)(d:(cO X0 scope0 Nc C s H ex).fn x=true\/(cO X0 scope0 Nc C s H ex).env.scope.names.lookup x=some .local:=by first|show .inl rfl|show .inr rfl)(c:Nc[k]?=some x:=by rfl):JG (cO X0 scope0 Nc C s H ex) (.Name x pos) (bz k):=je b a d c
def Rp{k j n:Nat}{y:Str}{b a:Pos}(e:Nc.Nodup:=by decide+kernel)(d:Loc (cO X0 scope0 Nc C s H ex).env.scope x:=by first|show Or.inl rfl|show Or.inr rfl)(i:(cO X0 scope0 Nc C s H ex).fn x=true\/(cO X0 scope0 Nc C s H ex).env.scope.names.lookup x=some .local:=by first|show .inl rfl|show .inr rfl)(c:Loc (cO X0 scope0 Nc C s H ex).env.scope y:=by first|show Or.inl rfl|show Or.inr rfl)(h:(cO X0 scope0 Nc C s H ex).fn y=true\/(cO X0 scope0 Nc C s H ex).env.scope.names.lookup y=some .local:=by first|show .inl rfl|show .inr rfl)(g:Nc[k]?=some x:=by rfl)(f:Nc[j]?=some y:=by rfl)(l:(cO X0 scope0 Nc C s H ex).calm=true:=by rfl):JG (cO X0 scope0 Nc C s H ex) (.Tuple [.Name x b,.Name y a] n pos) (gQ k j):=FT l e d i c h g f
def VS.loc(V:VS sc N gl)(h:sc.names.lookup x=some .local:=by decide+kernel):sc.names.lookup x=some .local:=h
end
end L3
namespace L3
open PySem PySem.SetTable
def m_(e:Nat->Prop)(mask:Nat):Nat->Nat->Nat->Prop
 |0,i,_=>e i
 |L+1,i,q=>e i\/m_ e mask L (leap mask i q).1 (leap mask i q).2
def pU(m:Nat):Nat->Nat
 |0=>0
 |n+1=>(pU m n*5+1)%m
def MI(m:Nat):Bool:=pU m m==0&&(List.range m).all λj=>(List.range m).any λn=>pU m n==j
def vh(mask:Nat):Prop:=mask=7\/mask=31\/mask=127
def vh.pU{mask:Nat}(h:vh mask):MI (mask+1)=true:=by
 rcases h with rfl|rfl|rfl<;>decide+kernel
def NI(h:pU m m=0)(n:Nat):pU m (n+m)=pU m n:=by
 induction n with
 |zero=>rw[XX];show h
 |succ n a=>rw[Nat.succ_add];change(pU m (n+m)*5+1)%m=_;rw[a];rfl
def ye{e:Nat->Prop}{mask:Nat}{b:Nat}(c:e (pU (mask+1) b)):∀(n a:Nat),a+n=b->m_ e mask n (pU (mask+1) a) 0
 |0,a,h=>by rw[aaO]at h;subst h;show c
 |n+1,a,h=>by
  show Or.inr ?_;let:=ye (mask:=mask) c n (a+1) (by lia);let d:leap mask (pU (mask+1) a) 0=(pU (mask+1) (a+1),0):=by unfold leap;rfl
  rw[d];show this
def m_.mono{e:Nat->Prop}{mask:Nat}:∀ {L i q:Nat},m_ e mask L i q->m_ e mask (L+1) i q
 |0,_,_,h=>Or.inl h
 |L+1,_,_,h=>h.elim Or.inl λz=>Or.inr z.mono
def m_.up{e:Nat->Prop}{mask:Nat}{L i q:Nat}(h:m_ e mask L i q):∀n,m_ e mask (L+n) i q
 |0=>h
 |n+1=>(h.up n).mono
def Kn{e:Nat->Prop}{mask:Nat}(f:vh mask){i j:Nat}(o:i<=mask)(n:j<=mask)(c:e j):m_ e mask mask i 0:=by
 let h:=f.pU;unfold MI at h;simp![WV,XM,WR,List.any_eq_true,WU]at h;obtain⟨k,d⟩:=h;obtain⟨a,q,m⟩:=d i (by lia);obtain⟨b,p,l⟩:=d j (by lia);rw[<-l]at c;rw[<-m];by_cases g:a<=b
 . have:=(ye (mask:=mask) c (b-a) a (by lia)).up (mask-(b-a));rwa [show b-a+(mask-(b-a))=mask by lia]at this
 . rw[<-NI k]at c;let:=(ye (mask:=mask) c (b+(mask+1)-a) a (by lia)).up (mask-(b+(mask+1)-a));rwa [show b+(mask+1)-a+(mask-(b+(mask+1)-a))=mask by lia]at this
def x9{e:Nat->Prop}{mask:Nat}(b:vh mask){j:Nat}(c:j<=mask)(f:e j):∀(n i q:Nat),i<=mask->q<32^n->m_ e mask (n+mask) i q
 |0,i,q,d,a=>by
  let:q=0:=by simpa using a
  subst this;rw[XX];show Kn b d c f
 |n+1,i,q,d,a=>by
  rw[Nat.succ_add];show Or.inr (x9 b c f n _ _ ?_ ?_)
  . change(i*5+1+q/32)%(mask+1)<=mask;show YC (abm _ (aaP _))
  . change q/32<32^n;rw[XA]at a;show Nat.div_lt_of_lt_mul (by rw[XW];show a)
def EE(h:Int):bits h<32^13:=by
 unfold bits;let b:h%(2^64:Int)<2^64:=Int.emod_lt_of_pos _ (by decide);let a:0<=h%(2^64:Int):=ZY _ (by decide);let:(h%(2^64:Int)).toNat<2^64:=by lia
 show V9 this (by decide)
def nD(t:SetTable):Nat->Probe->Prop
 |0,p=>t.slot p.j= .empty
 |m+1,p=>t.slot p.j= .empty\/nD t m (t.advance p)
def nD.mono:∀ {m:Nat} {p:Probe},nD t m p->nD t (m+1) p
 |0,_,h=>Or.inl h
 |m+1,_,h=>h.elim Or.inl λz=>Or.inr z.mono
def nD.up(h:nD t m p):∀n,nD t (m+n) p
 |0=>h
 |n+1=>(h.up n).mono
def t_(mask i:Nat):runEnd mask i-i<=9/\i<=runEnd mask i:=by unfold runEnd;split<;>lia
def Cn{t:SetTable}:∀(L m:Nat) (p:Probe),p.more=m->m_ (λj=>t.slot j= .empty) t.mask L (leap t.mask p.i p.perturb).1 (leap t.mask p.i p.perturb).2->nD t (m+1+10*L) p
 |L,m+1,p,a,h=>by
  rw[show m+1+1+10*L=(m+1+10*L)+1 by lia];show Or.inr ?_;let e:t.advance p= {p with j:=p.j+1,more:=p.more-1}:=by unfold advance;rw[VN (by lia)]
  rw[e];show Cn L m _ (by change p.more-1=m;lia) h
 |0,0,p,a,h=>by
  show Or.inr ?_;let e:t.advance p= {p with j:=(leap t.mask p.i p.perturb).1,more:=runEnd t.mask (leap t.mask p.i p.perturb).1-(leap t.mask p.i p.perturb).1,i:=(leap t.mask p.i p.perturb).1,perturb:=(leap t.mask p.i p.perturb).2}:=by unfold advance;rw[VM (by lia)]
  rw[e];show h
 |L+1,0,p,a,h=>by
  rw[show 0+1+10*(L+1)=(10*L+10)+1 by lia];show Or.inr ?_;let e:t.advance p= {p with j:=(leap t.mask p.i p.perturb).1,more:=runEnd t.mask (leap t.mask p.i p.perturb).1-(leap t.mask p.i p.perturb).1,i:=(leap t.mask p.i p.perturb).1,perturb:=(leap t.mask p.i p.perturb).2}:=by unfold advance;rw[VM (by lia)]
  rw[e];rcases h with h|h
  . show Or.inl h
  . have:=Cn (t:=t) L _ {p with j:=(leap t.mask p.i p.perturb).1,more:=runEnd t.mask (leap t.mask p.i p.perturb).1-(leap t.mask p.i p.perturb).1,i:=(leap t.mask p.i p.perturb).1,perturb:=(leap t.mask p.i p.perturb).2} rfl h;let b:=(t_ t.mask (leap t.mask p.i p.perturb).1).1;let:=this.up (9-(runEnd t.mask (leap t.mask p.i p.perturb).1-(leap t.mask p.i p.perturb).1));rwa [show runEnd t.mask (leap t.mask p.i p.perturb).1-(leap t.mask p.i p.perturb).1+1+10*L+(9-(runEnd t.mask (leap t.mask p.i p.perturb).1-(leap t.mask p.i p.perturb).1))=10*L+10 by lia]at this
 termination_by L m=>(L,m)
def Hb{t:SetTable}(a:t.dummies= #[])(h:j∉t.place):t.slot j= .empty:=by
 unfold slot;simp only;rw[VM]
 . rw[VM];rw[a];unfold has;simp
 . intro q;rw[XM]at q;show h (ZM q)
def x8{t:SetTable}(a:t.dummies= #[]):t.slot j≠ .dummy:=by
 unfold slot;simp only;split
 . show λz=>nomatch z
 . rw[VM]
   . show λz=>nomatch z
   . rw[a];unfold has;simp
def Hv{t:SetTable}(h:t.slot j= .live i):i<t.place.size:=by
 unfold slot at h;simp only at h;split at h
 . rename_i q;rw[XM]at q;cases h;show(aat.mp q).1
 . split at h<;>cases h
def Lw:∀(n:Nat) (l:List Nat),(∀j,j<n->j∈l)->n<=l.length
 |0,_,_=>V3 _
 |n+1,l,h=>by
  let:=Lw n (l.erase n) λj a=>(List.mem_erase_of_ne (by lia)).mpr (h j (by lia));rw[List.length_erase_of_mem (h n (by lia))]at this;let:=List.length_pos_of_mem (h n (by lia));lia
def hole{l:List Nat}(h:l.length<n):∃j,j<n/\j∉l:=by
 show Xo λz=>?_;let:=Lw n l λj a=>Xo λq=>z ⟨j,a,q⟩;lia
structure Tb(t:SetTable)(n:Nat):Prop where
 Jp:vh t.mask
 EB:t.dummies= #[]
 len:t.place.size=n
 fit:n<=t.mask
def Tb.fits{t:SetTable}(T:Tb t n):t.fits n=true:=by
 unfold SetTable.fits fill;rw[T.len,T.EB];simp[T.fit]
def Tb.start{t:SetTable}(T:Tb t n)(h:Int):nD t (10*turns t.mask-1) (t.probeStart h):=by
 obtain⟨j,f,c⟩:=hole (l:=t.place.toList) (n:=t.mask+1) (by rw[WE,T.len];let:=T.fit;lia);let g:t.slot j= .empty:=Hb T.EB λz=>c (Yg.mpr z);let b:=x9 (e:=λj=>t.slot j= .empty) T.Jp (YC f) g 13 (leap t.mask (bits h%(t.mask+1)) (bits h)).1 (leap t.mask (bits h%(t.mask+1)) (bits h)).2 (YC (abm _ (aaP _))) (YQ (Nat.div_le_self _ _) (EE h));let:=Cn (13+t.mask) _ (t.probeStart h) rfl b;let a:=(t_ t.mask (bits h%(t.mask+1))).1;let d:(t.probeStart h).more=runEnd t.mask (bits h%(t.mask+1))-bits h%(t.mask+1):=rfl;rw[<-d]at a;let:=this.up (10*turns t.mask-1-((t.probeStart h).more+1+10*(13+t.mask)));unfold turns at this⊢;rwa [show(t.probeStart h).more+1+10*(13+t.mask)+(10*(t.mask+15)-1-((t.probeStart h).more+1+10*(13+t.mask)))=10*(t.mask+15)-1 by lia]at this
def CH{t:SetTable}(n:t.dummies= #[]){f:Nat->Int}:∀(m a:Nat) (p:Probe),nD t m p->m<a->p.dummy=none->
 (∃j,probe.go t f h a p=some (.empty j none))\/∃j i nx d,probe.go t f h a p=some (.candidate j i nx)/\t.slot j= .live i/\f i=h/\d<m/\nD t d nx/\nx.dummy=none
 |m,0,_,_,l,_=>absurd l (Wk _)
 |m,a+1,p,g,l,k=>by
  unfold probe.go;cases e:t.slot p.j with
  |empty=>show Or.inl ⟨p.j,by rw[<-k]⟩
  |dummy=>show absurd e (x8 n)
  |live i=>
   simp only;cases m with
   |zero=>unfold nD at g;rw[e]at g;cases g
   |succ m=>
    have b:nD t m (t.advance p):=by
     rcases g with z|z
     . rw[e]at z;cases z
     . show z
    let c:(t.advance p).dummy=none:=by
     unfold advance;split
     . show k
     . show k
    by_cases q:(f i==h)=true
    . rw[VN q];show Or.inr ⟨_,_,_,m,rfl,e,XM.mp q,Wj _,b,c⟩
    . rw[VM q];rcases CH n m a (t.advance p) b (by lia) c with z|⟨j,v,nx,d,u,s,r,w,o⟩
      . show Or.inl z
      . show Or.inr ⟨j,v,nx,d,u,s,r,by lia,o⟩
def wg:∀(a lo b:Nat),lo<=b->below.go xs j a lo b<=b
 |0,lo,b,h=>h
 |a+1,lo,b,h=>by
  unfold below.go;split
  . simp only;split
    . show wg a _ _ (by lia)
    . show VU (wg a lo ((lo+b)/2) (by lia)) (by lia)
  . show h
def Bh(xs:Array Nat)(j:Nat):below xs j<=xs.size:=wg _ _ _ (V3 _)
def rK{α:Type}{xs:Array α}{x:α}(h:p<=xs.size):(insertAt xs p x).size=xs.size+1:=by
 unfold insertAt;simp![Array.size_append,Array.size_push,Array.size_extract];lia
def Ct{α:Type}{xs:Array α}{x y:α}(h:y∈(insertAt xs p x).toList):y=x\/y∈xs.toList:=by
 unfold insertAt at h;simp![aac,Array.toList_push,Array.toList_extract,WC,Xi,List.extract_eq_drop_take']at h;rcases h with(h|h)|h
 . show Or.inr (Y6 (ZZ h))
 . show Or.inl h
 . show Or.inr (Y6 (ZZ h))
def Tb.put{t:SetTable}(T:Tb t n)(h:n+1<=t.mask):Tb (t.put j).1 (n+1)/\(t.put j).2<=n/\(t.put j).1.mask=t.mask:=by
 show⟨⟨T.Jp,?_,?_,h⟩,?_,rfl⟩
 . change(if has t.dummies j then eraseAt t.dummies (below t.dummies j)else t.dummies)= #[];rw[VM]
   . show T.EB
   . rw[T.EB];unfold has;simp
 . change(insertAt t.place (below t.place j) j).size=n+1;rw[rK (Bh _ _),T.len]
 . change below t.place j<=n;rw[<-T.len];show Bh _ _
structure Ow(mask:Nat)(owner:Array (Option Nat))(k:Nat):Prop where
 len:owner.size=mask+1
 cnt:owner.toList.countP Option.isSome=k
 lt:∀x,some x∈owner.toList->x<k
def yT{mask:Nat}{owner:Array (Option Nat)}:∀(L a i q:Nat),m_ (λj=>owner.getD j (some 0)=none) mask L i q->L<a->∃j,layClean.free mask owner a i q=some j/\owner[j]?=some none
 |L,0,_,_,_,c=>absurd c (Wk _)
 |L,a+1,i,q,h,c=>by
  unfold layClean.free;cases d:(List.range (runEnd mask i+1-i)).find? λk=>(owner.getD (i+k) (some 0)).isNone with
  |some k=>
   show⟨i+k,rfl,?_⟩;let:=List.find?_some d;simp![Option.isNone_iff_eq_none]at this;rw[Ys]at this;cases e:owner[i+k]? with
   |none=>rw[e]at this;cases this
   |some o=>rw[e]at this;simp![Option.getD_some]at this;rw[this]
  |none=>
   simp only
   let b:¬owner.getD i (some 0)=none:=by
    intro z;let:=List.find?_eq_none.mp d 0 (by rw[WU];let:=(t_ mask i).2;lia);simp[z]at this
   cases L with
   |zero=>show absurd h b
   |succ L=>
    rcases h with h|h
    . show absurd h b
    . show yT L a _ _ h (by lia)
def Ow.step{mask:Nat}{owner:Array (Option Nat)}{k:Nat}(g:vh mask)(W:Ow mask owner k)(q:k<=mask)(h:Int):
 ∃j,layClean.free mask owner (turns mask) (bits h%(mask+1)) (bits h)=some j/\Ow mask (owner.setIfInBounds j (some k)) (k+1):=by
 let b:∃j,j<=mask/\owner.getD j (some 0)=none:=by
  show Xo λz=>?_
  let a:owner.toList.countP Option.isSome=owner.toList.length:=by
   rw[abg];intro o d;obtain⟨j,c,e⟩:=Wf.mp d;cases o with
   |some x=>rfl
   |none=>
    show absurd ⟨j,?_,?_⟩ z
    . rw[WE,W.len]at c;lia
    . rw[Ys,<-Array.getElem?_toList,VV c,e];rfl
  rw[W.cnt,WE,W.len]at a;lia
 obtain⟨j,c,l⟩:=b;obtain⟨f,p,n⟩:=yT (13+mask) (turns mask) (bits h%(mask+1)) (bits h) (x9 (e:=λj=>owner.getD j (some 0)=none) g c l 13 _ _ (YC (abm _ (aaP _))) (EE h)) (by unfold turns;lia);obtain⟨i,m⟩:=aat.mp n;show⟨f,p,by rw[Array.size_setIfInBounds];show W.len,?_,?_⟩
 . rw[aau,List.countP_set (by rw[WE];show i),W.cnt];rw[Array.getElem_toList,m];rfl
 . intro x b;rw[aau]at b;rcases WA b with z|z
   . show Wo (W.lt x z)
   . cases z;show Wj _
def AM{mask:Nat}(c:vh mask):∀(hs:List Int) (owner:Array (Option Nat)) (k:Nat),Ow mask owner k->k+hs.length<=mask+1->
 ∃a,hs.foldl (λb h=>do let(owner,k) <-b;let j <-layClean.free mask owner (turns mask) (bits h%(mask+1)) (bits h);pure (owner.setIfInBounds j (some k),k+1)) (some (owner,k))=some (a,k+hs.length)/\Ow mask a (k+hs.length)
 | [],owner,k,W,_=>⟨owner,rfl,W⟩
 |h::hs,owner,k,W,d=>by
  rw[Wl]at d;obtain⟨j,e,i⟩:=W.step c (by lia) h;obtain⟨a,f,g⟩:=AM c hs _ _ i (by lia);show⟨a,?_,?_⟩
  . rw[YM,Wl,show k+(hs.length+1)=k+1+hs.length by lia,<-f];congr 1;change Option.bind (some (owner,k)) _=_;simp![aaM,e];rfl
  . rw[Wl,show k+(hs.length+1)=k+1+hs.length by lia];show g
def Jm{mask:Nat}(b:vh mask){hs:Array Int}(c:hs.size<=mask):∃a,layClean mask hs=some a/\Ow mask a hs.size:=by
 obtain⟨a,e,W⟩:=AM b hs.toList (Array.replicate (mask+1) none) 0 ⟨by simp,by simp[List.countP_replicate],by simp⟩ (by rw[WE];lia);rw[XX,WE]at W;show⟨a,?_,W⟩;unfold layClean;rw[<-Array.foldl_toList,e];rfl
def Lf{l:List (Option Nat)}:((List.range l.length).filterMap λj=>(l.getD j none).map λx=>(j,x)).length=l.countP Option.isSome:=by
 rw[ZO]
 let e:l=(List.range l.length).map λj=>l.getD j none:=by
  apply Y8
  . simp
  . intro i a b;simp[VT,a]
 conv=>rhs;rw[e,List.countP_map]
 congr 1;funext j;simp
def Tb.laid{t:SetTable}{hs:Array Int}(d:vh (sizeAbove wanted-1))(f:hs.size<=sizeAbove wanted-1):
 ∃t' order,t.relaid hs wanted=some (t',order)/\Tb t' hs.size/\t'.mask=sizeAbove wanted-1/\order.size=hs.size/\∀k∈order.toList,k<hs.size:=by
 obtain⟨b,e,W⟩:=Jm d f
 let a:((List.range (sizeAbove wanted-1+1)).filterMap λj=>(b.getD j none).map λx=>(j,x)).length=hs.size:=by
  let:=Lf (l:=b.toList);rw[W.cnt,show b.toList.length=sizeAbove wanted-1+1 by rw[WE,W.len]]at this;rw[<-this]
  let e:(λj=>(b.getD j none).map λx=>(j,x))=λj=>(b.toList.getD j none).map λx=>(j,x):=by
   funext j;simp[Ys,VT]
  rw[e]
 unfold relaid SetTable.laid;rw[e];show⟨_,_,rfl,⟨d,rfl,?_,f⟩,rfl,?_,?_⟩
 . simp![VW,VH];show a
 . simp![VW,VH];show a
 . intro k g;simp![Wi,Yq,WU,aa3]at g;obtain⟨⟨h,i⟩,⟨j,m,x,c,q⟩,rfl⟩:=g;cases q;show W.lt _ ?_;rw[Ys]at c;cases z:b[h]? with
   |none=>rw[z]at c;cases c
   |some o=>
    rw[z]at c;simp![Option.getD_some]at c;subst c;show Yg.mpr (ZM z)
section
variable {prog:Program}{w:World}{A:Around}{E:Value->Shared->Prop}{s:Shared}
def Bm{e:List Int}(h:IsTupleKey (intKind prog w) s.heap e b):∃o items n,s.heap.get? b=some o/\o.data= .seq items n/\∀v∈items.toList,∃k t,v= .int k t:=by
 obtain⟨o,items,n,g,i,d,c⟩:=h;show⟨o,items,n,g,d,?_⟩;clear d;generalize items.toList=l at c;intro v a;induction c with
 |nil=>cases a
 |cons q _ f=>
  rcases V8.mp a with rfl|z
  . cases v<;>first|show absurd q WD|show⟨_,_,rfl⟩
  . show f z
def Qj(g:IsTupleKey (intKind prog w) s.heap i b)(h:Q true s):wpAny (model prog w) A (hashByValue 8 (.ref b)) Q E s:=by
 let p:=g.typeIs;obtain⟨o,items,n,j,m,l⟩:=Bm g;unfold hashByValue;show VG (wpAny_specialOf p F.slot_tuple_hash.lookup ?_);dsimp only;show VG (WM j m ?_);show VG ?_;change wpAny _ _ (forIn items _ _) _ _ s;rw[<-Zj];show aaQ _ (λrest r c=>r.1=none/\c=s/\∀v∈rest,∃k t,v=Value.int k t) _ ?_ ?_ _ _ ⟨rfl,rfl,l⟩
 . rintro v rest r c ⟨f,rfl,a⟩;obtain⟨k,t,rfl⟩:=a v V6;let e:hashByValue 7 (.int k t)=pure true:=rfl;rw[e];show VG (VQ ?_);simp![ZA,Wv,Xl];show VQ ⟨rfl,rfl,λu d=>a u (VZ _ d)⟩
 . rintro⟨x,q⟩ c ⟨f,rfl,_⟩;simp only at f;subst f;show VQ h
def IF(g:IsTupleKey (intKind prog w) s.heap i b)(h:Q false s):wpAny (model prog w) A (ofAClassStatement 8 (.ref b)) Q E s:=by
 let p:=g.typeIs;obtain⟨o,items,n,j,m,l⟩:=Bm g;unfold ofAClassStatement;show VG (aaK p ?_);dsimp only;rw[VN (by decide)];show VG (VQ ?_);simp![ZA,Wv,Xl];show VG (WM j m ?_);dsimp only;show VG ?_;change wpAny _ _ (forIn items _ _) _ _ s;rw[<-Zj];show aaQ _ (λrest r c=>r.1=none/\c=s/\∀v∈rest,∃k t,v=Value.int k t) _ ?_ ?_ _ _ ⟨rfl,rfl,l⟩
 . rintro v rest r c ⟨f,rfl,a⟩;obtain⟨k,t,rfl⟩:=a v V6;let e:ofAClassStatement 7 (.int k t)=pure false:=rfl;rw[e];show VG (VQ ?_);simp![Wv,Xl];show VQ ⟨rfl,rfl,λu d=>a u (VZ _ d)⟩
 . rintro⟨x,q⟩ c ⟨f,rfl,_⟩;simp only at f;subst f;show VQ h
def Ni{k:List Int}(n:IsTupleKey (intKind prog w) s.heap k b)(p:∀v∈l,∃f c,v= .ref c/\IsTupleKey (intKind prog w) s.heap f c)(h:Q false s):wpAny (model prog w) A (searchCouldBeSeen (.ref b) l) Q E s:=by
 unfold searchCouldBeSeen;show VG ?_;show aaQ _ (λrest r g=>r.1=none/\g=s/\∀v∈rest,∃f c,v=Value.ref c/\IsTupleKey (intKind prog w) s.heap f c) _ ?_ ?_ _ _ ⟨rfl,rfl,p⟩
 . rintro v rest r g ⟨j,rfl,d⟩;obtain⟨f,c,rfl,o⟩:=d v V6;let a:=λu i=>d u (VZ _ i);by_cases e:(b==c)=true
   . simp![e,Bool.true_or,Yv];show VQ ⟨rfl,rfl,a⟩
   . have m:(carriedByValue (.ref b)&&carriedByValue (.ref c))=false:=rfl;simp![e,m,Bool.false_or,Wv,Xl];show VG (wpAny_eqIsQuiet_tuple n ?_);simp![ZA,Wv,Xl];show VG (wpAny_eqIsQuiet_tuple o ?_);simp![ZA,Wv,Xl];show VG (IF n ?_);simp![Wv,Xl];show VG (IF o ?_);simp![Wv,Xl];show VQ ⟨rfl,rfl,a⟩
 . rintro⟨t,q⟩ g ⟨j,rfl,_⟩;simp only at j;subst j;show VQ h
def Dt{t:SetTable}{f:Nat->Int}{p:Probe}(c:t.probe f h p=r)(g:t.dummies= #[])(b:nD t m p)(e:m<10*turns t.mask)(d:p.dummy=none):
 (∃j,r=some (.empty j none))\/∃j i nx a,r=some (.candidate j i nx)/\t.slot j= .live i/\f i=h/\a<m/\nD t a nx/\nx.dummy=none:=by
 subst c;show CH g m _ p b e d
def zc{o:Obj}{f:Array (Int×Value)}{t:SetTable}{k:List Int}(H:A.units<cLine)
 (u:s.heap.get? a=some o) (D:o.data= .set f ep t) (T:Tb t f.size) (B:IsTupleKey (intKind prog w) s.heap k b)
 (z:∀e∈f.toList,∃p c,p≠k/\e.2= .ref c/\IsTupleKey (intKind prog w) s.heap p c) (M:∀j,Q (.free j false) s):
 ∀(d m:Nat) (stand:Option Probe),nD t m (stand.getD (t.probeStart h))->(stand.getD (t.probeStart h)).dummy=none->m<d->m<10*turns t.mask->wpAny (model prog w) A (setSearchFrom a (.ref b) h true d stand) Q E s
 |0,_,_,_,_,K,_=>absurd K (Wk _)
 |d+1,m,stand,V,X,K,Y=>by
  unfold setSearchFrom;show VG (YX u D T.fits ?_);dsimp only;let Z:t.gaveWay=false:=by unfold SetTable.gaveWay;rcases T.Jp with e|e|e<;>rw[e]<;>rfl
  rw[Z];simp![Wv,Xl];generalize W:t.probe _ h (stand.getD (t.probeStart h))=r;rcases Dt W T.EB V Y X with⟨j,e⟩|⟨j,i,G,S,e,N,h2,h3,h4,h5⟩
  . subst e;show VQ (M j)
  . subst e;dsimp only;let J:i<f.size:=by rw[<-T.len];show Hv N
    let g:f[i]?=some f[i]:=Array.getElem?_eq_getElem J;obtain⟨p,c,x,L,F⟩:=z f[i] (Array.getElem_mem_toList J)
    let rest:wpAny (model prog w) A (do
     let some (_,y):=f[i]?|unsupported "internal:set-entry"
     let equal <-holding [y] (eqBool y (.ref b))
     let(es',_,t') <-setState a
     if true&&equal then return .there none
     let some same:=t'.sameMemory t.moves t.mask|unsupported "set.changed-during-lookup:is-the-new-block-at-the-old-address"
     let still <-match(if same then t'.slot j else .empty)with
      | .live l=>match es'[l]? with
        |some (_,O)=>do pure (if<-isSame O y then some l else none)
        |none=>pure none
      |_=>pure none
     match still with
     |none=>rule "set.search.anew";setSearchFrom a (.ref b) h true d none
     |some l=>if equal then return .there (some l)else setSearchFrom a (.ref b) h true d (some G)) Q E s:=by
     rw[g];generalize f[i]=ei at L g;obtain⟨hh,y⟩:=ei;subst L;dsimp only;show VG (XJ (wpAny_eqBool_tuple H F B ?_));rw[Wt x];show VG (YX u D T.fits ?_);dsimp only;simp![aad,Wv,Xl];let q:t.sameMemory t.moves t.mask=some true:=by unfold SetTable.sameMemory;rw[VN (by simp)]
     rw[q];dsimp only;rw[VN rfl,N];dsimp only;rw[g];dsimp only;show VG (wpAny_isSame_ref_self ?_);rw[VN rfl];show VG (VQ ?_);dsimp only;show zc H u D T B z M d S (some G) h4 h5 (by lia) (by lia)
    cases I:t.led with
    |true=>
     simp![ZA,Wv,Xl];show rest
    |false=>
     simp![Bool.not_false,Yv];show VG (Ni B (λv U=>?_) ?_)
     . obtain⟨e',C,rfl⟩:=Wi.mp U
       obtain⟨n,c',_,R,P⟩:=z e' (by
        let:=Yg.mp C;show Yg.mpr (Array.mem_filter.mp this).1)
       show⟨n,c',R,P⟩
     . simp![Wv,Xl];show rest
end
def nc(prog:Program)(w:World)(h:Heap)(a:Addr)(S:List (List Int)):Prop:=
 ∃o b f t,h.get? a=some o/\o.ExactSet/\o.data= .set b f t/\Tb t b.size/\b.size*5<t.mask*3/\b.size=S.length/\
  ∀e∈b.toList,∃d c,d∈S/\e.2= .ref c/\IsTupleKey (intKind prog w) h d c
section
variable {prog:Program}{w:World}{A:Around}{E:Value->Shared->Prop}{s:Shared}
def yi{h h':Heap}{o:Obj}{es ep t}(x:IsTupleKey (intKind prog w) h f c)(i:h.get? a=some o)(j:o.data= .set es ep t)(hs:Heap.SameBut a h h'):IsTupleKey (intKind prog w) h' f c:=by
 obtain⟨g,items,n,e,l,d,k⟩:=x
 let b:c≠a:=λz=>by
  subst z;rw[i]at e;cases e;rw[j]at d;cases d
 show⟨g,items,n,(hs.2 c b).trans e,l,d,k⟩
def D8{h:Heap}{o:Obj}(e:h.get? a=some o)(c:o.data= .set f d t)(b:Array (Int×Value))(t':SetTable):
 (h.update a (Obj.putSet b t')).get? a=some {o with data:= .set b (d+1) t'}:=by
 let:=Y0 (Obj.putSet b t') e (by rw[putSet_of b t' c];rfl);rw[putSet_of b t' c]at this;show this
def xS(h:n<=4096):n<=sizeLine:=by rw[XT];lia
def Cu{o:Obj}{d:Array (Int×Value)}{S:List (List Int)}(n:s.heap.get? a=some o)(f:o.ExactSet)(p:o.data= .set d K t)(T:Tb t d.size)
 (y:vh (sizeAbove wanted-1)) (J:d.size<=sizeAbove wanted-1) (u:d.size*5<(sizeAbove wanted-1)*3) (G:d.size=S.length)
 (H:∀e∈d.toList,∃m c,m∈S/\e.2= .ref c/\IsTupleKey (intKind prog w) s.heap m c)
 (h:∀h',Heap.SameBut a s.heap h'->nc prog w h' a S->Q () {s with heap:=h'}):wpAny (model prog w) A (setRelay a wanted) Q E s:=by
 let r:sizeAbove wanted<=128:=by rcases y with e|e|e<;>lia
 obtain⟨v,order,e,B,L,z,i⟩:=Tb.laid (t:=t) (hs:=d.map (·.1)) y (by rw[abe];show J);rw[abe]at B z i
 let b:(order.filterMap (d[·]?)).size=d.size:=by
  rw[<-WE,aa6,ZO,<-z,<-WE,abg];intro k I;let:=i k I;simp[this]
 let j:∀x∈(order.filterMap (d[·]?)).toList,x∈d.toList:=λx f=>by
  rw[aa6,Yq]at f;obtain⟨k,_,q⟩:=f;show Yg.mpr (ZM q)
 unfold setRelay;show VG (YX n p T.fits ?_);dsimp only;rw[VM (Nat.not_lt.mpr (VU r (xS (by decide)))),e]
 change wpAny _ _ ((do
  let some (t,order):=some (v,order)|unsupported "internal:set-table-without-room"
  let l:=order.filterMap (d[·]?)
  if l.size != d.size then unsupported "internal:set-table-lost-an-element"
  pure (l,t)) >>= _) _ _ _
 dsimp only;rw[VM (by rw[b];simp)];show VG (VQ ?_);dsimp only;let g:=Xb s.heap a (Obj.putSet (order.filterMap (d[·]?)) v);show wpAny_storeSet_of n p (h _ g ⟨_,_,_,_,D8 n p _ _,f,rfl,by rw[b];show B,by rw[b,L];show u,b.trans G,λx f=>?_⟩) (by rw[b];show xS (by lia));obtain⟨m,c,F,D,C⟩:=H x (j x f);show⟨m,c,F,D,yi C n p g⟩
def NM{S:List (List Int)}{k:List Int}(hu:A.units<cLine)(hS:nc prog w s.heap a S)(X:IsTupleKey (intKind prog w) s.heap k b)(hn:k∉S)(hz:S.length<64)
 (h:∀h',Heap.SameBut a s.heap h'->nc prog w h' a (k::S)->Q true {s with heap:=h'}):wpAny (model prog w) A (setAddHashed a (.ref b) d) Q E s:=by
 obtain⟨o,f,ep,t,u,V,B,T,q,I,Z⟩:=hS;let ag:t.mask<=127:=by rcases T.Jp with e|e|e<;>lia
 unfold setAddHashed setAddHashedIn;show XJ ?_;show VG (YX u B T.fits ?_);dsimp only;rw[show byScan (.ref b) f=false from rfl];simp![Wv,Xl];unfold setSearch;show VG (zc hu u B T X (λe J=>?_) (λj=>?_) 100000 (10*turns t.mask-1) none (T.start d) rfl (by unfold turns;lia) (by unfold turns;lia))
 . obtain⟨F,c,U,R,P⟩:=Z e J;show⟨F,c,λz=>hn (z▸U),R,P⟩
 dsimp only;show VG (YX u B T.fits ?_);dsimp only;obtain⟨N,W,M⟩:=T.put (j:=j) (by lia);generalize Y:t.put j=pt at N W M⊢;obtain⟨O,p⟩:=pt;dsimp only at N W M⊢;let g:(insertAt f p (d,Value.ref b)).size=f.size+1:=rK W
 let tail:∀l:SetTable,Tb l (f.size+1)->l.mask=t.mask->wpAny (model prog w) A (do
  storeSet a (insertAt f p (d,Value.ref b)) l
  if(!false&&l.tooFull)=true then do
   setRelay a (grown (f.size+1))
   pure true
  else pure true) Q E s:=λl T2 K=>by
  let n:=Xb s.heap a (Obj.putSet (insertAt f p (d,Value.ref b)) l);let r:=D8 u B (insertAt f p (d,Value.ref b)) l
  let x:∀e∈(insertAt f p (d,Value.ref b)).toList,∃F c,F∈k::S/\e.2=Value.ref c/\IsTupleKey (intKind prog w) (s.heap.update a (Obj.putSet (insertAt f p (d,Value.ref b)) l)) F c:=λe J=>by
   rcases Ct J with rfl|J
   . show⟨k,b,V6,rfl,yi X u B n⟩
   . obtain⟨F,c,U,R,P⟩:=Z e J;show⟨F,c,VZ _ U,R,yi P u B n⟩
  let v:(insertAt f p (d,Value.ref b)).size=(k::S).length:=by rw[g,I];rfl
  show VG (wpAny_storeSet_of u B ?_ (by rw[g];show xS (by lia)))
  let y:l.tooFull=decide ((f.size+1)*5>=t.mask*3):=by
   unfold SetTable.tooFull fill;rw[T2.len,T2.EB,K];rfl
  rw[y];by_cases G:(f.size+1)*5>=t.mask*3
  . rw[VN (by simp[G])];let hg:grown (f.size+1)=(f.size+1)*4:=by unfold grown;rw[VM (by lia)]
    rw[hg];let L:Tb l (insertAt f p (d,Value.ref b)).size:=by rw[g];show T2
    rcases T.Jp with e|e|e
    . rw[e]at q G;let D:f.size+1=5:=by lia
      rw[D];let i:sizeAbove (5*4)=32:=by decide
      show VG (Cu (s:={s with heap:=s.heap.update a (Obj.putSet (insertAt f p (d,Value.ref b)) l)}) (S:=k::S) r V rfl L (by rw[i];show .inr (.inl rfl)) (by rw[i,g,D];decide) (by rw[i,g,D];decide) v x λh' m C=>VQ (h h' (n.trans m) C))
    . rw[e]at q G;let D:f.size+1=19:=by lia
      rw[D];let i:sizeAbove (19*4)=128:=by decide
      show VG (Cu (s:={s with heap:=s.heap.update a (Obj.putSet (insertAt f p (d,Value.ref b)) l)}) (S:=k::S) r V rfl L (by rw[i];show .inr (.inr rfl)) (by rw[i,g,D];decide) (by rw[i,g,D];decide) v x λh' m C=>VQ (h h' (n.trans m) C))
    . rw[e]at q G;show absurd G (by lia)
  . rw[VM (by simp[G])];show VQ (h _ n ⟨_,_,_,_,r,V,rfl,by rw[g];show T2,by rw[g,K];lia,v,x⟩)
 by_cases H:O.plain=true
 . rw[VN H];show VG (Qj X ?_);rw[VN rfl];show tail O N M
 . rw[VM H];show VG (VQ ?_);rw[VN rfl];show tail O N M
def nc.keep{h h':Heap}{S:List (List Int)}(y:nc prog w h a S)(B:h.IsListIter I l i)(x:a≠I)(k:∀b o,b≠I->h.get? b=some o->h'.get? b=some o):nc prog w h' a S:=by
 obtain⟨o,L,M,t,K,J,H,G,F,D,C⟩:=y;show⟨o,L,M,t,k _ _ x K,J,H,G,F,D,λe v=>?_⟩;obtain⟨u,c,q,p,r,items,n,j,g,m⟩:=C e v;show⟨u,c,q,p,r,items,n,k _ _ (λz=>?_) j,g,m⟩;subst z;obtain⟨O,f,d,N⟩:=B;rw[j]at f;cases f;rw[g]at d;show absurd d (by decide)
def Of{rows:List (List Int)}(a:rows.Nodup){k:List Int}(h:rows[i]?=some k):k∉(rows.take i).reverse:=by
 intro z;rw[List.mem_reverse]at z;obtain⟨b,e⟩:=VI.mp h;let:rows=rows.take i++rows.drop i:=(ZN i rows).symm;rw[this]at a;rw[Wa b,e]at a;show(List.nodup_append.mp a).2.2 k z k V6 rfl
def yH(prog:Program)(w:World)(h:Heap)(items:Array Value)(rows:List (List Int))(no:List Addr):Prop:=
 ∀(i:Nat) (v:Value),items[i]?=some v->∃(b:Addr) (ks:List Int),v=Value.ref b/\rows[i]?=some ks/\IsTupleKey (intKind prog w) h ks b/\b∉no
def yH.keep{h h':Heap}{no:List Addr}(K:yH prog w h items rows no)(k:∀b o,b∉no->h.get? b=some o->h'.get? b=some o):yH prog w h' items rows no:=λi v e=>by
 obtain⟨b,g,l,j,⟨o,a,n,f,d⟩,c⟩:=K i v e;show⟨b,g,l,j,⟨o,a,n,k b o c f,d⟩,c⟩
def Jg{S I l:Addr}{items:Array Value}{rows:List (List Int)}(V:A.in1.handled=none)(M:A.in1.units<cLine)(D:S≠I)(P:l≠I)(x:l≠S)(X:rows.Nodup)(hz:rows.length<=64):
 ∀(k i:Nat) (s:Shared),items.size-i=k->i<=items.size->s.heap.IsListIter I l i->s.heap.IsList l items->nc prog w s.heap S (rows.take i).reverse->yH prog w s.heap items rows [S,I]->
  (∀s',Moved [S,I] (λa b=>b=a) s s'->nc prog w s'.heap S (rows.take items.size).reverse->R (.ok (.ret .none)) s')->
  codeAny (model prog w) A (.builtin "set.update.loop" ⟨[.ref S,.ref I],[]⟩) R s:=by
 let W:=Walks.list (prog:=prog) (w:=w) V I l P items;intro k;induction k with
 |zero=>
  intro i s Q U q H C N F;let y:i=items.size:=by lia
  subst y;show aa0 Zk ?_;rw[Around.under_plainId Yt _];change wpAny _ A.in1 (pyNext (.ref I) >>= _) _ _ s;show VG (W.toS.done s _ _ ⟨q,H⟩ λs' d=>?_);change wpAny _ A.in1 (ret Value.none) _ _ s';show VQ (F s' (d.mono λb c=>VZ _ c) (C.keep q D λb o c e=>d.heap b o (by simpa using c) e))
 |succ k O=>
  intro i s Q U q H C N F;let h:i<items.size:=by lia
  show aa0 Zk ?_;rw[Around.under_plainId Yt _];change wpAny _ A.in1 (pyNext (.ref I) >>= _) _ _ s;show VG (W.toS.item i s _ _ h ⟨q,H⟩ λv s' Y f d=>?_);let B:nc prog w s'.heap S (rows.take i).reverse:=C.keep q D λb o c e=>d.heap b o (by simpa using c) e;let p:=N.keep λb o c e=>d.heap b o (λz=>c (VZ _ z)) e;obtain⟨b,L,rfl,K,j,c⟩:=p i v Y;change wpAny _ A.in1 (holding [Value.ref b] (setAdd S (.ref b)) >>= _) _ _ s';show VG (XJ ?_);unfold setAdd;show XJ ?_;show VG (wpAny_pyHash_tuple M j ?_);let T:i<rows.length:=(VI.mp K).1;show NM (s:={s' with toks:=s'.toks+(L.length+1)}) M B j (Of X K) (by rw[List.length_reverse,W4];lia) λh' u m=>?_
  let e2:L::(rows.take i).reverse=(rows.take (i+1)).reverse:=by
   rw[List.take_succ,K];simp
  rw[e2]at m;obtain⟨J,G⟩:=f;let r:∀b o,b≠S->s'.heap.get? b=some o->h'.get? b=some o:=λb o c e=>by rw[u.2 b c];show e
  show VQ ⟨plainId_quiet Yt _,O (i+1) _ (by lia) h (J.at λo e=>r _ _ (VO D) e) (G.at λo e=>r _ _ x e) m (p.keep λb o c e=>r b o (λz=>c (by rw[z];show V6)) e) λt g n=>?_⟩;show F t (Moved.trans (λ_ _ _ h1 Z=>Z.trans h1) ((d.mono λb c=>VZ _ c).then_heap (ZI _ _) λb o c e=>r b o (λz=>c (by rw[z];show V6)) e) g) n
def Gf{h:Heap}{a:Addr}{led:Bool}(e:h.get? a=some {cls:= .type "set",dict:=none,data:= .set #[] 0 (.fresh 0 0 led)}):nc prog w h a []:=
 ⟨_,_,_,_,e,⟨rfl,rfl,rfl⟩,rfl,⟨.inl rfl,rfl,rfl,V3 _⟩,(show 0*5<7*3 by decide),rfl,λe b=>by simp at b⟩
def HN{items:Array Value}{rows:List (List Int)}(hh:A.handled=none)(hu:A.units+8<cLine)(hl:s.heap.IsList l items)(hk:yH prog w s.heap items rows [])(hd:rows.Nodup)(hz:rows.length<=64)(hn:rows.length=items.size)
 (h:∀(h':Heap) (tk:Nat),nc prog w h' s.heap.objs.size rows.reverse->(∀b o,s.heap.get? b=some o->h'.get? b=some o)->Q (.ref s.heap.objs.size) {s with heap:=h',toks:=tk}):
 wpAny (model prog w) A (call (.type "set") [.ref l]) Q E s:=by
 obtain⟨c,tl,Y⟩:=YK.mro;let K:=YK.made;let V:=YK.sub;show wpAny_call (codeAny_of_tree ?_);change wpAny _ _ (callAny (.type "set") _) _ _ _;show VQ ⟨Code.quiet_builtin _ (by decide+kernel),aa0 F.entry_type_call ?_⟩;rw[Around.under_plain (weight_type_call_type "set" [.ref l] []) rfl];let h1:=YK.notType;let h2:=YK.canCreate;let ar:=F.typeCall_set_1 (.ref l);repeat(any_goals (first|assumption|wp_step))
 show Zh (code_set_new_1 (.ref l) (E:=E) (Q₁:=λk P=>∃led:Bool,k= .ref s.heap.objs.size/\P= {s with heap:=s.heap.push {cls:= .type "set",dict:=none,data:= .set #[] 0 (.fresh 0 0 led)}}) λled=>⟨led,rfl,rfl⟩) λr P m=>?_;cases r with
 |error e=>show m
 |ok fl=>
  cases fl with
  |ret k=>
   obtain⟨led,rfl,rfl⟩:=m;let Z:(s.heap.push {cls:= .type "set",dict:=none,data:= .set #[] 0 (.fresh 0 0 led)}).get? s.heap.objs.size=some {cls:= .type "set",dict:=none,data:= .set #[] 0 (.fresh 0 0 led)}:=V4 _ rfl;let hT:Shared.TypeIs {s with heap:=s.heap.push {cls:= .type "set",dict:=none,data:= .set #[] 0 (.fresh 0 0 led)}} (.ref s.heap.objs.size) "set":=⟨_,Z,rfl⟩
   let ah:=YK.init.lookup;let az:=YK.init.bind (.ref s.heap.objs.size);repeat(any_goals (first|assumption|wp_step))
   show Zh (codeAny_call_builtin (R:=wants (λr O=>r= .none/\∃h' tk,O= {s with heap:=h',toks:=tk}/\nc prog w h' s.heap.objs.size rows.reverse/\(∀b o,s.heap.get? b=some o->h'.get? b=some o)) E) YK.init.plain F.entry_set_init (check_set_init_1 hT ?_)) λr₂ O a=>?_
   . obtain⟨ol,q,B,U,y⟩:=hl;obtain⟨T,j,I,d⟩:=ol;simp only at B y;subst B;subst y;let p:(s.heap.push {cls:= .type "set",dict:=none,data:= .set #[] 0 (.fresh 0 0 led)}).get? l=some {cls:= .type "list",dict:=j,data:= .seq items U,slots:=d}:=VJ _ q;let W:=F.sub_list_set;let X:=F.sub_list_frozenset;let ag:(Value.type "list"==Value.type "dict")=false:=by decide
     let u:(s.heap.push {cls:= .type "set",dict:=none,data:= .set #[] 0 (.fresh 0 0 led)}).IsList l items:=⟨_,p,rfl,U,rfl⟩
     unfold Builtin.«set.__init__» noKeywords Builtin.Frozenset.updateFrom;generalize M:pyIter=PI
     wp_walk
     subst M;show YW u ?_;show VG (wpAny_runValue ?_);let t:l<s.heap.objs.size:=VY q;let g:(s.heap.push {cls:= .type "set",dict:=none,data:= .set #[] 0 (.fresh 0 0 led)}).objs.size=s.heap.objs.size+1:=WG _ _;let x:((s.heap.push {cls:= .type "set",dict:=none,data:= .set #[] 0 (.fresh 0 0 led)}).push {cls:= .type "list_iterator",data:= .fields #[.ref l,.int 0 0]}).get? (s.heap.objs.size+1)=some {cls:= .type "list_iterator",data:= .fields #[.ref l,.int 0 0]}:=by rw[<-g];show V4 _ rfl
     rw[g];show Jg (items:=items) (rows:=rows) (l:=l) (by simp[hh]) ?hu (Wb (Wj _)) (Wb (Wo t)) (Wb t) hd hz (items.size-0) 0 _ rfl (V3 _) ⟨_,x,rfl,rfl⟩ (u.push _) (Gf (led:=led) (VJ _ Z)) ?hK ?hR
     case hK=>
      intro i v e;obtain⟨b,ks,e1,e2,⟨o,J,n,S,q2⟩,_⟩:=hk i v e;let C:b<s.heap.objs.size:=VY S;show⟨b,ks,e1,e2,⟨o,J,n,VJ _ (VJ _ S),q2⟩,?_⟩;simp![V8,Wc,Yb,YO];show⟨Wb C,Wb (Wo C)⟩
     case hR=>
      intro s' D f;obtain⟨h',g',d',G,H⟩:=s';let eg:g'=s.gens:=D.gens;let ed:d'=s.drawn:=D.drawn;let eo:H=s.os:=D.os;subst eg;subst ed;subst eo;rw[<-hn,aaR]at f;change wpAny _ _ _ _ _ _;show VQ ?_;change wpAny _ _ (ret Value.none) _ _ _;show VQ ⟨rfl,h',G,rfl,f,λb o e=>D.heap b o (λz=>?_) (VJ _ (VJ _ e))⟩;let C:b<s.heap.objs.size:=VY e;simp![V8,Wc,Yb]at z;rcases z with z|z
      . show absurd z (Wb C)
      . show absurd z (Wb (Wo C))
     case hu=>change A.units+1+1+1<cLine;lia
   . cases r₂ with
     |error e=>show a
     |ok N=>
      cases N with
      |ret r=>
       obtain⟨rfl,h',tk,rfl,f,L⟩:=a;show VQ ?_;dsimp only;rw[VM (by decide)];show VQ (h h' tk f L)
      |next=>show a.elim
      |brk=>show a.elim
      |cont=>show a.elim
  |next=>show m.elim
  |brk=>show m.elim
  |cont=>show m.elim
end
end L3
namespace L3
open PySem L2
open PySem.Spec hiding items?
open PyProof.Rows hiding St
def Qk(H:Hp)(v:V)(a:List Int):Prop:=∃b,v= .ref b/\H b=some (.tup (a.map V.int))
def Jr(a:Addr)(n:Nat)(h:Heap):Prop:=∃o b c t,h.get? a=some o/\o.ExactSet/\o.data= .set b c t/\t.fits b.size=true/\b.size=n
def SA:List V->Hp->VK->Prop:=λc H Q=>∃a b rows,c=[.ref a]/\Rd H a (.lst b)/\Paired (Qk H) b rows/\rows.Nodup/\rows.length<=64/\∀l,H l=none->Q (.ref l) (upd H l (.ext (Jr l rows.length)))
def Ta:List V->Hp->VK->Prop:=λb H Q=>∃a n,b=[.ref a]/\H a=some (.ext (Jr a n))/\n<=64/\Q (.int n) H
section
variable {X:Cx}
def yY:∀ {a:List Int} {its:List Value},Vals (a.map V.int) its->ItemsAre (intKind X.prog X.w) a its
 | [],_,h=>by cases h;show .nil
 |k::a,_,h=>by
  cases h with
  |cons r t=>
   obtain⟨tk,rfl⟩:=r;show .cons (intKind_is _ _ _ _) (yY t)
def RB{k:Nat}(T:cJ k X.A)(hc:X.calm=true):bJ X (.type "set") SA:=λA s σ H xs us Q I M ⟨a,L,rows,e,ha,C,Z,S,q⟩=>by
 subst e;cases M with
 |cons r N=>
  cases N;cases r;obtain⟨D,c,n,p,Y⟩:=ha.ok I.aH
  let V:yH X.prog X.w s.heap c.toArray rows []:=λi v W=>by
   let g:c[i]?=some v:=by simpa using W
   obtain⟨u,_⟩:=VI.mp g;let d:i<L.length:=by rw[Zy p];show u
   obtain⟨v',f,z⟩:=nH p (VV d);rw[g]at f;cases f;obtain⟨P,w,b,eb,hb⟩:=nH C (VV d);rw[eb]at z;cases z;obtain⟨_,B,l,o,U,j,m,h⟩:=I.aH b _ hb;show⟨b,P,rfl,w,⟨o,_,m,U,j,h,by simpa using yY l⟩,by simp⟩
  show HN (I.ok.hd hc) (by let:=T.units;lia) ⟨_,Y,rfl,n,rfl⟩ V Z S (by rw[<-Zy C,Zy p];simp) λh' tk hS R=>?_;obtain⟨o,es,ep,t,F,h2,h3,h4,h5,E,h7⟩:=hS;rw[List.length_reverse]at E;show⟨.ref _,_,I.laid (t':=tk) R (VL _) (show dm X.prog X.w _ h' _ (.ext (Jr s.heap.objs.size rows.length))from⟨⟨o,es,ep,t,F,h2,h3,h4.fits,E⟩,⟨o,F⟩,λp1 p2 ⟨O,x,y,t',K,J⟩ G=>⟨O,x,y,t',G _ K,J⟩⟩),rfl,q _ (I.aH.fresh (VL _))⟩
def Qn:bJ X (.builtin "len") Ta:=λc s σ H m p Q I d ⟨a,n,e,g,u,q⟩=>by
 subst e;cases d with
 |cons r f=>
  cases f;cases r;obtain⟨⟨o,v,w,t,l,k,j,i,h⟩,_⟩:=I.aH a _ g;subst h;show call_len_set l k j i (by lia) ⟨.int _,H,I.kept λb o e=>e,⟨_,rfl⟩,q⟩
def FO(r:List Int):D:= .tup (r.map D.int)
def RJ(ds:List D)(st:ae)(K:DK):Prop:=∃rows:List (List Int),ds=[.lst (rows.map FO)]/\rows.Nodup/\rows.length<=64/\K (.int rows.length) st
@[irreducible] def xl:eX:=RJ
def yX:∀ {r:List Int} {vs:List V},aF α G (r.map D.int) vs->vs=r.map V.int
 | [],_,h=>by unfold aF at h;show h
 |k::r,_,h=>by
  rw[Wq]at h;unfold aF at h;obtain⟨v,c,rfl,a,b⟩:=h;unfold Rep at a;rw[a,yX b];rfl
def zy(P:b_ G F H):∀ {rows:List (List Int)} {vs:List V},aF α G (rows.map FO) vs->Paired (Qk H) vs rows
 | [],_,h=>by unfold aF at h;subst h;show .nil
 |k::r,_,h=>by
  rw[Wq]at h;unfold aF at h;obtain⟨v,f,rfl,b,e⟩:=h;show .cons ?_ (zy P e);unfold FO at b;unfold Rep at b;obtain⟨a,vs,rfl,_,c,d⟩:=b;rw[yX d]at c;show⟨a,rfl,P.get c⟩
def boot_set:bootBuiltins "set"=some (.type "set"):=by decide+kernel
def Rq{a:Expr}{p pos A b:Pos}{s:DA}{k:Nat}(B:cJ k X.A)(D:Gl X "len")(C:X.mg "len"=none)(h:Gl X "set")(g:X.mg "set"=none)(o:JA X [a] s)(I:X.calm=true:=by rfl)(hs:notStar a=true:=by rfl):JE X (.Call (.Name "len" p) [.Call (.Name "set" A) [a] [] b] [] pos) (bI xl s):=by
 unfold JE;unfold JA at o;show PE.imp (CK Qn D C (by decide+kernel) (Ej (zw (RB B I) h g boot_set o (by decide) (by decide) (bP hs) rfl) HP (bP rfl)) (by decide) (by decide) (bP rfl) rfl) λσ H Q ⟨α,u,x,K,G,F,P,L,S,t,k⟩=>?_;show⟨α,u,x,_,G,F,P,L,S,t,λM d q w N H1 i y c J z=>?_⟩;unfold xl at q;obtain⟨rows,rfl,E,m,q⟩:=q;obtain⟨v,rfl,j⟩:=gq z rfl;unfold Rep at j;obtain⟨a,i,rfl,na,f,e⟩:=j;show⟨a,i,rows,rfl,fE c f,zy c e,E,m,λl n=>?_⟩;let r:=(c.none n).1;show⟨l,rows.length,rfl,aW,m,(k.at y) _ d q w _ _ _ (Step.laid r) (c.laid n) (J.laid r) (by unfold Rep;rfl)⟩
def OF{st:ae}{K:DK}{rows:List (List Int)}{xs:List D}(e:xs=rows.map FO)(b:rows.Nodup)(a:rows.length<=64)(k:K (.int rows.length) st):xl [.lst xs] st K:=by unfold xl;show⟨rows,by rw[e],b,a,k⟩
end
end L3
namespace Mx
def S:Nat->(Nat->Int)->Int
 |0,_=>0
 |n+1,f=>S n f+f n
def aE{f g:Nat->Int}(h:∀i,i<n->f i=g i):S n f=S n g:=by
 induction n with
 |zero=>rfl
 |succ n a=>unfold S;rw[a λi b=>h i (by lia),h n (by lia)]
def gW{f:Nat->Int}(h:∀i,i<n->f i=0):S n f=0:=by
 induction n with
 |zero=>rfl
 |succ n a=>unfold S;rw[a λi b=>h i (by lia),h n (by lia)];rfl
def fW(n:Nat)(f g:Nat->Int):S n (λi=>f i+g i)=S n f+S n g:=by
 induction n with
 |zero=>rfl
 |succ n a=>unfold S;rw[a];dsimp only;lia
def dJ(n:Nat)(c:Int)(f:Nat->Int):S n (λi=>c*f i)=c*S n f:=by
 induction n with
 |zero=>unfold S;rw[V2]
 |succ n a=>unfold S;rw[a,Int.mul_add]
def om(n:Nat)(c:Int)(f:Nat->Int):S n (λi=>f i*c)=S n f*c:=by
 induction n with
 |zero=>unfold S;rw[XF]
 |succ n a=>unfold S;rw[a,aa7]
def xH(n:Nat)(f:Nat->Int):S n (λi=> -f i)= -S n f:=by
 induction n with
 |zero=>rfl
 |succ n a=>unfold S;rw[a];dsimp only;lia
def mV(m n:Nat)(f:Nat->Nat->Int):S m (λi=>S n λj=>f i j)=S n λj=>S m λi=>f i j:=by
 induction m with
 |zero=>show(gW (n:=n) (λi _=>rfl)).symm
 |succ m a=>
  have:S n (λj=>S (m+1) λi=>f i j)=S n λj=>(S m λi=>f i j)+f m j:=aE λj _=>rfl;rw[this,fW,<-a];rfl
def kC{k:Nat}(d:k<n){f:Nat->Int}(h:∀i,i<n->i≠k->f i=0):S n f=f k:=by
 induction n with
 |zero=>lia
 |succ n a=>
  unfold S;by_cases e:k=n
  . subst e;rw[gW λi c=>h i (by lia) (by lia),YJ]
  . rw[a (by lia) λi c b=>h i (by lia) b,h n (by lia) (by lia),XG]
def IV(n:Nat)(f:Nat->Int):S (n+1) f=f 0+S n λi=>f (i+1):=by
 induction n with
 |zero=>unfold S S;lia
 |succ n a=>
  have:S (n+1+1) f=S (n+1) f+f (n+1):=rfl;rw[this,a];let:S (n+1) (λi=>f (i+1))=S n (λi=>f (i+1))+f (n+1):=rfl;rw[this];lia
def dl(i j:Nat):Int:=if i=j then 1 else 0
def bT(i:Nat):dl i i=1:=VN rfl
def bN(h:i≠j):dl i j=0:=VM h
def mK{n k:Nat}(a:k<n)(f:Nat->Int):S n (λi=>dl k i*f i)=f k:=by
 rw[kC a (λi _ h=>by rw[bN (VO h),XF]),bT,WZ]
def ik{n k:Nat}(a:k<n)(f:Nat->Int):S n (λi=>f i*dl i k)=f k:=by
 rw[kC a (λi _ h=>by rw[bN h,V2]),bT,Xs]
abbrev Row:=List Int
abbrev Rows:=List (List Int)
def g(A:Rows)(i j:Nat):Int:=(A.getD i []).getD j 0
structure aO(m n:Nat)(A:Rows):Prop where
 len:A.length=m
 gw:∀r∈A,r.length=n
def aq{α:Type}{l:List α}{d:α}(h:i<l.length):l.getD i d=l[i]:=by
 rw[VT,VV h];rfl
def lQ{α:Type}{l:List α}{d:α}(h:l.length<=i):l.getD i d=d:=by
 rw[VT,Yc h];rfl
def NO{a b:Row}(f:a.length=n)(e:b.length=n)(h:∀j,j<n->a.getD j 0=b.getD j 0):a=b:=by
 show Y8 (by lia) λi d c=>?_;let:=h i (by lia);rwa [aq d,aq c]at this
def aO.row{A:Rows}(h:aO m n A)(b:i<m):(A.getD i []).length=n:=by
 let a:=h.len;rw[aq (by lia)];show h.gw _ (WX _)
def aO.ext(c:aO m n A)(b:aO m n B)(h:∀i j,i<m->j<n->g A i j=g B i j):A=B:=by
 let l:=c.len;let k:=b.len;show Y8 (by lia) λi d a=>?_;let f:=c.row (i:=i) (by lia);let e:=b.row (i:=i) (by lia);let:=NO f e λj a=>h i j (by lia) a;rwa [aq d,aq a]at this
def de(r:Row)(t:Int)(s:Row):Row:=List.zipWith (λa b=>a+t*b) r s
def gH{r s:Row}(h:r.length=s.length):(de r t s).length=r.length:=by unfold de;simp[h]
def iy{r s:Row}(h:r.length=s.length)(j:Nat):(de r t s).getD j 0=r.getD j 0+t*s.getD j 0:=by
 unfold de;by_cases a:j<r.length
 . rw[aq (by simp;lia),aq a,aq (by lia)];simp
 . rw[lQ (by simp;lia),lQ (by lia),lQ (by lia)];simp
def gh:Row->Rows->Row->Row
 |w::ws,r::rs,a=>gh ws rs (de a w r)
 |_,_,a=>a
def zA:∀ {c:Row} {a:Rows} {acc:Row},acc.length=n->(∀r∈a,r.length=n)->(gh c a acc).length=n
 | [],_,acc,h,_=>by unfold gh;show h
 |_::_,[],acc,h,_=>by unfold gh;show h
 |w::c,r::a,acc,h,d=>by
  unfold gh;show zA ?_ λr b=>d r (VZ _ b);rw[gH (by rw[h,d r V6]),h]
def CF:∀ {b:Row} {a:Rows} {acc:Row} (j:Nat),acc.length=n->(∀r∈a,r.length=n)->b.length=a.length->(gh b a acc).getD j 0=acc.getD j 0+S a.length λk=>b.getD k 0*g a k j
 | [],[],acc,j,h,_,_=>by unfold gh;change _=_+(0:Int);rw[XG]
 | [],_::_,acc,j,h,_,c=>by cases c
 |_::_,[],acc,j,h,_,c=>by cases c
 |w::b,r::a,acc,j,h,e,c=>by
  let f:acc.length=r.length:=by rw[h,e r V6]
  unfold gh;rw[CF j (by rw[gH f,h]) (λr d=>e r (VZ _ d)) (by simpa using c),iy f,Wl,IV]
  let:(λk=>(w::b).getD (k+1) 0*g (r::a) (k+1) j)=λk=>b.getD k 0*g a k j:=by
   funext k;unfold g;simp
  rw[this];unfold g;simp;lia
def mulM(A B:Rows)(n:Nat):Rows:=A.map λw=>gh w B (List.replicate n 0)
def dY(n j:Nat):(List.replicate n (0:Int)).getD j 0=0:=by
 by_cases h:j<n
 . rw[aq (by simpa using h)];simp
 . rw[lQ (by simp;lia)]
def bS(c:aO m p A)(b:aO p n B):aO m n (mulM A B n):=by
 show⟨by unfold mulM;rw[VH];show c.len,λr a=>?_⟩;unfold mulM at a;obtain⟨w,_,rfl⟩:=Wi.mp a;show zA (by simp) b.gw
def map_getD{α:Type}{f:Row->List α}{A:Rows}(h:i<A.length):(A.map f).getD i []=f (A.getD i []):=by
 rw[aq (by simpa using h),aq h];simp
def dW(b:aO m p A)(a:aO p n B)(c:i<m)(j:Nat):g (mulM A B n) i j=S p λk=>g A i k*g B k j:=by
 let d:=b.len;change((mulM A B n).getD i []).getD j 0=_;unfold mulM;rw[map_getD (by lia),CF (n:=n) j (by simp) a.gw (by rw[b.row c,a.len]),dY,YJ,a.len];rfl
def cP(c:aO m p A)(a:aO p q B)(b:aO q n C):mulM (mulM A B q) C n=mulM A (mulM B C n) n:=by
 show(bS (bS c a) b).ext (bS c (bS a b)) λi j d o=>?_;rw[dW (bS c a) b d,dW c (bS a b) d];let h:S q (λk=>g (mulM A B q) i k*g C k j)=S q λk=>S p λl=>g A i l*g B l k*g C k j:=aE λk _=>by rw[dW c a d,om]
 let f:S p (λl=>g A i l*g (mulM B C n) l j)=S p λl=>S q λk=>g A i l*g B l k*g C k j:=aE λl e=>by
  rw[dW a b e,<-dJ];show aE λk _=>by rw[Ww]
 rw[h,f,mV]
def jz(n i:Nat):Row:=(List.range n).map λk=>dl k i
def units(n:Nat):Rows:=(List.range n).map λi=>jz n i
def range_getD{α:Type}{f:Nat->α}{d:α}(h:i<n):((List.range n).map f).getD i d=f i:=by
 rw[aq (by simpa using h)];simp
def cf(n:Nat):aO n n (units n):=⟨by simp[units],λr a=>by unfold units at a;obtain⟨i,_,rfl⟩:=Wi.mp a;simp[jz]⟩
def cK(b:i<n)(a:j<n):g (units n) i j=dl i j:=by
 unfold g units jz;rw[range_getD b,range_getD a];unfold dl;by_cases h:i=j
 . subst h;rfl
 . rw[VM (VO h),VM h]
def dD(b:aO m n A):mulM (units m) A n=A:=
 (bS (cf m) b).ext b λi j a d=>by
   rw[dW (cf m) b a];let:S m (λk=>g (units m) i k*g A k j)=S m λk=>dl i k*g A k j:=aE λk c=>by rw[cK a c]
   rw[this,mK a]
def u0(a:aO m n A):mulM A (units n) n=A:=
 (bS a (cf n)).ext a λi j d b=>by
   rw[dW a (cf n) d];let:S n (λk=>g A i k*g (units n) k j)=S n λk=>g A i k*dl k j:=aE λk c=>by rw[cK c b]
   rw[this,ik b]
def qm(A:Rows)(j:Nat):Row:=A.map λr=>r.getD j 0
def bp(A:Rows)(n:Nat):Rows:=(List.range n).map λj=>qm A j
def cC(b:aO m n A):aO n m (bp A n):=⟨by simp[bp],λr a=>by
 unfold bp at a;obtain⟨j,_,rfl⟩:=Wi.mp a;unfold qm;rw[VH,b.len]⟩
def NY{A:Rows}(j:Nat)(h:i<A.length):(qm A j).getD i 0=g A i j:=by
 unfold qm g;rw[aq (by simpa using h),aq h];simp
def cB(c:aO m n A)(b:i<m)(a:j<n):g (bp A n) j i=g A i j:=by
 change((bp A n).getD j []).getD i 0=_;unfold bp;rw[range_getD a,NY j (by rw[c.len];show b)]
def x6(b:aO m p A)(a:aO p n B):bp (mulM A B n) n=mulM (bp B n) (bp A p) m:=
 (cC (bS b a)).ext (bS (cC a) (cC b)) λi j d c=>by
   rw[cB (bS b a) c d,dW b a c,dW (cC a) (cC b) d];show aE λk e=>by rw[cB a e d,cB b c e,WK]
def Q5:Row->Row->Int
 |a::as,b::bs=>a*b+Q5 as bs
 |_,_=>0
def nM(i j:Nat):dl i j=dl j i:=by
 unfold dl;by_cases h:i=j
 . rw[VN h,VN h.symm]
 . rw[VM h,VM (VO h)]
def sw(i j k:Nat):Nat:=if k=i then j else if k=j then i else k
def UA(e:i<n)(d:j<n)(a:i≠j)(f:Nat->Int):S n (λk=>f (sw i j k))=S n f:=by
 let:S n (λk=>f (sw i j k))=S n λk=>f k+(f j-f i)*dl k i+(f i-f j)*dl k j:=aE λk _=>by
  unfold sw;by_cases c:k=i
  . subst c;rw[VN rfl,bT,bN a];lia
  . rw[VM c,bN c];by_cases b:k=j
    . subst b;rw[VN rfl,bT];lia
    . rw[VM b,bN b];lia
 rw[this,fW,fW,ik (f:=λ_=>f j-f i) e,ik (f:=λ_=>f i-f j) d];lia
def qi{A:Rows}{r:Row}(b:i<A.length)(a k:Nat):g (A.set i r) a k=if a=i then r.getD k 0 else g A a k:=by
 let e:(A.set i r).getD a []=if a=i then r else A.getD a []:=by
  rw[VT,VT];by_cases h:a=i
  . subst h;rw[VN rfl,VX b];rfl
  . rw[VM h,VP (VO h)]
 unfold g;rw[e];by_cases h:a=i
 . rw[VN h,VN h]
 . rw[VM h,VM h]
def AG{A:Rows}{r:Row}(h:aO m n A)(a:r.length=n):aO m n (A.set i r):=⟨by rw[V0];show h.len,λq b=>by
 rcases WA b with z|rfl
 . show h.gw q z
 . show a⟩
abbrev Fn:=Nat->Nat->Int
def sk(j c:Nat):Nat:=if c<j then c else c+1
def sg(j:Nat):Int:=if j%2=0 then 1 else-1
def xX(j:Nat):sg (j+1)= -sg j:=by unfold sg;split<;>split<;>lia
def Er:sg 0=1:=rfl
def kI(h:c<n):sk j c<n+1:=by unfold sk;split<;>lia
def S9{j k c:Nat}(h:k<j):sk j (sk k c)=sk k (sk (j-1) c):=by unfold sk;grind
def D:Nat->Fn->Int
 |0,_=>1
 |n+1,M=>S (n+1) λj=>sg j*M 0 j*D n λr c=>M (r+1) (sk j c)
def QS(M:Fn):D 0 M=1:=rfl
def d9(n:Nat)(M:Fn):D (n+1) M=S (n+1) λj=>sg j*M 0 j*D n λr c=>M (r+1) (sk j c):=rfl
def dc:∀ {n:Nat} {M M':Fn},(∀r c,r<n->c<n->M r c=M' r c)->D n M=D n M'
 |0,_,_,_=>rfl
 |n+1,M,M',h=>by
  rw[d9,d9];show aE λj a=>?_;let e:D n (λr c=>M (r+1) (sk j c))=D n (λr c=>M' (r+1) (sk j c)):=dc λr c d b=>h (r+1) (sk j c) (by lia) (kI b);rw[h 0 j (by lia) a,e]
def Lz:∀ {n:Nat} {M P Q:Fn} {a b:Int} {i:Nat},i<n->(∀c,c<n->M i c=a*P i c+b*Q i c)->(∀r c,r<n->c<n->r≠i->M r c=P r c/\M r c=Q r c)->D n M=a*D n P+b*D n Q
 |0,_,_,_,_,_,_,h,_,_=>by lia
 |n+1,M,P,Q,a,b,0,_,g,h=>by
  rw[d9,d9,d9,<-dJ,<-dJ,<-fW];show aE λj f=>?_;let o:D n (λr c=>M (r+1) (sk j c))=D n (λr c=>P (r+1) (sk j c)):=dc λr c k d=>(h (r+1) (sk j c) (by lia) (kI d) (by lia)).1;let m:D n (λr c=>M (r+1) (sk j c))=D n (λr c=>Q (r+1) (sk j c)):=dc λr c k d=>(h (r+1) (sk j c) (by lia) (kI d) (by lia)).2;rw[g j f,<-o,<-m];grind
 |n+1,M,P,Q,a,b,i+1,q,g,h=>by
  rw[d9,d9,d9,<-dJ,<-dJ,<-fW];show aE λj f=>?_;let e:=Lz (n:=n) (M:=λr c=>M (r+1) (sk j c)) (P:=λr c=>P (r+1) (sk j c)) (Q:=λr c=>Q (r+1) (sk j c)) (a:=a) (b:=b) (i:=i) (by lia) (λc d=>g (sk j c) (kI d)) λr c k d l=>h (r+1) (sk j c) (by lia) (kI d) (by lia);let p:=h 0 j (by lia) f (by lia);rw[e,<-p.1,<-p.2];grind
def Ur(h:∀c,c<n+2->M 0 c=M 1 c):D (n+2) M=0:=by
 letI T:Nat->Nat->Int:=λj k=>sg j*M 0 j*(sg k*M 1 (sk j k)*D n λr c=>M (r+2) (sk j (sk k c)))
 let p:∀j,j<n+2->sg j*M 0 j*D (n+1) (λr c=>M (r+1) (sk j c))=S (n+1) λk=>T j k:=λj e=>by
  rw[d9,<-dJ]
 rw[d9,aE p]
 let o:∀j,j<n+2->S (n+1) (λk=>T j k)=S (n+1) (λk=>if k<j then T j k else 0)+S (n+1) (λk=>if k<j then 0 else T j k):=λj _=>by
  rw[<-fW];show aE λk _=>?_;split<;>lia
 rw[aE o,fW]
 let m:∀j k,j<n+2->k<n+1->¬k<j->T j k= -T (k+1) j:=λj k e b d=>by
  let i:sk (k+1) j=j:=by unfold sk;rw[VN (by lia)]
  let g:sk j k=k+1:=by unfold sk;rw[VM d]
  let f:(λr c=>M (r+2) (sk (k+1) (sk j c)))=λr c=>M (r+2) (sk j (sk k c)):=by
   funext r c;rw[S9 (show j<k+1 by lia)];rfl
  change sg j*M 0 j*(sg k*M 1 (sk j k)*D n λr c=>M (r+2) (sk j (sk k c)))= -(sg (k+1)*M 0 (k+1)*(sg j*M 1 (sk (k+1) j)*D n λr c=>M (r+2) (sk (k+1) (sk j c))));rw[i,g,f,xX,<-h j e,<-h (k+1) (by lia)];grind
 let l:S (n+2) (λj=>S (n+1) λk=>if k<j then 0 else T j k)= -S (n+2) (λj=>S (n+1) λk=>if k<j then T j k else 0):=by
  rw[mV,IV (n+1) (λj=>S (n+1) λk=>if k<j then T j k else 0)];let z:S (n+1) (λk=>if k<0 then T 0 k else 0)=0:=gW λk _=>VM (by lia);rw[z,YJ,<-xH];show aE λk b=>?_;let:S (n+2) (λj=>if k<j then 0 else T j k)=S (n+1) (λj=>if k<j then 0 else T j k)+(if k<n+1 then 0 else T (n+1) k):=rfl;rw[this,VN b,XG,<-xH];show aE λj e=>?_;by_cases a:k<j
  . rw[VN a,VM (by lia)];rfl
  . rw[VM a,VN (by lia)];show m j k (by lia) b a
 rw[l];lia
def Md:∀ {n:Nat} {M:Fn} {i:Nat},i+1<n->(∀c,c<n->M i c=M (i+1) c)->D n M=0
 |0,_,_,h,_=>by lia
 |1,_,_,h,_=>by lia
 |n+2,M,0,_,h=>Ur h
 |n+2,M,i+1,d,h=>by
  rw[d9];show gW λj b=>?_;rw[Md (n:=n+1) (M:=λr c=>M (r+1) (sk j c)) (i:=i) (by lia) λc a=>h (sk j c) (kI a),V2]
structure Alt(n:Nat)(φ:Fn->Int):Prop where
 cg:∀M M':Fn,(∀r c,r<n->c<n->M r c=M' r c)->φ M=φ M'
 lh:∀(i:Nat) (M P Q:Fn) (a b:Int),i<n->(∀c,c<n->M i c=a*P i c+b*Q i c)->(∀r c,r<n->c<n->r≠i->M r c=P r c/\M r c=Q r c)->φ M=a*φ P+b*φ Q
 alt:∀(i j:Nat) (M:Fn),i<n->j<n->i≠j->(∀c,c<n->M i c=M j c)->φ M=0
def upd(M:Fn)(i:Nat)(x:Nat->Int):Fn:=λr c=>if r=i then x c else M r c
def cD(M:Fn)(i:Nat)(x:Nat->Int)(c:Nat):upd M i x i c=x c:=VN rfl
def aB{x:Nat->Int}(h:r≠i)(c:Nat):upd M i x r c=M r c:=VM h
def TR{φ:Fn->Int}(cg:∀M M':Fn,(∀r c,r<n->c<n->M r c=M' r c)->φ M=φ M')
 (lh:∀(i:Nat) (M P Q:Fn) (a b:Int),i<n->(∀c,c<n->M i c=a*P i c+b*Q i c)->(∀r c,r<n->c<n->r≠i->M r c=P r c/\M r c=Q r c)->φ M=a*φ P+b*φ Q)
 (y:i<n) (w:j<n) (d:i≠j) (f:∀N:Fn,(∀c,c<n->N i c=N j c)->φ N=0) (M:Fn):φ (λr=>M (sw i j r))= -φ M:=by
 let v:φ (upd (upd M i λc=>M i c+M j c) j λc=>M i c+M j c)=1*φ (upd (upd M i (M i)) j λc=>M i c+M j c)+1*φ (upd (upd M i (M j)) j λc=>M i c+M j c):=
  lh i _ _ _ 1 1 y (λc _=>by rw[aB d,aB d,aB d,cD,cD,cD];lia) λr c _ _ h=>by
   unfold upd;grind
 let l:∀x:Nat->Int,φ (upd (upd M i x) j λc=>M i c+M j c)=1*φ (upd (upd M i x) j (M i))+1*φ (upd (upd M i x) j (M j)):=λx=>
  lh j _ _ _ 1 1 w (λc _=>by rw[cD,cD,cD];lia) λr c _ _ h=>by
   rw[aB h,aB h,aB h];show⟨rfl,rfl⟩
 let s:φ (upd (upd M i λc=>M i c+M j c) j λc=>M i c+M j c)=0:=f _ λc _=>by rw[aB d,cD,cD]
 let q:φ (upd (upd M i (M i)) j (M i))=0:=f _ λc _=>by rw[aB d,cD,cD]
 let p:φ (upd (upd M i (M j)) j (M j))=0:=f _ λc _=>by rw[aB d,cD,cD]
 let u:φ (upd (upd M i (M i)) j (M j))=φ M:=cg _ _ λr c _ _=>by
  unfold upd;split
  . rename_i e;rw[e]
  . split
    . rename_i e;rw[e]
    . rfl
 let t:φ (upd (upd M i (M j)) j (M i))=φ (λr=>M (sw i j r)):=cg _ _ λr c _ _=>by
  unfold upd sw;by_cases k:r=j
  . rw[VN k];by_cases g:r=i
    . lia
    . rw[VM g,VN k]
  . rw[VM k];by_cases g:r=i
    . rw[VN g,VN g]
    . rw[VM g,VM g,VM k]
 let o:=l (M i);let m:=l (M j);rw[q,u]at o;rw[p,t]at m;rw[s,o,m]at v;lia
def Alt.swap{φ:Fn->Int}(A:Alt n φ)(c:i<n)(b:j<n)(a:i≠j)(M:Fn):φ (λr=>M (sw i j r))= -φ M:=
 TR A.cg A.lh c b a (λN h=>A.alt i j N c b a h) M
def xM{φ:Fn->Int}(cg:∀M M':Fn,(∀r c,r<n->c<n->M r c=M' r c)->φ M=φ M')
 (lh:∀(i:Nat) (M P Q:Fn) (a b:Int),i<n->(∀c,c<n->M i c=a*P i c+b*Q i c)->(∀r c,r<n->c<n->r≠i->M r c=P r c/\M r c=Q r c)->φ M=a*φ P+b*φ Q)
 (f:∀(i:Nat) (M:Fn),i+1<n->(∀c,c<n->M i c=M (i+1) c)->φ M=0):Alt n φ:=by
 let e:∀(d i:Nat) (M:Fn),i+d+1<n->(∀c,c<n->M i c=M (i+d+1) c)->φ M=0:=by
  intro d;induction d with
  |zero=>show λi M l k=>f i M l k
  |succ d m=>
   intro i M l k;let v:=TR cg lh (i:=i+d+1) (j:=i+d+1+1) (by lia) (by lia) (by lia) (λN h=>f (i+d+1) N (by lia) h) M
   let:φ (λr=>M (sw (i+d+1) (i+d+1+1) r))=0:=m i _ (by lia) λc g=>by
    let u:sw (i+d+1) (i+d+1+1) i=i:=by unfold sw;rw[VM (by lia),VM (by lia)]
    let t:sw (i+d+1) (i+d+1+1) (i+d+1)=i+d+1+1:=by unfold sw;rw[VN rfl]
    rw[u,t];show k c g
   lia
 show⟨cg,lh,λi j M s p q h=>?_⟩;by_cases o:i<j
 . obtain⟨d,rfl⟩:∃d,j=i+d+1:=⟨j-i-1,by lia⟩
   show e d i M p h
 . obtain⟨d,rfl⟩:∃d,i=j+d+1:=⟨i-j-1,by lia⟩
   show e d j M s λc g=>(h c g).symm
def uj(n:Nat):Alt n (D n):=xM (λ_ _ h=>dc h) (λ_ _ _ _ _ _ a d h=>Lz a d h) λ_ _ c b=>Md c b
def Alt.UJ{φ:Fn->Int}(A:Alt n φ)(a:i<n)(h:∀c,c<n->M i c=0):φ M=0:=by
 let:=A.lh i M M M 0 0 a (λc b=>by rw[h c b];rfl) λ_ _ _ _ _=>⟨rfl,rfl⟩
 lia
def Alt.GG{φ:Fn->Int}(A:Alt n φ)(b:i<n)(M:Fn)(t:Int)(x:Nat->Int):φ (upd M i λc=>t*x c)=t*φ (upd M i x):=by
 let:=A.lh i (upd M i λc=>t*x c) (upd M i x) (upd M i x) t 0 b (λc d=>by rw[cD,cD];lia) λr c _ _ a=>by rw[aB a,aB a];show⟨rfl,rfl⟩
 lia
def Alt.Hr{φ:Fn->Int}(A:Alt n φ)(b:i<n)(M:Fn)(x y:Nat->Int):φ (upd M i λc=>x c+y c)=φ (upd M i x)+φ (upd M i y):=by
 let:=A.lh i (upd M i λc=>x c+y c) (upd M i x) (upd M i y) 1 1 b (λc d=>by rw[cD,cD,cD];lia) λr c _ _ a=>by rw[aB a,aB a,aB a];show⟨rfl,rfl⟩
 lia
def Alt.wz{φ:Fn->Int}(A:Alt n φ)(b:i<n)(M:Fn)(a:Nat->Int)(x:Nat->Nat->Int):∀m,φ (upd M i λc=>S m λj=>a j*x j c)=S m λj=>a j*φ (upd M i (x j))
 |0=>A.UJ b λc _=>by rw[cD];rfl
 |m+1=>by
  let:(λc=>S (m+1) λj=>a j*x j c)=λc=>(S m λj=>a j*x j c)+a m*x m c:=rfl;rw[this,A.Hr b,A.wz b M a x m,A.GG b];rfl
def un(j c:Nat):Nat:=if c<j then c else c-1
def grow(j:Nat)(B:Fn):Fn:=λr c=>if r=0 then dl j c else if c=j then 0 else B (r-1) (un j c)
def xI(a:j<n+1)(b:c<n+1)(h:c≠j):un j c<n:=by unfold un;split<;>lia
def E2(h:c≠j):sk j (un j c)=c:=by unfold sk un;grind
def Alt.grow{φ:Fn->Int}(A:Alt (n+1) φ)(f:j<n+1):Alt n λB=>φ (Mx.grow j B) where
 cg:=λM t h=>A.cg _ _ λr c g d=>by
  let:=h (r-1) (un j c);let:=xI (c:=c) f d;unfold Mx.grow;grind
 lh:=λi M P Q a b o p h=>A.lh (i+1) _ _ _ a b (by lia) (λc d=>by
  let:=p (un j c);let:=xI (c:=c) f d;let e:i+1-1=i:=by lia
  unfold Mx.grow;rw[e];grind) λr c g d l=>by
  let:=h (r-1) (un j c);let:=xI (c:=c) f d;unfold Mx.grow;grind
 alt:=λi k M o s m h=>A.alt (i+1) (k+1) _ (by lia) (by lia) (by lia) λc d=>by
  let:=h (un j c);let:=xI (c:=c) f d;let e:i+1-1=i:=by lia
  let q:k+1-1=k:=by lia
  unfold Mx.grow;rw[e,q];grind
def Alt.units{φ:Fn->Int}(A:Alt (n+1) φ):∀j,j<n+1->φ (Mx.grow j dl)=sg j*φ dl
 |0,_=>by
  rw[Er,WZ];show A.cg _ _ λr c b e=>?_;unfold Mx.grow un dl;grind
 |j+1,d=>by
  let a:=A.units j (by lia);let s:=A.swap (i:=0) (j:=j+1) (by lia) d (by lia) (Mx.grow j dl);rw[xX,Yp,<-a,<-s];show A.cg _ _ λr c b e=>?_;unfold Mx.grow un dl sw;grind
def Alt.UH{n i k:Nat}{φ:Fn->Int}(A:Alt n φ)(b:i<n)(d:k<n)(a:i≠k)(M:Fn)(x:Nat->Int)(t:Int):φ (upd M i λc=>x c+t*M k c)=φ (upd M i x):=by
 rw[A.Hr b,A.GG b M t (M k),A.alt i k (upd M i (M k)) b d a λc _=>by rw[cD,aB (VO a)],V2,XG]
def zr(j m:Nat)(M:Fn):Fn:=λr c=>if r=0 then dl j c else if r<=m/\c=j then 0 else M r c
def Alt.zr{φ:Fn->Int}(A:Alt (n+1) φ)(M:Fn):∀m,m<=n->φ (Mx.zr j m M)=φ (upd M 0 (dl j))
 |0,_=>A.cg _ _ λr c b d=>by unfold Mx.zr upd;grind
 |m+1,l=>by
  rw[<-A.zr M m (by lia)];let e:=A.UH (i:=m+1) (k:=0) (by lia) (by lia) (by lia) (Mx.zr j m M) (M (m+1)) (-M (m+1) j)
  let h:φ (Mx.zr j (m+1) M)=φ (upd (Mx.zr j m M) (m+1) λc=>M (m+1) c+ -M (m+1) j*Mx.zr j m M 0 c):=A.cg _ _ λr c b d=>by
   unfold upd Mx.zr dl;by_cases f:r=m+1
   . subst f;by_cases a:c=j
     . subst a;simp;lia
     . have:¬j=c:=λz=>a z.symm;simp[a,this]
   . rw[VM f];grind
  let g:φ (upd (Mx.zr j m M) (m+1) (M (m+1)))=φ (Mx.zr j m M):=A.cg _ _ λr c b d=>by
   unfold upd Mx.zr;grind
  rw[h,e,g]
def ET:∀ {n:Nat} {φ:Fn->Int},Alt n φ->∀M,φ M=φ dl*D n M
 |0,φ,A,M=>by rw[QS,Xs];show A.cg _ _ λr c e=>by lia
 |n+1,φ,A,M=>by
  let k:φ M=S (n+1) λj=>M 0 j*φ (upd M 0 (dl j)):=by
   rw[<-A.wz (by lia) M (M 0) dl (n+1)];show A.cg _ _ λr c e f=>?_;by_cases a:r=0
   . subst a;rw[cD,ik f]
   . rw[aB a]
  let i:∀j,j<n+1->φ (upd M 0 (dl j))=φ (Mx.grow j λr c=>M (r+1) (sk j c)):=λj d=>by
   rw[<-A.zr M n (VL _)];show A.cg _ _ λr c e f=>?_;unfold Mx.grow Mx.zr;by_cases a:r=0
   . rw[VN a,VN a]
   . rw[VM a,VM a];by_cases b:c=j
     . rw[VN ⟨by lia,b⟩,VN b]
     . rw[VM (by lia),VM b];dsimp only;rw[E2 b,show r-1+1=r by lia]
  rw[k,d9,<-dJ];show aE λj d=>?_;let b:=ET (A.grow d) λr c=>M (r+1) (sk j c);let h:=A.units j d;let g:φ (Mx.grow j λr c=>M (r+1) (sk j c))=φ (Mx.grow j dl)*D n λr c=>M (r+1) (sk j c):=b;rw[i j d,g,h];grind
def yd:∀n,D n dl=1
 |0=>rfl
 |n+1=>by
  rw[d9,kC (k:=0) (by lia) λj b a=>by rw[bN (VO a),V2,XF]]
  let:D n (λr c=>dl (r+1) (sk 0 c))=D n dl:=dc λr c _ _=>by
   unfold dl sk;grind
  rw[this,yd n,bT];rfl
def MA(n:Nat)(A B:Fn):D n (λr c=>S n λk=>A r k*B k c)=D n A*D n B:=by
 let s:Alt n λA=>D n (λr c=>S n λk=>A r k*B k c):=by
  show⟨λM t h=>dc λr c f l=>aE λk d=>by rw[h r k f d],λi M P Q a b o q h=>(uj n).lh i _ _ _ a b o (λc l=>?_) λr c f l g=>⟨aE λk d=>by rw[(h r k f d g).1],aE λk d=>by rw[(h r k f d g).2]⟩,λi j M o p m h=>(uj n).alt i j _ o p m λc l=>aE λk d=>by rw[h k d]⟩;change(S n λk=>M i k*B k c)=a*(S n λk=>P i k*B k c)+b*S n λk=>Q i k*B k c;rw[<-dJ,<-dJ,<-fW];show aE λk d=>?_;rw[q k d];grind
 let h:=ET s A;let e:D n (λr c=>S n λk=>dl r k*B k c)=D n B:=dc λr c f l=>mK f λk=>B k c;rw[h,e,WK]
def Hg:∀ {n:Nat} {M P Q:Fn} {a b:Int} {i:Nat},i<n->(∀r,r<n->M r i=a*P r i+b*Q r i)->(∀r c,r<n->c<n->c≠i->M r c=P r c/\M r c=Q r c)->D n M=a*D n P+b*D n Q
 |0,_,_,_,_,_,_,h,_,_=>by lia
 |n+1,M,P,Q,a,b,i,t,q,h=>by
  rw[d9,d9,d9,<-dJ,<-dJ,<-fW];show aE λj o=>?_;by_cases d:j=i
  . subst d;let g:∀c,sk j c≠j:=λc=>by unfold sk;split<;>lia
    let v:D n (λr c=>M (r+1) (sk j c))=D n (λr c=>P (r+1) (sk j c)):=dc λr c k f=>(h (r+1) (sk j c) (by lia) (kI f) (g c)).1;let u:D n (λr c=>M (r+1) (sk j c))=D n (λr c=>Q (r+1) (sk j c)):=dc λr c k f=>(h (r+1) (sk j c) (by lia) (kI f) (g c)).2;rw[q 0 (by lia),<-v,<-u];grind
  . have p:=h 0 j (by lia) o d;let s:sk j (un j i)=i:=E2 (VO d);let g:∀c,c≠un j i->sk j c≠i:=λc f=>by unfold sk;unfold un at f;grind
    let m:un j i<n:=xI o t (VO d)
    let e:=Hg (n:=n) (M:=λr c=>M (r+1) (sk j c)) (P:=λr c=>P (r+1) (sk j c)) (Q:=λr c=>Q (r+1) (sk j c)) (a:=a) (b:=b) (i:=un j i) m (λr k=>by
     rw[s];show q (r+1) (by lia)) λr c k f l=>h (r+1) (sk j c) (by lia) (kI f) (g c l)
    rw[e,<-p.1,<-p.2];grind
def Hn:∀ {n:Nat} {M:Fn} {i:Nat},i+1<n->(∀r,r<n->M r i=M r (i+1))->D n M=0
 |0,_,_,h,_=>by lia
 |n+1,M,i,v,h=>by
  rw[d9]
  let l:∀j,j<n+1->j≠i->j≠i+1->D n (λr c=>M (r+1) (sk j c))=0:=λj d b g=>by
   show Hn (i:=un j i) (by unfold un;split<;>lia) λr u=>?_;let x:sk j (un j i)=i:=E2 (VO b);let w:sk j (un j i+1)=i+1:=by unfold sk un;grind
   rw[x,w];show h (r+1) (by lia)
  let e:D n (λr c=>M (r+1) (sk i c))=D n (λr c=>M (r+1) (sk (i+1) c)):=dc λr c u A=>by
   by_cases q:c=i
   . subst q;let s:sk c c=c+1:=by unfold sk;rw[VM (by lia)]
     let y:sk (c+1) c=c:=by unfold sk;rw[VN (by lia)]
     rw[s,y];show(h (r+1) (by lia)).symm
   . have s:sk i c=sk (i+1) c:=by unfold sk;grind
     rw[s]
  let two:∀(m:Nat) (f:Nat->Int),i+1<m->(∀j,j<m->j≠i->j≠i+1->f j=0)->S m f=f i+f (i+1):=λm=>by
   induction m with
   |zero=>intro f h;lia
   |succ m t=>
    intro f z p;change S m f+f m=_;by_cases a:m=i+1
    . subst a;rw[kC (k:=i) (by lia) λj d o=>p j (by lia) o (by lia)]
    . rw[t f (by lia) λj d b g=>p j (by lia) b g,p m (by lia) (by lia) a,XG]
  rw[two (n+1) _ v λj d b g=>by rw[l j d b g,V2],e,xX,h 0 (by lia)];grind
def tr(M:Fn):Fn:=λr c=>M c r
def Kr(n:Nat)(M:Fn):D n (tr M)=D n M:=by
 let m:Alt n λA=>D n (tr A):=xM (λM o h=>dc λr c d j=>h c r j d)
  (λi M P Q a b g l h=>Hg g (λr d=>l r d) λr c d j f=>h c r j d f)
  λi M g h=>Hn g λr d=>h r d
 let h:=ET m M;let e:D n (tr dl)=D n dl:=dc λr c _ _=>nM c r;let k:D n (tr M)=D n (tr dl)*D n M:=h;rw[k,e,yd,WZ]
def Pr:Nat->(Nat->Int)->Int
 |0,_=>1
 |n+1,f=>Pr n f*f n
def EI:∀(n:Nat) (f:Nat->Int),Pr (n+1) f=f 0*Pr n λi=>f (i+1)
 |0,f=>by change 1*f 0=f 0*1;lia
 |n+1,f=>by
  let:Pr (n+1+1) f=Pr (n+1) f*f (n+1):=rfl;rw[this,EI n f];let:Pr (n+1) (λi=>f (i+1))=Pr n (λi=>f (i+1))*f (n+1):=rfl;rw[this,Ww]
def wM:∀ {n:Nat} {M:Fn},(∀r c,r<n->c<n->r<c->M r c=0)->D n M=Pr n λi=>M i i
 |0,_,_=>rfl
 |n+1,M,h=>by
  rw[d9,kC (k:=0) (by lia) λj b g=>by rw[h 0 j (by lia) b (by lia),V2,XF],EI,Er,WZ];let s:∀c,sk 0 c=c+1:=λc=>by unfold sk;rw[VM (by lia)]
  let e:D n (λr c=>M (r+1) (sk 0 c))=Pr n λi=>M (i+1) (i+1):=by
   rw[wM λr c d f a=>by rw[s];show h (r+1) (c+1) (by lia) (by lia) (by lia)];simp![s]
  rw[e]
def O8(h:∀r c,r<n->c<n->c<r->M r c=0):D n M=Pr n λi=>M i i:=by
 rw[<-Kr n M,wM (M:=tr M) λr c b d a=>h c r d b a];rfl
def gx(R:Fn)(p:Nat)(x:Nat->Int)(j:Nat):Int:=D (p+1) λr c=>if r<p then R r (if c<p then c else j)else x (if c<p then c else j)
def bt(R:Fn)(p:Nat)(x:Nat->Int)(k:Nat):Int:=D (p+1) (upd (λc r=>if r<p then R r c else x c) p (dl k))
def cl(p b a c:Nat):Nat:=if c<p then c else if c=p then b else a
def Mh{f:Nat->Int}(h:∀i,i<n->(f i).natAbs<=m):(S n f).natAbs<=n*m:=by
 induction n with
 |zero=>simp[S]
 |succ n a=>
  have d:=a λi b=>h i (by lia);let c:=h n (by lia);change(S n f+f n).natAbs<=_;rw[aaL];lia
def Lp:∀ {n:Nat} {M:Fn},n<=8->(∀r c,r<n->c<n->(M r c).natAbs<=m)->(D n M).natAbs<=(8*m)^n
 |0,_,_,_=>by simp[D]
 |n+1,M,f,h=>by
  rw[d9]
  let d:∀j,j<n+1->(sg j*M 0 j*D n λr c=>M (r+1) (sk j c)).natAbs<=m*(8*m)^n:=λj g=>by
   let a:=Lp (n:=n) (M:=λr c=>M (r+1) (sk j c)) (by lia) λr c k i=>h (r+1) (sk j c) (by lia) (kI i);let b:=h 0 j (by lia) g;let s:(sg j).natAbs=1:=by unfold sg;split<;>rfl
   rw[WN,WN,s,Zx];show WO b a
  let e:=Mh d;show VU e ?_;rw[XA,XW ((8*m)^n),WB];let:(n+1)*(m*(8*m)^n)<=8*(m*(8*m)^n):=Wg _ f;show this
def lam(G:Fn)(i j:Nat):Int:=gx G j (G i) j
def Uo(A:Rows):Fn:=λi j=>Q5 (A.getD i []) (A.getD j [])
def R9(G:Fn)(i:Nat):Row:=(List.range (i+1)).map λj=>lam G i j
def Ru(G:Fn)(n:Nat):Rows:=(List.range n).map (R9 G)
def RA(A:Rows)(N:Nat):Fn:=λi j=>if j<N then Uo A i j else(A.getD i []).getD (j-N) 0
def ev(A:Rows)(N i k c:Nat):Int:=gx (RA A N) k (RA A N i) (N+c)
def Fv(n:Nat)(a b:Int)(f g:Nat->Int):S n (λc=>a*f c-b*g c)=a*S n f-b*S n g:=by
 induction n with
 |zero=>change(0:Int)=a*0-b*0;lia
 |succ n d=>
  change S n (λc=>a*f c-b*g c)+(a*f n-b*g n)=a*(S n f+f n)-b*(S n g+g n);rw[d,Int.mul_add,Int.mul_add];lia
def Vx(M:Fn)(k j:Nat)(q:Int):Fn:=λa b=>if a=k then M a b-q*M j b else M a b
def Vq(M:Fn)(k j:Nat)(q:Int):Fn:=λa b=>if b=k then M a b-q*M a j else M a b
def tk(G:Fn)(k j:Nat)(q:Int):Fn:=Vq (Vx G k j q) k j q
section
variable {G:Fn}{t:Nat}(sym:∀i j,G i j=G j i)
include sym
end
section
variable {A:Rows}{N w:Nat}
def cV(a:aO N w A)(b:i<N):(A.getD i []).length=w:=a.gw _ (by let:=a.len;rw[aq (by lia)];show WX _)
end
def aY(A:Rows)(k:Nat)(q:Int)(j:Nat):Rows:=A.set k (de (A.getD k []) (-q) (A.getD j []))
def bE(A:Rows)(k o:Nat):Rows:=(A.set k (A.getD o [])).set o (A.getD k [])
def l9{A:Rows}{k i:Nat}{r:Row}(a:k<A.length):(A.set k r).getD i []=if i=k then r else A.getD i []:=by
 rw[VT,List.getElem?_set];by_cases h:k=i
 . rw[VN h,VN (by lia),VN h.symm];rfl
 . rw[VM h,VM (VO h),VT]
def HV{A:Rows}{k j:Nat}:(aY A k q j).length=A.length:=by unfold aY;rw[V0]
def lZ{N w k j:Nat}(a:aO N w A)(c:k<N)(d:j<N):aO N w (aY A k q j):=by
 show⟨HV.trans a.len,λr b=>?_⟩;unfold aY at b;rcases WA b with h|rfl
 . show a.gw r h
 . rw[gH (by rw[cV a c,cV a d]),cV a c]
structure Tn(A0 A U C:Rows)(N w:Nat):Prop where
 isA:aO N w A
 fH:aO N N U
 fZ:aO N N C
 ua:∀i c,i<N->c<w->g A i c=S N λk=>g U i k*g A0 k c
 ub:∀i j,i<N->j<N->S N (λk=>g U i k*g C j k)=dl i j
 bu:∀i j,i<N->j<N->S N (λk=>g C k i*g U k j)=dl i j
def dA{N w k j:Nat}(a:aO N w A)(b:k<N)(d:j<N)(i c:Nat):g (aY A k q j) i c=if i=k then g A k c-q*g A j c else g A i c:=by
 unfold g aY;let e:=a.len;rw[l9 (by lia)];by_cases h:i=k
 . rw[VN h,VN h,iy (by rw[cV a b,cV a d]),Yp];lia
 . rw[VM h,VM h]
def w4(n:Nat)(a b:Int)(f h:Nat->Int):S n (λc=>a*f c+b*h c)=a*S n f+b*S n h:=by
 rw[fW,dJ,dJ]
def Tn.take{N w k j:Nat}(T:Tn o A U C N w)(a:k<N)(b:j<N)(r:j≠k):Tn o (aY A k q j) (aY U k q j) (aY C j (-q) k) N w where
 isA:=lZ T.isA a b
 fH:=lZ T.fH a b
 fZ:=lZ T.fZ b a
 ua:=λi c n u=>by
  rw[dA T.isA a b];let e:S N (λm=>g (aY U k q j) i m*g o m c)=S N λm=>(if i=k then g U k m-q*g U j m else g U i m)*g o m c:=aE λm _=>by rw[dA T.fH a b]
  rw[e];by_cases h:i=k
  . simp![VN h];rw[T.ua k c a u,T.ua j c b u];let f:S N (λm=>(g U k m-q*g U j m)*g o m c)=S N λm=>1*(g U k m*g o m c)-q*(g U j m*g o m c):=aE λm _=>by grind
    rw[f,Fv];lia
  . simp![VM h];show T.ua i c n u
 ub:=λi l n p=>by
  let e:S N (λm=>g (aY U k q j) i m*g (aY C j (-q) k) l m)=S N λm=>(if i=k then g U k m-q*g U j m else g U i m)*(if l=j then g C j m- -q*g C k m else g C l m):=aE λm _=>by rw[dA T.fH a b,dA T.fZ b a]
  rw[e];let s:dl j k=0:=bN r;by_cases h:i=k
  . by_cases d:l=j
    . simp![VN h,VN d];let f:S N (λm=>(g U k m-q*g U j m)*(g C j m- -q*g C k m))=S N λm=>1*(1*(g U k m*g C j m)+q*(g U k m*g C k m))-q*(1*(g U j m*g C j m)+q*(g U j m*g C k m)):=aE λm _=>by grind
      rw[f,Fv,w4,w4,T.ub k j a b,T.ub k k a a,T.ub j j b b,T.ub j k b a,h,d,bT,bT,s,nM k j,s];lia
    . simp![VN h,VM d];let f:S N (λm=>(g U k m-q*g U j m)*g C l m)=S N λm=>1*(g U k m*g C l m)-q*(g U j m*g C l m):=aE λm _=>by grind
      rw[f,Fv,T.ub k l a p,T.ub j l b p,h,bN (VO d)];lia
  . by_cases d:l=j
    . simp![VM h,VN d];let f:S N (λm=>g U i m*(g C j m- -q*g C k m))=S N λm=>1*(g U i m*g C j m)+q*(g U i m*g C k m):=aE λm _=>by grind
      rw[f,w4,T.ub i j n b,T.ub i k n a,d,bN h];lia
    . simp![VM h,VM d];show T.ub i l n p
 bu:=λi l n p=>by
  let e:S N (λm=>g (aY C j (-q) k) m i*g (aY U k q j) m l)=S N λm=>g C m i*g U m l+((q*(g C k i*g U j l))*dl m j+(-(q*(g C k i*g U j l)))*dl m k):=aE λm _=>by
   rw[dA T.fH a b,dA T.fZ b a];by_cases t:m=j
   . have d:m≠k:=by lia
     rw[VN t,VM d,t,bT,bN r];grind
   . rw[VM t,bN t];by_cases d:m=k
     . rw[VN d,d,bT];grind
     . rw[VM d,bN d];grind
  rw[e,fW,w4,T.bu i l n p]
  let v:S N (λc=>dl c j)=1:=by
   rw[kC b λi _ h=>bN h,bT]
  let f:S N (λc=>dl c k)=1:=by
   rw[kC a λi _ h=>bN h,bT]
  rw[v,f];lia
def AI{A:Rows}{k o i:Nat}(d:k<A.length)(c:o<A.length):(bE A k o).getD i []=A.getD (sw k o i) []:=by
 unfold bE;rw[l9 (by rw[V0];show c),l9 d];unfold sw;by_cases b:i=k
 . rw[VN b,VN b];by_cases a:i=o
   . rw[VN a,<-b,<-a]
   . rw[VM a]
 . rw[VM b,VM b];by_cases a:i=o
   . rw[VN a,VN a]
   . rw[VM a,VM a]
def md{N w k o:Nat}(a:aO N w A)(d:k<N)(c:o<N):aO N w (bE A k o):=by
 show⟨by unfold bE;rw[V0,V0];show a.len,λr b=>?_⟩;unfold bE at b;rcases WA b with h|rfl
 . rcases WA h with h|rfl
   . show a.gw r h
   . show cV a c
 . show cV a d
def ix{N w k o:Nat}(a:aO N w A)(d:k<N)(b:o<N)(i c:Nat):g (bE A k o) i c=g A (sw k o i) c:=by
 unfold g;rw[AI (by let:=a.len;lia) (by let:=a.len;lia)]
def mR{k o N i:Nat}(b:k<N)(a:o<N)(c:i<N):sw k o i<N:=by unfold sw;split<;>(try split)<;>assumption
def HD(k o x:Nat):sw k o (sw k o x)=x:=by
 unfold sw;by_cases b:x=k
 . subst b;rw[VN rfl];by_cases a:o=x
   . rw[VN a];show a
   . rw[VM a,VN rfl]
 . rw[VM b];by_cases a:x=o
   . subst a;rw[VN rfl,VN rfl]
   . rw[VM a,VM b,VM a]
def SO{k o a b:Nat}:dl (sw k o a) (sw k o b)=dl a b:=by
 by_cases h:a=b
 . rw[h,bT,bT]
 . rw[bN h,bN λz=>h (by rw[<-HD k o a,<-HD k o b,z])]
def OA(k x:Nat):sw k k x=x:=by
 unfold sw;by_cases h:x=k
 . rw[VN h,h]
 . rw[VM h,VM h]
def Tr(b:i<n)(a:j<n)(f:Nat->Int):S n (λk=>f (sw i j k))=S n f:=by
 by_cases h:i=j
 . subst h;show aE λk _=>by rw[OA]
 . show UA b a h f
def Tn.MH{N w k o:Nat}(T:Tn f A U C N w)(b:k<N)(a:o<N):Tn f (bE A k o) (bE U k o) (bE C k o) N w where
 isA:=md T.isA b a
 fH:=md T.fH b a
 fZ:=md T.fZ b a
 ua:=λi c d h=>by
  rw[ix T.isA b a,T.ua _ c (mR b a d) h];show aE λm _=>by rw[ix T.fH b a]
 ub:=λi j d e=>by
  rw[<-SO (k:=k) (o:=o),<-T.ub _ _ (mR b a d) (mR b a e)];show aE λm _=>by rw[ix T.fH b a,ix T.fZ b a]
 bu:=λi j d e=>by
  rw[<-T.bu i j d e,<-Tr b a λm=>g C m i*g U m j];show aE λm _=>by rw[ix T.fH b a,ix T.fZ b a]
def gB(A:Rows)(k:Nat):Rows:=A.set k ((A.getD k []).map λx=> -x)
def qg{N w k:Nat}(a:aO N w A)(c:k<N):aO N w (gB A k):=by
 show⟨by unfold gB;rw[V0];show a.len,λr b=>?_⟩;unfold gB at b;rcases WA b with h|rfl
 . show a.gw r h
 . rw[VH];show cV a c
def Jq(r:Row)(c:Nat):(r.map λx=> -x).getD c 0= -r.getD c 0:=by
 rw[VT,VT,V5];cases r[c]?<;>rfl
def jw{N w k:Nat}(a:aO N w A)(b:k<N)(i c:Nat):g (gB A k) i c=if i=k then-g A k c else g A i c:=by
 unfold g gB;rw[l9 (by let:=a.len;lia)];by_cases h:i=k
 . rw[VN h,VN h,Jq]
 . rw[VM h,VM h]
def Tn.neg{N w k:Nat}(T:Tn o A U C N w)(a:k<N):Tn o (gB A k) (gB U k) (gB C k) N w where
 isA:=qg T.isA a
 fH:=qg T.fH a
 fZ:=qg T.fZ a
 ua:=λi c b n=>by
  rw[jw T.isA a];by_cases h:i=k
  . rw[VN h,T.ua k c a n,<-xH];show aE λm _=>by rw[jw T.fH a,VN h,Yp]
  . rw[VM h,T.ua i c b n];show aE λm _=>by rw[jw T.fH a,VM h]
 ub:=λi j b l=>by
  let e:S N (λm=>g (gB U k) i m*g (gB C k) j m)=S N λm=>(if i=k then-1 else 1)*(if j=k then-1 else 1)*(g U i m*g C j m):=aE λm _=>by
   rw[jw T.fH a,jw T.fZ a];by_cases f:i=k<;>by_cases d:j=k<;>simp![f,d,Yv,Xl]<;>grind
  rw[e,dJ,T.ub i j b l];by_cases f:i=k
  . by_cases d:j=k
    . simp[f,d]
    . rw[bN (by lia)];simp
  . by_cases d:j=k
    . rw[bN (by lia)];simp
    . simp[f,d]
 bu:=λi j b l=>by
  rw[<-T.bu i j b l]
  show aE λm _=>by
   rw[jw T.fH a,jw T.fZ a];by_cases h:m=k
   . subst h;rw[VN rfl,VN rfl];grind
   . rw[VM h,VM h]
structure jF(A:Rows)(N top p:Nat)(L:List Nat):Prop where
 mem:∀k,k∈L↔top<=k/\k<N/\g A k p≠0
 ord:L.Pairwise λi j=>(g A i p).natAbs<=(g A j p).natAbs
 nd:L.Nodup
structure B3 where
 A:Rows
 U:Rows
 C:Rows
def qn(x y:Int):Int:=(2*x+y).fdiv (2*y)
def qL(b:B3)(p k j:Nat):B3:=⟨aY b.A k (qn (g b.A k p) (g b.A j p)) j,aY b.U k (qn (g b.A k p) (g b.A j p)) j,aY b.C j (-(qn (g b.A k p) (g b.A j p))) k⟩
def MR(N top p:Nat)(b c:B3):Prop:=∃(L:List Nat) (k j:Nat),jF b.A N top p (L++[j,k])/\c=qL b p k j
inductive fj(N top p:Nat):B3->B3->Prop
 |refl (b:B3):fj N top p b b
 |head {b c d:B3} (h:MR N top p b c) (t:fj N top p c d):fj N top p b d
def fj.tail{N top p:Nat}(h:fj N top p b c)(t:MR N top p c d):fj N top p b d:=by
 induction h with
 |refl b=>show .head t (.refl _)
 |head x _ a=>show .head x (a t)
def fY(X:Rows)(N top m:Nat):Prop:=∀i c,top<=i->i<N->(g X i c).natAbs<=m
def pY{x y:Int}(a:y≠0):2*(x-qn x y*y).natAbs<=y.natAbs:=by
 unfold qn;let f:=abh (2*x+y) (2*y);let b:(2*x+y).fmod (2*y)=2*x+y-2*y*(2*x+y).fdiv (2*y):=by lia
 generalize(2*x+y).fdiv (2*y)=q at*;let e:2*(x-q*y)=(2*x+y).fmod (2*y)-y:=by rw[b];grind
 rcases Int.lt_or_gt_of_ne a with h|h
 . have g:=Int.neg_fmod_neg (2*x+y) (2*y);let d:=Xn (-(2*x+y)) (show 0< -(2*y) by lia);let c:=XH (-(2*x+y)) (show 0< -(2*y) by lia);lia
 . have d:=Xn (2*x+y) (show 0<2*y by lia);let c:=XH (2*x+y) (show 0<2*y by lia);lia
def kq{X:Rows}{k j i:Nat}(a:k<X.length)(h:i≠k):(aY X k q j).getD i []=X.getD i []:=by
 unfold aY;rw[l9 a,VM h]
structure nA(A0:Rows)(N w:Nat)(b:B3)(top p:Nat)(ld:Nat->Nat)(e u:Nat):Prop where
 tn:Tn A0 b.A b.U b.C N w
 le:top<=N
 lo:fY b.A N top (2^e)/\fY b.U N top (2^e)/\fY b.C N top (2^e)
 hi:∀i c,i<top->(g b.A i c).natAbs<=2^u/\(g b.U i c).natAbs<=2^u/\(g b.C i c).natAbs<=2^u
 zs:∀i c,top<=i->i<N->c<p->g b.A i c=0
 lead:∀i,i<top->ld i<p/\0<g b.A i (ld i)/\∀c,c<ld i->g b.A i c=0
 mono:∀i j,i<j->j<top->ld i<ld j
 red:∀i j,i<j->j<top->0<=g b.A i (ld j)/\g b.A i (ld j)<g b.A j (ld j)
def setB(b:B3)(p top r:Nat):B3:=
 if g (bE b.A top r) top p<0 then⟨gB (bE b.A top r) top,gB (bE b.U top r) top,gB (bE b.C top r) top⟩else⟨bE b.A top r,bE b.U top r,bE b.C top r⟩
def vB{N w top r m:Nat}(f:aO N w X)(b:top<N)(d:r<N)(a:top<=r)(h:fY X N top m):fY (bE X top r) N top m:=λi c e g=>by
 rw[ix f b d];show h _ c ?_ (mR b d g);unfold sw;split
 . show a
 . split
   . show VL _
   . show e
def Ce{N w top m:Nat}(d:aO N w X)(a:top<N)(h:fY X N top m):fY (gB X top) N top m:=λi c b e=>by
 rw[jw d a];split
 . rw[YF];show h top c (VL _) a
 . show h i c b e
def vz{X:Rows}{N w top r i:Nat}(a:aO N w X)(c:top<N)(d:r<N)(b:top<=r)(e:i<top):(bE X top r).getD i []=X.getD i []:=by
 rw[AI (by let:=a.len;lia) (by let:=a.len;lia)];unfold sw;rw[VM (by lia),VM (by lia)]
def Cw{X:Rows}{N w top i:Nat}(a:aO N w X)(b:top<N)(c:i<top):(gB X top).getD i []=X.getD i []:=by
 unfold gB;rw[l9 (by let:=a.len;lia),VM (by lia)]
structure vZ(A0:Rows)(N w top p m:Nat)(b0 b:B3):Prop where
 tn:Tn A0 b.A b.U b.C N w
 up:∀i,i<top->b.A.getD i []=b0.A.getD i []/\b.U.getD i []=b0.U.getD i []/\b.C.getD i []=b0.C.getD i []
 lo:fY b.A N top m/\fY b.U N top m/\fY b.C N top m
 zs:∀i c,top<=i->i<N->c<p->g b.A i c=0
 tp:0<g b.A top p
 z1:∀i,top<i->i<N->g b.A i p=0
def iH(p top:Nat):Nat->B3->B3
 |0,b=>b
 |k+1,b=>
  let c:=iH p top k b
  ⟨aY c.A k ((g c.A k p).fdiv (g c.A top p)) top,aY c.U k ((g c.A k p).fdiv (g c.A top p)) top,aY c.C top (-((g c.A k p).fdiv (g c.A top p))) k⟩
def vJ(a:Int)(c:0<b):(a.fdiv b).natAbs<=a.natAbs:=by
 rw[Yy _ (Xr c)];show Int.natAbs_ediv_le_natAbs a b
def Ds(e:a<=2^c)(d:b<=2^c):a+b<=2^(c+1):=by rw[XA];lia
def Tn.start(e:aO N w A):Tn A A (units N) (units N) N w where
 isA:=e
 fH:=cf N
 fZ:=cf N
 ua:=λi c a f=>by
  rw[<-mK a λk=>g A k c];show aE λm b=>by rw[cK a b]
 ub:=λi j a d=>by
  rw[nM i j,<-mK a λk=>dl j k]
  . show aE λm b=>by rw[cK a b,cK d b]
 bu:=λi j a d=>by
  rw[<-ik a λk=>dl k j];show aE λm b=>by rw[cK b a,cK b d,WK]
def nA.start{N w e:Nat}(f:aO N w A)(h:fY A N 0 (2^e)):nA A N w ⟨A,units N,units N⟩ 0 0 (λ_=>0) e 0:=by
 let a:fY (units N) N 0 (2^e):=λi c _ b=>by
  by_cases d:c<N
  . rw[cK b d];unfold dl;split
    . show YR
    . show V3 _
  . unfold g;rw[lQ (l:=(units N).getD i []) (by rw[cV (cf N) b];lia)];show V3 _
 show⟨Tn.start f,V3 _,⟨h,a,a⟩,λ_ _ h=>absurd h (Wk _),λ_ _ _ _ h=>absurd h (Wk _),λ_ h=>absurd h (Wk _),λ_ _ _ h=>absurd h (Wk _),λ_ _ _ h=>absurd h (Wk _)⟩
def SU(f:Nat->Nat):Nat->Nat
 |0=>0
 |n+1=>SU f n+f n
def Av{f f':Nat->Nat}:∀ {n:Nat},(∀i,i<n->f' i<=f i)->SU f' n<=SU f n
 |0,_=>VL _
 |n+1,h=>YG (Av λi a=>h i (Wo a)) (h n (Wj n))
def Mp{f f':Nat->Nat}{k:Nat}(a:f' k<f k):∀ {n:Nat},k<n->(∀i,i<n->f' i<=f i)->SU f' n<SU f n
 |0,c,_=>absurd c (Wk _)
 |n+1,c,h=>by
  by_cases e:k=n
  . subst e;show Nat.add_lt_add_of_le_of_lt (Av λi b=>h i (Wo b)) a
  . show Nat.add_lt_add_of_lt_of_le (Mp a (by lia) λi b=>h i (Wo b)) (h n (Wj n))
def mu(A:Rows)(N p:Nat):Nat:=SU (λi=>(g A i p).natAbs) N
inductive QN(N p:Nat):Nat->B3->Nat->B3->Prop
 |none {top:Nat} {b:B3} (h:jF b.A N top p []):QN N p top b top b
 |one {top r:Nat} {b c:B3} (h:fj N top p b c) (l:jF c.A N top p [r]):QN N p top b (top+1) (iH p top top (setB c p top r))
inductive eH(A:Rows)(N:Nat):Nat->Nat->B3->Prop
 |start:eH A N 0 0 ⟨A,units N,units N⟩
 |next {p t t':Nat} {b b':B3} (h:eH A N p t b) (c:QN N p t b t' b'):eH A N (p+1) t' b'
def aD(X:Rows)(n w:Nat)(v:Nat->Int):Prop:=∃z:Nat->Int,∀c,c<w->v c=S n λk=>z k*g X k c
def aD.row{n w k:Nat}(a:k<n):aD X n w (g X k):=⟨λi=>dl k i,λc _=>(mK a λi=>g X i c).symm⟩
def aD.sub{u v:Nat->Int}(f:aD X n w u)(e:aD X n w v):aD X n w λc=>u c-v c:=by
 obtain⟨y,d⟩:=f;obtain⟨z,b⟩:=e;show⟨λk=>y k-z k,λc a=>?_⟩;change u c-v c=S n λk=>(y k-z k)*g X k c;rw[d c a,b c a,Yd,<-xH,<-fW];show aE λk _=>by rw[Int.sub_mul,Yd]
def aD.trans{v:Nat->Int}(h:∀k,k<m->aD Y n w (g X k))(j:aD X m w v):aD Y n w v:=by
 obtain⟨z,e⟩:=j
 let b:∀k,∃y:Nat->Int,k<m->∀c,c<w->g X k c=S n λi=>y i*g Y i c:=λk=>by
  by_cases a:k<m
  . obtain⟨y,f⟩:=h k a;show⟨y,λ_=>f⟩
  . show⟨λ_=>0,λh=>absurd h a⟩
 show⟨λi=>S m λk=>z k*Classical.choose (b k) i,λc d=>?_⟩;rw[e c d]
 let l:S m (λk=>z k*g X k c)=S m λk=>S n λi=>z k*Classical.choose (b k) i*g Y i c:=aE λk a=>by
  rw[Xe (b k) a c d,<-dJ];show aE λi _=>(Ww _ _ _).symm
 rw[l,mV];show aE λi _=>om _ _ _
structure bQ(X:Rows)(n w:Nat)(ld:Nat->Nat):Prop where
 lead:∀i,i<n->ld i<w/\0<g X i (ld i)/\∀c,c<ld i->g X i c=0
 mono:∀i j,i<j->j<n->ld i<ld j
def bQ.inj{a:Nat->Nat}(s:bQ X n w a)(c:i<n)(b:j<n)(h:a i=a j):i=j:=by
 rcases YD i j with q|q|q
 . show absurd h (Wb (s.mono i j q b))
 . show q
 . show absurd h.symm (Wb (s.mono j i q c))
def bQ.lt{a:Nat->Nat}(s:bQ X n w a)(b:i<n)(c:j<n)(h:a i<a j):i<j:=by
 rcases YD i j with q|q|q
 . show q
 . rw[q]at h;show absurd h (Xz _)
 . show absurd (Yi h (s.mono j i q b)) (Xz _)
def bQ.gone{a:Nat->Nat}{v z:Nat->Int}(s:bQ X n w a)(m:∀c,c<w->v c=S n λk=>z k*g X k c)(r:∀c,c<q->v c=0)(k:Nat):k<n->a k<q->z k=0:=by
 induction k using Nat.strongRecOn with
 |ind k j=>
  intro b f;obtain⟨p,o,t⟩:=s.lead k b;let e:=m (a k) p;rw[r _ f,kC b λi d h=>?_]at e
  . show(aa1.mp e.symm).resolve_right (XY o)
  . rcases aaj h with l|l
    . rw[j i l d (Yi (s.mono i k l b) f),XF]
    . rw[(s.lead i d).2.2 _ (s.mono k i l d),V2]
def bQ.at{b:Nat->Nat}{v:Nat->Int}(s:bQ X n w b)(p:aD X n w v)(m:q<w)(r:∀c,c<q->v c=0):(∃i,i<n/\b i=q/\g X i q∣v q)\/v q=0:=by
 obtain⟨z,f⟩:=p
 let o:∀k,k<n->b k≠q->z k*g X k q=0:=λk a d=>by
  rcases aaj d with l|l
  . rw[s.gone f r k a l,XF]
  . rw[(s.lead k a).2.2 _ l,V2]
 by_cases h:∃i,i<n/\b i=q
 . obtain⟨i,j,e⟩:=h;show .inl ⟨i,j,e,z i,?_⟩;rw[f q m,kC j λk a d=>o k a λz=>d (s.inj a j (z.trans e.symm)),WK]
 . show .inr ?_;rw[f q m];show gW λk a=>o k a λe=>h ⟨k,a,e⟩
def bQ.sees{b a:Nat->Nat}(f:bQ X n w b)(e:bQ Y m w a)(h:∀k,k<n->aD Y m w (g X k))(i:Nat)(c:i<n):∃j,j<m/\a j=b i/\g Y j (b i)∣g X i (b i):=by
 obtain⟨o,d,l⟩:=f.lead i c;rcases e.at (h i c) o l with q|q
 . show q
 . rw[q]at d;show absurd d (by decide)
def bQ.same{o h:Nat->Nat}(a:bQ X n w o)(b:bQ Y m w h)(v:∀k,k<n->aD Y m w (g X k))(t:∀k,k<m->aD X n w (g Y k))(i:Nat):i<n->i<m/\h i=o i/\g Y i (o i)=g X i (o i):=by
 induction i using Nat.strongRecOn with
 |ind i s=>
  intro d;obtain⟨j,c,f,x⟩:=a.sees b v i d
  let e:j=i:=by
   rcases YD j i with l|l|l
   . have:=(s j l (Yi l d)).2.1;show absurd (this.symm.trans f) (Wb (a.mono j i l d))
   . show l
   . obtain⟨k,p,q,_⟩:=b.sees a t i (Yi l c);let r:k<i:=a.lt p d (by rw[q,<-f];show b.mono i j l c);let:=(s k r p).2.1;show absurd (this.trans q) (Wb (b.mono k i r (Yi l c)))
  subst e;show⟨c,f,?_⟩;obtain⟨k,p,q,u⟩:=b.sees a t j c;let:=a.inj p d (q.trans f);subst this;rw[f]at u;show Y9 (by rw[<-f];show Xr (b.lead k c).2.1) (Xr (a.lead k d).2.1) x u
def bQ.many{f a:Nat->Nat}(c:bQ X n w f)(b:bQ Y m w a)(e:∀k,k<n->aD Y m w (g X k))(d:∀k,k<m->aD X n w (g Y k)):n=m:=by
 show XR ?_ ?_
 . cases n with
   |zero=>show V3 _
   |succ n=>show(c.same b e d n (Wj n)).1
 . cases m with
   |zero=>show V3 _
   |succ m=>show(b.same c d e m (Wj m)).1
def td(X:Rows)(n:Nat)(a:Nat->Nat):Prop:=∀i j,i<j->j<n->0<=g X i (a j)/\g X i (a j)<g X j (a j)
def bQ.only{r f:Nat->Nat}(e:bQ X n w r)(o:bQ Y m w f)(v:∀k,k<n->aD Y m w (g X k))(p:∀k,k<m->aD X n w (g Y k))(y:td X n r)(x:td Y m f)(h:i<n)(c:Nat):c<w->g X i c=g Y i c:=by
 induction c using Nat.strongRecOn with
 |ind c D=>
  intro u;obtain⟨s,C,E⟩:=e.same o v p i h;let F:aD X n w λc=>g X i c-g Y i c:=(aD.row h).sub (p i s);rcases e.at F u λd t=>by rw[D d t (Yi t u),Y1]with⟨j,hj,rfl,d⟩|q
  . obtain⟨z,A,B⟩:=e.same o v p j hj;rcases YD i j with l|l|l
    . have a:=y i j l hj;let b:=x i j l z;rw[A,B]at b;show abi (Xd d (by lia))
    . subst l;show E.symm
    . rw[(e.lead i h).2.2 _ (e.mono j i l h),(o.lead i s).2.2 _ (by rw[C];show e.mono j i l h)]
  . show abi q
def vZ.ML{N w top p m:Nat}{b0 b:B3}(s:vZ f N w top p m b0 b)(a:i<top)(q:Nat):g b.A i q=g b0.A i q/\g b.U i q=g b0.U i q/\g b.C i q=g b0.C i q:=by
 obtain⟨e,d,c⟩:=s.up i a;unfold g;rw[e,d,c];show⟨rfl,rfl,rfl⟩
def Sm(b:B3)(N m:Nat):Prop:=∀i c,i<N->(g b.A i c).natAbs<=m/\(g b.U i c).natAbs<=m/\(g b.C i c).natAbs<=m
structure FE(N p t z:Nat)(b:B3):Prop where
 ga:∀c,fj N t p b c->Sm c N (2^z)
 lo:∀c r k,fj N t p b c->jF c.A N t p [r]->k<=t->Sm (iH p t k (setB c p t r)) N (2^z)
def SD{x y:Int}(a:y≠0):(qn x y).natAbs<=x.natAbs+y.natAbs:=by
 let h:=pY (x:=x) a;let b:(qn x y*y).natAbs=(qn x y).natAbs*y.natAbs:=WN _ _;let c:(qn x y).natAbs<=(qn x y).natAbs*y.natAbs:=W8 _ (Int.natAbs_pos.mpr a);generalize qn x y*y=t at h b;lia
def Gg{f:Nat->Int}:∀ {N:Nat},n<=N->(∀i,n<=i->i<N->f i=0)->S N f=S n f
 |0,h,_=>by rw[Nat.le_zero.mp h]
 |N+1,h,z=>by
  by_cases e:n=N+1
  . rw[e]
  . have a:n<=N:=by lia
    change S N f+f N=_;rw[z N a (Wj N),XG];show Gg a λi c b=>z i c (Wo b)
def nA.qA{N w top e u:Nat}{c:B3}{a:Nat->Nat}(s:nA A N w c top w a e u):bQ c.A top w a/\td c.A top a:=⟨⟨s.lead,s.mono⟩,s.red⟩
def nA.in{N w top e u:Nat}{c:B3}{a:Nat->Nat}(s:nA A N w c top w a e u)(k:Nat)(d:k<top):aD A N w (g c.A k):=
 ⟨g c.U k,λq b=>s.tn.ua k q (V9 d s.le) b⟩
def nA.out{N w top e u:Nat}{c:B3}{d:Nat->Nat}(s:nA A N w c top w d e u)(k:Nat)(b:k<N):aD c.A top w (g A k):=by
 show⟨λi=>g c.C i k,λq a=>?_⟩
 let o:S N (λi=>g c.C i k*g c.A i q)=g A k q:=by
  let:S N (λi=>g c.C i k*g c.A i q)=S N λi=>S N λj=>g c.C i k*g c.U i j*g A j q:=aE λi h=>by
   rw[s.tn.ua i q h a,<-dJ];show aE λj _=>(Ww _ _ _).symm
  rw[this,mV]
  let n:S N (λj=>S N λi=>g c.C i k*g c.U i j*g A j q)=S N λj=>dl k j*g A j q:=aE λj f=>by
   rw[om,s.tn.bu k j b f]
  rw[n,mK b λj=>g A j q]
 rw[<-o];show Gg s.le λi m l=>by rw[s.zs i q m l a,V2]
def Na{X:Rows}(h:i<n):g (X.take n) i q=g X i q:=by
 unfold g;rw[VT (l:=X.take n),VT (l:=X),YI h]
def Ju{X:Rows}(a:aO N w X)(h:n<=N):aO n w (X.take n):=
 ⟨by rw[W4,a.len];lia,λr b=>a.gw r (Y6 b)⟩
def nA.Jh{N w n top e u:Nat}{c:B3}{m a:Nat->Nat}(s:nA A N w c top w m e u)(p:aO n w F)(d:bQ F n w a)(l:td F n a)(t:∀k,k<N->aD F n w (g A k))(r:∀k,k<n->aD A N w (g F k)):c.A.take top=F:=by
 let h:∀k,k<top->aD F n w (g c.A k):=λk b=>aD.trans t (s.in k b);let f:∀k,k<n->aD c.A top w (g F k):=λk b=>aD.trans s.out (r k b);let e:=s.qA.1.many d h f;subst e;show(Ju s.tn.isA s.le).ext p λi q j o=>?_;rw[Na j];show s.qA.1.only d h f s.qA.2 l j q o
def aD.vS{u v:Nat->Int}(x:Int)(f:aD X n w u)(e:aD X n w v):aD X n w λc=>u c+x*v c:=by
 obtain⟨y,d⟩:=f;obtain⟨z,b⟩:=e;show⟨λk=>y k+x*z k,λc a=>?_⟩;change u c+x*v c=S n λk=>(y k+x*z k)*g X k c;rw[d c a,b c a,<-dJ,<-fW];show aE λk _=>by rw[aa7,Ww]
def aD.eq{u v:Nat->Int}(d:aD X n w u)(h:∀c,c<w->v c=u c):aD X n w v:=by
 obtain⟨y,b⟩:=d;show⟨y,λc a=>(h c a).trans (b c a)⟩
structure cL(X:Rows)(n:Nat)(Y:Rows)(m w:Nat):Prop where
 to:∀k,k<n->aD Y m w (g X k)
 of:∀k,k<m->aD X n w (g Y k)
def cL.refl(X:Rows)(n w:Nat):cL X n X n w:=⟨λ_ h=>aD.row h,λ_ h=>aD.row h⟩
def cL.symm(h:cL X n Y m w):cL Y m X n w:=⟨h.of,h.to⟩
def cL.trans(h:cL X n Y m w)(h':cL Y m Z l w):cL X n Z l w:=
 ⟨λk a=>aD.trans h'.to (h.to k a),λk a=>aD.trans h.of (h'.of k a)⟩
def cL.add{n w k o:Nat}(j:k<n)(d:o<n)(f:k≠o)(e:∀q,q<w->g Y k q=g X k q+x*g X o q)(h:∀i q,i<n->i≠k->q<w->g Y i q=g X i q):cL X n Y n w:=by
 show⟨λi c=>?_,λi c=>?_⟩
 . by_cases a:i=k
   . subst a;show((aD.row j).vS (-x) (aD.row d)).eq λq b=>?_;rw[e q b,h o q d (VO f) b,Yp];lia
   . show(aD.row c).eq λq b=>(h i q c a b).symm
 . by_cases a:i=k
   . subst a;show((aD.row j).vS x (aD.row d)).eq e
   . show(aD.row c).eq λq b=>h i q c a b
def cL.perm{f:Nat->Nat}(d:∀i,i<n->f i<n)(c:∀i,f (f i)=i)(e:∀i q,i<n->q<w->g Y i q=g X (f i) q):cL X n Y n w:=
 ⟨λi a=>(aD.row (d i a)).eq λq b=>by rw[e (f i) q (d i a) b,c],λi a=>(aD.row (d i a)).eq λq b=>e i q a b⟩
def cL.neg{n w k:Nat}(j:k<n)(e:∀q,q<w->g Y k q= -g X k q)(h:∀i q,i<n->i≠k->q<w->g Y i q=g X i q):cL X n Y n w:=by
 let d:∀ {Z:Rows} {u:Nat->Int},aD Z n w u->aD Z n w λq=> -u q:=λ{Z u} f=>(f.vS (-2) f).eq λq _=>by lia
 show⟨λi c=>?_,λi c=>?_⟩
 . by_cases a:i=k
   . subst a;show(d (aD.row j)).eq λq b=>by rw[e q b,Int.neg_neg]
   . show(aD.row c).eq λq b=>(h i q c a b).symm
 . by_cases a:i=k
   . subst a;show(d (aD.row j)).eq e
   . show(aD.row c).eq λq b=>h i q c a b
def aD.zero{v:Nat->Int}(h:∀c,c<w->v c=0):aD X n w v:=
 ⟨λ_=>0,λc a=>by rw[h c a,gW λk _=>XF _]⟩
def nA.MF{N w top e u:Nat}{c:B3}{a:Nat->Nat}(s:nA A N w c top w a e u):cL A N c.A top w:=⟨s.out,s.in⟩
structure kv(A:Rows)(N w M:Nat)(X:Rows)(m:Nat):Prop where
 is:aO m w X
 lo:1<=m
 hi:m<=8
 bd:∀r∈X,∀x∈r,x.natAbs<=M
 same:cL A N X m w
def kv.more(h:kv A N w M X m)(l:M<=M'):kv A N w M' X m:=⟨h.is,h.lo,h.hi,λr b x a=>VU (h.bd r b x a) l,h.same⟩
def kv.mem{A X:Rows}{N w M m k:Nat}(h:kv A N w M X m)(a:k<m):X.getD k []∈X:=by
 rw[aq (by rw[h.is.len];show a)];show WX _
def JN{c:Int}(d:∀x∈r,x.natAbs<=M)(hs:∀x∈s,x.natAbs<=M)(f:c.natAbs<=7):∀x∈de r c s,x.natAbs<=M*8:=λx b=>by
 unfold de at b;obtain⟨k,a,e⟩:=Wf.mp b;rw[List.getElem_zipWith]at e;rw[List.length_zipWith]at a;let h:=d _ (WX (V9 a (Nat.min_le_left _ _)));let g:=hs _ (WX (V9 a (aaJ _ _)));rw[<-e];show VU (YY _ _) ?_;rw[WN];let:=WO f g;lia
def kv.put{A X:Rows}{N w M M' m k:Nat}{r:Row}(h:kv A N w M X m)(l:M<=M')(b:r.length=w)(d:∀x∈r,x.natAbs<=M')(s:cL X m (X.set k r) m w):kv A N w M' (X.set k r) m:=
 ⟨AG h.is b,h.lo,h.hi,λq c x a=>(WA c).elim (λz=>VU (h.bd q z x a) l) (λz=>d x (z▸a)),h.same.trans s⟩
def kv.add{A X:Rows}{N w M m k o:Nat}{c:Int}(h:kv A N w M X m)(a:k<m)(b:o<m)(d:k≠o)(j:c.natAbs<=7):kv A N w (M*8) (X.set k (de (X.getD k []) c (X.getD o []))) m:=by
 let f:k<X.length:=by rw[h.is.len];show a
 let e:(X.getD k []).length=(X.getD o []).length:=(h.is.row a).trans (h.is.row b).symm;show h.put (W8 _ (by decide)) (by rw[gH e];show h.is.row a) (JN (h.bd _ (h.mem a)) (h.bd _ (h.mem b)) j) (cL.add (x:=c) a b d (λq _=>?_) λi q _ g _=>?_)
 . rw[qi f,VN rfl,iy e];rfl
 . rw[qi f,VM g]
def kv.neg{A X:Rows}{N w M m k:Nat}(h:kv A N w M X m)(a:k<m):kv A N w M (X.set k ((X.getD k []).map λx=> -x)) m:=by
 let b:k<X.length:=by rw[h.is.len];show a
 show h.put (VL _) (by rw[VH];show h.is.row a) (λx d=>?_) (cL.neg a (λq _=>?_) λi q _ e _=>?_)
 . obtain⟨y,c,rfl⟩:=Wi.mp d;rw[YF];show h.bd _ (h.mem a) y c
 . rw[qi b,VN rfl];unfold g;generalize X.getD k []=r;rw[VT,V5,VT];cases r[q]?<;>rfl
 . rw[qi b,VM e]
def kv.swap{A X:Rows}{N w M m k o:Nat}(h:kv A N w M X m)(c:k<m)(b:o<m):kv A N w M ((X.set k (X.getD o [])).set o (X.getD k [])) m:=by
 let j:k<X.length:=by rw[h.is.len];show c
 let lo:o<(X.set k (X.getD o [])).length:=by rw[V0,h.is.len];show b
 show⟨AG (AG h.is (h.is.row b)) (h.is.row c),h.lo,h.hi,λq l x e=>?_,h.same.trans (cL.perm (f:=λi=>if i=o then k else if i=k then o else i) (λi n=>?_) (λi=>?_) λi q _ _=>?_)⟩
 . rcases WA l with z|z
   . rcases WA z with z|z
     . show h.bd q z x e
     . show h.bd _ (h.mem b) x (z▸e)
   . show h.bd _ (h.mem c) x (z▸e)
 . change(if i=o then k else if i=k then o else i)<m;split
   . show c
   . split
     . show b
     . show n
 . change(if(if i=o then k else if i=k then o else i)=o then k else if(if i=o then k else if i=k then o else i)=k then o else(if i=o then k else if i=k then o else i))=i;by_cases a:i=o
   . rw[VN a,VN rfl];split
     . rename_i z;rw[z,a]
     . show a.symm
   . rw[VM a];by_cases d:i=k
     . rw[VN d,VN rfl];show d.symm
     . rw[VM d,VM a,VM d]
 . change _=g X (if i=o then k else if i=k then o else i) q;rw[qi lo,qi j];split
   . rfl
   . split<;>rfl
def qc{X:Rows}{r:Row}{k:Nat}(b:k<=X.length)(i:Nat):(X.take k++r::X.drop k).getD i []=if i<k then X.getD i []else if i=k then r else X.getD (i-1) []:=by
 let lt:(X.take k).length=k:=by rw[W4];lia
 rw[VT,VT,VT];by_cases h:i<k
 . rw[VN h,VR (by rw[lt];show h),YI h]
 . rw[VM h,V_ (by rw[lt];lia),lt];by_cases a:i=k
   . rw[VN a,a,W9];rfl
   . rw[VM a];let:i-k=(i-1-k)+1:=by lia
     rw[this,Xx,List.getElem?_drop];congr 2;lia
def CC{r:Row}(q:Nat):(r.map λy=>x*y).getD q 0=x*r.getD q 0:=by
 rw[VT,V5,VT];cases r[q]? with
 |none=>show(V2 x).symm
 |some y=>rfl
def aD.smul{v:Nat->Int}(x:Int)(h:aD X n w v):aD X n w λc=>x*v c:=
 ((aD.zero (v:=λ_=>0) λ_ _=>rfl).vS x h).eq λc _=>(YJ _).symm
def aD.more{k n w:Nat}{v:Nat->Int}(h:aD X k w v)(l:k<=n):aD X n w v:=aD.trans (λj a=>aD.row (V9 a l)) h
def aD.split{v:Nat->Int}(h:aD X (i+1) w v):∃(u:Nat->Int) (t:Int),aD X i w u/\∀c,c<w->v c=u c+t*g X i c:=by
 obtain⟨z,a⟩:=h;show⟨λc=>S i λk=>z k*g X k c,z i,⟨z,λ_ _=>rfl⟩,λc b=>a c b⟩
def bQ.MX{d:Nat->Nat}{v:Nat->Int}(s:bQ X n w d)(h:i<=n)(q:aD X i w v)(x:∀k,k<i->v (d k)=0)(c:Nat)(r:c<w):v c=0:=by
 obtain⟨z,f⟩:=q
 let m:∀k,k<i->z k=0:=λk=>by
  induction k using Nat.strongRecOn with
  |ind k p=>
   intro a;obtain⟨u,t,_⟩:=s.lead k (V9 a h);let e:=f (d k) u;rw[x k a,kC a λj g o=>?_]at e
   . show(aa1.mp e.symm).resolve_right (XY t)
   . rcases aaj o with l|l
     . rw[p j l g,XF]
     . have b:=V9 g h;rw[(s.lead j b).2.2 _ (s.mono k j l b),V2]
 rw[f c r];show gW λk a=>by rw[m k a,XF]
structure gT(F:Rows)(w:Nat)(ld:Nat->Nat)(row:Nat->Int)(i:Nat)(o:Int)(L:Nat->Int):Prop where
 pos:0<o
 sum:aD F i w λc=>o*row c-L c
 off:∀k,k<i->L (ld k)=0
 least:∀(m:Int) (v:Nat->Int),aD F i w v->(∀k,k<i->m*row (ld k)=v (ld k))->o∣m
def gT.start{a:Nat->Nat}{row:Nat->Int}:gT F w a row 0 1 row:=
 ⟨by decide,aD.zero λc _=>by rw[WZ,Y1],λ_ h=>absurd h (Wk _),λm _ _ _=>Int.one_dvd m⟩
def gT.step{a:Nat->Nat}{row L:Nat->Int}(s:bQ F n w a)(d:i<n)(f:gT F w a row i o L)(H:0<q)(J:q*L (a i)=t*g F i (a i))(I:∀y,g F i (a i)∣y*L (a i)->q∣y):gT F w a row (i+1) (o*q) λc=>q*L c-t*g F i c:=by
 obtain⟨p,M,l⟩:=s.lead i d;show⟨Int.mul_pos f.pos H,?_,λk b=>?_,λm v G B=>?_⟩
 . show(((f.sum.smul q).more (aa2 i)).vS t (aD.row (Wj i))).eq λc _=>?_;rw[aa8,WK o q,Ww];lia
 . change q*L (a k)-t*g F i (a k)=0;rcases WQ k i with h|h
   . rw[f.off k h,l _ (s.mono k i h d)];lia
   . have:k=i:=XR (YC b) h;subst this;rw[J,Y1]
 . obtain⟨u,j,r,A⟩:=G.split;let e:∀k,k<i->a k<w:=λk b=>(s.lead k (Yi b d)).1
   let C:∀k,k<i->m*row (a k)=u (a k):=λk b=>by
    rw[B k (Wo b),A _ (e k b),l _ (s.mono k i b d),V2,XG]
   obtain⟨y,rfl⟩:=f.least m u r C
   let z:=s.MX (Xq d) (r.sub (f.sum.smul y)) (λk b=>by
    change u (a k)-y*(o*row (a k)-L (a k))=0;rw[f.off k b,<-C k b,Y2,WK o y,Ww,Y1]) (a i) p
   let D:=B i (Wj i);rw[A _ p]at D;let E:u (a i)-y*(o*row (a i)-L (a i))=0:=z;rw[WK o y,Ww]at D;rw[aa8]at E;let K:y*L (a i)=j*g F i (a i):=by omega
   obtain⟨x,rfl⟩:=I y ⟨j,by rw[K,WK]⟩;show⟨x,(Ww _ _ _).symm⟩
def gT.some{a:Nat->Nat}{row L:Nat->Int}(s:bQ F n w a)(f:gT F w a row n o L)(h:∀c,c<w->L c=0)(m:Int):aD F n w (λc=>m*row c)↔o∣m:=by
 constructor
 . show λb=>f.least m _ b λk _=>rfl
 . rintro⟨y,rfl⟩;show(f.sum.smul y).eq λc d=>?_;rw[h c d,Y2,WK o y,Ww]
def gT.no{a:Nat->Nat}{row L:Nat->Int}(s:bQ F n w a)(f:gT F w a row n o L)(l:c<w)(h:L c≠0)(m:Int)(g:m≠0):¬aD F n w λc=>m*row c:=λd=>by
 obtain⟨y,rfl⟩:=f.least m _ d λk _=>rfl
 let z:=s.MX (VL n) (d.sub (f.sum.smul y)) (λk j=>by
  change o*y*row (a k)-y*(o*row (a k)-L (a k))=0;rw[f.off k j,Y2,WK o y,Ww,Y1]) c l
 let i:o*y*row c-y*(o*row c-L c)=0:=z;rw[aa8,WK o y,Ww]at i;let e:y*L c=0:=by lia
 rcases aa1.mp e with b|b
 . rw[b,V2]at g;show g rfl
 . show h b
def GY{d:Nat}(g:0<d)(x m:Int):(d:Int)∣m*x↔((d/Nat.gcd d x.natAbs:Nat):Int)∣m:=by
 rw[Int.ofNat_dvd_left,Int.ofNat_dvd_left,WN];generalize x.natAbs=y;generalize m.natAbs=k;let a:0<Nat.gcd d y:=Zq _ g;let f:=aak a;let b:=aal (Y_ d y);let e:=aal (Nat.gcd_dvd_right d y);generalize Nat.gcd d y=q at a f b e⊢;let c:k*y=k*(y/q)*q:=by rw[WB,e]
 constructor
 . intro h;show f.dvd_of_dvd_mul_right ?_;rw[c]at h;rw[<-b]at h;show Nat.dvd_of_mul_dvd_mul_right a h
 . intro h;rw[c];conv=>lhs;rw[<-b]
   show Nat.mul_dvd_mul_right (Nat.dvd_trans h (Nat.dvd_mul_right _ _)) q
def bQ.MG{a:Nat->Nat}{v:Nat->Int}(s:bQ F n w a)(i:aD F n w v)(h:∀k,k<n->0<=v (a k)/\v (a k)<g F k (a k))(c:Nat):c<w->v c=0:=by
 induction c using Nat.strongRecOn with
 |ind c f=>
  intro e;rcases s.at i e λd b=>f d b (Yi b e)with⟨k,hk,rfl,d⟩|q
  . have:=h k hk;show Xd d (by lia)
  . show q
structure ll(F:Rows)(n w:Nat)(ld:Nat->Nat)(row:Nat->Int)(i:Nat)(L:Nat->Int):Prop where
 sum:aD F n w λc=>row c-L c
 red:∀k,k<i->0<=L (ld k)/\L (ld k)<g F k (ld k)
def ll.start{a:Nat->Nat}{row:Nat->Int}:ll F n w a row 0 row:=⟨aD.zero λc _=>Y1 _,λ_ h=>absurd h (Wk _)⟩
def ll.step{d:Nat->Nat}{row L:Nat->Int}(s:bQ F n w d)(j:i<n)(f:ll F n w d row i L):ll F n w d row (i+1) λc=>L c-(L (d i)).fdiv (g F i (d i))*g F i c:=by
 obtain⟨p,l,m⟩:=s.lead i j;show⟨(f.sum.vS ((L (d i)).fdiv (g F i (d i))) (aD.row j)).eq λc _=>by lia,λk o=>?_⟩;change 0<=L (d k)-_*g F i (d k)/\L (d k)-_*g F i (d k)<_;rcases WQ k i with h|h
 . rw[m _ (s.mono k i h j),V2,Y2];show f.red k h
 . have:k=i:=XR (YC o) h;subst this;let e:=Int.fmod_add_mul_fdiv (L (d k)) (g F k (d k));let a:=Xn (L (d k)) l;let b:=XH (L (d k)) l;rw[WK]at e;lia
def ll.zero{a:Nat->Nat}{row L:Nat->Int}(s:bQ F n w a)(f:ll F n w a row n L):(∀c,c<w->L c=0)↔aD F n w row:=by
 constructor
 . show λh=>f.sum.eq λc b=>by rw[h c b,Y2]
 . show λh=>s.MG ((h.sub f.sum).eq λc _=>by lia) f.red
def PN:List Int->Int
 | []=>1
 |x::xs=>x*PN xs
def wD:∀ {ls:List Int},(∀x∈ls,1<=x)->1<=PN ls
 | [],_=>aa5 _
 |x::xs,h=>by
  let a:=h x V6;let c:=wD λy b=>h y (VZ _ b);let:=abj a c (by decide) (Xj (by decide) a);show this
def wW:∀ {ls:List Int} {x:Int},(∀x∈ls,1<=x)->x∈ls->x<=PN ls
 |y::e,x,h,a=>by
  let c:=h y V6;let d:∀z∈e,1<=z:=λz f=>h z (VZ _ f);let b:=wD d;rcases V8.mp a with rfl|a
  . have:=YV b (Xj (by decide) c);rw[Xs]at this;show this
  . have g:=wW d a;let:=Z0 c (Xj (by decide) b);rw[WZ]at this;show Xj g this
def IQ:∀ {ls:List Int} {k:Nat} {f:Int},k<ls.length->PN (ls.set k (ls.getD k 0*f))=PN ls*f
 | [],_,_,h=>absurd h (Wk _)
 |x::xs,0,f,_=>by
  change x*f*PN xs=x*PN xs*f;rw[Ww,Ww,WK f]
 |x::xs,k+1,f,h=>by
  change x*PN (xs.set k (xs.getD k 0*f))=x*PN xs*f;rw[IQ (Nat.lt_of_succ_lt_succ h),Ww]
def Hi:∀w:Nat,PN (List.replicate w 1)=1
 |0=>rfl
 |w+1=>by
  rw[W3];change 1*PN (List.replicate w 1)=1;rw[Hi w];rfl
structure UR(ls:List Int)(w k:Nat)(r:Row):Prop where
 len:r.length=w
 lo:∀c,c<k->r.getD c 0=0
 at':r.getD k 0=ls.getD k 0
 up:∀c,k<c->c<w->0<=r.getD c 0/\r.getD c 0<ls.getD c 0
def bQ.Tx{a:Nat->Nat}{v:Nat->Int}(s:bQ F n w a)(i:aD F n w v)(h:∀k,k<n->(v (a k)).natAbs<(g F k (a k)).natAbs)(c:Nat):c<w->v c=0:=by
 induction c using Nat.strongRecOn with
 |ind c f=>
  intro e;rcases s.at i e λd b=>f d b (Yi b e)with⟨k,hk,rfl,d⟩|q
  . show Xd d (h k hk)
  . show q
def pick{t N:Nat}{U B:Fn}(h:∀k l,k<t->l<t->S N (λi=>U k i*B i l)=dl k l):∃I:Nat->Nat,(∀k,k<t->I k<N)/\D t (λk l=>B (I k) l)≠0:=by
 apply Xo;intro no
 let q:∀s,s<=t->∀I:Nat->Nat,(∀k,k<t->s<=k->I k<N)->D t (λk l=>if k<s then dl k l else B (I k) l)=0:=by
  intro s;induction s with
  |zero=>
   intro _ I f;show Xo λz=>no ⟨I,λk b=>f k b (V3 _),z⟩
  |succ s m=>
   intro w I f
   let e:D t (λk l=>if k<s+1 then dl k l else B (I k) l)=D t (upd (λk l=>if k<s then dl k l else B (I k) l) s λl=>S N λj=>U s j*B j l):=dc λk l b g=>by
    unfold upd;by_cases a:k=s
    . subst a;rw[VN rfl,VN (Wj _)];show(h k l b g).symm
    . rw[VM a];change _=if k<s then dl k l else B (I k) l
      by_cases d:k<s
      . rw[VN (by lia),VN d]
      . rw[VM (by lia),VM d]
   rw[e,(uj t).wz (by lia)];show gW λj p=>?_
   let v:=m (by lia) (λk=>if k=s then j else I k) λk b n=>by
    by_cases a:k=s
    . rw[VN a];show p
    . rw[VM a];show f k b (by lia)
   let u:D t (upd (λk l=>if k<s then dl k l else B (I k) l) s (B j))=D t (λk l=>if k<s then dl k l else B (if k=s then j else I k) l):=dc λk l b g=>by
    unfold upd;by_cases a:k=s
    . subst a;rw[VN rfl,VM (Xz _),VN rfl]
    . rw[VM a,VM a]
   rw[u,v,V2]
 let z:=q t (VL _) (λ_=>0) λk a d=>absurd a (Nat.not_lt.mpr d);rw[dc (M':=dl) λr c o x=>VN o,yd]at z;show absurd z (by decide)
def mZ:∀ {n:Nat} {f:Nat->Int},(∀i,i<n->0<f i)->0<Pr n f
 |0,_,_=>show(0:Int)<1 by decide
 |n+1,f,h=>Int.mul_pos (mZ λi a=>h i (Wo a)) (h n (Wj n))
def As:∀ {n:Nat} {f:Nat->Int},(∀i,i<n->0<f i)->∀k,k<n->f k<=Pr n f
 |n+1,f,h,k,hk=>by
  let p:=mZ λi b=>h i (Wo b);let q:=h n (Wj n);change f k<=Pr n f*f n;by_cases e:k=n
  . subst e;let:=Z0 (show(1:Int)<=Pr k f from p) (Xr q);lia
  . have a:=As (λi b=>h i (Wo b)) k (by lia);let:=YV (show(1:Int)<=f n from q) (Xr p);lia
def FZ{w x:Int}(a:w≠0)(h:(w*x).natAbs<=m):x.natAbs<=m:=by
 rw[WN]at h;show VU (YT _ (by lia)) h
def nA.back{N w top e u:Nat}{c:B3}{j:Nat->Nat}(H:nA a N w c top w j e u)(f:i<N)(d:q<w):g a i q=S top λk=>g c.C k i*g c.A k q:=by
 let T:=H.tn
 let r:S N (λk=>g c.C k i*g c.A k q)=g a i q:=by
  let:S N (λk=>g c.C k i*g c.A k q)=S N λk=>S N λm=>g c.C k i*g c.U k m*g a m q:=aE λk p=>by
   rw[T.ua k q p d,<-dJ];show aE λm _=>(Ww _ _ _).symm
  rw[this,mV];let:(S N λm=>S N λk=>g c.C k i*g c.U k m*g a m q)=S N λm=>dl i m*g a m q:=aE λm o=>by rw[om,T.bu i m f o]
  rw[this,mK f]
 let b:∀n,top<=n->n<=N->S n (λk=>g c.C k i*g c.A k q)=S top λk=>g c.C k i*g c.A k q:=λn=>by
  induction n with
  |zero=>intro h _;rw[Nat.le_zero.mp h]
  |succ n l=>
   intro h s;by_cases e:top=n+1
   . rw[e]
   . change S n _+g c.C n i*g c.A n q=_;rw[l (by lia) (by lia),H.zs n q (by lia) (by lia) d,V2,XG]
 rw[<-r,b N H.le (VL _)]
structure eV(A0:Rows)(N w:Nat)(b:B3)(top p:Nat)(ld:Nat->Nat)(e u v:Nat):Prop where
 tn:Tn A0 b.A b.U b.C N w
 le:top<=N
 lo:fY b.A N top (2^e)/\fY b.U N top (2^e)/\fY b.C N top (2^e)
 hi:∀i c,i<top->(g b.A i c).natAbs<=2^u/\(g b.U i c).natAbs<=2^u/\(g b.C i c).natAbs<=2^v
 zs:∀i c,top<=i->i<N->c<p->g b.A i c=0
 lead:∀i,i<top->ld i<p/\0<g b.A i (ld i)/\∀c,c<ld i->g b.A i c=0
 mono:∀i j,i<j->j<top->ld i<ld j
 red:∀i j,i<j->j<top->0<=g b.A i (ld j)/\g b.A i (ld j)<g b.A j (ld j)
def eV.skip{N w top p e u v:Nat}{b:B3}{a:Nat->Nat}(S:eV j N w b top p a e u v)(h:jF b.A N top p []):eV j N w b top (p+1) a e u v:=
 ⟨S.tn,S.le,S.lo,S.hi,λi c g f l=>by
  by_cases k:c=p
  . subst k;show Xo λz=>absurd ((h.mem i).mpr ⟨g,f,z⟩) (by simp)
  . show S.zs i c g f (by lia),λi d=>⟨Wo (S.lead i d).1,(S.lead i d).2⟩,S.mono,S.red⟩
structure mi(A0:Rows)(N w top p e u v:Nat)(b:B3)(k:Nat)(c:B3):Prop where
 tn:Tn A0 c.A c.U c.C N w
 rA:∀i,k<=i->c.A.getD i []=b.A.getD i []/\c.U.getD i []=b.U.getD i []
 rC:∀i,i≠top->c.C.getD i []=b.C.getD i []
 ah:∀i q,i<k->q<p->g c.A i q=g b.A i q
 rd:∀i,i<k->0<=g c.A i p/\g c.A i p<g c.A top p
 sz:∀i q,i<k->(g c.A i q).natAbs<=2^(u+e+1)/\(g c.U i q).natAbs<=2^(u+e+1)
 sC:∀q,(g c.C top q).natAbs<=2^e+k*2^(u+v)
def mi.step{N w top p e u v k:Nat}{b c:B3}(I:mi A N w top p e u v b k c)(s:k<top)(l:top<N)(J:p<w)(n:0<g b.A top p)(C:∀q,q<p->g b.A top q=0)
 (r:∀q,(g b.A top q).natAbs<=2^e/\(g b.U top q).natAbs<=2^e) (f:∀i q,i<top->(g b.A i q).natAbs<=2^u/\(g b.U i q).natAbs<=2^u/\(g b.C i q).natAbs<=2^v):
 mi A N w top p e u v b (k+1) ⟨aY c.A k ((g c.A k p).fdiv (g c.A top p)) top,aY c.U k ((g c.A k p).fdiv (g c.A top p)) top,aY c.C top (-((g c.A k p).fdiv (g c.A top p))) k⟩:=by
 let a:k<N:=by lia
 let m:∀i q,k<=i->g c.A i q=g b.A i q:=λi q d=>by unfold g;rw[(I.rA i d).1]
 let z:∀i q,k<=i->g c.U i q=g b.U i q:=λi q d=>by unfold g;rw[(I.rA i d).2]
 let F:∀i q,i≠top->g c.C i q=g b.C i q:=λi q d=>by unfold g;rw[I.rC i d]
 let t:((g c.A k p).fdiv (g c.A top p)).natAbs<=2^u:=by
  rw[m k p (VL _),m top p (by lia)];show VU (vJ _ n) (f k p s).1
 let y:∀x:Int,x.natAbs<=2^e->((g c.A k p).fdiv (g c.A top p)*x).natAbs<=2^(u+e):=λx D=>by
  rw[WN,XZ];show WO t D
 let B:2^u<=2^(u+e):=Wh (by decide) (by lia);show⟨I.tn.take a l (by lia),λi d=>?_,λi d=>?_,λi q d o=>?_,λi d=>?_,λi q d=>?_,λq=>?_⟩
 . show⟨(kq (by rw[I.tn.isA.len];show a) (by lia)).trans (I.rA i (by lia)).1,(kq (by rw[I.tn.fH.len];show a) (by lia)).trans (I.rA i (by lia)).2⟩
 . show(kq (by rw[I.tn.fZ.len];show l) d).trans (I.rC i d)
 . change g (aY c.A k _ top) i q=_;rw[dA I.tn.isA a l];split
   . rename_i h;rw[m top q (by lia),C q o,V2,m k q (VL _),h];lia
   . show I.ah i q (by lia) o
 . change 0<=g (aY c.A k _ top) i p/\g (aY c.A k _ top) i p<g (aY c.A k _ top) top p;rw[dA I.tn.isA a l,dA I.tn.isA a l,VM (show¬top=k by lia)];split
   . have E:=abh (g c.A k p) (g c.A top p);let j:0<g c.A top p:=by rw[m top p (by lia)];show n
     let L:=Xn (g c.A k p) j;let K:=XH (g c.A k p) j;rw[WK]at E;lia
   . show I.rd i (by lia)
 . change(g (aY c.A k _ top) i q).natAbs<=_/\(g (aY c.U k _ top) i q).natAbs<=_;rw[dA I.tn.isA a l,dA I.tn.fH a l];split
   . have H:=y (g c.A top q) (by rw[m top q (by lia)];show(r q).1);let G:=y (g c.U top q) (by rw[z top q (by lia)];show(r q).2);rw[m k q (VL _),z k q (VL _)];let O:=(f k q s).1;let M:=(f k q s).2.1;rw[XA];lia
   . show I.sz i q (by lia)
 . change(g (aY c.C top _ k) top q).natAbs<=_;rw[dA I.tn.fZ l a,VN rfl,F k q (by lia),Yp];let H:=I.sC q
   let G:((g c.A k p).fdiv (g c.A top p)*g b.C k q).natAbs<=2^(u+v):=by
    rw[WN,XZ];show WO t (f k q s).2.2
   rw[Ye,Zx];lia
def mi.start{N w top p e u v:Nat}{b:B3}(T:Tn a b.A b.U b.C N w)(h:∀q,(g b.C top q).natAbs<=2^e):mi a N w top p e u v b 0 b:=
 ⟨T,λ_ _=>⟨rfl,rfl⟩,λ_ _=>rfl,λ_ _ h=>absurd h (Wk _),λ_ h=>absurd h (Wk _),λ_ _ h=>absurd h (Wk _),λq=>by rw[Nat.zero_mul];show h q⟩
def eV.start{N w e:Nat}(a:aO N w A)(h:fY A N 0 (2^e)):eV A N w ⟨A,units N,units N⟩ 0 0 (λ_=>0) e 0 0:=by
 let S:=nA.start a h;show⟨S.tn,S.le,S.lo,S.hi,S.zs,S.lead,S.mono,S.red⟩
def eV.D4{N w top p e u v:Nat}{d:Nat->Nat}(S:eV f N w b top p d e u v):nA f N w b top p d e (u+v):=
 ⟨S.tn,S.le,S.lo,λi c a=>⟨VU (S.hi i c a).1 (Wh (by decide) (by lia)),VU (S.hi i c a).2.1 (Wh (by decide) (by lia)),VU (S.hi i c a).2.2 (Wh (by decide) (by lia))⟩,S.zs,S.lead,S.mono,S.red⟩
def LD(F:Rows)(i:Nat):Nat:=(F.getD i []).findIdx (λx=>x != 0)
section
variable {F:Rows}{r:Row}{m w:Nat}(vf:aO m w F)(lr:r.length=w)
include vf lr
end
def wo:Int->Int->List Rat->Row->Int×Int
 |T,B,p::ps,n::r=>wo (T*p.den+p.num*n*B) (B*p.den) ps r
 |T,B,_,_=>(T,B)
def xU(a:Nat)(f:Nat->Int):∀b,S (a+b) f=S a f+S b λi=>f (a+i)
 |0=>(XG _).symm
 |b+1=>by
  change S (a+b) f+f (a+b)=S a f+(S b (λi=>f (a+i))+f (a+b));rw[xU a f b,Int.add_assoc]
def aD.lh{u v:Nat->Int}(a:Int)(h:aD X n w u)(f:aD X n w v):aD X n w λc=>u c+a*v c:=by
 obtain⟨y,e⟩:=h;obtain⟨z,d⟩:=f;show⟨λk=>y k+a*z k,λc b=>?_⟩;change u c+a*v c=S n λk=>(y k+a*z k)*g X k c;rw[e c b,d c b,<-dJ,<-fW];show aE λk _=>by rw[aa7,Ww]
def aD.comb{a:Nat->Int}{v:Nat->Nat->Int}:∀ {m:Nat},(∀l,l<m->aD X n w (v l))->aD X n w λc=>S m λl=>a l*v l c
 |0,_=>⟨λ_=>0,λc _=>(gW λk _=>XF _).symm⟩
 |m+1,h=>aD.lh (a m) (aD.comb (m:=m) λl b=>h l (by lia)) (h m (Wj m))
def cL.picked{r:Nat->Nat}(st:bQ F m w r)(same:cL A N F m w):∃(I:Nat->Nat) (B:Fn),(∀k,k<m->I k<N)/\(∀i c,i<m->c<w->g A (I i) c=S m λk=>B i k*g F k c)/\D m B≠0:=by
 let o:∀i,∃z:Nat->Int,i<N->∀c,c<w->g A i c=S m λk=>z k*g F k c:=λi=>by
  by_cases h:i<N
  . obtain⟨z,d⟩:=same.to i h;show⟨z,λ_=>d⟩
  . show⟨λ_=>0,λz=>absurd z h⟩
 let n:∀k,∃z:Nat->Int,k<m->∀c,c<w->g F k c=S N λi=>z i*g A i c:=λk=>by
  by_cases h:k<m
  . obtain⟨z,d⟩:=same.of k h;show⟨z,λ_=>d⟩
  . show⟨λ_=>0,λz=>absurd z h⟩
 letI B:Fn:=λi=>Classical.choose (o i)
 letI U:Fn:=λk=>Classical.choose (n k)
 let p:∀i,i<N->∀c,c<w->g A i c=S m λk=>B i k*g F k c:=λi=>Xe (o i);let u:∀k,k<m->∀c,c<w->g F k c=S N λi=>U k i*g A i c:=λk=>Xe (n k)
 obtain⟨I,b,s⟩:=pick (t:=m) (N:=N) (U:=U) (B:=B) λk l j f=>by
  let y:∀c,c<w->S m (λl=>(S N λi=>U k i*B i l)*g F l c)=g F k c:=λc a=>by
   rw[u k j c a]
   let:(S N λi=>U k i*g A i c)=S N λi=>S m λl=>U k i*B i l*g F l c:=aE λi e=>by
    rw[p i e c a,<-dJ];show aE λl _=>(Ww _ _ _).symm
   rw[this,mV];show aE λl _=>(om _ _ _).symm
  let x:∀c,c<w->(0:Int)=S m λl=>((S N λi=>U k i*B i l)-dl k l)*g F l c:=λc a=>by
   let b:(S m λl=>((S N λi=>U k i*B i l)-dl k l)*g F l c)=S m (λl=>(S N λi=>U k i*B i l)*g F l c)-S m λl=>dl k l*g F l c:=by
    rw[Yd,<-xH,<-fW];show aE λl _=>by rw[Int.sub_mul,Yd]
   rw[b,y c a,mK j,Y1]
  let C:(S N λi=>U k i*B i l)-dl k l=0:=st.gone (v:=λ_=>0) (z:=λl=>(S N λi=>U k i*B i l)-dl k l) (q:=w) x (λ_ _=>rfl) l f (st.lead l f).1;lia
 show⟨I,λi=>B (I i),b,λi c e a=>p _ (b i e) c a,s⟩
def Ln(A:Rows)(N:Nat):Rows:=(List.range N).map λn=>A.getD n []++jz N n
structure Vr(A F:Rows)(N w m h:Nat):Prop where
 hA:aO N w A
 is:aO m (w+N) F
 st:bQ F m (w+N) (LD F)
 red:td F m (LD F)
 same:cL (Ln A N) N F m (w+N)
 le:h<=m
 lo:∀i,i<h->LD F i<w
 hi:∀i,h<=i->i<m->w<=LD F i
section
variable {A F:Rows}{N w m h:Nat}(L:Vr A F N w m h)
include L
end
def Jz(g:0<b)(d:b<=a)(n:2*(q*b)<=2*a+b)(f:2*c<=b)(hs:s*(a*(a*a))<=C)(j:t*(a*(b*b))<=C)(h:s'<=s+q*t):s'*(b*(c*c))<=C/\2*s'<=5*C:=by
 let i:0<a:=V9 g d;let m:2*(q*b)*t<=3*a*t:=Wg t (by lia)
 let y:2*(q*b)*t*(b*b)<=3*C:=by
  show VU (Wg (b*b) m) ?_
  let:3*a*t*(b*b)=3*(t*(a*(b*b))):=by
   rw[WB 3 a t,XW a t,WB 3,WB t a]
  rw[this];show Ws 3 j
 let x:s*(b*(b*b))<=C:=VU (Ws s (WO d (WO d d))) hs;constructor
 . have l:4*(c*c)<=b*b:=by
    let:=WO f f
    let e:2*c*(2*c)=4*(c*c):=by
     rw[WB,<-WB c 2 c,XW c 2,WB 2 c c,<-WB]
    rwa [e]at this
   let w:s'*(b*(b*b))<=s*(b*(b*b))+q*t*(b*(b*b)):=by
    rw[<-Ye];show Wg _ h
   let v:2*(q*t*(b*(b*b)))=2*(q*b)*t*(b*b):=by
    rw[<-WB (q*t) b (b*b),<-WB 2,aam q t b,<-WB 2]
   let u:4*(s'*(b*(c*c)))<=s'*(b*(b*b)):=by
    let e:4*(s'*(b*(c*c)))=s'*(b*(4*(c*c))):=by
     rw[Yl 4 s',Yl 4 b]
    rw[e];show Ws _ (Ws _ l)
   lia
 . have r:s<=C:=VU (W8 s (aa9 i (aa9 i i))) hs
   let p:q*t<=q*b*t*(b*b):=by
    let k:q*t<=q*b*t:=by
     rw[aam];show W8 _ g
    show VU k (W8 _ (aa9 g g))
   let o:2*(q*b*t*(b*b))=2*(q*b)*t*(b*b):=by
    rw[<-WB 2,<-WB 2]
   lia
def Kz(u:0<b)(d:b<=a)(l:2*c<=b)(k:a=q*b+c\/q*b=a+c):b*b*(cg*c+(cs+q*cg)*b)<=a*a*(cg*a+cs*b):=by
 let f:b*b<=a*a:=WO d d
 let s:cg*c+(cs+q*cg)*b=cg*(c+q*b)+cs*b:=by
  rw[Ye,YU,aam q cg b,XW (q*b) cg];lia
 rw[s];by_cases z:c=0
 . subst z;let:a=q*b:=by lia
   rw[XX,<-this];show Wg _ f
 rcases k with h|h
 . rw[show c+q*b=a by lia];show Wg _ f
 let j:2<=q:=by
  rcases WQ q 2 with y|y
  . have:q=0\/q=1:=by lia
    rcases this with rfl|rfl
    . lia
    . lia
  . show y
 let t:2*b<=q*b:=Wg b j;let g:3*b<=2*a:=by lia
 let i:9*(b*b)<=4*(a*a):=by
  let:=WO g g;let r:3*b*(3*b)=9*(b*b):=by rw[WB,Yl b 3 b,<-WB]
  let p:2*a*(2*a)=4*(a*a):=by rw[WB,Yl a 2 a,<-WB]
  rwa [r,p]at this
 let e:b*b*(c+q*b)<=a*a*a:=by
  let o:c+q*b<=a+b:=by lia
  let n:b*b*(c+q*b)<=b*b*(a+b):=Ws _ o;let m:9*(b*b)*a<=4*(a*a)*a:=Wg a i;let v:b*b*b<=b*b*a:=Ws _ d;rw[YU (b*b) a b]at n;rw[WB 9,WB 4]at m;lia
 rw[YU (b*b),YU (a*a)];show YG ?_ (Wg _ f);rw[Yl (b*b) cg,Yl (a*a) cg];show Ws cg e
def yA{x y:Int}(a:y≠0)(b:y.natAbs<=x.natAbs):x.natAbs=(qn x y).natAbs*y.natAbs+(x-qn x y*y).natAbs\/(qn x y).natAbs*y.natAbs=x.natAbs+(x-qn x y*y).natAbs:=by
 let h:=pY (x:=x) a;rw[<-WN];generalize qn x y*y=z at h;lia
def Gz(X A:Rows)(N top p a K:Nat):Prop:=∀i c,top<=i->i<N->(g X i c).natAbs*(a*((g A i p).natAbs*(g A i p).natAbs))<=K/\2*(g X i c).natAbs<=5*K
def Gz.step{N w y top p v K k j:Nat}(q:aO N w X)(t:aO N y A)(e:k<N)(l:j<N)(m:top<=k)(n:top<=j)(f:g A j p≠0)(a:(g A j p).natAbs<=(g A k p).natAbs)(d:(g A k p).natAbs<=v)(h:Gz X A N top p v K):Gz (aY X k (qn (g A k p) (g A j p)) j) (aY A k (qn (g A k p) (g A j p)) j) N top p (g A j p).natAbs K:=λi c o s=>by
 by_cases b:i=k
 . rw[b,dA q e l,VN rfl,dA t e l,VN rfl];let r:=pY (x:=g A k p) f
   let B:2*((qn (g A k p) (g A j p)).natAbs*(g A j p).natAbs)<=2*(g A k p).natAbs+(g A j p).natAbs:=by
    rcases yA f a with z|z<;>lia
   show Jz (by lia) a B r (VU (Ws _ (Wg _ d)) (h k c m e).1) (VU (Ws _ (Wg _ d)) (h j c n l).1) ?_;let u:=Int.natAbs_sub_le (g X k c) (qn (g A k p) (g A j p)*g X j c);rw[WN]at u;show u
 . rw[dA q e l,VM b,dA t e l,VM b];show⟨VU (Ws _ (Wg _ (VU a d))) (h i c o s).1,(h i c o s).2⟩
def BO{f f':Nat->Nat}{k:Nat}(h:∀i,i≠k->f' i=f i):∀ {n:Nat},k<n->SU f' n+f k=SU f n+f' k
 |0,a=>absurd a (Wk _)
 |n+1,a=>by
  change SU f' n+f' n+f k=SU f n+f n+f' k;by_cases e:k=n
  . subst e;let:SU f' k=SU f k:=XR (Av λi b=>by rw[h i (by lia)];show VL _) (Av λi b=>by rw[h i (by lia)];show VL _);lia
  . have:=BO h (n:=n) (by lia);let:=h n (by lia);lia
def HK{f f':Nat->Nat}{j k n:Nat}(d:j<n)(c:k<n)(a:j≠k)(h:∀i,i≠j->i≠k->f' i=f i):SU f' n+(f j+f k)=SU f n+(f' j+f' k):=by
 let g:=BO (f:=f) (f':=λi=>if i=j then f' j else f i) (k:=j) (λi b=>VM b) d
 let e:=BO (f:=λi=>if i=j then f' j else f i) (f':=f') (k:=k) (λi b=>by
  by_cases z:i=j
  . rw[VN z,z]
  . rw[VM z];show h i z b) c
 rw[VN rfl]at g;rw[VM (VO a)]at e;lia
def LF{f:Nat->Nat}{k:Nat}:∀ {n:Nat},k<n->f k<=SU f n
 |0,a=>absurd a (Wk _)
 |n+1,a=>by
  change f k<=SU f n+f n;by_cases e:k=n
  . subst e;lia
  . have:=LF (f:=f) (k:=k) (n:=n) (by lia);lia
def Fc(C A:Rows)(top p c i:Nat):Nat:=if top<=i then(g C i c).natAbs*(g A i p).natAbs else 0
structure Sc(C A:Rows)(N top p gm K:Nat):Prop where
 sum:∀c,gm*gm*SU (Fc C A top p c) N<=K
 all:∀i c,top<=i->i<N->(g C i c).natAbs<=K
def Sc.step{N w M top p l K k j:Nat}(Q:aO N w C)(S:aO N M A)(z:k<N)(v:j<N)(t:top<=k)(m:top<=j)(a:j≠k)(u:g A j p≠0)(b:(g A j p).natAbs<=(g A k p).natAbs)(d:(g A k p).natAbs<=l)(h:Sc C A N top p l K):Sc (aY C j (-(qn (g A k p) (g A j p))) k) (aY A k (qn (g A k p) (g A j p)) j) N top p (g A j p).natAbs K:=by
 let r:=pY (x:=g A k p) u;let q:=yA u b;let b0:0<(g A j p).natAbs:=by lia
 let B:∀i c,g (aY C j (-(qn (g A k p) (g A j p))) k) i c=if i=j then g C j c- -(qn (g A k p) (g A j p))*g C k c else g C i c:=λi c=>dA Q v z i c
 let D:∀i c,g (aY A k (qn (g A k p) (g A j p)) j) i c=if i=k then g A k c-qn (g A k p) (g A j p)*g A j c else g A i c:=λi c=>dA S z v i c
 let o:∀c,(g A j p).natAbs*(g A j p).natAbs*SU (Fc (aY C j (-(qn (g A k p) (g A j p))) k) (aY A k (qn (g A k p) (g A j p)) j) top p c) N<=K:=λc=>by
  let G:Fc (aY C j (-(qn (g A k p) (g A j p))) k) (aY A k (qn (g A k p) (g A j p)) j) top p c k=(g C k c).natAbs*(g A k p-qn (g A k p) (g A j p)*g A j p).natAbs:=by
   unfold Fc;rw[VN t,B,VM (VO a),D,VN rfl]
  let J:Fc (aY C j (-(qn (g A k p) (g A j p))) k) (aY A k (qn (g A k p) (g A j p)) j) top p c j<=((g C j c).natAbs+(qn (g A k p) (g A j p)).natAbs*(g C k c).natAbs)*(g A j p).natAbs:=by
   unfold Fc;rw[VN m,B,VN rfl,D,VM a];show Wg _ ?_;let e:=Int.natAbs_sub_le (g C j c) (-(qn (g A k p) (g A j p))*g C k c);rw[WN,YF]at e;show e
  let I:Fc C A top p c k=(g C k c).natAbs*(g A k p).natAbs:=by unfold Fc;rw[VN t]
  let L:Fc C A top p c j=(g C j c).natAbs*(g A j p).natAbs:=by unfold Fc;rw[VN m]
  let same:∀i,i≠j->i≠k->Fc (aY C j (-(qn (g A k p) (g A j p))) k) (aY A k (qn (g A k p) (g A j p)) j) top p c i=Fc C A top p c i:=λi e n=>by
   unfold Fc;rw[B,VM e,D,VM n]
  let s:=Kz (cg:=(g C k c).natAbs) (cs:=(g C j c).natAbs) b0 b r q;let H:=h.sum c;generalize Fc (aY C j (-(qn (g A k p) (g A j p))) k) (aY A k (qn (g A k p) (g A j p)) j) top p c=f' at G J same;generalize Fc C A top p c=f at I L same H;let F:=HK (f:=λi=>if i=j\/i=k then 0 else f i) (f':=f) v z a λi e n=>(VM (by lia)).symm;let E:=HK (f:=λi=>if i=j\/i=k then 0 else f i) (f':=f') v z a λi e n=>(same i e n).trans (VM (by lia)).symm;rw[VN (.inl rfl),VN (.inr rfl)]at F E;generalize SU (λi=>if i=j\/i=k then 0 else f i) N=R at F E;let U:SU f' N=R+(f' k+f' j):=by lia
  let T:SU f N=R+(f k+f j):=by lia
  rw[T,I,L]at H;rw[U];show VU ?_ H;let V:(g A j p).natAbs*(g A j p).natAbs<=l*l:=WO (VU b d) (VU b d);let W:(g A k p).natAbs*(g A k p).natAbs<=l*l:=WO d d;rw[YU _ R,YU (l*l) R];show YG (Wg _ V) ?_;show VU (Ws _ (YG (ZR G) J)) (VU s (Wg _ W))
 show⟨o,λi c O P=>?_⟩;by_cases y:i=j
 . rw[y];show VU ?_ (o c)
   let e:Fc (aY C j (-(qn (g A k p) (g A j p))) k) (aY A k (qn (g A k p) (g A j p)) j) top p c j=(g (aY C j (-(qn (g A k p) (g A j p))) k) j c).natAbs*(g A j p).natAbs:=by
    unfold Fc;rw[VN m,D,VM a]
   let n:=LF (f:=Fc (aY C j (-(qn (g A k p) (g A j p))) k) (aY A k (qn (g A k p) (g A j p)) j) top p c) v;rw[e]at n;show VU (VU (W8 _ b0) n) (YT _ (aa9 b0 b0))
 . rw[B,VM y];show h.all i c O P
structure Gb(A0:Rows)(N w top p K KC gm:Nat)(b0 b:B3):Prop where
 tn:Tn A0 b.A b.U b.C N w
 up:∀i,i<top->b.A.getD i []=b0.A.getD i []/\b.U.getD i []=b0.U.getD i []/\b.C.getD i []=b0.C.getD i []
 mx:∀i,top<=i->i<N->(g b.A i p).natAbs<=gm
 sA:Gz b.A b.A N top p gm K
 sU:Gz b.U b.A N top p gm K
 sC:Sc b.C b.A N top p gm KC
 zs:∀i c,top<=i->i<N->c<p->g b.A i c=0
 Sl:b=b0\/∃j,top<=j/\j<N/\g b.A j p≠0
def Gb.step{N w top p K D M:Nat}{b0 b:B3}{k j:Nat}(G:Gb E N w top p K D M b0 b)(u:jF b.A N top p (L++[j,k])):
 Gb E N w top p K D (g b.A j p).natAbs b0 (qL b p k j)/\(g (qL b p k j).A k p).natAbs<(g b.A k p).natAbs/\(∀i,i≠k->g (qL b p k j).A i p=g b.A i p)/\top<=k/\k<N/\top<=j/\j<N/\j≠k/\g b.A j p≠0/\(qn (g b.A k p) (g b.A j p)).natAbs<=2*(g b.A k p).natAbs:=by
 obtain⟨f,a,F⟩:=(u.mem k).mp (by simp);obtain⟨l,d,e⟩:=(u.mem j).mp (by simp);let n:=u.ord;rw[List.pairwise_append]at n;let o:=(aan.mp n.2.1).1 k (by simp);let s:=u.nd;rw[List.nodup_append]at s;let q:j≠k:=λz=>(XO.mp s.2.1).1 (by rw[z];show Xi.mpr rfl);let r:=G.mx k f a
 let C:g (qL b p k j).A k p=g b.A k p-qn (g b.A k p) (g b.A j p)*g b.A j p:=by
  change g (aY b.A k _ j) k p=_;rw[dA G.tn.isA a d,VN rfl]
 let B:∀i,i≠k->g (qL b p k j).A i p=g b.A i p:=λi t=>by
  change g (aY b.A k _ j) i p=_;rw[dA G.tn.isA a d,VM t]
 let v:=pY (x:=g b.A k p) e;show⟨⟨G.tn.take a d q,λi t=>?_,λi J I=>?_,G.sA.step G.tn.isA G.tn.isA a d f l e o r,G.sU.step G.tn.fH G.tn.isA a d f l e o r,G.sC.step G.tn.fZ G.tn.isA a d f l q e o r,λi c t H A=>?_,.inr ⟨j,l,d,by rw[B j q];show e⟩⟩,?_,B,f,a,l,d,q,e,?_⟩
 . obtain⟨R,Q,P⟩:=G.up i t;show⟨(kq (by rw[G.tn.isA.len];show a) (by lia)).trans R,(kq (by rw[G.tn.fH.len];show a) (by lia)).trans Q,(kq (by rw[G.tn.fZ.len];show d) (by lia)).trans P⟩
 . by_cases h:i=k
   . rw[h,C];lia
   . rw[B i h];by_cases z:g b.A i p=0
     . rw[z];show V3 _
     . have m:=(u.mem i).mpr ⟨J,I,z⟩;rcases WC.mp m with y|y
       . have:=n.2.2 i y j (by simp);lia
       . rcases V8.mp y with y|y
         . rw[y];show VL _
         . show absurd (Xi.mp y) h
 . change g (aY b.A k _ j) i c=0;rw[dA G.tn.isA a d];by_cases h:i=k
   . rw[VN h,G.zs k c f a A,G.zs j c l d A,V2];rfl
   . rw[VM h];show G.zs i c t H A
 . rw[C];lia
 . have O:1<=(g b.A j p).natAbs:=by lia
   let:=Ws (qn (g b.A k p) (g b.A j p)).natAbs O;rcases yA e o with z|z<;>lia
def Mf{f:Nat->Nat}:∀ {n:Nat},(∀i,i<n->f i<=M)->SU f n<=n*M
 |0,_=>V3 _
 |n+1,h=>by
  let c:=Mf (n:=n) λi a=>h i (Wo a);let b:=h n (Wj n);rw[aaL];show YG c b
def Gb.start{N w top p e u v:Nat}{o:Nat->Nat}(S:eV n N w b top p o e u v):Gb n N w top p (2^(4*e)) (N*2^(4*e)) (2^e) b b:=by
 obtain⟨f,q,j⟩:=S.lo
 let m:2^e*(2^e*(2^e*2^e))=2^(4*e):=by
  rw[<-XZ,<-XZ,<-XZ];congr 1;lia
 let r:2^e<=2^(4*e):=Wh (by decide) (by lia)
 let l:∀X:Rows,fY X N top (2^e)->Gz X b.A N top p (2^e) (2^(4*e)):=λX h i c a d=>by
  let g:=h i c a d;let k:=f i p a d;show⟨?_,by lia⟩;rw[<-m];show WO g (Ws _ (WO k k))
 show⟨S.tn,λ_ _=>⟨rfl,rfl,rfl⟩,λi a d=>f i p a d,l _ f,l _ q,⟨λc=>?_,λi c a d=>?_⟩,S.zs,.inl rfl⟩
 . have g:SU (Fc b.C b.A top p c) N<=N*(2^e*2^e):=Mf λi a=>by
    unfold Fc;by_cases h:top<=i
    . rw[VN h];show WO (j i c h a) (f i p h a)
    . rw[VM h];show V3 _
   show VU (Ws _ g) ?_;rw[Yl,WB,m];show VL _
 . show VU (j i c a d) (VU r ?_);show YT _ (by lia)
def Gb.low{N w top p e f:Nat}{b0 b:B3}(G:Gb j N w top p (2^(4*e)) (N*2^(4*e)) f b0 b)(d:N<=16):fY b.A N top (2^(4*e+4))/\fY b.U N top (2^(4*e+4))/\fY b.C N top (2^(4*e+4)):=by
 let g:2^(4*e+4)=16*2^(4*e):=by rw[XZ,XW]
 rw[g];show⟨λi c a h=>?_,λi c a h=>?_,λi c a h=>?_⟩
 . have:=(G.sA i c a h).2;lia
 . have:=(G.sU i c a h).2;lia
 . show VU (G.sC.all i c a h) (Wg _ d)
def Gb.set{N w top p K H F m r:Nat}{b0 b:B3}(G:Gb C N w top p K H F b0 b)(s:fY b.A N top m/\fY b.U N top m/\fY b.C N top m)(B:jF b.A N top p [r]):vZ C N w top p m b0 (setB b p top r)/\top<=r/\r<N:=by
 obtain⟨e,d,D⟩:=(B.mem r).mp (by simp);let a:top<N:=by lia
 let z:∀i,top<=i->i<N->i≠r->g b.A i p=0:=λi l k o=>Xo λy=>o (by simpa using(B.mem i).mpr ⟨l,k,y⟩);let n:∀i c,g (bE b.A top r) i c=g b.A (sw top r i) c:=λi c=>ix G.tn.isA a d i c;let E:g (bE b.A top r) top p=g b.A r p:=by rw[n];unfold sw;rw[VN rfl]
 let f:=G.tn.MH a d
 let A:∀i,top<i->i<N->g (bE b.A top r) i p=0:=λi l k=>by
  rw[n];unfold sw;rw[VM (by lia)];by_cases h:i=r
  . rw[VN h];show z top (VL _) a (by lia)
  . rw[VM h];show z i (by lia) k h
 let q:∀i c,top<=i->i<N->c<p->g (bE b.A top r) i c=0:=λi c l k o=>by
  rw[n];show G.zs _ c ?_ (mR a d k) o;unfold sw;split
  . show e
  . split
    . show VL _
    . show l
 let up:∀i,i<top->(bE b.A top r).getD i []=b0.A.getD i []/\(bE b.U top r).getD i []=b0.U.getD i []/\(bE b.C top r).getD i []=b0.C.getD i []:=λi j=>by
  obtain⟨x,v,u⟩:=G.up i j;show⟨(vz G.tn.isA a d e j).trans x,(vz G.tn.fH a d e j).trans v,(vz G.tn.fZ a d e j).trans u⟩
 let lo:=And.intro (vB G.tn.isA a d e s.1) (And.intro (vB G.tn.fH a d e s.2.1) (vB G.tn.fZ a d e s.2.2));show⟨?_,e,d⟩;unfold setB;by_cases t:g (bE b.A top r) top p<0
 . rw[VN t];show⟨f.neg a,λi j=>?_,⟨Ce f.isA a lo.1,Ce f.fH a lo.2.1,Ce f.fZ a lo.2.2⟩,λi c l k o=>?_,?_,λi l k=>?_⟩
   . obtain⟨x,v,u⟩:=up i j;show⟨(Cw f.isA a j).trans x,(Cw f.fH a j).trans v,(Cw f.fZ a j).trans u⟩
   . change g (gB (bE b.A top r) top) i c=0;rw[jw f.isA a];split
     . rw[q top c (VL _) a o];rfl
     . show q i c l k o
   . change 0<g (gB (bE b.A top r) top) top p;rw[jw f.isA a,VN rfl];lia
   . change g (gB (bE b.A top r) top) i p=0;rw[jw f.isA a,VM (by lia)];show A i l k
 . rw[VM t];show⟨f,up,lo,q,by change 0<g (bE b.A top r) top p;rw[E]at t⊢;lia,A⟩
def Ey(a:Nat):Nat->Nat
 |0=>a
 |t+1=>4*Ey a t+4
def Uy(a:Nat):Nat->Nat
 |0=>0
 |t+1=>Uy a t+Ey a (t+1)+1
def Cy(a:Nat):Nat->Nat
 |0=>0
 |t+1=>Uy a t+Cy a t+Ey a (t+1)+4
def Ry(N w a:Nat):Prop:=∀t,t<N->t<w->Ey a (t+1)<60000000/\Uy a t+Ey a (t+1)<=120000000/\Uy a t+Cy a t<=120000000
noncomputable instance (N w e0:Nat):Decidable (Ry N w e0):=by
 unfold Ry;show decidable_of_iff (∀t,t<N->t<w->(Ey e0 (t+1)<60000000/\Uy e0 t+Ey e0 (t+1)<=120000000/\Uy e0 t+Cy e0 t<=120000000)) Iff.rfl
def vZ.SS{N w top p e u v e' u' v':Nat}{b0 b c:B3}{B:Nat->Nat}(S:eV z N w b0 top p B e u v)(s:vZ z N w top p (2^e') b0 b)(y:top<N)(I:mi z N w top p e' u v b top c)(n:top<=16)
 (F:u+e'+1<=u') (K:u+v+5<=v') (J:e'+1<=v'):eV z N w c (top+1) (p+1) (λi=>if i=top then p else B i) e' u' v':=by
 let k:∀i q,i<top->g b.A i q=g b0.A i q:=λi q f=>by unfold g;rw[(s.up i f).1]
 let r:∀i q,top<=i->g c.A i q=g b.A i q:=λi q f=>by unfold g;rw[(I.rA i f).1]
 let D:∀i q,top<=i->g c.U i q=g b.U i q:=λi q f=>by unfold g;rw[(I.rA i f).2]
 let E:∀i q,i≠top->g c.C i q=g b.C i q:=λi q f=>by unfold g;rw[I.rC i f]
 let t:∀ {a x:Nat},a<=2^x->x<=u'->a<=2^u':=λh G=>VU h (Wh (by decide) G);show⟨I.tn,y,⟨λi q f n=>?_,λi q f n=>?_,λi q f n=>?_⟩,λi q f=>?_,λi q f n o=>?_,λi f=>?_,λi j m H=>?_,λi j m H=>?_⟩
 . rw[r i q (by lia)];show s.lo.1 i q (by lia) n
 . rw[D i q (by lia)];show s.lo.2.1 i q (by lia) n
 . rw[E i q (by lia)];show s.lo.2.2 i q (by lia) n
 . by_cases h:i=top
   . subst h;show⟨?_,?_,?_⟩
     . rw[r i q (VL _)];show t (s.lo.1 i q (VL _) y) (by lia)
     . rw[D i q (VL _)];show t (s.lo.2.1 i q (VL _) y) (by lia)
     . have R:=I.sC q;let Q:i*2^(u+v)<=2^(u+v+4):=by rw[XZ _ _ 4,XW];show Ws _ (by lia)
       let P:2^(u+v+4)*2<=2^v':=by rw[<-XA];show Wh (by decide) K
       let O:2^e'*2<=2^v':=by rw[<-XA];show Wh (by decide) J
       lia
   . have d:i<top:=by lia
     show⟨t (I.sz i q d).1 F,t (I.sz i q d).2 F,?_⟩;rw[E i q h];let:g b.C i q=g b0.C i q:=by unfold g;rw[(s.up i d).2.2]
     rw[this];show VU (S.hi i q d).2.2 (Wh (by decide) (by lia))
 . rw[r i q (by lia)];by_cases h:q=p
   . rw[h];show s.z1 i (by lia) n
   . show s.zs i q (by lia) n (by lia)
 . by_cases h:i=top
   . subst h;rw[VN rfl];show⟨Wj p,?_,λq o=>?_⟩
     . rw[r i p (VL _)];show s.tp
     . rw[r i q (VL _)];show s.zs i q (VL _) y o
   . have d:i<top:=by lia
     rw[VM h];obtain⟨A,M,L⟩:=S.lead i d;show⟨Wo A,?_,λq o=>?_⟩
     . rw[I.ah i _ d A,k i _ d];show M
     . rw[I.ah i _ d (Yi o A),k i _ d];show L q o
 . by_cases h:j=top
   . rw[VN h,VM (by lia)];show(S.lead i (by lia)).1
   . rw[VM h,VM (by lia)];show S.mono i j m (by lia)
 . by_cases h:j=top
   . subst h;rw[VN rfl];show I.rd i m
   . have l:j<top:=by lia
     rw[VM h];let:=S.red i j m l;let C:=(S.lead j l).1;rw[I.ah i _ (by lia) C,I.ah j _ l C,k i _ (by lia),k j _ l];show this
def Cx(a:Nat):Nat->Nat
 |0=>0
 |t+1=>Uy a t+Cx a t+Ey a (t+1)+5
def fj.gb{N w top p K e:Nat}{b0 b c:B3}(h:fj N top p b c):∀ {d:Nat},Gb f N w top p K e d b0 b->∃a,Gb f N w top p K e a b0 c:=by
 induction h with
 |refl b=>show λG=>⟨_,G⟩
 |head s _ g=>
  intro d G;obtain⟨L,k,j,i,rfl⟩:=s;show g (G.step i).1
def eV.J4{N w t p e u v r:Nat}{b c:B3}{m:Nat->Nat}(S:eV f N w b t p m e u v)(x:N<=16)(s:p<w)(h:fj N t p b c)(l:jF c.A N t p [r]):
 vZ f N w t p (2^(4*e+4)) b (setB c p t r)/\t<N/\∀k,k<=t->mi f N w t p (4*e+4) u v (setB c p t r) k (iH p t k (setB c p t r)):=by
 obtain⟨D,G⟩:=h.gb (Gb.start S);obtain⟨a,z,y⟩:=G.set (G.low x) l;let d:t<N:=YQ z y;show⟨a,d,λk=>?_⟩;induction k with
 |zero=>show λ_=>mi.start a.tn λq=>a.lo.2.2 t q (VL _) d
 |succ k n=>
  intro g;show(n (Xq g)).step g d s a.tp (λq o=>a.zs t q (VL _) d o) (λq=>⟨a.lo.1 t q (VL _) d,a.lo.2.1 t q (VL _) d⟩) λi q j=>?_;obtain⟨C,B,A⟩:=a.ML j q;rw[C,B,A];show S.hi i q j
def eH.str(n:aO N w A)(e:fY A N 0 (2^a))(m:N<=16)(h:eH A N p t b):p<=w->∃d,eV A N w b t p d (Ey a t) (Uy a t) (Cx a t):=by
 induction h with
 |start=>show λ_=>⟨_,eV.start n e⟩
 |next _ c j=>
  intro f;obtain⟨d,S⟩:=j (Xq f);cases c with
  |none l=>show⟨d,S.skip l⟩
  |one g l=>
   obtain⟨i,k,I⟩:=S.J4 m f g l;show⟨_,vZ.SS (e':=Ey a (_+1)) (u':=Uy a (_+1)) (v':=Cx a (_+1)) S i k (I _ (VL _)) (by lia) (VL _) (by change _<=Uy a _+Cx a _+Ey a (_+1)+5;lia) (by change _<=Uy a _+Cx a _+Ey a (_+1)+5;lia)⟩
def eV.TB{N w t p e u v z:Nat}{M:Nat->Nat}(S:eV W N w b t p M e u v)(P:p<w)(J:N<=16)(A:u<=z)(H:v<=z)(D:t<N->u+v+(4*e+4)+6<=z):FE N p t z b:=by
 let up:∀ {a x:Nat},a<=2^x->x<=z->a<=2^z:=λh O=>VU h (Wh (by decide) O);show⟨λc h i q o=>?_,λc r k h l Q i q o=>?_⟩
 . obtain⟨X,G⟩:=h.gb (Gb.start S);by_cases y:i<t
   . obtain⟨F,E,L⟩:=G.up i y;let:=S.hi i q y;unfold g at this⊢;rw[F,E,L];show⟨up this.1 A,up this.2.1 A,up this.2.2 H⟩
   . have j:=W5 y;let D:=D (by lia);let B:=G.low J;show⟨up (B.1 i q j o) (by lia),up (B.2.1 i q j o) (by lia),up (B.2.2 i q j o) (by lia)⟩
 . obtain⟨s,y,V⟩:=S.J4 J P h l;let C:=D y;let I:=V k Q
   let K:(g (iH p t k (setB c p t r)).A i q).natAbs<=2^z/\(g (iH p t k (setB c p t r)).U i q).natAbs<=2^z:=by
    by_cases n:i<k
    . show⟨up (I.sz i q n).1 (by lia),up (I.sz i q n).2 (by lia)⟩
    . obtain⟨U,T⟩:=I.rA i (W5 n);unfold g;rw[U,T];by_cases d:i<t
      . obtain⟨F,E,L⟩:=s.ML d q;let:=S.hi i q d;rw[<-F,<-E]at this;show⟨up this.1 A,up this.2.1 A⟩
      . have f:=W5 d;show⟨up (s.lo.1 i q f o) (by lia),up (s.lo.2.1 i q f o) (by lia)⟩
   show⟨K.1,K.2,?_⟩;by_cases d:i=t
   . subst d;show VU (I.sC q) ?_;let Z:2^(4*e+4)<=2^(u+v+(4*e+4)):=Wh (by decide) (by lia);let Y:k*2^(u+v)<=16*2^(u+v+(4*e+4)):=WO (by lia) (Wh (by decide) (by lia));let R:2^(u+v+(4*e+4)+6)<=2^z:=Wh (by decide) C;rw[XZ _ _ 6]at R;lia
   . have:=I.rC i d;unfold g;rw[this];by_cases m:i<t
     . have a:=(s.ML m q).2.2;let:=(S.hi i q m).2.2;rw[<-a]at this;show up this H
     . show up (s.lo.2.2 i q (W5 m) o) (by lia)
def CQ(n w:Nat)(f:Nat->Nat->Int):Rows:=(List.range n).map λi=>(List.range w).map (f i)
def mL{f:Nat->Nat->Int}:aO n w (CQ n w f):=⟨by simp[CQ],λr a=>by
 obtain⟨i,_,rfl⟩:=Wi.mp a;simp⟩
def qv{f:Nat->Nat->Int}(a:i<n)(b:c<w):g (CQ n w f) i c=f i c:=by
 let d:(CQ n w f).getD i []=(List.range w).map (f i):=by
  unfold CQ;rw[aq (by simpa using a),Wz,Xk]
 unfold g;rw[d,aq (by simpa using b),Wz,Xk]
section
variable {X Y:Rows}{N w r top:Nat}{ld f:Nat->Nat}
def DJ(k:r<=w)(o:∀q,q<r->f q<N)(out:∀i c,i<N->c<w->r<=c->g X i c=0)(s:∀q c,q<r->c<r->q<c->g X (f q) c=0)(p:∀q,q<r->g X (f q) q≠0):∀q,q<=r->∃P:Int,P≠0/\∀j,j<q->aD X N w λc=>P*dl j c
 |0,_=>⟨1,by decide,λj u=>absurd u (Wk _)⟩
 |q+1,d=>by
  obtain⟨P,y,h⟩:=DJ k o out s p q (by lia);show⟨P*g X (f q) q,Int.mul_ne_zero y (p q d),λj u=>?_⟩;by_cases m:j<q
  . show(aD.smul (g X (f q) q) (h j m)).eq λc _=>?_;change P*g X (f q) q*dl j c=g X (f q) q*(P*dl j c);rw[WK P,Ww]
  . have e:j=q:=by lia
    subst e;let B:=aD.lh (-1) (aD.smul P (aD.row (X:=X) (w:=w) (o j d))) (aD.comb (X:=X) (n:=N) (w:=w) (a:=λl=>g X (f j) l) (v:=λl c=>P*dl l c) λl t=>h l t);show B.eq λc x=>?_;change P*g X (f j) j*dl j c=P*g X (f j) c+ -1*S j λl=>g X (f j) l*(P*dl l c)
    let C:(S j λl=>g X (f j) l*(P*dl l c))=if c<j then g X (f j) c*P else 0:=by
     by_cases b:c<j
     . rw[VN b,<-ik b λl=>g X (f j) l*P];show aE λl _=>by rw[Ww]
     . rw[VM b];show gW λl t=>by rw[bN (show l≠c by lia),V2,V2]
    rw[C];by_cases b:c<j
    . rw[VN b,bN (show j≠c by lia),WK (g X (f j) c)];lia
    . rw[VM b];by_cases A:c=j
      . subst A;rw[bT];lia
      . rw[bN (show j≠c by lia)]
        let:g X (f j) c=0:=by
         by_cases z:c<r
         . show s j c d z (by lia)
         . show out _ c (o j d) x (by lia)
        rw[this];lia
def Ti(st:bQ Y top w ld)(same:cL X N Y top w)(j:r<=w)(B:∀q,q<r->f q<N)(out:∀i c,i<N->c<w->r<=c->g X i c=0)(t:∀q c,q<r->c<r->q<c->g X (f q) c=0)(s:∀q,q<r->g X (f q) q≠0):top=r/\(∀q,q<r->ld q=q)/\∀i c,i<top->c<w->r<=c->g Y i c=0:=by
 obtain⟨P,C,x⟩:=DJ j B out t s r (VL _)
 let p:∀i,i<top->i<=ld i:=λi=>by
  induction i with
  |zero=>show λ_=>V3 _
  |succ i l=>show λa=>YQ (l (by lia)) (st.mono i (i+1) (Wj i) a)
 let o:∀i c,i<top->c<w->r<=c->g Y i c=0:=λi c a n y=>by
  obtain⟨z,u⟩:=same.of i a;rw[u c n];show gW λk A=>by rw[out k c A n y,V2]
 let lt:∀i,i<top->ld i<r:=λi a=>ZJ λz=>by
  obtain⟨b,h,_⟩:=st.lead i a;rw[o i _ a b z]at h;show absurd h (by decide)
 let d:∀q,q<r->q<top/\ld q=q:=λq=>by
  induction q using Nat.strongRecOn with
  |ind q l=>
   intro m;let v:=aD.trans same.to (x q m);rcases st.at (q:=q) v (by lia) (λc n=>by change P*dl q c=0;rw[bN (by lia),V2])with⟨i,b,h,_⟩|h0
   . have D:=p i b;by_cases e:i=q
     . subst e;show⟨b,h⟩
     . have:=(l i (by lia) (by lia)).2;lia
   . show absurd h0 (by change P*dl q q≠0;rw[bT,Xs];show C)
 show⟨XR (W5 λz=>?_) (W5 λz=>?_),λq m=>(d q m).2,o⟩
 . have b:=lt r z;let h:=p r z;lia
 . have b:=(d top z).1;lia
end
structure Fr(X Y:Rows)(N w r:Nat):Prop where
 is:aO N w Y
 rN:r<=N
 rW:r<=w
 zs:∀i c,r<=i->i<N->c<w->g Y i c=0
 out:∀i c,i<N->c<w->r<=c->g Y i c=0
 up:∀i c,i<r->c<i->g Y i c=0
 pos:∀i,i<r->0<g Y i i
 red:∀i j,i<j->j<r->0<=g Y i j/\g Y i j<g Y j j
 jE:∀v:Nat->Int,aD X N w v↔aD Y r w v
def Fr.qA(h:Fr X Y N w r):bQ Y r w λi=>i:=⟨λi b=>⟨V9 b h.rW,h.pos i b,λc d=>h.up i c b d⟩,λi j a _=>a⟩
def Me{N w r top e u v:Nat}{c:B3}{z f:Nat->Nat}(H:eV X N w c top w z e u v)(l:r<=w)(B:∀q,q<r->f q<N)(out:∀i c,i<N->c<w->r<=c->g X i c=0)(A:∀q c,q<r->c<r->q<c->g X (f q) c=0)(y:∀q,q<r->g X (f q) q≠0):top=r/\Fr X c.A N w r:=by
 let b:=H.D4;let same:=b.MF;obtain⟨e,o,x⟩:=Ti ⟨b.lead,b.mono⟩ same l B out A y;subst e;let p:∀i a,top<=i->i<N->a<w->g c.A i a=0:=λi a k d n=>b.zs i a k d n;show⟨rfl,b.tn.isA,b.le,l,p,λi a k d n=>?_,λi a k d=>?_,λi t=>?_,λi j m s=>?_,λv=>⟨aD.trans same.to,aD.trans same.of⟩⟩
 . by_cases h:i<top
   . show x i a h d n
   . show p i a (by lia) k d
 . show(b.lead i k).2.2 a (by rw[o i k];show d)
 . have:=(b.lead i t).2.1;rwa [o i t]at this
 . have:=b.red i j m s;rwa [o j s]at this
def Fr.prod{f:Nat->Nat}(h:Fr X Y N w r)(l:∀q,q<r->f q<N)(j:∀q c,q<r->c<r->q<c->g X (f q) c=0):(Pr r λq=>g Y q q)∣Pr r λq=>g X (f q) q:=by
 let d:∀q,∃z:Nat->Int,q<r->∀c,c<w->g X (f q) c=S r λk=>z k*g Y k c:=λq=>by
  by_cases a:q<r
  . obtain⟨z,d⟩:=(h.jE _).mp (aD.row (X:=X) (w:=w) (l q a));show⟨z,λ_=>d⟩
  . show⟨λ_=>0,λz=>absurd z a⟩
 letI B:Fn:=λq=>Classical.choose (d q)
 let m:∀q,q<r->∀c,c<w->g X (f q) c=S r λk=>B q k*g Y k c:=λq=>Xe (d q)
 let i:D r (λq c=>g X (f q) c)=D r B*D r (g Y):=by
  rw[<-MA];show dc λq c a e=>m q a c (by let:=h.rW;lia)
 rw[wM (λq c a e b=>j q c a e b),O8 (λq c a e b=>h.up q c a b)]at i;show⟨D r B,by rw[i,WK]⟩
def Fr.fix(h:Fr X Y N w r)(f:q<r)(C:0<a)(D:∀i,i<N->a∣g X i q)(t:aD X N w λc=>a*dl q c):g Y q q=a/\(∀i,i<r->i≠q->g Y i q=0)/\∀c,c<w->c≠q->g Y q c=0:=by
 let H:=h.rW
 let u:∀v:Nat->Int,aD X N w v->a∣v q:=λv ⟨z,A⟩=>by
  rw[A q (by lia)]
  let:∀n,n<=N->a∣S n λk=>z k*g X k q:=λn=>by
   induction n with
   |zero=>show λ_=>⟨0,by rw[V2];rfl⟩
   |succ n y=>show λK=>Int.dvd_add (y (by lia)) (X9 (D n (by lia)) (ZK _ _))
  show this N (VL _)
 let row:∀i,i<r->aD X N w (g Y i):=λi l=>(h.jE _).mpr (aD.row l)
 let o:g Y q q=a:=by
  let G:=u _ (row q f)
  let F:g Y q q∣a:=by
   rcases h.qA.at (q:=q) ((h.jE _).mp t) (by lia) (λc s=>by change a*dl q c=0;rw[bN (by lia),V2])with⟨i,_,e,hd⟩|m
   . have e:i=q:=e;subst e;let:g Y i i∣a*dl i i:=hd;rwa [bT,Xs]at this
   . have m:a*dl q q=0:=m;rw[bT]at m;lia
  show Y9 (Xr (h.pos q f)) (Xr C) F G
 let E:∀i,i<r->i≠q->g Y i q=0:=λi l j=>by
  by_cases b:q<i
  . show h.up i q l b
  . obtain⟨I,x⟩:=h.red i q (by lia) f;let d:=u _ (row i l);rw[o]at x;show Xd d (by lia)
 show⟨o,E,λc s j=>?_⟩;let B:aD Y r w λc=>g Y q c-a*dl q c:=(h.jE _).mp (aD.sub (row q f) t)
 let:=h.qA.MG B (λk p=>by
  change 0<=g Y q k-a*dl q k/\g Y q k-a*dl q k<g Y k k;let J:=h.pos k p;by_cases e:q=k
  . subst e;rw[bT,o];lia
  . rw[bN e,V2,Y2];by_cases b:q<k
    . show h.red q k b p
    . rw[h.up q k f (by lia)];lia) c s
 let:g Y q c-a*dl q c=0:=this;rw[bN (VO j)]at this;lia
def Fr.dvd{v:Nat->Int}(h:Fr X Y N w r)(d:q<r)(b:aD X N w v)(a:∀c,c<q->v c=0):g Y q q∣v q:=by
 rcases h.qA.at (q:=q) ((h.jE _).mp b) (by let:=h.rW;lia) a with⟨i,_,e,hd⟩|a
 . have e:i=q:=e;subst e;show hd
 . rw[a];show⟨0,by rw[V2]⟩
structure Lo(X:Rows)(N w r:Nat):Prop where
 is:aO N w X
 rN:r<=N
 rW:r<=w
 out:∀i c,i<N->c<w->r<=i\/r<=c->g X i c=0
 jR:∀i c,i<r->c<r->i<c->g X i c=0
 pos:∀i,i<r->0<g X i i
 le:∀i c,c<i->i<r->0<=g X i c/\g X i c<=g X i i
def Fr.lo(h:Fr X Y N w r):Lo (bp Y w) w N r:=by
 let l:=h.rN;let k:=h.rW;let at_:∀i c,i<N->c<w->g (bp Y w) c i=g Y i c:=λi c d e=>cB h.is d e;show⟨cC h.is,k,l,λi c d e m=>?_,λi c d e f=>?_,λi d=>?_,λi c j d=>?_⟩
 . rw[at_ c i e d];rcases m with z|z
   . show h.out c i e d z
   . show h.zs c i z e d
 . rw[at_ c i (by lia) (by lia)];show h.up c i e f
 . rw[at_ i i (by lia) (by lia)];show h.pos i d
 . rw[at_ c i (by lia) (by lia),at_ i i (by lia) (by lia)];obtain⟨a,b⟩:=h.red c i j d;show⟨a,Xr b⟩
def Lo.fr{N w r top e u v:Nat}{c:B3}{d:Nat->Nat}(L:Lo X N w r)(H:eV X N w c top w d e u v):top=r/\Fr X c.A N w r/\(Pr r λq=>g c.A q q)∣Pr r λq=>g X q q:=by
 let l:=L.rN;let h:=Me (f:=λq=>q) H L.rW (λq a=>by lia) (λi c k b j=>L.out i c k b (.inr j)) (λq c a b=>L.jR q c a b) λq a=>XY (L.pos q a);show⟨h.1,h.2,h.2.prod (f:=λq=>q) (λq a=>by lia) λq c a b=>L.jR q c a b⟩
def Lo.abs{X:Rows}{N w r M:Nat}(L:Lo X N w r)(k:(Pr r λq=>g X q q)<=(M:Int))(i c:Nat)(d:i<N)(e:c<w):(g X i c).natAbs<=M:=by
 by_cases a:i<r
 . by_cases b:c<r
   . have l:=As (λq f=>L.pos q f) i a;by_cases j:i<c
     . rw[L.jR i c a b j];show V3 _
     . by_cases h:c=i
       . subst h;let:=L.pos c a;lia
       . have:=L.le i c (by lia) a;lia
   . rw[L.out i c d e (.inr (by lia))];show V3 _
 . rw[L.out i c d e (.inl (by lia))];show V3 _
def O5{r M:Nat}{X:Fn}{t y:Nat->Int}(o:∀i c,i<r->c<r->i<c->X i c=0)(pos:∀i,i<r->0<X i i)(m:∀i c,c<i->i<r->0<=X i c/\X i c<=X i i)(s:∀c,c<r->(y c).natAbs<=M)(e:∀c,c<r->y c=S r λj=>t j*X j c):∀d c,c<r->r-1-c=d->(t c*X c c).natAbs<=2^d*M:=λd=>by
 induction d using Nat.strongRecOn with
 |ind d q=>
  intro c f h;let z:=e c f
  let l:(S r λj=>t j*X j c)=t c*X c c+S (r-1-c) λk=>t (c+1+k)*X (c+1+k) c:=by
   let A:r=(c+1)+(r-1-c):=by lia
   conv=>lhs;rw[A]
   rw[xU];congr 1;change S c (λj=>t j*X j c)+t c*X c c=_;rw[gW λj u=>by rw[o j c (by lia) f u,V2],YJ]
  let B:∀n,n<=r-1-c->(S n λk=>t (c+1+k)*X (c+1+k) c).natAbs<=(2^d-2^(d-n))*M:=λn=>by
   induction n with
   |zero=>intro _;show V3 _
   |succ n b=>
    intro E;let a:=b (by lia);let g:=q (d-1-n) (by lia) (c+1+n) (by lia) (by lia)
    let w:(t (c+1+n)*X (c+1+n) c).natAbs<=2^(d-1-n)*M:=by
     show VU ?_ g;rw[WN,WN];show Ws _ ?_;let:=m (c+1+n) c (by lia) (by lia);lia
    let v:(S (n+1) λk=>t (c+1+k)*X (c+1+k) c).natAbs<=(S n λk=>t (c+1+k)*X (c+1+k) c).natAbs+(t (c+1+n)*X (c+1+n) c).natAbs:=YY _ _;show VU v (VU (YG a w) ?_);rw[<-Ye];show Wg _ ?_;let D:2^(d-n)=2*2^(d-1-n):=by rw[show d-n=(d-1-n)+1 by lia,XA,XW]
    let C:2^(d-n)<=2^d:=Wh (by decide) (by lia);rw[show d-(n+1)=d-1-n by lia];lia
  let x:=B (r-1-c) (VL _);rw[h,W9]at x;let a:=s c f;rw[z,l]at a;let g:(t c*X c c).natAbs<=M+(2^d-2^0)*M:=by rw[h]at a;lia
  show VU g ?_
  let:(2^d-2^0)*M+M=2^d*M:=by
   let p:1<=2^d:=YR;rw[show(2^d-2^0)*M+M=((2^d-1)+1)*M by rw[Ye,Zx],Nat.sub_add_cancel p]
  lia
def OX{r M:Nat}{Y:Fn}{t x:Nat->Int}(up:∀i c,i<r->c<i->Y i c=0)(pos:∀i,i<r->0<Y i i)(b:∀i j,i<j->j<r->0<=Y i j/\Y i j<Y j j)(o:∀c,c<r->(x c).natAbs<=M)(e:∀c,c<r->x c=S r λk=>t k*Y k c):∀c,c<r->(t c).natAbs<=2^c*M:=λc=>by
 induction c using Nat.strongRecOn with
 |ind c m=>
  intro a;let s:=e c a
  let l:(S r λk=>t k*Y k c)=S c (λk=>t k*Y k c)+t c*Y c c:=by
   let u:r=(c+1)+(r-1-c):=by lia
   conv=>lhs;rw[u]
   rw[xU,gW (n:=r-1-c) λk A=>by rw[up (c+1+k) c (by lia) (by lia),V2],XG];rfl
  let w:∀n,n<=c->(S n λk=>t k*Y k c).natAbs<=(2^n-1)*M*(Y c c).natAbs:=λn=>by
   induction n with
   |zero=>intro _;show V3 _
   |succ n d=>
    intro z;let h:=d (by lia);let g:=m n (by lia) (by lia)
    let f:(t n*Y n c).natAbs<=2^n*M*(Y c c).natAbs:=by
     rw[WN];show WO g ?_;let:=b n c (by lia) a;lia
    let q:(S (n+1) λk=>t k*Y k c).natAbs<=(S n λk=>t k*Y k c).natAbs+(t n*Y n c).natAbs:=YY _ _;show VU q (VU (YG h f) ?_);rw[<-Ye,<-Ye];show Wg _ (Wg _ ?_);let p:1<=2^n:=YR;rw[XA];lia
  let B:=w c (VL _);let h:=o c a;let y:=pos c a;rw[s,l]at h;let g:(t c*Y c c).natAbs<=M+(2^c-1)*M*(Y c c).natAbs:=by lia
  let f:(t c).natAbs*(Y c c).natAbs<=2^c*M*(Y c c).natAbs:=by
   rw[<-WN];show VU g ?_;let p:1<=2^c:=YR
   let v:2^c*M*(Y c c).natAbs=(2^c-1)*M*(Y c c).natAbs+M*(Y c c).natAbs:=by
    rw[<-Ye];congr 1;rw[show(2^c-1)*M+M=((2^c-1)+1)*M by rw[Ye,Zx],Nat.sub_add_cancel p]
   rw[v];let:M<=M*(Y c c).natAbs:=W8 _ (by lia);lia
  show Nat.le_of_mul_le_mul_right f (by lia)
def oB(o:aO n w X)(p:aO w d B)(j:w<=8)(q:∀i c,i<n->c<w->(g X i c).natAbs<=2^a)(r:∀i c,i<w->c<d->(g B i c).natAbs<=2^b):∀i c,i<n->c<d->(g (mulM X B d) i c).natAbs<=2^(a+b+3):=λi c h l=>by
 rw[dW o p h]
 let:=Mh (n:=w) (f:=λk=>g X i k*g B k c) (m:=2^a*2^b) λk e=>by
  rw[WN];show WO (q i k h e) (r k c e l)
 show VU this ?_;rw[show a+b+3=3+(a+b) by lia,XZ _ 3,XZ];show Wg _ j
structure Zr(N w r:Nat)(b:B3):Prop where
 iA:aO N w b.A
 iU:aO N N b.U
 iC:aO N N b.C
 a:∀i c,r<=i->i<N->g b.A i c=0
 u:∀i c,i<N->c<N->r<=i\/r<=c->g b.U i c=dl i c
 c:∀i c,i<N->c<N->r<=i\/r<=c->g b.C i c=dl i c
section
variable {N w r p top:Nat}{b:B3}
def EG{k j:Nat}(m:aO N N Y)(n:k<N)(f:j<N)(o:k<r)(s:j<r)(h:∀i c,i<N->c<N->r<=i\/r<=c->g Y i c=dl i c)(i c:Nat)(l:i<N)(a:c<N)(d:r<=i\/r<=c):g (aY Y k q j) i c=dl i c:=by
 rw[dA m n f];by_cases e:i=k
 . subst e;rw[VN rfl,h i c l a d,h j c f a (.inr (by lia)),bN (show j≠c by lia),V2,Y2]
 . rw[VM e];show h i c l a d
def Zr.take(z:Zr N w r b){k j:Nat}(a:k<N)(d:j<N)(e:k<r)(f:j<r):Zr N w r ⟨aY b.A k q j,aY b.U k q j,aY b.C j h k⟩:=by
 show⟨lZ z.iA a d,lZ z.iU a d,lZ z.iC d a,λi c m l=>?_,EG z.iU a d e f z.u,EG z.iC d a f e z.c⟩;change g (aY b.A k q j) i c=0;rw[dA z.iA a d,VM (by lia)];show z.a i c m l
def Zr.lt(z:Zr N w r b)(d:jF b.A N top p L){k:Nat}(c:k∈L):top<=k/\k<N/\k<r:=by
 obtain⟨f,a,e⟩:=(d.mem k).mp c;show⟨f,a,ZJ λy=>e (z.a k p y a)⟩
def Zr.reach{c:B3}(h:fj N top p b c):Zr N w r b->Zr N w r c:=by
 induction h with
 |refl b=>show λz=>z
 |head s _ i=>
  intro z;obtain⟨L,k,j,a,rfl⟩:=s;obtain⟨_,e,d⟩:=z.lt a (k:=k) (by simp);obtain⟨_,g,f⟩:=z.lt a (k:=j) (by simp);show i (z.take e g d f)
def MT{k o:Nat}(n:aO N N Y)(f:k<N)(d:o<N)(m:k<r)(a:o<r)(h:∀i c,i<N->c<N->r<=i\/r<=c->g Y i c=dl i c)(i c:Nat)(j:i<N)(l:c<N)(q:r<=i\/r<=c):g (bE Y k o) i c=dl i c:=by
 rw[ix n f d];by_cases t:r<=i
 . have e:sw k o i=i:=by unfold sw;rw[VM (by lia),VM (by lia)]
   rw[e];show h i c j l q
 . have s:sw k o i<r:=mR m a (by lia);rw[h _ c (mR f d j) l (.inr (by lia)),bN (by lia),bN (by lia)]
def Ma{k:Nat}(j:aO N N Y)(l:k<N)(m:k<r)(h:∀i c,i<N->c<N->r<=i\/r<=c->g Y i c=dl i c)(i c:Nat)(a:i<N)(f:c<N)(d:r<=i\/r<=c):g (gB Y k) i c=dl i c:=by
 rw[jw j l];by_cases e:i=k
 . subst e;rw[VN rfl,h i c a f d,bN (show i≠c by lia)];rfl
 . rw[VM e];show h i c a f d
def Zr.set{c:B3}(z:Zr N w r c)(l:jF c.A N top p [s]):Zr N w r (setB c p top s)/\top<r/\top<N:=by
 obtain⟨m,e,j⟩:=z.lt l (k:=s) (by simp);let tr:top<r:=by lia
 let a:top<N:=by lia
 let d:Zr N w r ⟨bE c.A top s,bE c.U top s,bE c.C top s⟩:=by
  show⟨md z.iA a e,md z.iU a e,md z.iC a e,λi q h f=>?_,MT z.iU a e tr j z.u,MT z.iC a e tr j z.c⟩;change g (bE c.A top s) i q=0;rw[ix z.iA a e,show sw top s i=i by unfold sw;rw[VM (by lia),VM (by lia)]];show z.a i q h f
 show⟨?_,tr,a⟩;unfold setB;split
 . show⟨qg d.iA a,qg d.iU a,qg d.iC a,λi q h f=>?_,Ma d.iU a tr d.u,Ma d.iC a tr d.c⟩;change g (gB (bE c.A top s) top) i q=0;rw[jw d.iA a,VM (by lia)];show d.a i q h f
 . show d
def Zr.low(z:Zr N w r b)(tr:top<r)(a:top<N):∀k,k<=top->Zr N w r (iH p top k b)
 |0,_=>z
 |k+1,d=>by
  let c:=Zr.low z tr a k (by lia);unfold iH;show c.take (by lia) a (by lia) tr
def eH.zr(f:aO N w X)(n:∀i c,r<=i->i<N->c<w->g X i c=0){p t:Nat}(h:eH X N p t c):Zr N w r c:=by
 induction h with
 |start=>
  show⟨f,cf N,cf N,λi c m j=>?_,λi c d a _=>cK d a,λi c d a _=>cK d a⟩;by_cases a:c<w
  . show n i c m j a
  . unfold g;rw[lQ (by rw[f.row j];lia)]
 |next _ cl e=>
  cases cl with
  |none l=>show e
  |one o l=>
   obtain⟨z,tr,k⟩:=(Zr.reach o e).set l;show z.low tr k _ (VL _)
end
def oZ{f h:Nat->Int}:∀ {n:Nat},(∀i,i<n->f i=h i)->Pr n f=Pr n h
 |0,_=>rfl
 |n+1,e=>by
  change Pr n f*f n=Pr n h*h n;rw[oZ λi a=>e i (Wo a),e n (Wj n)]
def Lo.turn{N w r top e u v b:Nat}{c:B3}{O:Nat->Nat}(L:Lo X N w r)(r8:r<=8)(R:eH X N w top c)(H:eV X N w c top w O e u v)(E:(Pr r λq=>g X q q)<=((2^b:Nat):Int)):∀i j,i<N->j<N->(g c.U i j).natAbs<=2^(b+8)/\(g c.C i j).natAbs<=2^(b+8):=by
 let J:=L.rN;let rW:=L.rW;let z:=R.zr L.is (r:=r) λi c C B S=>L.out i c B S (.inl C);obtain⟨T,F,V⟩:=L.fr H;subst T;let K:0<Pr top λq=>g X q q:=mZ λq D=>L.pos q D;let P:(Pr top λq=>g c.A q q)<=((2^b:Nat):Int):=Xj (ZC K V) E;let Z:=L.abs E
 let W:∀i j,i<N->j<w->(g c.A i j).natAbs<=2^b:=λi j l o=>by
  let Q:(Pr top λq=>g (bp c.A w) q q)<=((2^b:Nat):Int):=by
   let U:(Pr top λq=>g (bp c.A w) q q)=Pr top λq=>g c.A q q:=oZ λq D=>cB F.is (by lia) (by lia);rw[U];show P
  let:=F.lo.abs Q j i o l;rwa [cB F.is l o]at this
 let one:1<=2^(b+8):=YR;let G:∀a I,(dl a I).natAbs<=2^(b+8):=λa I=>by unfold dl;split<;>(try show one);show V3 _
 let up:∀ {d:Nat},d<=8->2^d*2^b<=2^(b+8):=λ{d} h=>by rw[<-XZ];show Wh (by decide) (by lia)
 show λi j l o=>⟨?_,?_⟩
 . by_cases A:top<=i\/top<=j
   . rw[z.u i j l o A];show G _ _
   . have p:i<top:=by lia
     let f:j<top:=by lia
     let s:=O5 (r:=top) (M:=2^b) (X:=g X) (t:=g c.U i) (y:=g c.A i) L.jR L.pos L.le (λn m=>W i n l (by lia)) (λn m=>by
      rw[H.tn.ua i n l (by lia)];show Gg J λk C B=>by rw[L.out k n B (by lia) (.inl C),V2]) (top-1-j) j f rfl
     let hp:=L.pos j f
     let:(g c.U i j).natAbs<=(g c.U i j*g X j j).natAbs:=by
      rw[WN];show W8 _ (by lia)
     show VU this (VU s (up (by lia)))
 . by_cases A:top<=i\/top<=j
   . rw[z.c i j l o A];show G _ _
   . have p:i<top:=by lia
     let f:j<top:=by lia
     let s:=OX (r:=top) (M:=2^b) (Y:=g c.A) (t:=λk=>g c.C k j) (x:=g X j) F.up F.pos F.red (λn m=>Z j n (by lia) (by lia)) (λn m=>H.D4.back o (by lia)) i p;show VU s (up (by lia))
structure Sd(A B L Lb R Rb:Rows)(N w x:Nat):Prop where
 iA:aO N w A
 iB:aO N w B
 iL:aO N N L
 oJ:aO N N Lb
 iR:aO w w R
 iW:aO w w Rb
 eq:mulM (mulM L A w) R w=B
 l1:mulM L Lb N=units N
 l2:mulM Lb L N=units N
 r1:mulM R Rb w=units w
 r2:mulM Rb R w=units w
 sL:∀i j,i<N->j<N->(g L i j).natAbs<=2^x
 HF:∀i j,i<N->j<N->(g Lb i j).natAbs<=2^x
 sR:∀i j,i<w->j<w->(g R i j).natAbs<=2^x
 GR:∀i j,i<w->j<w->(g Rb i j).natAbs<=2^x
def Sd.start(a:aO N w A):Sd A A (units N) (units N) (units w) (units w) N w 0:=by
 let b:∀n i j,i<n->j<n->(g (units n) i j).natAbs<=2^0:=λn i j d c=>by
  rw[cK d c];unfold dl;split<;>decide
 show⟨a,a,cf _,cf _,cf _,cf _,by rw[dD a,u0 a],dD (cf _),dD (cf _),dD (cf _),dD (cf _),b N,b N,b w,b w⟩
def Sd.mono{A B L f R e:Rows}(h:Sd A B L f R e N w x)(l:x<=d):Sd A B L f R e N w d:=by
 let up:∀ {a:Nat},a<=2^x->a<=2^d:=λh=>VU h (Wh (by decide) l);show⟨h.iA,h.iB,h.iL,h.oJ,h.iR,h.iW,h.eq,h.l1,h.l2,h.r1,h.r2,λi j c b=>up (h.sL i j c b),λi j c b=>up (h.HF i j c b),λi j c b=>up (h.sR i j c b),λi j c b=>up (h.GR i j c b)⟩
def Sd.left{A B L m R l T Tb:Rows}(h:Sd A B L m R l N w x)(f:N<=8)(b:aO N N T)(a:aO N N Tb)(o:mulM T Tb N=units N)(n:mulM Tb T N=units N)(p:∀i j,i<N->j<N->(g T i j).natAbs<=2^y)(c:∀i j,i<N->j<N->(g Tb i j).natAbs<=2^y):Sd A (mulM T B w) (mulM T L N) (mulM m Tb N) R l N w (x+y+3):=by
 let k:=h.mono (show x<=x+y+3 by lia);show⟨h.iA,bS b h.iB,bS b h.iL,bS h.oJ a,h.iR,h.iW,?_,?_,?_,h.r1,h.r2,?_,?_,k.sR,k.GR⟩
 . rw[cP b h.iL h.iA,cP b (bS h.iL h.iA) h.iR,h.eq]
 . rw[cP b h.iL (bS h.oJ a),<-cP h.iL h.oJ a,h.l1,dD a,o]
 . rw[cP h.oJ a (bS b h.iL),<-cP a b h.iL,n,dD h.iL,h.l2]
 . intro i j e d;let:=oB b h.iL f p h.sL i j e d;rwa [show y+x+3=x+y+3 by lia]at this
 . show λi j e d=>oB h.oJ a f h.HF c i j e d
def Sd.right{A B L m R l T Tb:Rows}(h:Sd A B L m R l N w x)(f:w<=8)(b:aO w w T)(a:aO w w Tb)(o:mulM T Tb w=units w)(n:mulM Tb T w=units w)(p:∀i j,i<w->j<w->(g T i j).natAbs<=2^y)(c:∀i j,i<w->j<w->(g Tb i j).natAbs<=2^y):Sd A (mulM B T w) L m (mulM R T w) (mulM Tb l w) N w (x+y+3):=by
 let k:=h.mono (show x<=x+y+3 by lia);show⟨h.iA,bS h.iB b,h.iL,h.oJ,bS h.iR b,bS a h.iW,?_,h.l1,h.l2,?_,?_,k.sL,k.HF,?_,?_⟩
 . rw[<-cP (bS h.iL h.iA) h.iR b,h.eq]
 . rw[cP h.iR b (bS a h.iW),<-cP b a h.iW,o,dD h.iW,h.r1]
 . rw[cP a h.iW (bS h.iR b),<-cP h.iW h.iR b,h.r2,dD b,n]
 . show λi j e d=>oB h.iR b f h.sR p i j e d
 . intro i j e d;let:=oB a h.iW f c h.GR i j e d;rwa [show y+x+3=x+y+3 by lia]at this
def Tn.QD(T:Tn X A U C N w)(g:aO N w X):mulM U X w=A/\mulM U (bp C N) N=units N/\mulM (bp C N) U N=units N/\mulM (bp U N) C N=units N/\mulM C (bp U N) N=units N:=by
 let d:=T.fH;let e:=T.fZ;show⟨(bS d g).ext T.isA λi c a h=>?_,(bS d (cC e)).ext (cf _) λi j a b=>?_,(bS (cC e) d).ext (cf _) λi j a b=>?_,(bS (cC d) e).ext (cf _) λi j a b=>?_,(bS e (cC d)).ext (cf _) λi j a b=>?_⟩
 . rw[dW d g a,T.ua i c a h]
 . rw[dW d (cC e) a,cK a b,<-T.ub i j a b];show aE λk f=>by rw[cB e b f]
 . rw[dW (cC e) d a,cK a b,<-T.bu i j a b];show aE λk f=>by rw[cB e f a];try rw[WK]
 . rw[dW (cC d) e a,cK a b,nM,<-T.bu j i b a];show aE λk f=>by rw[cB d f a];try rw[WK]
 . rw[dW e (cC d) a,cK a b,nM,<-T.ub j i b a];show aE λk f=>by rw[cB d b f,WK]
def yt(a:aO N w A):bp (bp A w) N=A:=
 (cC (cC a)).ext a λi j c b=>by rw[cB (cC a) b c,cB a c b]
def N6{N w top e u v b:Nat}{c:B3}{a:Nat->Nat}(H:eV A N w c top w a e u v)(o:top<=8)(r:∀i c,i<N->c<w->(g A i c).natAbs<=b):(Pr top λq=>g c.A q (a q))<=(((8*b)^top:Nat):Int):=by
 let d:=H.D4;obtain⟨I,B,x,t,s⟩:=d.MF.picked ⟨d.lead,d.mono⟩
 let n:D top (λi k=>g A (I i) (a k))=D top B*D top λi k=>g c.A i (a k):=by
  rw[<-MA];show dc λi k f h=>t i (a k) f (d.lead k h).1
 rw[O8 (M:=λi k=>g c.A i (a k)) λi k f h j=>(d.lead i f).2.2 _ (d.mono k i j f)]at n;let l:=Lp o (M:=λi k=>g A (I i) (a k)) (m:=b) λi k f h=>r _ _ (x i f) (d.lead k h).1;rw[n]at l;let z:=FZ s l;let y:0<Pr top λq=>g c.A q (a q):=mZ λq p=>(d.lead q p).2.1;lia
def IT{m o:B3}{k C:Nat->Nat}(H1:eV A N w m a w k K y v)(L:eV (bp m.A w) w N o s N C J x u)(z:a<=8)(G:∀i c,i<N->c<w->(g A i c).natAbs<=b):s=a/\Lo (bp o.A N) N w a/\(Pr a λq=>g (bp o.A N) q q)<=(((8*b)^a:Nat):Int):=by
 let j:=H1.D4;let D:=j.tn.isA;let B:=j.le;let at_:∀i c,i<N->c<w->g (bp m.A w) c i=g m.A i c:=λi c p l=>cB D p l;let n:∀q,q<a->k q<w:=λq h=>(j.lead q h).1
 let t:∀q c,q<a->c<a->q<c->g (bp m.A w) (k q) c=0:=λq c h l r=>by
  rw[at_ c _ (by lia) (n q h)];show(j.lead c l).2.2 _ (j.mono q c r l)
 obtain⟨e,F⟩:=Me (f:=k) L B n (λi c p l E=>by rw[at_ c i l p];show j.zs c i E l p) t (λq h=>by rw[at_ q _ (by lia) (n q h)];show XY (j.lead q h).2.1);show⟨e,F.lo,?_⟩;let d:=F.prod (f:=k) n t;let I:(Pr a λq=>g (bp m.A w) (k q) q)=Pr a λq=>g m.A q (k q):=oZ λq h=>at_ q _ (by lia) (n q h);let H:(Pr a λq=>g (bp o.A N) q q)=Pr a λq=>g o.A q q:=oZ λq h=>cB F.is (by let:=F.rN;lia) (by lia);rw[H];rw[I]at d;show Xj (ZC (mZ λq h=>(j.lead q h).2.1) d) (N6 H1 z G)
def Cl(X:Rows)(r t:Nat):Prop:=∀i j,j<t->j<i->i<r->g X i j=0
def Dg(X:Rows)(N w:Nat):Prop:=∀i c,i<N->c<w->i≠c->g X i c=0
def Lo.dg(L:Lo X N w r)(h:Cl X r r):Dg X N w:=λi c e f d=>by
 by_cases b:r<=i\/r<=c
 . show L.out i c e f b
 . by_cases a:i<c
   . show L.jR i c (by lia) (by lia) a
   . show h i c (by lia) (by lia) (by lia)
section
variable {X Y Z:Rows}{N w r t:Nat}
def Cl.unit(L:Lo X N w r)(h:Cl X r t)(b:q<t)(f:q<r):(∀i,i<N->g X q q∣g X i q)/\aD X N w λc=>g X q q*dl q c:=by
 let p:=L.rN;let o:=L.rW
 let row:∀c,c<w->g X q c=g X q q*dl q c:=λc m=>by
  by_cases e:q=c
  . subst e;rw[bT,Xs]
  . rw[bN e,V2];by_cases l:c<r
    . by_cases d:q<c
      . show L.jR q c f l d
      . show h q c (by lia) (by lia) f
    . show L.out q c (by lia) m (.inr (by lia))
 show⟨λi n=>?_,(aD.row (X:=X) (w:=w) (k:=q) (by lia)).eq λc m=>(row c m).symm⟩;by_cases e:i=q
 . rw[e];show XI _
 . have:g X i q=0:=by
    by_cases a:i<r
    . by_cases j:i<q
      . show L.jR i q a f j
      . show h i q b (by lia) a
    . show L.out i q n (by lia) (.inl (by lia))
   rw[this];show⟨0,by rw[V2]⟩
def Cl.step(L:Lo X N w r)(F:Fr X Y N w r)(h:Cl X r t):Cl (bp Y w) r t/\(∀q,q<t->q<r->g Y q q=g X q q)/\(t<r->∀i,i<r->t<=i->g Y t t∣g X i t):=by
 let u:=L.rN;let s:=L.rW;show⟨λi j o n l=>?_,λq e f=>?_,λd i l m=>?_⟩
 . obtain⟨b,a⟩:=h.unit L o (by lia);rw[cB F.is (show j<N by lia) (by lia)];show(F.fix (by lia) (L.pos j (by lia)) b a).2.2 i (by lia) (by lia)
 . obtain⟨b,a⟩:=h.unit L e f;show(F.fix f (L.pos q f) b a).1
 . show F.dvd d (aD.row (X:=X) (w:=w) (k:=i) (by lia)) λc p=>h i c p (by lia) l
def Lo.round(L:Lo X N w r)(F:Fr X Y N w r)(G:Fr (bp Y w) Z w N r)(h:Cl X r t)(a:t<r):Cl (bp Z N) r t/\(g Z t t∣g X t t)/\(g Z t t=g X t t->Cl (bp Z N) r (t+1)):=by
 let H:=L.rN;let E:=L.rW;let L2:=F.lo;obtain⟨u,_,D⟩:=h.step L F;obtain⟨s,_,C⟩:=u.step L2 G;let q:=D a t a (VL _);let at_:∀i c,i<N->c<w->g (bp Y w) c i=g Y i c:=λi c b l=>cB F.is b l
 let x:∀i,i<r->t<=i->g Z t t∣g Y t i:=λi b d=>by
  let:=C a i b d;rwa [at_ t i (by lia) (by lia)]at this
 let v:=x t a (VL _);show⟨s,X9 v q,λe=>?_⟩
 let A:g Z t t=g Y t t:=by
  rw[<-e]at q;show Y9 (Xr (G.pos t a)) (Xr (F.pos t a)) v q
 let z:∀i,i<w->g Y t t∣g (bp Y w) i t:=λi b=>by
  rw[at_ t i (by lia) b];by_cases o:i<r
  . by_cases d:t<=i
    . rw[<-A];show x i o d
    . rw[F.up t i a (by lia)];show⟨0,by rw[V2]⟩
  . rw[F.out t i (by lia) b (by lia)];show⟨0,by rw[V2]⟩
 let y:aD (bp Y w) w N λc=>g Y t t*dl t c:=(aD.row (X:=bp Y w) (w:=N) (k:=t) (by lia)).eq λc l=>by
  rw[at_ c t l (by lia)];by_cases e:t=c
  . subst e;rw[bT,Xs]
  . rw[bN e,V2];by_cases p:c<r
    . by_cases m:t<c
      . show(F.up c t p m).symm
      . have:=u t c (by lia) (by lia) a;rw[at_ c t l (by lia)]at this;show this.symm
    . show(F.zs c t (by lia) l (by lia)).symm
 let f:=G.fix a (F.pos t a) z y;intro i j I n b;by_cases B:j=t
 . subst B;rw[cB G.is (show j<w by lia) (by lia)];show f.2.2 i (by lia) (by lia)
 . show s i j (by lia) n b
end
def lf(X:Rows)(r t b:Nat):Nat:=(r-t)*(b+1)+if t<r then(g X t t).natAbs.log2 else 0
def KY{a b:Nat}(f:0<b)(h:b∣a)(e:0<a)(c:b≠a):b.log2<a.log2:=by
 obtain⟨k,rfl⟩:=h
 let d:2<=k:=by
  rcases k with _|_|k
  . simp at e
  . simp at c
  . lia
 let j:2^(b.log2)<=b:=Nat.log2_self_le (by lia);let i:b*2<=b*k:=Ws b d;let g:b.log2+1<=(b*k).log2:=(Nat.le_log2 (by lia)).mpr (by rw[XA];lia);lia
def SW(L:Lo X N w r)(c:r<=8)(d:(Pr r λq=>g X q q)<=((2^b:Nat):Int)):lf X r t b<=9*(b+1):=by
 unfold lf;let j:(r-t)*(b+1)<=8*(b+1):=Wg _ (by lia);split
 . rename_i h;let i:=As (λq a=>L.pos q a) t h;let f:=L.pos t h;let e:(g X t t).natAbs.log2<b+1:=(aaf (by lia)).mpr (by rw[XA];lia);lia
 . lia
def Lo.less(L:Lo X N w r)(F:Fr X Y N w r)(G:Fr (bp Y w) Z w N r)(h:Cl X r t)(c:t<r)(p:(Pr r λq=>g (bp Z N) q q)<=((2^b:Nat):Int)):∃t',t'<=r/\Cl (bp Z N) r t'/\lf (bp Z N) r t' b<lf X r t b:=by
 obtain⟨l,k,j⟩:=L.round F G h c;let o:=L.rN;let n:=L.rW;let d:=G.lo;let m:g (bp Z N) t t=g Z t t:=cB G.is (by lia) (by lia);by_cases e:g Z t t=g X t t
 . show⟨t+1,c,j e,?_⟩;unfold lf;rw[VN c]
   let v:(if t+1<r then(g (bp Z N) (t+1) (t+1)).natAbs.log2 else 0)<=b:=by
    split
    . rename_i h;let i:=As (λq f=>d.pos q f) (t+1) h;let u:=d.pos (t+1) h;let s:(g (bp Z N) (t+1) (t+1)).natAbs.log2<b+1:=(aaf (by lia)).mpr (by rw[XA];lia);lia
    . show V3 _
   let i:(r-t)*(b+1)=(r-(t+1))*(b+1)+(b+1):=by rw[show r-t=(r-(t+1))+1 by lia,Ye,Zx]
   lia
 . show⟨t,Xq c,l,?_⟩;unfold lf;rw[VN c,VN c,m];let:=KY (b:=(g Z t t).natAbs) (a:=(g X t t).natAbs) (by let:=G.pos t c;lia) (Int.natAbs_dvd_natAbs.mpr k) (by let:=L.pos t c;lia) (by let:=G.pos t c;let:=L.pos t c;lia);lia
def ub(n k p:Nat)(x:Int):Rows:=CQ n n λi j=>if i=k/\j=p then x else dl i j
def kU{n k p:Nat}:aO n n (ub n k p x):=mL
def EU{n k p i j:Nat}(e:i<n)(d:j<n)(c:k≠p):g (ub n k p x) i j=dl i j+x*(dl i k*dl p j):=by
 unfold ub;rw[qv e d];by_cases b:i=k
 . by_cases a:j=p
   . rw[VN ⟨b,a⟩,b,a,bT,bT,bN c];lia
   . rw[VM λh=>a h.2,bN (VO a)];simp
 . rw[VM λh=>b h.1,bN b];simp
def HS{n k p m:Nat}(l:aO m n B)(d:k<n)(a:k≠p)(h:i<m)(b:c<n):g (mulM B (ub n k p x) n) i c=g B i c+x*(g B i k*dl p c):=by
 rw[dW l kU h]
 let e:(S n λj=>g B i j*g (ub n k p x) j c)=S n (λj=>g B i j*dl j c)+S n λj=>x*dl p c*(g B i j*dl j k):=by
  rw[<-fW]
  show aE λj f=>by
   rw[EU f b a];grind
 rw[e,dJ,ik b λj=>g B i j,ik d λj=>g B i j];grind
def DQ{n k p:Nat}(e:k<n)(f:p<n)(a:k≠p):mulM (ub n k p x) (ub n k p (-x)) n=units n:=(bS kU kU).ext (cf n) λi c b d=>by
 rw[HS kU e a b d,EU b d a,EU b e a,cK b d,bN (VO a)];grind
def IU{n k p i j:Nat}{x:Int}(a:x.natAbs<=1)(c:i<n)(b:j<n):(g (ub n k p x) i j).natAbs<=2^0:=by
 unfold ub;rw[qv c b];split
 . show a
 . unfold dl;split<;>decide
def Ei{v:Nat->Int}(e:q<w)(h:∀i,i<N->a∣g X i q)(d:aD X N w v):a∣v q:=by
 obtain⟨z,c⟩:=d;rw[c q e]
 let:∀n,n<=N->a∣S n λk=>z k*g X k q:=λn=>by
  induction n with
  |zero=>show λ_=>⟨0,by rw[V2];rfl⟩
  |succ n b=>show λf=>Int.dvd_add (b (by lia)) (X9 (h n (by lia)) (ZK _ _))
 show this N (VL _)
section
variable {B Y Z:Rows}{N w r k o:Nat}
def Ls(L:Lo B N w r)(dg:Dg B N w)(j:k<o)(n:o<r)(b:i<N)(f:c<w):g (mulM B (ub w o k 1) w) i c=if i=c then g B i i else if i=o/\c=k then g B o o else 0:=by
 let m:=L.rN;let l:=L.rW;rw[HS L.is (by lia) (by lia) b f,WZ];by_cases e:i=c
 . subst e;rw[VN rfl];by_cases a:k=i
   . subst a;rw[dg k o b (by lia) (by lia),XF,XG]
   . rw[bN a,V2,XG]
 . rw[VM e,dg i c b f e];by_cases a:k=c
   . subst a;rw[bT,Xs,YJ];by_cases d:i=o
     . subst d;rw[VN ⟨rfl,rfl⟩]
     . rw[VM λh=>d h.1];show dg i o b (by lia) d
   . rw[bN a,VM λh=>a h.2.symm];simp
def MC(L:Lo B N w r)(dg:Dg B N w)(f:k<o)(m:o<r):Lo (mulM B (ub w o k 1) w) N w r/\(Pr r λq=>g (mulM B (ub w o k 1) w) q q)=Pr r λq=>g B q q:=by
 let l:=L.rN;let j:=L.rW;let at_:=λ{i c:Nat} (a:i<N) (b:c<w)=>Ls L dg f m a b;show⟨⟨bS L.is kU,l,j,λi c a b d=>?_,λi c a b n=>?_,λi a=>?_,λi c p a=>?_⟩,oZ λq s=>by rw[at_ (by lia) (by lia),VN rfl]⟩
 . rw[at_ a b];split
   . rename_i e;subst e;show L.out i i a b d
   . rw[VM (by lia)]
 . rw[at_ (by lia) (by lia),VM (by lia),VM (by lia)]
 . rw[at_ (by lia) (by lia),VN rfl];show L.pos i a
 . have t:=L.pos i a;rw[at_ (by lia) (by lia),at_ (by lia) (by lia),VM (by lia),VN rfl];split
   . rename_i h;rw[<-h.1];lia
   . lia
def Jn(L:Lo B N w r)(dg:Dg B N w)(u:k<o)(t:o<r)(F:Fr (mulM B (ub w o k 1) w) Y N w r)(G:Fr (bp Y w) Z w N r):Dg (bp Z N) N w/\∀q,q<r->g (bp Z N) q q=if q=k then((Int.gcd (g B k k) (g B o o):Nat):Int)else if q=o then((Int.lcm (g B k k) (g B o o):Nat):Int)else g B q q:=by
 let rN:=L.rN;let rW:=L.rW;let at_:=λ{i c:Nat} (b:i<N) (d:c<w)=>Ls L dg u t b d;let pk:=L.pos k (by lia);let po:=L.pos o t;let LX:=(MC L dg u t).1;let row:∀i,i<N->aD (mulM B (ub w o k 1) w) N w (g (mulM B (ub w o k 1) w) i):=λi b=>aD.row b
 let s:∀q,q<r->q≠k->q≠o->g Y q q=g B q q/\(∀i,i<r->i≠q->g Y i q=0)/\∀c,c<w->c≠q->g Y q c=0:=λq x ah ag=>F.fix x (L.pos q x) (λi b=>by
  rw[at_ b (by lia)];by_cases e:i=q
  . rw[VN e,e];show XI _
  . rw[VM e,VM (by lia)];show⟨0,by rw[V2]⟩) ((row q (by lia)).eq λc d=>by
  rw[at_ (by lia) d];by_cases e:q=c
  . rw[VN e,e,bT,Xs]
  . rw[VM e,VM (by lia),bN e,V2])
 let M:g (mulM B (ub w o k 1) w) k k=g B k k:=by rw[at_ (by lia) (by lia),VN rfl]
 let K:g (mulM B (ub w o k 1) w) o k=g B o o:=by rw[at_ (by lia) (by lia),VM (by lia),VN ⟨rfl,rfl⟩]
 let J:g (mulM B (ub w o k 1) w) o o=g B o o:=by rw[at_ (by lia) (by lia),VN rfl]
 let ar:g (mulM B (ub w o k 1) w) k o=0:=by rw[at_ (by lia) (by lia),VM (by lia),VM (by lia)]
 let E:g Y k k=((Int.gcd (g B k k) (g B o o):Nat):Int):=by
  let I:g Y k k∣g B k k:=by
   let:=F.dvd (q:=k) (by lia) (row k (by lia)) λc d=>by rw[at_ (by lia) (by lia),VM (by lia),VM (by lia)]
   rwa [M]at this
  let H:g Y k k∣g B o o:=by
   let:=F.dvd (q:=k) (by lia) (row o (by lia)) λc d=>by rw[at_ (by lia) (by lia),VM (by lia),VM (by lia)]
   rwa [K]at this
  let d3:((Int.gcd (g B k k) (g B o o):Nat):Int)∣g Y k k:=Ei (by lia) (λi b=>by
   rw[at_ b (by lia)];by_cases e:i=k
   . rw[VN e,e];show Int.gcd_dvd_left ..
   . rw[VM e];split
     . show aaz ..
     . show⟨0,by rw[V2]⟩) ((F.jE _).mpr (aD.row (by lia)))
  show Y9 (Xr (F.pos k (by lia))) (Zm _) (Int.dvd_coe_gcd I H) d3
 let D:g Y o o=((Int.lcm (g B k k) (g B o o):Nat):Int):=by
  obtain⟨α,hα⟩:=Int.dvd_lcm_left (g B k k) (g B o o);obtain⟨β,hβ⟩:=Int.dvd_lcm_right (g B k k) (g B o o)
  let I:g Y o o∣((Int.lcm (g B k k) (g B o o):Nat):Int):=by
   let hv:aD (mulM B (ub w o k 1) w) N w λc=>((Int.lcm (g B k k) (g B o o):Nat):Int)*dl o c:=(aD.lh (-α) (aD.smul β (row o (by lia))) (row k (by lia))).eq λc d=>by
    rw[at_ (by lia) d,at_ (by lia) d];by_cases h:c=o
    . subst h;rw[bT,VN rfl,VM (by lia),VM (by lia),hβ];grind
    . rw[bN (VO h),VM (by lia)];by_cases v:c=k
      . subst v;rw[VN ⟨rfl,rfl⟩,VN rfl];grind
      . rw[VM (by lia),VM (by lia),VM (by lia)];grind
   let:=F.dvd t hv λc d=>by rw[bN (by lia),V2]
   rwa [bT,Xs]at this
  let H:((Int.lcm (g B k k) (g B o o):Nat):Int)∣g Y o o:=by
   obtain⟨z,T⟩:=(F.jE _).mpr (aD.row (X:=Y) (n:=r) (w:=w) t);let P:=T k (by lia);let O:=T o (by lia);rw[F.up o k t u]at P
   let s1:(S N λi=>z i*g (mulM B (ub w o k 1) w) i k)=z k*g B k k+z o*g B o o:=by
    let:(S N λi=>z i*g (mulM B (ub w o k 1) w) i k)=S N (λi=>g B k k*(z i*dl i k))+S N λi=>g B o o*(z i*dl i o):=by
     rw[<-fW]
     show aE λi b=>by
      rw[at_ b (by lia)];by_cases h:i=k
      . subst h;rw[VN rfl,bT,bN (show i≠o by lia)];grind
      . rw[VM h,bN h];by_cases v:i=o
        . subst v;rw[VN ⟨rfl,rfl⟩,bT];grind
        . rw[VM (by lia),bN v];grind
    rw[this,dJ,dJ,ik (show k<N by lia) z,ik (show o<N by lia) z];grind
   let s2:(S N λi=>z i*g (mulM B (ub w o k 1) w) i o)=z o*g B o o:=by
    rw[kC (k:=o) (by lia) λi b A=>by rw[at_ b (by lia),VM A,VM (by lia),V2],J]
   rw[s1]at P;rw[s2]at O;rw[O];show Int.coe_lcm_dvd ⟨-(z k),?_⟩ ⟨z o,WK _ _⟩;let:g B k k* -(z k)= -(z k*g B k k):=by grind
   omega
  show Y9 (Xr (F.pos o t)) (Zm _) I H
 let gp:0<((Int.gcd (g B k k) (g B o o):Nat):Int):=by rw[<-E];show F.pos k (by lia)
 let lp:0<((Int.lcm (g B k k) (g B o o):Nat):Int):=by rw[<-D];show F.pos o t
 let U:((Int.gcd (g B k k) (g B o o):Nat):Int)∣g Y k o:=X9 (aaz ..) (Ei (X:=mulM B (ub w o k 1) w) (N:=N) (w:=w) (by lia) (λi b=>by
  rw[at_ b (by lia)];by_cases e:i=o
  . rw[VN e,e];show XI _
  . rw[VM e,VM (by lia)];show⟨0,by rw[V2]⟩) ((F.jE _).mpr (aD.row (by lia))))
 let m:∀i c,i<N->c<w->g (bp Y w) c i=g Y i c:=λi c b d=>cB F.is b d;let zero:∀ {a:Int},a∣0:=λ{a}=>⟨0,by rw[V2]⟩
 let W:∀c,c<w->c≠k->c≠o->g Y k c=0:=λc d l p=>by
  by_cases j:c<r
  . show(s c j l p).2.1 k (by lia) (VO l)
  . show F.out k c (by lia) d (by lia)
 let V:∀c,c<w->c≠o->g Y o c=0:=λc d l=>by
  by_cases j:c<r
  . by_cases p:c=k
    . subst p;show F.up o c t u
    . show(s c j p l).2.1 o t (VO l)
  . show F.out o c (by lia) d (by lia)
 let ck:∀i,i<N->i≠k->g Y i k=0:=λi b l=>by
  by_cases C:i<r
  . by_cases p:i=o
    . subst p;show F.up i k t u
    . show(s i C l p).2.2 k (by lia) (VO l)
  . show F.zs i k (by lia) b (by lia)
 let co:∀i,i<N->i≠o->i≠k->g Y i o=0:=λi b l p=>by
  by_cases C:i<r
  . show(s i C p l).2.2 o (by lia) (VO l)
  . show F.zs i o (by lia) b (by lia)
 let R:aD (bp Y w) w N λc=>((Int.gcd (g B k k) (g B o o):Nat):Int)*dl k c:=(aD.row (X:=bp Y w) (w:=N) (k:=k) (by lia)).eq λc d=>by
  rw[m c k d (by lia)];by_cases e:k=c
  . subst e;rw[E,bT,Xs]
  . rw[bN e,ck c d (VO e),V2]
 let all:∀q,q<r->g Z q q=(if q=k then((Int.gcd (g B k k) (g B o o):Nat):Int)else if q=o then((Int.lcm (g B k k) (g B o o):Nat):Int)else g B q q)/\∀c,c<N->c≠q->g Z q c=0:=λq x=>by
  by_cases l:q=k
  . subst l;rw[VN rfl]
    let f:=G.fix x gp (λi b=>by
     rw[m q i (by lia) b];by_cases h:i=q
     . subst h;rw[E];show XI _
     . by_cases v:i=o
       . subst v;show U
       . rw[W i b h v];show zero) R
    show⟨f.1,f.2.2⟩
  . rw[VM l];by_cases p:q=o
    . subst p;rw[VN rfl];obtain⟨y,hy⟩:=U
      let f:=G.fix x lp (λi b=>by
       rw[m q i (by lia) b];by_cases h:i=q
       . subst h;rw[D];show XI _
       . rw[V i b h];show zero) ((aD.lh (-y) (aD.row (X:=bp Y w) (n:=w) (w:=N) (k:=q) (by lia)) R).eq λc d=>by
       rw[m c q d (by lia)];by_cases h:q=c
       . subst h;rw[D,bT,bN (show k≠q by lia)];grind
       . rw[bN h];by_cases v:k=c
         . subst v;rw[hy,bT];grind
         . rw[bN v,co c d (VO h) (VO v)];grind)
      show⟨f.1,f.2.2⟩
    . rw[VM p];obtain⟨Q,o2,o3⟩:=s q x l p
      let f:=G.fix x (L.pos q x) (λi b=>by
       rw[m q i (by lia) b];by_cases h:i=q
       . subst h;rw[Q];show XI _
       . rw[o3 i b h];show zero) ((aD.row (X:=bp Y w) (w:=N) (k:=q) (by lia)).eq λc d=>by
       rw[m c q d (by lia)];by_cases h:q=c
       . subst h;rw[Q,bT,Xs]
       . rw[bN h,V2];by_cases j:c<r
         . show(o2 c j (VO h)).symm
         . show(F.zs c q (by lia) d (by lia)).symm)
      show⟨f.1,f.2.2⟩
 show⟨λi c b d A=>?_,λq x=>?_⟩
 . rw[cB G.is d b];by_cases j:c<r
   . show(all c j).2 i b A
   . show G.zs c i (by lia) d b
 . rw[cB G.is (by lia) (by lia)];show(all q x).1
end
structure AQ(X:Rows)(N w y:Nat)(c:B3):Prop where
 sz:∀i j,i<N->j<N->(g c.U i j).natAbs<=2^y/\(g c.C i j).natAbs<=2^y
structure D6(B:Rows)(N w y:Nat)(Q:Nat->Rows->Prop):Prop where
 low:∀i j,i<N->j<w->(g B i j).natAbs<=2^350
 s1:∀t c,eH B N w t c->AQ B N w y c
 a1:∀t c,eH B N w t c->∀i j,i<N->j<w->(g c.A i j).natAbs<=2^350
 s2:∀t c,eH B N w t c->∀t2 c2,eH (bp c.A w) w N t2 c2->AQ (bp c.A w) w N y c2
 lo:∀t c,eH B N w t c->∀t2 c2,eH (bp c.A w) w N t2 c2->∃r,r<=8/\Lo (bp c2.A N) N w r/\(Pr r λq=>g (bp c2.A N) q q)<=((2^343:Nat):Int)/\Q r (bp c2.A N)
def oK(d:aO N w A)(h:∀i c,i<N->c<w->(g A i c).natAbs<=M):fY A N 0 M:=λi c _ a=>by
 by_cases b:c<w
 . show h i c a b
 . unfold g;rw[lQ (by rw[d.row a];lia)];show V3 _
def mv(h:a<=2^b)(l:b<=c):a<=2^c:=VU h (Wh (by decide) l)
def Lo.two{X:Rows}{N w r:Nat}{P:Rows->Prop}(L:Lo X N w r)(C:N<=8)(z:w<=8)(o:(Pr r λq=>g X q q)<=((2^343:Nat):Int))(h:∀Y Z,Fr X Y N w r->Fr (bp Y w) Z w N r->(Pr r λq=>g (bp Z N) q q)<=((2^343:Nat):Int)->P (bp Z N)):D6 X N w 351 (λx M=>x=r/\P M):=by
 let B:=L.rN;let A:=L.rW;let u:=L.abs o;let y:=oK L.is u;let one:∀t c,eH X N w t c->∃f,eV X N w c t w f (Ey 343 t) (Uy 343 t) (Cx 343 t):=λt c b=>b.str L.is y (by lia) (VL _)
 let e:∀t c,eH X N w t c->Fr X c.A N w r/\Lo (bp c.A w) w N r/\(Pr r λq=>g (bp c.A w) q q)<=((2^343:Nat):Int):=λt c b=>by
  obtain⟨f,H⟩:=one t c b;obtain⟨_,F,p⟩:=L.fr H;show⟨F,F.lo,?_⟩;rw[oZ (h:=λq=>g c.A q q) λq k=>cB F.is (by lia) (by lia)];show Xj (ZC (mZ λq k=>L.pos q k) p) o
 show⟨λi j n m=>mv (u i j n m) (by decide),λt c b=>?_,λt c b i j n m=>?_,λt c b v s d=>?_,λt c b v s d=>?_⟩
 . obtain⟨f,H⟩:=one t c b;show⟨L.turn (by lia) b H o⟩
 . obtain⟨F,L2,a⟩:=e t c b;let:=L2.abs a j i m n;rw[cB F.is n m]at this;show mv this (by decide)
 . obtain⟨F,L2,a⟩:=e t c b;obtain⟨f,H⟩:=d.str L2.is (oK L2.is (L2.abs a)) (by lia) (VL _);show⟨L2.turn (by lia) d H a⟩
 . obtain⟨F,L2,a⟩:=e t c b;obtain⟨f,H⟩:=d.str L2.is (oK L2.is (L2.abs a)) (by lia) (VL _);obtain⟨_,G,p⟩:=L2.fr H
   let l:(Pr r λq=>g (bp s.A N) q q)<=((2^343:Nat):Int):=by
    rw[oZ (h:=λq=>g s.A q q) λq k=>cB G.is (by lia) (by lia)];show Xj (ZC (mZ λq k=>L2.pos q k) p) a
   show⟨r,by lia,G.lo,l,rfl,h _ _ F G l⟩
def Tq:∀t,t<9->Uy 350 t<=60000000/\Cx 350 t<=60000000/\(t<8->Uy 350 t+Cx 350 t+(4*Ey 350 t+4)+6<=60000000):=by decide+kernel
def eH.CL(d:aO N w A)(a:fY A N 0 (2^350))(k:N<=8)(c:p<w)(h:eH A N p t b):FE N p t 60000000 b:=by
 obtain⟨j,S⟩:=h.str d a (by lia) (Xq c);let i:=S.le;obtain⟨g,f,e⟩:=Tq t (by lia);show S.TB c (by lia) g f λh=>e (by lia)
def eV.Lx{N w top p e u v y:Nat}{f:Nat->Nat}(H:eV X N w c top p f e u v)(d:e<=y)(h:u<=y)(g:v<=y):AQ X N w y c:=⟨λi j b k=>by
 by_cases a:i<top
 . have:=H.hi i j a;show⟨mv this.2.1 h,mv this.2.2 g⟩
 . have a:=W5 a;show⟨mv (H.lo.2.1 i j a b) d,mv (H.lo.2.2 i j a b) d⟩⟩
def Lo.again(L:Lo X N w r)(c:N<=8)(a:w<=8)(f:(Pr r λq=>g X q q)<=((2^343:Nat):Int)):D6 X N w 351 (λb M=>b=r/\∀t,t<r->Cl X r t->∃t',t'<=r/\Cl M r t'/\lf M r t' 343<lf X r t 343):=
 L.two c a f λY Z F G e t d h=>L.less F G h d e
def JL{N w r k o:Nat}(L:Lo B N w r)(e:N<=8)(c:w<=8)(f:(Pr r λq=>g B q q)<=((2^343:Nat):Int))(dg:Dg B N w)(a:k<o)(b:o<r):D6 (mulM B (ub w o k 1) w) N w 351 (λd M=>d=r/\Dg M N w/\∀q,q<r->g M q q=if q=k then((Int.gcd (g B k k) (g B o o):Nat):Int)else if q=o then((Int.lcm (g B k k) (g B o o):Nat):Int)else g B q q):=by
 obtain⟨i,h⟩:=MC L dg a b;show i.two e c (by rw[h];show f) λY Z F G _=>Jn L dg a b F G
def Mn(A:Rows)(N w k:Nat)(d:Int):Prop:=∀I J:Nat->Nat,(∀r,r<k->I r<N)->(∀c,c<k->J c<w)->d∣D k λr c=>g A (I r) (J c)
def Gn{f:Nat->Int}:∀ {n:Nat},(∀i,i<n->d∣f i)->d∣S n f
 |0,_=>⟨0,by rw[V2];rfl⟩
 |n+1,h=>Int.dvd_add (Gn λi a=>h i (Wo a)) (h n (Wj n))
def Mn.rows{N x w k:Nat}(m:Mn A N w k d)(h:∀i,i<x->aD A N w (g t i)):Mn t x w k d:=by
 intro I J y v
 let q:∀p,p<=k->∀rows:Nat->Nat->Int,(∀r,r<k->(r<p/\aD A N w (rows r))\/∃j,j<N/\rows r=g A j)->d∣D k λr c=>rows r (J c):=λp=>by
  induction p with
  |zero=>
   intro _ rows b
   let l:∀r,∃j,r<k->j<N/\rows r=g A j:=λr=>by
    by_cases a:r<k
    . rcases b r a with⟨z,_⟩|⟨j,n,e⟩
      . show absurd z (Wk _)
      . show⟨j,λ_=>⟨n,e⟩⟩
    . show⟨0,λz=>absurd z a⟩
   let:=m (λr=>Classical.choose (l r)) J (λr a=>(Xe (l r) a).1) v;rw[dc (M':=λr c=>g A (Classical.choose (l r)) (J c)) λr c a _=>congrFun (Xe (l r) a).2 (J c)];show this
  |succ p u=>
   intro E rows b;rcases b p (by lia)with⟨_,z,hz⟩|⟨j,n,e⟩
   . have C:D k (λr c=>rows r (J c))=D k (upd (λr c=>rows r (J c)) p λc=>S N λj=>z j*g A j (J c)):=dc λr c _ l=>by
      by_cases a:r=p
      . subst a;rw[cD];show hz (J c) (v c l)
      . rw[aB a]
     rw[C,(uj k).wz (by lia) _ z λj c=>g A j (J c)];show Gn λj n=>X9 ?_ (ZK _ _)
     let B:D k (upd (λr c=>rows r (J c)) p λc=>g A j (J c))=D k λr c=>(if r=p then g A j else rows r) (J c):=dc λr c _ _=>by
      by_cases a:r=p
      . subst a;rw[cD,VN rfl]
      . rw[aB a,VM a]
     rw[B];show u (by lia) _ λr f=>?_;by_cases a:r=p
     . rw[VN a];show .inr ⟨j,n,rfl⟩
     . rw[VM a];rcases b r f with⟨o,s⟩|o
       . show .inl ⟨by lia,s⟩
       . show .inr o
   . show u (by lia) rows λr f=>?_;by_cases a:r=p
     . subst a;show .inr ⟨j,n,e⟩
     . rcases b r f with⟨o,s⟩|o
       . show .inl ⟨by lia,s⟩
       . show .inr o
 show q k (VL _) (λr=>g t (I r)) λr b=> .inl ⟨b,h _ (y r b)⟩
def Mn.same{N a w k:Nat}(s:cL A N b a w):Mn A N w k d↔Mn b a w k d:=⟨λm=>m.rows s.of,λm=>m.rows s.to⟩
def Mn.tr{N w k:Nat}(b:aO N w A):Mn (bp A w) w N k d↔Mn A N w k d:=by
 let a:∀ {B:Rows} {n m:Nat},aO n m B->Mn B n m k d->Mn (bp B m) m n k d:=λ{B n m} l h I J f e=>by
  let:=h J I e f;rw[<-Kr]at this;rw[dc (M':=Mx.tr λr c=>g B (J r) (I c)) λr c i j=>cB l (e c j) (f r i)];show this
 show⟨λh=>?_,a b⟩;let:=a (cC b) h;rwa [yt b]at this
def IC:∀ {k:Nat} {I:Nat->Nat},(∀r,r<=k->I r<k)->∃i j,i<j/\j<=k/\I i=I j
 |0,I,h=>absurd (h 0 (VL _)) (Wk _)
 |k+1,I,h=>by
  by_cases g:∃r,r<=k/\I r=I (k+1)
  . obtain⟨r,f,d⟩:=g;show⟨r,k+1,by lia,VL _,d⟩
  . have no:∀r,r<=k->I r≠I (k+1):=λr f d=>g ⟨r,f,d⟩
    obtain⟨i,j,f,d,e⟩:=IC (k:=k) (I:=λr=>if I r=k then I (k+1)else I r) λr l=>by
     let a:=h r (by lia);let b:=h (k+1) (VL _);let c:=no r l;change(if I r=k then I (k+1)else I r)<k;split<;>lia
    show⟨i,j,f,by lia,?_⟩;let a:=no i (by lia);let b:=no j d;let e:(if I i=k then I (k+1)else I i)=if I j=k then I (k+1)else I j:=e
    split at e<;>split at e<;>lia
def MM{b:Nat->Int}(q:∀i c,i<N->c<w->g B i c=if i=c then b i else 0)(ch:∀i j,i<=j->b i∣b j):∀k,Mn B N w k (Pr k b)
 |0=>λI J _ _=>XI _
 |k+1=>λI J p o=>by
  by_cases d:∃r,r<=k/\k<=I r
  . obtain⟨r,n,h⟩:=d
    let f:∀a:Nat->Nat,(∀r,r<k+1->a r<N)->k<=a 0->Pr (k+1) b∣D (k+1) λr c=>g B (a r) (J c):=λa l m=>by
     rw[d9];show Gn λj t=>?_
     let E:b k∣g B (a 0) (J j):=by
      rw[q _ _ (l 0 (by lia)) (o j t)];split
      . show ch k _ m
      . show⟨0,by rw[V2]⟩
     let C:Pr k b∣D k λr c=>g B (a (r+1)) (J (sk j c)):=MM q ch k (λr=>a (r+1)) (λc=>J (sk j c)) (λr n=>l _ (by lia)) λc u=>o _ (kI u);obtain⟨x,d⟩:=E;obtain⟨y,s⟩:=C;show⟨sg j*x*y,?_⟩;change sg j*g B (a 0) (J j)*D k (λr c=>g B (a (r+1)) (J (sk j c)))=Pr k b*b k*(sg j*x*y);rw[d,s];grind
    by_cases m:r=0
    . subst m;show f I p h
    . have e:=(uj (k+1)).swap (i:=0) (j:=r) (by lia) (by lia) (VO m) λr c=>g B (I r) (J c);let:=f (λx=>I (sw 0 r x)) (λx d=>p _ (mR (by lia) (by lia) d)) (by change k<=I (sw 0 r 0);unfold sw;rw[VN rfl];show h);let A:D (k+1) (λx c=>g B (I (sw 0 r x)) (J c))= -D (k+1) λr c=>g B (I r) (J c):=e;rw[A]at this;show Int.dvd_neg.mp this
  . obtain⟨i,j,G,F,v⟩:=IC (k:=k) (I:=I) λr n=>ZJ λz=>d ⟨r,n,z⟩;rw[(uj (k+1)).alt i j _ (by lia) (by lia) (by lia) λc _=>by rw[v]];show⟨0,by rw[V2]⟩
def nb(B:Rows)(r q:Nat):Int:=if q<r then g B q q else 0
structure Ch(B:Rows)(N w r:Nat):Prop where
 lo:Lo B N w r
 dg:Dg B N w
 ch:∀i j,i<j->j<r->g B i i∣g B j j
def Ch.at(h:Ch B N w r)(i c:Nat)(a:i<N)(b:c<w):g B i c=if i=c then nb B r i else 0:=by
 by_cases e:i=c
 . subst e;rw[VN rfl];unfold nb;split
   . rfl
   . rename_i z;show h.lo.out i i a b (.inl (by lia))
 . rw[VM e];show h.dg i c a b e
def Ch.all(h:Ch B N w r)(i j:Nat)(b:i<=j):nb B r i∣nb B r j:=by
 unfold nb;by_cases a:j<r
 . rw[VN a,VN (by lia)];by_cases e:i=j
   . rw[e];show XI _
   . show h.ch i j (by lia) a
 . rw[VM a];show⟨0,by rw[V2]⟩
def Ch.mn(h:Ch B N w r)(k:Nat)(d:Int):Mn B N w k d↔d∣Pr k (nb B r):=by
 constructor
 . intro m;by_cases a:k<=N/\k<=w
   . have:=m (λr=>r) (λc=>c) (λr p=>by lia) (λc g=>by lia);rw[wM λi c e g b=>by rw[h.at i c (by lia) (by lia),VM (by lia)]]at this;rwa [oZ (h:=nb B r) λi e=>by rw[h.at i i (by lia) (by lia),VN rfl]]at this
   . have z:Pr k (nb B r)=0:=by
      let o:=h.lo.rN;let n:=h.lo.rW;cases k with
      |zero=>show absurd ⟨V3 _,V3 _⟩ a
      |succ k=>
       change Pr k _*nb B r k=0;unfold nb;rw[VM (by lia),V2]
     rw[z];show⟨0,by rw[V2]⟩
 . intro f I J l j;show X9 f (MM h.at h.all k I J l j)
def nR(b:aO n m X)(d:aO m w A):∀i,i<n->aD A m w (g (mulM X A w) i):=λi a=>⟨g X i,λc _=>dW b d a c⟩
def Sd.mn(h:Sd A B L r R q N w x)(k:Nat)(d:Int):Mn A N w k d↔Mn B N w k d:=by
 let a:=bS h.iL h.iA
 let o:cL A N (mulM L A w) N w:=⟨λi b=>by
  let:=nR h.oJ a i b;rwa [<-cP h.oJ h.iL h.iA,h.l2,dD h.iA]at this,nR h.iL h.iA⟩
 let e:=cC h.iR;let c:=cC h.iW;let f:=cC a;let m:mulM (bp R w) (bp (mulM L A w) w) N=bp B w:=by rw[<-x6 a h.iR,h.eq]
 let g:aO w N (bp B w):=cC h.iB
 let n:cL (bp (mulM L A w) w) w (bp B w) w N:=⟨λi b=>by
  let:=nR c g i b;rw[<-m,<-cP c e f,<-x6 h.iR h.iW,h.r1]at this;let p:bp (units w) w=units w:=(cC (cf w)).ext (cf w) λi j b l=>by rw[cB (cf w) l b,cK l b,cK b l,nM]
  rw[p,dD f,m]at this;show this,λi b=>by
  let:=nR e f i b;rwa [m]at this⟩
 show(Mn.same o).trans ((Mn.tr a).symm.trans ((Mn.same n).trans (Mn.tr h.iB)))
def AF{α:Type}:∀ {l l':List α},l.Nodup->(∀x∈l,x∈l')->l.length<=l'.length
 | [],_,_,_=>V3 _
 |x::l,l',h,s=>by
  obtain⟨a,b,e⟩:=List.append_of_mem (s x V6);let i:=(XO.mp h).1
  let:=AF (l:=l) (l':=a++b) (XO.mp h).2 λy c=>by
   let g:=s y (VZ _ c);rw[e]at g;rcases WC.mp g with f|f
   . show Xh _ f
   . rcases V8.mp f with d|d
     . rw[d]at c;show absurd c i
     . show We _ d
  rw[e];simp at this⊢;lia
def IG{α β:Type}{l:List α}{l':List β}(f:α->β)(h:l.Nodup)(s:∀x∈l,f x∈l')(inj:∀x∈l,∀y∈l,f x=f y->x=y):l.length<=l'.length:=by
 let i:(l.map f).Nodup:=by
  rw[X_,YB];show(X_.mp h).imp_of_mem λ{a b} k j c e=>c (inj a k b j e)
 let:=AF i (l':=l') λy d=>by
  obtain⟨x,g,rfl⟩:=Wi.mp d;show s x g
 rwa [VH]at this
def M8{e:Nat}(f:0<e)(k:Nat):((List.range' (e*k) e).filter λi=>decide (e∣i)).length=1:=by
 obtain⟨e,rfl⟩:∃x,e=x+1:=⟨e-1,by lia⟩
 rw[List.range'_succ,aaW (p:=λi=>decide (e+1∣i)) (WS (Nat.dvd_mul_right (e+1) k))]
 let:(List.range' ((e+1)*k+1) e).filter (λi=>decide (e+1∣i))=[]:=by
  rw[aa_];intro i a;let:=List.mem_range'_1.mp a;simp![aay];rintro⟨c,rfl⟩;let d:(e+1)*k<(e+1)*c:=by lia
  let b:(e+1)*c<(e+1)*(k+1):=by rw[YU (e+1) k 1];lia
  let h:=aaH d;let g:=aaH b;lia
 rw[this];rfl
def Cf{e:Nat}(a:0<e):∀k,((List.range (e*k)).filter λi=>decide (e∣i)).length=k
 |0=>by simp
 |k+1=>by
  let h:List.range (e*(k+1))=List.range (e*k)++List.range' (e*k) e:=by
   rw[List.range_eq_range',List.range_eq_range',YU,Nat.mul_one];let:=List.range'_append_1 (s:=0) (m:=e*k) (n:=e);rw[XX]at this;show this.symm
  rw[h,List.filter_append,Wu,Cf a k,M8 a]
def Nk(l:0<n)(e:0<d):((List.range d).filter λi=>decide (d∣n*i)).length=Nat.gcd n d:=by
 let c:0<Nat.gcd d n:=Zq n e;let g:d=d/Nat.gcd d n*Nat.gcd d n:=(aal (Y_ d n)).symm;let j:0<d/Nat.gcd d n:=Nat.div_pos (Nat.le_of_dvd e (Y_ d n)) c
 let b:∀i,d∣n*i↔d/Nat.gcd d n∣i:=λm=>by
  let k:n=Nat.gcd d n*(n/Nat.gcd d n):=(Nat.mul_div_cancel' (Nat.gcd_dvd_right d n)).symm;let f:d=Nat.gcd d n*(d/Nat.gcd d n):=(Nat.mul_div_cancel' (Y_ d n)).symm;let co:=aak c;let eq:Nat.gcd d n*(n/Nat.gcd d n*m)=n*m:=by rw[<-WB,<-k]
  constructor
  . intro h;let a:Nat.gcd d n*(d/Nat.gcd d n)∣Nat.gcd d n*(n/Nat.gcd d n*m):=by rw[eq,<-f];show h
    show co.dvd_of_dvd_mul_left (Nat.dvd_of_mul_dvd_mul_left c a)
  . intro h;let a:Nat.gcd d n*(d/Nat.gcd d n)∣Nat.gcd d n*(n/Nat.gcd d n*m):=Nat.mul_dvd_mul_left _ (Nat.dvd_trans h (Nat.dvd_mul_left _ _));rw[eq,<-f]at a;show a
 let:=Cf j (Nat.gcd d n);rw[<-g]at this;rw[abq,<-this];congr 1
 show List.filter_congr λi _=>by
  let:=b i;simp![ZE];rwa [<-g]at*
def bx:List Nat->List (List Nat)
 | []=>[[]]
 |d::ds=>(List.range d).flatMap λi=>(bx ds).map (i:: ·)
def rR(n:Nat):List Nat->List Nat->Bool
 | [],[]=>true
 |d::ds,i::y=>decide (d∣n*i)&&rR n ds y
 |_,_=>false
def CZ:∀l:List Nat,((l.flatMap λi=>(bx ds).map (i:: ·)).filter (rR n (d::ds))).length=(l.filter λi=>decide (d∣n*i)).length*((bx ds).filter (rR n ds)).length
 | []=>by simp
 |i::l=>by
  let a:=CZ (n:=n) (d:=d) (ds:=ds) l;rw[List.flatMap_cons,List.filter_append,Wu,a,List.filter_map,VH];by_cases h:d∣n*i
  . rw[aaW (by simpa using h),Wl,Ye,Zx,abo];congr 2
    show List.filter_congr λy _=>by
     change(decide (d∣n*i)&&rR n ds y)=rR n ds y;rw[WS h,Bool.true_and]
  . rw[List.filter_cons_of_neg (by simpa using h)]
    let:(bx ds).filter (rR n (d::ds)∘(i:: ·))=[]:=by
     rw[aa_];intro y _;change¬(decide (d∣n*i)&&rR n ds y)=true;rw[Wt h,Bool.false_and];show WD
    rw[this,XS,XX]
def Ax(n:Nat):List Nat->Nat
 | []=>1
 |d::ds=>Nat.gcd n d*Ax n ds
def DG(a:0<n):∀ {ds:List Nat},(∀d∈ds,0<d)->((bx ds).filter (rR n ds)).length=Ax n ds
 | [],_=>rfl
 |d::ds,h=>by
  change(((List.range d).flatMap λi=>(bx ds).map (i:: ·)).filter (rR n (d::ds))).length=_;rw[CZ,Nk a (h d V6),DG a λx b=>h x (VZ _ b)];rfl
def jT:∀ {ds y:List Nat},y∈bx ds↔y.length=ds.length/\∀q,q<ds.length->y.getD q 0<ds.getD q 0
 | [],y=>by
   constructor
   . intro h;rw[Xi.mp h];show⟨rfl,λq c=>absurd c (Wk _)⟩
   . rintro⟨h,_⟩;show Xi.mpr (Xw.mp h)
 |d::ds,y=>by
  constructor
  . intro h;obtain⟨i,j,e⟩:=aaS.mp h;obtain⟨z,g,rfl⟩:=Wi.mp e;obtain⟨a,b⟩:=jT.mp g;show⟨by simp[a],λq c=>?_⟩;cases q with
    |zero=>show WU.mp j
    |succ q=>show b q (by simpa using c)
  . rintro⟨f,e⟩;cases y with
    |nil=>simp at f
    |cons i z=>
     show aaS.mpr ⟨i,WU.mpr (e 0 (by simp)),Wi.mpr ⟨z,jT.mpr ⟨by simpa using f,λq c=>e (q+1) (by simpa using c)⟩,rfl⟩⟩
def rB:∀ds:List Nat,(bx ds).Nodup
 | []=>by change([[]]:List (List Nat)).Nodup;simp
 |d::ds=>by
  change((List.range d).flatMap λi=>(bx ds).map (i:: ·)).Nodup;rw[X_,List.pairwise_flatMap];show⟨λi _=>?_,?_⟩
  . rw[YB];show(X_.mp (rB ds)).imp λ{a b} h e=>h (Xg e).2
  . show(X_.mp (List.nodup_range (n:=d))).imp λ{a b} h x f y c e=>by
     obtain⟨u,_,rfl⟩:=Wi.mp f;obtain⟨v,_,rfl⟩:=Wi.mp c;show h (Xg e).1
def ym:∀ {ds y:List Nat},y.length=ds.length->(rR n ds y=true↔∀q,q<ds.length->ds.getD q 0∣n*y.getD q 0)
 | [],[],_=>⟨λ_ q c=>absurd c (Wk _),λ_=>rfl⟩
 |d::ds,i::y,h=>by
  let e:=ym (n:=n) (ds:=ds) (y:=y) (by simpa using h);change(decide (d∣n*i)&&rR n ds y)=true↔_;rw[WV,aay,e];constructor
  . rintro⟨a,b⟩ q c;cases q with
    |zero=>show a
    |succ q=>show b q (by simpa using c)
  . intro a;show⟨a 0 (by simp),λq c=>a (q+1) (by simpa using c)⟩
def vR(v:Nat->Int)(R:Rows)(w j:Nat):Int:=S w λk=>v k*g R k j
def Je{v:Nat->Int}(a:aO n w X)(b:aO w w R)(h:aD X n w v):aD (mulM X R w) n w (vR v R w):=by
 obtain⟨z,d⟩:=h;show⟨z,λj i=>?_⟩;unfold vR;rw[aE (g:=λc=>S n λk=>z k*g X k c*g R c j) λc f=>by rw[d c f,<-om],mV];show aE λk e=>?_;rw[dW a b e j,<-dJ];show aE λc _=>Ww _ _ _
def uo{v:Nat->Int}(f:aO w w R)(e:aO w w a)(h:mulM R a w=units w)(d:j<w):vR (vR v R w) a w j=v j:=by
 unfold vR;rw[aE (g:=λc=>S w λk=>v k*g R k c*g a c j) λc i=>by rw[<-om],mV];rw[aE (g:=λk=>v k*dl k j) λk b=>?_]
 . show ik d v
 . have:=dW f e b j;rw[h,cK b d]at this;rw[this,<-dJ];show aE λc _=>Ww _ _ _
def Sd.jE{A B L i R e:Rows}(h:Sd A B L i R e N w x){v:Nat->Int}:aD A N w v↔aD B N w (vR v R w):=by
 let a:=bS h.iL h.iA;constructor
 . intro l;let b:=Je h.iA h.iR l;show aD.trans (λk d=>?_) b;let:=nR h.oJ h.iB k d;rw[<-h.eq,<-cP h.oJ a h.iR,<-cP h.oJ h.iL h.iA,h.l2,dD h.iA]at this;rw[h.eq]at this;show this
 . intro l;let b:=Je h.iB h.iW l
   let f:aD A N w (vR (vR v R w) e w):=aD.trans (λk d=>by
    let:=nR h.iL h.iA k d;rw[<-h.eq,cP a h.iR h.iW,h.r1,u0 a];show this) b
   show f.eq λc g=>(uo h.iR h.iW h.r1 g).symm
def Ch.jE(h:Ch B N w w){u:Nat->Int}:aD B N w u↔∀q,q<w->g B q q∣u q:=by
 let i:=h.lo.rN
 let one:∀(z:Nat->Int) q,q<w->(S N λk=>z k*g B k q)=z q*g B q q:=λz q a=>by
  rw[aE (g:=λk=>z k*g B k k*dl k q) λk c=>?_]
  . show ik (f:=λk=>z k*g B k k) (by lia)
  . unfold dl;by_cases e:k=q
    . subst e;rw[VN rfl,Xs]
    . rw[VM e,h.dg k q c a e,V2,V2]
 constructor
 . rintro⟨z,b⟩ q a;rw[b q a,one z q a];show ZK _ _
 . intro d;show⟨λq=>u q/g B q q,λq a=>?_⟩;rw[one _ q a];show(Int.ediv_mul_cancel (d q a)).symm
def oP(a b:Int)(u v:Nat->Int):vR (λc=>a*u c+b*v c) R w j=a*vR u R w j+b*vR v R w j:=by
 unfold vR;rw[<-dJ,<-dJ,<-fW];show aE λk _=>by grind
def NV{n d u:Int}(h:d∣n*u):d∣n*(u%d):=by
 let e:n*(u%d)=n*u-d*(n*(u/d)):=by
  let:=Int.emod_add_mul_ediv u d;let a:u%d=u-d*(u/d):=by lia
  rw[a,aa8];grind
 rw[e];show Int.dvd_sub h (Int.dvd_mul_right _ _)
def Ks{A B L Lb R k:Rows}{N w x:Nat}(r:Sd A B L Lb R k N w x)(ch:Ch B N w w){ls:List Nat}(hl:ls.length=w){n:Nat}(Z:0<n)
 (rep:∀v:Nat->Int,∃y,y∈bx ls/\aD A N w λc=>v c-((y.getD c 0:Nat):Int))
 (K:∀y∈bx ls,∀b∈bx ls,aD A N w (λc=>((y.getD c 0:Nat):Int)-((b.getD c 0:Nat):Int))->y=b)
 {p:List Nat->Bool} (W:∀y∈bx ls,p y=true↔aD A N w λc=>(n:Int)*((y.getD c 0:Nat):Int)):
 ((bx ls).filter p).length=Ax n ((List.range w).map λq=>(g B q q).toNat):=by
 let h:∀q,q<w->0<g B q q:=λq a=>ch.lo.pos q a;let E:((List.range w).map λq=>(g B q q).toNat).length=w:=by simp
 let I:∀q,q<w->((List.range w).map λq=>(g B q q).toNat).getD q 0=(g B q q).toNat:=λq a=>by
  rw[aq (by simpa using a),Wz,Xk]
 let jE:∀v:Nat->Int,aD A N w v↔∀q,q<w->g B q q∣vR v R w q:=λv=>r.jE.trans ch.jE
 rw[<-DG Z (ds:=(List.range w).map λq=>(g B q q).toNat) λd hd=>by
  obtain⟨q,a,rfl⟩:=Wi.mp hd;let:=h q (WU.mp a);lia]
 generalize(List.range w).map (λq=>(g B q q).toNat)=ds at E I;show XR ?_ ?_
 . show IG (λy=>(List.range w).map λq=>(vR (λc=>((y.getD c 0:Nat):Int)) R w q%g B q q).toNat) ((rB ls).filter p) (λy m=>?_) λy m b u e=>?_
   . obtain⟨m,M⟩:=XC.mp m;let H:=(jE _).mp ((W y m).mp M)
     let at_:∀q,q<w->((List.range w).map λq=>(vR (λc=>((y.getD c 0:Nat):Int)) R w q%g B q q).toNat).getD q 0=(vR (λc=>((y.getD c 0:Nat):Int)) R w q%g B q q).toNat:=λq a=>by
      rw[aq (by simpa using a),Wz,Xk]
     let V:((List.range w).map λq=>(vR (λc=>((y.getD c 0:Nat):Int)) R w q%g B q q).toNat).length=ds.length:=by simp[E]
     show XC.mpr ⟨jT.mpr ⟨V,λq a=>?_⟩,(ym V).mpr λq a=>?_⟩
     . rw[E]at a;rw[at_ q a,I q a];let o:=h q a;let D:=Int.emod_lt_of_pos (vR (λc=>((y.getD c 0:Nat):Int)) R w q) o;lia
     . rw[E]at a;rw[at_ q a,I q a];let o:=h q a;let D:=ZY (vR (λc=>((y.getD c 0:Nat):Int)) R w q) (XY o);let J:=H q a
       let C:vR (λc=>(n:Int)*((y.getD c 0:Nat):Int)) R w q=(n:Int)*vR (λc=>((y.getD c 0:Nat):Int)) R w q:=by
        let:=oP (R:=R) (w:=w) (j:=q) (n:Int) 0 (λc=>((y.getD c 0:Nat):Int)) (λ_=>0);simpa using this
       rw[C]at J;let Q:=NV J;rw[<-Int.ofNat_dvd,YS,Xp D,Xp (by lia)];show Q
   . have t:=(XC.mp m).1;let s:=(XC.mp u).1;show K y t b s ((jE _).mpr λq a=>?_);let C:=XB (λl=>l.getD q 0) e;let at_:∀f:Nat->Nat,((List.range w).map f).getD q 0=f q:=λf=>by rw[aq (by simpa using a),Wz,Xk]
     let C:((List.range w).map λq=>(vR (λc=>((y.getD c 0:Nat):Int)) R w q%g B q q).toNat).getD q 0=((List.range w).map λq=>(vR (λc=>((b.getD c 0:Nat):Int)) R w q%g B q q).toNat).getD q 0:=C;rw[at_,at_]at C;let o:=h q a;let D:=ZY (vR (λc=>((y.getD c 0:Nat):Int)) R w q) (XY o);let J:=ZY (vR (λc=>((b.getD c 0:Nat):Int)) R w q) (XY o);let e2:vR (λc=>((y.getD c 0:Nat):Int)) R w q%g B q q=vR (λc=>((b.getD c 0:Nat):Int)) R w q%g B q q:=by lia
     let S:vR (λc=>((y.getD c 0:Nat):Int)-((b.getD c 0:Nat):Int)) R w q=vR (λc=>((y.getD c 0:Nat):Int)) R w q-vR (λc=>((b.getD c 0:Nat):Int)) R w q:=by
      let:=oP (R:=R) (w:=w) (j:=q) 1 (-1) (λc=>((y.getD c 0:Nat):Int)) (λc=>((b.getD c 0:Nat):Int));simp![WZ,Yp]at this;simpa[Yd]using this
     rw[S];show Int.dvd_of_emod_eq_zero (Zg.mp e2)
 . have i:∀y:List Nat,∃z,z∈bx ls/\aD A N w λc=>vR (λc=>((y.getD c 0:Nat):Int)) k w c-((z.getD c 0:Nat):Int):=λy=>rep _;show IG (λy=>Classical.choose (i y)) ((rB ds).filter (rR n ds)) (λy m=>?_) λy m b u e=>?_
   . obtain⟨m,M⟩:=XC.mp m;obtain⟨X,O⟩:=Xe (i y);let Y:=(jT.mp m).1;let H:=(ym Y).mp M;show XC.mpr ⟨X,(W _ X).mpr ?_⟩
     let a1:aD A N w λc=>(n:Int)*vR (λc=>((y.getD c 0:Nat):Int)) k w c:=(jE _).mpr λq a=>by
      let C:vR (λc=>(n:Int)*vR (λc=>((y.getD c 0:Nat):Int)) k w c) R w q=(n:Int)*vR (vR (λc=>((y.getD c 0:Nat):Int)) k w) R w q:=by
       let:=oP (R:=R) (w:=w) (j:=q) (n:Int) 0 (vR (λc=>((y.getD c 0:Nat):Int)) k w) (λ_=>0);simpa using this
      rw[C,uo r.iW r.iR r.r2 a];let o:=H q (by rw[E];show a);rw[I q a,<-Int.ofNat_dvd,YS,Xp (by let:=h q a;lia)]at o;show o
     show(a1.sub (O.smul (n:Int))).eq λc _=>by grind
   . have t:=(XC.mp m).1;let s:=(XC.mp u).1;obtain⟨_,O⟩:=Xe (i y);obtain⟨_,G⟩:=Xe (i b);rw[<-show Classical.choose (i y)=Classical.choose (i b)from e]at G;obtain⟨l1,U⟩:=jT.mp t;obtain⟨l2,T⟩:=jT.mp s;let H:aD A N w λc=>vR (λc=>((y.getD c 0:Nat):Int)) k w c-vR (λc=>((b.getD c 0:Nat):Int)) k w c:=(O.sub G).eq λc _=>by lia
     let o:=(jE _).mp H;apply Y8 (by lia);intro q a P;let F:q<w:=by lia
     let D:=o q F
     let S:vR (λc=>vR (λc=>((y.getD c 0:Nat):Int)) k w c-vR (λc=>((b.getD c 0:Nat):Int)) k w c) R w q=((y.getD q 0:Nat):Int)-((b.getD q 0:Nat):Int):=by
      let:=oP (R:=R) (w:=w) (j:=q) 1 (-1) (vR (λc=>((y.getD c 0:Nat):Int)) k w) (vR (λc=>((b.getD c 0:Nat):Int)) k w);rw[uo r.iW r.iR r.r2 F,uo r.iW r.iR r.r2 F]at this;simp![WZ,Yp]at this;simpa[Yd]using this
     rw[S]at D;let U:=U q (by lia);let T:=T q (by lia);rw[I q F]at U T;let J:=h q F;let Q:((y.getD q 0:Nat):Int)-((b.getD q 0:Nat):Int)=0:=Xd D (by lia);rw[aq a,aq P]at Q;lia
def ll.all{a:Nat->Nat}(s:bQ F n w a)(row:Nat->Int):∃L,ll F n w a row n L:=by
 let b:∀i,i<=n->∃L,ll F n w a row i L:=λi=>by
  induction i with
  |zero=>intro _;show⟨row,ll.start⟩
  |succ i c=>
   intro d;obtain⟨L,f⟩:=c (by lia);show⟨_,f.step s (by lia)⟩
 show b n (VL _)
def cz(F:Rows)(w:Nat):List Nat:=(List.range w).map λq=>(g F q q).toNat
def iZ:(cz F w).length=w:=by unfold cz;simp
def pR(a:q<w):(cz F w).getD q 0=(g F q q).toNat:=by
 unfold cz;rw[aq (by simpa using a),Wz,Xk]
def JX(s:bQ F w w λi=>i)(v:Nat->Int):∃y,y∈bx (cz F w)/\aD F w w λc=>v c-((y.getD c 0:Nat):Int):=by
 obtain⟨L,f⟩:=ll.all s v;let at_:∀q,q<w->((List.range w).map λq=>(L q).toNat).getD q 0=(L q).toNat:=λq a=>by rw[aq (by simpa using a),Wz,Xk]
 show⟨(List.range w).map λq=>(L q).toNat,jT.mpr ⟨by rw[iZ];simp,λq a=>?_⟩,?_⟩
 . rw[iZ]at a;rw[at_ q a,pR a];let:=f.2 q a;lia
 . show f.1.eq λc b=>by
    rw[at_ c b];let:=f.2 c b;lia
def AX(s:bQ F w w λi=>i):∀y∈bx (cz F w),∀a∈bx (cz F w),aD F w w (λc=>((y.getD c 0:Nat):Int)-((a.getD c 0:Nat):Int))->y=a:=λy m a b h=>by
 obtain⟨l,g⟩:=jT.mp m;obtain⟨j,f⟩:=jT.mp b;rw[iZ]at l j g f
 let z:=s.Tx h λk e=>by
  let p:=g k e;let o:=f k e;rw[pR e]at p o;try dsimp only
  lia
 apply Y8 (by lia);intro q n d;let:=z q (by lia);try dsimp only at this
 rw[aq n,aq d]at this;lia
def Gi{A F B L l R k:Rows}{N w x n:Nat}(f:Sd A B L l R k N w x)(ch:Ch B N w w)(s:bQ F w w λi=>i)(same:cL A N F w w)(j:0<n){p:List Nat->Bool}(g:∀y∈bx (cz F w),p y=true↔aD F w w λc=>(n:Int)*((y.getD c 0:Nat):Int)):
 ((bx (cz F w)).filter p).length=Ax n (cz B w):=by
 let d:∀v,aD F w w v->aD A N w v:=λv h=>aD.trans same.of h;let of:∀v,aD A N w v->aD F w w v:=λv h=>aD.trans same.to h
 show Ks f ch iZ j (λv=>by
  obtain⟨y,a,h⟩:=JX s v;show⟨y,a,d _ h⟩) (λy a e b h=>AX s y a e b (of _ h)) λy a=>(g y a).trans ⟨d _,of _⟩
def Ub:∀t,t<9->Ey 26 t<=10300000/\Uy 26 t<=10300000/\Cx 26 t<=10300000:=by decide+kernel
structure Sf(A:Rows)(N w:Nat)(F:Rows)(m:Nat)(ld:Nat->Nat):Prop where
 isA:aO N w A
 vf:aO m w F
 st:bQ F m w ld
 rd:td F m ld
 sm:cL A N F m w
 bA:∀i j,i<N->j<w->(g A i j).natAbs<=2^26
 bF:∀i j,i<m->j<w->(g F i j).natAbs<=2^26
def Sf.two{f:Nat->Nat}(h:Sf A N w F m f)(E:N<=8)(D:w<=8):D6 A N w 10300000 (λ_ _=>True):=by
 let x:fY A N 0 (2^26):=oK h.isA h.bA;let one:∀t c,eH A N w t c->∃f,eV A N w c t w f (Ey 26 t) (Uy 26 t) (Cx 26 t):=λt c a=>a.str h.isA x (by lia) (VL _)
 let u:∀t c,eH A N w t c->∀i j,i<N->j<w->(g c.A i j).natAbs<=2^26:=λt c a i j l k=>by
  obtain⟨r,H⟩:=one t c a;let v:=H.D4;let e:=v.Jh h.vf h.st h.rd h.sm.to h.sm.of;let I:=H.tn.isA.len;by_cases z:i<t
  . have C:c.A.getD i []=F.getD i []:=by
     rw[<-e,VT,VT,List.getElem?_take,VN z]
    let y:i<m:=by
     rw[<-h.vf.len,<-e,W4];lia
    let:g c.A i j=g F i j:=by unfold g;rw[C]
    rw[this];show h.bF i j y k
  . rw[v.zs i j (by lia) l k];show V3 _
 let two:∀t c,eH A N w t c->∀b n,eH (bp c.A w) w N b n->∃f,eV (bp c.A w) w N n b N f (Ey 26 b) (Uy 26 b) (Cx 26 b):=λt c a b n d=>by
  obtain⟨f,H⟩:=one t c a;let s:=H.tn.isA;show d.str (cC s) (oK (cC s) λi j l k=>by rw[cB s k l];show u t c a j i k l) (by lia) (VL _)
 show⟨λi j l k=>mv (h.bA i j l k) (by decide),λt c a=>?_,λt c a i j l k=>mv (u t c a i j l k) (by decide),λt c a b n d=>?_,λt c a b n d=>?_⟩
 . obtain⟨f,H⟩:=one t c a;let:=H.le;obtain⟨q,p,o⟩:=Ub t (by lia);show H.Lx q p o
 . obtain⟨f,H⟩:=two t c a b n d;let:=H.le;obtain⟨q,p,o⟩:=Ub b (by lia);show H.Lx q p o
 . obtain⟨f,H⟩:=two t c a b n d;obtain⟨r,H1⟩:=one t c a;let G:=H1.le;obtain⟨_,L,B⟩:=IT H1 H (by lia) h.bA;show⟨t,by lia,L,Xj B (Int.ofNat_le.mpr ?_),trivial⟩;show VU (Wh (by decide) (show t<=8 by lia)) (show(8*2^26)^8<=2^343 by decide+kernel)
structure Rg(A G B L Lb R Rb:Rows)(N w x:Nat):Prop where
 sd:Sd A B L Lb R Rb N w x
 ch:Ch B N w w
 st:bQ G w w λi=>i
 same:cL A N G w w
def IZ(k:Sd A B L s R q N w x)(ch:Ch B N w r)(same:cL A N G w w)(st:bQ G w w λi=>i):r=w:=by
 let t:=ch.lo.rW;rcases WQ r w with h|h
 . have z:Pr w (nb B r)=0:=by
    let a:∀n,r<n->Pr n (nb B r)=0:=λn=>by
     induction n with
     |zero=>intro z;lia
     |succ n l=>
      intro u;change Pr n (nb B r)*nb B r n=0;by_cases e:r<n
      . rw[l e,XF]
      . unfold nb;rw[VM (by lia),V2]
    show a w h
   let m:Mn G w w w 0:=(Mn.same same).mp ((k.mn w 0).mpr ((ch.mn w 0).mpr (by rw[z];show XI _)));let p:=m (λi=>i) (λi=>i) (λ_ h=>h) (λ_ h=>h);let j:D w (λr c=>g G r c)=0:=Int.zero_dvd.mp p;let f:D w (λi c=>g G c i)=0:=by rw[<-Kr]at j;show j
   rw[wM λi c d o b=>(st.lead c o).2.2 i b]at f;show absurd f (XY (mZ λi d=>(st.lead i d).2.1))
 . lia
def Rg.jE(h:Rg A G B L b R a N w x)(v:Nat->Int):aD G w w v↔∀q,q<w->g B q q∣vR v R w q:=by
 let e:aD G w w v↔aD A N w v:=⟨λl=>aD.trans h.same.of l,λl=>aD.trans h.same.to l⟩
 show e.trans (h.sd.jE.trans h.ch.jE)
def QJ(a:Int)(u:Nat->Int):vR (λc=>a*u c) R w j=a*vR u R w j:=by
 let:=oP (R:=R) (w:=w) (j:=j) a 0 u (λ_=>0);simpa using this
def Rg.top(h:Rg A G B L b R a N w x)(d:1<=w)(y:Nat->Int):aD G w w λc=>g B (w-1) (w-1)*y c:=(h.jE _).mpr λq f=>by
 rw[QJ]
 let:g B q q∣g B (w-1) (w-1):=by
  by_cases e:q=w-1
  . rw[e];show XI _
  . show h.ch.ch q (w-1) (by lia) (by lia)
 show X9 this (Int.dvd_mul_right _ _)
def Rg.count{A G B L e R d:Rows}{N w x n:Nat}(h:Rg A G B L e R d N w x)(b:0<n){p:List Nat->Bool}(a:∀y∈bx (cz G w),p y=true↔aD G w w λc=>(n:Int)*((y.getD c 0:Nat):Int)):((bx (cz G w)).filter p).length=Ax n (cz B w):=Gi h.sd h.ch h.st h.same b a
end Mx
namespace Prog
open PySem L2 L3
open PySem.Spec hiding items?
open PyProof.Rows hiding St
def gY(b: -(2^64)<i)(a:i<2^64):IntMulOk i j:= .of_left (intBits_le_64 b a)
def hV(b: -(2^64)<j)(a:j<2^64):IntMulOk i j:= .of_right (intBits_le_64 b a)
def Any(st:ae)(d:D):Prop:=∃t,fL st d=some t
def isInt:D->Bool
 | .int _=>true
 |_=>false
def Jx{st:ae}{d:D}{t:String}(h:fL st d=some t):(t=="int")=isInt d:=by
 cases d<;>unfold fL at h<;>first|(cases h;done)|(cases h;rfl)|(simp only at h;split at h<;>first|(cases h;rfl)|cases h)
def Ja{st:ae}{d:D}{t:String}(h:fL st d=some t):(t=="list"||t=="tuple")=(items? st d).isSome:=by
 cases d<;>unfold fL at h<;>first|(cases h;done)|(cases h;rfl)|(simp only at h;split at h<;>first|(cases h;rename_i q;rw[aK q];rfl)|cases h)
abbrev ao(r:List Int):List D:=r.map D.int
abbrev aZ(r:List Int):D:= .tup (ao r)
abbrev a_(r:List Int):D:= .lst (ao r)
abbrev ay(A:List (List Int)):D:= .tup (A.map aZ)
def cw(st:ae):List D->List (List Int)->Prop
 | [],[]=>True
 |d::ds,r::rs=>items? st d=some (ao r)/\cw st ds rs
 |_,_=>False
structure eE(st:ae)(d:D)(A:List (List Int)):Prop where
 ex:∃ds,items? st d=some ds/\cw st ds A
def cw.len{st:ae}:∀ {ds:List D} {A:List (List Int)},cw st ds A->ds.length=A.length
 | [],[],_=>rfl
 |_::_,_::_,h=>by simp[cw.len h.2]
def cw.tup{st:ae}:∀ {A:List (List Int)},cw st (A.map aZ) A
 | []=>trivial
 |_::_=>⟨rfl,cw.tup⟩
def cw.lst{st:ae}:∀ {A:List (List Int)},cw st (A.map a_) A
 | []=>trivial
 |_::_=>⟨rfl,cw.lst⟩
def cw.get{st:ae}:∀ {ds:List D} {A:List (List Int)} {i:Nat} {d:D},cw st ds A->ds[i]?=some d->∃r,A[i]?=some r/\items? st d=some (ao r)
 |_::_,r::_,0,_,h,e=>by simp at e;subst e;show⟨r,rfl,h.1⟩
 |_::_,_::_,i+1,d,h,e=>by
  obtain⟨r,b,a⟩:=cw.get (i:=i) (d:=d) h.2 (by simpa using e);show⟨r,by simpa using b,a⟩
def cq{st:ae}{A:List (List Int)}:eE st (ay A) A:=⟨_,rfl,cw.tup⟩
structure Ext(st st':ae):Prop where
 len:st.length<=st'.length
 same:∀m,m<st.length->st'[m]?=st[m]?
def Ext.trans{st d c:ae}(a:Ext st d)(b:Ext d c):Ext st c:=⟨VU a.len b.len,λm h=>(b.same m (V9 h a.len)).trans (a.same m h)⟩
def Ext.push{st:ae}{c:List Cell}:Ext st (st++c):=⟨by simp,λm h=>VR h⟩
def Ext.set{st:ae}{b:ae}(a:Ext b st)(h:b.length<=n):Ext b (st.set n c):=⟨by rw[V0];show a.len,λm d=>by rw[VP (by lia)];show a.same m d⟩
def Ext.items{st a:ae}{d:D}{xs:List D}(x:Ext st a)(e:items? st d=some xs):items? a d=some xs:=by
 cases d with
 |ref n=>
  unfold items? at e⊢;simp only at e⊢;cases q:st[n]? with
  |none=>rw[q]at e;cases e
  |some c=>
   have b:=(VI.mp q).1;rw[x.same n b];show e
 |_=>show e
def fB{r:List Int}{k:Nat}(h:k<r.length):dN (ao r) (k:Int)=some (.int (r.getD k 0)):=by
 show fP ?_;rw[V5,VV h,Mx.aq h];rfl
def getD_mem{r:List Int}{k:Nat}(h:k<r.length):r.getD k 0∈r:=by rw[Mx.aq h];show WX _
def cw.at{st:ae}{ds:List D}{A:List (List Int)}{k:Nat}(h:cw st ds A)(a:k<A.length):∃d,dN ds (k:Int)=some d/\items? st d=some (ao (A.getD k [])):=by
 let f:=h.len;let e:ds[k]?=some ds[k]:=VV (by lia);obtain⟨r,b,c⟩:=h.get e;show⟨ds[k],fP e,?_⟩;rw[Mx.aq a];rw[VV a]at b;cases b;show c
def ints_app:ao r++[D.int x]=ao (r++[x]):=by simp[ao]
def JR{A:List (List Int)}:A.map aZ++[aZ r]=(A++[r]).map aZ:=by simp
def Cq(h:d∈iI (ao r) (ao s)):∃a b,a∈r/\b∈s/\d= .tup [.int a,.int b]:=by
 obtain⟨n,j,e⟩:=Wf.mp h;let k:(iI (ao r) (ao s))[n]?=some d:=by rw[VV j,e]
 obtain⟨x,y,f,c,rfl⟩:=vw k;rw[V5]at f c;cases i:r[n]? with
 |none=>rw[i]at f;cases f
 |some a=>
  cases g:s[n]? with
  |none=>rw[g]at c;cases c
  |some b=>
   rw[i]at f;rw[g]at c;cases f;cases c;show⟨a,b,Wn i,Wn g,rfl⟩
def qo(n:Nat):(List.replicate n [D.int 0]).flatten=ao (List.replicate n 0):=by
 induction n with
 |zero=>rfl
 |succ n a=>rw[W3,XN,a];rfl
def zB:∀r:List Int,(ao r).map (λx=>match x with| .int i=>i|_=>0)=r
 | []=>rfl
 |a::r=>by rw[ao,Wq,Wq,zB r]
def A7{d:D}{ds:List D}:dN (d::ds) 0=some d:=fP (j:=0) rfl
def intsOf(st:ae)(d:D):List Int:=match items? st d with
 |some a=>a.map λx=>match x with| .int i=>i|_=>0
 |none=>[]
def yL{st:ae}{d:D}{r:List Int}(h:items? st d=some (ao r)):intsOf st d=r:=by
 unfold intsOf;rw[h];show zB r
def HI:iI (x::xs) (y::ys)= .tup [x,y]::iI xs ys:=rfl
def y_(f:Nat->Int):∀n,((List.range n).map f).sum=Mx.S n f
 |0=>rfl
 |n+1=>by
  rw[Yj,W_,List.sum_append,y_ f n];simp[Mx.S]
def aC:Addr:=182
def aI:Addr:=266
abbrev cS(b:Bool):Cell:=Cell.tab 162 ⟨85,32,85,66⟩ "Bench.live_rows.<locals>.<lambda>" b
abbrev Ru:List (Addr×Pos×Str):=[(162,⟨85,32,85,66⟩,"Bench.live_rows.<locals>.<lambda>")]
def mD:bW:=λb a K=>∃d,b=[d]/\Any a d/\K (.bl (isInt d)) a
def u9:List Str:=["thing"]
def Dd:DS:=(bC (oX (bI qE (ab (aa 0) (ab (dC (.ty "int")) ai))) (Au (bH (bI qE (ab (aa 0) (ab (dC (.ty "bool")) ai)))))))
abbrev VE(S:bW)(n:Nat)(P:DS)(N:List Str):Prop:=∀ds st K,S ds st K->ds.length=n/\P {nx:=λ_ st'=>K .az st',rt:=K} (aN N ds) st
def CI:VE mD 1 Dd u9:=by
 rintro e c K ⟨d,rfl,⟨t,a⟩,k⟩;show⟨rfl,?_⟩;rw[<-Jx a]at k;let b:=qP a;show CG a (by decide) ?_;simp![nL,V8,Wc,Yb]at b;rcases b with rfl|rfl|rfl|rfl|rfl|rfl
 . show k
 . show fe (CG a (by decide) ?_);show k
 . show fe (CG a (by decide) ?_);show k
 . show k
 . show k
 . show k
def iE:bW:=λb a K=>∃d,b=[d]/\Any a d/\K (.bl (items? a d).isSome) a
def u6:List Str:=["thing"]
def C8:DS:=(bC (bI qE (ab (aa 0) (ab (pH (ab (dC (.ty "list")) (ab (dC (.ty "tuple")) ai))) ai))))
def CP:VE iE 1 C8 u6:=by
 rintro e c K ⟨d,rfl,⟨t,a⟩,k⟩;show⟨rfl,?_⟩;rw[<-Ja a]at k;let b:=qP a;show⟨V1 rfl,M7 a rfl (by decide) ?_⟩;simp![nL,V8,Wc,Yb]at b;rcases b with rfl|rfl|rfl|rfl|rfl|rfl<;>show k
def js:bW:=λc a K=>∃d m,c=[d,.int m]/\Any a d/\K (.bl (match items? a d with|some b=>decide ((b.length:Int)=m)|none=>false)) a
def qf:List Str:=["thing","many"]
def yE:DS:=(bC (oX (av iE (ab (aa 0) ai)) (ak ki (bI cT (ab (aa 0) ai)) (aa 1))))
def xN:VE js 2 yE qf:=by
 rintro f b K ⟨d,m,rfl,a,k⟩;show⟨rfl,?_⟩;cases e:items? b d with
 |none=>
  rw[e]at k;show⟨d,rfl,a,by rw[e];show k⟩
 |some c=>
  rw[e]at k;show⟨d,rfl,a,?_⟩;rw[e];show fe (cj e (AA ?_));show k
def nq:bW:=λb a K=>∃(r:List Int) (w:Nat),b=[aZ r,.int w]/\r.length=w/\w<=8/\K (.bl true) a
def rL:List Str:=["thing","many"]
def zT:DS:=(bC (oX (av js (ab (aa 0) (ab (aa 1) ai))) (bI vY (ab (di (dR (aa 0)) [none] (bz 0) cy (av mD (ab (aa 0) ai))) ai))))
def xZ:∀l:List D,jS (l.map λ_=>D.bl true)=some (l.map λ_=>true)
 | []=>rfl
 |_::l=>by simp[jS,xZ l]
def LJ(l:List D):(l.map λ_=>true).all id=true:=by simp
def yB:VE nq 2 zT rL:=by
 rintro j b K ⟨r,w,rfl,h,f,k⟩;show⟨rfl,aZ r,w,rfl,⟨_,rfl⟩,?_⟩
 let e:(match items? b (aZ r)with|some a=>decide ((a.length:Int)=(w:Int))|none=>false)=true:=by
  change decide (((ao r).length:Int)=(w:Int))=true;show WS (by rw[VH];lia)
 rw[e];show fe (gZ ⟨cv (by rw[VH];lia),comp_map (g:=λ_=> .bl true) trivial _ (λd c l q=>?_) ?_⟩)
 . obtain⟨i,_,rfl⟩:=Wi.mp c;show⟨_,rfl,_,rfl,⟨_,rfl⟩,q⟩
 . show CN (xZ (ao r)) ?_;rw[LJ];show k
def kj:bW:=λb a K=>∃(d:D) (A:List (List Int)),b=[d]/\eE a d A/\A.length<=1000/\K (ay A) a
def yN:List Str:=["rows"]
def Hu:DS:=(bC (bI dO (ab (di (dR (aa 0)) [none] (bz 0) cy (bI dO (ab (aa 0) ai))) ai)))
def jA{l:fI}{m:DE}{ok:ae->Prop}{j:bO}{st:ae}{K:List D->ae->Prop}{ds:List D}{A:List (List Int)}(f:List Int->D)(o:ok st)(t:cw st ds A)(s:∀d r,r∈A->items? st d=some (ao r)->∀p,p (f r) st->∃i,l d j=some i/\m i st p)(k:K (A.map f) st):cR l cy m ok j ds [] st K:=by
 show eK (λrest c b=>∃(e a:List (List Int)),st=b/\e++a=A/\cw st rest a/\c=e.map f) ?_ ?_ _ _ _ ⟨[],A,rfl,rfl,t,rfl⟩
 . rintro c b ⟨e,a,rfl,g,h,rfl⟩;match a,h with
   | [],_=>
     rw[XD]at g;subst g;show⟨o,k⟩
 . rintro d rest c b ⟨e,a,rfl,g,h,rfl⟩ next
   match a,h with
   |r::a,h=>
    obtain⟨i,u,q⟩:=s d r (by rw[<-g];simp) h.1 (λy n=>cR l cy m ok j rest (e.map f++[y]) n K) (next _ _ ⟨e++[r],a,rfl,by rw[<-g];simp,h.2,by simp⟩);show⟨o,i,u,q⟩
def Fg:VE kj 1 Hu yN:=by
 rintro j h K ⟨d,A,rfl,⟨l,f,a⟩,b,k⟩;show⟨rfl,?_⟩;show m7 f λok g=>⟨cv (by rw[a.len];show b),?_⟩
 show jA aZ g a (λe r i c m q=>⟨_,rfl,df c q⟩) ?_;show df rfl k
def jv:bW:=λc a K=>∃x y t r s,c=[x,.int t,y]/\items? a x=some (ao r)/\items? a y=some (ao s)/\r.length<=1000/\(∀b∈s,IntMulOk t b)/\K (a_ (Mx.de r t s)) a
def DP:List Str:=["row","times","other"]
def Nd:DS:=(bC (di (yG (ab (aa 0) (ab (aa 2) ai))) [none,none,some 1] (gQ 0 1) cy (ak f9 (aa 0) (ak dQ (aa 2) (aa 1)))))
def tO:∀(r s:List Int),(iI (ao r) (ao s)).map (λd=>match d with| .tup [.int a,.int b]=> .int (a+t*b)|_=> .az)=ao (Mx.de r t s)
 | [],_=>rfl
 |_::_,[]=>rfl
 |a::r,b::s=>by
  let:=tO (t:=t) r s;unfold iI Mx.de at this⊢;simp![ao,Wq,List.zip_cons_cons,List.zipWith_cons_cons]at this⊢;rw[this]
def J8:VE jv 3 Nd DP:=by
 rintro o f K ⟨x,y,t,r,s,rfl,e,c,m,h,k⟩;show⟨rfl,?_⟩;show wL e c λok l=>⟨cv (by rw[rm];simp;lia),?_⟩
 show comp_map (g:=λd=>match d with| .tup [.int a,.int b]=> .int (a+t*b)|_=> .az) (l f e c) _ (λd i p q=>?_) ?_
 . obtain⟨a,b,n,j,rfl⟩:=Cq i;show⟨_,rfl,eA (h b j) (gy q)⟩
 . rw[tO];show k
def vE:bW:=λd c K=>∃(x y:D) (n:Nat) (a:List Int) (A:List (List Int)),d=[x,y,.int n]/\items? c x=some (ao a)/\eE c y A/\(∀r∈A,r.length=n)/\n<=1000/\(∀w∈a,∀r∈A,∀b∈r,IntMulOk w b)/\K (aZ (Mx.gh a A (List.replicate n 0))) c
def CW:List Str:=["weights","rows","wide","total","weight","row"]
def K0:DS:=(au (aT 3 (ak dQ (qZ (ab (dC (.int 0)) ai)) (aa 2)))
 (au (ft (yG (ab (aa 0) (ab (aa 1) ai))) (gQ 4 5) (aT 3 (av jv (ab (aa 3) (ab (aa 4) (ab (aa 5) ai))))))
 (bC (bI dO (ab (aa 3) ai)))))
def IM:VE vE 3 K0 CW:=by
 rintro P E K ⟨x,y,n,o,A,rfl,z,⟨N,v,J⟩,H,O,L,k⟩;show⟨rfl,?_⟩;show O6 (V1 rfl) (EA ⟨by lia,by lia,cv (by simp;lia)⟩ ?_);rw[V7,qo];show wL z v λok G=>?_
 show dS (λrest σ u=>∃(s p:Option D) (a:List Int) (f:List D) (j:List (List Int)) (c:List Int),E=u/\rest=iI (ao a) f/\cw E f j/\σ=[some x,some y,some (.int n),some (a_ c),s,p]/\c.length=n/\(∀r∈j,r∈A)/\(∀w∈a,w∈o)/\Mx.gh a j c=Mx.gh o A (List.replicate n 0)) ?_ ?_ _ _ _
  ⟨none,none,o,N,A,List.replicate n 0,rfl,rfl,J,rfl,by simp,λ_ h=>h,λ_ h=>h,rfl⟩
 . rintro σ t ⟨s,p,a,f,j,c,rfl,i,g,rfl,F,_,_,m⟩;show⟨G _ z v,df rfl ?_⟩
   let:Mx.gh a j c=c:=by
    match a,f,j,g,i with
    | [],_,_,_,_=>unfold Mx.gh;rfl
    |_::_,[],[],_,_=>unfold Mx.gh;rfl
    |_::_,_::_,_::_,_,i=>cases i
   rw[this]at m;rw[m];show k
 . rintro d rest σ t ⟨s,p,a,f,j,c,rfl,i,g,rfl,F,C,l,m⟩ next
   match a,f,j,g,i with
   |w::a,e::f,r::j,g,i=>
    simp![ao,Wq,HI,XQ]at i;obtain⟨rfl,rfl⟩:=i;show⟨G _ z v,_,rfl,?_⟩;let I:=H r (C r V6);show⟨_,_,_,c,r,rfl,rfl,g.1,by lia,λb M=>L w (l w V6) r (C r V6) b M,?_⟩;show next _ _ ⟨_,_,a,f,j,Mx.de c w r,rfl,rfl,g.2,rfl,by rw[Mx.gH (by lia)];show F,λq B=>C q (VZ _ B),λq B=>l q (VZ _ B),?_⟩
    rw[<-m];rfl
   | [],_,_,_,i=>cases i
   |_::_,[],[],_,i=>cases i
def fA:bW:=λd a K=>∃(x y:D) (n:Nat) (A B:List (List Int)),d=[x,y]/\eE a x A/\eE a y B/\B≠ []/\(∀r∈B,r.length=n)/\n<=1000/\A.length<=1000/\(∀w∈A,∀c∈w,∀r∈B,∀b∈r,IntMulOk c b)/\K (ay (Mx.mulM A B n)) a
def yO:List Str:=["one","other","wide"]
def Gy:DS:=(au (aT 2 (bI cT (ab (ak bh (aa 1) (dC (.int 0))) ai)))
 (bC (bI dO (ab (di (dR (aa 0)) [none,some 1,some 2] (bz 0) cy (av vE (ab (aa 0) (ab (aa 1) (ab (aa 2) ai))))) ai))))
def Br{st:ae}{n:Nat}{B:List (List Int)}{f:D->D}:∀ {ds:List D} {A:List (List Int)},cw st ds A->(∀d r,items? st d=some (ao r)->f d=aZ (Mx.gh r B (List.replicate n 0)))->ds.map f=(Mx.mulM A B n).map aZ
 | [],[],_,_=>rfl
 |d::ds,r::A,h,a=>by
  rw[Wq,a d r h.1,Br h.2 a];rfl
def F1:VE fA 2 Gy yO:=by
 rintro J s K ⟨x,y,n,A,B,rfl,⟨H,t,j⟩,e,D,f,u,v,l,k⟩;show⟨rfl,?_⟩;obtain⟨p,m,a⟩:=e.ex;match B,p,a,D,f,l,e,k,m with
 |b::B,L::p,a,_,f,l,e,k,m=>
  have E:b.length=n:=f b V6;show aJ m A7 (cj a.1 ?_);rw[VH,E];show m7 t λok I=>⟨cv (by rw[j.len];show v),?_⟩
  show comp_map (g:=λd=>aZ (Mx.gh (intsOf s d) (b::B) (List.replicate n 0))) I H (λd z M q=>?_) ?_
  . obtain⟨i,w,G⟩:=Wf.mp z;obtain⟨r,F,o⟩:=j.get (i:=i) (d:=d) (by rw[VV w,G]);show⟨_,rfl,d,y,n,r,b::B,rfl,o,e,f,u,λc C=>l r (Wn F) c C,?_⟩;rw[yL o]at q;show q
  . show df rfl ?_;rw[Br j (n:=n) (B:=b::B) λd r h=>by rw[yL h]];show k
 |_::_,[],a,_,_,_,_,_,_=>show a.elim
def vG:bW:=λb a K=>∃(d:D) (A:List (List Int)) (j:Nat),b=[d,.int j]/\eE a d A/\(∀r∈A,j<r.length)/\A.length<=1000/\K (aZ (Mx.qm A j)) a
def Aw:List Str:=["rows","place"]
def Ko:DS:=(bC (bI dO (ab (di (dR (aa 0)) [none,some 1] (bz 0) cy (ak bh (aa 0) (aa 1))) ai)))
def HR{l:fI}{m:DE}{ok:ae->Prop}{j:bO}{st:ae}{K:List D->ae->Prop}{ds:List D}{A:List (List Int)}(f:List Int->D)(o:ok st)(t:cw st ds A)(s:∀d r,r∈A->items? st d=some (ao r)->∀p,p (f r) st->∃i,l d j=some i/\m i st p)(k:K (A.map f) st):cR l cy m ok j ds [] st K:=by
 show eK (λrest c b=>∃(e a:List (List Int)),st=b/\e++a=A/\cw st rest a/\c=e.map f) ?_ ?_ _ _ _ ⟨[],A,rfl,rfl,t,rfl⟩
 . rintro c b ⟨e,a,rfl,g,h,rfl⟩;match a,h with
   | [],_=>
     rw[XD]at g;subst g;show⟨o,k⟩
 . rintro d rest c b ⟨e,a,rfl,g,h,rfl⟩ next
   match a,h with
   |r::a,h=>
    obtain⟨i,u,q⟩:=s d r (by rw[<-g];simp) h.1 (λy n=>cR l cy m ok j rest (e.map f++[y]) n K) (next _ _ ⟨e++[r],a,rfl,by rw[<-g];simp,h.2,by simp⟩);show⟨o,i,u,q⟩
def Ig(A:List (List Int))(j:Nat):A.map (λr=>D.int (r.getD j 0))=ao (Mx.qm A j):=by unfold Mx.qm ao;rw[Wr];rfl
def Jd:VE vG 2 Ko Aw:=by
 rintro m l K ⟨d,A,j,rfl,⟨n,h,a⟩,f,c,k⟩;show⟨rfl,?_⟩;show m7 h λok i=>⟨cv (by rw[a.len];show c),?_⟩
 show HR (λr=> .int (r.getD j 0)) i a (λe r b g o q=>⟨_,rfl,aJ g (fB (f r b)) q⟩) ?_;rw[Ig];show df rfl k
def gd:bW:=λb a K=>∃(d:D) (A:List (List Int)) (n:Nat),b=[d,.int n]/\eE a d A/\(∀r∈A,r.length=n)/\A.length<=1000/\n<=1000/\K (ay (Mx.bp A n)) a
def rE:List Str:=["rows","wide"]
def Ab:DS:=(bC (bI dO (ab (di (eS (ab (aa 1) ai)) [none,some 0] (bz 0) cy (av vG (ab (aa 1) (ab (aa 0) ai)))) ai)))
def Lg(A:List (List Int))(n:Nat):(List.range n).map (λj=>aZ (Mx.qm A j))=(Mx.bp A n).map aZ:=by unfold Mx.bp;rw[Wr];rfl
def yq:VE gd 2 Ab rE:=by
 rintro l g K ⟨d,A,n,rfl,f,a,c,h,k⟩;show⟨rfl,?_⟩;show fO ⟨by lia,by lia⟩ ⟨cv (by rw[fM];lia),?_⟩;rw[V7];show rp (λj=>aZ (Mx.qm A j)) n (λi e m q=>⟨_,rfl,d,A,i,rfl,f,λr b=>by rw[a r b];show e,c,q⟩) ?_;rw[Lg];show df rfl k
def qI:bW:=λb a K=>∃(n i:Nat),b=[.int n,.int i]/\n<=1000/\K (aZ (Mx.jz n i)) a
def xk:List Str:=["n","place"]
def F9:DS:=(bC (bI dO (ab (di (eS (ab (aa 0) ai)) [none,some 1] (bz 0) cy (L5 (bH (ak ki (aa 0) (aa 1))) (dC (.int 1)) (dC (.int 0)))) ai)))
def C7:VE qI 2 F9 xk:=by
 rintro d a K ⟨n,i,rfl,b,k⟩;show⟨rfl,?_⟩;show fO ⟨by lia,by lia⟩ ⟨cv (by rw[fM];lia),?_⟩;rw[V7];show rp (λj=> .int (Mx.dl j i)) n (λj c e q=>⟨_,rfl,?_⟩) ?_
 . show eq2 (λh=>fe ?_) λh=>?_
   . have:j=i:=by lia
     subst this;rw[Mx.bT]at q;show q
   . rw[Mx.bN (by lia)]at q;show q
 . have:(List.range n).map (λj=>D.int (Mx.dl j i))=ao (Mx.jz n i):=by unfold Mx.jz ao;rw[Wr];rfl
   rw[this];show df rfl k
def eJ:bW:=λb a K=>∃(n:Nat),b=[.int n]/\n<=1000/\K (ay (Mx.units n)) a
def uX:List Str:=["n"]
def Dr:DS:=(bC (bI dO (ab (di (eS (ab (aa 0) ai)) [none,some 0] (bz 0) cy (av qI (ab (aa 1) (ab (aa 0) ai)))) ai)))
def B_:VE eJ 1 Dr uX:=by
 rintro d b K ⟨n,rfl,a,k⟩;show⟨rfl,?_⟩;show fO ⟨by lia,by lia⟩ ⟨cv (by rw[fM];lia),?_⟩;rw[V7];show rp (λi=>aZ (Mx.jz n i)) n (λi c e q=>⟨_,rfl,n,i,rfl,a,q⟩) ?_;let:(List.range n).map (λi=>aZ (Mx.jz n i))=(Mx.units n).map aZ:=by unfold Mx.units;rw[Wr];rfl
 rw[this];show df rfl k
def mS:bW:=λb a K=>∃(A:List (List Int)) (N w:Nat),b=[ay A,.int N,.int w]/\Mx.aO N w A/\N<=8/\w<=8/\K (.bl true) a
def yJ:List Str:=["thing","many","wide"]
def GK:DS:=(au (eG (gN (bH (av iE (ab (aa 0) ai)))) (bC (dC (.bl false))) du)
 (au (eG (Aq (bH (ak uF (aa 1) (dC .az))) (bH (ak mM (bI cT (ab (aa 0) ai)) (aa 1)))) (bC (dC (.bl false))) du)
 (bC (bI vY (ab (di (dR (aa 0)) [none,some 2] (bz 0) cy (av nq (ab (aa 0) (ab (aa 1) ai)))) ai)))))
def Fo:VE mS 3 GK yJ:=by
 rintro j h K ⟨A,N,w,rfl,a,i,b,k⟩;show⟨rfl,ay A,rfl,⟨_,rfl⟩,?_⟩;let c:=a.len;show Ir rfl (cj rfl (D0 (by rw[VH,c]) ?_));show gZ ⟨cv (by rw[VH];lia),comp_map (g:=λ_=> .bl true) trivial _ (λd f l q=>?_) ?_⟩
 . obtain⟨r,e,rfl⟩:=Wi.mp f;show⟨_,rfl,r,w,rfl,a.gw r e,b,q⟩
 . show CN (xZ (A.map aZ)) ?_;rw[LJ];show k
def Le(X:List (List Int))(N w b:Nat):Prop:=∀i j,i<N->j<w->(Mx.g X i j).natAbs<=2^b
def Lc{a:Int}(h:a.natAbs<2^m):Builtin.Int.intBits a<=m:=by
 unfold Builtin.Int.intBits;by_cases b:a.natAbs=0
 . have:a=0:=by lia
   subst this;simp
 . have:=(aaf b).mpr h;split<;>lia
def jx{a b:Int}(d:a.natAbs<=2^m)(c:b.natAbs<=2^n)(h:m+n<=130000000):IntMulOk a b:=by
 let q:∀ {x:Int} {k:Nat},x.natAbs<=2^k->Builtin.Int.intBits x<=k+1:=λ{x k} h=>Lc (YQ h (Nat.pow_lt_pow_right (by decide) (Wj k)));let g:=q d;let f:=q c;let e:(2:Nat)^27=134217728:=by decide
 let z:Builtin.Int.intTooBig (Builtin.Int.intBits a+Builtin.Int.intBits b)=false:=by
  unfold Builtin.Int.intTooBig bitsLine;show Wt (by lia)
 unfold IntMulOk;rw[z];simp
def oi{A:List (List Int)}{N w M:Nat}(d:Mx.aO N w A)(h:∀i j,i<N->j<w->(Mx.g A i j).natAbs<=M):∀r∈A,∀x∈r,x.natAbs<=M:=λr a x e=>by
 obtain⟨i,c,rfl⟩:=Wf.mp a;obtain⟨j,b,rfl⟩:=Wf.mp e;let:=h i j (by rw[<-d.len];show c) (by rw[<-d.gw _ a];show b);unfold Mx.g at this;rwa [Mx.aq c,Mx.aq b]at this
def Jo{A:List (List Int)}{N w M:Nat}(a:Mx.aO N w A)(h:∀r∈A,∀x∈r,x.natAbs<=M):∀i j,i<N->j<w->(Mx.g A i j).natAbs<=M:=λi j b e=>by
 let d:=a.len;let c:=a.row b;unfold Mx.g;show h _ (by rw[Mx.aq (by lia)];show WX _) _ (getD_mem (by lia))
def Ot:∀(n:Nat) (r:List Int),((ao r).all λd=>pl n d)=true:=λn r=>WR.mpr λd a=>by
 obtain⟨i,_,rfl⟩:=Wi.mp a;cases n<;>(unfold pl;rfl)
def xO:pl (n+1) (aZ r)=true:=by
 unfold pl;show Ot n r
def BP:pl (n+2) (ay A)=true:=by
 unfold pl;show WR.mpr λd a=>?_;obtain⟨r,_,rfl⟩:=Wi.mp a;show xO
def DW{d:D}{st:ae}{K:DK}(h:pl 40 d=true)(k:K (.bl true) st):ki d d st K:=L8 h h (by rw[qU 40 d h];show k)
def qW:bW:=λb a K=>∃(A B:List (List Int)) (n x:Nat),b=[ay A,ay B]/\Mx.aO n n A/\Mx.aO n n B/\1<=n/\n<=8/\Mx.mulM A B n=Mx.units n/\Le A n n x/\Le B n n x/\x+x<=120000000/\K (.bl true) a
def xp:List Str:=["turn","back","many"]
def F4:DS:=(au (eG (gN (bH (av iE (ab (aa 0) ai)))) (bC (dC (.bl false))) du)
 (au (aT 2 (bI cT (ab (aa 0) ai)))
 (au (eG (oC (gN (bH (av mS (ab (aa 0) (ab (aa 2) (ab (aa 2) ai)))))) (gN (bH (av mS (ab (aa 1) (ab (aa 2) (ab (aa 2) ai))))))) (bC (dC (.bl false))) du)
 (bC (FH (ak ki (aa 2) (dC (.int 0))) (ak ki (av fA (ab (aa 0) (ab (aa 1) ai))) (av eJ (ab (aa 2) ai))))))))
def Du:VE qW 2 F4 xp:=by
 rintro v q K ⟨A,B,n,x,rfl,f,d,t,a,e,i,h,u,k⟩;show⟨rfl,ay A,rfl,⟨_,rfl⟩,cj rfl ?_⟩;let j:=f.len;let g:=d.len;rw[VH,j];show⟨A,n,n,rfl,f,a,a,B,n,n,rfl,d,a,a,Ud (by lia) ?_⟩;show⟨_,_,n,A,B,rfl,cq,cq,λz=>by rw[z]at g;simp at g;lia,d.gw,by lia,by lia,λr m c o s l b p=>?_,?_⟩
 . show jx (oi f i r m c o) (oi d h s l b p) (by lia)
 show⟨n,rfl,by lia,?_⟩;rw[e];show DW BP k
def kP:bW:=λb a K=>∃(A B:List (List Int)) (n x:Nat),b=[ay A,ay B,.int n]/\Mx.aO n n A/\Mx.aO n n B/\1<=n/\n<=8/\Mx.mulM A B n=Mx.units n/\Le A n n x/\Le B n n x/\x+x<=120000000/\K (.bl true) a
def sx:List Str:=["turn","back","many"]
def Az:DS:=(bC (oX (av mS (ab (aa 0) (ab (aa 2) (ab (aa 2) ai)))) (av qW (ab (aa 0) (ab (aa 1) ai)))))
def zJ:VE kP 3 Az sx:=by
 rintro j i K ⟨A,B,n,x,rfl,c,h,f,a,b,e,d,g,k⟩;show⟨rfl,A,n,n,rfl,c,a,a,fe ⟨A,B,n,x,rfl,c,h,f,a,b,e,d,g,k⟩⟩
def jB:List Int->Nat->Option Nat
 | [],_=>none
 |x::xs,i=>if x=0 then jB xs (i+1)else some i
def tf(r:List Int):Option Nat:=jB r 0
def jt(r:List Int):D:=match tf r with
 |some k=> .int (k:Int)
 |none=> .az
def m6:bW:=λb a K=>∃(d:D) (r:List Int),b=[d]/\items? a d=some (ao r)/\K (jt r) a
def zG:List Str:=["row","place","number"]
def IS:DS:=(au (ft (o5 (ab (aa 0) ai)) (gQ 1 2) (eG (bH (ak mM (aa 2) (dC (.int 0)))) (bC (aa 1)) du))
 (bC (dC .az)))
def E3:VE m6 1 IS zG:=by
 rintro m l K ⟨d,r,rfl,g,k⟩;show⟨rfl,?_⟩;show nP g λok j=>?_;show dS (λrest σ b=>b=l/\∃(f e:Option D) (s:List Int) (i:Nat),σ=[some d,f,e]/\rest=dE i (ao s)/\jB r 0=jB s i) ?_ ?_ _ _ _ ⟨rfl,none,none,r,0,rfl,rfl,rfl⟩
 . rintro σ b ⟨rfl,f,e,s,i,rfl,a,c⟩;match s,a with
   | [],_=>
     show⟨j _ g,?_⟩;let:jt r= .az:=by unfold jt tf;rw[c];rfl
     rw[this]at k;show k
 . rintro x rest σ b ⟨rfl,f,e,s,i,rfl,a,c⟩ next
   match s,a,c with
   |y::s,a,c=>
    simp![ao,Wq,dE,XQ]at a;obtain⟨rfl,rfl⟩:=a;show⟨j _ g,_,rfl,?_⟩;show ne2 (λh=>fe ?_) λh=>?_
    . have:jt r= .int (i:Int):=by unfold jt tf;rw[c];unfold jB;rw[VM h]
      rw[this]at k;show k
    . show next _ _ ⟨rfl,_,_,s,i+1,rfl,rfl,?_⟩
      rw[c];unfold jB;rw[VN h];cases s<;>rfl
   | [],a,_=>cases a
def BN:∀(r:List Int) (i l:Nat),(∀c,c<l->r.getD c 0=0)->r.getD l 0≠0->jB r i=some (i+l)
 | [],_,_,_,h=>(h rfl).elim
 |x::r,i,0,_,h=>by
  unfold jB;rw[VM (show¬x=0 from h)];rfl
 |x::r,i,l+1,a,h=>by
  unfold jB;rw[VN (show x=0 from a 0 (Nat.zero_lt_succ _)),BN r (i+1) l (λc b=>a (c+1) (Nat.succ_lt_succ b)) h,Nat.add_right_comm];rfl
def wH:∀(r:List Int) (i:Nat),jB r i=none->∀c,r.getD c 0=0
 | [],_,_,_=>rfl
 |x::r,i,h,c=>by
  unfold jB at h;split at h
  . cases c with
    |zero=>assumption
    |succ c=>show wH r (i+1) h c
  . cases h
def xw:∀(r:List Int) (i l:Nat),jB r i=some l->∃k,l=i+k/\k<r.length/\r.getD k 0≠0
 | [],_,_,h=>by cases h
 |x::r,i,l,h=>by
  unfold jB at h;split at h
  . obtain⟨k,e,b,a⟩:=xw r (i+1) l h;show⟨k+1,by lia,Nat.succ_lt_succ b,a⟩
  . cases h;show⟨0,rfl,aaP _,by assumption⟩
def zm{r:List Int}(h:∀c,c<l->r.getD c 0=0)(h':r.getD l 0≠0):tf r=some l:=by
 let:=BN r 0 l h h';rw[XX]at this;show this
def i8:bW:=λb a K=>∃(t d:Int),b=[.int t,.int d]/\d≠0/\K (.int (Mx.qn t d)) a
def mJ:List Str:=["top","bottom"]
def ue:DS:=(bC (ak qd (ak f9 (ak dQ (dC (.int 2)) (aa 0)) (aa 1)) (ak dQ (dC (.int 2)) (aa 1))))
def rT:VE i8 2 ue mJ:=by
 rintro c a K ⟨t,d,rfl,b,k⟩;show⟨rfl,eA (gY (by decide) (by decide)) (gy (eA (gY (by decide) (by decide)) (By (by lia) k)))⟩
def jQ:bW:=λb a K=>∃(n k o:Nat) (A:List (List Int)),b=[.ref n,.int k,.int o]/\a[n]?=some (.lst (A.map a_))/\k<A.length/\o<A.length/\K (.ref a.length) (a++[.lst ((Mx.bE A k o).map a_)])
def uZ:List Str:=["rows","k","other","order"]
def Dn:DS:=(au (aT 3 (bI pW (ab (aa 0) ai)))
 (au (eQ (aa 3) (aa 1) (ak bh (aa 0) (aa 2)))
 (au (eQ (aa 3) (aa 2) (ak bh (aa 0) (aa 1)))
 (bC (aa 3)))))
def dU{A:List (List Int)}(h:j<A.length):dN (A.map a_) (j:Int)=some (a_ (A.getD j [])):=by
 show fP ?_;rw[V5,VV h,Mx.aq h];rfl
def mT{m k:Nat}(h:k<m):ox m (k:Int)=some k:=by
 let:=mY (i:=(k:Int)) (m:=m) (by lia) (by lia);rw[V7]at this;show this
def iz{A:List (List Int)}{k:Nat}:(A.map a_).set k (a_ r)=(A.set k r).map a_:=by rw[Z_]
def CS:VE jQ 3 Dn uZ:=by
 rintro p a K ⟨n,k,o,A,rfl,e,f,c,g⟩;show⟨rfl,?_⟩;let d:n<a.length:=(VI.mp e).1;show BU (aK e) ?_;let m:(a++[Cell.lst (A.map a_)])[n]?=some (.lst (A.map a_)):=by rw[VR d];show e
 let l:(a++[Cell.lst (A.map a_)])[a.length]?=some (.lst (A.map a_)):=by simp
 show aJ (aK m) (dU c) (fu l (by rw[VH];show mT f) ?_);rw[iz]
 let h:(a++[Cell.lst (A.map a_)]).set a.length (.lst ((A.set k (A.getD o [])).map a_))=a++[Cell.lst ((A.set k (A.getD o [])).map a_)]:=by
  rw[abk _ _ (VL _),W9];rfl
 rw[h];let j:(a++[Cell.lst ((A.set k (A.getD o [])).map a_)])[n]?=some (.lst (A.map a_)):=by rw[VR d];show e
 let i:(a++[Cell.lst ((A.set k (A.getD o [])).map a_)])[a.length]?=some (.lst ((A.set k (A.getD o [])).map a_)):=by simp
 show aJ (aK j) (dU f) (fu i (by rw[VH,V0];show mT c) ?_);rw[iz]
 let b:(a++[Cell.lst ((A.set k (A.getD o [])).map a_)]).set a.length (.lst (((A.set k (A.getD o [])).set o (A.getD k [])).map a_))=a++[Cell.lst ((Mx.bE A k o).map a_)]:=by
  rw[abk _ _ (VL _),W9];rfl
 rw[b];show g
def mW:bW:=λb a K=>∃(d:D) (r:List Int),b=[d]/\items? a d=some (ao r)/\r.length<=1000/\K (a_ (r.map λx=> -x)) a
def zg:List Str:=["row"]
def IJ:DS:=(bC (di (dR (aa 0)) [none] (bz 0) cy (o8 jN (aa 0))))
def FJ:VE mW 1 IJ zg:=by
 rintro j i K ⟨d,r,rfl,f,c,k⟩;show⟨rfl,?_⟩;show m7 f λok h=>⟨cv (by unfold ao;rw[VH];show c),?_⟩
 show comp_map (g:=λx=>match x with| .int a=> .int (-a)|_=> .az) h _ (λx b l q=>?_) ?_
 . unfold ao at b;obtain⟨a,_,rfl⟩:=Wi.mp b;show⟨_,rfl,i_ q⟩
 . have e:(ao r).map (λx=>match x with| .int a=> .int (-a)|_=> .az)=ao (r.map λx=> -x):=by unfold ao;rw[Wr,Wr];rfl
   rw[e];show k
structure Bn(st:ae)(b xb xu xc:Nat)(A U C:List (List Int)):Prop where
 eb:st[b]?=some (Cell.ins aC [("body",.ref xb),("turn",.ref xu),("back_columns",.ref xc)])
 e1:st[xb]?=some (Cell.lst (A.map a_))
 e2:st[xu]?=some (Cell.lst (U.map a_))
 e3:st[xc]?=some (Cell.lst (C.map a_))
 n1:xb≠xu
 n2:xb≠xc
 n3:xu≠xc
def kQ{st:ae}{b x:Nat}{C:Addr}{fs:List (Str×D)}{xs:List D}(a:st[b]?=some (Cell.ins C fs))(c:st[x]?=some (Cell.lst xs)):b≠x:=λz=>by rw[z,c]at a;cases a
def j6:bW:=λe c K=>∃(b N:Nat) (d:D) (A:List (List Int)),e=[.ref b,d]/\c[b]?=some (.ins aC [])/\eE c d A/\A.length=N/\N<=16/\∀a,Bn a b c.length (c.length+1) (c.length+2) A (Mx.units N) (Mx.units N)->a.length=c.length+3->(∀m,m<c.length->m≠b->a[m]?=c[m]?)->K .az a
def j4:List Str:=["self","rows"]
def vK:DS:=(au (ff aC "body" (aa 0) (i5 (dR (aa 1)) [none] (bz 0) cy (bI mj (ab (aa 0) ai))))
 (au (ff aC "turn" (aa 0) (i5 (dR (av eJ (ab (bI cT (ab (aa 1) ai)) ai))) [none] (bz 0) cy (bI mj (ab (aa 0) ai))))
 (ff aC "back_columns" (aa 0) (i5 (dR (av eJ (ab (bI cT (ab (aa 1) ai)) ai))) [none] (bz 0) cy (bI mj (ab (aa 0) ai))))))
def rq(f:Str)(v:D):∀fs:List (Str×D),(putD f v fs).length<=fs.length+1
 | []=>by simp[putD]
 |(g,x)::r=>by
  unfold putD;split
  . simp
  . have:=rq f v r;simp![Wl];lia
def BQ{st:ae}{A:List (List Int)}:cw st (A.map aZ) A:=cw.tup
def y0(n:Nat):(Mx.units n).length=n:=by unfold Mx.units;simp
def uN:VE j6 2 vK j4:=by
 rintro ds f K ⟨b,N,d,A,rfl,z,S,X,Y,k⟩;show⟨rfl,?_⟩;let R:b<f.length:=(VI.mp z).1;obtain⟨J,h,F⟩:=S.ex;let Q:=F.len;let lst:∀(e:D) (r:List Int),True:=λ_ _=>trivial;show m7 h λok W=>⟨cv (by lia),?_⟩
 show jA a_ W F (λe r H t M q=>⟨_,rfl,nU t q⟩) ?_;let y:(f++[Cell.lst (A.map a_)])[b]?=some (.ins aC []):=by rw[VR R];show z
 show lK y (by decide) ?_;generalize j:(f++[Cell.lst (A.map a_)]).set b (.ins aC (putD "body" (.ref f.length) []))=st1;let G:st1.length=f.length+1:=by rw[<-j];simp
 let I:∀m,m<f.length->m≠b->st1[m]?=f[m]?:=λm s g=>by rw[<-j,VP (VO g),VR s]
 let L:st1[b]?=some (.ins aC (putD "body" (.ref f.length) [])):=by rw[<-j,VX (by simp;lia)]
 let O:st1[f.length]?=some (.lst (A.map a_)):=by rw[<-j,VP (by lia)];simp
 clear j
 let v:∃u,items? st1 d=some u/\u.length=N:=by
  cases d with
  |ref n=>
   by_cases l:n=b
   . subst l;unfold items? at h;simp![z]at h;cases h
   . have w:n<f.length:=by
      unfold items? at h;simp only at h;cases q:f[n]? with
      |none=>rw[q]at h;cases h
      |some c=>show(VI.mp q).1
     show⟨J,?_,by lia⟩;unfold items? at h⊢;simp only at h⊢;rw[I n w l];show h
  |_=>show⟨J,h,by lia⟩
 obtain⟨B,a,o⟩:=v;show cj a ?_;rw[o];show⟨N,rfl,by lia,?_⟩;show gZ ⟨cv (by rw[VH,y0];lia),?_⟩;show jA a_ trivial BQ (λe r H t M q=>⟨_,rfl,nU t q⟩) ?_;let V:(st1++[Cell.lst ((Mx.units N).map a_)])[b]?=some (.ins aC (putD "body" (.ref f.length) [])):=by rw[VR (by lia)];show L
 show lK V (by let:=rq "body" (.ref f.length) [];simp![XS]at this;lia) ?_;generalize i:(st1++[Cell.lst ((Mx.units N).map a_)]).set b (.ins aC (putD "turn" (.ref st1.length) (putD "body" (.ref f.length) [])))=st2;let P:st2.length=f.length+2:=by rw[<-i];simp;lia
 let x:∀m,m<st1.length->m≠b->st2[m]?=st1[m]?:=λm s g=>by rw[<-i,VP (VO g),VR s]
 let C:st2[b]?=some (.ins aC (putD "turn" (.ref st1.length) (putD "body" (.ref f.length) []))):=by rw[<-i,VX (by simp;lia)]
 let E:st2[st1.length]?=some (.lst ((Mx.units N).map a_)):=by rw[<-i,VP (by lia)];simp
 clear i
 let p:items? st2 d=some B:=by
  cases d with
  |ref n=>
   by_cases l:n=b
   . subst l;unfold items? at a;simp![L]at a;cases a
   . have w:n<st1.length:=by
      unfold items? at a;simp only at a;cases q:st1[n]? with
      |none=>rw[q]at a;cases a
      |some c=>show(VI.mp q).1
     unfold items? at a⊢;simp only at a⊢;rw[x n w l];show a
  |_=>show a
 show cj p ?_;rw[o];show⟨N,rfl,by lia,?_⟩;show gZ ⟨cv (by rw[VH,y0];lia),?_⟩;show jA a_ trivial BQ (λe r H t M q=>⟨_,rfl,nU t q⟩) ?_;let U:(st2++[Cell.lst ((Mx.units N).map a_)])[b]?=some (.ins aC (putD "turn" (.ref st1.length) (putD "body" (.ref f.length) []))):=by rw[VR (by lia)];show C
 show lK U (by let T:=rq "body" (.ref f.length) [];let Z:=rq "turn" (.ref st1.length) (putD "body" (.ref f.length) []);simp![XS]at T;lia) ?_;show k _ ⟨?_,?_,?_,?_,by lia,by lia,by lia⟩ (by simp;lia) λm s g=>?_
 . rw[VX (by simp;lia),G,P];rfl
 . rw[VP (by lia),VR (by lia),x _ (by lia) (by lia)];show O
 . rw[VP (by lia),VR (by lia)];rw[G]at E;show E
 . rw[VP (by lia)];rw[show f.length+2=st2.length by lia];simp
 . rw[VP (VO g),VR (by lia),x m (by lia) g,I m s g]
def kF:bW:=λg f K=>∃(b e c d N w k j:Nat) (A U C:List (List Int)) (q:Int),g=[.ref b,.int k,.int q,.int j]/\Bn f b e c d A U C/\Mx.aO N w A/\Mx.aO N N U/\Mx.aO N N C/\k<N/\j<N/\N<=16/\w<=16/\(∀x∈A.getD j [],IntMulOk (-q) x)/\(∀x∈U.getD j [],IntMulOk (-q) x)/\(∀x∈C.getD k [],IntMulOk q x)/\
 ∀a,Bn a b e c d (Mx.aY A k q j) (Mx.aY U k q j) (Mx.aY C j (-q) k)->a.length=f.length->(∀m,m≠e->m≠c->m≠d->a[m]?=f[m]?)->K .az a
def oO:List Str:=["self","k","times","other"]
def Cc:DS:=(au (eQ (bV aC "body" (aa 0)) (aa 1) (av jv (ab (ak bh (bV aC "body" (aa 0)) (aa 1)) (ab (o8 jN (aa 2)) (ab (ak bh (bV aC "body" (aa 0)) (aa 3)) ai)))))
 (au (eQ (bV aC "turn" (aa 0)) (aa 1) (av jv (ab (ak bh (bV aC "turn" (aa 0)) (aa 1)) (ab (o8 jN (aa 2)) (ab (ak bh (bV aC "turn" (aa 0)) (aa 3)) ai)))))
 (eQ (bV aC "back_columns" (aa 0)) (aa 3) (av jv (ab (ak bh (bV aC "back_columns" (aa 0)) (aa 3)) (ab (aa 2) (ab (ak bh (bV aC "back_columns" (aa 0)) (aa 1)) ai)))))))
def zS:VE kF 4 Cc oO:=by
 rintro ds h K ⟨b,g,f,y,N,w,k,j,A,U,C,q,rfl,B,F,D,E,n,z,hN,hw,O,L,M,W⟩;show⟨rfl,?_⟩;let V:=F.len;let S:=D.len;let T:=E.len;let Z:=Mx.cV F n;let rU:=Mx.cV D n;let Y:=Mx.cV E z;let x:=kQ B.eb B.e1;let v:=kQ B.eb B.e2;let u:=kQ B.eb B.e3;let r:=B.n1;let p:=B.n2;let o:=B.n3;show a6 B.eb rfl (aJ (aK B.e1) (dU (by lia)) (i_ (a6 B.eb rfl (aJ (aK B.e1) (dU (by lia)) ?_))));show⟨_,_,-q,A.getD k [],A.getD j [],rfl,rfl,rfl,by lia,O,?_⟩;show a6 B.eb rfl (fu B.e1 (by rw[VH,V];show mT n) ?_);rw[iz];let l:∀m,m≠g->(h.set g (.lst ((A.set k (Mx.de (A.getD k []) (-q) (A.getD j []))).map a_)))[m]?=h[m]?:=λm s=>VP (VO s);let H:(h.set g (.lst ((A.set k (Mx.de (A.getD k []) (-q) (A.getD j []))).map a_)))[g]?=some (.lst ((Mx.aY A k q j).map a_)):=VX (VI.mp B.e1).1;let J:(h.set g (.lst ((A.set k (Mx.de (A.getD k []) (-q) (A.getD j []))).map a_))).length=h.length:=V0;generalize h.set g (.lst ((A.set k (Mx.de (A.getD k []) (-q) (A.getD j []))).map a_))=st1 at l H J⊢;let c:=(l b x).trans B.eb;let e:=(l f (VO r)).trans B.e2;let t:=(l y (VO p)).trans B.e3;show a6 c rfl (aJ (aK e) (dU (by lia)) (i_ (a6 c rfl (aJ (aK e) (dU (by lia)) ?_))));show⟨_,_,-q,U.getD k [],U.getD j [],rfl,rfl,rfl,by lia,L,?_⟩;show a6 c rfl (fu e (by rw[VH,S];show mT n) ?_);rw[iz];let i:∀m,m≠f->(st1.set f (.lst ((U.set k (Mx.de (U.getD k []) (-q) (U.getD j []))).map a_)))[m]?=st1[m]?:=λm s=>VP (VO s);let G:(st1.set f (.lst ((U.set k (Mx.de (U.getD k []) (-q) (U.getD j []))).map a_)))[f]?=some (.lst ((Mx.aY U k q j).map a_)):=VX (VI.mp e).1;let I:(st1.set f (.lst ((U.set k (Mx.de (U.getD k []) (-q) (U.getD j []))).map a_))).length=st1.length:=V0;generalize st1.set f (.lst ((U.set k (Mx.de (U.getD k []) (-q) (U.getD j []))).map a_))=st2 at i G I⊢;let a:=(i b v).trans c;let d:=(i y (VO o)).trans t;show a6 a rfl (aJ (aK d) (dU (by lia)) (a6 a rfl (aJ (aK d) (dU (by lia)) ?_)));show⟨_,_,q,C.getD j [],C.getD k [],rfl,rfl,rfl,by lia,M,?_⟩;show a6 a rfl (fu d (by rw[VH,T];show mT z) ?_);rw[iz];let X:C.set j (Mx.de (C.getD j []) q (C.getD k []))=Mx.aY C j (-q) k:=by unfold Mx.aY;rw[Int.neg_neg]
 rw[X];show W _ ⟨?_,?_,?_,?_,r,p,o⟩ (by rw[V0];lia) λm R Q P=>?_
 . rw[VP (VO u)];show a
 . rw[VP (VO p),i _ r];show H
 . rw[VP (VO o)];show G
 . show VX (VI.mp d).1
 . rw[VP (VO P),i m Q,l m R]
def kc:bW:=λg c K=>∃(b f d e N w k o:Nat) (A U C:List (List Int)),g=[.ref b,.int k,.int o]/\Bn c b f d e A U C/\Mx.aO N w A/\Mx.aO N N U/\Mx.aO N N C/\k<N/\o<N/\
 ∀a,Bn a b c.length (c.length+1) (c.length+2) (Mx.bE A k o) (Mx.bE U k o) (Mx.bE C k o)->a.length=c.length+3->(∀m,m<c.length->m≠b->a[m]?=c[m]?)->K .az a
def kg:List Str:=["self","k","other"]
def vX:DS:=(au (ff aC "body" (aa 0) (av jQ (ab (bV aC "body" (aa 0)) (ab (aa 1) (ab (aa 2) ai)))))
 (au (ff aC "turn" (aa 0) (av jQ (ab (bV aC "turn" (aa 0)) (ab (aa 1) (ab (aa 2) ai)))))
 (ff aC "back_columns" (aa 0) (av jQ (ab (bV aC "back_columns" (aa 0)) (ab (aa 1) (ab (aa 2) ai)))))))
def uM:VE kc 3 vX kg:=by
 rintro S a K ⟨b,n,h,c,N,w,k,o,A,U,C,rfl,B,J,H,I,R,Q,z⟩;show⟨rfl,?_⟩;let P:=J.len;let M:=H.len;let O:=I.len;let L:=kQ B.eb B.e1;let r:=kQ B.eb B.e2;let l:=kQ B.eb B.e3;let G:b<a.length:=(VI.mp B.eb).1;let E:h<a.length:=(VI.mp B.e2).1;let F:c<a.length:=(VI.mp B.e3).1;show a6 B.eb rfl ?_;show⟨n,k,o,A,rfl,B.e1,by lia,by lia,?_⟩;let e:(a++[Cell.lst ((Mx.bE A k o).map a_)])[b]?=some (.ins aC [("body",.ref n),("turn",.ref h),("back_columns",.ref c)]):=by rw[VR G];show B.eb
 show lK e (by simp) ?_;let i:putD "body" (.ref a.length) [("body",.ref n),("turn",.ref h),("back_columns",.ref c)]=([("body",.ref a.length),("turn",.ref h),("back_columns",.ref c)]:List (Str×D)):=rfl;rw[i];generalize g:(a++[Cell.lst ((Mx.bE A k o).map a_)]).set b (.ins aC [("body",.ref a.length),("turn",.ref h),("back_columns",.ref c)])=st1;let t:st1.length=a.length+1:=by rw[<-g];simp
 let q:∀m,m<a.length->m≠b->st1[m]?=a[m]?:=λm j d=>by rw[<-g,VP (VO d),VR j]
 let v:st1[b]?=some (.ins aC [("body",.ref a.length),("turn",.ref h),("back_columns",.ref c)]):=by rw[<-g,VX (by simp;lia)]
 let x:st1[a.length]?=some (.lst ((Mx.bE A k o).map a_)):=by rw[<-g,VP (by lia)];simp
 clear g e;show a6 v rfl ?_;show⟨h,k,o,U,rfl,(q h E (VO r)).trans B.e2,by lia,by lia,?_⟩;let e:(st1++[Cell.lst ((Mx.bE U k o).map a_)])[b]?=some (.ins aC [("body",.ref a.length),("turn",.ref h),("back_columns",.ref c)]):=by rw[VR (by lia)];show v
 show lK e (by simp) ?_;let i:putD "turn" (.ref st1.length) [("body",.ref a.length),("turn",.ref h),("back_columns",.ref c)]=([("body",.ref a.length),("turn",.ref st1.length),("back_columns",.ref c)]:List (Str×D)):=rfl;rw[i];generalize f:(st1++[Cell.lst ((Mx.bE U k o).map a_)]).set b (.ins aC [("body",.ref a.length),("turn",.ref st1.length),("back_columns",.ref c)])=st2;let y:st2.length=a.length+2:=by rw[<-f];simp;lia
 let p:∀m,m<st1.length->m≠b->st2[m]?=st1[m]?:=λm j d=>by rw[<-f,VP (VO d),VR j]
 let u:st2[b]?=some (.ins aC [("body",.ref a.length),("turn",.ref st1.length),("back_columns",.ref c)]):=by rw[<-f,VX (by simp;lia)]
 let s:st2[st1.length]?=some (.lst ((Mx.bE U k o).map a_)):=by rw[<-f,VP (by lia)];simp
 clear f e;show a6 u rfl ?_;show⟨c,k,o,C,rfl,((p c (by lia) (VO l)).trans (q c F (VO l))).trans B.e3,by lia,by lia,?_⟩;let e:(st2++[Cell.lst ((Mx.bE C k o).map a_)])[b]?=some (.ins aC [("body",.ref a.length),("turn",.ref st1.length),("back_columns",.ref c)]):=by rw[VR (by lia)];show u
 show lK e (by simp) ?_;let i:putD "back_columns" (.ref st2.length) [("body",.ref a.length),("turn",.ref st1.length),("back_columns",.ref c)]=([("body",.ref a.length),("turn",.ref st1.length),("back_columns",.ref st2.length)]:List (Str×D)):=rfl;rw[i];show z _ ⟨?_,?_,?_,?_,by lia,by lia,by lia⟩ (by simp;lia) λm j d=>?_
 . rw[VX (by simp;lia),t,y]
 . rw[VP (by lia),VR (by lia),p _ (by lia) (by lia)];show x
 . rw[VP (by lia),VR (by lia)];rw[t]at s;show s
 . rw[VP (by lia)];rw[show a.length+2=st2.length by lia];simp
 . rw[VP (VO d),VR (by lia),p m (by lia) d,q m j d]
def iG:bW:=λg f K=>∃(b e c d N w k:Nat) (A U C:List (List Int)),g=[.ref b,.int k]/\Bn f b e c d A U C/\Mx.aO N w A/\Mx.aO N N U/\Mx.aO N N C/\k<N/\N<=16/\w<=16/\
 ∀a,Bn a b e c d (Mx.gB A k) (Mx.gB U k) (Mx.gB C k)->a.length=f.length->(∀m,m≠e->m≠c->m≠d->a[m]?=f[m]?)->K .az a
def iN:List Str:=["self","k"]
def r_:DS:=(au (eQ (bV aC "body" (aa 0)) (aa 1) (av mW (ab (ak bh (bV aC "body" (aa 0)) (aa 1)) ai)))
 (au (eQ (bV aC "turn" (aa 0)) (aa 1) (av mW (ab (ak bh (bV aC "turn" (aa 0)) (aa 1)) ai)))
 (eQ (bV aC "back_columns" (aa 0)) (aa 1) (av mW (ab (ak bh (bV aC "back_columns" (aa 0)) (aa 1)) ai)))))
def qR:VE iG 2 r_ iN:=by
 rintro W h K ⟨b,g,a,v,N,w,k,A,U,C,rfl,B,D,y,z,i,V,T,Q⟩;show⟨rfl,?_⟩;let P:=D.len;let M:=y.len;let O:=z.len;let S:=Mx.cV D i;let rU:=Mx.cV y i;let R:=Mx.cV z i;let u:=kQ B.eb B.e1;let t:=kQ B.eb B.e2;let s:=kQ B.eb B.e3;let p:=B.n1;let o:=B.n2;let n:=B.n3;show a6 B.eb rfl (aJ (aK B.e1) (dU (by lia)) ?_);show⟨_,A.getD k [],rfl,rfl,by lia,?_⟩;show a6 B.eb rfl (fu B.e1 (by rw[VH,P];show mT i) ?_);rw[iz];let l:∀m,m≠g->(h.set g (.lst ((A.set k ((A.getD k []).map λx=> -x)).map a_)))[m]?=h[m]?:=λm q=>VP (VO q);let F:(h.set g (.lst ((A.set k ((A.getD k []).map λx=> -x)).map a_)))[g]?=some (.lst ((Mx.gB A k).map a_)):=VX (VI.mp B.e1).1;let H:(h.set g (.lst ((A.set k ((A.getD k []).map λx=> -x)).map a_))).length=h.length:=V0;generalize h.set g (.lst ((A.set k ((A.getD k []).map λx=> -x)).map a_))=st1 at l F H⊢;let d:=(l b u).trans B.eb;let f:=(l a (VO p)).trans B.e2;let r:=(l v (VO o)).trans B.e3;show a6 d rfl (aJ (aK f) (dU (by lia)) ?_);show⟨_,U.getD k [],rfl,rfl,by lia,?_⟩;show a6 d rfl (fu f (by rw[VH,M];show mT i) ?_);rw[iz];let j:∀m,m≠a->(st1.set a (.lst ((U.set k ((U.getD k []).map λx=> -x)).map a_)))[m]?=st1[m]?:=λm q=>VP (VO q);let E:(st1.set a (.lst ((U.set k ((U.getD k []).map λx=> -x)).map a_)))[a]?=some (.lst ((Mx.gB U k).map a_)):=VX (VI.mp f).1;let G:(st1.set a (.lst ((U.set k ((U.getD k []).map λx=> -x)).map a_))).length=st1.length:=V0;generalize st1.set a (.lst ((U.set k ((U.getD k []).map λx=> -x)).map a_))=st2 at j E G⊢;let c:=(j b t).trans d;let e:=(j v (VO n)).trans r;show a6 c rfl (aJ (aK e) (dU (by lia)) ?_);show⟨_,C.getD k [],rfl,rfl,by lia,?_⟩;show a6 c rfl (fu e (by rw[VH,O];show mT i) ?_);rw[iz];show Q _ ⟨?_,?_,?_,?_,p,o,n⟩ (by rw[V0];lia) λm L J I=>?_
 . rw[VP (VO s)];show c
 . rw[VP (VO o),j _ p];show F
 . rw[VP (VO n)];show E
 . show VX (VI.mp e).1
 . rw[VP (VO I),j m J,l m L]
def gO:bW:=λg a K=>∃(b e c d N w top p:Nat) (A U C:List (List Int)) (f:Bool),g=[.ref b,.int top,.int p]/\Bn a b e c d A U C/\Mx.aO N w A/\top<=N/\N<=16/\p<w/\w<=16/\a[0]?=some (cS f)/\
 ∀L,Mx.jF A N top p L->K (.lst (L.map λ(k:Nat)=> .int (k:Int))) (a.set 0 (cS true))
def jM:List Str:=["self","top","place","live"]
def uP:DS:=(au (aT 3 (di (lI (ab (aa 1) (ab (bI cT (ab (bV aC "body" (aa 0)) ai)) ai))) [none,some 0,some 2] (bz 0) (bH (ak mM (ak bh (ak bh (bV aC "body" (aa 1)) (aa 0)) (aa 2)) (dC (.int 0)))) (aa 0)))
 (bC (Cr 0 162 ⟨85,32,85,66⟩ "Bench.live_rows.<locals>.<lambda>" [none,some 0,some 2] (bI vp (ab (ak bh (ak bh (bV aC "body" (aa 1)) (aa 0)) (aa 2)) ai)) (aa 3))))
def xn{a b:Prop}(h:b):if false=true then a else b:=h
def OQ{st:ae}{b:Nat}{C:Addr}{fs:List (Str×D)}{f:Bool}(a:st[b]?=some (Cell.ins C fs))(c:st[0]?=some (cS f)):b≠0:=λz=>by rw[z,c]at a;cases a
def ui{st:ae}{b:Nat}{xs:List D}{f:Bool}(a:st[b]?=some (Cell.lst xs))(c:st[0]?=some (cS f)):b≠0:=λz=>by rw[z,c]at a;cases a
def Bn.keep{st a:ae}{b e c d:Nat}{A U C:List (List Int)}(B:Bn st b e c d A U C)(h:∀m,m=b\/m=e\/m=c\/m=d->a[m]?=st[m]?):Bn a b e c d A U C:=
 ⟨(h b (.inl rfl)).trans B.eb,(h e (.inr (.inl rfl))).trans B.e1,(h c (.inr (.inr (.inl rfl)))).trans B.e2,(h d (.inr (.inr (.inr rfl)))).trans B.e3,B.n1,B.n2,B.n3⟩
def Bn.tab{st:ae}{b e a d:Nat}(B:Bn st b e a d A U C)(h:st[0]?=some (cS f))(c:Cell):Bn (st.set 0 c) b e a d A U C:=
 B.keep λm g=>VP λz=>by
  subst z;rcases g with rfl|rfl|rfl|rfl
  . show OQ B.eb h rfl
  . show ui B.e1 h rfl
  . show ui B.e2 h rfl
  . show ui B.e3 h rfl
def oQ{r:List Int}{k:Nat}(h:k<r.length):dN (ao r) (k:Int)=some (.int (r.getD k 0)):=by
 show fP ?_;unfold ao;rw[V5,VV h,Mx.aq h];rfl
def fK(A:List (List Int))(N top p:Nat):List Nat:=(List.range (N-top)).filterMap λi=>if Mx.g A (top+i) p≠0 then some (top+i)else none
def yW{N top p k:Nat}:k∈fK A N top p↔top<=k/\k<N/\Mx.g A k p≠0:=by
 unfold fK;rw[Yq];constructor
 . rintro⟨i,a,e⟩;rw[WU]at a;split at e
   . rename_i h;cases e;show⟨by lia,by lia,h⟩
   . cases e
 . rintro⟨d,c,b⟩;show⟨k-top,WU.mpr (by lia),?_⟩;rw[show top+(k-top)=k by lia,VN b]
def pw_filterMap{f:Nat->Option Nat}(h:∀i j a b,i<j->f i=some a->f j=some b->a<b):∀ {l:List Nat},l.Pairwise (· < ·)->(l.filterMap f).Pairwise (· < ·)
 | [],_=>by simp
 |x::l,d=>by
  obtain⟨m,c⟩:=aan.mp d;rw[Zb];split
  . show pw_filterMap h c
  . rename_i a e;show aan.mpr ⟨λb k=>?_,pw_filterMap h c⟩;obtain⟨j,g,n⟩:=Yq.mp k;show h x j a b (m j g) e n
def pw_liveR{N top p:Nat}:(fK A N top p).Pairwise (· < ·):=by
 unfold fK;show pw_filterMap (λi j a b e d c=>?_) List.pairwise_lt_range;split at d
 . split at c
   . cases d;cases c;lia
   . cases c
 . cases d
def zL{f:Nat->Option Nat}(l:List Nat):(l.filterMap f).length<=l.length:=List.length_filterMap_le ..
def Np{N top p:Nat}{b:List (Int×Int)}(c:b.Perm (((fK A N top p).map λ(k:Nat)=>(((Mx.g A k p).natAbs:Nat):Int)).zip ((fK A N top p).map λ(k:Nat)=>(k:Int))))(hs:b.Pairwise slt):
 Mx.jF A N top p (b.map λq=>q.2.toNat)/\b.map (λq=>D.int q.2)=(b.map λq=>q.2.toNat).map λ(k:Nat)=>D.int (k:Int):=by
 let g:((fK A N top p).map λ(k:Nat)=>(((Mx.g A k p).natAbs:Nat):Int)).zip ((fK A N top p).map λ(k:Nat)=>(k:Int))=(fK A N top p).map λk=>((((Mx.g A k p).natAbs:Nat):Int),(k:Int)):=by
  show List.zip_map' ..
 rw[g]at c
 let d:∀q∈b,∃k,k∈fK A N top p/\q=((((Mx.g A k p).natAbs:Nat):Int),(k:Int)):=λq a=>by
  obtain⟨k,f,m⟩:=Wi.mp (c.mem_iff.mp a);show⟨k,f,m.symm⟩
 show⟨⟨λk=>?_,?_,?_⟩,?_⟩
 . rw[<-yW];constructor
   . intro h;obtain⟨q,a,e⟩:=Wi.mp h;obtain⟨j,f,rfl⟩:=d q a;simp![V7]at e;rw[<-e];show f
   . intro h;show Wi.mpr ⟨((((Mx.g A k p).natAbs:Nat):Int),(k:Int)),c.mem_iff.mpr (Wi.mpr ⟨k,h,rfl⟩),by simp⟩
 . rw[YB];show hs.imp_of_mem λ{x y} l i h=>?_;obtain⟨j,_,rfl⟩:=d x l;obtain⟨k,_,rfl⟩:=d y i;unfold slt at h;simp![V7];lia
 . have e:((fK A N top p).map λk=>((((Mx.g A k p).natAbs:Nat):Int),(k:Int))).map (λq=>q.2.toNat)=fK A N top p:=by
    rw[Wr];show(Wy λk _=>V7 k).trans (List.map_id _)
   let a:=c.map λq=>q.2.toNat;rw[e]at a;show a.nodup_iff.mpr (pw_liveR.imp λh=>Wb h)
 . rw[Wr];show Wy λq a=>?_;obtain⟨j,_,rfl⟩:=d q a;simp
def tT:VE gO 3 uP jM:=by
 rintro ds F K ⟨b,S,Q,R,N,w,top,p,A,U,C,f,rfl,B,u,Y,Z,t,X,v,k⟩;show⟨rfl,?_⟩;let G:=u.len;let a:∀i,i<N->(A.getD i []).length=w:=λi s=>Mx.cV u s;show a6 B.eb rfl (cj (aK B.e1) ?_);rw[VH,G];show uq ⟨by lia,by lia,by lia,by lia⟩ ⟨cv (by unfold cM;simp;lia),?_⟩;let O:((N:Int)-(top:Int)).toNat=N-top:=by lia
 rw[O];show eK (λrest g c=>∃i:Nat,i<=N-top/\c=F/\rest=(List.range (N-top-i)).map (λj=>D.int ((top+i+j:Nat):Int))/\g=((List.range i).filterMap λi=>if Mx.g A (top+i) p≠0 then some (top+i)else none).map λ(k:Nat)=>D.int (k:Int)) ?_ ?_ _ _ _ ⟨0,V3 _,rfl,by unfold cM;simp,by simp⟩
 . rintro g c ⟨i,s,rfl,e,rfl⟩
   let r:i=N-top:=by
    rcases WQ i (N-top)with z|z
    . rw[show N-top-i=(N-top-i-1)+1 by lia,Wm]at e;cases e
    . lia
   subst r;show⟨trivial,?_⟩;let P:((fK A N top p).map λ(k:Nat)=>D.int (k:Int))=((fK A N top p).map λ(k:Nat)=>(k:Int)).map D.int:=by rw[Wr];rfl
   show⟨(fK A N top p).map λ(k:Nat)=>(k:Int),(fK A N top p).map λ(k:Nat)=>(((Mx.g A k p).natAbs:Nat):Int),f,XB D.lst P,?_,?_,by rw[VH,VH],v,λi n q l m=>?_,λT o I=>?_⟩
   . rw[VH];let:=zL (f:=λi=>if Mx.g A (top+i) p≠0 then some (top+i)else none) (List.range (N-top));rw[aaA]at this;change(fK A N top p).length<64;unfold fK;lia
   . rw[YB];show pw_liveR.imp λh=>by lia
   . rw[V5]at l m;cases z:(fK A N top p)[i]? with
     |none=>rw[z]at l;cases l
     |some j=>
      rw[z]at l m;cases l;cases m;obtain⟨W,H,V⟩:=yW.mp (Wn z);let E:=B.tab v (cS true);show a6 E.eb rfl (aJ (aK E.e1) (dU (by lia)) (aJ rfl (oQ (by rw[a j H];show t)) (BC ⟨rfl,rfl⟩)))
   . obtain⟨M,L⟩:=Np o I;rw[L];show k _ M
 . rintro d rest g c ⟨i,s,rfl,e,rfl⟩ next
   let J:i<N-top:=by
    rcases WQ i (N-top)with z|z
    . show z
    . rw[show N-top-i=0 by lia]at e;cases e
   rw[show N-top-i=(N-top-i-1)+1 by lia,Wm,Wq,Wr]at e;obtain⟨rfl,rfl⟩:=Xg e;show⟨trivial,_,rfl,?_⟩;show a6 B.eb rfl (aJ (aK B.e1) (dU (j:=top+i+0) (by lia)) (aJ rfl (oQ (by rw[a _ (by lia)];show t)) ?_));let y:List.range (i+1)=List.range i++[i]:=Yj
   let x:((List.range (N-top-i-1)).map ((λj=>D.int ((top+i+j:Nat):Int))∘Nat.succ))=(List.range (N-top-(i+1))).map λj=>D.int ((top+(i+1)+j:Nat):Int):=by
    rw[show N-top-i-1=N-top-(i+1) by lia];show Wy λj _=>?_;change D.int ((top+i+(j+1):Nat):Int)=_;rw[show top+i+(j+1)=top+(i+1)+j by lia]
   show ne2 (λh=>?_) λh=>?_
   . show(next _ _ ⟨i+1,by lia,rfl,x,?_⟩);rw[y,abl,W_];let:Mx.g A (top+i) p≠0:=h;simp[this]
   . show(next _ _ ⟨i+1,by lia,rfl,x,?_⟩);rw[y,abl,W_];let:Mx.g A (top+i) p=0:=h;simp[this]
structure Bo(n0:Nat)(st st':ae)(b xb xu xc:Nat):Prop where
 lo:1<=n0/\n0<=b/\n0<=xb/\n0<=xu/\n0<=xc
 fr:∀m,m<n0->m≠0->st'[m]?=st[m]?
 tb:∃f,st'[0]?=some (cS f)
def l8:bW:=λm h K=>∃(l b k i j N w top p e u v z:Nat) (A0 A U C:List (List Int)) (ld:Nat->Nat),m=[.ref b,.int top,.int p]/\Bn h b k i j A U C/\Bo l h h b k i j/\Mx.eV A0 N w ⟨A,U,C⟩ top p ld e u v/\N<=16/\w<=16/\p<w/\z<=60000000/\(∀c,Mx.fj N top p ⟨A,U,C⟩ c->Mx.Sm c N (2^z))/\
 (∀a,Bn a b k i j A U C->Bo l h a b k i j->Mx.jF A N top p []->K (.bl false) a)/\
 ∀a g d f (c:Mx.B3) (r:Nat),Bn a b g d f (Mx.setB c p top r).A (Mx.setB c p top r).U (Mx.setB c p top r).C->Bo l h a b g d f->Mx.fj N top p ⟨A,U,C⟩ c->Mx.jF c.A N top p [r]->K (.bl true) a
def l7:List Str:=["self","top","place","live","great","small"]
def x_:DS:=(au (aT 3 (dZ aC "live_rows" gO (aa 0) (ab (aa 1) (ab (aa 2) ai))))
 (au (sV (bH (ak rP (bI cT (ab (aa 3) ai)) (dC (.int 1)))) (au (aT 4 (ak bh (aa 3) (o8 jN (dC (.int 1)))))
 (au (aT 5 (ak bh (aa 3) (o8 jN (dC (.int 2)))))
 (au (eN (dZ aC "take" kF (aa 0) (ab (aa 4) (ab (av i8 (ab (ak bh (ak bh (bV aC "body" (aa 0)) (aa 4)) (aa 2)) (ab (ak bh (ak bh (bV aC "body" (aa 0)) (aa 5)) (aa 2)) ai))) (ab (aa 5) ai)))))
 (aT 3 (dZ aC "live_rows" gO (aa 0) (ab (aa 1) (ab (aa 2) ai))))))))
 (au (eG (bH (ak ki (bI cT (ab (aa 3) ai)) (dC (.int 0)))) (bC (dC (.bl false))) du)
 (au (eN (dZ aC "exchange" kc (aa 0) (ab (aa 1) (ab (ak bh (aa 3) (dC (.int 0))) ai))))
 (au (eG (bH (ak tH (ak bh (ak bh (bV aC "body" (aa 0)) (aa 1)) (aa 2)) (dC (.int 0)))) (eN (dZ aC "change_sign" iG (aa 0) (ab (aa 1) ai))) du)
 (bC (dC (.bl true))))))))
def Bo.Pe{st a:ae}{b g c d:Nat}(h:Bo i st a b g c d):Bo i st (a.set 0 (cS true)) b g c d:=
 ⟨h.lo,λm k j=>by rw[VP (VO j)];show h.fr m k j,true,by
  obtain⟨f,e⟩:=h.tb;show VX (VI.mp e).1⟩
def Bo.low{j:Nat}{st c a:ae}{b i d g:Nat}(h:Bo j st c b i d g)(f:∀m,m≠i->m≠d->m≠g->a[m]?=c[m]?):Bo j st a b i d g:=by
 obtain⟨r,q,p,o,n⟩:=h.lo;show⟨h.lo,λm k l=>?_,?_⟩
 . rw[f m (by lia) (by lia) (by lia)];show h.fr m k l
 . obtain⟨z,e⟩:=h.tb;show⟨z,by rw[f 0 (by lia) (by lia) (by lia)];show e⟩
def Ba(h:1<=j)(a:j<=n):ox n (-(j:Int))=some (n-j):=by
 unfold ox;rw[VM (by lia),VN (by lia)];congr 1;lia
def RN{j k:Nat}:dN ((L++[j,k]).map λ(k:Nat)=>D.int (k:Int)) (-1)=some (.int (k:Int)):=by
 unfold dN;let:=Ba (n:=((L++[j,k]).map λ(k:Nat)=>D.int (k:Int)).length) (j:=1) (by decide) (by simp);rw[show(-((1:Nat):Int))= -1 from rfl]at this;rw[this];simp
def RI{j k:Nat}:dN ((L++[j,k]).map λ(k:Nat)=>D.int (k:Int)) (-2)=some (.int (j:Int)):=by
 unfold dN;let:=Ba (n:=((L++[j,k]).map λ(k:Nat)=>D.int (k:Int)).length) (j:=2) (by decide) (by simp);rw[show(-((2:Nat):Int))= -2 from rfl]at this;rw[this];simp
def Kc:∀ {L:List Nat},1<L.length->∃M j k,L=M++[j,k]:=λ{L} h=>by
 show⟨L.take (L.length-2),L[L.length-2]'(by lia),L[L.length-1]'(by lia),?_⟩;let b:L=L.take (L.length-2)++L.drop (L.length-2):=(ZN _ _).symm
 let a:L.drop (L.length-2)=[L[L.length-2]'(by lia),L[L.length-1]'(by lia)]:=by
  rw[Wa (by lia),Wa (by lia),WJ (by lia)];congr 2;congr 1;lia
 rw[<-a];show b
def xi:VE l8 3 x_ l7:=by
 rintro ds st K ⟨n0,b,t,o,s,N,w,top,p,e,u,v,z,A0,A,U,C,ld,rfl,B,O,S,hN,hw,V,a0,hz,kf,kt⟩;show⟨rfl,?_⟩;let ag:=S.le;obtain⟨f,h0⟩:=O.tb;show dX B.eb rfl ?_;show⟨b,t,o,s,N,w,top,p,A,U,C,f,rfl,B,S.tn.isA,ag,hN,V,hw,h0,λL a=>?_⟩;let B1:=B.tab h0 (cS true);let O1:=O.Pe;try dsimp only[ai]
 show nO (λσ g=>∃(L:List Nat) (H G:Option D) (c:Mx.B3) (J:Nat),σ=[some (.ref b),some (.int top),some (.int p),some (.lst (L.map λ(k:Nat)=> .int (k:Int))),H,G]/\L.length<=1/\Bn g b t o s c.A c.U c.C/\Bo n0 st g b t o s/\Mx.fj N top p ⟨A,U,C⟩ c/\Mx.Gb A0 N w top p (2^(4*e)) (N*2^(4*e)) J ⟨A,U,C⟩ c/\Mx.jF c.A N top p L) (λnx aH=>?_) ?_
 . show⟨λm σ g=>∃(L:List Nat) (H G:Option D) (c:Mx.B3) (J:Nat),σ=[some (.ref b),some (.int top),some (.int p),some (.lst (L.map λ(k:Nat)=> .int (k:Int))),H,G]/\Bn g b t o s c.A c.U c.C/\Bo n0 st g b t o s/\Mx.fj N top p ⟨A,U,C⟩ c/\Mx.Gb A0 N w top p (2^(4*e)) (N*2^(4*e)) J ⟨A,U,C⟩ c/\Mx.jF c.A N top p L/\m=Mx.mu c.A N p,⟨_,L,none,none,⟨A,U,C⟩,_,rfl,B1,O1,.refl _,Mx.Gb.start S,a,rfl⟩,?_⟩;rintro m σ d ⟨L,H,G,c,J,rfl,B,O,I,y,a,rfl⟩;show cj rfl ?_;rw[VH];show PD (λh=>fe ?_) λh=>xn (aH _ _ ⟨L,H,G,c,J,rfl,by lia,B,O,I,y,a⟩);obtain⟨M,j,k,rfl⟩:=Kc (L:=L) (by lia);show i_ (aJ rfl RN (i_ (aJ rfl RI ?_)));obtain⟨G2,Z,W,k1,P,j1,Q,a8,ah,_⟩:=y.step a;let T:=y.tn;let lA:=T.isA.len;let l:=hz c I;show dX B.eb rfl (a6 B.eb rfl (aJ (aK B.e1) (dU (by lia)) (aJ rfl (oQ (by rw[Mx.cV T.isA P];show V)) (a6 B.eb rfl (aJ (aK B.e1) (dU (by lia)) (aJ rfl (oQ (by rw[Mx.cV T.isA Q];show V)) ?_))))));show⟨_,_,rfl,ah,?_⟩;let hq:(Mx.qn (Mx.g c.A k p) (Mx.g c.A j p)).natAbs<=2^(z+1):=VU (Mx.SD ah) (Mx.Ds (l k p P).1 (l j p Q).1)
   let Y:∀ {x:Int},x.natAbs<=2^z->IntMulOk (Mx.qn (Mx.g c.A k p) (Mx.g c.A j p)) x/\IntMulOk (-(Mx.qn (Mx.g c.A k p) (Mx.g c.A j p))) x:=λ{x} h=>
    ⟨jx hq h (by lia),jx (by rw[YF];show hq) h (by lia)⟩
   let mg:∀ {X:List (List Int)} {i:Nat} {x:Int},x∈X.getD i []->∃q,x=Mx.g X i q:=λ{X i x} F=>by
    obtain⟨c,hc,rfl⟩:=Wf.mp F;show⟨c,by unfold Mx.g;rw[Mx.aq hc]⟩
   show⟨b,t,o,s,N,w,k,j,c.A,c.U,c.C,_,rfl,B,T.isA,T.fH,T.fZ,P,Q,hN,hw,λx F=>(by obtain⟨q,rfl⟩:=mg F;show(Y (l j q Q).1).2),λx F=>(by obtain⟨q,rfl⟩:=mg F;show(Y (l j q Q).2.1).2),λx F=>(by obtain⟨q,rfl⟩:=mg F;show(Y (l k q P).2.2).1),λE n l2 f2=>?_⟩;let O2:=O.low f2;obtain⟨f',ar⟩:=O2.tb;show dX n.eb rfl ?_;show⟨b,t,o,s,N,w,top,p,_,_,_,f',rfl,n,G2.tn.isA,ag,hN,V,hw,ar,λL2 aU=>?_⟩;show⟨_,?_,L2,_,_,Mx.qL c p k j,_,rfl,n.tab ar (cS true),O2.Pe,I.tail ⟨M,k,j,a,rfl⟩,G2,aU,rfl⟩;unfold Mx.mu;show Mx.Mp (k:=k) Z P λi hi=>?_;by_cases h:i=k
   . rw[h];show Xq Z
   . rw[W i h];show VL _
 . rintro σ d ⟨L,H,G,c,J,rfl,hl,B,O,I,y,a⟩;show cj rfl ?_;rw[VH];match L,hl,a with
   | [],_,a=>
     show eq2 (λh=>fe ?_) λh=>absurd rfl h
     let e0:c=⟨A,U,C⟩:=by
      rcases y.Sl with z|⟨j,h1,h2,h3⟩
      . show z
      . show absurd ((a.mem j).mpr ⟨h1,h2,h3⟩) (by simp)
     subst e0;show kf d B O a
   | [r],_,a=>
     show eq2 (λh=>absurd h (by simp)) λh=>xn ?_;obtain⟨s1,a4,R⟩:=y.set (y.low hN) a;let ht:top<N:=by lia
     let T:=y.tn;show dX B.eb rfl (aJ rfl (show dN ([r].map λ(k:Nat)=>D.int (k:Int)) 0=some (.int (r:Int))from rfl) ?_);show⟨b,t,o,s,N,w,top,r,c.A,c.U,c.C,rfl,B,T.isA,T.fH,T.fZ,ht,R,λE n l2 f2=>?_⟩;obtain⟨l1,aA,l3,l4,l5⟩:=O.lo
     let a3:n0<=d.length:=by
      let:=(VI.mp B.eb).1;lia
     let O2:Bo n0 st E b d.length (d.length+1) (d.length+2):=by
      show⟨⟨l1,aA,by lia,by lia,by lia⟩,λm Y h0=>?_,?_⟩
      . rw[f2 m (by lia) (by lia)];show O.fr m Y h0
      . obtain⟨z,e⟩:=O.tb;show⟨z,by rw[f2 0 (by lia) (by lia)];show e⟩
     let T1:=T.MH ht R;show a6 n.eb rfl (aJ (aK n.e1) (dU (by let:=T1.isA.len;lia)) (aJ rfl (oQ (by rw[Mx.cV T1.isA ht];show V)) ?_));show Mu (λh=>fe ?_) λh=>xn ?_
     . have es:Mx.setB c p top r=⟨Mx.gB (Mx.bE c.A top r) top,Mx.gB (Mx.bE c.U top r) top,Mx.gB (Mx.bE c.C top r) top⟩:=VN h;show dX n.eb rfl ?_;show⟨b,_,_,_,N,w,top,_,_,_,rfl,n,T1.isA,T1.fH,T1.fZ,ht,hN,hw,λaz B3 l3 f3=>?_⟩;show kt az _ _ _ c r (by rw[es];show B3) (O2.low f3) I a
     . have es:Mx.setB c p top r=⟨Mx.bE c.A top r,Mx.bE c.U top r,Mx.bE c.C top r⟩:=VM (λz=>by unfold Mx.g at z;lia);show kt E _ _ _ c r (by rw[es];show n) O2 I a
def iM:bW:=λh g K=>∃(b f c d N w top p e u v z:Nat) (A0 A U C:List (List Int)),h=[.ref b,.int top,.int p]/\Bn g b f c d A U C/\Mx.Tn A0 A U C N w/\N<=16/\w<=16/\p<w/\top<N/\0<Mx.g A top p/\(∀q,q<p->Mx.g A top q=0)/\
 (∀q,(Mx.g A top q).natAbs<=2^e/\(Mx.g U top q).natAbs<=2^e/\(Mx.g C top q).natAbs<=2^e)/\(∀i q,i<top->(Mx.g A i q).natAbs<=2^u/\(Mx.g U i q).natAbs<=2^u/\(Mx.g C i q).natAbs<=2^v)/\z<=60000000/\(∀k,k<=top->Mx.Sm (Mx.iH p top k ⟨A,U,C⟩) N (2^z))/\
 ∀a,Bn a b f c d (Mx.iH p top top ⟨A,U,C⟩).A (Mx.iH p top top ⟨A,U,C⟩).U (Mx.iH p top top ⟨A,U,C⟩).C->(∀m,m≠f->m≠c->m≠d->a[m]?=g[m]?)->K .az a
def iF:List Str:=["self","top","place","k"]
def r9:DS:=(ft (eS (ab (aa 1) ai)) (bz 3) (eN (dZ aC "take" kF (aa 0) (ab (aa 3) (ab (ak qd (ak bh (ak bh (bV aC "body" (aa 0)) (aa 3)) (aa 2)) (ak bh (ak bh (bV aC "body" (aa 0)) (aa 1)) (aa 2))) (ab (aa 1) ai))))))
def Fw{X:List (List Int)}(a:x∈X.getD i []):∃q,x=Mx.g X i q:=by
 obtain⟨c,b,rfl⟩:=Wf.mp a;show⟨c,by unfold Mx.g;rw[Mx.aq b]⟩
def qX:VE iM 3 r9 iF:=by
 rintro ds V K ⟨b,y,s,t,N,w,top,p,e,u,v,z,A0,A,U,C,rfl,B,T,hN,Z,H,o,n,Y,h,J,X,F,W⟩;show⟨rfl,?_⟩;show fO ⟨by lia,by lia⟩ ?_;rw[V7];show i4 top (λk σ a=>∃E:Option D,σ=[some (.ref b),some (.int top),some (.int p),E]/\Bn a b y s t (Mx.iH p top k ⟨A,U,C⟩).A (Mx.iH p top k ⟨A,U,C⟩).U (Mx.iH p top k ⟨A,U,C⟩).C/\(∀m,m≠y->m≠s->m≠t->a[m]?=V[m]?)/\Mx.mi A0 N w top p e u v ⟨A,U,C⟩ k (Mx.iH p top k ⟨A,U,C⟩)) ?_ ?_ ⟨none,rfl,B,λ_ _ _ _=>rfl,Mx.mi.start T λq=>(h q).2.2⟩
 . rintro σ a ⟨E,rfl,g,f,I⟩;show W a g f
 . rintro k σ a rest L ⟨E,rfl,g,f,I⟩ next
   show⟨_,rfl,?_⟩;let hs:=I.step L o H n Y (λq=>⟨(h q).1,(h q).2.1⟩) J;let d:=F k (Xq L);generalize hc:Mx.iH p top k ⟨A,U,C⟩=c at*;let lA:=I.tn.isA.len;let r:k<N:=by lia
   let Q:∀i q,k<=i->Mx.g c.A i q=Mx.g A i q:=λi q hi=>by unfold Mx.g;rw[(I.rA i hi).1]
   let G:((Mx.g c.A k p).fdiv (Mx.g c.A top p)).natAbs<=2^z:=VU (Mx.vJ _ (by rw[Q top p (by lia)];show n)) (d k p r).1;let l:Mx.g c.A top p≠0:=by rw[Q top p (by lia)];lia
   show dX g.eb rfl (a6 g.eb rfl (aJ (aK g.e1) (dU (by lia)) (aJ rfl (oQ (by rw[Mx.cV I.tn.isA r];show H)) (a6 g.eb rfl (aJ (aK g.e1) (dU (by lia)) (aJ rfl (oQ (by rw[Mx.cV I.tn.isA o];show H)) (By l ?_)))))));show⟨b,y,s,t,N,w,k,top,c.A,c.U,c.C,_,rfl,g,I.tn.isA,I.tn.fH,I.tn.fZ,r,o,hN,Z,λx j=>?_,λx j=>?_,λx j=>?_,λS B2 l2 f2=>?_⟩
   . obtain⟨q,rfl⟩:=Fw j;show jx (by rw[YF];show G) (d top q o).1 (by lia)
   . obtain⟨q,rfl⟩:=Fw j;show jx (by rw[YF];show G) (d top q o).2.1 (by lia)
   . obtain⟨q,rfl⟩:=Fw j;show jx G (d k q r).2.2 (by lia)
   . have R:Mx.iH p top (k+1) ⟨A,U,C⟩=⟨Mx.aY c.A k ((Mx.g c.A k p).fdiv (Mx.g c.A top p)) top,Mx.aY c.U k ((Mx.g c.A k p).fdiv (Mx.g c.A top p)) top,Mx.aY c.C top (-((Mx.g c.A k p).fdiv (Mx.g c.A top p))) k⟩:=by rw[<-hc];rfl
     show next _ _ ⟨_,rfl,?_,λm P O M=>(f2 m P O M).trans (f m P O M),?_⟩
     . rw[R];show B2
     . rw[R];show hs
structure Bk(st st':ae):Prop where
 le:st.length<=st'.length
 fr:∀m,m<st.length->m≠0->st'[m]?=st[m]?
 tb:∃f,st'[0]?=some (cS f)
def kJ:bW:=λe b K=>∃(d:D) (N w e0 z:Nat) (A:List (List Int)) (f:Bool),e=[d]/\eE b d A/\Mx.aO N w A/\1<=N/\N<=16/\w<=16/\Mx.fY A N 0 (2^e0)/\z<=60000000/\(∀p t c,p<w->Mx.eH A N p t c->Mx.FE N p t z c)/\b[0]?=some (cS f)/\
 ∀a (top:Nat) (c:Mx.B3),Mx.eH A N w top c->Bk b a->K (.tup [ay (c.A.take top),ay c.U,ay (Mx.bp c.C N)]) a
def w_:List Str:=["rows","bench","top","place","back"]
def F0:DS:=(au (aT 1 (Al aC j6 (ab (aa 0) ai)))
 (au (aT 2 (dC (.int 0)))
 (au (ft (eS (ab (bI cT (ab (ak bh (aa 0) (dC (.int 0))) ai)) ai)) (bz 3) (eG (bH (dZ aC "gather" l8 (aa 1) (ab (aa 2) (ab (aa 3) ai)))) (au (eN (dZ aC "lower_above" iM (aa 1) (ab (aa 2) (ab (aa 3) ai))))
 (E1 2 (BJ (λi j=>i+j)) (dC (.int 1)))) du))
 (au (aT 4 (av gd (ab (bV aC "back_columns" (aa 1)) (ab (bI cT (ab (aa 0) ai)) ai))))
 (bC (pH (ab (av kj (ab (CO (bV aC "body" (aa 1)) xQ (Fq (aa 2))) ai)) (ab (av kj (ab (bV aC "turn" (aa 1)) ai)) (ab (aa 4) ai)))))))))
def pd{st a:ae}(c:st[0]?=some (cS f))(fr:∀m,m<st.length->m≠0->a[m]?=st[m]?)(h:items? st d=some xs):items? a d=some xs:=by
 cases d with
 |ref n=>
  have e:=tI h;let b:n≠0:=ui e c;rw[aK ((fr n (VI.mp e).1 b).trans e)]
 |_=>show h
def y8{st a:ae}(b:st[0]?=some (cS f))(fr:∀m,m<st.length->m≠0->a[m]?=st[m]?):∀ {ds:List D} {A:List (List Int)},cw st ds A->cw a ds A
 | [],[],_=>trivial
 |_::_,_::_,h=>⟨pd b fr h.1,y8 b fr h.2⟩
def xD{st a:ae}(b:st[0]?=some (cS f))(fr:∀m,m<st.length->m≠0->a[m]?=st[m]?)(h:eE st d A):eE a d A:=by
 obtain⟨g,e,c⟩:=h.ex;show⟨g,pd b fr e,y8 b fr c⟩
def P0{xs:List D}{j:Nat}:L3.cutD xs none (some (j:Int))=xs.take j:=by
 unfold L3.cutD;rw[HT.NZ,HT.J9,List.drop_zero,Nat.sub_zero];by_cases h:j<=xs.length
 . rw[Nat.min_eq_left h]
 . rw[Nat.min_eq_right (by lia),aaR,Xm (by lia)]
def DC:VE kJ 1 F0 w_:=by
 rintro ds a K ⟨d,N,w,e0,z,A,f,rfl,hd,hA,bg,G,hw,Q,H,ah,h0,kk⟩;show⟨rfl,?_⟩;let lA:=hA.len;let Z:0<a.length:=(VI.mp h0).1;let a0:eE (a++[Cell.ins aC []]) d A:=xD h0 (λm P _=>VR P) hd;show⟨a.length,N,d,A,rfl,by simp,a0,lA,G,λs B1 l1 f1=>⟨rfl,?_⟩⟩;let aA:(a++[Cell.ins aC []]).length=a.length+1:=by simp
 let ag:∀m,m<a.length->s[m]?=a[m]?:=λm P=>by rw[f1 m (by lia) (by lia),VR P]
 let O1:Bo a.length a s a.length (a.length+1) (a.length+1+1) (a.length+1+2):=⟨⟨Z,by lia,by lia,by lia,by lia⟩,λm P _=>ag m P,f,(ag 0 Z).trans h0⟩
 rw[aA]at B1;let U:∀ {b:ae},(∀m,m<a.length->m≠0->b[m]?=a[m]?)->eE b d A:=λh=>xD h0 h hd;obtain⟨da,aU,L⟩:=(U O1.fr).ex;let bb:=L.len
 let E:∃d0,da[0]?=some d0/\items? s d0=some (ao (A.getD 0 [])):=by
  let R:0<da.length:=by lia
  obtain⟨r,e1,e2⟩:=cw.get L (VV R);show⟨da[0],VV R,?_⟩;let:A.getD 0 []=r:=by rw[VT,e1];rfl
  rw[this];show e2
 obtain⟨d0,a4,aH⟩:=E;let er:(ao (A.getD 0 [])).length=w:=by unfold ao;rw[VH];show Mx.cV hA (by lia)
 try dsimp only[ai]
 show nO (A:=aT 2 _) (λσ b=>σ=[some d,some (.ref a.length),some (.int 0),none,none]/\b=s) (λnx h=>h _ _ ⟨rfl,rfl⟩) ?_;rintro _ _ ⟨rfl,rfl⟩;show nO (A:=ft _ _ _) (λσ b=>∃(top l e g:Nat) (y:Option D) (c:Mx.B3),σ=[some d,some (.ref a.length),some (.int top),y,none]/\Bn b a.length l e g c.A c.U c.C/\Bo a.length a b a.length l e g/\Mx.eH A N w top c) (λnx ar=>?_) ?_
 . show aJ aU (show dN da 0=some d0 from fP (j:=0) a4) (cj aH ?_);rw[er];show fO ⟨by lia,by lia⟩ ?_;rw[V7];show i4 w (λp σ b=>∃(top l e g:Nat) (y:Option D) (c:Mx.B3),σ=[some d,some (.ref a.length),some (.int top),y,none]/\Bn b a.length l e g c.A c.U c.C/\Bo a.length a b a.length l e g/\Mx.eH A N p top c) ?_ ?_ ⟨0,_,_,_,none,⟨A,Mx.units N,Mx.units N⟩,rfl,B1,O1,.start⟩
   . rintro σ b ⟨top,l,e,g,y,c,rfl,B,O,t⟩;show ar _ _ ⟨top,l,e,g,y,c,rfl,B,O,t⟩
   . rintro p σ b rest M ⟨top,l,e,g,y,c,rfl,B,O,t⟩ next
     show⟨_,rfl,?_⟩;obtain⟨ld,S⟩:=t.str hA Q G (Xq M);let az:=S.le;let n:=ah p top c M t;show dX B.eb rfl ?_;show⟨a.length,a.length,l,e,g,N,w,top,p,_,_,_,z,A,c.A,c.U,c.C,ld,rfl,B,⟨O.lo,λ_ _ _=>rfl,O.tb⟩,S,G,hw,M,H,n.ga,λo B2 F W=>?_,λo x u v c2 r B2 F hR W=>?_⟩
     . show xn (next _ _ ⟨top,l,e,g,_,c,rfl,B2,⟨F.lo,λm Y X=>(F.fr m Y X).trans (O.fr m Y X),F.tb⟩,.next t (.none W)⟩)
     . show fe ?_;obtain⟨C,I,_⟩:=S.J4 G M hR W;let O2':Bo a.length a o a.length x u v:=⟨F.lo,λm Y X=>(F.fr m Y X).trans (O.fr m Y X),F.tb⟩
       show dX B2.eb rfl ?_;show⟨a.length,x,u,v,N,w,top,p,4*Mx.Ey e0 top+4,Mx.Uy e0 top,Mx.Cx e0 top,z,A,_,_,_,rfl,B2,C.tn,G,hw,M,I,C.tp,λq hq=>C.zs top q (VL _) I hq,λq=>⟨C.lo.1 top q (VL _) I,C.lo.2.1 top q (VL _) I,C.lo.2.2 top q (VL _) I⟩,λi q R=>?_,H,λk hk=>n.lo c2 r k hR W hk,λa8 B3 f3=>?_⟩
       . obtain⟨a1,a2,a3⟩:=C.ML R q;rw[a1,a2,a3];show S.hi i q R
       . show next _ _ ⟨top+1,x,u,v,_,_,rfl,B3,O2'.low f3,.next t (.one hR W)⟩
 . rintro σ o ⟨top,l,e,g,y,c,rfl,B,O,t⟩;obtain⟨ld,S⟩:=t.str hA Q G (VL _);let az:=S.le;let T:=S.tn;let lN:=T.isA.len;show a6 B.eb rfl ?_;obtain⟨bj,V,J⟩:=(U O.fr).ex;show cj V ?_;rw[J.len,lA];show⟨_,c.C,N,rfl,⟨_,aK B.e3,cw.lst⟩,T.fZ.gw,by rw[T.fZ.len];lia,by lia,?_⟩;show a6 B.eb rfl (Iz B.e1 ?_);rw[P0,<-List.map_take];show⟨_,c.A.take top,rfl,⟨_,rfl,cw.lst⟩,by rw[W4];lia,?_⟩;show a6 B.eb rfl ?_;show⟨_,c.U,rfl,⟨_,aK B.e2,cw.lst⟩,by rw[T.fH.len];lia,?_⟩;show⟨by change 3<=sizeLine;decide,?_⟩;show kk o top c t ⟨?_,O.fr,O.tb⟩;let:=(VI.mp B.eb).1;lia
def PZ{m:Int}(a:0<m)(h:m<2^62):m.natAbs.log2<9000:=by
 let:m.natAbs.log2<62:=(aaf (by lia)).mpr (by lia);lia
def DY(F:List (List Int))(a:Nat->Nat):Nat->Int
 |0=>1
 |n+1=>DY F a n*Mx.g F n (a n)
def drop_cons{F:List (List Int)}{rest:List D}(a:d::rest=(F.map aZ).drop i):i<F.length/\d=aZ (F.getD i [])/\rest=(F.map aZ).drop (i+1):=by
 let b:i<F.length:=by
  rcases WQ i F.length with h|h
  . show h
  . rw[WJ (by rw[VH];show h)]at a;cases a
 rw[Wa (by rw[VH];show b),Wz]at a;obtain⟨e,c⟩:=Xg a;show⟨b,by rw[Mx.aq b];show e,c⟩
def drop_nil{F:List (List Int)}(a: []=(F.map aZ).drop i):F.length<=i:=by
 let:=XB List.length a;rw[Yn,VH,XS]at this;lia
def O_{i:Nat}{σ:bO}{st:ae}{K:DK}{d:D}(h:σ[i]?=some (some d))(k:K d st):aa i σ st K:=by
 unfold aa;simp![h];show k
structure Wd(F:List (List Int))(m w:Nat)(ld:Nat->Nat):Prop where
 is:Mx.aO m w F
 st:Mx.bQ F m w ld
 m8:m<=8
 w8:w<=8
 sm:∀r∈F,∀x∈r,0<=x/\x<=1000
def Wd.lead{F:List (List Int)}{a:Nat->Nat}(h:Wd F m w a)(d:i<m):a i<w/\0<Mx.g F i (a i)/\Mx.g F i (a i)<=1000/\(F.getD i []).length=w/\F.getD i []∈F/\jt (F.getD i [])= .int ((a i:Nat):Int):=by
 obtain⟨g,b,f⟩:=h.st.lead i d;let e:=h.is.row d;let j:=h.is.len;let c:F.getD i []∈F:=by rw[Mx.aq (by lia)];show WX _
 show⟨g,b,(h.sm _ c (Mx.g F i (a i)) (getD_mem (by lia))).2,e,c,?_⟩;unfold jt;rw[zm f (XY b)]
structure Vj(F:List (List Int))(m w:Nat)(ld:Nat->Nat)(r ws R:List Int)(e:Nat):Prop where
 lw:ws.length=m
 lR:R.length=w
 bw:∀x∈ws,x.natAbs<=2^(e+88)
 bR:∀x∈R,x.natAbs<=2^(e+88)
 VA:Mx.ll F m w ld (λc=>r.getD c 0) m (λc=>R.getD c 0)
def tj:bW:=λf c K=>∃(d:D) (F:List (List Int)) (r:List Int) (m w e:Nat) (ld:Nat->Nat),f=[ay F,d]/\Wd F m w ld/\items? c d=some (ao r)/\r.length=w/\(∀x∈r,x.natAbs<=2^e)/\∀a b R,Ext c a->Vj F m w ld r b R e->K (.tup [aZ b,aZ R]) a
def za:List Str:=["form","row","weights","left","each","lead","weight"]
def IP:DS:=(au (aT 2 (tP ai))
 (au (aT 3 (bI mj (ab (aa 1) ai)))
 (au (ft (dR (aa 0)) (bz 4) (au (aT 5 (av m6 (ab (aa 4) ai)))
 (au (aT 6 (ak mF (ak bh (aa 3) (aa 5)) (ak bh (aa 4) (aa 5))))
 (au (eN (ky (aa 2) (aa 6)))
 (aT 3 (av jv (ab (aa 3) (ab (o8 jN (aa 6)) (ab (aa 4) ai)))))))))
 (bC (pH (ab (bI dO (ab (aa 2) ai)) (ab (bI dO (ab (aa 3) ai)) ai)))))))
def EW:VE tj 2 IP za:=by
 rintro ds n K ⟨dr,F,r,m,w,e,g,rfl,p,W,T,br,k⟩;show⟨rfl,?_⟩;let P:=p.is.len;let m8:=p.m8;let w8:=p.w8;show⟨V1 rfl,?_⟩;let S:Ext n (n++[.lst []]):=Ext.push;let e0:(n++[Cell.lst []])[n.length]?=some (.lst (ao [])):=by simp
 show nU (S.items W) (gZ ?_);show dS (λrest σ d=>∃(i:Nat) (l L:List Int) (A y v:Option D),i<=m/\rest=(F.map aZ).drop i/\σ=[some (ay F),some dr,some (.ref n.length),some (a_ L),A,y,v]/\L.length=w/\l.length=i/\(∀x∈l,x.natAbs<=2^(e+88))/\(∀x∈L,x.natAbs<=2^(e+11*i))/\Mx.ll F m w g (λc=>r.getD c 0) i (λc=>L.getD c 0)/\Ext n d/\d[n.length]?=some (.lst (ao l))) ?_ ?_ _ _ _ ⟨0,[],r,none,none,none,V3 _,rfl,rfl,T,rfl,by simp,br,Mx.ll.start,S,e0⟩
 . rintro σ d ⟨i,l,L,A,y,v,R,a,rfl,C,B,J,u,f,X,t⟩;let e1:i=m:=XR R (by rw[<-P];show drop_nil a);subst e1;show⟨trivial,df (aK t) (df rfl ⟨V1 rfl,?_⟩)⟩;show k d l L X ⟨B,C,J,λx V=>VU (u x V) (Wh (by decide) (by lia)),f⟩
 . rintro x rest σ d ⟨i,l,L,A,y,v,R,a,rfl,C,B,J,u,f,X,t⟩ next
   obtain⟨H,rfl,rfl⟩:=drop_cons a;let o:i<m:=by rw[<-P];show H
   obtain⟨l1,Q,l3,wF,j,I⟩:=p.lead o;show⟨trivial,_,rfl,_,F.getD i [],rfl,rfl,?_⟩;rw[I];let O:dN (ao (F.getD i [])) ((g i:Nat):Int)=some (.int (Mx.g F i (g i))):=fB (by lia);let N:dN (ao L) ((g i:Nat):Int)=some (.int (L.getD (g i) 0)):=fB (by lia);show aJ rfl N (aJ rfl O (nS (by lia) (PZ Q (by lia)) ?_));let s:=f.step p.st o;let bx:(L.getD (g i) 0).natAbs<=2^(e+11*i):=u _ (getD_mem (by lia));let M:((L.getD (g i) 0).fdiv (Mx.g F i (g i))).natAbs<=2^(e+11*i):=VU (Mx.vJ _ Q) bx;generalize(L.getD (g i) 0).fdiv (Mx.g F i (g i))=q at s M⊢;show xt (by rfl) t (O_ rfl (ug t (by rw[XT,VH];lia) ?_));let G:=(VI.mp t).1;show i_ ?_;show⟨_,_,_,L,F.getD i [],rfl,rfl,rfl,by lia,λb hb=>by let:=p.sm _ j b hb;show hV (by lia) (by lia),?_⟩;let U:(Mx.de L (-q) (F.getD i [])).length=w:=by rw[Mx.gH (by lia)];show C
   show next _ _ ⟨i+1,l++[q],Mx.de L (-q) (F.getD i []),_,_,_,o,rfl,rfl,U,by simp[B],λz E=>?_,λz E=>?_,?_,X.set (VL _),by rw[VX G,ints_app]⟩
   . rcases WC.mp E with h|h
     . show J z h
     . have:z=q:=by simpa using h
       rw[this];show VU M (Wh (by decide) (by lia))
   . obtain⟨c,Z,rfl⟩:=Wf.mp E;let e2:(Mx.de L (-q) (F.getD i []))[c]=(Mx.de L (-q) (F.getD i [])).getD c 0:=(Mx.aq Z).symm;rw[e2,Mx.iy (by lia)];let Y:c<w:=by lia
     let b1:(L.getD c 0).natAbs<=2^(e+11*i):=u _ (getD_mem (by lia));let b2:=p.sm _ j ((F.getD i []).getD c 0) (getD_mem (by lia))
     let b3:(-q*(F.getD i []).getD c 0).natAbs<=2^(e+11*i)*1000:=by
      rw[WN,YF];show WO M (by lia)
     let b4:=YY (L.getD c 0) (-q*(F.getD i []).getD c 0);let b5:2^(e+11*(i+1))=2^(e+11*i)*2048:=by rw[show e+11*(i+1)=(e+11*i)+11 by lia,XZ]
     lia
   . have ee:(λc=>(Mx.de L (-q) (F.getD i [])).getD c 0)=λc=>L.getD c 0-q*Mx.g F i c:=by
      funext c;rw[Mx.iy (by lia),Yp];rfl
     rw[ee];show s
def yx:bW:=λf b K=>∃(d:D) (F:List (List Int)) (r:List Int) (m w e:Nat) (ld:Nat->Nat),f=[ay F,d]/\Wd F m w ld/\items? b d=some (ao r)/\r.length=w/\(∀x∈r,x.natAbs<=2^e)/\∀a R,Ext b a->R.length=w->(∀x∈R,x.natAbs<=2^(e+88))->Mx.ll F m w ld (λc=>r.getD c 0) m (λc=>R.getD c 0)->K (aZ R) a
def DV:List Str:=["form","row"]
def Ox:DS:=(bC (ak bh (av tj (ab (aa 0) (ab (aa 1) ai))) (dC (.int 1))))
def Ki:VE yx 2 Ox DV:=by
 rintro n l K ⟨h,F,r,m,w,e,c,rfl,g,d,b,i,k⟩;show⟨rfl,h,F,r,m,w,e,c,rfl,g,d,b,i,λa j R X f=>aJ rfl rfl (k a R X f.lR f.bR f.VA)⟩
structure Us(n:Nat)(st st':ae):Prop where
 len:st'.length=st.length
 same:∀m,m≠n->st'[m]?=st[m]?
def Us.trans{n:Nat}{st d c:ae}(a:Us n st d)(b:Us n d c):Us n st c:=⟨b.len.trans a.len,λm h=>(b.same m h).trans (a.same m h)⟩
def fb{st:ae}{n:Nat}{C:Addr}{fs gs:List (Str×D)}{f:Str}{d:D}{K:ae->Prop}(e:st[n]?=some (.ins C fs))(h:fs.length<1000)(c:putD f d fs=gs)(k:∀a,a[n]?=some (.ins C gs)->Us n st a->K a):wK C f (.ref n) d st K:=lK e h (by
 rw[c];show k _ (VX (VI.mp e).1) ⟨V0,λm b=>VP (VO b)⟩)
structure Si(st:ae)(n N w:Nat)(d:D)(L Lb R Rb:List (List Int)):Prop where
 e:st[n]?=some (Cell.ins aI [("many",.int N),("wide",.int w),("body",d),("left",ay L),("left_back",ay Lb),("right",ay R),("right_back",ay Rb)])
def j8:bW:=λc b K=>∃(n N w:Nat) (d:D) (A:List (List Int)),c=[.ref n,d]/\b[n]?=some (.ins aI [])/\(∀s,eE s d A)/\Mx.aO N w A/\1<=N/\N<=8/\w<=8/\∀a,Si a n N w d (Mx.units N) (Mx.units N) (Mx.units w) (Mx.units w)->Us n b a->K .az a
def jY:List Str:=["self","rows"]
def wb:DS:=(au (ff aI "many" (aa 0) (bI cT (ab (aa 1) ai)))
 (au (ff aI "wide" (aa 0) (bI cT (ab (ak bh (aa 1) (dC (.int 0))) ai)))
 (au (ff aI "body" (aa 0) (aa 1))
 (au (ff aI "left" (aa 0) (av eJ (ab (bV aI "many" (aa 0)) ai)))
 (au (ff aI "left_back" (aa 0) (av eJ (ab (bV aI "many" (aa 0)) ai)))
 (au (ff aI "right" (aa 0) (av eJ (ab (bV aI "wide" (aa 0)) ai)))
 (ff aI "right_back" (aa 0) (av eJ (ab (bV aI "wide" (aa 0)) ai)))))))))
def uR:VE j8 2 wb jY:=by
 rintro T v K ⟨n,N,w,d,A,rfl,e,h,j,S,R,Q,k⟩;show⟨rfl,?_⟩;let z:=j.len;obtain⟨G,g,y⟩:=(h v).ex;let c:G.length=N:=by rw[y.len];show z
 show cj g ?_;rw[c];show fb (gs:=[("many",.int N)]) e (V1 rfl) rfl λb F P=>?_;obtain⟨U,f,x⟩:=(h b).ex;obtain⟨V,C,B⟩:=x.at (k:=0) (by lia);show aJ f C (cj B ?_);rw[VH,j.row (i:=0) (by lia)];show fb (gs:=[("many",.int N),("wide",.int w)]) F (V1 rfl) rfl λu E O=>?_;show fb (gs:=[("many",.int N),("wide",.int w),("body",d)]) E (V1 rfl) rfl λt p M=>?_;show a6 p rfl ⟨N,rfl,by lia,?_⟩;show fb (gs:=[("many",.int N),("wide",.int w),("body",d),("left",ay (Mx.units N))]) p (V1 rfl) rfl λs o L=>?_;show a6 o rfl ⟨N,rfl,by lia,?_⟩;show fb (gs:=[("many",.int N),("wide",.int w),("body",d),("left",ay (Mx.units N)),("left_back",ay (Mx.units N))]) o (V1 rfl) rfl λr m J=>?_;show a6 m rfl ⟨w,rfl,by lia,?_⟩;show fb (gs:=[("many",.int N),("wide",.int w),("body",d),("left",ay (Mx.units N)),("left_back",ay (Mx.units N)),("right",ay (Mx.units w))]) m (V1 rfl) rfl λq l I=>?_;show a6 l rfl ⟨w,rfl,by lia,?_⟩;show fb (gs:=[("many",.int N),("wide",.int w),("body",d),("left",ay (Mx.units N)),("left_back",ay (Mx.units N)),("right",ay (Mx.units w)),("right_back",ay (Mx.units w))]) l (V1 rfl) rfl λa D H=>?_;show k a ⟨D⟩ (P.trans (O.trans (M.trans (L.trans (J.trans (I.trans H))))))
def Le.mem(h:Le X N w b)(e:Mx.aO N w X):∀r∈X,∀x∈r,x.natAbs<=2^b:=λr a x f=>by
 obtain⟨i,d,rfl⟩:=Wf.mp a;obtain⟨j,c,rfl⟩:=Wf.mp f;let:=h i j (by rw[<-e.len];show d) (by rw[<-e.gw _ a];show c);unfold Mx.g at this;rwa [Mx.aq d,Mx.aq c]at this
def pS{X Y:List (List Int)}{N w p q a b:Nat}(j:Mx.aO N w X)(i:Mx.aO p q Y)(l:Le X N w a)(k:Le Y p q b)(h:a+b<=130000000):∀r∈X,∀c∈r,∀s∈Y,∀y∈s,IntMulOk c y:=λr f c g s e y d=>jx (l.mem j r f c g) (k.mem i s e y d) h
def ne_nil{X:List (List Int)}{N w:Nat}(a:Mx.aO N w X)(h:1<=N):X≠ []:=λz=>by
 let:=a.len;rw[z]at this;simp at this;lia
def jO:bW:=λc b K=>∃(n N w x y:Nat) (d:D) (A B L Lb R Rb T Tb:List (List Int)),c=[.ref n,ay T,ay Tb]/\Si b n N w d L Lb R Rb/\(∀s,eE s d B)/\Mx.Sd A B L Lb R Rb N w x/\1<=N/\N<=8/\w<=8/\Mx.aO N N T/\Mx.aO N N Tb/\Le T N N y/\Le Tb N N y/\Le B N w 350/\x+y<=120000000/\∀a,Si a n N w (ay (Mx.mulM T B w)) (Mx.mulM T L N) (Mx.mulM Lb Tb N) R Rb->Us n b a->K .az a
def jK:List Str:=["self","turn","back"]
def uQ:DS:=(au (ff aI "body" (aa 0) (av fA (ab (aa 1) (ab (bV aI "body" (aa 0)) ai))))
 (au (ff aI "left" (aa 0) (av fA (ab (aa 1) (ab (bV aI "left" (aa 0)) ai))))
 (ff aI "left_back" (aa 0) (av fA (ab (bV aI "left_back" (aa 0)) (ab (aa 2) ai))))))
def sQ:VE jO 3 uQ jK:=by
 rintro F p K ⟨n,N,w,x,y,d,A,B,L,c,R,h,T,Tb,rfl,s,t,S,g,E,D,b,a,i,f,q,r,k⟩;show⟨rfl,?_⟩;show a6 s.e rfl ⟨ay T,d,w,T,B,rfl,cq,t p,ne_nil S.iB g,S.iB.gw,by lia,by rw[b.len];lia,pS b S.iB i q (by lia),?_⟩;show fb (gs:=[("many",.int N),("wide",.int w),("body",ay (Mx.mulM T B w)),("left",ay L),("left_back",ay c),("right",ay R),("right_back",ay h)]) s.e (V1 rfl) rfl λo l C=>?_;show a6 l rfl ⟨ay T,_,N,T,L,rfl,cq,cq,ne_nil S.iL g,S.iL.gw,by lia,by rw[b.len];lia,pS b S.iL i S.sL (by lia),?_⟩;show fb (gs:=[("many",.int N),("wide",.int w),("body",ay (Mx.mulM T B w)),("left",ay (Mx.mulM T L N)),("left_back",ay c),("right",ay R),("right_back",ay h)]) l (V1 rfl) rfl λm j z=>?_;show a6 j rfl ⟨_,_,N,c,Tb,rfl,cq,cq,ne_nil a g,a.gw,by lia,by rw[S.oJ.len];lia,pS S.oJ a S.HF f (by lia),?_⟩;show fb (gs:=[("many",.int N),("wide",.int w),("body",ay (Mx.mulM T B w)),("left",ay (Mx.mulM T L N)),("left_back",ay (Mx.mulM c Tb N)),("right",ay R),("right_back",ay h)]) j (V1 rfl) rfl λe u v=>?_;show k e ⟨u⟩ (C.trans (z.trans v))
def gE:bW:=λc b K=>∃(n N w x y:Nat) (d:D) (A B L Lb R Rb T Tb:List (List Int)),c=[.ref n,ay T,ay Tb]/\Si b n N w d L Lb R Rb/\(∀s,eE s d B)/\Mx.Sd A B L Lb R Rb N w x/\1<=w/\N<=8/\w<=8/\Mx.aO w w T/\Mx.aO w w Tb/\Le T w w y/\Le Tb w w y/\Le B N w 350/\x+y<=120000000/\∀a,Si a n N w (ay (Mx.mulM B T w)) L Lb (Mx.mulM R T w) (Mx.mulM Tb Rb w)->Us n b a->K .az a
def jj:List Str:=["self","turn","back"]
def tU:DS:=(au (ff aI "body" (aa 0) (av fA (ab (bV aI "body" (aa 0)) (ab (aa 1) ai))))
 (au (ff aI "right" (aa 0) (av fA (ab (bV aI "right" (aa 0)) (ab (aa 1) ai))))
 (ff aI "right_back" (aa 0) (av fA (ab (aa 2) (ab (bV aI "right_back" (aa 0)) ai))))))
def rS:VE gE 3 tU jj:=by
 rintro F p K ⟨n,N,w,x,y,d,A,B,L,h,R,c,T,Tb,rfl,s,t,S,e,E,D,a,b,i,g,q,r,k⟩;show⟨rfl,?_⟩;show a6 s.e rfl ⟨d,ay T,w,B,T,rfl,t p,cq,ne_nil a e,a.gw,by lia,by rw[S.iB.len];lia,pS S.iB a q i (by lia),?_⟩;show fb (gs:=[("many",.int N),("wide",.int w),("body",ay (Mx.mulM B T w)),("left",ay L),("left_back",ay h),("right",ay R),("right_back",ay c)]) s.e (V1 rfl) rfl λo l C=>?_;show a6 l rfl ⟨_,_,w,R,T,rfl,cq,cq,ne_nil a e,a.gw,by lia,by rw[S.iR.len];lia,pS S.iR a S.sR i (by lia),?_⟩;show fb (gs:=[("many",.int N),("wide",.int w),("body",ay (Mx.mulM B T w)),("left",ay L),("left_back",ay h),("right",ay (Mx.mulM R T w)),("right_back",ay c)]) l (V1 rfl) rfl λm j z=>?_;show a6 j rfl ⟨_,_,w,Tb,c,rfl,cq,cq,ne_nil S.iW e,S.iW.gw,by lia,by rw[b.len];lia,pS b S.iW g S.GR (by lia),?_⟩;show fb (gs:=[("many",.int N),("wide",.int w),("body",ay (Mx.mulM B T w)),("left",ay L),("left_back",ay h),("right",ay (Mx.mulM R T w)),("right_back",ay (Mx.mulM Tb c w))]) j (V1 rfl) rfl λf u v=>?_;show k f ⟨u⟩ (C.trans (z.trans v))
structure Sk(n:Nat)(st st':ae):Prop where
 le:st.length<=st'.length
 fr:∀m,m<st.length->m≠0->m≠n->st'[m]?=st[m]?
 tb:∃f,st'[0]?=some (cS f)
def Sk.trans{n:Nat}{st d c:ae}(a:Sk n st d)(b:Sk n d c):Sk n st c:=⟨VU a.le b.le,λm h f e=>(b.fr m (V9 h a.le) f e).trans (a.fr m h f e),b.tb⟩
def Sk.of{n:Nat}{st d c:ae}(g:n≠0)(a:Bk st d)(b:Us n d c):Sk n st c:=by
 obtain⟨f,e⟩:=a.tb;show⟨by let:=a.le;let:=b.len;lia,λm h j i=>(b.same m i).trans (a.fr m h j),f,(b.same 0 (VO g)).trans e⟩
def Si.keep{st b:ae}{n N w:Nat}{d:D}{L e R c:List (List Int)}(s:Si st n N w d L e R c)(f:n≠0)(a:Bk st b):Si b n N w d L e R c:=⟨(a.fr n (VI.mp s.e).1 f).trans s.e⟩
def HU{A:List (List Int)}{N w b:Nat}(a:Mx.aO N w A)(h:Le A N w b):Mx.fY A N 0 (2^b):=Mx.oK a h
def gD:bW:=λe b K=>∃(n N w x y:Nat) (d:D) (A B L Lb R Rb:List (List Int)) (f:Bool),e=[.ref n]/\Si b n N w d L Lb R Rb/\(∀s,eE s d B)/\Mx.Sd A B L Lb R Rb N w x/\1<=N/\N<=8/\w<=8/\Le B N w 350/\(∀t c,Mx.eH B N w t c->Mx.AQ B N w y c)/\x+y<=120000000/\n≠0/\b[0]?=some (cS f)/\∀a t c,Mx.eH B N w t c->Si a n N w (ay c.A) (Mx.mulM c.U L N) (Mx.mulM Lb (Mx.bp c.C N) N) R Rb->Mx.Sd A c.A (Mx.mulM c.U L N) (Mx.mulM Lb (Mx.bp c.C N) N) R Rb N w (x+y+3)->Sk n b a->K .az a
def ja:List Str:=["self","told"]
def tJ:DS:=(au (aT 1 (av kJ (ab (bV aI "body" (aa 0)) ai)))
 (eN (dZ aI "turn_left" jO (aa 0) (ab (ak bh (aa 1) (dC (.int 1))) (ab (ak bh (aa 1) (dC (.int 2))) ai)))))
def se:VE gD 1 tJ ja:=by
 rintro ds P K ⟨n,N,w,x,y,d,A,B,L,Lb,R,Z,f,rfl,s,I,S,E,o,M,v,V,q,D,X,k⟩;show⟨rfl,?_⟩;let a:=HU S.iB v;show a6 s.e rfl ⟨d,N,w,350,60000000,B,f,rfl,I P,S.iB,E,by lia,by lia,a,by decide,λp t c W e=>e.CL S.iB a o W,X,λO top c e g=>?_⟩;let C:=s.keep D g;obtain⟨ld,H⟩:=e.str S.iB a (by lia) (VL _);obtain⟨U,T,Q,_,_⟩:=H.tn.QD S.iB;let F:=H.tn.fH;let G:=H.tn.fZ;let b:=Mx.cC G;let sz:=(V top c e).sz;let r:Le c.U N N y:=λi j l h=>(sz i j l h).1;let u:Le (Mx.bp c.C N) N N y:=λi j l h=>by rw[Mx.cB G h l];show(sz j i h l).2
 show dX C.e rfl (aJ rfl rfl (aJ rfl rfl ⟨n,N,w,x,y,d,A,B,L,Lb,R,Z,c.U,Mx.bp c.C N,rfl,C,I,S,E,o,M,F,b,r,u,v,q,λm z Y=>?_⟩));let J:=S.left o F b T Q r u;rw[U]at z J;show k m top c e z J (Sk.of D g Y)
def fC:bW:=λd b K=>∃(n N w x y:Nat) (A B L Lb R Rb:List (List Int)) (f:Bool),d=[.ref n]/\Si b n N w (ay B) L Lb R Rb/\Mx.Sd A B L Lb R Rb N w x/\1<=w/\N<=8/\w<=8/\Le B N w 350/\(∀t c,Mx.eH (Mx.bp B w) w N t c->Mx.AQ (Mx.bp B w) w N y c)/\x+y<=120000000/\n≠0/\b[0]?=some (cS f)/\∀a t c,Mx.eH (Mx.bp B w) w N t c->Si a n N w (ay (Mx.bp c.A N)) L Lb (Mx.mulM R (Mx.bp c.U w) w) (Mx.mulM c.C Rb w)->Mx.Sd A (Mx.bp c.A N) L Lb (Mx.mulM R (Mx.bp c.U w) w) (Mx.mulM c.C Rb w) N w (x+y+3)->Sk n b a->K .az a
def g5:List Str:=["self","told"]
def p7:DS:=(au (aT 1 (av kJ (ab (av gd (ab (bV aI "body" (aa 0)) (ab (bV aI "wide" (aa 0)) ai))) ai)))
 (eN (dZ aI "turn_right" gE (aa 0) (ab (av gd (ab (ak bh (aa 1) (dC (.int 1))) (ab (bV aI "wide" (aa 0)) ai))) (ab (av gd (ab (ak bh (aa 1) (dC (.int 2))) (ab (bV aI "wide" (aa 0)) ai))) ai)))))
def ph:VE fC 1 p7 g5:=by
 rintro ds st K ⟨n,N,w,x,y,A,B,L,Lb,R,Z,f,rfl,s,S,C,O,u,F,U,z,I,W,k⟩;show⟨rfl,?_⟩;let g:=Mx.cC S.iB;let a:=HU g (b:=350) λi j e d=>by rw[Mx.cB S.iB d e];show F j i d e
 show a6 s.e rfl (a6 s.e rfl ⟨_,B,w,rfl,cq,S.iB.gw,by rw[S.iB.len];lia,by lia,?_⟩);show⟨_,w,N,350,60000000,Mx.bp B w,f,rfl,cq,g,C,by lia,by lia,a,by decide,λp t c V o=>o.CL g a u V,W,λM top c o q=>?_⟩;let r:=s.keep I q;obtain⟨ld,H⟩:=o.str g a (by lia) (VL _);obtain⟨T,_,_,Q,P⟩:=H.tn.QD g;let l:=H.tn.fH;let m:=H.tn.fZ;let h:=Mx.cC l;let sz:=(U top c o).sz;let D:Le (Mx.bp c.U w) w w y:=λi j e d=>by rw[Mx.cB l d e];show(sz j i d e).1
 let E:Le c.C w w y:=λi j e d=>(sz i j e d).2;show dX r.e rfl (aJ rfl rfl (a6 r.e rfl ⟨_,c.U,w,rfl,cq,l.gw,by rw[l.len];lia,by lia,?_⟩));show aJ rfl rfl (a6 r.e rfl ⟨_,Mx.bp c.C w,w,rfl,cq,(Mx.cC m).gw,by rw[(Mx.cC m).len];lia,by lia,?_⟩);rw[Mx.yt m];show⟨n,N,w,x,y,ay B,A,B,L,Lb,R,Z,Mx.bp c.U w,c.C,rfl,r,λ_=>cq,S,C,O,u,h,m,D,E,F,z,λv G Y=>?_⟩;let J:=S.right u h m Q P D E
 let X:Mx.mulM B (Mx.bp c.U w) w=Mx.bp c.A N:=by
  rw[<-T,Mx.x6 l g,Mx.yt S.iB]
 rw[X]at G J;show k v top c o G J (Sk.of I q Y)
def nr:bW:=λc a K=>∃(B:List (List Int)) (N w:Nat),c=[ay B]/\Mx.aO N w B/\N<=8/\w<=8/\∀b:Bool,(b=true↔Mx.Dg B N w)->K (.bl b) a
def rJ:List Str:=["rows","k","row"]
def z9:DS:=(au (ft (o5 (ab (aa 0) ai)) (gQ 1 2) (eG (gN (bH (bI vY (ab (di (o5 (ab (aa 2) ai)) [none,none,some 1] (gQ 0 1) cy (FH (ak ki (aa 1) (dC (.int 0))) (ak ki (aa 0) (aa 2)))) ai)))) (bC (dC (.bl false))) du))
 (bC (dC (.bl true))))
def FW{A:List (List Int)}{rest:List D}(a:d::rest=dE i ((A.map aZ).drop i)):i<A.length/\d= .tup [.int (i:Int),aZ (A.getD i [])]/\rest=dE (i+1) ((A.map aZ).drop (i+1)):=by
 rcases WQ i A.length with h|h
 . rw[Wa (by rw[VH];show h),Wz]at a;unfold dE at a;obtain⟨c,b⟩:=Xg a;show⟨h,by rw[Mx.aq h];show c,b⟩
 . rw[WJ (by rw[VH];show h)]at a;cases a
def zf{r:List Int}{rest:List D}(a:d::rest=dE i ((ao r).drop i)):i<r.length/\d= .tup [.int (i:Int),.int (r.getD i 0)]/\rest=dE (i+1) ((ao r).drop (i+1)):=by
 rcases WQ i r.length with h|h
 . rw[Wa (by rw[VH];show h),Wz]at a;unfold dE at a;obtain⟨c,b⟩:=Xg a;show⟨h,by rw[Mx.aq h];show c,b⟩
 . rw[WJ (by rw[VH];show h)]at a;cases a
def Bd{xs:List D}(a: []=dE i (xs.drop i)):xs.length<=i:=by
 rcases WQ i xs.length with h|h
 . rw[Wa h]at a;unfold dE at a;cases a
 . show h
def A4{f:Nat->Bool}:∀l:List Nat,jS (l.map λj=>D.bl (f j))=some (l.map f)
 | []=>rfl
 |a::l=>by rw[Wq,Wq];unfold jS;rw[A4 l];rfl
def yv:VE nr 1 z9 rJ:=by
 rintro R v K ⟨B,N,w,rfl,A,O,M,k⟩;show⟨rfl,?_⟩;let Q:=A.len;show nP (xs:=B.map aZ) rfl λok E=>?_;show dS (λrest σ f=>v=f/\∃(i:Nat) (r q:Option D),i<=N/\rest=dE i ((B.map aZ).drop i)/\σ=[some (ay B),r,q]/\∀a c,a<i->c<w->a≠c->Mx.g B a c=0) ?_ ?_ _ _ _ ⟨rfl,0,none,none,V3 _,rfl,rfl,λa c t=>absurd t (Wk _)⟩
 . rintro σ f ⟨rfl,i,r,q,J,d,rfl,h⟩;let:=Bd d;rw[VH]at this;show⟨E _ rfl,k true ⟨λ_ a c t=>h a c (by lia),λ_=>rfl⟩⟩
 . rintro x rest σ f ⟨rfl,i,r,q,J,d,rfl,h⟩ next
   obtain⟨I,rfl,rfl⟩:=FW d;let P:=A.row (i:=i) (by lia);show⟨E _ rfl,_,rfl,nP (xs:=ao (B.getD i [])) rfl λF l=>⟨cv (by rw[kl,VH];lia),?_⟩⟩;show eK (λrest n f=>v=f/\∃j:Nat,j<=w/\rest=dE j ((ao (B.getD i [])).drop j)/\n=(List.range j).map λc=>D.bl (decide (Mx.g B i c=0\/c=i))) ?_ ?_ _ _ _ ⟨rfl,0,V3 _,rfl,rfl⟩
   . rintro n f ⟨rfl,j,H,d,rfl⟩;let:=Bd d;rw[VH]at this;let L:j=w:=by lia
     subst L;show⟨l _ rfl,CN (A4 _) ?_⟩;cases C:((List.range j).map λc=>decide (Mx.g B i c=0\/c=i)).all id with
     |true=>
      show next _ _ ⟨rfl,i+1,_,_,by lia,rfl,rfl,λa c t p o=>?_⟩
      by_cases e:a=i
      . subst e;let:=WR.mp C (decide (Mx.g B a c=0\/c=a)) (Wi.mpr ⟨c,WU.mpr p,rfl⟩);rcases of_decide_eq_true this with z|z
        . show z
        . show absurd z.symm o
      . show h a c (by lia) p o
     |false=>
      show k false ⟨λz=>(by cases z),λdg=>?_⟩;exfalso
      let:((List.range j).map λc=>decide (Mx.g B i c=0\/c=i)).all id=true:=WR.mpr λb s=>by
       obtain⟨c,p,rfl⟩:=Wi.mp s;by_cases e:c=i
       . show WS (.inr e)
       . show WS (.inl (dg i c (by lia) (WU.mp p) (VO e)))
      rw[C]at this;cases this
   . rintro x rest n f ⟨rfl,j,H,d,rfl⟩ g;obtain⟨G,rfl,rfl⟩:=zf d;show⟨l _ rfl,_,rfl,?_⟩;let m:∀b,b=decide (Mx.g B i j=0\/j=i)->(List.range j).map (λc=>D.bl (decide (Mx.g B i c=0\/c=i)))++[D.bl b]=(List.range (j+1)).map λc=>D.bl (decide (Mx.g B i c=0\/c=i)):=λb e=>by rw[Yj,W_,e];rfl
     show eq2 (λz=>?_) λz=>eq2 (λu=>?_) λu=>?_
     . change cR _ _ _ _ _ _ _ _ _;rw[m true (WS (.inl z)).symm];show g _ _ ⟨rfl,j+1,by lia,rfl,rfl⟩
     . change cR _ _ _ _ _ _ _ _ _;rw[m true (WS (.inr (by lia))).symm];show g _ _ ⟨rfl,j+1,by lia,rfl,rfl⟩
     . change cR _ _ _ _ _ _ _ _ _;rw[m false (Wt (λy=>y.elim z λy=>u (by lia))).symm];show g _ _ ⟨rfl,j+1,by lia,rfl,rfl⟩
def jn:bW:=λk h K=>∃(n N w x y:Nat) (d:D) (A B L Lb R Rb:List (List Int)) (Q:Nat->List (List Int)->Prop) (f:Bool),k=[.ref n]/\Si h n N w d L Lb R Rb/\(∀s,eE s d B)/\Mx.Sd A B L Lb R Rb N w x/\1<=N/\1<=w/\N<=8/\w<=8/\Mx.D6 B N w y Q/\x+2*y<=100000000/\n≠0/\h[0]?=some (cS f)/\∀a r M b j e i c g,r<=8->Q r M->Mx.Lo M N w r->Mx.Lo b N w r->Mx.Dg b N w->(Mx.Pr r λq=>Mx.g b q q)<=((2^343:Nat):Int)->(Mx.Dg M N w->b=M)->g<=x+2*y+2300000->(Mx.Dg M N w->g<=x+2*y+6)->Si a n N w (ay b) j e i c->Mx.Sd A b j e i c N w g->Sk n h a->K .az a
def lO:List Str:=["self"]
def yI:DS:=(au (eN (dZ aI "stand_rows" gD (aa 0) ai))
 (au (eN (dZ aI "stand_columns" fC (aa 0) ai))
 (sV (gN (bH (av nr (ab (bV aI "body" (aa 0)) ai)))) (au (eN (dZ aI "stand_rows" gD (aa 0) ai))
 (eN (dZ aI "stand_columns" fC (aa 0) ai))))))
def wO:VE jn 1 yI lO:=by
 rintro ds st K ⟨n,N,w,x,y,d,A,B,L,Lb,R,Rb,Q,f,rfl,s,hd,S,n1,w1,l,h,T,aU,C,h0,k⟩;show⟨rfl,?_⟩;show dX s.e rfl ⟨n,N,w,x,y,d,A,B,L,Lb,R,Rb,f,rfl,s,hd,S,n1,l,h,T.low,T.s1,by lia,C,h0,λaH H E C1 s1 S1 K1=>?_⟩;obtain⟨f1,h1⟩:=K1.tb;show dX s1.e rfl ⟨n,N,w,x+y+3,y,A,E.A,_,_,R,Rb,f1,rfl,s1,S1,w1,l,h,T.a1 H E C1,T.s2 H E C1,by lia,C,h1,λaA t2 c2 C2 s2 S2 K2=>?_⟩;obtain⟨r,r8,F,W,q⟩:=T.lo H E C1 t2 c2 C2;let ah:=K1.trans K2;generalize Mx.bp c2.A N=M at s2 S2 F W q;show⟨λm σ p=>∃(c u e o a:List (List Int)) (t g:Nat),σ=[some (.ref n)]/\Mx.Lo c N w r/\(Mx.Pr r λq=>Mx.g c q q)<=((2^343:Nat):Int)/\t<=r/\Mx.Cl c r t/\m=Mx.lf c r t 343/\g+720*m<=x+2*y+2300000/\((c=M/\g<=x+2*y+6)\/¬Mx.Dg M N w)/\Si p n N w (ay c) u e o a/\Mx.Sd A c u e o a N w g/\Sk n st p,⟨_,M,_,_,_,_,0,_,rfl,F,W,V3 _,λi j hj=>absurd hj (Wk _),rfl,?_,.inl ⟨rfl,by lia⟩,s2,S2,ah⟩,?_⟩
 . have:=Mx.SW (t:=0) F r8 W;lia
 . rintro m σ I ⟨c,u,e,o,a,t,g,rfl,LB,hB,ht,cl,rfl,hx,P,v,Z,K3⟩;show a6 v.e rfl ⟨c,N,w,rfl,Z.iB,l,h,λb hb=>?_⟩;cases b with
   |true=>show k I r M c u e o a g r8 q F LB (hb.mp rfl) hB (λX=>P.elim (λz=>z.1) λz=>absurd X z) (by lia) (λX=>P.elim (λz=>z.2) λz=>absurd X z) v Z K3
   |false=>
    have nd:¬Mx.Dg c N w:=λz=>by let:=hb.mpr z;cases this
    let J:t<r:=Nat.lt_of_le_of_ne ht λz=>nd (LB.dg (by rw[<-z];rw[z]at cl⊢;show cl));let T2:=LB.again l h hB;obtain⟨f3,h3⟩:=K3.tb;show fe (dX v.e rfl ⟨n,N,w,g,351,_,A,c,u,e,o,a,f3,rfl,v,λ_=>cq,Z,n1,l,h,T2.low,T2.s1,by lia,C,h3,λaz G D C4 s4 S4 K4=>?_⟩);obtain⟨f4,h4⟩:=K4.tb;show dX s4.e rfl ⟨n,N,w,g+351+3,351,A,D.A,_,_,o,a,f4,rfl,s4,S4,w1,l,h,T2.a1 G D C4,T2.s2 G D C4,by lia,C,h4,λar t5 c5 C5 s5 S5 K5=>?_⟩;obtain⟨r',_,ag,V,er,hl⟩:=T2.lo G D C4 t5 c5 C5;subst er;obtain⟨t',O,Y,U⟩:=hl t J cl;show⟨_,U,_,_,_,_,_,t',_,rfl,ag,V,O,Y,rfl,?_,.inr ?_,s5,S5,K3.trans (K4.trans K5)⟩
    . lia
    . rcases P with⟨rfl,_⟩|z
      . show nd
      . show z
def iP:bW:=λc b K=>∃(n k p:Nat) (x:Int),c=[.int n,.int k,.int p,.int x]/\n<=8/\k<n/\p<n/\∀a,Ext b a->K (ay (Mx.ub n k p x)) a
def o7:List Str:=["n","k","place","number","rows"]
def xm:DS:=(au (aT 4 (i5 (dR (av eJ (ab (aa 0) ai))) [none] (bz 0) cy (bI pW (ab (aa 0) ai))))
 (au (eQ (ak bh (aa 4) (aa 1)) (aa 2) (aa 3))
 (bC (av kj (ab (aa 4) ai)))))
def NJ{n k p:Nat}(m:k<n)(q:p<n):(Mx.units n).set k (((Mx.units n).getD k []).set p x)=Mx.ub n k p x:=by
 let a:=Mx.cf n;let g:=a.len;let f:=a.row m
 let is:Mx.aO n n ((Mx.units n).set k (((Mx.units n).getD k []).set p x)):=⟨by rw[V0];show g,λr l=>by
  rcases WA l with h|h
  . show a.gw r h
  . rw[h,V0];show f⟩
 show is.ext Mx.kU λi j c b=>?_;unfold Mx.ub;rw[Mx.qv c b];unfold Mx.g
 let o:((Mx.units n).set k (((Mx.units n).getD k []).set p x)).getD i []=if i=k then((Mx.units n).getD k []).set p x else(Mx.units n).getD i []:=by
  rw[Mx.aq (by rw[V0];lia)];by_cases h:i=k
  . subst h;rw[Y3,VN rfl]
  . rw[Zd (VO h),VM h,Mx.aq (show i<(Mx.units n).length by lia)]
 rw[o];by_cases h:i=k
 . subst h;rw[VN rfl];by_cases e:j=p
   . subst e;rw[Mx.aq (by rw[V0];lia),Y3,VN ⟨rfl,rfl⟩]
   . rw[Mx.aq (by rw[V0];lia),Zd (VO e),<-Mx.aq (d:=0),VM λz=>e z.2];show Mx.cK c b
 . rw[VM h,VM λz=>h z.1];show Mx.cK c b
abbrev mE(r:List Int):Cell:= .lst (ao r)
def fD(b n:Nat):List D:=(List.range n).map λi=> .ref (b+i)
def zl:fD b n++[.ref (b+n)]=fD b (n+1):=by unfold fD;rw[Yj,W_];rfl
def sS{st:ae}:∀ {A:List (List Int)} {b:Nat},(∀i r,A[i]?=some r->st[b+i]?=some (mE r))->cw st (fD b A.length) A
 | [],_,_=>trivial
 |r::A,b,h=>by
  let e:fD b (r::A).length= .ref b::fD (b+1) A.length:=by
   unfold fD;rw[Wl,Wm,Wq,Wr,aaO];congr 1;show Wy λi _=>by change D.ref (b+(i+1))=D.ref (b+1+i);congr 1;lia
  rw[e]
  show⟨aK (h 0 r rfl),sS λi q a=>by
   let:=h (i+1) q a;rwa [show b+(i+1)=b+1+i by lia]at this⟩
def vo:VE iP 4 xm o7:=by
 rintro H st K ⟨n,k,p,x,rfl,F,t,C,B⟩;show⟨rfl,⟨n,rfl,by lia,?_⟩⟩;let w:=Mx.cf n;let m:=w.len;show gZ ⟨cv (by rw[VH,m];lia),?_⟩;show eK (λrest g c=>∃l a:List (List Int),l++a=Mx.units n/\rest=a.map aZ/\g=fD st.length l.length/\c=st++l.map mE) ?_ ?_ _ _ _ ⟨[],Mx.units n,rfl,rfl,rfl,by simp⟩;rotate_left
 . rintro d rest g c ⟨l,a,q,j,rfl,rfl⟩ next
   match a,j with
   |r::a,j=>
    rw[Wq,XQ]at j;obtain⟨rfl,rfl⟩:=j;show⟨trivial,_,rfl,BU rfl ?_⟩;change cR _ _ _ _ _ _ _ _ _;rw[Wu,VH,zl];show next _ _ ⟨l++[r],a,by rw[<-q];simp,rfl,by simp,by simp⟩
 rintro g c ⟨l,a,q,j,rfl,rfl⟩;match a,j with
 | [],_=>
   rw[XD]at q;subst q;show⟨trivial,?_⟩;generalize o:st++(Mx.units n).map mE++[Cell.lst (fD st.length (Mx.units n).length)]=st1;let s:(st++(Mx.units n).map mE).length=st.length+n:=by simp[m]
   let y:st1[st.length+n]?=some (.lst (fD st.length n)):=by
    rw[<-o,<-s,V_ (VL _),W9,m];rfl
   let z:∀i r,(Mx.units n)[i]?=some r->st1[st.length+i]?=some (mE r):=λi r f=>by
    let D:=(VI.mp f).1;rw[<-o,VR (by rw[s];lia),V_ (by lia),aaX,V5,f];rfl
   let E:Ext st st1:=by rw[<-o,Yk];show Ext.push
   rw[s];clear o;let e:k<(Mx.units n).length:=by lia
   let u:=z k _ (VV e);rw[<-Mx.aq (d:=[]) e]at u;let G:=w.row t;let v:dN (fD st.length n) (k:Int)=some (.ref (st.length+k)):=fP (by unfold fD;rw[V5,Zc t];rfl);show aJ (aK y) v ?_;change vj (.ref (st.length+k)) (.int p) (.int x) st1 _;show fu u (mY (by lia) (by rw[VH,V7];lia)) ?_;rw[V7,show(ao ((Mx.units n).getD k [])).set p (.int x)=ao (((Mx.units n).getD k []).set p x)from Z_.symm];show⟨_,Mx.ub n k p x,rfl,⟨fD st.length n,aK ((VP (by lia)).trans y),?_⟩,by rw[Mx.kU.len];lia,B _ (E.set (by lia))⟩;rw[<-NJ t C];let:=sS (st:=st1.set (st.length+k) (.lst (ao (((Mx.units n).getD k []).set p x)))) (A:=(Mx.units n).set k (((Mx.units n).getD k []).set p x)) (b:=st.length) λi r f=>?_
   . rwa [V0,m]at this
   . by_cases h:k=i
     . subst h;rw[VX e]at f;cases f;rw[VX (VI.mp u).1]
     . rw[VP h]at f;rw[VP (by lia)];show z i r f
def ny:bW:=λi e K=>∃(n N w x r k o:Nat) (A B L Lb R Rb:List (List Int)) (f:Bool),i=[.ref n,.int k,.int o]/\Si e n N w (ay B) L Lb R Rb/\Mx.Sd A B L Lb R Rb N w x/\1<=N/\N<=8/\w<=8/\r<=8/\Mx.Lo B N w r/\Mx.Dg B N w/\(Mx.Pr r λq=>Mx.g B q q)<=((2^343:Nat):Int)/\k<o/\o<r/\x<=90000000/\n≠0/\e[0]?=some (cS f)/\∀a b h d g c,Mx.Lo b N w r->Mx.Dg b N w->(Mx.Pr r λq=>Mx.g b q q)<=((2^343:Nat):Int)->(∀q,q<r->Mx.g b q q=if q=k then((Int.gcd (Mx.g B k k) (Mx.g B o o):Nat):Int)else if q=o then((Int.lcm (Mx.g B k k) (Mx.g B o o):Nat):Int)else Mx.g B q q)->Si a n N w (ay b) h d g c->Mx.Sd A b h d g c N w (x+720)->Sk n e a->K .az a
def nt:List Str:=["self","k","other"]
def zZ:DS:=(au (eN (dZ aI "turn_right" gE (aa 0) (ab (av iP (ab (bV aI "wide" (aa 0)) (ab (aa 2) (ab (aa 1) (ab (dC (.int 1)) ai))))) (ab (av iP (ab (bV aI "wide" (aa 0)) (ab (aa 2) (ab (aa 1) (ab (o8 jN (dC (.int 1))) ai))))) ai))))
 (eN (dZ aI "settle" jn (aa 0) ai)))
def Sk.ext{st d c:ae}(j:n≠0)(i:∃f,st[0]?=some (cS f))(g:n<st.length)(a:Ext st d)(b:Us n d c):Sk n st c:=by
 obtain⟨f,e⟩:=i;let k:=(VI.mp e).1;show⟨by let:=a.len;let:=b.len;lia,λm h i g=>(b.same m g).trans (a.same m h),f,(b.same 0 (VO j)).trans ((a.same 0 k).trans e)⟩
def yf:VE ny 3 zZ nt:=by
 rintro ds st K ⟨n,N,w,x,r,k,o,A,B,L,d,R,F,f,rfl,s,S,n1,t,a,r8,g,dg,O,y,ho,hx,J,h0,kk⟩;show⟨rfl,?_⟩;let rW:=g.rW;let rN:=g.rN;let v:=(VI.mp s.e).1;show dX s.e rfl (a6 s.e rfl ⟨w,o,k,1,rfl,a,by lia,by lia,λm D=>?_⟩);let s1:Si m n N w (ay B) L d R F:=⟨(D.same n v).trans s.e⟩
 show a6 s1.e rfl (i_ ⟨w,o,k,-1,rfl,a,by lia,by lia,λl U=>?_⟩);let Z:Si l n N w (ay B) L d R F:=⟨((D.trans U).same n v).trans s.e⟩
 let X:Le B N w 350:=λi j c b=>Mx.mv (g.abs O i j c b) (by decide);let T:Le (Mx.ub w o k 1) w w 0:=λi j c b=>Mx.IU (by decide) c b;let Q:Le (Mx.ub w o k (-1)) w w 0:=λi j c b=>Mx.IU (by decide) c b;show⟨n,N,w,x,0,_,A,B,L,d,R,F,Mx.ub w o k 1,Mx.ub w o k (-1),rfl,Z,λ_=>cq,S,by lia,t,a,Mx.kU,Mx.kU,T,Q,X,by lia,λW I U3=>?_⟩;let b1:=Mx.DQ (n:=w) (k:=o) (p:=k) (x:=1) (by lia) (by lia) (by lia);let b2:=Mx.DQ (n:=w) (k:=o) (p:=k) (x:= -1) (by lia) (by lia) (by lia);let S3:=S.right a Mx.kU Mx.kU b1 b2 T Q;let V:=Sk.ext J ⟨f,h0⟩ v (D.trans U) U3;obtain⟨f3,h3⟩:=V.tb;show dX I.e rfl ⟨n,N,w,x+0+3,351,_,A,_,L,d,_,_,_,f3,rfl,I,λ_=>cq,S3,n1,by lia,t,a,Mx.JL g t a O dg y ho,by lia,J,h3,λh r' M B' L' G R' E x4 _ q _ H C z hd _ u Y S4 K4=>?_⟩;obtain⟨er,P,qM⟩:=q;subst er;let e:=hd P;let ag:=u P;subst e;show kk h _ L' G R' E H C z qM Y (S4.mono (by lia)) (V.trans K4)
def dg(B:List (List Int))(r:Nat):List Int:=(List.range r).map λq=>Mx.g B q q
def kH:bW:=λb a K=>∃(B:List (List Int)) (N w r:Nat),b=[ay B]/\Mx.Lo B N w r/\1<=N/\N<=8/\w<=8/\K (aZ (dg B r)) a
def tZ:List Str:=["body","least"]
def CB:DS:=(au (aT 1 (bI wj (ab (bI cT (ab (aa 0) ai)) (ab (bI cT (ab (ak bh (aa 0) (dC (.int 0))) ai)) ai))))
 (bC (bI dO (ab (di (eS (ab (aa 1) ai)) [none,some 0] (bz 0) (bH (ak mM (ak bh (ak bh (aa 1) (aa 0)) (aa 0)) (dC (.int 0)))) (ak bh (ak bh (aa 1) (aa 0)) (aa 0))) ai))))
def pZ{A:List (List Int)}(h:j<A.length):dN (A.map aZ) (j:Int)=some (aZ (A.getD j [])):=by
 show fP ?_;rw[V5,VV h,Mx.aq h];rfl
def zR:VE kH 1 CB tZ:=by
 rintro F o K ⟨B,N,w,r,rfl,L,E,C,A,k⟩;show⟨rfl,?_⟩;let t:=L.is.len;let s:=L.rN;let p:=L.rW;show cj rfl (aJ rfl (pZ (j:=0) (by lia)) (cj rfl (CD ?_)));rw[VH,VH,t,L.is.row (i:=0) (by lia)]
 obtain⟨m,y,x,v,u⟩:∃m:Nat,(if(w:Int)<(N:Int)then(w:Int)else(N:Int))=(m:Int)/\r<=m/\m<=N/\m<=w:=by
  by_cases h:(w:Int)<(N:Int)
  . show⟨w,VN h,p,by lia,by lia⟩
  . show⟨N,VM h,s,by lia,by lia⟩
 rw[y];show fO ⟨by lia,by lia⟩ ⟨cv (by rw[fM];lia),?_⟩;rw[V7];let g:∀j,j<m->dN (ao (B.getD j [])) (j:Int)=some (.int (Mx.g B j j)):=λj n=>fB (by rw[L.is.row (by lia)];lia);show eK (λrest f c=>o=c/\∃j:Nat,j<=m/\rest=(List.range (m-j)).map (λi=>D.int (((j+i:Nat):Int)))/\f=ao (dg B (min j r))) ?_ ?_ _ _ _ ⟨rfl,0,V3 _,by unfold cM;simp,by rw[Nat.zero_min];rfl⟩
 . rintro f c ⟨rfl,j,n,e,rfl⟩
   let:m-j=0:=by
    cases q:m-j with
    |zero=>rfl
    |succ i=>rw[q,Wm]at e;cases e
   show⟨trivial,df rfl ?_⟩;rw[show min j r=r by lia];show k
 . rintro d rest f c ⟨rfl,j,n,e,rfl⟩ next
   let b:j<m:=by
    rcases WQ j m with h|h
    . show h
    . rw[show m-j=0 by lia]at e;cases e
   rw[show m-j=(m-(j+1))+1 by lia,Wm,Wq,Wr,XQ]at e;obtain⟨rfl,rfl⟩:=e
   let a:(List.map ((λi=>D.int (((j+i:Nat):Int)))∘Nat.succ) (List.range (m-(j+1))))=(List.range (m-(j+1))).map (λi=>D.int (((j+1+i:Nat):Int))):=Wy λi _=>by
    change D.int (((j+(i+1):Nat):Int))=D.int (((j+1+i:Nat):Int));congr 2;lia
   rw[aaO];show⟨trivial,_,rfl,aJ rfl (pZ (by lia)) (aJ rfl (g j b) (ne2 (λh=>?_) λh=>?_))⟩
   . have l:j<r:=ZJ λz=>h (L.out j j (by lia) (by lia) (.inl z));show fe (aJ rfl (pZ (by lia)) (aJ rfl (g j b) ?_));change cR _ _ _ _ _ _ _ _ _;rw[ints_app];show next _ _ ⟨rfl,j+1,b,a,?_⟩
     rw[show min (j+1) r=j+1 by lia,show min j r=j by lia];unfold dg;rw[Yj,W_];rfl
   . have l:r<=j:=W5 λz=>by let:=L.pos j z;lia
     show next _ _ ⟨rfl,j+1,b,a,?_⟩
     rw[show min (j+1) r=r by lia,show min j r=r by lia]
structure Dv(A B L Lb R Rb:List (List Int))(N w r:Nat):Prop where
 lo:Mx.Lo B N w r
 dg:Mx.Dg B N w
 pr:(Mx.Pr r λq=>Mx.g B q q)<=((2^343:Nat):Int)
 ch:∀i j,i<j->j<r->Mx.g B i i∣Mx.g B j j
 sd:Mx.Sd A B L Lb R Rb N w 23000000
def qw:bW:=λg b K=>∃(d:D) (A:List (List Int)) (N w:Nat) (f:Bool),g=[d]/\(∀s,eE s d A)/\Mx.aO N w A/\1<=N/\1<=w/\N<=8/\w<=8/\Mx.D6 A N w 10300000 (λ_ _=>True)/\b[0]?=some (cS f)/\∀a B L e R c r,Dv A B L e R c N w r->Bk b a->K (.tup [aZ (dg B r),ay L,ay e,ay R,ay c]) a
def xg:List Str:=["rows","sides","many","k","other"]
def FV:DS:=(au (aT 1 (Al aI j8 (ab (aa 0) ai)))
 (au (eN (dZ aI "settle" jn (aa 1) ai))
 (au (aT 2 (bI cT (ab (av kH (ab (bV aI "body" (aa 1)) ai)) ai)))
 (au (ft (eS (ab (aa 2) ai)) (bz 3) (ft (lI (ab (ak f9 (aa 3) (dC (.int 1))) (ab (aa 2) ai))) (bz 4) (eG (bH (ak mM (ak jL (ak bh (ak bh (bV aI "body" (aa 1)) (aa 4)) (aa 4)) (ak bh (ak bh (bV aI "body" (aa 1)) (aa 3)) (aa 3))) (dC (.int 0)))) (eN (dZ aI "merge" ny (aa 1) (ab (aa 3) (ab (aa 4) ai)))) du)))
 (bC (pH (ab (av kH (ab (bV aI "body" (aa 1)) ai)) (ab (bV aI "left" (aa 1)) (ab (bV aI "left_back" (aa 1)) (ab (bV aI "right" (aa 1)) (ab (bV aI "right_back" (aa 1)) ai)))))))))))
def oY{m:Int}(a:0<m)(h:m<2^62):m.natAbs.log2<9000:=by
 let:m.natAbs.log2<62:=(aaf (by lia)).mpr (by lia);lia
def fQ:(dg B r).length=r:=by unfold dg;simp
def Dh:VE qw 1 FV xg:=by
 rintro ds g K ⟨d,A,N,w,f,rfl,hd,hA,Z,w1,Y,W,hb,h0,k⟩;show⟨rfl,?_⟩;let l0:=(VI.mp h0).1;show⟨g.length,N,w,d,A,rfl,by simp,hd,hA,Z,Y,W,λaH s1 U1=>⟨rfl,?_⟩⟩;let nz:g.length≠0:=by lia
 let Q:aH[0]?=some (cS f):=by rw[U1.same 0 (by lia),VR l0];show h0
 show dX s1.e rfl ⟨g.length,N,w,0,10300000,d,A,A,_,_,_,_,λ_ _=>True,f,rfl,s1,hd,Mx.Sd.start hA,Z,w1,Y,W,hb,by lia,nz,Q,λaA r M B L b R a x2 r8 _ _ e p l _ bq _ s2 S2 K2=>?_⟩;show a6 s2.e rfl ⟨B,N,w,r,rfl,e,Z,Y,W,cj rfl ?_⟩;rw[VH,fQ];let ar:Sk g.length g aA:=⟨by let:=K2.le;let:=U1.len;simp at this;lia,λm hm a3 ag=>(K2.fr m (by let:=U1.len;simp at this;lia) a3 ag).trans ((U1.same m ag).trans (VR hm)),K2.tb⟩
 clear K2 U1 Q s1;try dsimp only[ai]
 show nO (A:=ft _ _ _) (λσ c=>∃(B L b R a:List (List Int)) (G u:Option D),σ=[some d,some (.ref g.length),some (.int r),G,u]/\Dv A B L b R a N w r/\Si c g.length N w (ay B) L b R a/\Sk g.length g c) (λnx a0=>?_) ?_
 . show fO ⟨by lia,by lia⟩ ?_;rw[V7];show i4 r (λq σ c=>∃(B L b R a:List (List Int)) (G u:Option D),σ=[some d,some (.ref g.length),some (.int r),G,u]/\Mx.Lo B N w r/\Mx.Dg B N w/\(Mx.Pr r λq=>Mx.g B q q)<=((2^343:Nat):Int)/\(∀i j,i<q->i<j->j<r->Mx.g B i i∣Mx.g B j j)/\Mx.Sd A B L b R a N w (22900000+5100*q)/\Si c g.length N w (ay B) L b R a/\Sk g.length g c) ?_ ?_ ⟨B,L,b,R,a,none,none,rfl,e,p,l,λi j P=>absurd P (Wk _),S2.mono (by lia),s2,ar⟩
   . rintro σ c ⟨B,L,b,R,a,G,u,rfl,e,p,l,t,S,s,K'⟩;show a0 _ _ ⟨B,L,b,R,a,G,u,rfl,⟨e,p,l,λi j n O=>t i j (by lia) n O,S.mono (by lia)⟩,s,K'⟩
   . clear e p l S2 s2 ar;rintro q σ X rest hq ⟨B,L,b,R,a,G,u,rfl,e,p,l,t,S,E,U⟩ next
     show⟨_,rfl,gy (uq ⟨by lia,by lia,by lia,by lia⟩ ?_)⟩;let er:((r:Int)-((q:Int)+1)).toNat=r-(q+1):=by lia
     rw[er];show dS (λv σ c=>∃(o:Nat) (B L b R a:List (List Int)) (u:Option D),q<o/\o<=r/\v=(List.range (r-o)).map (λi=>D.int (((o+i:Nat):Int)))/\σ=[some d,some (.ref g.length),some (.int r),some (.int (q:Int)),u]/\Mx.Lo B N w r/\Mx.Dg B N w/\(Mx.Pr r λq=>Mx.g B q q)<=((2^343:Nat):Int)/\(∀i j,i<q->i<j->j<r->Mx.g B i i∣Mx.g B j j)/\(∀j,q<j->j<o->Mx.g B q q∣Mx.g B j j)/\Mx.Sd A B L b R a N w (22900000+5100*q+720*(o-(q+1)))/\Si c g.length N w (ay B) L b R a/\Sk g.length g c) ?_ ?_ _ _ _ ⟨q+1,B,L,b,R,a,u,by lia,hq,?_,rfl,e,p,l,t,λj Q h2=>absurd Q (by lia),by rw[W9];show S,E,U⟩
     . clear e p l t S E U B L b R a;rintro σ az ⟨o,B,L,b,R,a,u,Q,h2,I,rfl,e,p,l,t,F,S,H,K4⟩
       let eo:r-o=0:=by
        cases z:r-o with
        |zero=>rfl
        |succ i=>rw[z,Wm]at I;cases I
       show⟨trivial,next _ _ ⟨B,L,b,R,a,_,_,rfl,e,p,l,λi j P n O=>?_,S.mono (by lia),H,K4⟩⟩;by_cases z:i=q
       . subst z;show F j n (by lia)
       . show t i j (by lia) n O
     . clear e p l t S E U B L b R a;rintro x v σ az ⟨o,B,L,b,R,a,u,Q,h2,I,rfl,e,p,l,t,F,S,H,K4⟩ y
       let V:o<r:=by
        rcases WQ o r with h|h
        . show h
        . rw[show r-o=0 by lia]at I;cases I
       rw[show r-o=(r-(o+1))+1 by lia,Wm,Wq,Wr,XQ]at I;obtain⟨rfl,rfl⟩:=I
       let C:(List.map ((λi=>D.int (((o+i:Nat):Int)))∘Nat.succ) (List.range (r-(o+1))))=(List.range (r-(o+1))).map (λi=>D.int (((o+1+i:Nat):Int))):=Wy λi _=>by
        change D.int (((o+(i+1):Nat):Int))=D.int (((o+1+i:Nat):Int));congr 2;lia
       rw[aaO];let rN:=e.rN;let rW:=e.rW;let lB:=e.is.len;let ah:∀j,j<r->dN (ao (B.getD j [])) (j:Int)=some (.int (Mx.g B j j)):=λj O=>fB (by rw[e.is.row (by lia)];lia);let br:=e.pos q hq;show⟨trivial,_,rfl,?_⟩;show a6 H.e rfl (aJ rfl (pZ (by lia)) (aJ rfl (ah o V) (a6 H.e rfl (aJ rfl (pZ (by lia)) (aJ rfl (ah q hq) (iw (by lia) (ne2 (λbu=>fe ?_) λhe=>?_)))))))
       . obtain⟨f4,h4⟩:=K4.tb;show dX H.e rfl ⟨g.length,N,w,_,r,q,o,A,B,L,b,R,a,f4,rfl,H,S,Z,Y,W,r8,e,p,l,Q,V,by lia,nz,h4,λbl B' L' bg R' bb bj a8 aU gv s5 S5 K5=>?_⟩;let gl:=Int.gcd_dvd_left (Mx.g B q q) (Mx.g B o o);let gr:=aaz (Mx.g B q q) (Mx.g B o o);let lr:=Int.dvd_lcm_right (Mx.g B q q) (Mx.g B o o);show y _ _ ⟨o+1,B',L',bg,R',bb,_,by lia,V,C,rfl,bj,a8,aU,λi j P n O=>?_,λj J a4=>?_,S5.mono (by lia),s5,K4.trans K5⟩
         . rw[gv i (by lia),gv j O,VM (by lia),VM (by lia)];by_cases e1:j=q
           . rw[VN e1];show Int.dvd_coe_gcd (t i q P (by lia) hq) (t i o P (by lia) V)
           . rw[VM e1];by_cases T:j=o
             . rw[VN T];show X9 (t i o P (by lia) V) lr
             . rw[VM T];show t i j P n O
         . rw[gv q hq,gv j (by lia),VN rfl,VM (by lia)];by_cases T:j=o
           . rw[VN T];show X9 gr lr
           . rw[VM T];show X9 gl (F j J (by lia))
       . show y _ _ ⟨o+1,B,L,b,R,a,_,by lia,V,C,rfl,e,p,l,t,λj J a4=>?_,S.mono (by lia),H,K4⟩;by_cases T:j=o
         . rw[T];show Int.dvd_of_fmod_eq_zero he
         . show F j J (by lia)
     . unfold cM;show Wy λi _=>by congr 1
 . rintro σ X ⟨B,L,b,R,a,G,u,rfl,dv,E,U⟩;show a6 E.e rfl ⟨B,N,w,r,rfl,dv.lo,Z,Y,W,?_⟩;show a6 E.e rfl (a6 E.e rfl (a6 E.e rfl (a6 E.e rfl ⟨V1 rfl,?_⟩)));show k X B L b R a r dv ⟨U.le,λm hm h0=>U.fr m hm h0 (by lia),U.tb⟩
def LN:Int->List Int->Prop
 |_,[]=>True
 |a,i::xs=>0<i/\a∣i/\LN i xs
def lW:bW:=λb a K=>∃(r:List Int) (m:Nat),b=[aZ r,.int m]/\r.length<=m/\LN 1 r/\K (.bl true) a
def p9:List Str:=["thing","most","ahead","number"]
def yb:DS:=(au (eG (oC (gN (bH (av iE (ab (aa 0) ai)))) (bH (ak rP (bI cT (ab (aa 0) ai)) (aa 1)))) (bC (dC (.bl false))) du)
 (au (aT 2 (dC (.int 1)))
 (au (ft (dR (aa 0)) (bz 3) (au (eG (oC (gN (bH (av mD (ab (aa 3) ai)))) (oC (bH (ak zq (aa 3) (dC (.int 0)))) (bH (ak mM (ak jL (aa 3) (aa 2)) (dC (.int 0)))))) (bC (dC (.bl false))) du)
 (aT 2 (aa 3))))
 (bC (dC (.bl true))))))
def wR:VE lW 2 yb p9:=by
 rintro t g K ⟨r,m,rfl,q,l,k⟩;show⟨rfl,aZ r,rfl,⟨_,rfl⟩,cj rfl ?_⟩;rw[VH];show TQ (by lia) (gZ ?_);show dS (λrest σ c=>c=g/\∃(a:Int) (b:List Int) (e:Option D),0<a/\rest=ao b/\σ=[some (aZ r),some (.int m),some (.int a),e]/\LN a b) ?_ ?_ _ _ _ ⟨rfl,1,r,none,by decide,rfl,rfl,l⟩
 . rintro σ c ⟨rfl,a,b,e,_,_,rfl,_⟩;show⟨trivial,k⟩
 . rintro d rest σ c ⟨rfl,a,b,e,s,f,rfl,j⟩ next
   cases b with
   |nil=>cases f
   |cons i b=>
    obtain⟨rfl,rfl⟩:=Xg f;obtain⟨p,o,n⟩:=j;let h:i.fmod a=0:=by rw[W6 _ (by lia)];show Int.emod_eq_zero_of_dvd o
    show⟨trivial,_,rfl,_,rfl,⟨_,rfl⟩,Vl (by lia) (iw (by lia) (D0 h ?_))⟩;show next _ _ ⟨rfl,i,b,_,p,rfl,rfl,n⟩
abbrev diag(ns:List Int)(N w:Nat):List (List Int):=Mx.CQ N w λi j=>if i=j/\i<ns.length then ns.getD i 0 else 0
def qH:bW:=λc b K=>∃(x:D) (ns:List Int) (N w:Nat),c=[x,.int N,.int w]/\(∀s,items? s x=some (ao ns))/\ns.length<=N/\ns.length<=w/\N<=8/\w<=8/\∀a,Ext b a->K (ay (diag ns N w)) a
def wB:List Str:=["numbers","many","wide","rows","k","number"]
def ES:DS:=(au (aT 3 (i5 (eS (ab (aa 1) ai)) [none,some 2] (bz 0) cy (ak uh (qZ (ab (dC (.int 0)) ai)) (aa 1))))
 (au (ft (o5 (ab (aa 0) ai)) (gQ 4 5) (eQ (ak bh (aa 3) (aa 4)) (aa 4) (aa 5)))
 (bC (av kj (ab (aa 3) ai)))))
def Jw:diag [] N w=List.replicate N (List.replicate w 0):=by
 show Mx.mL.ext (m:=N) (n:=w) ⟨by simp,λr c=>by rw[List.eq_of_mem_replicate c];simp⟩ λi j b a=>?_;rw[Mx.qv b a,VM (by simp)];unfold Mx.g;let e:(List.replicate N (List.replicate w (0:Int))).getD i []=List.replicate w 0:=by rw[Mx.aq (by simpa using b),aba]
 rw[e,Mx.aq (by simpa using a),aba]
def GJ{ns:List Int}(h:i<ns.length)(y:ns.length<=N)(x:ns.length<=w):(diag (ns.take i) N w).set i (((diag (ns.take i) N w).getD i []).set i (ns.getD i 0))=diag (ns.take (i+1)) N w:=by
 let f:Mx.aO N w (diag (ns.take i) N w):=Mx.mL;let o:=f.len;let n:=f.row (i:=i) (by lia)
 let is:Mx.aO N w ((diag (ns.take i) N w).set i (((diag (ns.take i) N w).getD i []).set i (ns.getD i 0))):=⟨by rw[V0];show o,λr t=>by
  rcases WA t with h|h
  . show f.gw r h
  . rw[h,V0];show n⟩
 show is.ext Mx.mL λa b k j=>?_;rw[Mx.qv k j];let e:Mx.g (diag (ns.take i) N w) a b=if a=b/\a<(ns.take i).length then(ns.take i).getD a 0 else 0:=Mx.qv k j
 let g:∀m q,q<m->(ns.take m).getD q 0=ns.getD q 0:=λm q u=>by rw[VT,VT,YI u]
 let s:(ns.take i).length=i:=by rw[W4];lia
 let p:(ns.take (i+1)).length=i+1:=by rw[W4];lia
 rw[s]at e;rw[p];unfold Mx.g at e⊢
 let v:((diag (ns.take i) N w).set i (((diag (ns.take i) N w).getD i []).set i (ns.getD i 0))).getD a []=if a=i then((diag (ns.take i) N w).getD i []).set i (ns.getD i 0)else(diag (ns.take i) N w).getD a []:=by
  rw[Mx.aq (by rw[V0];lia)];by_cases h:a=i
  . subst h;rw[Y3,VN rfl]
  . rw[Zd (VO h),VM h,Mx.aq (show a<(diag (ns.take i) N w).length by lia)]
 rw[v];by_cases l:a=i
 . subst l;rw[VN rfl];by_cases c:b=a
   . subst c;rw[Mx.aq (by rw[V0];lia),Y3,VN ⟨rfl,by lia⟩,g _ _ (by lia)]
   . rw[Mx.aq (by rw[V0];lia),Zd (VO c),<-Mx.aq (d:=0),e,VM (by lia),VM (by lia)]
 . rw[VM l,e];by_cases c:a=b/\a<i
   . rw[VN c,VN ⟨c.1,by lia⟩,g _ _ c.2,g _ _ (by lia)]
   . rw[VM c,VM (by lia)]
def Dq:VE qH 3 ES wB:=by
 rintro W st K ⟨x,f,N,w,rfl,B,I,H,U,T,k⟩;show⟨rfl,?_⟩;show fO ⟨by lia,by lia⟩ ⟨cv (by rw[fM];lia),?_⟩;rw[V7]
 let R:cM 0 N=(List.range N).map λ(i:Nat)=>D.int (i:Int):=by
  unfold cM;show Wy λi _=>by rw[YJ]
 rw[R];show eK (λrest m c=>∃i,i<=N/\rest.length=N-i/\(∀d∈rest,∃j:Int,d= .int j)/\m=fD st.length i/\c=st++(List.replicate i (List.replicate w (0:Int))).map mE) ?_ ?_ _ _ _ ⟨0,V3 _,by simp,λd u=>by obtain⟨j,_,rfl⟩:=Wi.mp u;show⟨_,rfl⟩,rfl,by simp⟩;rotate_left
 . rintro d rest m c ⟨i,M,g,u,rfl,rfl⟩ next
   obtain⟨j,rfl⟩:=u d V6;rw[Wl]at g;show⟨trivial,_,rfl,⟨V1 rfl,D3 ⟨by lia,by lia,cv (by simp;lia)⟩ ?_⟩⟩;rw[V7,qo];change cR _ _ _ _ _ _ _ _ _;rw[Wu,VH,YZ,zl];show next _ _ ⟨i+1,by lia,by lia,λe O=>u e (VZ _ O),rfl,?_⟩
   rw[List.replicate_succ',W_,Yk];rfl
 rintro m c ⟨i,M,g,_,rfl,rfl⟩;let Q:i=N:=by rw[XS]at g;lia
 subst Q;show⟨trivial,?_⟩;rw[<-Jw];let E:(diag [] i w).length=i:=(Mx.mL (n:=i) (w:=w)).len;generalize s:st++(diag [] i w).map mE++[Cell.lst (fD st.length i)]=st1;let z:(st++(diag [] i w).map mE).length=st.length+i:=by rw[Wu,VH,E]
 let P:st1[st.length+i]?=some (.lst (fD st.length i)):=by
  rw[<-s,<-z,V_ (VL _),W9];rfl
 let l:∀q r,(diag [] i w)[q]?=some r->st1[st.length+q]?=some (mE r):=λq r t=>by
  let L:=(VI.mp t).1;rw[<-s,VR (by rw[z];lia),V_ (by lia),aaX,V5,t];rfl
 let S:Ext st st1:=by rw[<-s,Yk];show Ext.push
 rw[z];clear s;show nP (B _) λok G=>?_;show dS (λrest σ c=>∃(q:Nat) (y v:Option D),q<=f.length/\rest=dE q (ao (f.drop q))/\σ=[some x,some (.int i),some (.int w),some (.ref (st.length+i)),y,v]/\Ext st c/\c[st.length+i]?=some (.lst (fD st.length i))/\∀a r,(diag (f.take q) i w)[a]?=some r->c[st.length+a]?=some (mE r)) ?_ ?_ _ _ _ ⟨0,none,none,V3 _,rfl,rfl,S,P,l⟩
 . rintro σ c ⟨q,y,v,t,g,rfl,X,e,l⟩
   let o:q=f.length:=by
    let:=XB List.length g;rw[kl,VH,Yn,XS]at this;lia
   rw[Xm (by lia)]at l;let J:(diag f i w).length=i:=(Mx.mL (n:=i) (w:=w)).len;show⟨G _ (B _),_,diag f i w,rfl,⟨fD st.length i,aK e,?_⟩,by lia,k _ X⟩;let:=sS (st:=c) (A:=diag f i w) (b:=st.length) l;rwa [J]at this
 . rintro d rest σ c ⟨q,y,v,t,g,rfl,X,e,l⟩ next
   let o:q<f.length:=by
    rcases WQ q f.length with h|h
    . show h
    . rw[WJ h]at g;cases g
   rw[Wa o]at g;unfold ao at g;rw[Wq]at g;unfold dE at g;rw[XQ]at g;obtain⟨rfl,rfl⟩:=g;let F:Mx.aO i w (diag (f.take q) i w):=Mx.mL;let E:=F.len;let V:=F.row (i:=q) (by lia);let eq:=l q _ (VV (by lia));rw[<-Mx.aq (d:=[]) (by lia)]at eq;let C:dN (fD st.length i) (q:Int)=some (.ref (st.length+q)):=fP (by unfold fD;rw[V5,Zc (by lia)];rfl);show⟨G _ (B _),_,rfl,?_⟩;show aJ (aK e) C ?_;show fu eq (mY (by lia) (by rw[VH,V7];lia)) ?_;rw[V7,show(ao ((diag (f.take q) i w).getD q [])).set q (.int f[q])=ao (((diag (f.take q) i w).getD q []).set q f[q])from Z_.symm];show next _ _ ⟨q+1,_,_,o,rfl,rfl,X.set (by lia),(VP (by lia)).trans e,λa r p=>?_⟩
   rw[<-GJ o I H,Mx.aq o]at p;by_cases h:q=a
   . subst h;rw[VX (by lia)]at p;cases p;rw[VX (VI.mp eq).1]
   . rw[VP h]at p;rw[VP (by lia)];show l a r p
def jX:bW:=λe d K=>∃(A B L c R b:List (List Int)) (N w r:Nat),e=[ay A,.tup [aZ (dg B r),ay L,ay c,ay R,ay b]]/\Dv A B L c R b N w r/\1<=N/\1<=w/\N<=8/\w<=8/\Le A N w 350/\∀a,Ext d a->K (.bl true) a
def oj:List Str:=["rows","told","many","wide"]
def v9:DS:=(au (aT 2 (bI cT (ab (aa 0) ai)))
 (au (aT 3 (bI cT (ab (ak bh (aa 0) (dC (.int 0))) ai)))
 (au (eG (oC (gN (bH (av js (ab (aa 1) (ab (dC (.int 5)) ai))))) (gN (bH (av lW (ab (ak bh (aa 1) (dC (.int 0))) (ab (bI wj (ab (aa 2) (ab (aa 3) ai))) ai)))))) (bC (dC (.bl false))) du)
 (au (eG (oC (gN (bH (av kP (ab (ak bh (aa 1) (dC (.int 1))) (ab (ak bh (aa 1) (dC (.int 2))) (ab (aa 2) ai)))))) (gN (bH (av kP (ab (ak bh (aa 1) (dC (.int 3))) (ab (ak bh (aa 1) (dC (.int 4))) (ab (aa 3) ai))))))) (bC (dC (.bl false))) du)
 (bC (ak ki (av fA (ab (av fA (ab (ak bh (aa 1) (dC (.int 1))) (ab (aa 0) ai))) (ab (ak bh (aa 1) (dC (.int 3))) ai))) (av qH (ab (ak bh (aa 1) (dC (.int 0))) (ab (aa 2) (ab (aa 3) ai))))))))))
def MB{B:List (List Int)}{N w r:Nat}(lo:Mx.Lo B N w r)(ch:∀i j,i<j->j<r->Mx.g B i i∣Mx.g B j j):∀(n i:Nat) (a:Int),i+n=r->(i<r->a∣Mx.g B i i)->LN a ((List.range n).map λq=>Mx.g B (i+q) (i+q))
 |0,_,_,_,_=>trivial
 |n+1,i,a,h,b=>by
  rw[Wm,Wq,Wr];show⟨lo.pos i (by lia),b (by lia),?_⟩;let:=MB lo ch n (i+1) (Mx.g B i i) (by lia) λh=>ch i (i+1) (Wj _) h
  let e:((λq=>Mx.g B (i+q) (i+q))∘Nat.succ)=λq=>Mx.g B (i+1+q) (i+1+q):=by
   funext q;change Mx.g B (i+(q+1)) (i+(q+1))=_;rw[show i+(q+1)=i+1+q by lia]
  rw[e];show this
def Qd{B:List (List Int)}{N w r:Nat}(lo:Mx.Lo B N w r)(d:Mx.Dg B N w):diag (dg B r) N w=B:=by
 show Mx.mL.ext lo.is λi j b a=>?_;rw[Mx.qv b a,fQ];by_cases h:i=j
 . subst h;by_cases c:i<r
   . rw[VN ⟨rfl,c⟩];unfold dg;rw[Mx.aq (by simpa using c),Wz,Xk]
   . rw[VM (λz=>c z.2),lo.out i i b a (.inl (by lia))]
 . rw[VM (λz=>h z.1),d i j b a h]
def uI:VE jX 2 v9 oj:=by
 rintro M I K ⟨A,B,L,H,R,G,N,w,r,rfl,d,y,x,h,p,q,k⟩;show⟨rfl,cj rfl ?_⟩;let a:=d.sd;let i:=a.iA.len;let J:=a.iL.len;let v:=a.iR.len;let u:=d.lo.rN;let t:=d.lo.rW;rw[VH,i]
 let E:dN (A.map aZ) 0=some (aZ (A.getD 0 [])):=by
  show fP (j:=0) ?_;rw[V5,VV (by lia),Mx.aq (by lia)];rfl
 show aJ rfl E (cj rfl ?_);rw[VH,a.iA.row (by lia)];show⟨_,5,rfl,⟨_,rfl⟩,?_⟩;show aJ rfl rfl (CD ?_)
 obtain⟨mn,D,C⟩:∃mn:Nat,(if(w:Int)<(N:Int)then(w:Int)else(N:Int))=(mn:Int)/\r<=mn:=by
  split
  . show⟨w,rfl,t⟩
  . show⟨N,rfl,u⟩
 rw[D];show⟨dg B r,mn,rfl,by rw[fQ];show C,?_,?_⟩
 . have:=MB d.lo d.ch r 0 1 (by lia) λ_=>Int.one_dvd _;simp![XX]at this;show this
 show aJ rfl rfl (aJ rfl rfl ⟨L,H,N,_,rfl,a.iL,a.oJ,y,h,a.l1,a.sL,a.HF,by decide,?_⟩);show aJ rfl rfl (aJ rfl rfl ⟨R,G,w,_,rfl,a.iR,a.iW,x,p,a.r1,a.sR,a.GR,by decide,?_⟩);let g:=Mx.oB a.iL a.iA h a.sL q;let e:=Mx.bS a.iL a.iA;show aJ rfl rfl ⟨_,_,w,L,A,rfl,cq,cq,λz=>by rw[z]at i;simp at i;lia,a.iA.gw,by lia,by lia,λr m c n s l b o=>jx (oi a.iL a.sL r m c n) (oi a.iA q s l b o) (by decide),?_⟩;show aJ rfl rfl ⟨_,_,w,Mx.mulM L A w,R,rfl,cq,cq,λz=>by rw[z]at v;simp at v;lia,a.iR.gw,by lia,by let:=e.len;lia,λr m c n s l b o=>jx (oi e g r m c n) (oi a.iR a.sR s l b o) (by decide),?_⟩;show aJ rfl rfl ⟨_,dg B r,N,w,rfl,λ_=>rfl,by rw[fQ];show u,by rw[fQ];show t,h,p,λf F=>?_⟩;rw[a.eq,Qd d.lo d.dg];show DW BP (k f F)
def vt:bW:=λd c K=>∃a b,d=[.int a,.int b]/\K (.int ((Nat.gcd a.natAbs b.natAbs:Nat):Int)) c
def CT:List Str:=["one","other","great","small","rest"]
def JM:DS:=(au (aT 2 (bI vp (ab (aa 0) ai)))
 (au (aT 3 (bI vp (ab (aa 1) ai)))
 (au (sV (bH (ak mM (aa 3) (dC (.int 0)))) (au (aT 4 (ak jL (aa 2) (aa 3)))
 (au (aT 2 (aa 3))
 (aT 3 (aa 4)))))
 (bC (aa 2)))))
def JV(a b:Nat):(a:Int).fmod (b:Int)=((a%b:Nat):Int):=by
 rw[W6 _ (Zm b)];show(Int.natCast_emod a b).symm
def GI:VE vt 2 JM CT:=by
 rintro f e K ⟨a,b,rfl,k⟩;show⟨rfl,?_⟩;show BC (BC ?_);show⟨λm σ c=>∃(g s:Nat) (r:Option D),σ=[some (.int a),some (.int b),some (.int g),some (.int s),r]/\c=e/\Nat.gcd g s=Nat.gcd a.natAbs b.natAbs/\s=m,⟨b.natAbs,a.natAbs,b.natAbs,none,?_,rfl,rfl,rfl⟩,?_⟩
 . rfl
 . rintro m σ c ⟨g,s,r,rfl,rfl,d,rfl⟩;show ne2 (λh=>fe ?_) λh=>?_
   . show iw h ⟨g%s,abm _ (by lia),s,g%s,some (.int ((g%s:Nat):Int)),?_,rfl,?_,rfl⟩
     . rw[JV];rfl
     . rw[abq,<-Nat.gcd_rec,abq];show d
   . have:s=0:=by lia
     subst this;rw[Nat.gcd_zero_right]at d;subst d;show k
structure Ew(A:List (List Int))(N w:Nat)(F:List (List Int))(m:Nat)(ld:Nat->Nat):Prop where
 isA:Mx.aO N w A
 vf:Mx.aO m w F
 st:Mx.bQ F m w ld
 rd:Mx.td F m ld
 sm:Mx.cL A N F m w
 lo:Mx.fY A N 0 (2^26)
 n1:1<=N
 n8:N<=8
 w8:w<=8
def mQ:bW:=λc b K=>∃(d:D) (A F:List (List Int)) (N w m:Nat) (ld:Nat->Nat) (f:Bool),c=[d]/\eE b d A/\Ew A N w F m ld/\b[0]?=some (cS f)/\∀a,Bk b a->K (ay F) a
def y6:List Str:=["rows"]
def Hy:DS:=(bC (ak bh (av kJ (ab (aa 0) ai)) (dC (.int 0))))
def Gj:VE mQ 1 Hy y6:=by
 rintro v r K ⟨d,A,F,N,w,m,u,f,rfl,g,h,q,k⟩;let l:=h.n8;show⟨rfl,d,N,w,26,60000000,A,f,rfl,g,h.isA,h.n1,by lia,by let:=h.w8;lia,h.lo,VL _,λp t c e H=>H.CL h.isA (λi c o n=>Mx.mv (h.lo i c o n) (by decide)) l e,q,λa top c j B=>aJ rfl A7 ?_⟩;obtain⟨b,s⟩:=j.str h.isA h.lo (by lia) (VL _);rw[s.D4.Jh h.vf h.st h.rd h.sm.to h.sm.of];show k a B
def yK(b:Nat)(r:List Int):List (List Int):=(List.range b).map λ(i:Nat)=>r++[(i:Int)]
def jH(R:List (List Int))(b:Nat):List (List Int):=R.flatMap (yK b)
def vU(b:Nat):∀R:List (List Int),(jH R b).length=R.length*b
 | []=>by simp[jH]
 |r::R=>by
  let:=vU b R;unfold jH yK at*;rw[List.flatMap_cons,Wu,this,VH,aaA,Wl,aaL,abo]
def JK(h:∀r∈R,r.length=w):∀r∈jH R b,r.length=w+1:=λr a=>by
 obtain⟨s,c,a⟩:=aaS.mp a;obtain⟨i,_,rfl⟩:=Wi.mp a;rw[Wu,h s c];rfl
def Kk{b:Nat}{r:List Int}{a:bO}{h:DE}{st:ae}{K:List D->ae->Prop}(n:r.length<=8)(j:∀(i:Nat) K',f9 (aZ r) (.tup [.int (i:Int)]) st K'->∃c,bz 0 (.int (i:Int)) a=some c/\h c st K')(k:K ((yK b r).map aZ) st):cR (bz 0) cy h (λ_=>True) a (cM 0 b) [] st K:=by
 show comp_map (g:=λd=>match d with| .int i=>aZ (r++[((i.toNat:Nat):Int)])|_=> .az) trivial _ (λd l K' q=>?_) ?_
 . obtain⟨i,_,rfl⟩:=yR l;show j i K' (Nl (by rw[XT,VH];simp;lia) ?_);let e:(ao r++[D.int (i:Int)])=ao (r++[(i:Int)]):=by simp[ao]
   rw[e];show q
 . have m:(cM 0 b).map (λd=>match d with| .int i=>aZ (r++[((i.toNat:Nat):Int)])|_=> .az)=(List.range b).map (λ(i:Nat)=>aZ (r++[(i:Int)])):=zo (f:=λ(i:Nat)=>aZ (r++[(i:Int)])) b;rw[m];unfold yK at k;rw[Wr]at k;show k
def kM:bW:=λe c K=>∃(d:D) (R:List (List Int)) (b w:Nat),e=[d,.int b]/\items? c d=some (R.map aZ)/\(∀r∈R,r.length=w)/\w<=8/\b<=1000/\R.length*b<=1000/\∀a,a[c.length]?=some (.lst ((jH R b).map aZ))->Ext c a->K (.ref c.length) a
def oV:List Str:=["rows","bound","longer","row"]
def wq:DS:=(au (aT 2 (tP ai))
 (au (ft (dR (aa 0)) (bz 3) (eN (qC oS (aa 2) (ab (di (eS (ab (aa 1) ai)) [none,some 3] (bz 0) cy (ak f9 (aa 1) (pH (ab (aa 0) ai)))) ai))))
 (bC (aa 2))))
def Hj{R:List (List Int)}(h:i<R.length):jH (R.take (i+1)) b=jH (R.take i) b++yK b (R.getD i []):=by
 unfold jH;rw[Xy h,List.flatMap_append,List.flatMap_singleton,Mx.aq h]
def Ij{R:List (List Int)}{rest:List D}(h:d::rest=(R.map aZ).drop i):i<R.length/\d=aZ (R.getD i [])/\rest=(R.map aZ).drop (i+1):=by
 let a:i<R.length:=by
  rcases WQ i R.length with b|b
  . show b
  . rw[WJ (by rw[VH];show b)]at h;cases h
 rw[Wa (by rw[VH];show a),Wz]at h;obtain⟨rfl,rfl⟩:=Xg h;show⟨a,by rw[Mx.aq a],rfl⟩
def G9{R:List (List Int)}(h: []=(R.map aZ).drop i):R.length<=i:=by
 let:=XB List.length h;rw[Yn,VH,XS]at this;lia
def NC{R:List (List Int)}:(jH (R.take i) b).length<=R.length*b:=by
 rw[vU,W4];show Wg _ (aaJ _ _)
def vA:VE kM 2 wq oV:=by
 rintro z h K ⟨d,R,b,w,rfl,l,n,s,y,p,k⟩;show⟨rfl,V3 _,?_⟩;show NG (Ext.push.items l) λok m=>?_;show dS (λrest σ c=>∃(i:Nat) (g:Option D),i<=R.length/\rest=(R.map aZ).drop i/\σ=[some d,some (.int b),some (.ref h.length),g]/\c[h.length]?=some (.lst ((jH (R.take i) b).map aZ))/\Ext h c) ?_ ?_ _ _ _ ⟨0,none,V3 _,rfl,rfl,aao,Ext.push⟩
 . rintro σ c ⟨i,g,o,a,rfl,e,X⟩;rw[Xm (G9 a)]at e;show⟨m _ (X.items l),k c e X⟩
 . rintro x rest σ c ⟨i,g,o,a,rfl,e,X⟩ next
   obtain⟨f,rfl,rfl⟩:=Ij a;let v:(R.getD i []).length=w:=n _ (by rw[Mx.aq f];show WX _);show⟨m _ (X.items l),_,rfl,PL (λr q=>q) e (fO ⟨by lia,by lia⟩ ⟨cv (by rw[fM];lia),?_⟩)⟩;rw[V7];show Kk (by lia) (λj r q=>⟨_,rfl,V1 rfl,q⟩) ?_;let u:=NC (R:=R) (b:=b) (i:=i);let t:(yK b (R.getD i [])).length=b:=by unfold yK;simp
   show UL e (by rw[XT,VH,VH];lia) (next _ _ ⟨i+1,_,f,rfl,rfl,?_,X.set (VL _)⟩);rw[VX (VI.mp e).1,Hj f,W_]
def jf(l:List Nat):Nat:=l.foldl (· * ·) 1
def gR(l:List Nat):List (List Int):=l.foldl jH [[]]
def Cm:∀(l:List Nat) (R:List (List Int)),(l.foldl jH R).length=l.foldl (· * ·) R.length
 | [],_=>rfl
 |x::l,R=>by rw[YM,YM,Cm l,vU]
def xT(l:List Nat):(gR l).length=jf l:=Cm l [[]]
def BV:∀(l:List Nat) {R:List (List Int)} {w:Nat},(∀r∈R,r.length=w)->∀r∈l.foldl jH R,r.length=w+l.length
 | [],_,_,h=>h
 |x::l,R,w,h=>λr a=>by
  let:=BV l (JK h) r a;rw[Wl];lia
def M9(l:List Nat):∀r∈gR l,r.length=l.length:=λr a=>by
 let:=BV l (R:=[[]]) (w:=0) (λr a=>by rw[Xi.mp a];rfl) r a;lia
def ya:∀(l:List Nat) (a:Nat),(∀x∈l,1<=x)->a<=l.foldl (· * ·) a
 | [],_,_=>VL _
 |x::l,a,h=>VU (W8 a (h x V6)) (ya l _ λy b=>h y (VZ _ b))
def A9{l:List Nat}(h:∀x∈l,1<=x)(i:Nat):jf (l.take i)<=jf l:=by
 conv=>rhs;rw[<-ZN i l]
 unfold jf;rw[aaB];show ya _ _ λx a=>h x (ZZ a)
def vP{l:List Nat}(h:i<l.length):jf (l.take (i+1))=jf (l.take i)*l.getD i 0:=by
 unfold jf;rw[Xy h,aaB,VT,VV h];rfl
def Lh{l:List Nat}(h:i<l.length):gR (l.take (i+1))=jH (gR (l.take i)) (l.getD i 0):=by
 unfold gR;rw[Xy h,aaB,VT,VV h];rfl
abbrev kX(l:List Nat):List D:=l.map λ(n:Nat)=>D.int (n:Int)
def pv:bW:=λc b K=>∃(d:D) (A F:List (List Int)) (N w m:Nat) (ld:Nat->Nat) (f:Bool) (bs:List Nat),c=[d]/\(∀b,eE b d A)/\Ew A N w F m ld/\b[0]?=some (cS f)/\m=w/\
 (bs.length=w/\(∀x∈bs,1<=x/\x<2^62)/\∀i,i<w->Mx.g F i i=((bs.getD i 0:Nat):Int))/\jf bs<=300/\
 ∀a,Bk b a->K (.tup ((gR bs).map aZ)) a
def ve:List Str:=["rows","form","bounds","count","bound","rests"]
def Dj:DS:=(au (aT 1 (av mQ (ab (aa 0) ai)))
 (au (eG (bH (ak tH (bI cT (ab (aa 1) ai)) (bI cT (ab (ak bh (aa 0) (dC (.int 0))) ai)))) (bC (dC .az)) du)
 (au (aT 2 (di (o5 (ab (aa 1) ai)) [none,none] (gQ 0 1) cy (ak bh (aa 1) (aa 0))))
 (au (aT 3 (dC (.int 1)))
 (au (ft (dR (aa 2)) (bz 4) (aT 3 (ak dQ (aa 3) (aa 4))))
 (au (eG (bH (ak rP (aa 3) (dC (.int 300)))) HE du)
 (au (aT 5 (qZ (ab (pH ai) ai)))
 (au (ft (dR (aa 2)) (bz 4) (aT 5 (av kM (ab (aa 5) (ab (aa 4) ai)))))
 (bC (bI dO (ab (aa 5) ai)))))))))))
def yV{l:List Nat}{rest:List D}(h:d::rest=(kX l).drop i):i<l.length/\d= .int ((l.getD i 0:Nat):Int)/\rest=(kX l).drop (i+1):=by
 let a:i<l.length:=by
  rcases WQ i l.length with b|b
  . show b
  . rw[WJ (by rw[VH];show b)]at h;cases h
 rw[Wa (by rw[VH];show a),Wz]at h;obtain⟨rfl,rfl⟩:=Xg h;show⟨a,by rw[VT,VV a];rfl,rfl⟩
def CV{l:List Nat}(h: []=(kX l).drop i):l.length<=i:=by
 let:=XB List.length h;rw[Yn,VH,XS]at this;lia
def Bk.UK{st b a:ae}(B:Bk st b)(X:Ext b a):Bk st a:=by
 let h:=B.le;obtain⟨f,e⟩:=B.tb;let c:=(VI.mp e).1;show⟨by let:=X.len;lia,λm d g=>by rw[X.same m (by lia),B.fr m d g],f,by rw[X.same 0 c];show e⟩
def HQ{l rest:List D}(h:x::rest=l.drop i):l[i]?=some x/\rest=l.drop (i+1):=by
 let a:i<l.length:=by
  rcases WQ i l.length with b|b
  . show b
  . rw[WJ b]at h;cases h
 rw[Wa a]at h;obtain⟨rfl,rfl⟩:=Xg h;show⟨VV a,rfl⟩
def Ic{l:List Nat}(h:i<l.length):kX (l.take (i+1))=kX (l.take i)++[.int ((l.getD i 0:Nat):Int)]:=by
 unfold kX;rw[Xy h,W_,VT,VV h];rfl
def AU:VE pv 1 Dj ve:=by
 rintro ds H K ⟨d,A,F,N,w,m,R,f,bs,rfl,I,o,L,U,C,J,V⟩;show⟨rfl,d,A,F,N,w,m,R,f,rfl,I H,o,L,λp B1=>?_⟩;let lA:=o.isA.len;let z:=o.vf.len;let w8:=o.w8;obtain⟨ag,Y,O⟩:=(I p).ex;obtain⟨d0,Z,S⟩:=O.at (k:=0) (by let:=o.n1;lia);let P:(A.getD 0 []).length=w:=o.isA.row o.n1;show cj rfl (aJ Y Z (cj S ?_));rw[VH,VH,z,P];show Mu (λh=>fe ?_) λh=>?_
 . lia
 subst U;obtain⟨lb,u,W⟩:=C;show nP rfl λok E=>⟨cv (by rw[kl,VH,z];lia),?_⟩
 show eK (λrest s b=>p=b/\∃i:Nat,i<=m/\rest=(dE 0 (F.map aZ)).drop i/\s=kX (bs.take i)) ?_ ?_ _ _ _ ⟨rfl,0,V3 _,rfl,rfl⟩;rotate_left
 . rintro x rest s b ⟨rfl,i,q,a,rfl⟩ next
   obtain⟨g,rfl⟩:=HQ a;obtain⟨y,B,rfl⟩:=pe g
   let t:i<F.length:=by
    let:=(VI.mp B).1;rw[VH]at this;show this
   rw[V5,VV t]at B;cases B;let lr:(F[i]).length=m:=o.vf.gw _ (WX _);show⟨E _ rfl,_,rfl,aJ (e:= .int ((bs.getD i 0:Nat):Int)) rfl ?_ (next _ _ ⟨rfl,i+1,by lia,rfl,(Ic (by lia)).symm⟩)⟩;rw[<-W i (by lia),XX];let e:Mx.g F i i=(F[i]).getD i 0:=by unfold Mx.g;rw[Mx.aq t]
   rw[e];show fB (by lia)
 rintro s b ⟨rfl,i,q,a,rfl⟩;show⟨E _ rfl,?_⟩
 let c:bs.length<=i:=by
  let:=XB List.length a;rw[Yn,kl,VH,XS,z]at this;lia
 rw[Xm c];clear c a q i E ok;show qh ?_;show dS (λrest σ b=>p=b/\∃(i:Nat) (n:Option D),i<=bs.length/\rest=(kX bs).drop i/\σ=[some d,some (ay F),some (.lst (kX bs)),some (.int ((jf (bs.take i):Nat):Int)),n,none]) ?_ ?_ _ _ _ ⟨rfl,0,none,V3 _,rfl,rfl⟩;rotate_left
 . rintro x rest σ b ⟨rfl,i,n,q,a,rfl⟩ next
   obtain⟨c,rfl,rfl⟩:=yV a;let g:=u _ (show bs.getD i 0∈bs by rw[VT,VV c];show WX _);show⟨trivial,_,rfl,eA (hV (by lia) (by lia)) (next _ _ ⟨rfl,i+1,some (.int ((bs.getD i 0:Nat):Int)),c,rfl,?_⟩)⟩;rw[vP c,YS];rfl
 rintro σ b ⟨rfl,i,n,q,a,rfl⟩;show⟨trivial,?_⟩;rw[Xm (CV a)];clear a q i;show PD (λh=>fe ?_) λh=>?_
 . lia
 show⟨V3 _,V1 rfl,?_⟩;show qh ?_;show dS (λrest σ b=>∃(i:Nat) (n:Option D) (v:D),i<=bs.length/\rest=(kX bs).drop i/\σ=[some d,some (ay F),some (.lst (kX bs)),some (.int ((jf bs:Nat):Int)),n,some v]/\items? b v=some ((gR (bs.take i)).map aZ)/\Bk H b) ?_ ?_ _ _ _ ⟨0,n,.lst [.tup []],V3 _,rfl,rfl,rfl,B1⟩
 . rintro σ b ⟨i,n,v,q,a,rfl,j,G⟩;rw[Xm (CV a)]at j;show⟨trivial,df j (V b G)⟩
 . rintro x rest σ b ⟨i,n,v,q,a,rfl,j,G⟩ next
   obtain⟨c,rfl,rfl⟩:=yV a;let g:=u _ (show bs.getD i 0∈bs by rw[VT,VV c];show WX _);let q1:=A9 (λx g=>(u x g).1) (i+1);let q2:=A9 (l:=bs) (λx g=>(u x g).1) i;let e1:=vP c;let e2:=xT (bs.take i);let Q:1<=jf (bs.take i):=by unfold jf;show ya _ 1 λx g=>(u x (Y6 g)).1
   let q3:bs.getD i 0<=jf (bs.take i)*bs.getD i 0:=YT _ Q;show⟨trivial,_,rfl,v,gR (bs.take i),bs.getD i 0,i,rfl,j,λr T=>?_,by lia,by lia,by rw[e2];lia,λM e X=>next _ _ ⟨i+1,_,_,c,rfl,rfl,?_,G.UK X⟩⟩
   . rw[M9 _ r T,W4];lia
   . rw[Lh c];show aK e
def kR:bW:=λi b K=>∃(d h g:D) (A F:List (List Int)) (x y:List Int) (N w m e:Nat) (ld:Nat->Nat) (f:Bool),i=[d,h,g]/\eE b d A/\Ew A N w F m ld/\Wd F m w ld/\items? b h=some (ao x)/\items? b g=some (ao y)/\x.length=w/\y.length=w/\(∀z∈x,z.natAbs<=2^e)/\(∀z∈y,z.natAbs<=2^e)/\b[0]?=some (cS f)/\∀a R,Bk b a->R.length=w->(∀z∈R,z.natAbs<=2^(e+89))->Mx.ll F m w ld (λc=>x.getD c 0+y.getD c 0) m (λc=>R.getD c 0)->K (aZ R) a
def wQ:List Str:=["rows","one","other"]
def Gv:DS:=(bC (av yx (ab (av mQ (ab (aa 0) ai)) (ab (av jv (ab (aa 1) (ab (dC (.int 1)) (ab (aa 2) ai)))) ai))))
def Bk.ext{st b a:ae}(B:Bk st b)(X:Ext b a):Bk st a:=by
 let h:=B.le;obtain⟨f,e⟩:=B.tb;let c:=(VI.mp e).1;show⟨by let:=X.len;lia,λm d g=>by rw[X.same m (by lia),B.fr m d g],f,by rw[X.same 0 c];show e⟩
def Js{x y:List Int}{e w:Nat}(i:x.length=w)(h:y.length=w)(f:∀z∈x,z.natAbs<=2^e)(d:∀z∈y,z.natAbs<=2^e):∀z∈Mx.de x 1 y,z.natAbs<=2^(e+1):=λz b=>by
 obtain⟨c,a,rfl⟩:=Wf.mp b;let g:(Mx.de x 1 y)[c]=(Mx.de x 1 y).getD c 0:=(Mx.aq a).symm;rw[Mx.gH (by lia)]at a;rw[g,Mx.iy (by lia),WZ,XA];let l:=f _ (getD_mem (r:=x) (k:=c) (by lia));let j:=d _ (getD_mem (r:=y) (k:=c) (by lia));let:=YY (x.getD c 0) (y.getD c 0);lia
def DF:VE kR 3 Gv wQ:=by
 rintro H D K ⟨d,G,E,A,F,x,y,N,w,m,e,l,f,rfl,u,v,n,t,s,j,q,bx,h,g,k⟩;show⟨rfl,d,A,F,N,w,m,l,f,rfl,u,v,g,λp i=>?_⟩;let C:=n.w8;show⟨_,_,_,x,y,rfl,pd g i.fr t,pd g i.fr s,by lia,λb _=>gY (by decide) (by decide),?_⟩;show⟨_,F,Mx.de x 1 y,m,w,e+1,l,rfl,n,rfl,by rw[Mx.gH (by lia)];show j,Js j q bx h,λa R X r B o=>?_⟩
 let z:(λc=>(Mx.de x 1 y).getD c 0)=λc=>x.getD c 0+y.getD c 0:=by
  funext c;rw[Mx.iy (by lia),WZ]
 rw[z]at o;show k a R (i.ext X) r (by rw[show e+89=e+1+88 by lia];show B) o
inductive KI(F:List (List Int))(m w:Nat)(row:Nat->Int)(P:Int):D->Prop
 |int (o:Int) (h0:0<o) (hP:o<=P) (h:∀x:Int,Mx.aD F m w (λc=>x*row c)↔o∣x):KI F m w row P (.int o)
 |az (h:∀x:Int,x≠0->¬Mx.aD F m w λc=>x*row c):KI F m w row P .az
def oh:bW:=λh b K=>∃(d e:D) (A F:List (List Int)) (r:List Int) (N w m:Nat) (ld:Nat->Nat) (f:Bool),h=[d,e]/\eE b d A/\Ew A N w F m ld/\items? b e=some (ao r)/\r.length=w/\(∀i q,i<m->(Mx.g F i q).natAbs<2^62)/\b[0]?=some (cS f)/\∀a g,Bk b a->KI F m w (λc=>r.getD c 0) (DY F ld m) g->K g a
def sP:List Str:=["rows","row","order","left","each","lead","lacks"]
def AL:DS:=(au (aT 2 (dC (.int 1)))
 (au (aT 3 (bI mj (ab (aa 1) ai)))
 (au (ft (dR (av mQ (ab (aa 0) ai))) (bz 4) (au (aT 5 (av m6 (ab (aa 4) ai)))
 (au (aT 6 (ak mF (ak bh (aa 4) (aa 5)) (av vt (ab (ak bh (aa 4) (aa 5)) (ab (ak bh (aa 3) (aa 5)) ai)))))
 (au (aT 2 (ak dQ (aa 2) (aa 6)))
 (au (aT 3 (di (dR (aa 3)) [none,some 6] (bz 0) cy (ak dQ (aa 1) (aa 0))))
 (aT 3 (av jv (ab (aa 3) (ab (o8 jN (ak mF (ak bh (aa 3) (aa 5)) (ak bh (aa 4) (aa 5)))) (ab (aa 4) ai))))))))))
 (bC (L5 (bH (ak Jb (av m6 (ab (aa 3) ai)) (dC .az))) (aa 2) (dC .az))))))
def zY:VE oh 2 AL sP:=by
 rintro ds st K ⟨d,dr,A,F,r,N,w,m,a,f,rfl,H,h,hr,lr,hF,h0,k⟩;show⟨rfl,?_⟩;let Z:=h.vf.len;let w8:=h.w8;show nU hr ⟨d,A,F,N,w,m,a,f,rfl,H,h,h0,λP B1=>?_⟩;show gZ ?_;show dS (λrest σ u=>u=P/\∃(i:Nat) (o:Int) (L:List Int) (O M J:Option D),i<=m/\rest=(F.map aZ).drop i/\σ=[some d,some dr,some (.int o),some (a_ L),O,M,J]/\L.length=w/\Mx.gT F w a (λc=>r.getD c 0) i o (λc=>L.getD c 0)/\o<=DY F a i) ?_ ?_ _ _ _ ⟨rfl,0,1,r,none,none,none,V3 _,rfl,rfl,lr,Mx.gT.start,aa5 _⟩
 . rintro σ u ⟨rfl,i,o,L,O,M,J,hi,n,rfl,R,s,T⟩;let e:i=m:=XR hi (by rw[<-Z];show drop_nil n);subst e;show⟨trivial,_,L,rfl,rfl,?_⟩;cases I:tf L with
   |none=>
    have:jt L= .az:=by unfold jt;rw[I]
    rw[this];show IL rfl (fe ?_);show k u _ B1 (.int o s.pos T λx=>s.some h.st (λc _=>wH L 0 I c) x)
   |some l=>
    have:jt L= .int (l:Int):=by unfold jt;rw[I]
    rw[this];show IL rfl ?_;obtain⟨q,e,hq,B⟩:=xw L 0 l I;show k u _ B1 (.az λx hx=>s.no h.st (by rw[<-R];show hq) B x hx)
 . rintro x rest σ u ⟨rfl,i,o,L,O,M,J,hi,n,rfl,R,s,T⟩ next
   obtain⟨U,rfl,rfl⟩:=drop_cons n;let p:i<m:=by rw[<-Z];show U
   obtain⟨l1,S,l3⟩:=h.st.lead i p;let wF:=h.vf.row p;let B:(F.getD i []).getD (a i) 0≠0:=XY S
   let W:jt (F.getD i [])= .int ((a i:Nat):Int):=by
    unfold jt;rw[zm l3 B]
   show⟨trivial,_,rfl,_,F.getD i [],rfl,rfl,?_⟩;rw[W];let v:dN (ao (F.getD i [])) ((a i:Nat):Int)=some (.int (Mx.g F i (a i))):=fB (by lia);let G:dN (ao L) ((a i:Nat):Int)=some (.int (L.getD (a i) 0)):=fB (by lia);let small:=hF i (a i) p;generalize X:Mx.g F i (a i)=dd at v S small;obtain⟨j,rfl⟩:=WL (Xr S);let C:0<j:=by lia
   generalize V:L.getD (a i) 0=y at G;show aJ rfl v (aJ rfl v (aJ rfl G ⟨_,_,rfl,?_⟩));rw[Int.natAbs_natCast];let Q:=Mx.GY C y;let g0:0<Nat.gcd j y.natAbs:=Zq _ C;let gl:Nat.gcd j y.natAbs<=j:=Nat.le_of_dvd C (Y_ _ _)
   let ef:(j:Int).fdiv ((Nat.gcd j y.natAbs:Nat):Int)=((j/Nat.gcd j y.natAbs:Nat):Int):=by
    rw[Yy _ (Zm _)];rfl
   show nS (by lia) (oY (by lia) (by lia)) ?_;rw[ef];let q0:0<j/Nat.gcd j y.natAbs:=Nat.div_pos gl g0;let ql:j/Nat.gcd j y.natAbs<=j:=Nat.div_le_self _ _;generalize j/Nat.gcd j y.natAbs=q at Q q0 ql;show eA (hV (by lia) (by lia)) (qh ⟨cv (by rw[VH];lia),?_⟩);show comp_map (g:=λd=>match d with| .int z=> .int ((q:Int)*z)|_=> .az) trivial _ (λd H K' qq=>?_) ?_
   . unfold ao at H;obtain⟨z,_,rfl⟩:=Wi.mp H;show⟨_,rfl,eA (gY (by lia) (by lia)) qq⟩
   let en:(ao L).map (λd=>match d with| .int z=> .int ((q:Int)*z)|_=> .az)=ao (L.map λz=>(q:Int)*z):=by unfold ao;rw[Wr,Wr];rfl
   rw[en]
   let Y:dN (ao (L.map λz=>(q:Int)*z)) ((a i:Nat):Int)=some (.int ((q:Int)*y)):=by
    rw[<-V,<-Mx.CC];show fB (by rw[VH];lia)
   obtain⟨t,ht⟩:=(Q (q:Int)).mpr (XI _);let et:((q:Int)*y).fdiv (j:Int)=t:=by rw[ht,Int.mul_fdiv_cancel_left _ (by lia)]
   show aJ rfl Y (aJ rfl v (nS (by lia) (oY (by lia) (by lia)) (i_ ?_)));rw[et];let lq:(L.map λz=>(q:Int)*z).length=w:=by rw[VH,R]
   show⟨_,_,_,L.map λz=>(q:Int)*z,F.getD i [],rfl,rfl,rfl,by lia,λb hb=>?_,?_⟩
   . obtain⟨c,hc,rfl⟩:=Wf.mp hb;let:=hF i c p;unfold Mx.g at this;rw[Mx.aq hc]at this;show hV (by lia) (by lia)
   show next _ _ ⟨rfl,i+1,_,_,_,_,_,p,rfl,rfl,by rw[Mx.gH (by lia)];show lq,?_,?_⟩
   . have ee:(λc=>(Mx.de (L.map λz=>(q:Int)*z) (-t) (F.getD i [])).getD c 0)=λc=>(q:Int)*L.getD c 0-t*Mx.g F i c:=by
      funext c;rw[Mx.iy (by lia),Mx.CC,Yp];change _+ -(t*Mx.g F i c)=_;lia
     rw[ee];show s.step h.st p (by lia) ?_ λz hz=>?_
     . rw[X];change(q:Int)*L.getD (a i) 0=_;rw[V,ht,WK]
     . rw[X]at hz;let E:(j:Int)∣z*L.getD (a i) 0:=hz;rw[V]at E;show(Q z).mp E
   . change o*(q:Int)<=DY F a i*Mx.g F i (a i);rw[X];let p0:=s.pos;show abj T (by lia) (by lia) (by lia)
structure Bx(st:ae)(n:Nat)(b:Int):Prop where
 ex:∃x y z,st[n]?=some (.lst [.int x,.int y,.int z])/\0<=x/\0<=z/\z<=b
structure Upd(st:ae)(n:Nat)(st':ae):Prop where
 len:st'.length=st.length
 same:∀m,m≠n->st'[m]?=st[m]?
def Upd.refl{st:ae}{n:Nat}:Upd st n st:=⟨rfl,λ_ _=>rfl⟩
def Upd.trans{st d c:ae}{n:Nat}(a:Upd st n d)(b:Upd d n c):Upd st n c:=⟨b.len.trans a.len,λm h=>(b.same m h).trans (a.same m h)⟩
def Upd.set{st:ae}:Upd st n (st.set n c):=⟨V0,λm h=>VP (VO h)⟩
structure XU(st:ae)(n:Nat)(st':ae):Prop where
 len:st.length<=st'.length
 same:∀m,m<st.length->m≠n->st'[m]?=st[m]?
def XU.trans{st d c:ae}{n:Nat}(a:XU st n d)(b:XU d n c):XU st n c:=⟨VU a.len b.len,λm h g=>(b.same m (V9 h a.len) g).trans (a.same m h g)⟩
def XU.upd{st b:ae}{n:Nat}(a:Upd st n b):XU st n b:=⟨by rw[a.len];show VL _,λm _ g=>a.same m g⟩
def XU.ext{st b:ae}{n:Nat}(a:Ext st b):XU st n b:=⟨a.len,λm h _=>a.same m h⟩
def XU.set{st b:ae}{n k:Nat}(a:XU st n b)(h:st.length<=k):XU st n (b.set k c):=⟨by rw[V0];show a.len,λm d g=>by rw[VP (Xa (V9 d h))];show a.same m d g⟩
def XU.at{st b:ae}{n k:Nat}{c:Cell}(a:XU st n b)(e:st[k]?=some c)(h:k≠n):b[k]?=some c:=(a.same k (VI.mp e).1 h).trans e
def Bx.lt{st:ae}(B:Bx st n b):n<st.length:=by
 obtain⟨_,_,_,e,_⟩:=B.ex;show(VI.mp e).1
def Bx.cell{st a:ae}{n:Nat}{b:Int}(B:Bx st n b)(e:a[n]?=st[n]?):Bx a n b:=by
 obtain⟨x,y,z,c,r⟩:=B.ex;show⟨x,y,z,e.trans c,r⟩
def Bx.mono{st:ae}{n:Nat}{b a:Int}(B:Bx st n b)(l:b<=a):Bx st n a:=by
 obtain⟨x,y,z,e,f,d,c⟩:=B.ex;show⟨x,y,z,e,f,d,Xj c l⟩
def nY:bW:=λd b K=>∃(c:List Int) (k:Nat),d=[.lst (c.map .int),.int k]/\k<=3/\c.length<=63/\∀a,Bx a b.length 4000->Ext b a->K (.ref b.length) a
def tK:List Str:=["_law_script","_law_k","_law_cell"]
def BM:DS:=(au (aT 2 (dC (.int 0)))
 (au (eG (bH (ak rP (bI cT (ab (aa 0) ai)) (dC (.int 0)))) (aT 2 (ak bh (aa 0) (ak jL (aa 1) (bI cT (ab (aa 0) ai))))) du)
 (bC (tP (ab (ak dQ (aa 2) (bI yc (ab (ak D_ (aa 2) (ak qp (dC (.int 10)) (dC (.int 18)))) ai))) (ab (aa 2) (ab (ak dQ (dC (.int 1009)) (aa 1)) ai)))))))
def zN:VE nY 2 BM tK:=by
 rintro o g K ⟨e,k,rfl,n,m,q⟩;show⟨rfl,?_⟩
 let a:∀c:Int,bC (tP (ab (ak dQ (aa 2) (bI yc (ab (ak D_ (aa 2) (ak qp (dC (.int 10)) (dC (.int 18)))) ai))) (ab (aa 2) (ab (ak dQ (dC (.int 1009)) (aa 1)) ai))))
  {nx:=λ_ d=>K .az d,rt:=K} [some (.lst (e.map .int)),some (.int k),some (.int c)] g:=by
  intro c;show w9 ⟨by decide,by decide,by decide⟩ (S8 (Ng (eA (hV ?_ ?_) (eA (gY (by decide) (by decide)) ⟨V1 rfl,?_⟩))))
  . split<;>decide
  . split<;>decide
  . show q _ ⟨_,_,_,by rw[V_ (VL _),W9];rfl,?_,?_,?_⟩ Ext.push
    . by_cases f:(10:Int)^(18:Int).toNat<=c
      . have:(0:Int)<=c:=Xj (by decide) f;rw[WS f,VN rfl];lia
      . rw[Wt f,VM WD];lia
    . lia
    . lia
 show cj rfl (E7 ?_);rw[VH];by_cases b:(0:Int)<(e.length:Int)
 . rw[WS b];show fe (cj rfl (iw (by rw[VH];lia) ?_));rw[VH];let i:=Xn (k:Int) b;let h:=XH (k:Int) b;obtain⟨j,l⟩:=WL i;rw[l]at h⊢;show aJ rfl (fB (r:=e) (by lia)) (a _)
 . rw[Wt b];show a 0
def cm:bW:=λd c K=>∃(n:Nat) (m b:Int),d=[.ref n,.int m]/\Bx c n b/\b<=1000000/\0<m/\m<2^62/\∀r a,0<=r->r<m->Bx a n (b+1)->Upd c n a->K (.int r) a
def w6:List Str:=["_law_source_here","_law_many","_law_digit","_law_m"]
def EZ:DS:=(au (eG (bH (ak rP (ak bh (aa 0) (dC (.int 0))) (dC (.int 0)))) (au (aT 2 (ak jL (ak bh (aa 0) (dC (.int 0))) (aa 1)))
 (au (eQ (aa 0) (dC (.int 0)) (ak mF (ak bh (aa 0) (dC (.int 0))) (aa 1)))
 (bC (aa 2)))) du)
 (au (eQ (aa 0) (dC (.int 2)) (ak f9 (ak bh (aa 0) (dC (.int 2))) (dC (.int 1))))
 (au (aT 3 (ak jL (ak dQ (ak f9 (ak f9 (ak jL (ak bh (aa 0) (dC (.int 1))) (dC (.int 2147483647))) (ak dQ (dC (.int 65539)) (ak bh (aa 0) (dC (.int 2))))) (dC (.int 11))) (dC (.int 48271))) (dC (.int 2147483629))))
 (au (aT 3 (ak f9 (ak jL (ak dQ (aa 3) (aa 3)) (dC (.int 1999999973))) (ak dQ (dC (.int 39373)) (ak bh (aa 0) (dC (.int 2))))))
 (bC (ak jL (ak mF (ak jL (ak dQ (aa 3) (dC (.int 99991))) (dC (.int 2147483587))) (dC (.int 7))) (aa 1)))))))
def yu{d:D}{σ:bO}{st:ae}{K:DK}(k:K d st):dC d σ st K:=k
def Dl:VE cm 2 EZ w6:=by
 rintro v f K ⟨n,m,b,rfl,⟨x,y,z,e,i,r,t⟩,s,a,g,k⟩;show⟨rfl,?_⟩;let j:n<f.length:=(VI.mp e).1;let d:items? f (.ref n)=some [.int x,.int y,.int z]:=aK e;show aJ d (by rfl) (PD (λh=>fe ?_) λh=>?_)
 . show aJ d (by rfl) (iw (by lia) (aJ d (by rfl) (nS (by lia) (oY a g) (fu e (by rfl) ?_))));show k _ _ (Xn _ a) (XH _ a) ⟨_,_,_,VX j,?_,r,by lia⟩ Upd.set;rw[Yy _ (by lia)];show Int.ediv_nonneg i (by lia)
 . show aJ d (by rfl) (gy (fu e (by rfl) ?_));let l:(f.set n (.lst ([D.int x,D.int y,D.int z].set 2 (.int (z+1)))))[n]?=some (.lst [.int x,.int y,.int (z+1)]):=VX j;let c:=aK l;show aJ c (by rfl) (iw (by decide) (aJ c (by rfl) (eA (gY (by decide) (by decide)) ?_)));generalize y.fmod 2147483647=y1;generalize 65539*(z+1)=p;show gy (yu (gy (yu (eA (hV (by decide) (by decide)) (yu (iw (by decide) ?_))))));let q:=Xn ((y1+p+11)*48271) (show(0:Int)<2147483629 by decide);let o:=XH ((y1+p+11)*48271) (show(0:Int)<2147483629 by decide);generalize((y1+p+11)*48271).fmod 2147483629=u at q o⊢;show eA (gY (by lia) (by lia)) (yu (iw (by decide) ?_));generalize(u*u).fmod 1999999973=u3;show aJ c (by rfl) (eA (gY (by decide) (by decide)) ?_);generalize 39373*(z+1)=p2;show gy ?_;generalize u3+p2=u4;show eA (hV (by decide) (by decide)) (yu (iw (by decide) (yu (nS (by decide) (by decide+kernel) (iw (by lia) ?_)))));show k _ _ (Xn _ a) (XH _ a) ⟨_,_,_,l,i,by lia,by lia⟩ Upd.set
def oF:bW:=λd c K=>∃(n:Nat) (b:Int),d=[.ref n]/\Bx c n b/\b<=900000/\∀r a,r.natAbs<=1000000000000->Bx a n (b+4)->Upd c n a->K (.int r) a
def sj:List Str:=["_law_source_here","_law_how"]
def AN:DS:=(au (aT 1 (av cm (ab (aa 0) (ab (dC (.int 40)) ai))))
 (au (eG (bH (ak tH (aa 1) (dC (.int 32)))) (bC (ak vm (av cm (ab (aa 0) (ab (dC (.int 7)) ai))) (dC (.int 3)))) du)
 (au (eG (bH (ak tH (aa 1) (dC (.int 39)))) (bC (ak vm (av cm (ab (aa 0) (ab (dC (.int 41)) ai))) (dC (.int 20)))) du)
 (bC (ak dQ (ak f9 (ak dQ (av cm (ab (aa 0) (ab (ak qp (dC (.int 10)) (dC (.int 6))) ai))) (ak qp (dC (.int 10)) (dC (.int 6)))) (av cm (ab (aa 0) (ab (ak qp (dC (.int 10)) (dC (.int 6))) ai)))) (ak vm (dC (.int 1)) (ak dQ (dC (.int 2)) (av cm (ab (aa 0) (ab (dC (.int 2)) ai))))))))))
def zK:VE oF 1 AN sj:=by
 rintro z t K ⟨n,b,rfl,B,w,k⟩;show⟨rfl,?_⟩;show⟨n,40,b,rfl,B,by lia,by decide,by decide,λv p E D g f=>?_⟩;show Mu (λ_=>fe ?_) λ_=>?_
 . show⟨n,7,_,rfl,g,by lia,by decide,by decide,λi a l j d c=>Bs (k _ _ (by lia) (d.mono (by lia)) (f.trans c))⟩
 show Mu (λ_=>fe ?_) λ_=>?_
 . show⟨n,41,_,rfl,g,by lia,by decide,by decide,λi a l j d c=>Bs (k _ _ (by lia) (d.mono (by lia)) (f.trans c))⟩
 let e:(10:Int)^(6:Int).toNat=1000000:=by decide
 show w9 ⟨by decide,by decide,by decide⟩ ?_;rw[e];show⟨n,_,_,rfl,g,by lia,by decide,by decide,λi a l j d c=>w9 ⟨by decide,by decide,by decide⟩ ?_⟩;rw[e];show eA (hV (by decide) (by decide)) (w9 ⟨by decide,by decide,by decide⟩ ?_);rw[e];show⟨n,_,_,rfl,d,by lia,by decide,by decide,λu o C A s r=>gy ?_⟩;show⟨n,2,_,rfl,s,by lia,by decide,by decide,λh m y x B3 q=>eA (gY (by decide) (by decide)) (Bs (eA (hV (by lia) (by lia)) ?_))⟩;show k _ _ ?_ (B3.mono (by lia)) (((f.trans c).trans r).trans q);let:h=0\/h=1:=by lia
 rcases this with rfl|rfl<;>lia
def oM:bW:=λe c K=>∃(n:Nat) (b:Int) (d:D) (A:List (List Int)) (N w M:Nat),e=[.ref n,d]/\Bx c n b/\b<=900000/\eE c d A/\Mx.aO N w A/\1<=N/\N<=8/\w<=8/\(∀r∈A,∀x∈r,x.natAbs<=M)/\∀B a,Mx.kv A N w (M*8^6) B N->Bx a n (b+30)->XU c n a->K (ay B) a
def sJ:List Str:=["_law_source_here","_law_rows","_law_made","_law_k","_law_i","_law_j","_law_how","_law_by"]
def Bg:DS:=(au (aT 2 (i5 (dR (aa 1)) [none] (bz 0) cy (bI mj (ab (aa 0) ai))))
 (au (ft (eS (ab (av cm (ab (aa 0) (ab (dC (.int 7)) ai))) ai)) (bz 3) (au (aT 4 (av cm (ab (aa 0) (ab (bI cT (ab (aa 2) ai)) ai))))
 (au (aT 5 (av cm (ab (aa 0) (ab (bI cT (ab (aa 2) ai)) ai))))
 (au (aT 6 (av cm (ab (aa 0) (ab (dC (.int 4)) ai))))
 (eG (bH (ak ki (aa 4) (aa 5))) (eQ (aa 2) (aa 4) (di (dR (ak bh (aa 2) (aa 4))) [none] (bz 0) cy (o8 jN (aa 0)))) (eG (bH (ak ki (aa 6) (dC (.int 0)))) (Ge (wy (uw (aa 2) (aa 4)) (uw (aa 2) (aa 5))) (pH (ab (ak bh (aa 2) (aa 5)) (ab (ak bh (aa 2) (aa 4)) ai)))) (au (aT 7 (ak bh (qZ (ab (dC (.int 1)) (ab (o8 jN (dC (.int 1))) (ab (dC (.int 2)) (ab (o8 jN (dC (.int 2))) ai))))) (av cm (ab (aa 0) (ab (dC (.int 4)) ai)))))
 (eQ (aa 2) (aa 4) (di (yG (ab (ak bh (aa 2) (aa 4)) (ab (ak bh (aa 2) (aa 5)) ai))) [none,none,some 7] (gQ 0 1) cy (ak f9 (aa 0) (ak dQ (aa 2) (aa 1))))))))))))
 (bC (bI dO (ab (di (dR (aa 2)) [none] (bz 0) cy (bI dO (ab (aa 0) ai))) ai)))))
def oG{A:List (List Int)}{k:Nat}(h:k<A.length):dN (A.map a_) (k:Int)=some (a_ (A.getD k [])):=by
 show fP ?_;rw[V5,VV h,Mx.aq h];rfl
def qF{T:List (List Int)}:(T.map a_).set l (a_ r)=(T.set l r).map a_:=by rw[Z_]
def Aa:VE oM 2 Bg sJ:=by
 rintro ds l K ⟨n,b,d,A,N,w,M,rfl,B,hb,⟨da,S,ra⟩,hA,W,V,hw,U,k⟩;show⟨rfl,?_⟩;let hn:=B.lt;let f:l.length≠n:=Xa hn;let lA:=ra.len;let aA:=hA.len;show m7 S λok u=>⟨cv (by lia),?_⟩
 show jA a_ u ra (λd r P R K' q=>⟨_,rfl,nU R q⟩) ?_;show⟨n,7,b,rfl,B.cell (VR hn),by lia,by decide,by decide,λr0 s z0 z1 B1 U1=>?_⟩;obtain⟨T,rfl⟩:=WL z0;show fO ⟨by lia,by lia⟩ ?_;rw[V7];let e1:s[l.length]?=some (.lst (A.map a_)):=(U1.same _ f).trans (by rw[V_ (VL _),W9];rfl);let X1:XU l n s:=(XU.ext Ext.push).trans (XU.upd U1);show i4 T (λj σ h=>∃(X:List (List Int)) (J I H G F:Option D),σ=[some (.ref n),some d,some (.ref l.length),J,I,H,G,F]/\h[l.length]?=some (.lst (X.map a_))/\Mx.kv A N w (M*8^j) X N/\Bx h n (b+1+4*j)/\XU l n h) ?_ ?_ ⟨A,none,none,none,none,none,rfl,e1,⟨hA,W,V,λr P x v=>by rw[Nat.pow_zero,Nat.mul_one];show U r P x v,Mx.cL.refl _ _ _⟩,B1.mono (by simp),X1⟩
 . rintro σ h ⟨X,J,I,H,G,F,rfl,e,i,B',X'⟩;let lX:=i.is.len;show m7 (aK e) λok u=>⟨cv (by rw[VH];lia),?_⟩
   show jA aZ u cw.lst (λd r P R K' q=>⟨_,rfl,df R q⟩) (df rfl ?_);show k X h (i.more (Ws _ (Wh (by decide) (by lia)))) (B'.mono (by lia)) X'
 . rintro j σ az rest hj ⟨X,J,I,H,G,F,rfl,e,i,B2,X2⟩ next
   show⟨_,rfl,?_⟩;let lX:=i.is.len;let lM:(X.map a_).length=N:=by rw[VH,lX]
   show cj (aK e) ⟨n,_,_,rfl,B2,by lia,by lia,by lia,λrk ar a0 a1 B3 U3=>?_⟩;obtain⟨t,rfl⟩:=WL a0;let z:t<N:=by lia
   let Y:=(U3.same _ f).trans e;show cj (aK Y) ⟨n,_,_,rfl,B3,by lia,by lia,by lia,λro ah c0 c1 B4 U4=>?_⟩;obtain⟨o,rfl⟩:=WL c0;let Q:o<N:=by lia
   let e4:=(U4.same _ f).trans Y;show⟨n,4,_,rfl,B4,by lia,by decide,by decide,λag p w0 w1 B5 U5=>?_⟩;let m:=(U5.same _ f).trans e4;let Z:XU l n p:=X2.trans (XU.upd ((U3.trans U4).trans U5));let O:=(VI.mp m).1;clear U3 U4 U5 e Y e4 B2 B3 B4;let pj:M*8^(j+1)=M*8^j*8:=by rw[XA,WB]
   let M1:Mx.kv A N w (M*8^(j+1)) X N:=i.more (by lia);let wk:=i.is.row z;let wo:=i.is.row Q;let E:Bx p n (b+1+4*((j+1:Nat):Int)):=B5.mono (by lia);show eq2 (λa3=>fe ?_) λaU=>?_
   . show aJ (aK m) (oG (by lia)) (qh ⟨cv (by rw[VH];lia),?_⟩);show comp_map (g:=λx=>match x with| .int a=> .int (-a)|_=> .az) trivial _ (λx v K' q=>?_) ?_
     . unfold ao at v;obtain⟨a,_,rfl⟩:=Wi.mp v;show⟨_,rfl,i_ q⟩
     let en:(ao (X.getD t [])).map (λx=>match x with| .int a=> .int (-a)|_=> .az)=ao ((X.getD t []).map λx=> -x):=by unfold ao;rw[Wr,Wr];rfl
     rw[en];show fu m (mY (by lia) (by lia)) ?_;rw[V7];show next _ _ ⟨_,_,_,_,_,_,rfl,(VX O).trans (XB (λx=>some (Cell.lst x)) qF),M1.neg z,E.cell (VP f),Z.set (VL _)⟩
   show eq2 (λh0=>fe ?_) λh0=>?_
   . show aJ (aK m) (oG (by lia)) (aJ (aK m) (oG (by lia)) ⟨V1 rfl,?_⟩);show fu m (mY (by lia) (by lia)) ?_;rw[V7,qF];show fu (VX O) (mY (by lia) (by rw[VH,V0];lia)) ?_;rw[V7,qF,List.set_set];show next _ _ ⟨_,_,_,_,_,_,rfl,VX O,M1.swap z Q,E.cell (VP f),Z.set (VL _)⟩
   show i_ (i_ ⟨V1 rfl,n,4,_,rfl,B5,by lia,by decide,by decide,λq L q0 q1 E U6=>?_⟩);let C:=(U6.same _ f).trans m;let l6:=(VI.mp C).1
   obtain⟨c,ec,hc⟩:∃c:Int,dN [D.int 1,.int (-1),.int 2,.int (-2)] q=some (.int c)/\c.natAbs<=7:=by
    let:q=0\/q=1\/q=2\/q=3:=by lia
    rcases this with rfl|rfl|rfl|rfl
    . show⟨1,rfl,by decide⟩
    . show⟨-1,rfl,by decide⟩
    . show⟨2,rfl,by decide⟩
    . show⟨-2,rfl,by decide⟩
   show aJ rfl ec ?_;show aJ (aK C) (oG (by lia)) (aJ (aK C) (oG (by lia)) ?_);show wL rfl rfl λok u=>⟨cv (by rw[rm,VH,VH];lia),?_⟩
   show comp_map (g:=λd=>match d with| .tup [.int x,.int y]=> .int (x+c*y)|_=> .az) (u L rfl rfl) _ (λd S K' q=>?_) ?_
   . obtain⟨x,y,_,_,rfl⟩:=Cq S;show⟨_,rfl,eA (gY (by lia) (by lia)) (gy q)⟩
   let ea:(iI (ao (X.getD t [])) (ao (X.getD o []))).map (λd=>match d with| .tup [.int x,.int y]=> .int (x+c*y)|_=> .az)=ao (Mx.de (X.getD t []) c (X.getD o [])):=tO _ _;rw[ea];show fu C (mY (by lia) (by lia)) ?_;rw[V7];show next _ _ ⟨_,_,_,_,_,_,rfl,(VX l6).trans (XB (λx=>some (Cell.lst x)) qF),?_,(E.cell (VP f)).mono (by lia),(Z.trans (XU.upd U6)).set (VL _)⟩
   rw[pj];show i.add z Q (by lia) hc
def qV:bW:=λe c K=>∃(n:Nat) (dl:D) (b:Int) (d:List Int) (w:Nat),e=[.ref n,dl]/\Bx c n b/\b<=900000/\(∀a,XU c n a->items? a dl=some (ao d))/\d.length=w/\w<=8/\(∀x∈d,1<=x/\x<=1000000000)/\∀(G:List (List Int)) a,G.length=w->(∀k,k<w->Mx.UR d w k (G.getD k []))->a[c.length]?=some (.lst (G.map aZ))->Bx a n (b+64)->XU c n a->K (.ref c.length) a
def xf:List Str:=["_law_source_here","_law_leads_here","_law_form_here","_law_i","_law_row","_law_j"]
def Gp:DS:=(au (aT 2 (tP ai))
 (au (ft (eS (ab (bI cT (ab (aa 1) ai)) ai)) (bz 3) (au (aT 4 (ak wJ (ak dQ (qZ (ab (dC (.int 0)) ai)) (aa 3)) (qZ (ab (ak bh (aa 1) (aa 3)) ai))))
 (au (ft (lI (ab (ak f9 (aa 3) (dC (.int 1))) (ab (bI cT (ab (aa 1) ai)) ai))) (bz 5) (eN (ky (aa 4) (av cm (ab (aa 0) (ab (ak bh (aa 1) (aa 5)) ai))))))
 (eN (ky (aa 2) (bI dO (ab (aa 4) ai)))))))
 (bC (aa 2))))
def nQ{α:Type}{l:List α}{x d:α}(k:Nat):(l++[x]).getD k d=if k<l.length then l.getD k d else if k=l.length then x else d:=by
 rw[VT,VT];by_cases h:k<l.length
 . rw[VN h,VR h]
 . rw[VM h,V_ (W5 h)];by_cases a:k=l.length
   . rw[VN a,a,W9];rfl
   . rw[VM a,Yc (by rw[ZL];lia)];rfl
def Gu{l:fI}{b:DS}{E:kG}{a:Int}(n:Nat)(I:Nat->bO->ae->Prop)(o:∀σ st,I n σ st->E.nx σ st)
 (g:∀(j:Nat) σ st (rest:List D),j<n->I j σ st->(∀r c,I (j+1) r c->fG l b (λ_=>True) E rest r c)->∃p,l (.int (a+(j:Int))) σ=some p/\b {E with nx:=fG l b (λ_=>True) E rest,ct:=fG l b (λ_=>True) E rest,bk:=E.nx} p st)
 {σ:bO} {st:ae} (v:I 0 σ st):fG l b (λ_=>True) E (cM a n) σ st:=by
 show dS (λrest σ st=>∃j:Nat,j<=n/\rest=(List.range (n-j)).map (λi=>D.int (a+((j+i:Nat):Int)))/\I j σ st) ?_ ?_ _ _ _ ⟨0,V3 _,by unfold cM;simp,v⟩
 . rintro σ st ⟨j,t,f,s⟩
   let:n-j=0:=by
    cases q:n-j with
    |zero=>rfl
    |succ m=>rw[q,Wm]at f;cases f
   let e:j=n:=by lia
   subst e;show⟨trivial,o _ _ s⟩
 . rintro d rest σ st ⟨j,t,f,s⟩ next
   cases q:n-j with
   |zero=>rw[q]at f;cases f
   |succ m=>
    rw[q,Wm,Wq,Wr]at f;simp![XQ]at f;obtain⟨rfl,k⟩:=f
    obtain⟨p,w,u⟩:=g j σ st rest (by lia) s λr c h=>next r c ⟨j+1,by lia,by
     let:n-(j+1)=m:=by lia
     rw[this,k];show Wy λi _=>?_;change D.int (a+((j+(i+1):Nat):Int))=D.int (a+((j+1+i:Nat):Int));congr 2;lia,h⟩
    show⟨trivial,p,w,u⟩
def C_:VE qV 2 Gp xf:=by
 rintro ds f K ⟨n,dl,b,g,w,rfl,B,hb,A,X,w8,M,k⟩;show⟨rfl,?_⟩;let Y:=B.lt;let m:f.length≠n:=Xa Y;show⟨V1 rfl,?_⟩;let X0:XU f n (f++[Cell.lst []]):=XU.ext Ext.push;show cj (A _ X0) ?_;rw[VH,X];show fO ⟨by lia,by lia⟩ ?_;rw[V7];show i4 w (λi σ a=>∃(G:List (List Int)) (E C j:Option D),σ=[some (.ref n),some dl,some (.ref f.length),E,C,j]/\G.length=i/\(∀k,k<i->Mx.UR g w k (G.getD k []))/\a[f.length]?=some (.lst (G.map aZ))/\Bx a n (b+8*i)/\XU f n a) ?_ ?_ ⟨[],none,none,none,rfl,rfl,λk Z=>absurd Z (Wk _),by rw[V_ (VL _),W9];rfl,(B.cell (VR Y)).mono (by simp),X0⟩
 . rintro σ a ⟨G,E,C,j,rfl,v,R,e,u,l⟩;show k G a v R e (u.mono (by lia)) l
 . rintro i σ d rest hi ⟨G,E,C,j,rfl,v,R,e,B1,U⟩ next
   show⟨_,rfl,?_⟩;let p:i<g.length:=by lia
   let e1:=A _ U;let O:=(VI.mp e).1;let o:=B1.lt;show O6 (V1 rfl) (EA ⟨by lia,by lia,cv (by simp;lia)⟩ ?_);rw[V7,qo];show aJ e1 (fB p) ⟨V1 rfl,N5 (cv (by simp;lia)) ?_⟩;rw[ints_app];let X2:XU f n (d++[Cell.lst (ao (List.replicate i 0++[g.getD i 0]))]):=U.trans (XU.ext Ext.push);show gy (cj (A _ X2) ?_);rw[VH,X];show uq ⟨by lia,by lia,by lia,by lia⟩ ?_;let ew:((w:Int)-((i:Int)+1)).toNat=w-(i+1):=by lia
   rw[ew];show Gu (w-(i+1)) (λt σ a=>∃(r:List Int) (j:Option D),σ=[some (.ref n),some dl,some (.ref f.length),some (.int (i:Int)),some (.ref d.length),j]/\a[d.length]?=some (.lst (ao r))/\r.length=i+1+t/\(∀c,c<i->r.getD c 0=0)/\r.getD i 0=g.getD i 0/\(∀c,i<c->c<i+1+t->0<=r.getD c 0/\r.getD c 0<g.getD c 0)/\a[f.length]?=some (.lst (G.map aZ))/\Bx a n (b+8*i+t)/\XU f n a) ?_ ?_ ⟨List.replicate i 0++[g.getD i 0],j,rfl,by rw[V_ (VL _),W9];rfl,by simp,λc Q=>?_,?_,λc y S=>absurd S (by lia),(VR O).trans e,(B1.cell (VR o)).mono (by simp),X2⟩
   . rintro σ a ⟨r,j,rfl,z,L,J,I,H,s,u,l⟩;show xt (by rfl) s (df (aK z) (ug s (by rw[XT,VH];lia) ?_));let P:=(VI.mp s).1;show next _ _ ⟨G++[r],_,_,_,rfl,by rw[Wu,v];rfl,λk Z=>?_,by rw[VX P,JR],(u.cell (VP m)).mono (by lia),l.set (VL _)⟩
     rw[nQ,v];by_cases h:k<i
     . rw[VN h];show R k h
     . have:k=i:=by lia
       subst this;rw[VM h,VN rfl];show⟨by lia,J,I,λc y S=>H c y (by lia)⟩
   . rintro t σ a F ht ⟨r,j,rfl,z,L,J,I,H,s,u,l⟩ next';show⟨_,rfl,?_⟩;let hj:i+1+t<g.length:=by lia
     let T:dN (ao g) ((i:Int)+1+(t:Int))=some (.int (g.getD (i+1+t) 0)):=fB hj;let hx:g.getD (i+1+t) 0∈g:=getD_mem hj;let ah:=M _ hx;show xt (by rfl) z (aJ (A _ l) T ⟨n,_,_,rfl,u,by lia,by lia,by lia,λx ag x0 x1 B2 V=>?_⟩);let W:d.length≠n:=Xa o;let q:=(V.same _ W).trans z;let N:=(VI.mp q).1;show ug q (by rw[XT,VH];lia) ?_;let ne:d.length≠f.length:=by lia
     show next' _ _ ⟨r++[x],_,rfl,by rw[VX N,ints_app],by rw[Wu,L];rfl,λc Q=>?_,?_,λc y S=>?_,(VP ne).trans ((V.same _ m).trans s),(B2.cell (VP W)).mono (by lia),(l.trans (XU.upd V)).set U.len⟩
     . rw[nQ,VN (by lia)];show J c Q
     . rw[nQ,VN (by lia)];show I
     . rw[nQ,L];by_cases h:c<i+1+t
       . rw[VN h];show H c y h
       . have:c=i+1+t:=by lia
         subst this;rw[VM h,VN rfl];show⟨x0,x1⟩
   . rw[nQ,YZ,VN Q];show Mx.dY _ _
   . rw[nQ,YZ,VM (Xz i),VN rfl]
def pE:bW:=λd a K=>∃(n:Nat) (b:Int),d=[.ref n,.int 60]/\Bx a n b/\b<=900000/\∀(c:List Int) (w:Nat) st',c.length=w->1<=w->w<=8->(∀x∈c,1<=x)->Mx.PN c<=60->st'[a.length]?=some (.lst (ao c))->Bx st' n (b+9)->XU a n st'->K (.ref a.length) st'
def u5:List Str:=["_law_source_here","_law_most","_law_wide","_law_leads_here","_law_k","_law_at","_law_more","_law_room","_law_one"]
def Dc:DS:=(au (aT 2 (ak f9 (dC (.int 1)) (av cm (ab (aa 0) (ab (dC (.int 4)) ai)))))
 (au (eG (bH (ak ki (av cm (ab (aa 0) (ab (dC (.int 8)) ai))) (dC (.int 5)))) (aT 2 (ak f9 (dC (.int 6)) (av cm (ab (aa 0) (ab (dC (.int 3)) ai))))) du)
 (au (aT 3 (ak uh (qZ (ab (dC (.int 1)) ai)) (aa 2)))
 (au (ft (eS (ab (dC (.int 3)) ai)) (bz 4) (au (aT 5 (av cm (ab (aa 0) (ab (aa 2) ai))))
 (au (aT 6 (ak f9 (dC (.int 1)) (av cm (ab (aa 0) (ab (dC (.int 6)) ai)))))
 (au (aT 7 (aa 1))
 (au (ft (dR (aa 3)) (bz 8) (aT 7 (ak mF (aa 7) (aa 8))))
 (eQ (aa 3) (aa 5) (ak dQ (ak bh (aa 3) (aa 5)) (bI wj (ab (aa 6) (ab (bI BL (ab (dC (.int 1)) (ab (aa 7) ai))) ai))))))))))
 (bC (aa 3))))))
def NU{k:Nat}{b:DE}{B:DS}{E:kG}{σ:bO}{st:ae}(h:b σ st λd a=>B E (σ.set k (some d)) a):au (aT k b) B E σ st:=h
def OP(n:Nat):(List.replicate n [D.int 1]).flatten=ao (List.replicate n 1):=by
 induction n with
 |zero=>rfl
 |succ n a=>rw[W3,XN,a,W3];rfl
def ints_set{s:List Int}:(ao s).set l (.int z)=ao (s.set l z):=by unfold ao;rw[Z_]
def BB:VE pE 2 Dc u5:=by
 rintro ds m K ⟨n,b,rfl,B,hb,k⟩;show⟨rfl,?_⟩;show⟨n,4,b,rfl,B,by lia,by decide,by decide,λr0 ah a0 a1 B0 U0=>gy ?_⟩;dsimp only;show nO (λC c=>∃w:Nat,1<=w/\w<=8/\C=[some (.ref n),some (.int 60),some (.int (w:Int)),none,none,none,none,none,none]/\Bx c n (b+3)/\Upd m n c) (λnx o=>?_) ?_
 . show⟨n,8,_,rfl,B0,by lia,by decide,by decide,λr1 E c0 c1 I A=>?_⟩;show eq2 (λ_=>fe ?_) λ_=>?_
   . show⟨n,3,_,rfl,I,by lia,by decide,by decide,λr2 R d0 d1 B2 U2=>gy ?_⟩;obtain⟨w,Y⟩:=WL (show 0<=6+r2 by lia);show o _ _ ⟨w,by lia,by lia,by rw[Y];rfl,B2.mono (by lia),(U0.trans A).trans U2⟩
   . obtain⟨w,Y⟩:=WL (show 0<=1+r0 by lia);show o _ _ ⟨w,by lia,by lia,by rw[Y];rfl,I.mono (by lia),U0.trans A⟩
 rintro C E ⟨w,w1,w8,rfl,I,A⟩;show O6 (V1 rfl) (D3 ⟨by lia,by lia,cv (by simp;lia)⟩ ?_);rw[V7,OP,A.len];let hn:=B.lt;let s:m.length≠n:=Xa hn;let X1:XU m n (E++[Cell.lst (ao (List.replicate w 1))]):=(XU.upd A).trans (XU.ext Ext.push);show fO ⟨by decide,by decide⟩ ?_;show i4 3 (λj σ c=>∃(g:List Int) (Q P O N i:Option D),σ=[some (.ref n),some (.int 60),some (.int (w:Int)),some (.ref m.length),Q,P,O,N,i]/\c[m.length]?=some (.lst (ao g))/\g.length=w/\(∀x∈g,1<=x)/\Mx.PN g<=60/\Bx c n (b+3+2*j)/\XU m n c) ?_ ?_ ⟨List.replicate w 1,none,none,none,none,none,rfl,?_,by simp,λx F=>by rw[(List.mem_replicate.mp F).2];show aa5 _,by rw[Mx.Hi];decide,(I.cell (VR I.lt)).mono (by simp),X1⟩
 . rintro σ c ⟨g,Q,P,O,N,i,rfl,e,W,u,L,B',X'⟩;show k g w c W w1 w8 u L e (B'.mono (by lia)) X'
 . rintro j σ R rest hj ⟨g,Q,P,O,N,i,rfl,e,W,u,L,B2,X2⟩ next
   show⟨_,rfl,?_⟩;show⟨n,_,_,rfl,B2,by lia,by lia,by lia,λra ag a0 a1 B3 U3=>?_⟩;obtain⟨p,rfl⟩:=WL a0;show⟨n,6,_,rfl,B3,by lia,by decide,by decide,λJ q c0 c1 B4 U4=>gy ?_⟩;let M:q[m.length]?=some (.lst (ao g)):=(U4.same _ s).trans ((U3.same _ s).trans e);let l4:=(VI.mp M).1;let t:p<g.length:=by lia
   dsimp only;show NU ?_;dsimp only[aa];show nO (λC c=>c=q/\∃(a:Int) (i:Option D),C=[some (.ref n),some (.int 60),some (.int (w:Int)),some (.ref m.length),some (.int (j:Int)),some (.int (p:Int)),some (.int (1+J)),some (.int a),i]/\a=60/Mx.PN g) (λnx o=>?_) ?_
   . show m7 (aK M) λok aH=>?_;show dS (λrest σ c=>c=q/\∃(a:Int) (i:Option D) (l:List Int),rest=ao l/\(∀x∈l,x∈g)/\σ=[some (.ref n),some (.int 60),some (.int (w:Int)),some (.ref m.length),some (.int (j:Int)),some (.int (p:Int)),some (.int (1+J)),some (.int a),i]/\a/Mx.PN l=60/Mx.PN g) ?_ ?_ _ _ _ ⟨rfl,60,i,g,rfl,λ_ h=>h,rfl,rfl⟩
     . rintro σ c ⟨rfl,a,i,l,U,_,rfl,G⟩
       let V:l=[]:=by
        cases l with
        |nil=>rfl
        |cons x l=>cases U
       subst V;show⟨aH,o _ _ ⟨rfl,a,i,rfl,by rw[<-G];show(Int.ediv_one _).symm⟩⟩
     . rintro d rest σ c ⟨rfl,a,i,l,z,H,rfl,G⟩ S;match l,z,H,G with
       |y::l,z,H,G=>
        obtain⟨rfl,rfl⟩:=Xg z;let y1:=u y (H y V6);let y2:=Xj (Mx.wW u (H y V6)) L
        let p6:(6:Int)^j<=216:=by
         let:j=0\/j=1\/j=2:=by lia
         rcases this with rfl|rfl|rfl<;>decide
        show⟨aH,_,rfl,nS (by lia) (oY (by lia) (by lia)) (S _ _ ⟨rfl,_,_,l,rfl,λx F=>H x (VZ _ F),rfl,by rw[<-G,Yy _ (by lia)];show Int.ediv_ediv_of_nonneg (by lia)⟩)⟩
   rintro C c ⟨rfl,a,i,rfl,r⟩;show aJ (aK M) (fB t) (P8 (CD ?_));generalize Z:(if(if a>1 then a else 1)<1+J then(if a>1 then a else 1)else 1+J)=f
   let hf:1<=f/\f<=6:=by
    rw[<-Z];split<;>split at* <;>lia
   let X:Mx.PN g*f<=60:=by
    let p1:=Mx.wD u;let q1:=Int.mul_ediv_self_le (x:=60) (k:=Mx.PN g) (by lia);rw[<-r]at q1;let v:f<=(if a>1 then a else 1):=by rw[<-Z];split<;>lia
    by_cases z:a>1
    . rw[VN z]at v;show Xj (YV v (by lia)) q1
    . rw[VM z]at v;rw[show f=1 by lia,Xs];show L
   clear Z;show eA (hV (by lia) (by lia)) (fu M (mY (by lia) (by rw[VH];lia)) ?_);rw[V7,ints_set];let F:g.getD p 0∈g:=getD_mem t;show next _ _ ⟨_,_,_,_,_,_,rfl,VX l4,by rw[V0];show W,λx T=>?_,?_,(B4.cell (VP s)).mono (by lia),(X2.trans (XU.upd (U3.trans U4))).set (VL _)⟩
   . rcases WA T with h|h
     . show u x h
     . have:=u _ F;let:=abj this hf.1 (by decide) (Xj (by decide) this);rw[h];show this
   . rw[Mx.IQ t];show X
 . rw[<-A.len,V_ (VL _),W9];rfl
def eC(ns:List Int)(R:List (List Int))(r:List Int)(w:Nat):List Int:=(List.range w).map λq=>(Mx.vR (λc=>r.getD c 0) R w q).fmod (ns.getD q 0)
def gu:bW:=λg f K=>∃(e:List Int) (a b c dr:D) (R:List (List Int)) (r:List Int) (w:Nat),g=[.tup [aZ e,a,b,ay R,c],dr]/\e.length=w/\(∀x∈e,0<x)/\Mx.aO w w R/\w<=8/\items? f dr=some (ao r)/\r.length=w/\(∀x∈r,x.natAbs<=2^60)/\∀d,Ext f d->K (aZ (eC e R r w)) d
def xo:List Str:=["_law_told","_law_row","_law_right","_law_seen_here","_law_k","_law_number_here"]
def Gq:DS:=(au (aT 2 (ak bh (aa 0) (dC (.int 3))))
 (au (aT 3 (tP ai))
 (au (ft (o5 (ab (ak bh (aa 0) (dC (.int 0))) ai)) (gQ 4 5) (eN (ky (aa 3) (ak jL (bI A8 (ab (di (yG (ab (aa 1) (ab (aa 2) ai))) [none,none,some 4] (gQ 0 1) cy (ak dQ (aa 0) (ak bh (aa 1) (aa 2)))) ai)) (aa 5)))))
 (bC (bI dO (ab (aa 3) ai))))))
def J5{ns:List Int}(a: []=dE i ((ao ns).drop i)):ns.length<=i:=by
 rcases WQ i ns.length with h|h
 . rw[Wa (by rw[VH];show h)]at a;cases a
 . show h
def Dp:VE gu 2 Gq xo:=by
 rintro ds z K ⟨t,a,b,c,S,R,r,w,rfl,Y,B,G,U,C,W,T,k⟩;show⟨rfl,aJ rfl rfl ⟨V3 _,?_⟩⟩;let Z:=G.len;show aJ rfl rfl (nP (xs:=ao t) rfl λok H=>?_);show dS (λrest σ s=>∃(i:Nat) (y x:Option D),i<=w/\rest=dE i ((ao t).drop i)/\σ=[some (.tup [aZ t,a,b,ay R,c]),some S,some (ay R),some (.ref z.length),y,x]/\s[z.length]?=some (.lst (ao ((List.range i).map λq=>(Mx.vR (λc=>r.getD c 0) R w q).fmod (t.getD q 0))))/\Ext z s) ?_ ?_ _ _ _ ⟨0,none,none,V3 _,rfl,rfl,aao,Ext.push⟩
 . rintro σ s ⟨i,y,x,M,g,rfl,e,X⟩;let P:i=w:=by let:=J5 g;lia
   subst P;show⟨H _ rfl,df (aK e) (k s X)⟩
 . rintro d rest σ s ⟨i,y,x,M,g,rfl,e,X⟩ next
   obtain⟨F,rfl,rfl⟩:=zf g;let E:i<w:=by lia
   let V:0<t.getD i 0:=B _ (getD_mem F);show⟨H _ rfl,_,rfl,xt (by rfl) e (wL (X.items C) rfl λI n=>⟨cv (by rw[rm];simp;lia),?_⟩)⟩;let v:∀ {j:Nat},j<w->j<(ao r).length:=λh=>by rw[VH];lia
   let u:∀ {j:Nat},j<w->j<(R.map aZ).length:=λh=>by rw[VH];lia
   show eK (λl p A=>A=s/\∃j:Nat,j<=w/\l=iI ((ao r).drop j) ((R.map aZ).drop j)/\p=ao ((List.range j).map λq=>r.getD q 0*Mx.g R q i)) ?_ ?_ _ _ _ ⟨rfl,0,V3 _,rfl,rfl⟩
   . rintro p A ⟨rfl,j,L,f,rfl⟩
     let O:j=w:=by
      rcases WQ j w with h|h
      . rw[Wa (v h),Wa (u h)]at f;cases f
      . lia
     subst O;show⟨n _ (X.items C) rfl,Pd (L3.ints_map _) ?_⟩;rw[y_];show iw (by lia) (ug e (by rw[XT,VH,VH,aaA];lia) ?_);show next _ _ ⟨i+1,_,_,E,rfl,rfl,?_,X.set (VL _)⟩
     rw[VX (VI.mp e).1,ints_app,Yj,W_];rfl
   . rintro d2 l p A ⟨rfl,j,L,f,rfl⟩ o
     let m:j<w:=by
      rcases WQ j w with h|h
      . show h
      . rw[WJ (by rw[VH];lia)]at f;cases f
     rw[Wa (v m),Wa (u m),Wz,Wz]at f;let J:∀(a b:D) (as bs:List D),iI (a::as) (b::bs)= .tup [a,b]::iI as bs:=λ_ _ _ _=>rfl;rw[J]at f;obtain⟨rfl,rfl⟩:=Xg f;let N:r[j]'(by lia)=r.getD j 0:=by rw[Mx.aq (by lia)]
     let Q:R[j]'(by lia)=R.getD j []:=by rw[Mx.aq (by lia)]
     rw[N,Q];let bj:=T _ (getD_mem (r:=r) (k:=j) (by lia));show⟨n _ (X.items C) rfl,_,rfl,aJ rfl (fB (by let:=G.row m;lia)) (eA (gY (by lia) (by lia)) ?_)⟩;change cR _ _ _ _ _ _ _ _ _;rw[ints_app];show o _ _ ⟨rfl,j+1,m,rfl,?_⟩;rw[Yj,W_];rfl
def jJ:bW:=λd b K=>∃(A G:List (List Int)) (x:List Int) (N w o:Nat) (f:Bool),d=[ay A,aZ x,.int o]/\Ew A N w G w (λi=>i)/\Wd G w w (λi=>i)/\x.length=w/\(∀c,c<w->0<=x.getD c 0/\x.getD c 0<Mx.g G c c)/\0<o/\o<=1000/\(∀m:Int,Mx.aD G w w (λc=>m*x.getD c 0)↔(o:Int)∣m)/\b[0]?=some (cS f)/\∀a,K (.bl true) a
def nC:List Str:=["_law_rows","_law_rest","_law_order","_law_sum_so_far","_law_many"]
def uH:DS:=(au (aT 3 (aa 1))
 (au (ft (lI (ab (dC (.int 1)) (ab (aa 2) ai))) (bz 4) (au (eG (gN (bH (bI uC (ab (aa 3) ai)))) (bC (dC (.bl false))) du)
 (aT 3 (av kR (ab (aa 0) (ab (aa 3) (ab (aa 1) ai)))))))
 (bC (Au (bH (bI uC (ab (aa 3) ai)))))))
def Ga{h:fI}{b:DS}{E:kG}(a n:Nat)(I:Nat->bO->ae->Prop)(k:∀σ st,I n σ st->E.nx σ st)
 (f:∀(j:Nat) σ st (rest:List D),j<n->I j σ st->(∀o e,I (j+1) o e->fG h b (λ_=>True) E rest o e)->∃l,h (.int ((a+j:Nat):Int)) σ=some l/\b {E with nx:=fG h b (λ_=>True) E rest,ct:=fG h b (λ_=>True) E rest,bk:=E.nx} l st)
 {σ:bO} {st:ae} (u:I 0 σ st):fG h b (λ_=>True) E (cM (a:Int) n) σ st:=by
 show dS (λrest σ st=>∃j:Nat,j<=n/\rest=(List.range (n-j)).map (λi=>D.int (((a+(j+i):Nat):Int)))/\I j σ st) ?_ ?_ _ _ _ ⟨0,V3 _,by unfold cM;simp,u⟩
 . rintro σ st ⟨j,s,c,r⟩
   let:n-j=0:=by
    cases q:n-j with
    |zero=>rfl
    |succ m=>rw[q,Wm]at c;cases c
   let p:j=n:=by lia
   subst p;show⟨trivial,k σ st r⟩
 . rintro d rest σ st ⟨j,s,c,r⟩ next
   cases q:n-j with
   |zero=>rw[q]at c;cases c
   |succ m=>
    rw[q,Wm,Wq,Wr]at c;simp![XQ]at c;obtain⟨rfl,g⟩:=c
    obtain⟨l,w,t⟩:=f j σ st rest (by lia) r λo e v=>next _ _ ⟨j+1,by lia,by
     let:n-(j+1)=m:=by lia
     rw[this,g];show Wy λi _=>?_;change D.int (((a+(j+(i+1)):Nat):Int))=D.int (((a+(j+1+i):Nat):Int));congr 2;lia,v⟩
    show⟨trivial,l,w,t⟩
def any_zero{r:List Int}:(r.any λn=>decide (n≠0))=false↔∀c,c<r.length->r.getD c 0=0:=by
 rw[List.any_eq_false];show⟨λq c a=>by simpa using q _ (getD_mem a),λq x b=>?_⟩;obtain⟨c,a,rfl⟩:=Wf.mp b;let:=q c a;rw[Mx.aq a]at this;simpa using this
def tL:VE jJ 3 uH nC:=by
 rintro Z S K ⟨A,G,x,N,w,o,f,rfl,t,h,q,B,V,U,J,F,k⟩;show⟨rfl,?_⟩;let W:=h.is.len
 let v:∀(y:List Int),y.length=w->(∀c,c<w->0<=y.getD c 0/\y.getD c 0<Mx.g G c c)->∀z∈y,z.natAbs<=2^10:=λy a b z I=>by
  obtain⟨c,r,rfl⟩:=Wf.mp I;let O:=b c (by lia);obtain⟨_,_,Y,_⟩:=h.lead (i:=c) (by lia);rw[Mx.aq r]at O;lia
 obtain⟨p,rfl⟩:∃p,o=p+1:=⟨o-1,by lia⟩
 show uq ⟨by decide,by decide,by lia,by lia⟩ ?_;rw[show(((p+1:Nat):Int)-1).toNat=p by lia]
 let d:∀(j:Nat) (y:List Int),y.length=w->(∀c,c<w->0<=y.getD c 0/\y.getD c 0<Mx.g G c c)->Mx.aD G w w (λc=>((1+j:Nat):Int)*x.getD c 0-y.getD c 0)->((y.any λn=>decide (n≠0))=false↔((p+1:Nat):Int)∣((1+j:Nat):Int)):=λj y a b g=>by
  rw[any_zero,<-J];let l:Mx.ll G w w (λi=>i) (λc=>((1+j:Nat):Int)*x.getD c 0) w (λc=>y.getD c 0):=⟨g,λk L=>b k L⟩
  let:=l.zero h.st;rw[<-this,a]
 show Ga 1 p (λj σ s=>∃(y:List Int) (m:Option D) (f:Bool),σ=[some (ay A),some (aZ x),some (.int ((p+1:Nat):Int)),some (aZ y),m]/\y.length=w/\(∀c,c<w->0<=y.getD c 0/\y.getD c 0<Mx.g G c c)/\Mx.aD G w w (λc=>((1+j:Nat):Int)*x.getD c 0-y.getD c 0)/\s[0]?=some (cS f)) ?_ ?_ ⟨x,none,f,rfl,q,B,Mx.aD.zero λc _=>by lia,F⟩
 . rintro σ s ⟨y,m,C,rfl,a,b,g,u⟩;show EC (L3.ints_map _) ?_;rw[(d p y a b g).mpr ⟨1,by lia⟩];show k s
 . rintro j σ s rest X ⟨y,m,C,rfl,a,b,g,u⟩ next
   show⟨_,rfl,EC (L3.ints_map _) ?_⟩
   let M:(y.any λn=>decide (n≠0))=true:=by
    cases e:(y.any λn=>decide (n≠0))with
    |true=>rfl
    |false=>
     have:=(d j y a b g).mp e;let:=ZC (by lia) this;lia
   rw[M];show⟨_,_,_,A,G,y,x,N,w,w,10,λi=>i,C,rfl,cq,t,h,rfl,rfl,a,q,v y a b,v x q B,u,λT R Q H _ l=>?_⟩;obtain⟨P,E⟩:=Q.tb;show next _ _ ⟨R,_,P,rfl,H,λc r=>l.red c r,?_,E⟩
   show(Mx.aD.vS 1 g l.sum).eq λc _=>?_;rw[WZ,show((1+(j+1):Nat):Int)=((1+j:Nat):Int)+1 by lia,aa7,WZ];lia
abbrev LL:bW:=G7 Ru
def M0:List Str:=["_law_script","_law_source_here","_law_form_here","_law_rows","_law_told","_law_rests","_law_added_up","_law_number_here","_law_row","_law_one","_law_other","_law_due","_law_order"]
def RH:DS:=(au (aT 1 (av nY (ab (aa 0) (ab (dC (.int 0)) ai))))
 (au (aT 2 (av qV (ab (aa 1) (ab (av pE (ab (aa 1) (ab (dC (.int 60)) ai))) ai))))
 (au (aT 3 (av oM (ab (aa 1) (ab (aa 2) ai))))
 (au (aT 4 (av qw (ab (aa 3) ai)))
 (au (aT 5 (av pv (ab (aa 3) ai)))
 (au (aT 6 (dC (.int 1)))
 (au (ft (dR (ak bh (aa 4) (dC (.int 0)))) (bz 7) (aT 6 (ak dQ (aa 6) (aa 7))))
 (au (eG (oC (bH (ak mM (bI cT (ab (ak bh (aa 4) (dC (.int 0))) ai)) (bI cT (ab (aa 2) ai)))) (gN (bH (av jX (ab (aa 3) (ab (aa 4) ai)))))) (bC (dC (.bl false))) du)
 (au (eG (oC (bH (ak mM (bI xl (ab (di (dR (aa 5)) [none,some 4] (bz 0) cy (av gu (ab (aa 1) (ab (aa 0) ai)))) ai)) (bI cT (ab (aa 5) ai)))) (bH (ak mM (bI cT (ab (aa 5) ai)) (aa 6)))) (bC (dC (.bl false))) du)
 (au (aT 8 (bI dO (ab (di (eS (ab (bI cT (ab (aa 2) ai)) ai)) [none,some 1] (bz 0) cy (av oF (ab (aa 1) ai))) ai)))
 (au (eG (bH (ak vk (av gu (ab (aa 4) (ab (av kR (ab (aa 3) (ab (aa 8) (ab (ak dQ (pH (ab (dC (.int 0)) ai)) (bI cT (ab (aa 2) ai))) ai)))) ai))) (av gu (ab (aa 4) (ab (aa 8) ai))))) (bC (dC (.bl false))) du)
 (au (aT 9 (ak bh (aa 5) (av cm (ab (aa 1) (ab (bI cT (ab (aa 5) ai)) ai)))))
 (au (aT 10 (ak bh (aa 5) (av cm (ab (aa 1) (ab (bI cT (ab (aa 5) ai)) ai)))))
 (au (aT 11 (di (E8 (ab (av gu (ab (aa 4) (ab (aa 9) ai))) (ab (av gu (ab (aa 4) (ab (aa 10) ai))) (ab (ak bh (aa 4) (dC (.int 0))) ai)))) [none,none,none] (nK 0 1 2) cy (ak jL (ak f9 (aa 0) (aa 1)) (aa 2))))
 (au (eG (bH (ak vk (av gu (ab (aa 4) (ab (av kR (ab (aa 3) (ab (aa 9) (ab (aa 10) ai)))) ai))) (bI dO (ab (aa 11) ai)))) (bC (dC (.bl false))) du)
 (au (aT 12 (av oh (ab (aa 3) (ab (aa 9) ai))))
 (bC (oX (ak uF (aa 12) (dC .az)) (oX (ak zq (aa 12) (bI cT (ab (aa 5) ai))) (av jJ (ab (aa 3) (ab (aa 9) (ab (aa 12) ai)))))))))))))))))))))))
def El:∀(l:List Nat) (R:List (List Int)),l.foldl jH R=R.flatMap λr=>(Mx.bx l).map λy=>r++y.map λ(i:Nat)=>(i:Int)
 | [],R=>by
   change R=R.flatMap λr=>[r++[]]
   simp
 |d::l,R=>by
  rw[YM,El l];unfold jH yK;rw[List.flatMap_assoc];congr 1;funext r;change((List.range d).map λ(i:Nat)=>r++[(i:Int)]).flatMap _=(((List.range d).flatMap λi=>(Mx.bx l).map (i:: ·)).map _)
  rw[List.flatMap_map,List.map_flatMap];congr 1;funext i;rw[Wr];show Wy λy _=>?_;simp
def Bz(l:List Nat):gR l=(Mx.bx l).map λy=>y.map λ(i:Nat)=>(i:Int):=by
 unfold gR;rw[El];simp
def GP:∀ {ls:List Int},(∀x∈ls,1<=x)->∀a:Nat,(((ls.map Int.toNat).foldl (· * ·) a:Nat):Int)=a*Mx.PN ls
 | [],_,a=>by change(a:Int)=a*1;lia
 |x::ls,h,a=>by
  let c:=h x V6;rw[Wq,YM,GP λy b=>h y (VZ _ b)];change((a*x.toNat:Nat):Int)*Mx.PN ls=a*(x*Mx.PN ls);rw[YS,Xp (by lia),Ww]
def sZ(y:List Nat)(c:Nat):(y.map λ(i:Nat)=>(i:Int)).getD c 0=((y.getD c 0:Nat):Int):=by
 rw[VT,VT,V5];cases y[c]?<;>rfl
def DR{G:List (List Int)}{w:Nat}(h:∀i,i<w->0<Mx.g G i i):∀n,n<=w->DY G (λi=>i) n=((jf ((Mx.cz G w).take n):Nat):Int)
 |0,_=>rfl
 |n+1,a=>by
  rw[vP (by rw[Mx.iZ];lia),YS,<-DR h n (by lia),Mx.pR (by lia),Xp (by let:=h n (by lia);lia)];rfl
def D1:∀(l:List Int) (x:Int),Mx.PN (l++[x])=Mx.PN l*x
 | [],x=>by change x*1=1*x;lia
 |y::l,x=>by
  change y*Mx.PN (l++[x])=y*Mx.PN l*x;rw[D1 l x,Ww]
def GC{N:Int}(c:0<N):∀ {l:List Int},(∀x∈l,0<x/\x∣N)->((Mx.Ax N.toNat (l.map Int.toNat):Nat):Int)=Mx.PN l
 | [],_=>rfl
 |x::l,h=>by
  obtain⟨g,f⟩:=h x V6;change((Nat.gcd N.toNat x.toNat*Mx.Ax N.toNat (l.map Int.toNat):Nat):Int)=x*Mx.PN l;rw[YS,GC c λy d=>h y (VZ _ d)]
  let e:Nat.gcd N.toNat x.toNat=x.toNat:=Nat.gcd_eq_right (by
   obtain⟨q,rfl⟩:=f;let i:0<q:=Int.pos_of_mul_pos_right c g;show⟨q.toNat,?_⟩;let:=Int.toNat_mul (a:=x) (b:=q) (by lia) (by lia);show this)
  rw[e,Xp (by lia)]
def yy{G A B L m R k:List (List Int)}(f:Mx.Rg A G B L m R k N w x){u v:List Int}:eC (dg B w) R u w=eC (dg B w) R v w↔Mx.aD G w w λc=>u.getD c 0-v.getD c 0:=by
 let b:∀q,q<w->(dg B w).getD q 0=Mx.g B q q:=λq a=>by
  unfold dg;rw[Mx.aq (by simpa using a),Wz,Xk]
 let g:∀q,q<w->0<Mx.g B q q:=λq a=>f.ch.lo.pos q a
 let d:∀q,q<w->((Mx.vR (λc=>u.getD c 0) R w q).fmod (Mx.g B q q)=(Mx.vR (λc=>v.getD c 0) R w q).fmod (Mx.g B q q)↔Mx.g B q q∣Mx.vR (λc=>u.getD c 0-v.getD c 0) R w q):=λq a=>by
  let e:=Mx.oP (R:=R) (w:=w) (j:=q) 1 (-1) (λc=>u.getD c 0) λc=>v.getD c 0;let i:(λc=>1*u.getD c 0+ -1*v.getD c 0)=λc=>u.getD c 0-v.getD c 0:=funext λc=>by lia
  rw[i]at e;rw[e,W6 _ (by let:=g q a;lia),W6 _ (by let:=g q a;lia),WZ,Yp,WZ];show Zg.trans (by rw[Yd];show Int.dvd_iff_emod_eq_zero.symm)
 rw[f.jE];unfold eC;show⟨λh q a=>(d q a).mp ?_,λh=>Wy λq a=>?_⟩
 . have:=XB (λl=>l.getD q 0) h;rw[Mx.range_getD a,Mx.range_getD a,b q a]at this;show this
 . have a:=WU.mp a;rw[b q a];show(d q a).mpr (h q a)
def qS:(eC ns R r w).length=w:=by unfold eC;simp
def Qi:VE LL 1 RH M0:=by
 rintro ds Y K ⟨ns,rfl,hl,b2,k⟩;show⟨rfl,?_⟩;let t0:Y[0]?=some (cS false):=by rw[b2];rfl
 clear b2;let l0:=(VI.mp t0).1;let nz:Y.length≠0:=by lia
 show⟨ns,0,rfl,by lia,hl,λbj B1 X1=>?_⟩;show⟨_,_,rfl,B1,by decide,λls w Q dk w1 H ah pn e2 B2 X2=>?_⟩;let n1:=B1.lt;let c8:bj.length≠Y.length:=by lia
 let bl:∀x∈ls,x<=60:=λx I=>Xj (Mx.wW ah I) pn;show⟨_,_,_,ls,w,rfl,B2,by decide,λec X=>aK (X.at e2 c8),dk,H,λx I=>⟨ah x I,by let:=bl x I;lia⟩,λG c2 lG hU e3 B3 X3=>?_⟩
 let Z:Mx.aO w w G:=⟨lG,λr v=>by
  obtain⟨i,f,rfl⟩:=Wf.mp v;let:=(hU i (by lia)).len;rwa [Mx.aq f]at this⟩
 let gG:∀i c,Mx.g G i c=(G.getD i []).getD c 0:=λ_ _=>rfl
 let C:∀c,c<w->1<=ls.getD c 0/\ls.getD c 0<=60:=λc U=>by
  let hm:ls.getD c 0∈ls:=getD_mem (by lia);show⟨ah _ hm,bl _ hm⟩
 let dG:∀i,i<w->Mx.g G i i=ls.getD i 0:=λi f=>(hU i f).at';let P:Mx.bQ G w w λi=>i:=⟨λi f=>⟨f,by rw[dG i f];let:=C i f;lia,λc U=>(hU i f).lo c U⟩,λi j bu _=>bu⟩
 let bR:Mx.td G w λi=>i:=λi j bu M=>by
  let:=(hU i (by lia)).up j bu M;change 0<=Mx.g G i j/\Mx.g G i j<Mx.g G j j;rw[dG j M];show this
 let bG:∀i j,i<w->j<w->(Mx.g G i j).natAbs<=60:=λi j f M=>by
  rcases YD j i with h|h|h
  . rw[gG,(hU i f).lo j h];decide
  . subst h;rw[dG j M];let:=C j M;lia
  . rw[gG];let:=(hU i f).up j h M;let:=C j M;lia
 show⟨_,_,_,G,w,w,60,rfl,B3,by decide,⟨_,aK e3,cw.tup⟩,Z,w1,H,H,oi Z bG,λA bF mx B4 X4=>?_⟩;let sf:Mx.Sf A w w G w λi=>i:=⟨mx.is,Z,P,bR,mx.same.symm,λi j f M=>VU (Jo mx.is mx.bd i j f M) (by decide),λi j f M=>VU (bG i j f M) (by decide)⟩
 let a3:Ew A w w G w λi=>i:=⟨mx.is,Z,P,bR,sf.sm,Mx.oK mx.is sf.bA,w1,H,H⟩
 let t1:bj[0]?=some (cS false):=(X1.same 0 l0).trans t0;let t2:Q[0]?=some (cS false):=(X2.same 0 (VI.mp t1).1 (VO nz)).trans t1;let t3:c2[0]?=some (cS false):=(X3.same 0 (VI.mp t2).1 (VO nz)).trans t2;let t4:bF[0]?=some (cS false):=(X4.same 0 (VI.mp t3).1 (VO nz)).trans t3;show⟨_,A,w,w,false,rfl,λ_=>cq,mx.is,w1,w1,H,H,sf.two H H,t4,λea B L Lb R Rb r N K5=>?_⟩;let er:w=r:=(Mx.IZ N.sd ⟨N.lo,N.dg,N.ch⟩ sf.sm P).symm;subst er;let rg:Mx.Rg A G B L Lb R Rb w w _:=⟨N.sd,⟨N.lo,N.dg,N.ch⟩,P,sf.sm⟩
 obtain⟨f5,t5⟩:=K5.tb
 let eb:Mx.cz G w=ls.map Int.toNat:=List.ext_getElem? λq=>by
  unfold Mx.cz;rw[V5,V5];by_cases J:q<w
  . rw[Zc J,VV (show q<ls.length by lia)];change some (Mx.g G q q).toNat=some (ls[q]).toNat;rw[dG q J,Mx.aq (by lia)]
  . rw[Yc (by simpa using J),Yc (by lia)];rfl
 let d3:jf (Mx.cz G w)<=60:=by
  let:=GP ah 1;rw[eb];unfold jf;lia
 let ag:∀i,i<w->0<Mx.g G i i:=λi f=>(P.lead i f).2.1;show⟨_,A,G,w,w,w,λi=>i,f5,Mx.cz G w,rfl,λ_=>cq,a3,t5,rfl,⟨Mx.iZ,λx I=>?_,λi f=>?_⟩,by lia,λcI B6=>?_⟩
 . rw[eb]at I;obtain⟨z,t,rfl⟩:=Wi.mp I;let:=ah z t;let:=bl z t;lia
 . rw[Mx.pR f,Xp (by let:=ag i f;lia)]
 obtain⟨f6,t6⟩:=B6.tb
 let dr:DY G (λi=>i) w=((jf (Mx.cz G w):Nat):Int):=by
  rw[DR ag w (VL _),Xm (by rw[Mx.iZ];show VL _)]
 let c9:(Mx.bx (Mx.cz G w)).length=jf (Mx.cz G w):=by
  let h2:=xT (Mx.cz G w);rwa [Bz,VH]at h2
 let bg:0<Mx.g B (w-1) (w-1):=N.lo.pos _ (by lia)
 let O:∀x∈dg B w,0<x/\x∣Mx.g B (w-1) (w-1):=λx I=>by
  unfold dg at I;obtain⟨q,J,rfl⟩:=Wi.mp I;let J:=WU.mp J;show⟨N.lo.pos q J,?_⟩;by_cases e:q=w-1
  . rw[e];show XI _
  . show N.ch q (w-1) (by lia) (by lia)
 let dp:Mx.PN (dg B w)=((jf (Mx.cz G w):Nat):Int):=by
  let h1:=rg.count (n:=(Mx.g B (w-1) (w-1)).toNat) (by lia) (p:=λ_=>true) λy _=>⟨λ_=>by rw[Xp (by lia)];show rg.top w1 _,λ_=>rfl⟩
  rw[List.filter_eq_self.mpr (λ_ _=>rfl),c9]at h1;let e2:Mx.cz B w=(dg B w).map Int.toNat:=by unfold Mx.cz dg;rw[Wr];rfl
  rw[e2]at h1;rw[<-GC bg O,<-h1]
 let dB:∀x∈dg B w,x<=60:=λx I=>by
  let:=Mx.wW (ls:=dg B w) (λy hy=>by let:=(O y hy).1;lia) I;lia
 let d1:∀x∈dg B w,1<=x:=λy hy=>by let:=(O y hy).1;lia
 show aJ rfl rfl (gZ ?_);show dS (λrest σ s=>s=cI/\∃(p q:List Int) (v7:Option D),dg B w=p++q/\rest=ao q/\σ=[some (.lst (ns.map .int)),some (.ref Y.length),some (.ref Q.length),some (ay A),some (.tup [aZ (dg B w),ay L,ay Lb,ay R,ay Rb]),some (.tup ((gR (Mx.cz G w)).map aZ)),some (.int (Mx.PN p)),v7,none,none,none,none,none]) ?_ ?_ _ _ _ ⟨rfl,[],dg B w,none,rfl,rfl,rfl⟩;rotate_left 1
 . rintro d rest σ s ⟨rfl,p,q,v7,aU,v,rfl⟩ next
   cases q with
   |nil=>cases v
   |cons x q=>
    obtain⟨rfl,rfl⟩:=Xg v;let I:x∈dg B w:=by rw[aU];simp
    let:=dB x I;let:=d1 x I;show⟨trivial,_,rfl,eA (hV (by lia) (by lia)) ?_⟩;show next _ _ ⟨rfl,p++[x],q,_,by rw[aU];simp,rfl,by rw[<-D1];rfl⟩
 rintro σ s ⟨rfl,p,q,v7,aU,v,rfl⟩
 let da:q=[]:=by
  cases q with
  |nil=>rfl
  |cons x q=>cases v
 subst da;rw[XD]at aU;subst aU;rw[dp];show⟨trivial,?_⟩;let eo:XU bj Y.length bF:=(X2.trans X3).trans X4
 let dy:∃dl,s[Q.length]?=some (.lst dl)/\dl.length=w:=by
  show⟨G.map aZ,?_,by rw[VH];show lG⟩;let h3:=(VI.mp e3).1;let n2:Q.length≠Y.length:=by let:=B2.lt;let:=X2.len;lia
  let h4:=(X4.same _ h3 n2).trans e3;let l4:=(VI.mp h4).1;let h5:=(K5.fr _ l4 (by let:=B2.lt;lia)).trans h4;let l5:=(VI.mp h5).1;show(B6.fr _ l5 (by let:=B2.lt;lia)).trans h5
 obtain⟨dl,S,br⟩:=dy;let B6':Bx s Y.length _:=(B4.cell (K5.fr _ B4.lt nz)).cell (B6.fr _ (B4.cell (K5.fr _ B4.lt nz)).lt nz)
 let wd:Wd G w w λi=>i:=⟨Z,P,H,H,λr v x I=>by
  obtain⟨i,f,rfl⟩:=Wf.mp v;obtain⟨j,M,rfl⟩:=Wf.mp I;let li:i<w:=by lia
  let lj:j<w:=by rw[<-Z.gw _ v];show M
  let e:(G[i])[j]=Mx.g G i j:=by unfold Mx.g;rw[Mx.aq f,Mx.aq M]
  rw[e];rcases YD j i with h|h|h
  . rw[gG,(hU i li).lo j h];decide
  . subst h;rw[dG j lj];let:=C j lj;lia
  . rw[gG];let:=(hU i li).up j h lj;let:=C j lj;lia⟩
 let g:∀(y:List Int),y.length=w->(∀c,c<w->0<=y.getD c 0/\y.getD c 0<Mx.g G c c)->∀z∈y,z.natAbs<=2^10:=λy ly hy z t=>by
  obtain⟨c,U,rfl⟩:=Wf.mp t;let h1:=hy c (by lia);let h2:=dG c (by lia);let h3:=C c (by lia);rw[Mx.aq U]at h1;lia
 let up:∀ {y:List Int} {a b:Nat},a<=b->(∀z∈y,z.natAbs<=2^a)->∀z∈y,z.natAbs<=2^b:=λh q z t=>VU (q z t) (Wh (by decide) h)
 let ar:∀u∈gR (Mx.cz G w),u.length=w/\∀c,c<w->0<=u.getD c 0/\u.getD c 0<Mx.g G c c:=λu hu=>by
  rw[Bz]at hu;obtain⟨y,hy,rfl⟩:=Wi.mp hu;obtain⟨h1,h2⟩:=Mx.jT.mp hy;rw[Mx.iZ]at h1 h2;show⟨by rw[VH];show h1,λc U=>?_⟩;rw[sZ];let:=h2 c U;rw[Mx.pR U]at this;let:=ag c U;lia
 let E:(gR (Mx.cz G w)).length=jf (Mx.cz G w):=xT _;let F:∀x∈dg B w,0<x:=λx I=>(O x I).1;show aJ rfl rfl (cj rfl (cj (aK S) ?_));rw[VH,fQ,br];show D0 rfl ?_;show⟨A,B,L,Lb,R,Rb,w,w,w,rfl,N,w1,w1,H,H,λi j f M=>VU (Jo mx.is mx.bd i j f M) (by decide),λs7 Y7=>?_⟩;show gZ ⟨cv (by rw[VH,E];lia),?_⟩;show eK (λrest m s3=>∃j:Nat,j<=(gR (Mx.cz G w)).length/\rest=((gR (Mx.cz G w)).map aZ).drop j/\m=(((gR (Mx.cz G w)).take j).map λu=>aZ (eC (dg B w) R u w))/\Ext s s3) ?_ ?_ _ _ _ ⟨0,V3 _,rfl,rfl,Y7⟩;rotate_left 1
 . rintro x rest m s3 ⟨j,M,v,rfl,X3⟩ next
   obtain⟨a4,rfl,rfl⟩:=drop_cons v;let hm:(gR (Mx.cz G w)).getD j []∈gR (Mx.cz G w):=by rw[Mx.aq a4];show WX _
   obtain⟨lu,ru⟩:=ar _ hm;show⟨trivial,_,rfl,dg B w,_,_,_,_,R,_,w,rfl,fQ,F,N.sd.iR,H,rfl,lu,up (by decide) (g _ lu ru),λs4 X4=>?_⟩;show next _ _ ⟨j+1,a4,rfl,?_,X3.trans X4⟩
   rw[Xy a4,W_,Mx.aq a4];rfl
 rintro m s8 ⟨j,M,v,rfl,X8⟩;let ej:j=(gR (Mx.cz G w)).length:=XR M (drop_nil v);subst ej;rw[aaR]
 let dj:((gR (Mx.cz G w)).map λu=>eC (dg B w) R u w).Nodup:=by
  rw[Bz,Wr];show YB.mpr (List.Pairwise.imp_of_mem (λ{y z} hy t dd e=>dd ?_) (Mx.rB _));show Mx.AX P y hy z t ((yy rg).mp e |>.eq λc _=>?_);rw[sZ,sZ]
 show⟨trivial,OF (rows:=(gR (Mx.cz G w)).map λu=>eC (dg B w) R u w) (by rw[Wr];rfl) dj (by rw[VH,E];lia) (cj rfl ?_)⟩;rw[VH,VH];show D0 rfl (cj rfl ?_);rw[VH,E];show D0 rfl ?_;let V:s8[Q.length]?=some (.lst dl):=(X8.same _ (VI.mp S).1).trans S;let B8:=B6'.cell (X8.same _ B6'.lt);let t8:s8[0]?=some (cS f6):=(X8.same 0 (VI.mp t6).1).trans t6;let n2:Q.length≠Y.length:=by let:=B2.lt;let:=X2.len;lia
 show cj (aK V) ?_;rw[br];show fO ⟨by lia,by lia⟩ ⟨cv (by rw[fM];lia),?_⟩;rw[V7];show eK (λrest m s3=>∃l:List Int,m=ao l/\l.length+rest.length=w/\(∀z∈l,z.natAbs<=1000000000000)/\Bx s3 Y.length (4000+9+64+30+4*l.length)/\Upd s8 Y.length s3) ?_ ?_ _ _ _ ⟨[],rfl,by rw[fM];simp,by simp,B8.mono (by simp),Upd.refl⟩;rotate_left 1
 . rintro x rest m s3 ⟨l,rfl,dn,dI,B9,U9⟩ next
   rw[Wl]at dn;show⟨trivial,_,rfl,Y.length,_,rfl,B9,by lia,λz s4 t B10 dV=>?_⟩;change cR _ _ _ _ _ _ _ _ _;rw[ints_app];show next _ _ ⟨l++[z],rfl,by simp;lia,λy hy=>?_,B10.mono (by simp;lia),U9.trans dV⟩
   rcases WC.mp hy with h|h
   . show dI y h
   . rw[Xi.mp h];show t
 rintro m s9 ⟨row,rfl,T,b8,B9,U9⟩;let T:row.length=w:=by simpa using T
 let W:∀z∈row,z.natAbs<=2^40:=λz t=>VU (b8 z t) (by decide);show⟨trivial,df rfl ?_⟩;let bb:s9[Q.length]?=some (.lst dl):=(U9.same _ n2).trans V;let t9:s9[0]?=some (cS f6):=(U9.same 0 (VO nz)).trans t8;show⟨V1 rfl,cj (aK bb) (Oj ⟨by lia,by lia,by rw[XT];simp;lia⟩ ?_)⟩;rw[br,V7,qo];let ck:∀z∈List.replicate w (0:Int),z.natAbs<=2^40:=λz t=>by rw[(List.mem_replicate.mp t).2];decide
 show⟨_,_,_,A,G,row,List.replicate w 0,w,w,w,40,λi=>i,f6,rfl,cq,a3,wd,rfl,rfl,T,by simp,W,ck,t9,λel R1 K10 bY _ b5=>?_⟩;let r1:∀c,c<w->0<=R1.getD c 0/\R1.getD c 0<Mx.g G c c:=λc U=>b5.red c U;show⟨dg B _,_,_,_,_,R,_,_,rfl,fQ,F,N.sd.iR,H,rfl,bY,up (by decide) (g _ bY r1),λek X11=>?_⟩;show⟨dg B _,_,_,_,_,R,_,_,rfl,fQ,F,N.sd.iR,H,rfl,T,up (by decide) W,λc6 dM=>?_⟩;let es:eC (dg B w) R row w=eC (dg B w) R R1 w:=(yy rg).mpr (b5.sum.eq λc _=>by rw[Mx.dY];lia);rw[es];show Cd xO ?_;obtain⟨a8,bB⟩:=K10.tb;let X1012:=X11.trans dM;let cx:c6[0]?=some (cS a8):=(X1012.same 0 (VI.mp bB).1).trans bB;let B10:=B9.cell (K10.fr _ B9.lt nz);let d2:=B10.cell (X1012.same _ B10.lt)
 let p1:1<=jf (Mx.cz G w):=by
  let:=Mx.wD d1;lia
 let cg:∀q:Nat,q<jf (Mx.cz G w)->dN ((gR (Mx.cz G w)).map aZ) (q:Int)=some (aZ ((gR (Mx.cz G w)).getD q [])):=λq J=>by
  show fP ?_;rw[V5,VV (by lia),Mx.aq (by lia)];rfl
 let mr:∀q:Nat,q<jf (Mx.cz G w)->(gR (Mx.cz G w)).getD q []∈gR (Mx.cz G w):=λq J=>by rw[Mx.aq (by lia)];show WX _
 show cj rfl ?_;rw[VH,E];show⟨Y.length,_,_,rfl,d2,by lia,by lia,by lia,λq1 ei a0 a1 d0 U13=>?_⟩;obtain⟨q1,rfl⟩:=WL a0;show aJ rfl (cg q1 (by lia)) ?_;obtain⟨l1,bq⟩:=ar _ (mr q1 (by lia));generalize(gR (Mx.cz G w)).getD q1 []=one at l1 bq;show cj rfl ?_;rw[VH,E];show⟨Y.length,_,_,rfl,d0,by lia,by lia,by lia,λq2 c5 c0 c1 ep dT=>?_⟩;obtain⟨q2,rfl⟩:=WL c0;show aJ rfl (cg q2 (by lia)) ?_;obtain⟨l2,bL⟩:=ar _ (mr q2 (by lia));generalize(gR (Mx.cz G w)).getD q2 []=oth at l2 bL;let bA:c5[0]?=some (cS a8):=((U13.trans dT).same 0 (VO nz)).trans cx;let cc:=g _ l1 bq;let b9:=g _ l2 bL;show⟨dg B _,_,_,_,_,R,_,_,rfl,fQ,F,N.sd.iR,H,rfl,l1,up (by decide) cc,λeg X15=>?_⟩;show⟨dg B _,_,_,_,_,R,_,_,rfl,fQ,F,N.sd.iR,H,rfl,l2,up (by decide) b9,λc4 dK=>?_⟩;show aJ rfl rfl (N7 rfl rfl rfl λok aH=>⟨cv (by rw[sN,VH,qS];lia),?_⟩)
 let b7:∀q,q<w->(dg B w).getD q 0=Mx.g B q q:=λq J=>by
  unfold dg;rw[Mx.aq (by simpa using J),Wz,Xk]
 let b1:∀(a b c:D) (as bs cs:List D),fX (a::as) (b::bs) (c::cs)= .tup [a,b,c]::fX as bs cs:=λ_ _ _ _ _ _=>rfl
 let hS:∀(u:List Int) {q:Nat},q<w->(ao (eC (dg B w) R u w)).drop q= .int ((eC (dg B w) R u w).getD q 0)::(ao (eC (dg B w) R u w)).drop (q+1):=λu q J=>by
  rw[Wa (by rw[VH,qS];show J),Wz,Mx.aq (by rw[qS];show J)]
 let b3:∀ {q:Nat},q<w->(ao (dg B w)).drop q= .int ((dg B w).getD q 0)::(ao (dg B w)).drop (q+1):=λ{q} J=>by
  rw[Wa (by rw[VH,fQ];show J),Wz,Mx.aq (by rw[fQ];show J)]
 show eK (λrest m s3=>s3=c4/\∃q:Nat,q<=w/\rest=fX ((ao (eC (dg B w) R one w)).drop q) ((ao (eC (dg B w) R oth w)).drop q) ((ao (dg B w)).drop q)/\m=ao ((List.range q).map λq=>((eC (dg B w) R one w).getD q 0+(eC (dg B w) R oth w).getD q 0).fmod ((dg B w).getD q 0))) ?_ ?_ _ _ _ ⟨rfl,0,V3 _,rfl,rfl⟩;rotate_left 1
 . rintro x rest m s3 ⟨rfl,q,J,v,rfl⟩ next
   let aA:q<w:=by
    rcases WQ q w with h|h
    . show h
    . rw[WJ (by rw[VH,qS];lia)]at v;cases v
   rw[hS one aA,hS oth aA,b3 aA,b1]at v;obtain⟨rfl,rfl⟩:=Xg v;let:=(O _ (getD_mem (r:=dg B w) (k:=q) (by rw[fQ];show aA))).1;show⟨aH _ rfl rfl rfl,_,rfl,gy (iw (by lia) ?_)⟩;change cR _ _ _ _ _ _ _ _ _;rw[ints_app];show next _ _ ⟨rfl,q+1,aA,rfl,?_⟩
   rw[Yj,W_];rfl
 rintro m s3 ⟨rfl,q,J,v,rfl⟩
 let eq:q=w:=by
  rcases WQ q w with h|h
  . rw[hS one h,hS oth h,b3 h,b1]at v;cases v
  . lia
 subst eq;show⟨aH _ rfl rfl rfl,?_⟩;let X1416:=X15.trans dK;let cu:s3[0]?=some (cS a8):=(X1416.same 0 (VI.mp bA).1).trans bA;show⟨_,_,_,A,G,one,oth,q,q,q,10,λi=>i,a8,rfl,cq,a3,wd,rfl,rfl,l1,l2,cc,b9,cu,λee R2 K17 bX _ b4=>?_⟩;let r2:∀c,c<q->0<=R2.getD c 0/\R2.getD c 0<Mx.g G c c:=λc U=>b4.red c U;show⟨dg B _,_,_,_,_,R,_,_,rfl,fQ,F,N.sd.iR,H,rfl,bX,up (by decide) (g _ bX r2),λc3 X18=>df rfl ?_⟩
 let dx:eC (dg B q) R R2 q=(List.range q).map λz=>((eC (dg B q) R one q).getD z 0+(eC (dg B q) R oth q).getD z 0).fmod ((dg B q).getD z 0):=by
  let ls:(Mx.de one 1 oth).length=q:=by rw[Mx.gH (by lia)];show l1
  let e1:eC (dg B q) R (Mx.de one 1 oth) q=eC (dg B q) R R2 q:=(yy rg).mpr (b4.sum.eq λc _=>by rw[Mx.iy (by lia),WZ]);rw[<-e1];unfold eC;show Wy λz t=>?_;let t:=WU.mp t;rw[Mx.range_getD t,Mx.range_getD t,b7 z t];let pz:=N.lo.pos z t;let ev:=Mx.oP (R:=R) (w:=q) (j:=z) 1 1 (λc=>one.getD c 0) λc=>oth.getD c 0;let ef:(λc=>1*one.getD c 0+1*oth.getD c 0)=λc=>(Mx.de one 1 oth).getD c 0:=funext λc=>by rw[Mx.iy (by lia),WZ,WZ]
  rw[ef]at ev;rw[ev,WZ,WZ,W6 _ (by lia),W6 _ (by lia),W6 _ (by lia),W6 _ (by lia)];show Int.add_emod _ _ _
 rw[dx];show Cd xO ?_;obtain⟨b6,bw⟩:=K17.tb;let ct:c3[0]?=some (cS b6):=(X18.same 0 (VI.mp bw).1).trans bw;show⟨_,_,A,G,one,q,q,q,λi=>i,b6,rfl,cq,a3,rfl,l1,λi c f=>?_,ct,λed en K19 c7=>?_⟩
 . by_cases U:c<q
   . show YQ (bG i c f U) (by decide)
   . rw[gG,VT,Yc (by rw[(hU i f).len];lia)];decide
 obtain⟨dt,cp⟩:=K19.tb;cases c7 with
 |az h=>show absurd (rg.top w1 _) (h _ (XY bg))
 |int o h0 hP h=>
  rw[dr]at hP;show Ir rfl (fe (cj rfl ?_));rw[VH,E];show VB hP (fe ?_);obtain⟨o,rfl⟩:=WL (Xr h0);show⟨A,G,one,q,q,o,dt,rfl,a3,wd,l1,bq,by lia,by lia,h,cp,λs'=>k _⟩
end Prog
namespace Row
open PySem L2 L3 Prog
open PySem.Spec hiding items?
open PyProof.Rows hiding St
def Nr{X:Cx}(hm:X.mg x=some (.int i t))(hd:(x==("__debug__":Str))=false)(hg:Gl X x):JE X (.Name x pos) (dC (.int i)):=by
 unfold JE;show PE.imp (Og hg hm (v:= .int i) ⟨t,rfl⟩ hd) λσ H Q ⟨α,σd,st,K,G,F,P,R,S,t,k⟩=>k.here P t S (by unfold Rep;rfl)
def xC:(("int":Str))≠"__name__":=by decide+kernel
def rG:(("isinstance":Str))≠"__name__":=by decide+kernel
def EH:(("bool":Str))≠"__name__":=by decide+kernel
def j9:(("tuple":Str))≠"__name__":=by decide+kernel
def jo:(("list":Str))≠"__name__":=by decide+kernel
def dw:(("len":Str))≠"__name__":=by decide+kernel
def GH:(("all":Str))≠"__name__":=by decide+kernel
def A_:(("abs":Str))≠"__name__":=by decide+kernel
def Jc:(("min":Str))≠"__name__":=by decide+kernel
def Hc:(("max":Str))≠"__name__":=by decide+kernel
def Ii:(("sum":Str))≠"__name__":=by decide+kernel
def Io:(("any":Str))≠"__name__":=by decide+kernel
structure Bl(mg:Str->Option Value):Prop where
 Ak:mg "int"=none
 t7:mg "isinstance"=none
 HL:mg "bool"=none
 mf:mg "tuple"=none
 kW:mg "list"=none
 eF:mg "len"=none
 Mw:mg "all"=none
 EX:mg "zip"=none
 hO:mg "range"=none
 pJ:mg "enumerate"=none
 FC:mg "abs"=none
 KW:mg "sorted"=none
 Ml:mg "min"=none
 MK:mg "max"=none
 ME:mg "sum"=none
 Mb:mg "any"=none
 RP:mg "set"=none
structure Kl(K:PySem.W.Frag)(mg:Str->Option Value):Prop where
 a8:ClsAt K mg "Bench" aC
 aU:ClsAt K mg "Sides" aI
 cu:d4 K aC "body"
 eL:d4 K aC "turn"
 cx:d4 K aC "back_columns"
 oE:d4 K aI "many"
 fm:d4 K aI "wide"
 c_:d4 K aI "body"
 kY:d4 K aI "left"
 gJ:d4 K aI "left_back"
 jV:d4 K aI "right"
 gg:d4 K aI "right_back"
structure Zl(mg:Str->Option Value):Prop where
 C0:mg "MOST_RESTS"=some (.int (300) 641)
def Dy:VF pw u9 ["thing"] ["int","isinstance","bool"]:= .of (by decide+kernel)
def C9:VF pf u6 ["thing"] ["tuple","list","isinstance"]:= .of (by decide+kernel)
def xV:VF lV qf ["thing","many"] ["is_listed","len"]:= .of (by decide+kernel)
def zO:VF nh rL ["thing","many"] ["is_listed_of","all"]:= .of (by decide+kernel)
def Iy:VF tw yN ["rows"] ["tuple"]:= .of (by decide+kernel)
def OG:VF xY DP ["row","times","other"] ["zip"]:= .of (by decide+kernel)
def J6:VF vq CW ["weights","rows","wide"] ["zip","added","tuple"]:= .of (by decide+kernel)
def Ho:VF sI yO ["one","other"] ["len","tuple"]:= .of (by decide+kernel)
def Li:VF vI Aw ["rows","place"] ["tuple"]:= .of (by decide+kernel)
def zQ:VF nv rE ["rows","wide"] ["range","tuple"]:= .of (by decide+kernel)
def Fm:VF qT xk ["n","place"] ["range","tuple"]:= .of (by decide+kernel)
def DB:VF pG uX ["n"] ["range","tuple"]:= .of (by decide+kernel)
def IW:VF sD yJ ["thing","many","wide"] ["is_listed","len","all"]:= .of (by decide+kernel)
def Gk:VF rh xp ["turn","back"] ["is_listed","len","is_rows","product","unit_rows"]:= .of (by decide+kernel)
def AV:VF oA sx ["turn","back","many"] ["is_rows","are_back"]:= .of (by decide+kernel)
def IB:VF ud zG ["row"] ["enumerate"]:= .of (by decide+kernel)
def d_:VF iV mJ ["top","bottom"] []:= .of (by decide+kernel)
def Di:VF pK uZ ["rows","k","other"] ["list"]:= .of (by decide+kernel)
def Hm:VF sG zg ["row"] []:= .of (by decide+kernel)
def bK:VF dz j4 ["self","rows"] ["len","unit_rows"]:= .of (by decide+kernel)
def a5:VF jh oO ["self","k","times","other"] ["added"]:= .of (by decide+kernel)
def a9:VF fT kg ["self","k","other"] ["exchanged"]:= .of (by decide+kernel)
def aQ:VF e_ iN ["self","k"] ["negated"]:= .of (by decide+kernel)
def cA:VF dP jM ["self","top","place"] ["len","range","sorted"]:= .of (by decide+kernel)
def aw:VF g8 l7 ["self","top","place"] ["len","nearest_quotient"]:= .of (by decide+kernel)
def bc:VF e8 iF ["self","top","place"] ["range"]:= .of (by decide+kernel)
def aR:VF qD w_ ["rows"] ["Bench","len","range","turned_over","as_rows"]:= .of (by decide+kernel)
def Ia:VF uf za ["form","row"] ["list","lead_of","added","tuple"]:= .of (by decide+kernel)
def OI:VF x3 DV ["form","row"] ["weighed"]:= .of (by decide+kernel)
def aM:VF fV jY ["self","rows"] ["len","unit_rows"]:= .of (by decide+kernel)
def bo:VF fJ jK ["self","turn","back"] ["product"]:= .of (by decide+kernel)
def ba:VF fw jj ["self","turn","back"] ["product"]:= .of (by decide+kernel)
def cG:VF fv ja ["self"] ["standing"]:= .of (by decide+kernel)
def aP:VF d8 g5 ["self"] ["turned_over","standing"]:= .of (by decide+kernel)
def z8:VF nj rJ ["rows"] ["enumerate","all"]:= .of (by decide+kernel)
def d7:VF gX lO ["self"] ["is_diagonal"]:= .of (by decide+kernel)
def wU:VF kK o7 ["n","k","place","number"] ["unit_rows","as_rows"]:= .of (by decide+kernel)
def cF:VF ir nt ["self","k","other"] ["unit_rows_but"]:= .of (by decide+kernel)
def Bf:VF oq tZ ["body"] ["len","min","range","tuple"]:= .of (by decide+kernel)
def aS:VF rl xg ["rows"] ["Sides","numbers_of","len","range"]:= .of (by decide+kernel)
def yz:VF l_ p9 ["thing","most"] ["is_listed","len","is_number"]:= .of (by decide+kernel)
def EL:VF qJ wB ["numbers","many","wide"] ["range","enumerate","as_rows"]:= .of (by decide+kernel)
def vT:VF kb oj ["rows","told"] ["len","is_listed_of","min","are_dividing","is_turn_of","product","diagonal"]:= .of (by decide+kernel)
def Kd:VF vN CT ["one","other"] ["abs"]:= .of (by decide+kernel)
def I_:VF sW y6 ["rows"] ["standing"]:= .of (by decide+kernel)
def dh:VF iO oV ["rows","bound"] ["range"]:= .of (by decide+kernel)
def aL:VF mz ve ["rows"] ["form_of","len","enumerate","MOST_RESTS","longer_by_one","tuple"]:= .of (by decide+kernel)
def Fz:VF qx wQ ["rows","one","other"] ["added","form_of","falls"]:= .of (by decide+kernel)
def AE:VF oN sP ["rows","row"] ["list","form_of","lead_of","common","added"]:= .of (by decide+kernel)
def BH:VF oa tK ["_law_script","_law_k"] ["len","int"]:= .of (by decide+kernel)
def F7:VF qQ w6 ["_law_source_here","_law_many"] []:= .of (by decide+kernel)
def AO:VF oz sj ["_law_source_here"] ["_law_take"]:= .of (by decide+kernel)
def Cp:VF ot sJ ["_law_source_here","_law_rows"] ["_law_take","range","len","zip","tuple"]:= .of (by decide+kernel)
def FU:VF rj xf ["_law_source_here","_law_leads_here"] ["len","range","_law_take","tuple"]:= .of (by decide+kernel)
def Dw:VF pF u5 ["_law_source_here","_law_most"] ["_law_take","range","max","min"]:= .of (by decide+kernel)
def FR:VF qu xo ["_law_told","_law_row"] ["enumerate","zip","sum","tuple"]:= .of (by decide+kernel)
def uJ:VF jG nC ["_law_rows","_law_rest","_law_order"] ["range","any","rest_sum"]:= .of (by decide+kernel)
def aj:VF oU M0 ["_law_script"] ["_law_source","_law_leads","_law_form","_law_turned","dividing","all_rests","len","shows_dividing","set","range","tuple","rest_sum","_law_seen","_law_take","zip","rest_order","_law_comes_round"]:= .of (by decide+kernel)
structure Ev(w:World)(mg:Str->Option Value)(h:Heap):Prop where
 X:(KX w.params).In h
 G:h.Ns mainGlobals mg
section
variable {w:World}{mg:Str->Option Value}{h:Heap}(base:Heap)(e:Ev w mg h)
include e
set_option hygiene false
local macro_rules| `(tactic|nofun)=> `(tactic|repeat' first
 |(change JA _ _ _;first|show ax|show af ?_ ?_)
 |(change JE (cO _ _ _ _ _ _ _) _ _;first|show jU|show cQ|show cE ?_ ?_|first|show a7 c1.1 c1.2 (hr.mono (by decide)) ?_ (by decide+kernel) rfl|show a7 c2.1 c2.2 (hr.mono (by decide)) ?_ (by decide+kernel) rfl|show a7 c3.1 c3.2 (hr.mono (by decide)) ?_ (by decide+kernel) rfl|show a7 c4.1 c4.2 (hr.mono (by decide)) ?_ (by decide+kernel) rfl|show a7 c5.1 c5.2 (hr.mono (by decide)) ?_ (by decide+kernel) rfl|show a7 c6.1 c6.2 (hr.mono (by decide)) ?_ (by decide+kernel) rfl|show a7 c7.1 c7.2 (hr.mono (by decide)) ?_ (by decide+kernel) rfl|show a7 c8.1 c8.2 (hr.mono (by decide)) ?_ (by decide+kernel) rfl|show a7 c9.1 c9.2 (hr.mono (by decide)) ?_ (by decide+kernel) rfl|show a7 c10.1 c10.2 (hr.mono (by decide)) ?_ (by decide+kernel) rfl|show a7 c11.1 c11.2 (hr.mono (by decide)) ?_ (by decide+kernel) rfl|show a7 c12.1 c12.2 (hr.mono (by decide)) ?_ (by decide+kernel) rfl|show a7 c13.1 c13.2 (hr.mono (by decide)) ?_ (by decide+kernel) rfl|show kL Lu ?_ B.Ak rfl xC (by decide+kernel) rfl|show cX LP ?_ B.t7 rfl rG (by decide+kernel) rfl|show kL p8 ?_ B.mf rfl j9 (by decide+kernel) rfl|show kL tu ?_ B.kW rfl jo (by decide+kernel) rfl|show kL Ex ?_ B.kW rfl jo (by decide+kernel) rfl|show cX eM ?_ B.eF rfl dw (by decide+kernel) rfl|show cX (L0 rfl) ?_ B.Mw rfl GH (by decide+kernel) rfl|show cX Fj ?_ B.FC rfl A_ (by decide+kernel) rfl|show cX (MU rfl) ?_ B.Ml rfl Jc (by decide+kernel) rfl|show cX (L_ rfl) ?_ B.MK rfl Hc (by decide+kernel) rfl|show cX (L6 rfl) ?_ B.ME rfl Ii (by decide+kernel) rfl|show cX (Hq rfl) ?_ B.Mb rfl Io (by decide+kernel) rfl|show yQ ?_ ?_|show j7 (by first|show uB|show GS|show Af|show rf|show M5|show Mq|show Iw|show HC) ?_ ?_|show Ad (by first|show FG hr|show JF|show BF|show Kf|show wY|show FK|show Co|show tM) (eO _) ?_ ?_|show qz ?_|show E6 ?_|show Gm ?_|show rD ?_|show MZ ?_ ?_ ?_|show Ag ?_ ?_|show Q9 ?_ ?_|show EK ?_|show MQ ?_|show tX|show Ar|show j_compC (by decide+kernel) ?_ ?_ ?_ ?_ ?_|show sy B.Ak rfl xC (by decide+kernel) rfl|show sy B.HL rfl EH (by decide+kernel) rfl|show sy B.mf rfl j9 (by decide+kernel) rfl|show sy B.kW rfl jo (by decide+kernel) rfl)
 |(change JE _ _ _;first|show v.nm _|show cQ|show cE ?_ ?_|first|show a7 c1.1 c1.2 (hr.mono (by decide)) ?_ (by decide+kernel) v.gM|show a7 c2.1 c2.2 (hr.mono (by decide)) ?_ (by decide+kernel) v.gM|show a7 c3.1 c3.2 (hr.mono (by decide)) ?_ (by decide+kernel) v.gM|show a7 c4.1 c4.2 (hr.mono (by decide)) ?_ (by decide+kernel) v.gM|show a7 c5.1 c5.2 (hr.mono (by decide)) ?_ (by decide+kernel) v.gM|show a7 c6.1 c6.2 (hr.mono (by decide)) ?_ (by decide+kernel) v.gM|show a7 c7.1 c7.2 (hr.mono (by decide)) ?_ (by decide+kernel) v.gM|show a7 c8.1 c8.2 (hr.mono (by decide)) ?_ (by decide+kernel) v.gM|show a7 c9.1 c9.2 (hr.mono (by decide)) ?_ (by decide+kernel) v.gM|show a7 c10.1 c10.2 (hr.mono (by decide)) ?_ (by decide+kernel) v.gM|show a7 c11.1 c11.2 (hr.mono (by decide)) ?_ (by decide+kernel) v.gM|show a7 c12.1 c12.2 (hr.mono (by decide)) ?_ (by decide+kernel) v.gM|show a7 c13.1 c13.2 (hr.mono (by decide)) ?_ (by decide+kernel) v.gM|show kL Lu ?_ B.Ak rfl xC (by decide+kernel) v.gM|show cX LP ?_ B.t7 rfl rG (by decide+kernel) v.gM|show kL p8 ?_ B.mf rfl j9 (by decide+kernel) v.gM|show kL tu ?_ B.kW rfl jo (by decide+kernel) v.gM|show kL Ex ?_ B.kW rfl jo (by decide+kernel) v.gM|show cX eM ?_ B.eF rfl dw (by decide+kernel) v.gM|show cX (L0 rfl) ?_ B.Mw rfl GH (by decide+kernel) v.gM|show cX Fj ?_ B.FC rfl A_ (by decide+kernel) v.gM|show cX (MU rfl) ?_ B.Ml rfl Jc (by decide+kernel) v.gM|show cX (L_ rfl) ?_ B.MK rfl Hc (by decide+kernel) v.gM|show cX (L6 rfl) ?_ B.ME rfl Ii (by decide+kernel) v.gM|show cX (Hq rfl) ?_ B.Mb rfl Io (by decide+kernel) v.gM|show yQ ?_ ?_|show j7 (by first|show uB|show GS|show Af|show rf|show M5|show Mq|show Iw|show HC) ?_ ?_|show Ad (by first|show FG hr|show JF|show BF|show Kf|show wY|show FK|show Co|show tM) (eO _) ?_ ?_|show qz ?_|show E6 ?_|show Gm ?_|show rD ?_|show MZ ?_ ?_ ?_|show Ag ?_ ?_|show Q9 ?_ ?_|show EK ?_|show MQ ?_|show tX|show Ar|show Nz v (by decide+kernel) ?_ ?_ ?_ ?_ ?_|show sy B.Ak rfl xC (by decide+kernel) v.gM|show sy B.HL rfl EH (by decide+kernel) v.gM|show sy B.mf rfl j9 (by decide+kernel) v.gM|show sy B.kW rfl jo (by decide+kernel) v.gM)
 |(change JB _ _ _;first|show aG ?_ ?_|show bM ?_|show i6)
 |(change JS _ _ _;first|show cH nd v.lM ?_|show kE ?_ ?_ ?_|show fR ?_|show kO ?_ ?_ ?_|show v_ ?_ ?_|show eh ?_|show j5 ?_ ?_ ?_|show Il ?_ ?_ ?_|show JQ v nd v.lM (by decide+kernel) ?_ ?_ ?_ ?_ ?_|show IH v nd v.lM (by decide+kernel) ?_ ?_ ?_ ?_ ?_|show Nq ?_ ?_ ?_ ?_ ?_)
 |(change JT _ _ _;first|show g6 (by first|show FG hr|show JF|show BF|show Kf|show wY|show FK|show Co|show tM) (eO _) ?_ ?_|(change JT _ (.BoolOp _ _ _) _;show Fl ?_)|show Ci ?_|show wu ?_)
 |(change JW _ _ _;first|show FX ?_ ?_|show AZ ?_|show Ra ?_ ?_|show Oh ?_)
 |(change JI (cO _ _ _ _ _ _ _) _ _ _;first|show ke rfl B.hO ?_|show Mg rfl B.EX ?_|show BW rfl B.pJ ?_|show qy rfl B.hO ?_|show my ?_)
 |(change JI _ _ _ _;first|show ke v.gM B.hO ?_|show Mg v.gM B.EX ?_|show BW v.gM B.pJ ?_|show qy v.gM B.hO ?_|show my ?_)
 |(change JG (cO _ _ _ _ _ _ _) _ _;first|show Tt|show Rp)
 |(change JG _ _ _;first|show je nd v.lM (by first|show .inr v.loc|show .inl rfl)|show FT rfl nd v.lM (by first|show .inr v.loc|show .inl rfl) v.lM (by first|show .inr v.loc|show .inl rfl))
 |(change JC _ _ _;first|show jy|show Im ?_)
 |show i9
 |show Ez
 |intro _ _ _ _)
def Fk(w:World)(mg:Str->Option Value)(base:Heap)(n:Str)(s:Stmt)(ps:List Str)(a:Addr)(m:Value)(c:Addr)(k:Nat)(S:bW):Prop:=nG (KX w.params) mg n n s ps a (Hd.fd s n n m c)/\cY PW w (KX w.params) mg base fN k a (Hd.fd s n n m c) ps (gj S)
omit e in
theorem fk{N gl ps:List Str}{k:Nat}{S:bW}{base:Heap}(d:nG (KX w.params) mg n n s ps a (Hd.fd s n n m c))(v:VF s N ps gl)(g:VS (bf s) N gl->N.Nodup->∀(cdv:Value) (A:Around) (outer:List Env) (z:Shared) (H:Hp) (E:XK),cJ k (A.deeper (envOfC n (bf s) z.heap.objs.size a cdv))->JB (pC fN PW w (KX w.params) mg base N n (bf s) a cdv A outer z H E).uV (gf s) t)(q:∀ds st K,S ds st K->ds.length=ps.length/\t {nx:=λ_ st2=>K .az st2,rt:=K} (aN N ds) st):Fk w mg base n s ps a m c (k+1) S:=⟨d,iQ d.fn v.sc (g v.v v.sc.nd) q⟩
local macro_rules| `(tactic|ac_rfl)=> `(tactic|first|show Hd.Vv e.X e.G (by kernel_rfl) λ_ _ _ _ _ _ _=>rfl|show Hd.Ve e.X e.G (by kernel_rfl) λ_ _ _ _ _ _ _ _=>rfl|show Hd.Vg e.X e.G (by kernel_rfl) λ_ _ _ _ _ _ _ _ _=>rfl|show Hd.Vy e.X e.G (by kernel_rfl) λ_ _ _ _ _ _ _ _ _ _=>rfl)
theorem Bt:Bl mg:=⟨Wx e.X e.G (by kernel_rfl),Wx e.X e.G (by kernel_rfl),Wx e.X e.G (by kernel_rfl),Wx e.X e.G (by kernel_rfl),Wx e.X e.G (by kernel_rfl),Wx e.X e.G (by kernel_rfl),Wx e.X e.G (by kernel_rfl),Wx e.X e.G (by kernel_rfl),Wx e.X e.G (by kernel_rfl),Wx e.X e.G (by kernel_rfl),Wx e.X e.G (by kernel_rfl),Wx e.X e.G (by kernel_rfl),Wx e.X e.G (by kernel_rfl),Wx e.X e.G (by kernel_rfl),Wx e.X e.G (by kernel_rfl),Wx e.X e.G (by kernel_rfl),Wx e.X e.G (by kernel_rfl)⟩
theorem Qt:Kl (KX w.params) mg:=⟨⟨⟨by kernel_rfl,by kernel_rfl,by kernel_rfl,by kernel_rfl⟩,aav e.X e.G (by kernel_rfl),by kernel_rfl,by kernel_rfl⟩,⟨⟨by kernel_rfl,by kernel_rfl,by kernel_rfl,by kernel_rfl⟩,aav e.X e.G (by kernel_rfl),by kernel_rfl,by kernel_rfl⟩,Hd.na (by kernel_rfl),Hd.na (by kernel_rfl),Hd.na (by kernel_rfl),Hd.na (by kernel_rfl),Hd.na (by kernel_rfl),Hd.na (by kernel_rfl),Hd.na (by kernel_rfl),Hd.na (by kernel_rfl),Hd.na (by kernel_rfl),Hd.na (by kernel_rfl)⟩
theorem Zt:Zl mg:=⟨aav e.X e.G (by kernel_rfl)⟩
theorem u_:Fk w mg base "is_number" pw ["thing"] 21 zp 20 1 mD:=by
 let B:=Bt e;show fk (by ac_rfl) Dy (λv nd _ _ _ _ _ _ hr=>by nofun) CI
theorem mm:Fk w mg base "is_listed" pf ["thing"] 28 zp 27 1 iE:=by
 let B:=Bt e;show fk (by ac_rfl) C9 (λv nd _ _ _ _ _ _ hr=>by nofun) CP
theorem pP:Fk w mg base "is_listed_of" lV ["thing","many"] 35 zp 34 2 js:=by
 let c1:=mm base e;let B:=Bt e;show fk (by ac_rfl) xV (λv nd _ _ _ _ _ _ hr=>by nofun) xN
theorem zP:Fk w mg base "are_numbers" nh ["thing","many"] 40 zp 39 3 nq:=by
 let c1:=pP base e;let c2:=u_ base e;let B:=Bt e;show fk (by ac_rfl) zO (λv nd _ _ _ _ _ _ hr=>by nofun) yB
theorem tY:Fk w mg base "as_rows" tw ["rows"] 45 jC 44 1 kj:=by
 let B:=Bt e;show fk (by ac_rfl) Iy (λv nd _ _ _ _ _ _ hr=>by nofun) Fg
theorem p_:Fk w mg base "added" xY ["row","times","other"] 50 jC 49 1 jv:=by
 let B:=Bt e;show fk (by ac_rfl) OG (λv nd _ _ _ _ _ _ hr=>by nofun) J8
theorem J0:Fk w mg base "sum_by" vq ["weights","rows","wide"] 57 jC 56 2 vE:=by
 let c1:=p_ base e;let B:=Bt e;show fk (by ac_rfl) J6 (λv nd _ _ _ _ _ _ hr=>by nofun) IM
theorem oW:Fk w mg base "product" sI ["one","other"] 62 jC 61 3 fA:=by
 let c1:=J0 base e;let B:=Bt e;show fk (by ac_rfl) Ho (λv nd _ _ _ _ _ _ hr=>by nofun) F1
theorem Lj:Fk w mg base "column" vI ["rows","place"] 67 jC 66 1 vG:=by
 let B:=Bt e;show fk (by ac_rfl) Li (λv nd _ _ _ _ _ _ hr=>by nofun) Jd
theorem rQ:Fk w mg base "turned_over" nv ["rows","wide"] 72 jC 71 2 gd:=by
 let c1:=Lj base e;let B:=Bt e;show fk (by ac_rfl) zQ (λv nd _ _ _ _ _ _ hr=>by nofun) yq
theorem Fs:Fk w mg base "unit_row" qT ["n","place"] 77 jC 76 1 qI:=by
 let B:=Bt e;show fk (by ac_rfl) Fm (λv nd _ _ _ _ _ _ hr=>by nofun) C7
theorem mw:Fk w mg base "unit_rows" pG ["n"] 82 jC 81 2 eJ:=by
 let c1:=Fs base e;let B:=Bt e;show fk (by ac_rfl) DB (λv nd _ _ _ _ _ _ hr=>by nofun) B_
theorem yP:Fk w mg base "is_rows" sD ["thing","many","wide"] 87 jC 86 4 mS:=by
 let c1:=mm base e;let c2:=zP base e;let B:=Bt e;show fk (by ac_rfl) IW (λv nd _ _ _ _ _ _ hr=>by nofun) Fo
theorem FD:Fk w mg base "are_back" rh ["turn","back"] 94 jC 93 5 qW:=by
 let c1:=mm base e;let c2:=yP base e;let c3:=oW base e;let c4:=mw base e;let B:=Bt e;show fk (by ac_rfl) Gk (λv nd _ _ _ _ _ _ hr=>by nofun) Du
theorem Cz:Fk w mg base "is_turn_of" oA ["turn","back","many"] 101 jC 100 6 kP:=by
 let c1:=yP base e;let c2:=FD base e;let B:=Bt e;show fk (by ac_rfl) AV (λv nd _ _ _ _ _ _ hr=>by nofun) zJ
theorem ze:Fk w mg base "lead_of" ud ["row"] 108 fx 107 1 m6:=by
 let B:=Bt e;show fk (by ac_rfl) IB (λv nd _ _ _ _ _ _ hr=>by nofun) E3
theorem tG:Fk w mg base "nearest_quotient" iV ["top","bottom"] 115 fx 114 1 i8:=by
 show fk (by ac_rfl) d_ (λv nd cdv A outer s H E hr=>(bM (fR (j7 (Et hr rfl d_.sc.gen d_.sc.co) (j7 uB (j7 rf cQ (d_.v.nm 0)) (d_.v.nm 1)) (j7 rf cQ (d_.v.nm 1)))))) rT
theorem Dm:Fk w mg base "exchanged" pK ["rows","k","other"] 122 fx 121 1 jQ:=by
 let B:=Bt e;show fk (by ac_rfl) Di (λv nd _ _ _ _ _ _ hr=>by nofun) CS
theorem GO:Fk w mg base "negated" sG ["row"] 127 fx 126 1 mW:=by
 let B:=Bt e;show fk (by ac_rfl) Hm (λv nd _ _ _ _ _ _ hr=>by nofun) FJ
theorem ia:MethAt (KX w.params) aC "__init__" "Bench.__init__" dz ["self","rows"] 139 (Hd.fd dz "__init__" "Bench.__init__" fx 138):=Hd.PR (by kernel_rfl) λ_ _ _ _ _ _ _ _=>rfl
theorem vx:cY PW w (KX w.params) mg base fN 3 139 (Hd.fd dz "__init__" "Bench.__init__" fx 138) ["self","rows"] (gj j6):=by
 let c1:=mw base e;let B:=Bt e;let Q:=Qt e
 show iQ (N:=j4) (ia e).fn bK.sc (λcdv A outer s H E hr=>(aG (dF Q.a8.cl Q.cu (bK.v.nm 0) (yj (Nc:=["row"]) (cN.look (bf dz) ["self","rows"] (by decide+kernel)) (my (bK.v.nm 1)) (λ_ _ _ _=>(je (show(["row"]:List Str).Nodup by decide+kernel))) (λ_ _ _ _=>jy) (λ_ _ _ _=>(kL tu (af jU ax) B.kW rfl jo (by decide+kernel) rfl)) i9))
  (aG (dF Q.a8.cl Q.eL (bK.v.nm 0) (yj (Nc:=["row"]) (cN.look (bf dz) ["self","rows"] (by decide+kernel)) (my (a7 c1.1 c1.2 (hr.mono (by decide)) (af (cX eM (af (bK.v.nm 1) ax) B.eF rfl dw (bK.v.d 0) (bK.v.g 0)) ax) (bK.v.d 1) (bK.v.g 1))) (λ_ _ _ _=>(je (show(["row"]:List Str).Nodup by decide+kernel))) (λ_ _ _ _=>jy) (λ_ _ _ _=>(kL tu (af jU ax) B.kW rfl jo (by decide+kernel) rfl)) i9))
  (bM (dF Q.a8.cl Q.cx (bK.v.nm 0) (yj (Nc:=["row"]) (cN.look (bf dz) ["self","rows"] (by decide+kernel)) (my (a7 c1.1 c1.2 (hr.mono (by decide)) (af (cX eM (af (bK.v.nm 1) ax) B.eF rfl dw (bK.v.d 0) (bK.v.g 0)) ax) (bK.v.d 1) (bK.v.g 1))) (λ_ _ _ _=>(je (show(["row"]:List Str).Nodup by decide+kernel))) (λ_ _ _ _=>jy) (λ_ _ _ _=>(kL tu (af jU ax) B.kW rfl jo (by decide+kernel) rfl)) i9)))))) uN
theorem jd:MethAt (KX w.params) aC "take" "Bench.take" jh ["self","k","times","other"] 146 (Hd.fd jh "take" "Bench.take" fx 145):=Hd.Vt (by kernel_rfl) λ_ _ _ _ _ _ _ _ _ _=>rfl
theorem sr:cY PW w (KX w.params) mg base fN 2 146 (Hd.fd jh "take" "Bench.take" fx 145) ["self","k","times","other"] (gj kF):=by
 let c1:=p_ base e;let Q:=Qt e
 show iQ (N:=oO) (jd e).fn a5.sc (λcdv A outer s H E hr=>(aG (j5 (a7 c1.1 c1.2 (hr.mono (by decide)) (af (cE (bD Q.a8.cl Q.cu (a5.v.nm 0)) (a5.v.nm 1)) (af (rD (a5.v.nm 2)) (af (cE (bD Q.a8.cl Q.cu (a5.v.nm 0)) (a5.v.nm 3)) ax))) (a5.v.d 0) (a5.v.g 0)) (bD Q.a8.cl Q.cu (a5.v.nm 0)) (a5.v.nm 1))
  (aG (j5 (a7 c1.1 c1.2 (hr.mono (by decide)) (af (cE (bD Q.a8.cl Q.eL (a5.v.nm 0)) (a5.v.nm 1)) (af (rD (a5.v.nm 2)) (af (cE (bD Q.a8.cl Q.eL (a5.v.nm 0)) (a5.v.nm 3)) ax))) (a5.v.d 0) (a5.v.g 0)) (bD Q.a8.cl Q.eL (a5.v.nm 0)) (a5.v.nm 1))
  (bM (j5 (a7 c1.1 c1.2 (hr.mono (by decide)) (af (cE (bD Q.a8.cl Q.cx (a5.v.nm 0)) (a5.v.nm 3)) (af (a5.v.nm 2) (af (cE (bD Q.a8.cl Q.cx (a5.v.nm 0)) (a5.v.nm 1)) ax))) (a5.v.d 0) (a5.v.g 0)) (bD Q.a8.cl Q.cx (a5.v.nm 0)) (a5.v.nm 3)))))) zS
theorem jZ:MethAt (KX w.params) aC "exchange" "Bench.exchange" fT ["self","k","other"] 153 (Hd.fd fT "exchange" "Bench.exchange" fx 152):=Hd.B7 (by kernel_rfl) λ_ _ _ _ _ _ _ _ _=>rfl
theorem vM:cY PW w (KX w.params) mg base fN 2 153 (Hd.fd fT "exchange" "Bench.exchange" fx 152) ["self","k","other"] (gj kc):=by
 let c1:=Dm base e;let Q:=Qt e
 show iQ (N:=kg) (jZ e).fn a9.sc (λcdv A outer s H E hr=>(aG (dF Q.a8.cl Q.cu (a9.v.nm 0) (a7 c1.1 c1.2 (hr.mono (by decide)) (af (bD Q.a8.cl Q.cu (a9.v.nm 0)) (af (a9.v.nm 1) (af (a9.v.nm 2) ax))) (a9.v.d 0) (a9.v.g 0)))
  (aG (dF Q.a8.cl Q.eL (a9.v.nm 0) (a7 c1.1 c1.2 (hr.mono (by decide)) (af (bD Q.a8.cl Q.eL (a9.v.nm 0)) (af (a9.v.nm 1) (af (a9.v.nm 2) ax))) (a9.v.d 0) (a9.v.g 0)))
  (bM (dF Q.a8.cl Q.cx (a9.v.nm 0) (a7 c1.1 c1.2 (hr.mono (by decide)) (af (bD Q.a8.cl Q.cx (a9.v.nm 0)) (af (a9.v.nm 1) (af (a9.v.nm 2) ax))) (a9.v.d 0) (a9.v.g 0))))))) uM
theorem iJ:MethAt (KX w.params) aC "change_sign" "Bench.change_sign" e_ ["self","k"] 160 (Hd.fd e_ "change_sign" "Bench.change_sign" fx 159):=Hd.PR (by kernel_rfl) λ_ _ _ _ _ _ _ _=>rfl
theorem rV:cY PW w (KX w.params) mg base fN 2 160 (Hd.fd e_ "change_sign" "Bench.change_sign" fx 159) ["self","k"] (gj iG):=by
 let c1:=GO base e;let Q:=Qt e
 show iQ (N:=iN) (iJ e).fn aQ.sc (λcdv A outer s H E hr=>(aG (j5 (a7 c1.1 c1.2 (hr.mono (by decide)) (af (cE (bD Q.a8.cl Q.cu (aQ.v.nm 0)) (aQ.v.nm 1)) ax) (aQ.v.d 0) (aQ.v.g 0)) (bD Q.a8.cl Q.cu (aQ.v.nm 0)) (aQ.v.nm 1))
  (aG (j5 (a7 c1.1 c1.2 (hr.mono (by decide)) (af (cE (bD Q.a8.cl Q.eL (aQ.v.nm 0)) (aQ.v.nm 1)) ax) (aQ.v.d 0) (aQ.v.g 0)) (bD Q.a8.cl Q.eL (aQ.v.nm 0)) (aQ.v.nm 1))
  (bM (j5 (a7 c1.1 c1.2 (hr.mono (by decide)) (af (cE (bD Q.a8.cl Q.cx (aQ.v.nm 0)) (aQ.v.nm 1)) ax) (aQ.v.d 0) (aQ.v.g 0)) (bD Q.a8.cl Q.cx (aQ.v.nm 0)) (aQ.v.nm 1)))))) qR
theorem gK:MethAt (KX w.params) aC "live_rows" "Bench.live_rows" dP ["self","top","place"] 165 (Hd.fd dP "live_rows" "Bench.live_rows" fx 164):=Hd.B7 (by kernel_rfl) λ_ _ _ _ _ _ _ _ _=>rfl
theorem nE:cY PW w (KX w.params) mg base fN 3 165 (Hd.fd dP "live_rows" "Bench.live_rows" fx 164) ["self","top","place"] (gj gO):=by
 let B:=Bt e;let Q:=Qt e;let hC:PySem.W.codeHdIn (KX w.params) 164 162=true:=by kernel_rfl
 show Q2 (N:=jM) (Hd.fc (by kernel_rfl)) cA.sc (λA outer s H E hr=>(aG (uG cA.sc.nd (cA.v.l 3) (Nc:=["k","self","place"]) (cN.look (bf dP) ["self","top","place","live"] (by decide+kernel)) (qy (cA.v.g 1) B.hO (af (cA.v.nm 1) (af (cX eM (af (bD Q.a8.cl Q.cu (cA.v.nm 0)) ax) B.eF rfl dw (cA.v.d 0) (cA.v.g 0)) ax))) (λ_ _ _ _=>(je (show(["k","self","place"]:List Str).Nodup by decide+kernel))) (λ_ _ _ _=>(Im (g6 tM (eO _) (cE (cE (bD Q.a8.cl Q.cu jU) jU) jU) cQ))) (λ_ _ _ _=>jU) i9)
  (bM (fR (OR (c0:=164) (nJ.look (Nc:=["k","self","place"]) (fr:=[none,some 0,some 2]) (p:="k") (cN.look (bf dP) ["self","top","place","live"] (by decide+kernel))) rfl hr rfl hC (λ_ _ _ _=>(cX Fj (af (cE (cE (bD Q.a8.cl Q.cu jU) jU) jU) ax) B.FC rfl A_ (by decide+kernel) rfl)) (cA.v.nm 3) (cA.v.g 2) B.KW))))) tT
theorem lT:MethAt (KX w.params) aC "gather" "Bench.gather" g8 ["self","top","place"] 172 (Hd.fd g8 "gather" "Bench.gather" fx 171):=Hd.B7 (by kernel_rfl) λ_ _ _ _ _ _ _ _ _=>rfl
theorem yp:cY PW w (KX w.params) mg base fN 4 172 (Hd.fd g8 "gather" "Bench.gather" fx 171) ["self","top","place"] (gj l8):=by
 let c1:=tG base e;let B:=Bt e;let Q:=Qt e
 show iQ (N:=l7) (lT e).fn aw.sc (λcdv A outer s H E hr=>(aG (cH aw.sc.nd (aw.v.l 3) (iq (aw.v.nm 0) Q.a8.cl (gK e).me (nE base e) (hr.mono (by decide)) (gK e).bd (af (aw.v.nm 1) (af (aw.v.nm 2) ax))))
  (aG (v_ (g6 BF (eO _) (cX eM (af (aw.v.nm 3) ax) B.eF rfl dw (aw.v.d 0) (aw.v.g 0)) cQ) (aG (cH aw.sc.nd (aw.v.l 4) (cE (aw.v.nm 3) (rD cQ)))
  (aG (cH aw.sc.nd (aw.v.l 5) (cE (aw.v.nm 3) (rD cQ)))
  (aG (eh (iq (aw.v.nm 0) Q.a8.cl (jd e).me (sr base e) (hr.mono (by decide)) (jd e).bd (af (aw.v.nm 4) (af (a7 c1.1 c1.2 (hr.mono (by decide)) (af (cE (cE (bD Q.a8.cl Q.cu (aw.v.nm 0)) (aw.v.nm 4)) (aw.v.nm 2)) (af (cE (cE (bD Q.a8.cl Q.cu (aw.v.nm 0)) (aw.v.nm 5)) (aw.v.nm 2)) ax)) (aw.v.d 1) (aw.v.g 1)) (af (aw.v.nm 5) ax)))))
  (bM (cH aw.sc.nd (aw.v.l 3) (iq (aw.v.nm 0) Q.a8.cl (gK e).me (nE base e) (hr.mono (by decide)) (gK e).bd (af (aw.v.nm 1) (af (aw.v.nm 2) ax)))))))))
  (aG (kE (g6 (FG hr) (eO _) (cX eM (af (aw.v.nm 3) ax) B.eF rfl dw (aw.v.d 0) (aw.v.g 0)) cQ) (bM (fR tX)) i6)
  (aG (eh (iq (aw.v.nm 0) Q.a8.cl (jZ e).me (vM base e) (hr.mono (by decide)) (jZ e).bd (af (aw.v.nm 1) (af (cE (aw.v.nm 3) cQ) ax))))
  (aG (kE (g6 Co (eO _) (cE (cE (bD Q.a8.cl Q.cu (aw.v.nm 0)) (aw.v.nm 1)) (aw.v.nm 2)) cQ) (bM (eh (iq (aw.v.nm 0) Q.a8.cl (iJ e).me (rV base e) (hr.mono (by decide)) (iJ e).bd (af (aw.v.nm 1) ax)))) i6)
  (bM (fR tX)))))))) xi
theorem iK:MethAt (KX w.params) aC "lower_above" "Bench.lower_above" e8 ["self","top","place"] 179 (Hd.fd e8 "lower_above" "Bench.lower_above" fx 178):=Hd.B7 (by kernel_rfl) λ_ _ _ _ _ _ _ _ _=>rfl
theorem rZ:cY PW w (KX w.params) mg base fN 3 179 (Hd.fd e8 "lower_above" "Bench.lower_above" fx 178) ["self","top","place"] (gj iM):=by
 let B:=Bt e;let Q:=Qt e;show iQ (N:=iF) (iK e).fn bc.sc (λcdv A outer s H E hr=>(bM (kO (ke (bc.v.g 0) B.hO (af (bc.v.nm 1) ax)) (je bc.sc.nd) (bM (eh (iq (bc.v.nm 0) Q.a8.cl (jd e).me (sr base e) (hr.mono (by decide)) (jd e).bd (af (bc.v.nm 3) (af (j7 (Et hr rfl bc.sc.gen bc.sc.co) (cE (cE (bD Q.a8.cl Q.cu (bc.v.nm 0)) (bc.v.nm 3)) (bc.v.nm 2)) (cE (cE (bD Q.a8.cl Q.cu (bc.v.nm 0)) (bc.v.nm 1)) (bc.v.nm 2))) (af (bc.v.nm 1) ax))))))))) qX
theorem qG:Fk w mg base "standing" qD ["rows"] 193 fx 192 5 kJ:=by
 let c1:=rQ base e;let c2:=tY base e;let B:=Bt e;let Q:=Qt e
 show fk (by ac_rfl) aR (λv nd cdv A outer s H E hr=>(aG (cH aR.sc.nd (aR.v.l 1) (GL ⟨Q.a8.TN,(ia e).me.at_,(ia e).me.fn,Q.a8.kp⟩ (vx base e) (hr.mono (by decide)) (aR.v.g 0) Q.a8.mg (ia e).bd (af (aR.v.nm 0) ax) (aR.v.d 0)))
  (aG (cH aR.sc.nd (aR.v.l 2) cQ)
  (aG (kO (ke (aR.v.g 2) B.hO (af (cX eM (af (cE (aR.v.nm 0) cQ) ax) B.eF rfl dw (aR.v.d 1) (aR.v.g 1)) ax)) (je aR.sc.nd) (bM (kE (wu (iq (aR.v.nm 1) Q.a8.cl (lT e).me (yp base e) (hr.mono (by decide)) (lT e).bd (af (aR.v.nm 2) (af (aR.v.nm 3) ax)))) (aG (eh (iq (aR.v.nm 1) Q.a8.cl (iK e).me (rZ base e) (hr.mono (by decide)) (iK e).bd (af (aR.v.nm 2) (af (aR.v.nm 3) ax))))
  (bM (Qc aR.sc.nd (aR.v.l 2) cQ Q_))) i6)))
  (aG (cH aR.sc.nd (aR.v.l 4) (a7 c1.1 c1.2 (hr.mono (by decide)) (af (bD Q.a8.cl Q.cx (aR.v.nm 1)) (af (cX eM (af (aR.v.nm 0) ax) B.eF rfl dw (aR.v.d 1) (aR.v.g 1)) ax)) (aR.v.d 3) (aR.v.g 3)))
  (bM (fR (qz (af (a7 c2.1 c2.2 (hr.mono (by decide)) (af (Ob (bD Q.a8.cl Q.cu (aR.v.nm 1)) OC (Ov (aR.v.nm 2))) ax) (aR.v.d 4) (aR.v.g 4)) (af (a7 c2.1 c2.2 (hr.mono (by decide)) (af (bD Q.a8.cl Q.eL (aR.v.nm 1)) ax) (aR.v.d 4) (aR.v.g 4)) (af (aR.v.nm 4) ax))))))))))) DC
theorem H_:Fk w mg base "weighed" uf ["form","row"] 200 fx 199 2 tj:=by
 let c1:=ze base e;let c2:=p_ base e;let B:=Bt e;show fk (by ac_rfl) Ia (λv nd _ _ _ _ _ _ hr=>by nofun) EW
theorem Oq:Fk w mg base "falls" x3 ["form","row"] 207 fx 206 3 yx:=by
 let c1:=H_ base e;let B:=Bt e;show fk (by ac_rfl) OI (λv nd _ _ _ _ _ _ hr=>by nofun) Ki
theorem ij:MethAt (KX w.params) aI "__init__" "Sides.__init__" fV ["self","rows"] 221 (Hd.fd fV "__init__" "Sides.__init__" fy 220):=Hd.PR (by kernel_rfl) λ_ _ _ _ _ _ _ _=>rfl
theorem wa:cY PW w (KX w.params) mg base fN 3 221 (Hd.fd fV "__init__" "Sides.__init__" fy 220) ["self","rows"] (gj j8):=by
 let c1:=mw base e;let B:=Bt e;let Q:=Qt e
 show iQ (N:=jY) (ij e).fn aM.sc (λcdv A outer s H E hr=>(aG (dF Q.aU.cl Q.oE (aM.v.nm 0) (cX eM (af (aM.v.nm 1) ax) B.eF rfl dw (aM.v.d 0) (aM.v.g 0)))
  (aG (dF Q.aU.cl Q.fm (aM.v.nm 0) (cX eM (af (cE (aM.v.nm 1) cQ) ax) B.eF rfl dw (aM.v.d 0) (aM.v.g 0)))
  (aG (dF Q.aU.cl Q.c_ (aM.v.nm 0) (aM.v.nm 1))
  (aG (dF Q.aU.cl Q.kY (aM.v.nm 0) (a7 c1.1 c1.2 (hr.mono (by decide)) (af (bD Q.aU.cl Q.oE (aM.v.nm 0)) ax) (aM.v.d 1) (aM.v.g 1)))
  (aG (dF Q.aU.cl Q.gJ (aM.v.nm 0) (a7 c1.1 c1.2 (hr.mono (by decide)) (af (bD Q.aU.cl Q.oE (aM.v.nm 0)) ax) (aM.v.d 1) (aM.v.g 1)))
  (aG (dF Q.aU.cl Q.jV (aM.v.nm 0) (a7 c1.1 c1.2 (hr.mono (by decide)) (af (bD Q.aU.cl Q.fm (aM.v.nm 0)) ax) (aM.v.d 1) (aM.v.g 1)))
  (bM (dF Q.aU.cl Q.gg (aM.v.nm 0) (a7 c1.1 c1.2 (hr.mono (by decide)) (af (bD Q.aU.cl Q.fm (aM.v.nm 0)) ax) (aM.v.d 1) (aM.v.g 1))))))))))) uR
theorem jI:MethAt (KX w.params) aI "turn_left" "Sides.turn_left" fJ ["self","turn","back"] 228 (Hd.fd fJ "turn_left" "Sides.turn_left" fy 227):=Hd.B7 (by kernel_rfl) λ_ _ _ _ _ _ _ _ _=>rfl
theorem uL:cY PW w (KX w.params) mg base fN 4 228 (Hd.fd fJ "turn_left" "Sides.turn_left" fy 227) ["self","turn","back"] (gj jO):=by
 let c1:=oW base e;let Q:=Qt e
 show iQ (N:=jK) (jI e).fn bo.sc (λcdv A outer s H E hr=>(aG (dF Q.aU.cl Q.c_ (bo.v.nm 0) (a7 c1.1 c1.2 (hr.mono (by decide)) (af (bo.v.nm 1) (af (bD Q.aU.cl Q.c_ (bo.v.nm 0)) ax)) (bo.v.d 0) (bo.v.g 0)))
  (aG (dF Q.aU.cl Q.kY (bo.v.nm 0) (a7 c1.1 c1.2 (hr.mono (by decide)) (af (bo.v.nm 1) (af (bD Q.aU.cl Q.kY (bo.v.nm 0)) ax)) (bo.v.d 0) (bo.v.g 0)))
  (bM (dF Q.aU.cl Q.gJ (bo.v.nm 0) (a7 c1.1 c1.2 (hr.mono (by decide)) (af (bD Q.aU.cl Q.gJ (bo.v.nm 0)) (af (bo.v.nm 2) ax)) (bo.v.d 0) (bo.v.g 0))))))) sQ
theorem fz:MethAt (KX w.params) aI "turn_right" "Sides.turn_right" fw ["self","turn","back"] 235 (Hd.fd fw "turn_right" "Sides.turn_right" fy 234):=Hd.B7 (by kernel_rfl) λ_ _ _ _ _ _ _ _ _=>rfl
theorem mP:cY PW w (KX w.params) mg base fN 4 235 (Hd.fd fw "turn_right" "Sides.turn_right" fy 234) ["self","turn","back"] (gj gE):=by
 let c1:=oW base e;let Q:=Qt e
 show iQ (N:=jj) (fz e).fn ba.sc (λcdv A outer s H E hr=>(aG (dF Q.aU.cl Q.c_ (ba.v.nm 0) (a7 c1.1 c1.2 (hr.mono (by decide)) (af (bD Q.aU.cl Q.c_ (ba.v.nm 0)) (af (ba.v.nm 1) ax)) (ba.v.d 0) (ba.v.g 0)))
  (aG (dF Q.aU.cl Q.jV (ba.v.nm 0) (a7 c1.1 c1.2 (hr.mono (by decide)) (af (bD Q.aU.cl Q.jV (ba.v.nm 0)) (af (ba.v.nm 1) ax)) (ba.v.d 0) (ba.v.g 0)))
  (bM (dF Q.aU.cl Q.gg (ba.v.nm 0) (a7 c1.1 c1.2 (hr.mono (by decide)) (af (ba.v.nm 2) (af (bD Q.aU.cl Q.gg (ba.v.nm 0)) ax)) (ba.v.d 0) (ba.v.g 0))))))) rS
theorem fi:MethAt (KX w.params) aI "stand_rows" "Sides.stand_rows" fv ["self"] 242 (Hd.fd fv "stand_rows" "Sides.stand_rows" fy 241):=Hd.PF (by kernel_rfl) λ_ _ _ _ _ _ _=>rfl
theorem mG:cY PW w (KX w.params) mg base fN 6 242 (Hd.fd fv "stand_rows" "Sides.stand_rows" fy 241) ["self"] (gj gD):=by
 let c1:=qG base e;let Q:=Qt e
 show iQ (N:=ja) (fi e).fn cG.sc (λcdv A outer s H E hr=>(aG (cH cG.sc.nd (cG.v.l 1) (a7 c1.1 c1.2 (hr.mono (by decide)) (af (bD Q.aU.cl Q.c_ (cG.v.nm 0)) ax) (cG.v.d 0) (cG.v.g 0)))
  (bM (eh (iq (cG.v.nm 0) Q.aU.cl (jI e).me (uL base e) (hr.mono (by decide)) (jI e).bd (af (cE (cG.v.nm 1) cQ) (af (cE (cG.v.nm 1) cQ) ax))))))) se
theorem d6:MethAt (KX w.params) aI "stand_columns" "Sides.stand_columns" d8 ["self"] 249 (Hd.fd d8 "stand_columns" "Sides.stand_columns" fy 248):=Hd.PF (by kernel_rfl) λ_ _ _ _ _ _ _=>rfl
theorem km:cY PW w (KX w.params) mg base fN 6 249 (Hd.fd d8 "stand_columns" "Sides.stand_columns" fy 248) ["self"] (gj fC):=by
 let c1:=rQ base e;let c2:=qG base e;let Q:=Qt e
 show iQ (N:=g5) (d6 e).fn aP.sc (λcdv A outer s H E hr=>(aG (cH aP.sc.nd (aP.v.l 1) (a7 c2.1 c2.2 (hr.mono (by decide)) (af (a7 c1.1 c1.2 (hr.mono (by decide)) (af (bD Q.aU.cl Q.c_ (aP.v.nm 0)) (af (bD Q.aU.cl Q.fm (aP.v.nm 0)) ax)) (aP.v.d 0) (aP.v.g 0)) ax) (aP.v.d 1) (aP.v.g 1)))
  (bM (eh (iq (aP.v.nm 0) Q.aU.cl (fz e).me (mP base e) (hr.mono (by decide)) (fz e).bd (af (a7 c1.1 c1.2 (hr.mono (by decide)) (af (cE (aP.v.nm 1) cQ) (af (bD Q.aU.cl Q.fm (aP.v.nm 0)) ax)) (aP.v.d 0) (aP.v.g 0)) (af (a7 c1.1 c1.2 (hr.mono (by decide)) (af (cE (aP.v.nm 1) cQ) (af (bD Q.aU.cl Q.fm (aP.v.nm 0)) ax)) (aP.v.d 0) (aP.v.g 0)) ax))))))) ph
theorem zU:Fk w mg base "is_diagonal" nj ["rows"] 280 fy 279 1 nr:=by
 let B:=Bt e;show fk (by ac_rfl) z8 (λv nd _ _ _ _ _ _ hr=>by nofun) yv
theorem g_:MethAt (KX w.params) aI "settle" "Sides.settle" gX ["self"] 256 (Hd.fd gX "settle" "Sides.settle" fy 255):=Hd.PF (by kernel_rfl) λ_ _ _ _ _ _ _=>rfl
theorem pQ:cY PW w (KX w.params) mg base fN 7 256 (Hd.fd gX "settle" "Sides.settle" fy 255) ["self"] (gj jn):=by
 let c1:=zU base e;let Q:=Qt e
 show iQ (N:=lO) (g_ e).fn d7.sc (λcdv A outer s H E hr=>(aG (eh (nV (d7.v.nm 0) Q.aU.cl (fi e).me (mG base e) (hr.mono (by decide)) (fi e).bd))
  (aG (eh (nV (d7.v.nm 0) Q.aU.cl (d6 e).me (km base e) (hr.mono (by decide)) (d6 e).bd))
  (bM (v_ (Ci (wu (a7 c1.1 c1.2 (hr.mono (by decide)) (af (bD Q.aU.cl Q.c_ (d7.v.nm 0)) ax) (d7.v.d 0) (d7.v.g 0)))) (aG (eh (nV (d7.v.nm 0) Q.aU.cl (fi e).me (mG base e) (hr.mono (by decide)) (fi e).bd))
  (bM (eh (nV (d7.v.nm 0) Q.aU.cl (d6 e).me (km base e) (hr.mono (by decide)) (d6 e).bd))))))))) wO
theorem xq:Fk w mg base "unit_rows_but" kK ["n","k","place","number"] 275 fy 274 3 iP:=by
 let c1:=mw base e;let c2:=tY base e;let B:=Bt e;show fk (by ac_rfl) wU (λv nd _ _ _ _ _ _ hr=>by nofun) vo
theorem m9:MethAt (KX w.params) aI "merge" "Sides.merge" ir ["self","k","other"] 263 (Hd.fd ir "merge" "Sides.merge" fy 262):=Hd.B7 (by kernel_rfl) λ_ _ _ _ _ _ _ _ _=>rfl
theorem z_:cY PW w (KX w.params) mg base fN 8 263 (Hd.fd ir "merge" "Sides.merge" fy 262) ["self","k","other"] (gj ny):=by
 let c1:=xq base e;let Q:=Qt e
 show iQ (N:=nt) (m9 e).fn cF.sc (λcdv A outer s H E hr=>(aG (eh (iq (cF.v.nm 0) Q.aU.cl (fz e).me (mP base e) (hr.mono (by decide)) (fz e).bd (af (a7 c1.1 c1.2 (hr.mono (by decide)) (af (bD Q.aU.cl Q.fm (cF.v.nm 0)) (af (cF.v.nm 2) (af (cF.v.nm 1) (af cQ ax)))) (cF.v.d 0) (cF.v.g 0)) (af (a7 c1.1 c1.2 (hr.mono (by decide)) (af (bD Q.aU.cl Q.fm (cF.v.nm 0)) (af (cF.v.nm 2) (af (cF.v.nm 1) (af (rD cQ) ax)))) (cF.v.d 0) (cF.v.g 0)) ax))))
  (bM (eh (nV (cF.v.nm 0) Q.aU.cl (g_ e).me (pQ base e) (hr.mono (by decide)) (g_ e).bd))))) yf
theorem BD:Fk w mg base "numbers_of" oq ["body"] 285 fy 284 1 kH:=by
 let B:=Bt e;show fk (by ac_rfl) Bf (λv nd _ _ _ _ _ _ hr=>by nofun) zR
theorem Fh:Fk w mg base "dividing" rl ["rows"] 292 fy 291 9 qw:=by
 let c1:=BD base e;let B:=Bt e;let Q:=Qt e
 show fk (by ac_rfl) aS (λv nd cdv A outer s H E hr=>(aG (cH aS.sc.nd (aS.v.l 1) (GL ⟨Q.aU.TN,(ij e).me.at_,(ij e).me.fn,Q.aU.kp⟩ (wa base e) (hr.mono (by decide)) (aS.v.g 0) Q.aU.mg (ij e).bd (af (aS.v.nm 0) ax) (aS.v.d 0)))
  (aG (eh (nV (aS.v.nm 1) Q.aU.cl (g_ e).me (pQ base e) (hr.mono (by decide)) (g_ e).bd))
  (aG (cH aS.sc.nd (aS.v.l 2) (cX eM (af (a7 c1.1 c1.2 (hr.mono (by decide)) (af (bD Q.aU.cl Q.c_ (aS.v.nm 1)) ax) (aS.v.d 1) (aS.v.g 1)) ax) B.eF rfl dw (aS.v.d 2) (aS.v.g 2)))
  (aG (kO (ke (aS.v.g 3) B.hO (af (aS.v.nm 2) ax)) (je aS.sc.nd) (bM (kO (qy (aS.v.g 3) B.hO (af (j7 uB (aS.v.nm 3) cQ) (af (aS.v.nm 2) ax))) (je aS.sc.nd) (bM (kE (g6 tM (eO _) (j7 Af (cE (cE (bD Q.aU.cl Q.c_ (aS.v.nm 1)) (aS.v.nm 4)) (aS.v.nm 4)) (cE (cE (bD Q.aU.cl Q.c_ (aS.v.nm 1)) (aS.v.nm 3)) (aS.v.nm 3))) cQ) (bM (eh (iq (aS.v.nm 1) Q.aU.cl (m9 e).me (z_ base e) (hr.mono (by decide)) (m9 e).bd (af (aS.v.nm 3) (af (aS.v.nm 4) ax))))) i6)))))
  (bM (fR (qz (af (a7 c1.1 c1.2 (hr.mono (by decide)) (af (bD Q.aU.cl Q.c_ (aS.v.nm 1)) ax) (aS.v.d 1) (aS.v.g 1)) (af (bD Q.aU.cl Q.kY (aS.v.nm 1)) (af (bD Q.aU.cl Q.gJ (aS.v.nm 1)) (af (bD Q.aU.cl Q.jV (aS.v.nm 1)) (af (bD Q.aU.cl Q.gg (aS.v.nm 1)) ax))))))))))))) Dh
theorem yn:Fk w mg base "are_dividing" l_ ["thing","most"] 299 fy 298 2 lW:=by
 let c1:=mm base e;let c2:=u_ base e;let B:=Bt e;show fk (by ac_rfl) yz (λv nd _ _ _ _ _ _ hr=>by nofun) wR
theorem FF:Fk w mg base "diagonal" qJ ["numbers","many","wide"] 304 fy 303 2 qH:=by
 let c1:=tY base e;let B:=Bt e;show fk (by ac_rfl) EL (λv nd _ _ _ _ _ _ hr=>by nofun) Dq
theorem vC:Fk w mg base "shows_dividing" kb ["rows","told"] 311 fy 310 7 jX:=by
 let c1:=pP base e;let c2:=yn base e;let c3:=Cz base e;let c4:=oW base e;let c5:=FF base e;let B:=Bt e;show fk (by ac_rfl) vT (λv nd _ _ _ _ _ _ hr=>by nofun) uI
theorem Lk:Fk w mg base "common" vN ["one","other"] 343 TF 342 1 vt:=by
 let B:=Bt e;show fk (by ac_rfl) Kd (λv nd _ _ _ _ _ _ hr=>by nofun) GI
theorem tx:Fk w mg base "form_of" sW ["rows"] 350 uS 349 6 mQ:=by
 let c1:=qG base e;let B:=Bt e;show fk (by ac_rfl) I_ (λv nd _ _ _ _ _ _ hr=>by nofun) Gj
theorem xB:Fk w mg base "longer_by_one" iO ["rows","bound"] 355 uS 354 1 kM:=by
 let B:=Bt e
 show fk (by ac_rfl) dh (λv nd cdv A outer s H E hr=>(aG (cH dh.sc.nd (dh.v.l 2) (Gm ax))
  (aG (kO (my (dh.v.nm 0)) (je dh.sc.nd) (bM (eh (RL (dh.v.nm 2) (wZ (Nc:=["number","row"]) (cN.look (bf iO) ["rows","bound","longer","row"] (by decide+kernel)) (ke (dh.v.g 0) B.hO (af (dh.v.nm 1) ax)) (λ_ _ _ _=>(je (show(["number","row"]:List Str).Nodup by decide+kernel))) (λ_ _ _ _=>jy) (λ_ _ _ _=>(j7 uB jU (qz (af jU ax)))) i9)))))
  (bM (fR (dh.v.nm 2)))))) vA
theorem Dx:Fk w mg base "all_rests" mz ["rows"] 360 uS 359 7 pv:=by
 let c1:=tx base e;let c2:=xB base e;let B:=Bt e;let Z:=Zt e
 show fk (by ac_rfl) aL (λv nd cdv A outer s H E hr=>(aG (cH aL.sc.nd (aL.v.l 1) (a7 c1.1 c1.2 (hr.mono (by decide)) (af (aL.v.nm 0) ax) (aL.v.d 0) (aL.v.g 0)))
  (aG (kE (g6 Co (eO _) (cX eM (af (aL.v.nm 1) ax) B.eF rfl dw (aL.v.d 1) (aL.v.g 1)) (cX eM (af (cE (aL.v.nm 0) cQ) ax) B.eF rfl dw (aL.v.d 1) (aL.v.g 1))) (bM (fR Ar)) i6)
  (aG (uG aL.sc.nd (aL.v.l 2) (Nc:=["k","row"]) (cN.look (bf mz) ["rows","form","bounds","count","bound","rests"] (by decide+kernel)) (BW (aL.v.g 2) B.pJ (af (aL.v.nm 1) ax)) (λ_ _ _ _=>(FT rfl (show(["k","row"]:List Str).Nodup by decide+kernel))) (λ_ _ _ _=>jy) (λ_ _ _ _=>(cE jU jU)) Ez)
  (aG (cH aL.sc.nd (aL.v.l 3) cQ)
  (aG (kO (my (aL.v.nm 2)) (je aL.sc.nd) (bM (cH aL.sc.nd (aL.v.l 3) (j7 rf (aL.v.nm 3) (aL.v.nm 4)))))
  (aG (kE (g6 BF (eO _) (aL.v.nm 3) (Nr Z.C0 (aL.v.d 3) (aL.v.g 3))) (bM JD) i6)
  (aG (cH aL.sc.nd (aL.v.l 5) (E6 (af (qz ax) ax)))
  (aG (kO (my (aL.v.nm 2)) (je aL.sc.nd) (bM (cH aL.sc.nd (aL.v.l 5) (a7 c2.1 c2.2 (hr.mono (by decide)) (af (aL.v.nm 5) (af (aL.v.nm 4) ax)) (aL.v.d 4) (aL.v.g 4)))))
  (bM (fR (kL p8 (af (aL.v.nm 5) ax) B.mf rfl j9 (aL.v.d 5) (aL.v.g 5))))))))))))) AU
theorem wV:Fk w mg base "rest_sum" qx ["rows","one","other"] 367 uS 366 7 kR:=by
 let c1:=p_ base e;let c2:=tx base e;let c3:=Oq base e;let B:=Bt e;show fk (by ac_rfl) Fz (λv nd _ _ _ _ _ _ hr=>by nofun) DF
theorem Cv:Fk w mg base "rest_order" oN ["rows","row"] 372 uS 371 7 oh:=by
 let c1:=tx base e;let c2:=ze base e;let c3:=Lk base e;let c4:=p_ base e;let B:=Bt e;show fk (by ac_rfl) AE (λv nd _ _ _ _ _ _ hr=>by nofun) zY
theorem AK:Fk w mg base "_law_source" oa ["_law_script","_law_k"] 379 la 378 1 nY:=by
 let B:=Bt e;show fk (by ac_rfl) BH (λv nd _ _ _ _ _ _ hr=>by nofun) zN
theorem k_:Fk w mg base "_law_take" qQ ["_law_source_here","_law_many"] 386 la 385 1 cm:=by
 let B:=Bt e;show fk (by ac_rfl) F7 (λv nd _ _ _ _ _ _ hr=>by nofun) Dl
theorem Ca:Fk w mg base "_law_number" oz ["_law_source_here"] 393 la 392 2 oF:=by
 let c1:=k_ base e;let B:=Bt e;show fk (by ac_rfl) AO (λv nd _ _ _ _ _ _ hr=>by nofun) zK
theorem AS:Fk w mg base "_law_turned" ot ["_law_source_here","_law_rows"] 398 la 397 2 oM:=by
 let c1:=k_ base e;let B:=Bt e;show fk (by ac_rfl) Cp (λv nd _ _ _ _ _ _ hr=>by nofun) Aa
theorem E5:Fk w mg base "_law_form" rj ["_law_source_here","_law_leads_here"] 405 la 404 2 qV:=by
 let c1:=k_ base e;let B:=Bt e;show fk (by ac_rfl) FU (λv nd _ _ _ _ _ _ hr=>by nofun) C_
theorem Dz:Fk w mg base "_law_leads" pF ["_law_source_here","_law_most"] 412 la 411 2 pE:=by
 let c1:=k_ base e;let B:=Bt e;show fk (by ac_rfl) Dw (λv nd _ _ _ _ _ _ hr=>by nofun) BB
theorem Ff:Fk w mg base "_law_seen" qu ["_law_told","_law_row"] 417 la 416 1 gu:=by
 let B:=Bt e;show fk (by ac_rfl) FR (λv nd _ _ _ _ _ _ hr=>by nofun) Dp
theorem uK:Fk w mg base "_law_comes_round" jG ["_law_rows","_law_rest","_law_order"] 424 la 423 8 jJ:=by
 let c1:=wV base e;let B:=Bt e;show fk (by ac_rfl) uJ (λv nd _ _ _ _ _ _ hr=>by nofun) tL
theorem RW:Fk w mg base "law" oU ["_law_script"] 429 la 428 10 LL:=by
 let c1:=AK base e;let c2:=Dz base e;let c3:=E5 base e;let c4:=AS base e;let c5:=Fh base e;let c6:=Dx base e;let c7:=vC base e;let c8:=Ff base e;let c9:=Ca base e;let c10:=wV base e;let c11:=k_ base e;let c12:=Cv base e;let c13:=uK base e;let B:=Bt e
 show fk (by ac_rfl) aj (λv nd cdv A outer s H E hr=>(aG (cH aj.sc.nd (aj.v.l 1) (a7 c1.1 c1.2 (hr.mono (by decide)) (af (aj.v.nm 0) (af cQ ax)) (aj.v.d 0) (aj.v.g 0)))
  (aG (cH aj.sc.nd (aj.v.l 2) (a7 c3.1 c3.2 (hr.mono (by decide)) (af (aj.v.nm 1) (af (a7 c2.1 c2.2 (hr.mono (by decide)) (af (aj.v.nm 1) (af cQ ax)) (aj.v.d 1) (aj.v.g 1)) ax)) (aj.v.d 2) (aj.v.g 2)))
  (aG (cH aj.sc.nd (aj.v.l 3) (a7 c4.1 c4.2 (hr.mono (by decide)) (af (aj.v.nm 1) (af (aj.v.nm 2) ax)) (aj.v.d 3) (aj.v.g 3)))
  (aG (cH aj.sc.nd (aj.v.l 4) (a7 c5.1 c5.2 (hr.mono (by decide)) (af (aj.v.nm 3) ax) (aj.v.d 4) (aj.v.g 4)))
  (aG (cH aj.sc.nd (aj.v.l 5) (a7 c6.1 c6.2 (hr.mono (by decide)) (af (aj.v.nm 3) ax) (aj.v.d 5) (aj.v.g 5)))
  (aG (cH aj.sc.nd (aj.v.l 6) cQ)
  (aG (kO (my (cE (aj.v.nm 4) cQ)) (je aj.sc.nd) (bM (cH aj.sc.nd (aj.v.l 6) (j7 rf (aj.v.nm 6) (aj.v.nm 7)))))
  (aG (kE (Fl (FX (g6 tM (eO _) (cX eM (af (cE (aj.v.nm 4) cQ) ax) B.eF rfl dw (aj.v.d 6) (aj.v.g 6)) (cX eM (af (aj.v.nm 2) ax) B.eF rfl dw (aj.v.d 6) (aj.v.g 6))) (AZ (Ci (wu (a7 c7.1 c7.2 (hr.mono (by decide)) (af (aj.v.nm 3) (af (aj.v.nm 4) ax)) (aj.v.d 7) (aj.v.g 7))))))) (bM (fR tX)) i6)
  (aG (kE (Fl (FX (g6 tM (eO _) (Rq hr (aj.v.g 6) B.eF (aj.v.g 8) B.RP (af (wZ (Nc:=["_law_rest","_law_told"]) (cN.look (bf oU) ["_law_script","_law_source_here","_law_form_here","_law_rows","_law_told","_law_rests","_law_added_up","_law_number_here","_law_row","_law_one","_law_other","_law_due","_law_order"] (by decide+kernel)) (my (aj.v.nm 5)) (λ_ _ _ _=>(je (show(["_law_rest","_law_told"]:List Str).Nodup by decide+kernel))) (λ_ _ _ _=>jy) (λ_ _ _ _=>(a7 c8.1 c8.2 (hr.mono (by decide)) (af jU (af jU ax)) (by decide+kernel) rfl)) i9) ax)) (cX eM (af (aj.v.nm 5) ax) B.eF rfl dw (aj.v.d 6) (aj.v.g 6))) (AZ (g6 tM (eO _) (cX eM (af (aj.v.nm 5) ax) B.eF rfl dw (aj.v.d 6) (aj.v.g 6)) (aj.v.nm 6))))) (bM (fR tX)) i6)
  (aG (cH aj.sc.nd (aj.v.l 8) (kL p8 (af (wZ (Nc:=["_law_k","_law_source_here"]) (cN.look (bf oU) ["_law_script","_law_source_here","_law_form_here","_law_rows","_law_told","_law_rests","_law_added_up","_law_number_here","_law_row","_law_one","_law_other","_law_due","_law_order"] (by decide+kernel)) (ke (aj.v.g 9) B.hO (af (cX eM (af (aj.v.nm 2) ax) B.eF rfl dw (aj.v.d 6) (aj.v.g 6)) ax)) (λ_ _ _ _=>(je (show(["_law_k","_law_source_here"]:List Str).Nodup by decide+kernel))) (λ_ _ _ _=>jy) (λ_ _ _ _=>(a7 c9.1 c9.2 (hr.mono (by decide)) (af jU ax) (by decide+kernel) rfl)) i9) ax) B.mf rfl j9 (aj.v.d 10) (aj.v.g 10)))
  (aG (kE (g6 (Mi hr) (eO _) (a7 c8.1 c8.2 (hr.mono (by decide)) (af (aj.v.nm 4) (af (a7 c10.1 c10.2 (hr.mono (by decide)) (af (aj.v.nm 3) (af (aj.v.nm 8) (af (j7 rf (qz (af cQ ax)) (cX eM (af (aj.v.nm 2) ax) B.eF rfl dw (aj.v.d 6) (aj.v.g 6))) ax))) (aj.v.d 11) (aj.v.g 11)) ax)) (aj.v.d 12) (aj.v.g 12)) (a7 c8.1 c8.2 (hr.mono (by decide)) (af (aj.v.nm 4) (af (aj.v.nm 8) ax)) (aj.v.d 12) (aj.v.g 12))) (bM (fR tX)) i6)
  (aG (cH aj.sc.nd (aj.v.l 9) (cE (aj.v.nm 5) (a7 c11.1 c11.2 (hr.mono (by decide)) (af (aj.v.nm 1) (af (cX eM (af (aj.v.nm 5) ax) B.eF rfl dw (aj.v.d 6) (aj.v.g 6)) ax)) (aj.v.d 13) (aj.v.g 13))))
  (aG (cH aj.sc.nd (aj.v.l 10) (cE (aj.v.nm 5) (a7 c11.1 c11.2 (hr.mono (by decide)) (af (aj.v.nm 1) (af (cX eM (af (aj.v.nm 5) ax) B.eF rfl dw (aj.v.d 6) (aj.v.g 6)) ax)) (aj.v.d 13) (aj.v.g 13))))
  (aG (uG aj.sc.nd (aj.v.l 11) (Nc:=["_law_a","_law_b","_law_number_here"]) (cN.look (bf oU) ["_law_script","_law_source_here","_law_form_here","_law_rows","_law_told","_law_rests","_law_added_up","_law_number_here","_law_row","_law_one","_law_other","_law_due","_law_order"] (by decide+kernel)) (Pj (aj.v.g 14) B.EX (af (a7 c8.1 c8.2 (hr.mono (by decide)) (af (aj.v.nm 4) (af (aj.v.nm 9) ax)) (aj.v.d 12) (aj.v.g 12)) (af (a7 c8.1 c8.2 (hr.mono (by decide)) (af (aj.v.nm 4) (af (aj.v.nm 10) ax)) (aj.v.d 12) (aj.v.g 12)) (af (cE (aj.v.nm 4) cQ) ax)))) (λ_ _ _ _=>(Sn rfl (show(["_law_a","_law_b","_law_number_here"]:List Str).Nodup by decide+kernel))) (λ_ _ _ _=>jy) (λ_ _ _ _=>(j7 Af (j7 uB jU jU) jU)) Ie)
  (aG (kE (g6 (Mi hr) (eO _) (a7 c8.1 c8.2 (hr.mono (by decide)) (af (aj.v.nm 4) (af (a7 c10.1 c10.2 (hr.mono (by decide)) (af (aj.v.nm 3) (af (aj.v.nm 9) (af (aj.v.nm 10) ax))) (aj.v.d 11) (aj.v.g 11)) ax)) (aj.v.d 12) (aj.v.g 12)) (kL p8 (af (aj.v.nm 11) ax) B.mf rfl j9 (aj.v.d 10) (aj.v.g 10))) (bM (fR tX)) i6)
  (aG (cH aj.sc.nd (aj.v.l 12) (a7 c12.1 c12.2 (hr.mono (by decide)) (af (aj.v.nm 3) (af (aj.v.nm 9) ax)) (aj.v.d 15) (aj.v.g 15)))
  (bM (fR (Ag (Ad wY (eO _) (aj.v.nm 12) Ar) (Ag (Ad FK (eO _) (aj.v.nm 12) (cX eM (af (aj.v.nm 5) ax) B.eF rfl dw (aj.v.d 6) (aj.v.g 6))) (EK (a7 c13.1 c13.2 (hr.mono (by decide)) (af (aj.v.nm 3) (af (aj.v.nm 9) (af (aj.v.nm 12) ax))) (aj.v.d 16) (aj.v.g 16)))))))))))))))))))))))) Qi
end
def dL:DefRec:=match oU with
 | .FunctionDef n a b _ _ _ sc _ _ pos=>⟨n,a,b,sc,pos⟩
 |_=>⟨"",L2.ko (.Pass ⟨0,0,0,0⟩),[],L2.bf (.Pass ⟨0,0,0,0⟩),⟨0,0,0,0⟩⟩
def JZ:PySem.Challenge.rw_latticeworks_k30_whole_rests_told_apart.wellSaid=true:=by decide+kernel
end Row
open PySem PySem.W PyProof.Rows
set_option maxRecDepth 100000 in
set_option maxHeartbeats 0 in
theorem PySem.Challenge.cw_latticeworks_k30_whole_rests_told_apart_holds : PySem.Challenge.rw_latticeworks_k30_whole_rests_told_apart.Holds := by
 show PySem.W.holds_law Row.JZ λJZ=>?_;show PySem.W.holds_open (r:=PySem.Challenge.rw_latticeworks_k30_whole_rests_told_apart.row) (q:=PySem.W.view Row.PW [1,2,3,4,6,7,8,9,10,11,12,13,14,15,16,18,19,20,21,22,23,24,25,27,28,29,30,31,32,33,34,36,37,39,41,42,43,44,45,46,48,49,50,51,52,53,54,55,56]) (loose:=[]) (Xt:=λ_=>true) (XP:=λ_ _=>True) (YP:=(PySem.W.kmHook Row.KX Row.KA (λ_=>rfl) [162]).says) (d:=Row.dL) (kwd:=[]) Row.left ((PySem.W.kmHook Row.KX Row.KA (λ_=>rfl) [162]).of) ((PySem.W.kmHook Row.KX Row.KA (λ_=>rfl) [162]).keeps) (λ_ _=>trivial) (λ_ _ _ _ _=>trivial) (by kernel_rfl) (by kernel_rfl) (by kernel_rfl) (λs _=>PySem.W.recFacts_of (R:=[]) rfl) (by kernel_rfl) JZ (by decide+kernel) ⟨rfl,rfl,rfl,rfl,rfl,by decide+kernel⟩ ?hw ?hc;case hw=>w_witness2
 show L2.RQ (n:=63) (k:=10) (x:="_law_script") (ts:=[(164,162)]) (K:=Row.KX) (sp:=λw=>L3.HW (Row.KX w.params) [(164,162)]) rfl (by decide) (by kernel_rfl) ⟨rfl,by decide,by decide⟩ (by kernel_rfl) rfl (λw h Y=>⟨PySem.W.km_in_of Y,⟨(λq hq=>by rcases V8.mp hq with rfl|hq;kernel_rfl;cases hq),(λq hq=>by rcases V8.mp hq with rfl|hq;kernel_rfl;cases hq),λq hq=>PySem.W.km_tabs_of Y _ (aab (f:=Prod.snd) hq)⟩⟩) ?F λ_ _ a ns hl hE=>⟨a,ns,rfl,hE,hl,λ_=>rfl⟩
 intro w mg fa h X G hmg;let e2:=hmg.symm.trans (aav (v:= .ref 429) X G (by kernel_rfl));cases e2;show⟨Hd.fd Row.oU "law" "law" Row.la 428,λs v=> .of_eq rfl,λbase _ _=>(Row.RW base ⟨X,G⟩).2.imp λvs H Q E h=>L3.GW (tl:=[(162,⟨85,32,85,66⟩,"Bench.live_rows.<locals>.<lambda>")]) (by kernel_rfl) rfl (by decide) h⟩
