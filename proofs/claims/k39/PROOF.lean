import PyProof.Rows.All
import Wide.All
import OpenK.AllK
import Wide.FinOn
import Lean
import PyProof.EqAt
import PyProof.EqKinds
import PyProof.TupleCall
import PyProof.NeKinds
import KE.KUnpack
import PyProof.CallStr
import PySem.Challenge.RW_latticeworks_k39_whole_short_again
set_option Elab.async false
set_option autoImplicit true
set_option relaxedAutoImplicit true
set_option linter.all false
set_option maxRecDepth 100000
local macro_rules|`(def $i:declId$s:optDeclSig$v:declVal)=>`(noncomputable def $i:declId$s:optDeclSig$v:declVal)
local macro_rules|`(@[irreducible]def $i:declId$s:optDeclSig$v:declVal)=>`(@[irreducible]noncomputable def $i:declId$s:optDeclSig$v:declVal)
local macro_rules|`(abbrev $i:declId$s:optDeclSig$v:declVal)=>`(noncomputable abbrev $i:declId$s:optDeclSig$v:declVal)
local macro_rules|`(tactic|let $d:letDecl)=>`(tactic|have $d:letDecl)
local macro_rules|`(tactic|show $t)=>`(tactic|refine $t)
local macro_rules|`(tactic|simp![$l,*]$[$k]?)=>`(tactic|simp only[$l,*]$[$k]?)
def WT:=@PySem.wpAny_bind
def WU:=@PySem.Heap.get?_push_of_some
def WV:=@List.getElem?_eq_some_iff
def WW:=@if_neg
def WX:=@Nat.le_refl
def WY:=@if_pos
def WZ:=@Nat.le_trans
def W0:=@List.getElem?_set_ne
def W2:=@List.length_map
def W3:=@List.getElem?_append_left
def W4:=@Ne.symm
def W5:=@PySem.wpAny_pure
def W6:=@List.size_toArray
def W7:=@List.getElem?_eq_getElem
def W8:=@PySem.Heap.lt_size
def W9:=@List.getElem?_set_self
def W_:=@List.getElem?_map
def Xa:=@List.getD_eq_getElem?_getD
def Xb:=@Nat.le_of_ble_eq_true
def Xd:=@Nat.pow_le_pow_right
def Xe:=@PySem.Heap.get?_push_size
def Xf:=@List.length_set
def Xg:=@List.mem_cons_of_mem
def Xh:=@List.mem_cons
def Xi:=@List.not_mem_nil
def Xj:=@Nat.lt_of_lt_of_le
def Xk:=@List.mem_cons_self
def Xl:=@List.mem_append_right
def Xm:=@List.drop_eq_getElem_cons
def Xn:=@Nat.ne_of_lt
def Xo:=@Int.natAbs_mul
def Xp:=@List.mem_iff_getElem
def Xq:=@Nat.zero_le
def Xr:=@List.getElem?_append_right
def Xs:=@Int.le_trans
def Xu:=@List.mem_of_getElem?
def Xv:=@Int.toNat_natCast
def Xw:=@List.length_cons
def Xx:=@List.getElem_map
def Xy:=@List.map_map
def Xz:=@List.map_congr_left
def XA:=@List.all_eq_true
def XB:=@List.mem_map
def XC:=@Nat.lt_succ_self
def XD:=@Int.mul_le_mul_of_nonneg_right
def XE:=@List.flatten_cons
def XF:=@Nat.lt_succ_of_lt
def XG:=@List.getElem_range
def XH:=@List.map_cons
def XI:=@List.mem_range
def XJ:=@PySem.Heap.size_push
def XM:=@Nat.mul_le_mul
def XN:=@List.lookup_cons
def XO:=@decide_eq_false
def XQ:=@PySem.W.mg_none_of
def XR:=@PySem.mem_of_lookup
def XS:=@PySem.wpAny_field
def XT:=@Int.mul_zero
def XU:=@Nat.lt_irrefl
def XW:=@Nat.mul_le_mul_right
def XX:=@List.getElem_mem
def XY:=@List.mem_append
def XZ:=@Option.some.inj
def X8:=@List.length_append
def X9:=@PySem.wpAny_seqItems
def X_:=@Nat.lt_of_le_of_lt
def Yb:=@List.getElem?_range
def Yc:=@Bool.and_eq_true
def Yd:=@PySem.wpAny_setField_rec
def Ye:=@congrArg
def Yg:=@Int.one_mul
def Yh:=@List.length_eq_zero_iff
def Yi:=@List.map_append
def Yj:=@not_false_eq_true
def Yk:=@Bool.false_ne_true
def Yl:=@PySem.sizeLine_eq
def Ym:=@PySem.wpAny_callSpecial?_slot
def Yn:=@Int.le_of_lt
def Yo:=@Int.mul_le_mul_of_nonneg_left
def Yp:=@List.range_succ_eq_map
def Yq:=@Int.fmod_nonneg_of_pos
def Yr:=@Int.mul_assoc
def Ys:=@Nat.not_lt_zero
def Yt:=@Int.natCast_pow
def Yu:=@List.length_take
def Yv:=@PyProof.Rows.callWith_type1
def Yw:=@List.getElem?_eq_none
def Yx:=@PyProof.Rows.slot_tuple_getitem
def Yy:=@List.cons.injEq
def Yz:=@Int.mul_comm
def YA:=@Nat.pow_lt_pow_right
def YB:=@List.range_succ
def YC:=@PySem.W.kia_one
def YD:=@List.append_nil
def YE:=@Int.mul_pos
def YF:=@Int.fmod_lt_of_pos
def YG:=@List.getElem?_cons_succ
def YH:=@List.mem_append_left
def YI:=@Int.natAbs_neg
def YJ:=@Nat.pow_add
def YK:=@Int.mul_left_comm
def YL:=@List.replicate_succ
def YM:=@PySem.Heap.SameBut.update
def YN:=@List.mem_or_eq_of_mem_set
def YO:=@Int.mul_ne_zero
def YQ:=@Nat.le_of_lt
def YR:=@PySem.wpAny_call_entry
def YS:=@Bool.false_eq_true
def YT:=@Int.mul_fdiv_cancel_left
def YU:=@PySem.wpAny_mono
def YV:=@Int.mul_le_mul
def YW:=@PySem.wpAny_newObj_type
def YX:=@List.append_assoc
def YY:=@or_false
def YZ:=@Nat.ne_of_gt
def Y0:=@Nat.sub_self
def Y1:=@List.drop_eq_nil_of_le
def Y2:=@List.take_of_length_le
def Y3:=@PySem.wpAny_onRaise
def Y4:=@decide_eq_true
def Y5:=@Int.lt_of_mul_lt_mul_left
def Y6:=@Nat.one_mul
def Y7:=@beq_iff_eq
def Y8:=@Nat.mul_comm
def Y9:=@PySem.F.slot_zip_next
def Y_:=@Int.add_zero
def Za:=@Nat.pow_succ
def Zb:=@Int.sub_zero
def Zc:=@Int.natCast_mul
def Zd:=@PySem.wpAny_truthy_bool
def Ze:=@beq_eq_false_iff_ne
def Zf:=@PySem.W.cellsFrom_some
def Zg:=@PySem.wpAny_letGo
def Zh:=@Int.neg_mul
def Zi:=@Nat.log2_lt
def Zj:=@PySem.wpAny_pyIter_tuple
def Zk:=@Nat.one_le_two_pow
def Zl:=@Int.natAbs_natCast
def Zm:=@PySem.wpAny_passesOwn
def Zn:=@List.nodup_cons
def Zo:=@if_true
def Zp:=@PySem.Heap.get?_update_self
def Zq:=@PySem.wpAny_holding
def Zr:=@if_false
def Zs:=@PySem.F.slot_tuple_iterator_next
def Zt:=@and_true
def Zu:=@Int.mul_lt_mul_of_pos_left
def Zv:=@Int.fdiv_eq_ediv_of_nonneg
def Zw:=@PySem.wpAny_pyIter_list
def Zx:=@Int.eq_of_mul_eq_mul_left
def Zy:=@Int.le_of_mul_le_mul_left
def Zz:=@Classical.byContradiction
def ZA:=@Int.pow_add
def ZC:=@Option.isSome_iff_exists
def ZD:=@PySem.F.args_tuple_add_2
def ZE:=@decide_eq_decide
def ZF:=@PySem.wpAny_isInstance
def ZG:=@Int.zero_mul
def ZH:=@Int.pow_succ
def ZI:=@Array.length_toList
def ZJ:=@Nat.mul_le_mul_left
def ZK:=@PySem.F.entry_tuple_add
def ZL:=@PySem.wpAny_attempt
def ZM:=@Nat.mul_assoc
def ZN:=@List.map_take
def ZO:=@PySem.wpAny_execs_nil
def ZP:=@PySem.wpAny_Call_Name_kw
def ZQ:=@List.forIn_cons
def ZR:=@Option.map_some
def ZS:=@List.mem_singleton
def ZT:=@Int.sub_eq_add_neg
def ZU:=@Nat.min_eq_left
def ZV:=@PySem.F.slot_tuple_add
def ZW:=@PySem.Heap.get?_update_other
def ZX:=@List.forIn_nil
def ZY:=@not_or
def ZZ:=@Nat.zero_add
def Z0:=@Int.mul_nonneg
def Z_:=@Nat.lt_or_ge
def aaa:=@Int.ofNat_le
def aab:=@PySem.wpAny_rule
def aac:=@List.length_drop
def aad:=@Nat.le_of_not_lt
def aae:=@PySem.F.slot_tuple_mul
def aaf:=@List.ext_getElem
def aag:=@Int.natAbs_of_nonneg
def aah:=@Int.natAbs_mul_self'
def aai:=@List.mem_of_mem_take
def aaj:=@Nat.add_mul
def aak:=@Nat.pow_mul
def aal:=@Int.pow_pos
def aam:=@List.filterMap_cons
def aan:=@Int.toNat_of_nonneg
def aao:=@Bool.or_eq_true
def aap:=@List.getElem?_zip_eq_some
def aaq:=@List.length_nil
def aar:=@PyProof.Rows.get?_update_seq
def aas:=@List.mem_filterMap
def aat:=@List.getElem?_take_of_lt
def aau:=@Int.zero_add
def aav:=@Int.natCast_nonneg
def aaw:=@PySem.call_meets
def aax:=@Nat.le_mul_of_pos_right
def aay:=@PySem.W.kitx_list
def aaz:=@PySem.W.kitx_dict
def aaA:=@PySem.F.args_zip_next_1
def aaB:=@Int.mul_nonneg_of_nonpos_of_nonpos
def aaC:=@List.length_range
def aaD:=@Nat.le_succ
def aaE:=@Int.le_refl
def aaF:=@Nat.mul_one
def aaG:=@PySem.wpAny_standAt
def aaH:=@List.all_cons
def aaI:=@PySem.noFill_tuple_add
def aaJ:=@beq_self_eq_true
def aaK:=@List.zipIdx_cons
def aaL:=@PySem.F.entry_zip_next
def aaM:=@PySem.wpAny_pyIter_zip
def aaN:=@List.take_succ_eq_append_getElem
def aaO:=@PySem.F.plain_sum_loop
def aaP:=@Nat.eq_zero_of_gcd_eq_zero_right
def aaQ:=@List.lookup_cons_self
def aaR:=@Rat.divInt_mul_divInt
def aaS:=@Classical.choose_spec
def aaT:=@Bool.eq_iff_iff
def aaU:=@List.of_mem_zip
def aaV:=@PySem.F.slot_int_rmul
def aaW:=@PySem.wpAny_ite_false
def aaX:=@bne_iff_ne
def aaY:=@List.zipIdx_nil
def aaZ:=@PySem.wpAny_updateSeq_pair
def aa0:=@Bool.and_eq_true_iff
def aa1:=@Nat.lt_trans
def aa2:=@List.map_set
def aa3:=@PySem.W.plainGet_of
def aa4:=@List.mem_map_of_mem
def aa5:=@Int.natAbs_mul_self
def aa6:=@PySem.F.args_tuple_iterator_next_1
def aa7:=@PyProof.Rows.assignInOrder_cons
def aa8:=@PySem.W.callWith_K
def aa9:=@PySem.F.args_tuple_mul_2
def aa_:=@PySem.F.entry_tuple_iterator_next
def aba:=@List.pairwise_cons
def abb:=@PySem.Calls.Name_function_global
def abc:=@PySem.seq_tuple_add
def abd:=@List.any_cons
def abe:=@PyProof.Rows.listUpdate_at
def abf:=@Int.le_of_mul_le_mul_right
def abg:=@List.any_eq_false
def abh:=@Nat.le_of_succ_le
def abi:=@PySem.F.entry_tuple_mul
def abj:=@List.pairwise_map
def abk:=@List.getElem?_set
def abl:=@Nat.le_of_lt_succ
def abm:=@Nat.mul_left_comm
def abn:=@List.ext_getElem?
def abo:=@Int.natAbs_add_le
def abp:=@PySem.typeIs_int
def abq:=@PySem.wpAny_binaryOp_repeat_ref
def abr:=@List.getElem?_eq_none_iff
def abt:=@PySem.wpAny_letOwnedTupleGo_zip
def abu:=@Int.natAbs_ediv_le_natAbs
def abv:=@PySem.wpAny_execs_cons
def abw:=@Nat.le_of_eq
def abx:=@PySem.codeAny_mono
def aby:=@PySem.concat_meets
def abz:=@PyProof.noPylong_of_log2
def abA:=@Nat.le_add_right
def abB:=@Nat.sub_zero
def abC:=@Int.ne_of_gt
def abD:=@Nat.succ_lt_succ
def abE:=@List.getElem?_replicate
def abF:=@List.getElem?_cons_zero
def abG:=@List.nil_append
def abH:=@PySem.wpAny_updateSeq
def abI:=@List.length_zip
def abJ:=@beq_false_of_ne
def abK:=@Nat.le_antisymm
def abL:=@PySem.seqIndex_of
def abM:=@Prod.mk.inj
def abN:=@Int.mul_add
def abO:=@PySem.W.methodCall_KW
def abP:=@List.length_singleton
def abQ:=@List.getElem?_toArray
def abR:=@Bool.and_false
def abS:=@PySem.wpAny_newTuple
def abT:=@PySem.isSubtype_stop
def abU:=@List.take_append_drop
def abV:=@List.contains_iff_mem
def abW:=@Int.add_nonneg
def abX:=@Rat.divInt_sub_divInt
def abY:=@Int.fmod_add_mul_fdiv
def abZ:=@Int.mul_fdiv_add_fmod
def ab0:=@List.drop_zero
def ab1:=@List.set_append_right
def ab2:=@List.filterMap_append
def ab3:=@Nat.not_lt
def ab4:=@Prod.mk.injEq
def ab5:=@PySem.W.mg_of
def ab6:=@Nat.succ_mul
def ab7:=@Nat.min_self
def ab8:=@Nat.zero_mul
def ab9:=@Nat.gcd_comm
namespace L2
open PySem PySem.Spec PyProof.Rows
abbrev Key:=Sum Int Str
def MZ:Key->Value->Bool
 | .inl k,v=>Value.isInt k v
 | .inr x,v=>Value.isStrOf x v
def Wm(w:World):Key->Int
 | .inl k=>hashInt k
 | .inr x=>hashStr w x
def eZ:∀ {k:Key} {v:Value},MZ k v=true->(∃i t,k=Sum.inl i/\v=Value.int i t)\/(∃x t,k=Sum.inr x/\v=Value.str x t)
 | .inl i,v,h=>by
   obtain⟨t,e⟩:=Value.isInt_shape (k:=i) (v:=v) h;show .inl ⟨i,t,rfl,e⟩
 | .inr x,v,h=>by
   obtain⟨t,e⟩:=Value.isStrOf_shape (x:=x) (v:=v) h;show .inr ⟨x,t,rfl,e⟩
def Sf(a b:Int):decide ((Sum.inl a:Key)=Sum.inl b)=(a==b):=by
 by_cases e:a=b
 . subst e;simp
 . have h:¬(Sum.inl a:Key)=Sum.inl b:=λq=>e (Sum.inl.inj q);rw[XO h];show(Ze.mpr e).symm
def Sl(a b:Str):decide ((Sum.inr a:Key)=Sum.inr b)=decide (a=b):=by
 by_cases e:a=b
 . subst e;simp
 . have h:¬(Sum.inr a:Key)=Sum.inr b:=λq=>e (Sum.inr.inj q);rw[XO h,XO e]
def Qx(a:Int)(b:Str):decide ((Sum.inl a:Key)=Sum.inr b)=false:=XO (λq=>nomatch q)
def QC(a:Str)(b:Int):decide ((Sum.inr a:Key)=Sum.inl b)=false:=XO (λq=>nomatch q)
def Es(prog:Program)(w:World):PySem.KeyKind prog w Key where
 is:=MZ
 hash:=Wm w
 inj:=λv a b g d=>by
  rcases eZ g with⟨i,t,rfl,rfl⟩|⟨x,t,rfl,rfl⟩
  . rcases eZ d with⟨j,u,rfl,e⟩|⟨y,u,rfl,e⟩
    . injection e with e1 _;rw[e1]
    . show nomatch e
  . rcases eZ d with⟨j,u,rfl,e⟩|⟨y,u,rfl,e⟩
    . show nomatch e
    . injection e with e1 _;rw[e1]
 byValue:=λk v h=>by
  rcases eZ h with⟨i,t,rfl,rfl⟩|⟨x,t,rfl,rfl⟩<;>rfl
 pyHash:=λc h=>by
  rcases eZ c with⟨i,t,rfl,rfl⟩|⟨x,t,rfl,rfl⟩
  . show wpAny_pyHash_int h
  . show wpAny_pyHash_str h
 eqBool:=λf c h=>by
  rcases eZ f with⟨i,t,rfl,rfl⟩|⟨x,t,rfl,rfl⟩
  . rcases eZ c with⟨j,u,rfl,rfl⟩|⟨y,u,rfl,rfl⟩
    . rw[Sf]at h;show wpAny_eqBool_int h
    . rw[Qx]at h;show SeqAt.EqAt.int_str i t y u _ _ _ _ h
  . rcases eZ c with⟨j,u,rfl,rfl⟩|⟨y,u,rfl,rfl⟩
    . rw[QC]at h;show SeqAt.EqAt.str_int x t j u _ _ _ _ h
    . rw[Sl]at h;show wpAny_eqBool_str h
 «strs» :=λk x t v h=>by
  rcases eZ h with⟨i,u,rfl,e⟩|⟨y,u,rfl,e⟩
  . show nomatch e
  . injection e with e1 _;subst e1;cases v<;>rfl
inductive V where
 |aD|bl (b:Bool)|int (i:Int)|str (x:Str)|uY (b:Array UInt8)|u7 (b:UInt64)|ref (a:Addr)|ty (n:String)
 deriving DecidableEq
def RelV:V->Value->Prop
 | .aD,u=>u=Value.none
 | .bl b,u=>u=Value.bool b
 | .int i,u=>∃t,u=Value.int i t
 | .str x,u=>∃t,u=Value.str x t
 | .uY b,u=>∃t,u=Value.bytes b t
 | .u7 b,u=>∃t,u=Value.float b t
 | .ref a,u=>u=Value.ref a
 | .ty n,u=>u=Value.type n
abbrev Vals:List V->List Value->Prop:=Paired RelV
def Vals.length{xs:List V}{us:List Value}(r:Vals xs us):xs.length=us.length:=Paired.length r
def Vals.get:∀ {xs:List V} {us:List Value} {i:Nat} {x:V},Vals xs us->xs[i]?=some x->∃u,us[i]?=some u/\RelV x u
 |_,_,_,_,.nil,e=>by simp at e
 |_,_,0,_,.cons r _,e=>by simp at e;subst e;show⟨_,rfl,r⟩
 |_,_,i+1,x,.cons _ t,e=>by
  obtain⟨u,b,a⟩:=Vals.get (i:=i) (x:=x) t (by simpa using e);show⟨u,by simpa using b,a⟩
def Vals.set(r:RelV x u):∀ {xs:List V} {us:List Value} (i:Nat),Vals xs us->Vals (xs.set i x) (us.set i u)
 |_,_,_,.nil=> .nil
 |_,_,0,.cons _ t=> .cons r t
 |_,_,i+1,.cons q t=> .cons q (Vals.set r i t)
def Vals.append:∀ {xs ys:List V} {us ws:List Value},Vals xs us->Vals ys ws->Vals (xs++ys) (us++ws)
 |_,_,_,_,.nil,s=>s
 |_,_,_,_,.cons r t,s=> .cons r (Vals.append t s)
def Vals.take:∀ {xs:List V} {us:List Value} (n:Nat),Vals xs us->Vals (xs.take n) (us.take n)
 |_,_,0,_=> .nil
 |_,_,_+1,.nil=> .nil
 |_,_,n+1,.cons r t=> .cons r (Vals.take n t)
def Vals.drop:∀ {xs:List V} {us:List Value} (n:Nat),Vals xs us->Vals (xs.drop n) (us.drop n)
 |_,_,0,r=>r
 |_,_,_+1,.nil=> .nil
 |_,_,n+1,.cons _ t=>Vals.drop n t
def pC:Option V->Option Value->Prop
 |some v,some u=>RelV v u
 |none,none=>True
 |_,_=>False
def KV{κ:Type}:List (κ×V)->List (κ×Value)->Prop:=Paired λ(p:κ×V) (q:κ×Value)=>p.1=q.1/\RelV p.2 q.2
def kV:Key->V
 | .inl i=> .int i
 | .inr x=> .str x
inductive HO where
 |lst (xs:List V)
 |tup (xs:List V)
 |dK (kvs:List (Key×V))|dT (kvs:List (List Key×V))
 |set (S:Int->Bool) (n:Nat)
 |ins (C dx:Addr) (fs:List (Str×V))
 |own (x:Addr)
 |xd (fs:List (Str×V))
 |met (f x:Addr)
 |Rr (lo hi:Int)
 |gG (o:Obj) (u:HO)
 |kq (ps:Array Value)
 |ext (φ:Heap->Prop)
abbrev Hp:=Addr->Option HO
def upd(H:Hp)(a:Addr)(o:HO):Hp:=λb=>if b=a then some o else H b
def a9:upd H a o a=some o:=by unfold upd;rw[WY rfl]
def aB(h:b≠a):upd H a o b=H b:=by unfold upd;rw[WW h]
def N3:upd (upd H a o) a u=upd H a u:=by
 funext b;unfold upd;split<;>rfl
def dz{H:Hp}{a b:Addr}{o:HO}(h:H a=some o)(h':H b=none):a≠b:=by
 intro e;subst e;rw[h]at h';cases h'
section
variable (P:Program)(w:World)
def di(H:Hp)(h:Heap)(a:Addr):HO->Prop
 | .lst c=>c.length<=sizeLine/\∃(e:List Value) (n:Nat),Vals c e/\h.get? a=some {cls:= .type "list",data:= .seq e.toArray n}
 | .tup c=>c.length<=sizeLine/\∃e:List Value,Vals c e/\IsTup h a e.toArray
 | .dK b=>b.length<=sizeLine/\(a==sysModules)=false/\∃i,KV b i/\h.DictOf (Es P w) a i
 | .dT b=>b.length<=sizeLine/\(a==sysModules)=false/\∃c:List (List Key×Addr×Value),
    Paired (λ(p:List Key×V) (q:List Key×Addr×Value)=>p.1=q.1/\H q.2.1=some (.tup (p.1.map kV))/\RelV p.2 q.2.2) b c/\
    ∃o l y,h.get? a=some o/\o.ExactDict/\o.data= .dict l y/\l.toList=c.map (entryOfKey (tupleKind (Es P w)))/\(c.map (·.1)).Nodup
 | .set S n=>h.SetOf (intKind P w) a S n
 | .ins C g fs=>H g=some (.own a)/\fs.length<=1000/\g≠a/\h.get? a=some (PySem.W.instObj C g)/\
    ∃d,h.Ns1 g d/\(∀f,pC (fs.lookup f) (d f))/\PySem.Within d (fs.map (·.1))
 | .own _=>∃o,h.get? a=some o
 | .xd fs=>∃d,h.Ns1 a d/\∀f,pC (fs.lookup f) (d f)
 | .Rr r s=>∃t u v,h.get? a=some {cls:= .type "range",data:= .fields #[.int r t,.int s u,.int 1 v]}
 | .gG o u=>h.get? a=some o/\di H h a u
 | .kq m=>h.get? a=some {cls:= .none,data:= .fields m}
 | .met f x=>h.get? a=some (PySem.W.methodObj (.ref f) (.ref x))
 | .ext φ=>φ h/\(∃o,h.get? a=some o)/\∀k j:Heap,φ k->(∀o,k.get? a=some o->j.get? a=some o)->φ j
def iB(H:Hp)(h:Heap):Prop:=∀a o,H a=some o->di P w H h a o
end
section
variable {P:Program}{w:World}{H H':Hp}{h h':Heap}{a:Addr}{o:HO}
def di.lt(x:di P w H h a o):a<h.objs.size:=by
 cases o with
 |lst c=>obtain⟨_,_,_,_,e⟩:=x;show W8 e
 |tup c=>obtain⟨_,_,_,p⟩:=x;show p.lt
 |dK b=>obtain⟨_,_,_,_,o,_,_,e,_⟩:=x;show W8 e
 |dT b=>obtain⟨_,_,_,_,o,_,_,e,_⟩:=x;show W8 e
 |set S n=>obtain⟨o,_,_,_,e,_⟩:=x;show W8 e
 |ins C k fs=>obtain⟨_,_,_,e,_⟩:=x;show W8 e
 |own y=>obtain⟨_,e⟩:=x;show W8 e
 |xd fs=>obtain⟨_,⟨_,_,_,e,_⟩,_⟩:=x;show W8 e
 |Rr i j=>obtain⟨_,_,_,e⟩:=x;show W8 e
 |gG g u=>obtain⟨e,_⟩:=x;show W8 e
 |kq d=>show W8 (show h.get? a=some _ from x)
 |met f y=>show W8 (show h.get? a=some _ from x)
 |ext φ=>obtain⟨_,⟨_,e⟩,_⟩:=x;show W8 e
def Paired.Ku{α β:Type}{F G:α->β->Prop}:∀ {c:List α} {l₂:List β},Paired F c l₂->(∀a b,F a b->G a b)->Paired G c l₂
 |_,_,.nil,_=> .nil
 |_,_,.cons r t,f=> .cons (f _ _ r) (Paired.Ku t f)
def di.pA(x:di P w H h a o)(k:∀b u,(b=a\/H b=some (.own a))->h.get? b=some u->h'.get? b=some u)
 (G:∀b,H b=some (.own a)->H' b=some (.own a)) (F:∀b xs,H b=some (.tup xs)->H' b=some (.tup xs)):di P w H' h' a o:=by
 induction o with
 |lst xs=>obtain⟨z,A,n,r,e⟩:=x;show⟨z,A,n,r,k _ _ (.inl rfl) e⟩
 |tup xs=>obtain⟨z,A,r,g,e,c⟩:=x;show⟨z,A,r,g,k _ _ (.inl rfl) e,c⟩
 |dK s=>obtain⟨z,y,D,r,g,i,j,e,c⟩:=x;show⟨z,y,D,r,g,i,j,k _ _ (.inl rfl) e,c⟩
 |dT s=>
  obtain⟨z,y,xs,r,g,i,j,e,c⟩:=x;show⟨z,y,xs,Paired.Ku r λp q z=>⟨z.1,F _ _ z.2.1,z.2.2⟩,g,i,j,k _ _ (.inl rfl) e,c⟩
 |set S n=>obtain⟨g,i,j,t,e,c⟩:=x;show⟨g,i,j,t,k _ _ (.inl rfl) e,c⟩
 |ins C L fs=>
  obtain⟨d,z,ne,e,m,⟨l,i,j,I,c⟩,r⟩:=x;show⟨G _ d,z,ne,k _ _ (.inl rfl) e,m,⟨l,i,j,k _ _ (.inr d) I,c⟩,r⟩
 |own y=>obtain⟨g,e⟩:=x;show⟨g,k _ _ (.inl rfl) e⟩
 |xd fs=>obtain⟨m,⟨l,i,j,e,c⟩,r⟩:=x;show⟨m,⟨l,i,j,k _ _ (.inl rfl) e,c⟩,r⟩
 |Rr J K=>obtain⟨t,u,v,e⟩:=x;show⟨t,u,v,k _ _ (.inl rfl) e⟩
 |gG g u E=>obtain⟨e,q⟩:=x;show⟨k _ _ (.inl rfl) e,E q⟩
 |kq B=>
  have e:h.get? a=some {cls:= .none,data:= .fields B}:=x;change h'.get? a=some {cls:= .none,data:= .fields B};show k a _ (.inl rfl) e
 |met f y=>
  have e:h.get? a=some (PySem.W.methodObj (.ref f) (.ref y)):=x;change h'.get? a=some (PySem.W.methodObj (.ref f) (.ref y));show k a _ (.inl rfl) e
 |ext φ=>obtain⟨p,⟨o,e⟩,st⟩:=x;show⟨st _ _ p λo q=>k _ _ (.inl rfl) q,⟨o,k _ _ (.inl rfl) e⟩,st⟩
def iB.lt(x:iB P w H h)(e:H a=some o):a<h.objs.size:=(x a o e).lt
def iB.fresh(x:iB P w H h)(e:h.objs.size<=a):H a=none:=by
 cases q:H a with
 |none=>rfl
 |some u=>show absurd (Xj (x.lt q) e) (XU _)
def iB.kept(x:iB P w H h)(k:∀b u,h.get? b=some u->h'.get? b=some u):iB P w H h':=λa o e=>
 (x a o e).pA (λb u _ q=>k b u q) (λ_ q=>q) λ_ _ q=>q
def iB.laid(x:iB P w H h)(k:∀b u,h.get? b=some u->h'.get? b=some u)(g:h.objs.size<=a)(new:di P w (upd H a o) h' a o):iB P w (upd H a o) h':=λb u e=>by
 let d:=x.fresh g;by_cases f:b=a
 . subst f;rw[a9]at e;cases e;show new
 . rw[aB f]at e;show(x b u e).pA (λc v _ q=>k c v q) (λc q=>by rw[aB (dz q d)];show q) λc i q=>by rw[aB (dz q d)];show q
end
def Rd(H:Hp)(a:Addr)(u:HO):Prop:=H a=some u\/∃o,H a=some (.gG o u)
def Rd.of(h:H a=some u):Rd H a u:= .inl h
def Rd.ok(r:Rd H a u)(x:iB P w H h):di P w H h a u:=by
 rcases r with r|⟨o,r⟩
 . show x a u r
 . obtain⟨_,q⟩:=x a _ r;show q
def MN:Option HO->Prop
 |some (.lst _)=>True
 |some (.dK _)=>True
 |some (.dT _)=>True
 |some (.set _ _)=>True
 |some (.ins _ _ _)=>True
 |some (.ext _)=>True
 |_=>False
section
variable {P:Program}{w:World}{H:Hp}{h h':Heap}{x e:Addr}{o':HO}
def iB.write(ok:iB P w H h)(mu:MN (H x))(n:e=x\/H e=some (.own x))(k:∀b u,b≠e->h.get? b=some u->h'.get? b=some u)(l:∃u,h'.get? e=some u)
 (new:di P w (upd H x o') h' x o'):iB P w (upd H x o') h':=λb u q=>by
 let d:∀c y,H c=some (.own y)->c≠x:=λc y r z=>by subst z;rw[r]at mu;show mu
 let f:∀c g,H c=some (.tup g)->c≠x:=λc g r z=>by subst z;rw[r]at mu;show mu
 by_cases j:b=x
 . subst j;rw[a9]at q;cases q;show new
 . rw[aB j]at q;by_cases a:b=e
   . have m:H b=some (.own x):=by
      rcases n with z|z
      . show absurd (a.trans z) j
      . rw[a];show z
     rw[q]at m;cases m;obtain⟨v,o⟩:=l;show⟨v,by rw[a];show o⟩
   . show(ok b u q).pA (λc v i r=>k c v ?_ r) (λc r=>by rw[aB (d c b r)];show r) λc g r=>by rw[aB (f c g r)];show r
     rcases i with rfl|i
     . show a
     . rintro rfl;rcases n with z|z
       . show d c b i z
       . rw[i]at z;cases z;show j rfl
end
structure Un(fs ex:List Addr)(H H':Hp)(h h':Heap):Prop where
 keep:∀b o,h.get? b=some o->H b=none->b∉fs->b∉ex->h'.get? b=some o
 slot:∀b o,h.get? b=some o->H b=none->b∈fs->b∉ex->∃sl,h'.get? b=some {o with slots:=sl}
 free:∀b o,h.get? b=some o->H b=none->b∉ex->H' b=none
 there:∀b o,h.get? b=some o->b∉ex->∃o',h'.get? b=some o'
 oW:∀b xs,H b=some (.tup xs)->H' b=some (.tup xs)
 oz:∀b o u,H b=some (.gG o u)->H' b=some (.gG o u)
 nH:∀b ps,H b=some (.kq ps)->∃more,H' b=some (.kq (ps++more))
section
variable {fs fs' ex ex':List Addr}{H H1 H2:Hp}{h h1 h2 h':Heap}{a x e:Addr}{o:HO}
def Un.any(u:Un fs ex H H1 h h1)(q:h.get? b=some c)(n:H b=none)(d:b∉ex):∃g,h1.get? b=some {c with slots:=g}:=by
 by_cases f:b∈fs
 . show u.slot b c q n f d
 . show⟨c.slots,u.keep b c q n f d⟩
def Un.kept(k:∀b u,h.get? b=some u->h'.get? b=some u):Un fs ex H H h h':=
 ⟨λb c q _ _ _=>k b c q,λb c q _ _ _=>⟨c.slots,k b c q⟩,λ_ _ _ n _=>n,λb c q _=>⟨c,k b c q⟩,λ_ _ q=>q,λ_ _ _ q=>q,λ_ d q=>⟨#[],by rw[q];simp⟩⟩
def Un.refl:Un fs ex H H h h:=Un.kept λ_ _ q=>q
def Un.laid(k:∀b u,h.get? b=some u->h'.get? b=some u)(f:h.objs.size<=a)(c:H a=none):Un fs ex H (upd H a o) h h' where
 keep:=λb u q _ _ _=>k b u q
 slot:=λb u q _ _ _=>⟨u.slots,k b u q⟩
 free:=λb u q n _=>by rw[aB (Xn (Xj (W8 q) f))];show n
 there:=λb u q _=>⟨u,k b u q⟩
 oW:=λb d q=>by rw[aB (dz q c)];show q
 oz:=λb u d q=>by rw[aB (dz q c)];show q
 nH:=λb g q=>⟨#[],by rw[aB (dz q c),q];simp⟩
def Un.write(mu:MN (H x))(l:e=x\/H e=some (.own x))(k:∀b u,b≠e->h.get? b=some u->h'.get? b=some u)(f:∃u,h'.get? e=some u):Un fs ex H (upd H x o) h h':=by
 let g:∀b,H b=none->b≠x:=λb n z=>by subst z;rw[n]at mu;show mu
 let i:∀b,H b=none->b≠e:=λb n z=>by
  subst z;rcases l with r|r
  . show g b n r
  . rw[n]at r;cases r
 let d:∀b u,H b=some u->¬MN (some u)->b≠x:=λb u q nm z=>by subst z;rw[q]at mu;show nm mu
 show⟨λb u q n _ _=>k b u (i b n) q,λb u q n _ _=>⟨u.slots,k b u (i b n) q⟩,λb u q n _=>by rw[aB (g b n)];show n,λb u q _=>?_,
  λb j q=>by rw[aB (d b _ q λz=>z)];show q,λb u j q=>by rw[aB (d b _ q λz=>z)];show q,λb m q=>⟨#[],by rw[aB (d b _ q λz=>z),q];simp⟩⟩
 by_cases c:b=e
 . subst c;show f
 . show⟨u,k b u c q⟩
end
def M7(h:Heap)(H:Hp):List Addr:=(List.range h.objs.size).filter λa=>(H a).isSome
def o_(h:Heap)(H:Hp):Heap:=PySem.W.hideAll h (M7 h H)
def GU(h:Heap)(H:Hp):(o_ h H).objs.size=h.objs.size:=PySem.W.hideAll_size _ _
def qx{h:Heap}(e:h.get? b=some o)(n:H b=none):(o_ h H).get? b=some o:=
 PySem.W.hideAll_get _ e λa=>by
  let q:(H b).isSome=true:=(List.mem_filter.mp a).2;rw[n]at q;simp at q
def PF{h:Heap}(e:(o_ h H).get? b=some o):h.get? b=some o/\H b=none:=by
 let a:h.get? b=some o:=PySem.W.of_hideAll (M7 h H) e;show⟨a,?_⟩;cases q:H b with
 |none=>rfl
 |some x=>
  have c:b∈M7 h H:=List.mem_filter.mpr ⟨XI.mpr (W8 a),by simp[q]⟩;let z:(o_ h H).get? b=none:=PySem.W.hideAll_none (M7 h H) c;rw[z]at e;cases e
def OW(g h:Heap)(L:Addr):List (Addr×Obj):=(List.range h.objs.size).filterMap λa=>if a=L\/(g.get? a).isSome=true then none else(h.get? a).map λo=>(a,o)
def rest(g h:Heap)(L d:Addr):List (Addr×Obj):=(OW g h L).filter λp=>decide (p.1≠d)
structure Mod(K:PySem.W.Frag)(mg:Str->Option Value)(base:Heap):Prop where
 IM:K.In base
 glob:base.Ns mainGlobals mg
 blt:∃mb,base.Ns builtinsNs mb/\∀x:Str,x≠"__name__"->mb x=bootBuiltins x
 nolimit:base.NoLimit
 seer:base.NoSeer
 bmain:∃bm ob,mg "__builtins__"=some (.ref bm)/\bm≠builtinsNs/\base.get? bm=some ob/\ob.cls= .type "module"/\ob.dict=some builtinsNs/\ob.data= .plain
structure Cx where
 prog:Program
 w:World
 K:PySem.W.Frag
 mg:Str->Option Value
 base:Heap
 A:Around
 N:List Str
 s₀:Shared
 H₀:Hp
 env:Env
 outer:List Env
 stack:List Env
 ex:List Addr
 fn:Str->Bool
 calm:Bool
 pn:List (Addr×Obj)
 xe:Value->Shared->Prop
def pL(l:List Env):List Addr:=l.filterMap (·.frame)
abbrev Cx.fs(X:Cx):List Addr:=pL X.outer
def Bf(a:Scope)(x:Str):Prop:=a.names.lookup x=some .local\/a.names.lookup x=some .cell\/a.names.lookup x=some .free
def Loc(a:Scope)(x:Str):Prop:=a.names.lookup x=some .local\/a.names.lookup x=some .cell
def Look(env:Env)(h:Heap)(m:Str->Option Value)(x:Str)(u:Value):Prop:=
 (env.kindOf x=some .local/\m x=some u)\/((env.kindOf x=some .cell\/env.kindOf x=some .free)/\∃c,env.cells.lookup x=some c/\h.IsCell c (some u))
structure Cx.Ok(X:Cx):Prop where
 mod:Mod X.K X.mg X.base
 kind:X.env.scope.kind= .function
 glob:X.env.globals=mainGlobals
 blt:X.env.builtins=builtinsNs
 above:X.s₀.heap.objs.size<=X.env.locals
 inj:∀x y c,X.env.cells.lookup x=some c->X.env.cells.lookup y=some c->x=y
 has:∀x,(X.env.kindOf x=some .cell\/X.env.kindOf x=some .free)->∃c,X.env.cells.lookup x=some c
 AU:∀x c,X.fn x=true->X.env.cells.lookup x=some c->X.s₀.heap.objs.size<=c
 hd:X.calm=true->X.A.handled=none
 frames:X.A.frames=some X.stack
 ER:X.stack=X.outer\/(X.stack=X.env::X.outer/\X.env.frame=some X.env.locals)
 G9:∀b∈X.ex,b≠X.env.locals/\∀x c,X.env.cells.lookup x=some c->c≠b
 bs:∀b o,X.base.get? b=some o->X.s₀.heap.get? b=some o/\X.H₀ b=none
 td:X.base.objs.size<=X.s₀.heap.objs.size
 vH:∀b o,X.base.get? b=some o->b∉X.ex
 vJ:∀b∈X.ex,b∉X.fs
 kU:X.s₀.heap.FunFrames X.base X.outer
 xB:∀b∈X.fs,X.H₀ b=none
 gt:X.prog.given.tree=none
structure Inv(X:Cx)(pins:List (Addr×Obj))(σ:List (Option V))(H:Hp)(s:Shared):Prop where
 ok:X.Ok
 os:s.os=X.s₀.os
 bare:AllBare s.gens
 base:Un X.fs X.ex X.H₀ H X.s₀.heap s.heap
 loc:∃m,s.heap.Ns X.env.locals m/\∀(i:Nat) (x:Str) (v:V),X.N[i]?=some x->σ[i]?=some (some v)->Bf X.env.scope x->∃u,RelV v u/\Look X.env s.heap m x u
 cell:∀x c,X.env.cells.lookup x=some c->∃v,s.heap.IsCell c v
 free:H X.env.locals=none
 iV:∀x c,X.env.cells.lookup x=some c->H c=none
 pin:∀p∈X.pn++pins,s.heap.get? p.1=some p.2/\H p.1=none/\p.1≠X.env.locals/\p.1∉X.fs/\∀v,p.2.data≠ .cell v
 aI:iB X.prog X.w H s.heap
 len:σ.length=X.N.length
section
variable {X:Cx}{pins:List (Addr×Obj)}{σ:List (Option V)}{H H':Hp}{s:Shared}{h':Heap}
def Cx.Ok.V9(ok:X.Ok)(e:X.base.get? b=some o):b∉X.fs:=λa=>by
 let:=(ok.kU.mem a).1;rw[e]at this;cases this
def Inv.bs(I:Inv X pins σ H s):∀b o,X.base.get? b=some o->s.heap.get? b=some o/\H b=none:=λb o e=>
 ⟨I.base.keep b o (I.ok.bs b o e).1 (I.ok.bs b o e).2 (I.ok.V9 e) (I.ok.vH b o e),I.base.free b o (I.ok.bs b o e).1 (I.ok.bs b o e).2 (I.ok.vH b o e)⟩
def Inv.bk(I:Inv X pins σ H s):∀b o,X.base.get? b=some o->s.heap.get? b=some o:=λb o e=>(I.bs b o e).1
def Inv.mod(I:Inv X pins σ H s):Mod X.K X.mg X.base:=I.ok.mod
def Inv.g4(I:Inv X pins σ H s):X.K.In s.heap:=I.ok.mod.IM.keeps I.bk
def Inv.nolimit(I:Inv X pins σ H s):s.heap.NoLimit:=I.ok.mod.nolimit.keeps I.bk
def Inv.lt(I:Inv X pins σ H s):X.env.locals<s.heap.objs.size:=let⟨_,hn,_⟩:=I.loc;hn.lt
def Inv.sz(I:Inv X pins σ H s):X.s₀.heap.objs.size<=s.heap.objs.size:=WZ I.ok.above (YQ I.lt)
def Inv.Sv(I:Inv X pins σ H s){a:Addr}(h:s.heap.objs.size<=a):a∉X.fs:=λc=>by
 obtain⟨_,o,b,_⟩:=I.ok.kU.mem c;show absurd (Xj (W8 b) (WZ I.sz h)) (XU _)
def Inv.BC(I:Inv X pins σ H s):∀x c,X.env.cells.lookup x=some c->c≠X.env.locals:=λx c e z=>by
 obtain⟨v,o,d,f⟩:=I.cell x c e;obtain⟨m,⟨g,h,i,a,b,_⟩,_⟩:=I.loc;rw[z,a]at d;cases d;rw[b]at f;cases f
def Inv.kU(I:Inv X pins σ H s):s.heap.FunFrames X.base X.outer:=by
 let all:∀(l:List Env),(∀b∈pL l,b∈X.fs)->X.s₀.heap.FunFrames X.base l->s.heap.FunFrames X.base l:=by
  intro l;induction l with
  |nil=>intro _ _;trivial
  |cons p r g=>
   intro f k;obtain⟨m,⟨L,o,a,j,i,n⟩,h⟩:=k;let d:L∈X.fs:=f L (by unfold pL;rw[aam,a];show Xk);obtain⟨q,e⟩:=I.base.slot L o i (I.ok.xB L d) d λz=>I.ok.vJ L z d;show⟨m,⟨L,_,a,j,e,n⟩,g (λb c=>f b (by unfold pL;rw[aam,a];show Xg _ c)) h⟩
 show all X.outer (λ_ c=>c) I.ok.kU
def Inv.stack(I:Inv X pins σ H s):s.heap.FunFrames X.base X.stack:=by
 rcases I.ok.ER with e|⟨e,b⟩
 . rw[e];show I.kU
 . rw[e];obtain⟨m,a,_⟩:=I.loc;show .cons (by rw[I.ok.kind];decide) b a ?_ I.kU;show Heap.get?_none_of_le (WZ I.ok.td I.ok.above)
def Inv.CU(I:Inv X pins σ H s):∀b∈pL X.stack,b∈X.env.locals::X.fs:=λb a=>by
 rcases I.ok.ER with e|⟨e,c⟩
 . rw[e]at a;show Xg _ a
 . rw[e]at a;unfold pL at a;rw[aam,c]at a;show a
def Inv.xN(I:Inv X pins σ H s):∀b∈pL X.stack,H b=none:=λb a=>by
 rcases Xh.mp (I.CU b a)with e|a
 . rw[e];show I.free
 . obtain⟨_,o,c,_⟩:=I.ok.kU.mem a;show I.base.free b o c (I.ok.xB b a) λz=>I.ok.vJ b z a
def Inv.step{g':Array GenState}{t':Nat}{d':Drawn}{ch:List Addr}(I:Inv X pins σ H s)
 (g:∀b∈ch,(b∈X.ex\/X.s₀.heap.objs.size<=b)/\b≠X.env.locals/\(∀x c,X.env.cells.lookup x=some c->c≠b)/\∀p∈X.pn++pins,p.1≠b)
 (keep:∀b o,b≠X.env.locals->b∉X.fs->b∉ch->s.heap.get? b=some o->H b=none->h'.get? b=some o)
 (slot:∀b o,b≠X.env.locals->b∈X.fs->b∉ch->s.heap.get? b=some o->H b=none->∃D,h'.get? b=some {o with slots:=D}) (free:∀b o,b∉ch->s.heap.get? b=some o->H b=none->H' b=none)
 (there:∀b o,b∉ch->s.heap.get? b=some o->∃o',h'.get? b=some o')
 (oW:∀b xs,H b=some (.tup xs)->H' b=some (.tup xs)) (oz:∀b o u,H b=some (.gG o u)->H' b=some (.gG o u)) (nH:∀b B,H b=some (.kq B)->∃more,H' b=some (.kq (B++more)))
 (ns:∀m,s.heap.Ns X.env.locals m->h'.Ns X.env.locals m) (Q:iB X.prog X.w H' h') (O:AllBare g'):
 Inv X pins σ H' {s with heap:=h',gens:=g',drawn:=d',toks:=t'}:=by
 let y:∀b o,X.s₀.heap.get? b=some o->b≠X.env.locals:=λb o e=>Xn (Xj (W8 e) I.ok.above)
 let h:∀b o,X.s₀.heap.get? b=some o->b∉X.ex->b∉ch:=λb o e a t=>by
  rcases(g b t).1 with z|z
  . show a z
  . show absurd (Xj (W8 e) z) (XU _)
 let cellK:∀x c,X.env.cells.lookup x=some c->∀v,s.heap.IsCell c v->h'.IsCell c v:=λx c e v ⟨o,w,E⟩=>by
  let f:c∉ch:=λz=>(g c z).2.2.1 x c e rfl;by_cases J:c∈X.fs
  . obtain⟨D,q⟩:=slot c o (I.BC x c e) J f w (I.iV x c e);show⟨_,q,E⟩
  . show⟨o,keep c o (I.BC x c e) J f w (I.iV x c e),E⟩
 show⟨I.ok,I.os,O,⟨λb o e n t a=>?_,λb o e n t a=>?_,λb o e n a=>?_,λb o e a=>?_,λb xs e=>oW b xs (I.base.oW b xs e),λb o xs e=>oz b o xs (I.base.oz b o xs e),λb B e=>?_⟩,?_,λx c e=>?_,?_,λx c e=>?_,λp G=>?_,Q,I.len⟩
 . show keep b o (y b o e) t (h b o e a) (I.base.keep b o e n t a) (I.base.free b o e n a)
 . obtain⟨D,j⟩:=I.base.slot b o e n t a;obtain⟨C,A⟩:=slot b _ (y b o e) t (h b o e a) j (I.base.free b o e n a);show⟨C,A⟩
 . obtain⟨o',j⟩:=I.base.there b o e a;show free b o' (h b o e a) j (I.base.free b o e n a)
 . obtain⟨o',j⟩:=I.base.there b o e a;show there b o' (h b o e a) j
 . obtain⟨L,j⟩:=I.base.nH b B e;obtain⟨K,A⟩:=nH b _ j;show⟨L++K,by rw[A,Array.append_assoc]⟩
 . obtain⟨m,M,N⟩:=I.loc;show⟨m,ns m M,λi x v j A P=>?_⟩;obtain⟨u,r,l⟩:=N i x v j A P;show⟨u,r,?_⟩;rcases l with l|⟨k,c,e,z⟩
   . show .inl l
   . show .inr ⟨k,c,e,cellK x c e _ z⟩
 . obtain⟨v,z⟩:=I.cell x c e;show⟨v,cellK x c e v z⟩
 . obtain⟨m,⟨o,_,_,w,_⟩,_⟩:=I.loc;show free _ o (λz=>(g _ z).2.1 rfl) w I.free
 . obtain⟨v,o,w,E⟩:=I.cell x c e;show free c o (λz=>(g c z).2.2.1 x c e rfl) w (I.iV x c e)
 . obtain⟨e,n,ne,F,d⟩:=I.pin p G;let f:p.1∉ch:=λz=>(g p.1 z).2.2.2 p G rfl;show⟨keep p.1 p.2 ne F f e n,free p.1 p.2 f e n,ne,F,d⟩
def Inv.un(I:Inv X pins σ H s)(u:Un X.fs [] H H' s.heap h')(k:iB X.prog X.w H' h'):Inv X pins σ H' {s with heap:=h',toks:=t'}:=by
 obtain⟨m,⟨o,t,v,g,r⟩,_⟩:=id I.loc;obtain⟨l,j⟩:=u.any g I.free (by simp)
 show I.step (g':=s.gens) (d':=s.drawn) (ch:=[]) (λ_ z=>nomatch z) (λb o _ c _ e n=>u.keep b o e n c (by simp)) (λb o _ c _ e n=>u.slot b o e n c (by simp)) (λb o _ e n=>u.free b o e n (by simp)) (λb o _ e=>u.there b o e (by simp)) u.oW u.oz u.nH (λq i=>by
  obtain⟨p,d,f,a,h⟩:=i;rw[g]at a;cases a;show⟨_,d,f,j,h⟩) k I.bare
def Inv.call(I:Inv X pins σ H s)(u:Un (pL X.stack) ch H H' s.heap h')(v:iB X.prog X.w H' h')(q:AllBare g')
 (f:∀b∈ch,(b∈X.ex\/X.s₀.heap.objs.size<=b)/\b≠X.env.locals/\(∀x c,X.env.cells.lookup x=some c->c≠b)/\∀p∈X.pn++pins,p.1≠b):
 Inv X pins σ H' {s with heap:=h',gens:=g',drawn:=d',toks:=t'}:=by
 obtain⟨m,⟨o,B,C,j,r⟩,_⟩:=id I.loc;obtain⟨w,g⟩:=u.any j I.free λz=>(f _ z).2.1 rfl
 show I.step (ch:=ch) f (λb o g t a e n=>u.keep b o e n (λz=>(Xh.mp (I.CU b z)).elim g t) a) (λb o _ _ a e n=>u.any e n a) (λb o a e n=>u.free b o e n a) (λb o a e=>u.there b o e a) u.oW u.oz u.nH (λA l=>by
  obtain⟨y,h,i,d,k⟩:=l;rw[j]at d;cases d;show⟨_,h,i,g,k⟩) v q
def Inv.turned(I:Inv X pins σ H s)(k:∀b o,b≠it->s.heap.get? b=some o->h'.get? b=some o)(h:H it=none)(f:it≠X.env.locals)
 (w:it∈X.ex\/X.s₀.heap.objs.size<=it) (t:∀x c,X.env.cells.lookup x=some c->c≠it) (l:∀p∈X.pn++pins,p.1≠it):Inv X pins σ H {s with heap:=h',toks:=t'}:=by
 let d:∀b u,H b=some u->b≠it:=λb u e z=>by rw[z,h]at e;cases e
 show I.step (g':=s.gens) (d':=s.drawn) (ch:=[it]) (λb j=>?_) (λb o _ _ a e _=>k b o (λz=>a (by simp[z])) e) (λb o _ _ a e _=>⟨o.slots,k b o (λz=>a (by simp[z])) e⟩) (λ_ _ _ _ n=>n)
  (λb o a e=>⟨o,k b o (λz=>a (by simp[z])) e⟩) (λ_ _ e=>e) (λ_ _ _ e=>e) (λb B e=>⟨#[],by rw[e];simp⟩) (λm i=>?_) (λb u e=>?_) I.bare
 . have e:b=it:=by simpa using j
   subst e;show⟨w,f,t,l⟩
 . obtain⟨o,y,A,g,r⟩:=i;show⟨o,y,A,k _ o (W4 f) g,r⟩
 . show(I.aI b u e).pA (λc v a q=>k c v ?_ q) (λ_ q=>q) λ_ _ q=>q;rcases a with z|z
   . rw[z];show d b u e
   . show d c _ z
def Inv.tok(I:Inv X pins σ H s)(t:Nat):Inv X pins σ H {s with toks:=t}:=I.un (h':=s.heap) (t':=t) Un.refl I.aI
def Inv.kept(I:Inv X pins σ H s)(k:∀b u,s.heap.get? b=some u->h'.get? b=some u):Inv X pins σ H {s with heap:=h',toks:=t'}:=I.un (Un.kept k) (I.aI.kept k)
def Inv.laid{a:Addr}{o:HO}{t':Nat}(I:Inv X pins σ H s)(k:∀b u,s.heap.get? b=some u->h'.get? b=some u)(c:s.heap.objs.size<=a)(new:di X.prog X.w (upd H a o) h' a o):
 Inv X pins σ (upd H a o) {s with heap:=h',toks:=t'}:=I.un (Un.laid k c (I.aI.fresh c)) (I.aI.laid k c new)
def Inv.write{x e:Addr}(I:Inv X pins σ H s)(mu:MN (H x))(c:e=x\/H e=some (.own x))(k:∀b u,b≠e->s.heap.get? b=some u->h'.get? b=some u)(a:∃u,h'.get? e=some u)
 (new:di X.prog X.w (upd H x o) h' x o):Inv X pins σ (upd H x o) {s with heap:=h',toks:=t'}:=I.un (Un.write mu c k a) (I.aI.write mu c k a new)
def Inv.tX(I:Inv X pins σ H s)(h:∀p∈a,s.heap.get? p.1=some p.2/\H p.1=none/\p.1≠X.env.locals/\p.1∉X.fs/\∀v,p.2.data≠ .cell v):Inv X a σ H s:=
 ⟨I.ok,I.os,I.bare,I.base,I.loc,I.cell,I.free,I.iV,λp b=>(XY.mp b).elim (λz=>I.pin p (YH _ z)) (h p),I.aI,I.len⟩
def Bg{N:List Str}(c:N.Nodup){i j:Nat}{x:Str}(a:N[i]?=some x)(b:N[j]?=some x):i=j:=by
 obtain⟨g,e⟩:=WV.mp a;obtain⟨f,d⟩:=WV.mp b;show(List.getElem_inj c).mp (e.trans d.symm)
def zw(I:Inv X pins σ H s)(hN:X.N.Nodup)(hi:X.N[i]?=some x)(t:Loc X.env.scope x)(r:RelV v u)
 (h:∀s',Inv X pins (σ.set i (some v)) H s'->(∃a,Heap.SameBut a s.heap s'.heap/\(a=X.env.locals\/X.env.cells.lookup x=some a))->Q () s') (hf:X.fn x=true\/X.env.scope.names.lookup x=some .local:=by first|show .inl rfl|show .inr rfl|assumption):wpAny M A (storeName X.env x u) Q E s:=by
 obtain⟨m,hn,hl⟩:=id I.loc;let N:(X.env.scope.kind== .class||(X.env.scope.kind== .module&&X.env.locals != X.env.globals))=false:=by rw[I.ok.kind];rfl
 let L:i<σ.length:=by rw[I.len];show(WV.mp hi).1
 let BC:=I.BC
 let tracked:∀ {a:Addr} {h':Heap},(∃o,s.heap.get? a=some o/\H a=none)->Heap.SameBut a s.heap h'->iB X.prog X.w H h':=λ{a h'} ha f b ob e=>by
  obtain⟨_,_,w⟩:=ha;show(I.aI b ob e).pA (λc R l q=>(f.2 c ?_).trans q) (λ_ q=>q) λ_ _ q=>q;rintro rfl;rcases l with rfl|l
  . rw[w]at e;cases e
  . rw[w]at l;cases l
 rcases t with C|C
 . show wpAny_storeName_local C hn (λh' ao f=>?_) N;obtain⟨oL,_,_,ah,_⟩:=id hn;show h _ ⟨I.ok,I.os,I.bare,⟨λb o e n G t=>?_,λb o e n G t=>?_,I.base.free,λb o e t=>?_,I.base.oW,I.base.oz,I.base.nH⟩,⟨_,ao,λj y T g B e3=>?_⟩,λy c e=>?_,I.free,I.iV,λp hp=>?_,tracked ⟨oL,ah,I.free⟩ f,by simpa using I.len⟩ ⟨_,f,.inl rfl⟩
   . show(f.2 b (Xn (Xj (W8 e) I.ok.above))).trans (I.base.keep b o e n G t)
   . obtain⟨W,g⟩:=I.base.slot b o e n G t;show⟨W,(f.2 b (Xn (Xj (W8 e) I.ok.above))).trans g⟩
   . obtain⟨Z,g⟩:=I.base.there b o e t;show⟨Z,(f.2 b (Xn (Xj (W8 e) I.ok.above))).trans g⟩
   . by_cases D:j=i
     . subst D;rw[hi]at g;cases g;rw[W9 L]at B;cases B;show⟨u,r,.inl ⟨C,by simp⟩⟩
     . rw[W0 (W4 D)]at B;obtain⟨U,Y,q⟩:=hl j y T g B e3;show⟨U,Y,?_⟩;rcases q with⟨k,e⟩|⟨k,c,e,z⟩
       . show .inl ⟨k,?_⟩;let:y≠x:=λe=>D (Bg hN g (e▸hi));simp[this,e]
       . show .inr ⟨k,c,e,z.sameBut f (BC y c e)⟩
   . obtain⟨R,z⟩:=I.cell y c e;show⟨R,z.sameBut f (BC y c e)⟩
   . obtain⟨e,n,ne,nf,d⟩:=I.pin p hp;show⟨(f.2 p.1 ne).trans e,n,ne,nf,d⟩
 . have F:X.fn x=true:=by
    rcases hf with z|z
    . show z
    . rw[z]at C;cases C
   obtain⟨c,l⟩:=I.ok.has x (.inl C);obtain⟨R,z⟩:=I.cell x c l;show wpAny_storeName_cell I.ok.kind C l z (λh' P f=>?_);obtain⟨oc,K,J⟩:=id z;show h {s with heap:=h'} ⟨I.ok,I.os,I.bare,⟨λb o e n G t=>?_,λb o e n G t=>?_,I.base.free,λb o e t=>?_,I.base.oW,I.base.oz,I.base.nH⟩,⟨m,hn.sameBut f (W4 (BC x c l)),λj y T g B e3=>?_⟩,λy S e=>?_,I.free,I.iV,λp hp=>?_,tracked ⟨oc,K,I.iV x c l⟩ f,by simpa using I.len⟩ ⟨c,f,.inr l⟩
   . show(f.2 b (Xn (Xj (W8 e) (I.ok.AU x c F l)))).trans (I.base.keep b o e n G t)
   . obtain⟨W,g⟩:=I.base.slot b o e n G t;show⟨W,(f.2 b (Xn (Xj (W8 e) (I.ok.AU x c F l)))).trans g⟩
   . obtain⟨Z,g⟩:=I.base.there b o e t;show⟨Z,(f.2 b (Xn (Xj (W8 e) (I.ok.AU x c F l)))).trans g⟩
   . by_cases D:j=i
     . subst D;rw[hi]at g;cases g;rw[W9 L]at B;cases B;show⟨u,r,.inr ⟨.inl C,c,l,P⟩⟩
     . rw[W0 (W4 D)]at B;obtain⟨U,Y,q⟩:=hl j y T g B e3;show⟨U,Y,?_⟩;rcases q with q|⟨k,S,e,z'⟩
       . show .inl q
       . show .inr ⟨k,S,e,z'.sameBut f ?_⟩;rintro rfl;show D (Bg hN g (I.ok.inj _ _ _ e l▸hi))
   . by_cases O:S=c
     . subst O;show⟨_,P⟩
     . obtain⟨w2,z2⟩:=I.cell y S e;show⟨w2,z2.sameBut f O⟩
   . obtain⟨e,n,ne,nf,d⟩:=I.pin p hp;show⟨(f.2 p.1 ?_).trans e,n,ne,nf,d⟩;intro q;rw[q,K]at e;let q':oc=p.2:=XZ e;show d R (by rw[<-q'];show J)
def oa(I:Inv X pins σ H s)(c:X.N.Nodup)(hi:X.N[i]?=some x)(a:Loc X.env.scope x)(r:RelV v u)
 (h:∀s',Inv X pins (σ.set i (some v)) H s'->Q () s') (b:X.fn x=true\/X.env.scope.names.lookup x=some .local:=by first|show .inl rfl|show .inr rfl|assumption):wpAny M A (storeName X.env x u) Q E s:=
 zw I c hi a r (λs' d _=>h s' d) b
def Inv.Fu{s':Shared}(I:Inv X pins σ H s)(f:s'.os=s.os)(u:Un (pL X.stack) ch H H' s.heap s'.heap)(h:iB X.prog X.w H' s'.heap)(g:AllBare s'.gens)
 (a:∀b∈ch,(b∈X.ex\/X.s₀.heap.objs.size<=b)/\b≠X.env.locals/\(∀x c,X.env.cells.lookup x=some c->c≠b)/\∀p∈X.pn++pins,p.1≠b):Inv X pins σ H' s':=by
 obtain⟨h',g',d',t',d⟩:=s';let e:d=s.os:=f;subst e;show I.call (g':=g') (t':=t') (d':=d') u h g a
end
abbrev XK:=Value->Option Addr->Hp->Prop
abbrev St:=List (Option V)
abbrev VK:=V->Hp->Prop
abbrev TE:=St->Hp->VK->Prop
abbrev TT:=St->Hp->(Bool->Hp->Prop)->Prop
abbrev TA:=St->Hp->(List V->Hp->Prop)->Prop
structure Ends where
 nx:St->Hp->Prop
 rt:VK
 bk:St->Hp->Prop:=λ_ _=>False
 ct:St->Hp->Prop:=λ_ _=>False
abbrev TS:=Ends->St->Hp->Prop
def EP(X:Cx)(pins:List (Addr×Obj))(σ:St)(Q:VK)(u:Value)(s':Shared):Prop:=∃v a,Inv X pins σ a s'/\RelV v u/\Q v a
def TP(X:Cx)(pins:List (Addr×Obj))(σ:St)(Q:Bool->Hp->Prop)(b:Bool)(s':Shared):Prop:=∃a,Inv X pins σ a s'/\Q b a
def AP(X:Cx)(pins:List (Addr×Obj))(σ:St)(Q:List V->Hp->Prop)(us:List Value)(s':Shared):Prop:=∃a b,Inv X pins σ b s'/\Vals a us/\Q a b
def SP(X:Cx)(pins:List (Addr×Obj))(D:Ends)(f:Flow)(s':Shared):Prop:=
 match f with
 | .next=>∃b a,Inv X pins b a s'/\D.nx b a
 | .brk=>∃b a,Inv X pins b a s'/\D.bk b a
 | .cont=>∃b a,Inv X pins b a s'/\D.ct b a
 | .ret u=>∃v b a,Inv X pins b a s'/\RelV v u/\D.rt v a
def PE(X:Cx)(e:Expr)(t:TE):Prop:=
 ∀(a:List (Addr×Obj)) (s:Shared) (σ:St) (H:Hp) (Q:VK),Inv X a σ H s->t σ H Q->wpAny (model X.prog X.w) X.A (eval e X.env) (EP X a σ Q) X.xe s
def PT(X:Cx)(e:Expr)(t:TT):Prop:=
 ∀(a:List (Addr×Obj)) (s:Shared) (σ:St) (H:Hp) (Q:Bool->Hp->Prop),Inv X a σ H s->t σ H Q->wpAny (model X.prog X.w) X.A (isTrue e X.env (eval e X.env)) (TP X a σ Q) X.xe s
def PW(X:Cx)(e:Expr)(t:TT):Prop:=
 ∀(whole:Sem Value) (pins:List (Addr×Obj)) (s:Shared) (σ:St) (H:Hp) (Q:Bool->Hp->Prop),Inv X pins σ H s->t σ H Q->wpAny (model X.prog X.w) X.A (isTrue e X.env whole) (TP X pins σ Q) X.xe s
def PW.pt{e:Expr}(h:PW X e t):PT X e t:=h _
def PA(X:Cx)(b:List Expr)(t:TA):Prop:=
 ∀(a:Pos) (pins:List (Addr×Obj)) (s:Shared) (σ:St) (H:Hp) (Q:List V->Hp->Prop),Inv X pins σ H s->t σ H Q->wpAny (model X.prog X.w) X.A (spliced (backTo a (starEach b X.env))) (AP X pins σ Q) X.xe s
def PS(X:Cx)(st:Stmt)(t:TS):Prop:=
 ∀(a:List (Addr×Obj)) (s:Shared) (σ:St) (H:Hp) (D:Ends),Inv X a σ H s->t D σ H->wpAny (model X.prog X.w) X.A (exec st X.env) (SP X a D) X.xe s
def g8(X:Cx)(st:List Stmt)(t:TS):Prop:=
 ∀(a:List (Addr×Obj)) (s:Shared) (σ:St) (H:Hp) (D:Ends),Inv X a σ H s->t D σ H->wpAny (model X.prog X.w) X.A (execs st X.env) (SP X a D) X.xe s
def bQ(h:wpAny M A t Q E s)(c:∀a s,Q a s->b a s):wpAny M A t b E s:=YU h c λ_ _ x=>x
section
variable {X:Cx}
def Sb(i:Nat):TE:=λσ H Q=>∃v,σ[i]?=some (some v)/\Q v H
def tC(v:V):TE:=λ_ H Q=>Q v H
def QX{i:Nat}{x:Str}{pos:Pos}(t:X.N[i]?=some x)(n:Bf X.env.scope x)(g:(x==("__debug__":Str))=false:=by decide)(j:(x==("__classdict__":Str))=false:=by decide):PE X (.Name x pos) (Sb i):=by
 intro f s σ H Q I h;obtain⟨v,e,h⟩:=h;obtain⟨m,o,q⟩:=I.loc;obtain⟨u,r,l⟩:=q i x v t e n;let d:EP X f σ Q u s:=⟨v,H,I,r,h⟩
 rcases l with⟨b,p⟩|⟨b,c,k,a⟩
 . show wpAny_Name (wpAny_loadName_local I.ok.kind b o p d) g
 . rcases b with b|b
   . show wpAny_Name (wpAny_loadName_cell I.ok.kind b k a d) g
   . show wpAny_Name (wpAny_loadName_free I.ok.kind b k a d j) g
def Sn{i j pos}:PE X (.Constant (.int i) j pos) (tC (.int i)):=λ_ _ _ H _ I h=>wpAny_Constant_int ⟨.int i,H,I.tok _,⟨_,rfl⟩,h⟩
def Uh{b j pos}:PE X (.Constant (.bool b) j pos) (tC (.bl b)):=λ_ _ _ H _ I h=>Constant_bool ⟨.bl b,H,I,rfl,h⟩
def Rz{j pos}:PE X (.Constant .none j pos) (tC .aD):=λ_ _ _ H _ I h=>Constant_none ⟨.aD,H,I,rfl,h⟩
def Q9{x j pos}:PE X (.Constant (.str x) j pos) (tC (.str x)):=λ_ _ _ H _ I h=>Calls.Constant_str ⟨.str x,H,I.tok _,⟨_,rfl⟩,h⟩
def Gl(X:Cx)(x:Str):Prop:=X.env.kindOf x=some .globalImplicit
def EU{E:Value->Shared->Prop}{pins:List (Addr×Obj)}{s:Shared}{σ:St}{H:Hp}{x:Str}{u:Value}{pos:Pos}{Q:Value->Shared->Prop}(I:Inv X pins σ H s)(b:Gl X x)(a:X.mg x=some u)(h:Q u s)
 (c:(x==("__debug__":Str))=false:=by decide):wpAny (model X.prog X.w) X.A (eval (.Name x pos) X.env) Q E s:=
 abb I.ok.kind b (Calls.loadGlobal_global (by rw[I.ok.glob];show I.mod.glob.keeps I.bk) a h) c
def jL{E:Value->Shared->Prop}{pins:List (Addr×Obj)}{s:Shared}{σ:St}{H:Hp}{x:Str}{u:Value}{pos:Pos}{Q:Value->Shared->Prop}(I:Inv X pins σ H s)(d:Gl X x)(c:X.mg x=none)(a:bootBuiltins x=some u)(h:Q u s)
 (b:x≠"__name__":=by decide) (e:(x==("__debug__":Str))=false:=by decide):wpAny (model X.prog X.w) X.A (eval (.Name x pos) X.env) Q E s:=by
 obtain⟨i,g,f⟩:=I.mod.blt;show abb I.ok.kind d (Calls.loadGlobal_builtin (by rw[I.ok.glob];show I.mod.glob.keeps I.bk) c (by rw[I.ok.blt];show g.keeps I.bk) ((f x b).trans a) h) e
def Oq{x:Str}{v:V}{u:Value}{pos:Pos}(d:Gl X x)(c:X.mg x=none)(a:bootBuiltins x=some u)(r:RelV v u)(b:x≠"__name__":=by decide)(e:(x==("__debug__":Str))=false:=by decide):PE X (.Name x pos) (tC v):=
 λ_ _ _ H _ I h=>jL I d c a ⟨v,H,I,r,h⟩ b e
variable {a b:Expr}{ta tb:TE}{pos:Pos}
def tB(t:TE):TT:=λσ H Q=>t σ H λx H1=>∃c,x= .bl c/\Q c H1
def RP{e:Expr}(h:PE X e t)(j:∀whole,isTrue e X.env whole=(do let v <-whole;standAt e.pos;holding [v] (truthy v)):=by intro _;rfl):PT X e (tB t):=by
 intro c s σ H Q I i;show isTrue_plain (bQ (h c s σ H _ I i) λv l ⟨x,H1,k,f,g⟩=>?_) (j _);obtain⟨d,rfl,q⟩:=g;cases f;show Zd ⟨H1,k,q⟩
variable {tA tB':TT}{rest:List Expr}
def PQ(t u:TT):TT:=λσ H Q=>t σ H λc H1=>if c=true then u σ H1 Q else Q false H1
def U_(t u:TT):TT:=λσ H Q=>t σ H λc H1=>if c=true then Q true H1 else u σ H1 Q
def We(t:TT):TT:=λσ H Q=>t σ H λc H1=>Q (!c) H1
def pw_and1(f:PT X a tA):PW X (.BoolOp .And [a] pos) tA:=by
 intro g d s σ H Q I h;show isTrue_and (bQ (f d s σ H Q I h) λc i e=>?_);cases c with
 |true=>show isTrue_and_nil e
 |false=>show e
def pw_or1(f:PT X a tA):PW X (.BoolOp .Or [a] pos) tA:=by
 intro g d s σ H Q I h;show isTrue_or (bQ (f d s σ H Q I h) λc i e=>?_);cases c with
 |false=>show isTrue_or_nil e
 |true=>show e
def pw_and(k:PT X a tA)(j:PW X (.BoolOp .And (b::rest) pos) tB'):PW X (.BoolOp .And (a::b::rest) pos) (PQ tA tB'):=by
 intro g d s σ H Q I h;show isTrue_and (bQ (k d s σ H _ I h) λc i ⟨H1,f,e⟩=>?_);cases c with
 |true=>show j g d i σ H1 Q f e
 |false=>show⟨H1,f,e⟩
def pw_or(k:PT X a tA)(j:PW X (.BoolOp .Or (b::rest) pos) tB'):PW X (.BoolOp .Or (a::b::rest) pos) (U_ tA tB'):=by
 intro g d s σ H Q I h;show isTrue_or (bQ (k d s σ H _ I h) λc i ⟨H1,f,e⟩=>?_);cases c with
 |true=>show⟨H1,f,e⟩
 |false=>show j g d i σ H1 Q f e
def Qr(e:PT X a tA):PT X (.UnaryOp .Not a pos) (We tA):=by
 intro d s σ H Q I h;show isTrue_not (e d s σ H (λc H1=>Q (!c) H1) I h)
def Tg(ta tb:TE):TE:=λσ H Q=>ta σ H λx H1=>∃c,x= .bl c/\if c=true then tb σ H1 Q else Q (.bl false) H1
def V7(ta tb:TE):TE:=λσ H Q=>ta σ H λx H1=>∃c,x= .bl c/\if c=true then Q (.bl true) H1 else tb σ H1 Q
def TZ(ta:TE):TE:=λσ H Q=>ta σ H λx H1=>∃c,x= .bl c/\Q (.bl (!c)) H1
def QM{op}(h:PE X a t):PE X (.BoolOp op [a] pos) t:=λc s σ H Q I d=>BoolOp_one (h c s σ H Q I d)
def PV(k:PE X a ta)(j:PE X (.BoolOp .And (b::rest) pos) tb):PE X (.BoolOp .And (a::b::rest) pos) (Tg ta tb):=by
 intro d s σ H Q I h;show BoolOp_and (bQ (k d s σ H _ I h) λv g ⟨x,H1,f,i,e⟩=>?_);obtain⟨c,rfl,e⟩:=e;cases i;show Zd ?_;cases c with
 |true=>show j d g σ H1 Q f e
 |false=>show⟨.bl false,H1,f,rfl,e⟩
def Uj(k:PE X a ta)(j:PE X (.BoolOp .Or (b::rest) pos) tb):PE X (.BoolOp .Or (a::b::rest) pos) (V7 ta tb):=by
 intro d s σ H Q I h;show BoolOp_or (bQ (k d s σ H _ I h) λv g ⟨x,H1,f,i,e⟩=>?_);obtain⟨c,rfl,e⟩:=e;cases i;show Zd ?_;cases c with
 |false=>show j d g σ H1 Q f e
 |true=>show⟨.bl true,H1,f,rfl,e⟩
def R7(g:PE X a ta):PE X (.UnaryOp .Not a pos) (TZ ta):=by
 intro d s σ H Q I h;show UnaryOp_ (bQ (g d s σ H _ I h) λv j ⟨x,H1,i,f,e⟩=>?_);obtain⟨c,rfl,e⟩:=e;cases f;show not_of (Zd ⟨.bl (!c),H1,i,rfl,e⟩)
def WC(t:TT)(ta tb:TE):TE:=λσ H Q=>t σ H λc H1=>if c=true then ta σ H1 Q else tb σ H1 Q
def KU(j:PT X c tA)(l:PE X a ta)(k:PE X b tb):PE X (.IfExp c a b pos) (WC tA ta tb):=by
 intro e s σ H Q I h;show wpAny_IfExp (bQ (j e s σ H _ I h) λd f ⟨H1,i,g⟩=>?_);cases d with
 |true=>show l e f σ H1 Q i g
 |false=>show k e f σ H1 Q i g
end
def mi(K:PySem.W.Frag)(H:Hp)(a:Addr)(xs:List V):Prop:=
 Rd H a (.lst xs)\/
  ∃(o:Obj) (ao:Array Value) (n:Nat),K.lookup a=some o/\o.cls= .type "list"/\o.dict=none/\o.data= .seq ao n/\ao.size<=sizeLine/\Vals xs ao.toList
def iC(K:PySem.W.Frag)(H:Hp)(a:Addr)(xs:List V):Prop:=
 Rd H a (.tup xs)\/
  ∃(o:Obj) (ao:Array Value) (n:Nat),K.lookup a=some o/\o.cls= .type "tuple"/\o.data= .seq ao n/\ao.size<=sizeLine/\Vals xs ao.toList
def Wn:Value->Option V
 | .none=>some .aD
 | .bool b=>some (.bl b)
 | .int i _=>some (.int i)
 | .str x _=>some (.str x)
 | .bytes b _=>some (.uY b)
 | .float b _=>some (.u7 b)
 | .ref a=>some (.ref a)
 | .type n=>some (.ty n)
 |_=>none
def RelV.abs(r:RelV x u):Wn u=some x:=by
 cases x with
 |aD=>cases r;rfl
 |bl _=>cases r;rfl
 |int _=>obtain⟨t,rfl⟩:=r;rfl
 |str _=>obtain⟨t,rfl⟩:=r;rfl
 |uY _=>obtain⟨t,rfl⟩:=r;rfl
 |u7 _=>obtain⟨t,rfl⟩:=r;rfl
 |ref _=>cases r;rfl
 |ty _=>cases r;rfl
def RelV.inj(r:RelV x u)(q:RelV y u):x=y:=XZ (r.abs.symm.trans q.abs)
def Vals.inj:∀ {xs ys:List V} {us:List Value},Vals xs us->Vals ys us->xs=ys
 |_,_,_,.nil,.nil=>rfl
 |_,_,_,.cons r t,.cons b a=>by rw[r.inj b,Vals.inj t a]
section
variable {X:Cx}{pins:List (Addr×Obj)}{σ:St}{H:Hp}{s:Shared}{a:Addr}{xs ys:List V}
def mi.of{K:PySem.W.Frag}(h:H a=some (.lst xs)):mi K H a xs:= .inl (.inl h)
def iC.of{K:PySem.W.Frag}(h:H a=some (.tup xs)):iC K H a xs:= .inl (.inl h)
def Inv.list(I:Inv X pins σ H s)(h:mi X.K H a xs):∃ao:List Value,Vals xs ao/\PlainL s.heap a ao.toArray/\xs.length<=sizeLine:=by
 rcases h with h|⟨o,ao,n,c,f,d,b,g,r⟩
 . obtain⟨z,ao,n,r,e⟩:=h.ok I.aI;show⟨ao,r,⟨_,n,e,rfl,rfl,rfl⟩,z⟩
 . show⟨ao.toList,r,⟨o,n,I.g4 a o c,f,d,by simpa using b⟩,?_⟩;let e:=r.length;simp![ZI]at e;lia
def Inv.tuple(I:Inv X pins σ H s)(h:iC X.K H a xs):∃ao:List Value,Vals xs ao/\IsTup s.heap a ao.toArray/\xs.length<=sizeLine:=by
 rcases h with h|⟨o,ao,n,c,d,b,f,r⟩
 . obtain⟨z,ao,r,p⟩:=h.ok I.aI;show⟨ao,r,p,z⟩
 . show⟨ao.toList,r,⟨o,I.g4 a o c,d,n,by simpa using b⟩,?_⟩;let e:=r.length;simp![ZI]at e;lia
def Inv.C7(I:Inv X pins σ H s)(h:mi X.K H a xs)(h':mi X.K H a ys):xs=ys:=by
 obtain⟨i,r,⟨o,n,e,_,_,d⟩,_⟩:=I.list h;obtain⟨b,g,⟨j,k,c,_,_,f⟩,_⟩:=I.list h';rw[e]at c;cases c;rw[d]at f;injection f with d1 _;let:i=b:=by simpa using Ye Array.toList d1
 subst this;show r.inj g
def Inv.yN(I:Inv X pins σ H s)(h:iC X.K H a xs)(h':iC X.K H a ys):xs=ys:=by
 obtain⟨i,r,⟨o,e,_,n,d⟩,_⟩:=I.tuple h;obtain⟨b,g,⟨j,c,_,k,f⟩,_⟩:=I.tuple h';rw[e]at c;cases c;rw[d]at f;injection f with d1 _;let:i=b:=by simpa using Ye Array.toList d1
 subst this;show r.inj g
end
abbrev Cx.pB(X:Cx)(E:Value->Shared->Prop):Cx:={X with xe:=E}
abbrev Cx.uO(X:Cx):Cx:=X.pB λ_ _=>False
def Cx.Ok.pB{X:Cx}(ok:X.Ok)(E:Value->Shared->Prop):(X.pB E).Ok:=
 ⟨ok.mod,ok.kind,ok.glob,ok.blt,ok.above,ok.inj,ok.has,ok.AU,ok.hd,ok.frames,ok.ER,ok.G9,ok.bs,ok.td,ok.vH,ok.vJ,ok.kU,ok.xB,ok.gt⟩
def Cx.Ok.l_{X:Cx}(ok:(X.pB E).Ok):X.Ok:=
 ⟨ok.mod,ok.kind,ok.glob,ok.blt,ok.above,ok.inj,ok.has,ok.AU,ok.hd,ok.frames,ok.ER,ok.G9,ok.bs,ok.td,ok.vH,ok.vJ,ok.kU,ok.xB,ok.gt⟩
section
variable {X:Cx}{pins:List (Addr×Obj)}{σ:St}{H:Hp}{s:Shared}{E:Value->Shared->Prop}
def Inv.pB(I:Inv X pins σ H s)(E:Value->Shared->Prop):Inv (X.pB E) pins σ H s:=⟨I.ok.pB E,I.os,I.bare,I.base,I.loc,I.cell,I.free,I.iV,I.pin,I.aI,I.len⟩
def Inv.l_(I:Inv (X.pB E) pins σ H s):Inv X pins σ H s:=⟨I.ok.l_,I.os,I.bare,I.base,I.loc,I.cell,I.free,I.iV,I.pin,I.aI,I.len⟩
def SP.l_{D:Ends}(h:SP (X.pB E) pins D f s'):SP X pins D f s':=by
 cases f with
 |next=>obtain⟨a,b,I,q⟩:=h;show⟨a,b,I.l_,q⟩
 |brk=>obtain⟨a,b,I,q⟩:=h;show⟨a,b,I.l_,q⟩
 |cont=>obtain⟨a,b,I,q⟩:=h;show⟨a,b,I.l_,q⟩
 |ret u=>obtain⟨v,a,b,I,r,q⟩:=h;show⟨v,a,b,I.l_,r,q⟩
def g8.uO{st:List Stmt}{t:TS}(h:g8 X.uO st t):g8 X st t:=λpins s σ H D I a=>
 YU (h pins s σ H D (I.pB _) a) (λ_ _ q=>q.l_) λ_ _ z=>False.elim z
end
section
variable {X:Cx}{st:Stmt}{rest:List Stmt}{t u:TS}{e:Expr}{te:TE}{pos:Pos}
def Tx:TS:=λD σ H=>D.nx σ H
def VN(t u:TS):TS:=λD σ H=>t {D with nx:=u D} σ H
def NU:g8 X [] Tx:=λ_ _ σ H _ I h=>ZO ⟨σ,H,I,h⟩
def Kb(g:PS X st t)(d:g8 X rest u):g8 X (st::rest) (VN t u):=by
 intro a s σ H D I h;show abv (bQ (g a s σ H {D with nx:=u D} I h) λf c q=>?_);cases f with
 |next=>
  obtain⟨b,j,i,q⟩:=q;show d a c b j D i q
 |ret v=>show q
 |brk=>show q
 |cont=>show q
def NT(b:PS X st t):g8 X [st] t:=by
 intro a s σ H D I h;show abv (bQ (b a s σ H D I h) λf c q=>?_);cases f with
 |next=>show ZO q
 |ret v=>show q
 |brk=>show q
 |cont=>show q
def UU:TS:=λD σ H=>D.ct σ H
def DU:PS X (.Continue pos) UU:=λ_ _ σ H _ I h=>wpAny_Continue ⟨σ,H,I,h⟩
def Inv.quiet{pins:List (Addr×Obj)}{σ:St}{H:Hp}{s:Shared}(I:Inv X pins σ H s):interactive X.env=false:=by simp[interactive,I.ok.kind]
def T_(te:TE):TS:=λD σ H=>te σ H λ_ H1=>D.nx σ H1
def ON(d:PE X e te)(c:swapsWith e none pos.line X.env=pure false:=by rfl):PS X (.Expr e pos) (T_ te):=by
 intro a s σ H D I h;show wpAny_Expr_any (bQ (d a s σ H _ I h) λv g ⟨x,H1,f,i,b⟩=>⟨σ,H1,f,b⟩) I.quiet c
def V0(te:TE):TS:=λD σ H=>te σ H D.rt
def Qv(d:PE X e te):PS X (.Return (some e) pos) (V0 te):=by
 intro a s σ H D I h;show wpAny_Return_some (bQ (d a s σ H _ I h) λv g ⟨x,H1,f,b,c⟩=>⟨x,σ,H1,f,b,c⟩)
def Us:TS:=λD _ H=>D.rt .aD H
def Pt:PS X (.Return none pos) Us:=λ_ _ σ H _ I h=>wpAny_Return_none ⟨.aD,σ,H,I,rfl,h⟩
def Wi(c:TT)(t u:TS):TS:=λD σ H=>c σ H λb H1=>if b=true then t D σ H1 else u D σ H1
def UO{g:TT}(l:PT X c g)(n:g8 X a t)(m:g8 X b u):PS X (.If c a b pos) (Wi g t u):=by
 intro f s σ H D I h;show wpAny_If (bQ (l f s σ H _ I h) λd i ⟨H1,k,j⟩=>?_);cases d with
 |true=>show n f i σ H1 D k j
 |false=>show m f i σ H1 D k j
end
abbrev TG:=V->St->Hp->(St->Hp->Prop)->Prop
abbrev Cv:=List V->St->Hp->(St->Hp->Prop)->Prop
def PG(X:Cx)(target:Expr)(t:TG):Prop:=
 ∀(a:List (Addr×Obj)) (s:Shared) (σ:St) (H:Hp) (v:V) (u:Value) (Q:St->Hp->Prop),Inv X a σ H s->RelV v u->t v σ H Q->
  wpAny (model X.prog X.w) X.A (assign target X.env u) (λ_ d=>∃b c,Inv X a b c d/\Q b c) X.xe s
def Mz(X:Cx)(ts:List Expr)(t:Cv):Prop:=
 ∀(a:List (Addr×Obj)) (s:Shared) (σ:St) (H:Hp) (vs:List V) (us:List Value) (Q:St->Hp->Prop),Inv X a σ H s->Vals vs us->t vs σ H Q->
  wpAny (model X.prog X.w) X.A (assignInOrder ((assignEach ts X.env).map (·.2)) us) (λ_ d=>∃b c,Inv X a b c d/\Q b c) X.xe s
abbrev Cs:=V->V->V->Hp->(Hp->Prop)->Prop
def Lw(X:Cx)(t:Cs):Prop:=
 ∀(a:List (Addr×Obj)) (s:Shared) (σ:St) (H:Hp) (o i v:V) (ov iv u:Value) (Q:Hp->Prop),Inv X a σ H s->RelV o ov->RelV i iv->RelV v u->t o i v H Q->
  wpAny (model X.prog X.w) X.A (setItem ov iv u) (λ_ c=>∃b,Inv X a σ b c/\Q b) X.xe s
abbrev D0:=V->V->Hp->VK->Prop
def Cc(X:Cx)(op:Operator)(t:D0):Prop:=
 ∀(a:List (Addr×Obj)) (s:Shared) (σ:St) (H:Hp) (x y:V) (v u:Value) (Q:VK),Inv X a σ H s->RelV x v->RelV y u->t x y H Q->
  wpAny (model X.prog X.w) X.A (inplaceOp op v u) (EP X a σ Q) X.xe s
section
variable {X:Cx}{pos:Pos}
def jO(i:Nat):TG:=λv σ H Q=>Q (σ.set i (some v)) H
def nB(d:X.N.Nodup)(hi:X.N[i]?=some x)(b:Loc X.env.scope x)(c:X.fn x=true\/X.env.scope.names.lookup x=some .local:=by first|show .inl rfl|show .inr rfl|assumption):PG X (.Name x pos) (jO i):=by
 intro a s σ H v u Q I r h;show wpAny_assign_Name (oa I d hi b r (λf e=>⟨_,H,e,h⟩) c)
def KN:Cv:=λa σ H Q=>a=[]/\Q σ H
def t6(t:TG)(u:Cv):Cv:=λb σ H Q=>∃v r,b=v::r/\t v σ H λa c=>u r a c Q
def EK:Mz X [] KN:=by
 intro a s σ H b c Q I r h;obtain⟨e,h⟩:=h;subst e;cases r;show assignInOrder_nil ⟨σ,H,I,h⟩
def ox{e:Expr}(k:PG X e t)(j:Mz X b u)
 (i:(assignEach (e::b) X.env).map (·.2)=assign e X.env::(assignEach b X.env).map (·.2):=by rfl):Mz X (e::b) (t6 t u):=by
 intro a s σ H n p Q I r h;obtain⟨v,o,l,h⟩:=h;subst l;cases r with
 |cons r f=>
  rw[i];show aa7 (bQ (k a s σ H _ _ _ I r h) λ_ d ⟨c,H1,m,g⟩=>?_);show j a d c H1 _ _ Q m f g
def LH(K:PySem.W.Frag)(n:Nat)(t:Cv):TG:=λv σ H Q=>∃a b,v= .ref a/\iC K H a b/\b.length=n/\t b σ H Q
def Jn{k:Nat}(x:X.calm=true)(h:Mz X d t)
 (q:(assignEach d X.env).length=n:=by rfl) (g:(assignEach d X.env).findIdx? (·.1)=none:=by rfl):PG X (.Tuple d k pos) (LH X.K n t):=by
 intro c s σ H v u Q I r f;obtain⟨a,j,z,p,w,f⟩:=f;subst z;cases r;obtain⟨C,i,m,B⟩:=I.tuple p;show assign_Tuple_tuple (I.ok.hd x) m (by simp[q,<-w,i.length]) g λy l=>?_;let A:Inv X c σ H {s with heap:=y}:=I.kept (t':=s.toks) λb o e=>l b o (Xn (W8 e)) e;show h c _ σ H j _ Q A (by simpa using i) f
def Gx(a b:TE)(t:Cs):TG:=λv σ H Q=>a σ H λo H1=>b σ H1 λi d=>t o i v d λc=>Q σ c
def PK(n:PE X o b)(hi:PE X i c)(m:Lw X t)
 (p:∀v,assign (.Subscript o i pos) X.env v=(do
   let ov <-holding [v] (eval o X.env)
   let iv <-holding [v,ov] (eval i X.env)
   standAt pos
   holding [v,ov,iv] (setItem ov iv v)
   release [v,ov,iv] []):=by intro _;rfl):PG X (.Subscript o i pos) (Gx b c t):=by
 intro a s σ H v u Q I r h;rw[p];show WT (Zq (bQ (n a s σ H _ I h) λov e ⟨x,H1,z,g,l⟩=>?_));show WT (Zq (bQ (hi a e σ H1 _ z l) λiv d ⟨y,B,w,f,k⟩=>?_));show WT (aaG (WT (Zq (bQ (m a d σ B x y v ov iv u _ w g f r k) λ_ C ⟨A,q,j⟩=>?_))));show wpAny_release ⟨σ,A,q,j⟩
def oY(a:TE)(g:TG):TS:=λD σ H=>a σ H λx H1=>g x σ H1 D.nx
def Ib{b e:Expr}{g:TG}(m:PE X e c)(l:PG X b g)(k:swapsWithSole [b] e pos.line X.env=pure false:=by rfl)(j:swappedStores [b] e X.env=pure none:=by rfl)
 (n:(assignEach [b] X.env).map (·.2)=[assign b X.env]:=by rfl):PS X (.Assign [b] e pos) (oY c g):=by
 intro a s σ H D I h;show wpAny_Assign_stores (bQ (m a s σ H _ I h) λv d ⟨x,H1,o,f,i⟩=>?_) k j;rw[n];show bQ (l a d σ H1 x v _ o f i) λ_ p q=>q
def Sj{e:Expr}(m:X.N.Nodup)(hi:X.N[i]?=some x)(g:Loc X.env.scope x)(l:PE X e c)(j:swapsWith e (some (.Name x a)) pos.line X.env=pure false:=by rfl)(k:X.fn x=true\/X.env.scope.names.lookup x=some .local:=by first|show .inl rfl|show .inr rfl|assumption):
 PS X (.Assign [.Name x a] e pos) (oY c (jO i)):=by
 intro b s σ H D I h;show wpAny_Assign_Name (bQ (l b s σ H _ I h) λv q ⟨y,H1,o,d,f⟩=>?_) j;show oa o m hi g d (λp n=>⟨_,H1,n,f⟩) k
def Qq(i j:Nat)(b:TA):TS:=λD σ H=>b σ H λa H1=>∃v w,a=[v,w]/\D.nx ((σ.set i (some v)).set j (some w)) H1
def Q7{kt k2 pt2}(O:X.calm=true)(B:X.N.Nodup)(hi:X.N[i]?=some x)(N:X.N[j]?=some y)(t:i≠j)
 (A:X.env.scope.names.lookup x=some .local) (z:X.env.scope.names.lookup y=some .local) (P:PA X [a,b] u)
 (L:swappedStores [.Tuple [.Name x n,.Name y m] kt pt] (.Tuple [a,b] k2 pt2) X.env=pure (some [x,y]))
 (M:swapsWithSole [.Tuple [.Name x n,.Name y m] kt pt] (.Tuple [a,b] k2 pt2) pos.line X.env=pure false:=by rfl):
 PS X (.Assign [.Tuple [.Name x n,.Name y m] kt pt] (.Tuple [a,b] k2 pt2) pos) (Qq i j u):=by
 intro c s σ H D I h;rw[exec_Assign_arm];show WT (aaG ?_);rw[M];show WT (W5 ?_);rw[WW (by decide)];show WT (Tuple_ (bQ (P _ c s σ H _ I h) λE g ⟨V,H1,U,G,l⟩=>?_));obtain⟨v,w,Q,l⟩:=l;subst Q
 obtain⟨f,d,rfl,F,k⟩:∃f d,E=[f,d]/\RelV v f/\RelV w d:=by
  cases G with
  |cons p q=>
   cases q with
   |cons K J=>
    cases J;show⟨_,_,rfl,p,K⟩
 show YW ?_ (by change 2<=sizeLine;decide);let T:Inv X c σ H1 {g with heap:=g.heap.push {cls:= .type "tuple",data:= .seq [f,d].toArray}}:=U.kept (t':=g.toks) λb o e=>WU _ e;rw[L];show WT (W5 ?_);change wpAny (model X.prog X.w) X.A (do rule "assign.swapped-stores";let items <-unpackItems (.ref g.heap.objs.size) 2 none;assignInOrder [λv=>bindName X.env y v,λv=>bindName X.env x v] items.reverse;pure Flow.next) _ _ _;show WT (aab (WT (unpackItems_tuple (items:= #[f,d]) (I.ok.hd O) (IsTup.new g.heap _) λh' r=>?_)));let S:=T.kept (h':=h') (t':=g.toks) λb o e=>r b o (Xn (W8 e)) e;change wpAny _ _ (assignInOrder [λv=>bindName X.env y v,λv=>bindName X.env x v] [d,f] >>= λ_=>pure Flow.next) _ _ _;show WT (aa7 (wpAny_bindName (oa S B N (.inl z) k (λY R=>?_) (.inr z))));show aa7 (wpAny_bindName (oa R B hi (.inl A) F (λW C=>assignInOrder_nil (W5 ?_)) (.inr A)));rw[List.set_comm _ _ (W4 t)]at C;show⟨_,H1,C,l⟩
def SH(i:Nat)(b:TE)(a:D0):TS:=λD σ H=>∃x,σ[i]?=some (some x)/\b σ H λy H1=>a x y H1 λz c=>D.nx (σ.set i (some z)) c
def SJ{e:Expr}(P:X.N.Nodup)(hi:X.N[i]?=some x)(j:Loc X.env.scope x)(N:PE X e o)(G:Cc X op n)(M:X.fn x=true\/X.env.scope.names.lookup x=some .local:=by first|show .inl rfl|show .inr rfl|assumption):
 PS X (.AugAssign (.Name x f) op e pos) (SH i o n):=by
 intro a s σ H D I h;obtain⟨v,Q,h⟩:=h;obtain⟨m,J,L⟩:=I.loc;let g:Bf X.env.scope x:=by rcases j with k|k;show .inl k;show .inr (.inl k)
 obtain⟨u,r,l⟩:=L i x v hi Q g;show wpAny_AugAssign_Name ?_
 let p:wpAny (model X.prog X.w) X.A (eval e X.env) (λw t=>wpAny (model X.prog X.w) X.A (inplaceOp op u w) (λr q=>wpAny (model X.prog X.w) X.A (storeName X.env x r) (λ_=>SP X a D .next) X.xe q) X.xe t) X.xe s:=by
  show bQ (N a s σ H _ I h) λw A ⟨y,H1,T,C,F⟩=>?_;show bQ (G a A σ H1 v y u w _ T r C F) λz Y ⟨V,U,S,B,E⟩=>?_;show oa S P hi j B (λW R=>⟨_,U,R,E⟩) M
 rcases l with⟨b,K⟩|⟨b,c,O,d⟩
 . show wpAny_loadName_local I.ok.kind b J K p
 . rcases b with b|b
   . show wpAny_loadName_cell I.ok.kind b O d p
   . rcases j with k|k
     . have:X.env.scope.names.lookup x=some .free:=b;rw[k]at this;cases this
     . have:X.env.scope.names.lookup x=some .free:=b;rw[k]at this;cases this
def UL(d e f:TE)(b:V->V->Hp->VK->Prop)(c:D0)(a:Cs):TS:=λD σ H=>d σ H λo H1=>e σ H1 λi l=>b o i l λx k=>f σ k λy j=>c x y j λz h=>a o i z h λg=>D.nx σ g
def Ri(X:Cx)(t:V->V->Hp->VK->Prop):Prop:=
 ∀(a:List (Addr×Obj)) (s:Shared) (σ:St) (H:Hp) (o i:V) (ov iv:Value) (Q:VK),Inv X a σ H s->RelV o ov->RelV i iv->t o i H Q->
  wpAny (model X.prog X.w) X.A (getItem ov iv) (EP X a σ Q) X.xe s
def PJ{o i e:Expr}{g:Pos}(R:PE X o n)(hi:PE X i p)(S:Ri X c)(T:PE X e q)(Q:Cc X op j)(P:Lw X b)
 (U:∀d f new,augStore i d f new=(do holding [new,d,f] (setItem d f new);release [new,d,f] [];pure .next):=by intros;rfl):PS X (.AugAssign (.Subscript o i g) op e pos) (UL n p q c j b):=by
 intro a s σ H D I h;show wpAny_AugAssign_SubscriptAny (bQ (R a s σ H _ I h) λd C ⟨m,H1,I1,t,O⟩=>?_) U;show bQ (hi a C σ H1 _ I1 O) λf B ⟨l,H2,I2,r,N⟩=>?_;show bQ (S a B σ H2 m l d f _ I2 t r N) λk A ⟨x,H3,I3,G,M⟩=>?_;show bQ (T a A σ H3 _ I3 M) λv z ⟨w,H4,Z,F,L⟩=>?_;show bQ (Q a z σ H4 x w k v _ Z G F L) λnew y ⟨u,H5,Y,E,K⟩=>?_;show bQ (P a y σ H5 m l u d f new _ Y t r E K) λ_ s6 ⟨H6,W,J⟩=>⟨σ,H6,W,J⟩
def DY(f:Int->Int->Int):D0:=λx y H Q=>∃i j,x= .int i/\y= .int j/\Q (.int (f i j)) H
def JQ:Cc X .Add (DY λi j=>i+j):=by
 intro a s σ H x y v u Q I c b h;obtain⟨i,j,e,d,q⟩:=h;subst e;subst d;obtain⟨t,rfl⟩:=c;obtain⟨f,rfl⟩:=b;show iadd_int ⟨.int _,H,I.tok _,⟨_,rfl⟩,q⟩
def Qk:Cc X .Sub (DY λi j=>i-j):=by
 intro a s σ H x y v u Q I c b h;obtain⟨i,j,e,d,q⟩:=h;subst e;subst d;obtain⟨t,rfl⟩:=c;obtain⟨f,rfl⟩:=b;show isub_int ⟨.int _,H,I.tok _,⟨_,rfl⟩,q⟩
def HB(c:TT)(f:TS):TS:=λD σ H=>∃W:Nat->St->Hp->Prop,(∃m,W m σ H)/\∀m σ H,W m σ H->
 c σ H λb H1=>if b=true then∃N:St->Hp->Prop,(∀a e,N a e->∃d,d<m/\W d a e)/\f {D with nx:=N,ct:=N,bk:=D.nx} σ H1 else D.nx σ H1
def L5(w:PassesOwn (model X.prog X.w) X.A X.env X.xe)(K:PT X c t)(L:g8 X d u):PS X (.While c d [] pos) (HB t u):=by
 intro a s σ H D I h;obtain⟨W,⟨J,C⟩,turn⟩:=h;show wpAny_While (codeAny_whileLoop (λn G=>∃r A,Inv X a r A G/\W n r A) ?_ J ⟨σ,H,I,C⟩);rintro n F ⟨i,H1,M,B⟩;show Zm w (bQ (K a F i H1 _ M (turn n i H1 B)) λb E ⟨z,y,k⟩=>?_);cases b with
 |true=>
  obtain⟨N,x,k⟩:=k;rw[WY rfl];show Zm w (bQ (L a E i z _ y k) λf O j=>?_);cases f with
  |next=>
   obtain⟨e,g,q,m⟩:=j;obtain⟨o,p,l⟩:=x e g m;show⟨o,p,e,g,q,l⟩
  |cont=>
   obtain⟨e,g,q,m⟩:=j;obtain⟨o,p,l⟩:=x e g m;show⟨o,p,e,g,q,l⟩
  |brk=>show j
  |ret v=>show j
 |false=>
  rw[WW Yk];show ZO ⟨i,z,y,k⟩
end
structure It where
 go:Nat->Hp->Prop
 nQ:Nat->Hp->V->Hp->Prop
 stop:Nat->Hp->Prop
def lS(X:Cx)(pins:List (Addr×Obj))(H:Hp)(b:Addr):Prop:=
 H b=none/\b≠X.env.locals/\b∉X.fs/\(b∈X.ex\/X.s₀.heap.objs.size<=b)/\(∀x c,X.env.cells.lookup x=some c->c≠b)/\∀p∈X.pn++pins,p.1≠b
def Inv.sv{X:Cx}{pins:List (Addr×Obj)}{σ:St}{H d:Hp}{s:Shared}{b:Addr}(I:Inv X pins σ H s)(a:s.heap.objs.size<=b)(g:d b=none):lS X pins d b:=by
 show⟨g,YZ (Xj I.lt a),I.Sv a,.inr (WZ I.sz a),λx c e z=>?_,λp f z=>?_⟩
 . obtain⟨v,q⟩:=I.cell x c e;show absurd (Xj q.lt (by rw[z];show a)) (XU _)
 . show absurd (Xj (W8 (I.pin p f).1) (by rw[z];show a)) (XU _)
structure Turn(P:Program)(w:World)(K:PySem.W.Frag)(tg:Expr)(J:It)(fp:List Addr)(it:Addr)(tn:Nat->Heap->Prop):Prop where
 mem:it∈fp
 obj:∀i h,tn i h->∀b∈fp,∃o,h.get? b=some o/\∀v,o.data≠ .cell v
 keep:∀i h h',tn i h->(∀b∈fp,∀o,h.get? b=some o->h'.get? b=some o)->tn i h'
 item:∀(X:Cx),X.prog=P->X.w=w->X.K=K->X.calm=true->∀(i:Nat) (pins:List (Addr×Obj)) (s:Shared) (σ:St) (H:Hp) (E:Value->Shared->Prop),Inv X pins σ H s->(∀b∈fp,lS X pins H b)->tn i s.heap->J.go i H->
  wpAny (model P w) X.A (pyNext (.ref it)) (λr s1=>∃u,r=some u/\
   wpAny (model P w) X.A (letOwnedTupleGo tg (.ref it) u) (λ_ s2=>∃x H',Inv X pins σ H' s2/\RelV x u/\J.nQ i H x H'/\tn (i+1) s2.heap/\∀b∈fp,H' b=none) E s1) E s
 done:∀(X:Cx),X.prog=P->X.w=w->X.K=K->X.calm=true->∀(i:Nat) (pins:List (Addr×Obj)) (s:Shared) (σ:St) (H:Hp) (E:Value->Shared->Prop),Inv X pins σ H s->(∀b∈fp,lS X pins H b)->tn i s.heap->J.stop i H->
  wpAny (model P w) X.A (pyNext (.ref it)) (λr s1=>r=none/\Inv X pins σ H s1) E s
 self:∀(A:Around) (i:Nat) (s:Shared) (Q:Value->Shared->Prop) (E:Value->Shared->Prop),tn i s.heap->Q (.ref it) s->wpAny (model P w) A (pyIter (.ref it)) Q E s
abbrev TI:=St->Hp->(It->Hp->Prop)->Prop
def Mr(X:Cx)(pins:List (Addr×Obj))(σ:St)(f:Expr)(R:It->Hp->Prop)(a:Value)(c:Shared):Prop:=
 ∃(d:Addr) (e:List Addr) (tn:Nat->Heap->Prop) (J:It) (H':Hp),a= .ref d/\Inv X pins σ H' c/\Turn X.prog X.w X.K f J e d tn/\tn 0 c.heap/\(∀b∈e,lS X pins H' b)/\R J H'
def PI(X:Cx)(d b:Expr)(c:TI):Prop:=
 ∀(a:List (Addr×Obj)) (s:Shared) (σ:St) (H:Hp) (R:It->Hp->Prop),Inv X a σ H s->c σ H R->
  wpAny (model X.prog X.w) X.A (eval b X.env) (λv e=>wpAny (model X.prog X.w) X.A (pyIter v) (Mr X a σ d R) X.xe e) X.xe s
def Ah{s:Shared}{o:Obj}(c:s.heap.get? it=some o)(f:o.cls= .type n)(e:o.data= .fields vs)
 (d: ["enumerate","zip","dict_itemiterator","dict_reverseitemiterator","odict_iterator","itertools.zip_longest","itertools.pairwise"].contains n=false) (a:Q () s):wpAny M A (letOwnedTupleGo b (.ref it) u) Q E s:=by
 unfold letOwnedTupleGo
 cases b<;>first
  |show W5 a
  |(cases u<;>first
     |show W5 a
     |(show WT (wpAny_load c ?_)
       rw[f,e];change wpAny M A (if(["enumerate","zip","dict_itemiterator","dict_reverseitemiterator","odict_iterator","itertools.zip_longest","itertools.pairwise"].contains n&&vs[0]?==some (rawInt _))=true then _ else _) Q E s;rw[WW (by intro h;rw[d,Bool.false_and]at h;cases h)];show W5 a))
def Qj(K:PySem.W.Frag)(a:Addr):It:=
 ⟨λi H=>∃b x,mi K H a b/\b[i]?=some x,λi H x c=>c=H/\∀b,mi K H a b->b[i]?=some x,λi H=>∃b,mi K H a b/\b.length<=i⟩
def RH(K:PySem.W.Frag)(a:Addr):It:=
 ⟨λi H=>∃b x,iC K H a b/\b[i]?=some x,λi H x c=>c=H/\∀b,iC K H a b->b[i]?=some x,λi H=>∃b,iC K H a b/\b.length<=i⟩
def zi(lo:Int)(n:Nat):It:=⟨λi _=>i<n,λi H x a=>a=H/\x= .int (lo+i),λi _=>n<=i⟩
def Iu{P:Program}{w:World}{K:PySem.W.Frag}{N:Expr}(a it:Addr):Turn P w K N (Qj K a) [it] it (λi h=>h.IsListIter it a i) where
 mem:=by simp
 obj:=λi h st b g=>by
  let e:b=it:=by simpa using g
  subst e;obtain⟨o,e,c,d⟩:=st;show⟨o,e,λv z=>by rw[d]at z;cases z⟩
 keep:=λi h n st k=>st.at λo e=>k it (by simp) o e
 item:=by
  intro X A t B L i f s σ H E I m st y;subst A t B;obtain⟨M,x,l,r⟩:=y;obtain⟨W,q,p,R⟩:=I.list l;obtain⟨u,T,Q⟩:=q.get r;obtain⟨J,G,U,F,D,C⟩:=m it (by simp);show wpAny_pyNext_list_item st p.isList (x:=u) (by simpa using T) λn j O=>?_;let Y:Inv X f σ H {s with heap:=n}:=I.turned (t':=s.toks) (λb o g e=>(O.2 b g).trans e) J G F D C;obtain⟨o,e,c,d⟩:=id j;show⟨u,rfl,Ah (s:={s with heap:=n}) e c d (by decide) ⟨x,H,Y,Q,⟨rfl,λZ S=>by rw[I.C7 S l];show r⟩,j,λb g=>(m b g).1⟩⟩
 done:=by
  intro X A t B L i f s σ H E I m st y;subst A t B;obtain⟨M,l,r⟩:=y;obtain⟨W,q,p,R⟩:=I.list l;obtain⟨J,G,U,F,D,C⟩:=m it (by simp);let hl:=q.length;show wpAny_pyNext_list_end (I.ok.hd L) st p.isList (by simp;lia) λn V=>⟨rfl,I.turned (t':=s.toks) (λb o g e=>V b o g e) J G F D C⟩
 self:=λ_ _ _ _ _ st h=>wpAny_pyIter_listiter st h
def Gs{P:Program}{w:World}{K:PySem.W.Frag}{O:Expr}(a it:Addr):Turn P w K O (RH K a) [it] it (λi h=>h.IsTupleIter it a i) where
 mem:=by simp
 obj:=λi h st b g=>by
  let e:b=it:=by simpa using g
  subst e;obtain⟨o,e,c,d⟩:=st;show⟨o,e,λv z=>by rw[d]at z;cases z⟩
 keep:=λi h n st k=>st.at λo e=>k it (by simp) o e
 item:=by
  intro X A t B M i f s σ H E I m st y;subst A t B;obtain⟨N,x,l,r⟩:=y;obtain⟨L,q,p,S⟩:=I.tuple l;obtain⟨u,U,R⟩:=q.get r;obtain⟨J,G,V,F,D,C⟩:=m it (by simp);show wpAny_pyNext_tuple_item st (show s.heap.IsTuple a L.toArray from p) (x:=u) (by simpa using U) λn j Q=>?_;let Y:Inv X f σ H {s with heap:=n}:=I.turned (t':=s.toks) (λb o g e=>(Q.2 b g).trans e) J G F D C;obtain⟨o,e,c,d⟩:=id j;show⟨u,rfl,Ah (s:={s with heap:=n}) e c d (by decide) ⟨x,H,Y,R,⟨rfl,λZ T=>by rw[I.yN T l];show r⟩,j,λb g=>(m b g).1⟩⟩
 done:=by
  intro X A t B M i f s σ H E I m st y;subst A t B;obtain⟨N,l,r⟩:=y;obtain⟨L,q,p,S⟩:=I.tuple l;obtain⟨J,G,V,F,D,C⟩:=m it (by simp);let hl:=q.length;show wpAny_pyNext_tuple_end (I.ok.hd M) st (show s.heap.IsTuple a L.toArray from p) (by simp;lia) λn W=>⟨rfl,I.turned (t':=s.toks) (λb o g e=>W b o g e) J G F D C⟩
 self:=λ_ _ _ _ _ st h=>wpAny_pyIter_tupleiter st h
def FD{P:Program}{w:World}{K:PySem.W.Frag}{C:Expr}(it:Addr)(lo:Int)(n:Nat):Turn P w K C (zi lo n) [it] it (λi h=>IsRangeIter h it (lo+(i:Nat)*1) ((n:Int)-(i:Nat)) 1) where
 mem:=by simp
 obj:=λi h st b c=>by
  let e:b=it:=by simpa using c
  subst e
  show⟨_,st,λv z=>by
   let B:Data.fields _=Data.cell v:=z;cases B⟩
 keep:=λi h g st k=>k it (by simp) _ st
 item:=by
  intro X p j q m i a s σ H E I f st l;subst p j q;obtain⟨A,y,G,x,u,r⟩:=f it (by simp);let W:=Walks.range (prog:=X.prog) (w:=X.w) (I.ok.hd m) it lo 1 n;show W.item i s _ _ l st λv g tk F d D=>?_;obtain⟨t,rfl⟩:=F;let L:Inv X a σ H {s with heap:=g,toks:=tk}:=I.turned (λb o c e=>D b o (by simpa using c) e) A y x u r;show⟨_,rfl,Ah (s:={s with heap:=g,toks:=tk}) (n:="range_iterator") d rfl rfl (by decide) ⟨.int (lo+i),H,L,⟨t,?_⟩,⟨rfl,rfl⟩,d,λb c=>(f b c).1⟩⟩;rw[Int.mul_one]
 done:=by
  intro X p j q m i a s σ H E I f st l;subst p j q;obtain⟨A,y,G,x,u,r⟩:=f it (by simp);show wpAny_pyNext_range_end (I.ok.hd m) st (by let:n<=i:=l;lia) λg J=>⟨rfl,I.turned (t':=s.toks) (λb o c e=>J b o c e) A y x u r⟩
 self:=λ_ _ _ _ _ st h=>wpAny_pyIter_rangeiter st h
section
variable {X:Cx}{tg:Expr}
def A4{pins:List (Addr×Obj)}{σ:St}{H:Hp}{s:Shared}{R:It->Hp->Prop}{E:Value->Shared->Prop}{lo hi:Int}{t u v:Tok}{tk:Nat}(I:Inv X pins σ H s)(h: -(2^62)<=lo)(g:lo<2^62)(f: -(2^62)<=hi)(d:hi<2^62)
 (q:R (zi lo (hi-lo).toNat) H):wpAny (model X.prog X.w) X.A (pyIter (.ref s.heap.objs.size)) (Mr X pins σ tg R) E {s with heap:=s.heap.push {cls:= .type "range",data:= .fields #[.int lo t,.int hi u,.int 1 v]},toks:=tk}:=by
 show wpAny_pyIter_range (IsRange.new ..) (small_one h g f d) ?_;let a:Inv X pins σ H {s with heap:=s.heap.push {cls:= .type "range",data:= .fields #[.int lo t,.int hi u,.int 1 v]},toks:=tk}:=I.kept λb o e=>WU _ e
 show⟨(s.heap.push {cls:= .type "range",data:= .fields #[.int lo t,.int hi u,.int 1 v]}).objs.size,[(s.heap.push {cls:= .type "range",data:= .fields #[.int lo t,.int hi u,.int 1 v]}).objs.size],_,_,H,rfl,
  a.kept (t':=tk) λb o e=>WU _ e,FD _ lo (hi-lo).toNat,?_,λb c=>?_,q⟩
 . have j:lo+((0:Nat):Int)*1=lo:=by simp
   let i:(((hi-lo).toNat:Nat):Int)-((0:Nat):Int)=Builtin.Range.rangeSize lo hi 1:=by rw[rangeSize_one];split<;>lia
   change IsRangeIter _ _ (lo+((0:Nat):Int)*1) ((((hi-lo).toNat:Nat):Int)-((0:Nat):Int)) 1;rw[j,i];show Xe _ rfl
 . have e:b=(s.heap.push {cls:= .type "range",data:= .fields #[.int lo t,.int hi u,.int 1 v]}).objs.size:=by simpa using c
   subst e;show a.sv (WX _) (a.aI.fresh (WX _))
def E5(b:TA):TI:=λσ H R=>b σ H λa H1=>∃j:Int,a=[.int j]/\ -(2^62)<=j/\j<2^62/\R (zi 0 j.toNat) H1
def FJ(b:TA):TI:=λσ H R=>b σ H λa H1=>∃i j:Int,a=[.int i,.int j]/\(-(2^62)<=i/\i<2^62/\ -(2^62)<=j/\j<2^62)/\R (zi i (j-i).toNat) H1
def J0(m:Gl X "range")(l:X.mg "range"=none)(n:PA X [a] d)(k:starEach [a] X.env=[(false,eval a X.env)]:=by rfl):PI X tg (.Call (.Name "range" p) [a] [] pos) (E5 d):=by
 intro b s σ H R I h;show Call_ (jL I m l boot_range (Yv (bQ (n pos b s σ H _ I h) λv w ⟨u,H1,o,g,c⟩=>?_) k rfl));obtain⟨j,e,c,i,q⟩:=c;subst e;cases g with
 |cons r f=>
  cases f;obtain⟨t,rfl⟩:=r;show call_range_1 (A4 o (by lia) (by lia) c i (by simpa using q))
def HN{a b:Expr}{k:TA}{p pos:Pos}(x:Gl X "range")(w:X.mg "range"=none)(y:PA X [a,b] k)(v:starEach [a,b] X.env=[(false,eval a X.env),(false,eval b X.env)]:=by rfl)(d:starEach [b] X.env=[(false,eval b X.env)]:=by rfl):
 PI X tg (.Call (.Name "range" p) [a,b] [] pos) (FJ k):=by
 intro c s σ H R I h;show Call_ (jL I x w boot_range (Yv (bQ (y pos c s σ H _ I h) λB D ⟨A,H1,z,l,g⟩=>?_) (by rw[v,d]) (by rw[d];rfl)));obtain⟨i,j,e,⟨g,u,o,n⟩,q⟩:=g;subst e;cases l with
 |cons r f=>
  cases f with
  |cons m f=>
   cases f;obtain⟨t,rfl⟩:=r;obtain⟨C,rfl⟩:=m;show call_range_2 (A4 z g u o n q)
def RV(e:TI)(g:TG)(f:TS):TS:=λD σ H=>e σ H λJ H1=>∃W:Nat->Nat->St->Hp->Prop,(∃m,W 0 m σ H1)/\∀i m σ H,W i m σ H->
 (J.stop i H/\D.nx σ H)\/(J.go i H/\∃N:St->Hp->Prop,(∀b a,N b a->∃c,c<m/\W (i+1) c b a)/\∀x a,J.nQ i H x a->g x σ a λd h=>f {D with nx:=N,ct:=N,bk:=D.nx} d h)
def tf(fp:List Addr)(h:Heap):List (Addr×Obj):=fp.filterMap λb=>(h.get? b).map λo=>(b,o)
def m7{h:Heap}(a:b∈fp)(e:h.get? b=some o):(b,o)∈tf fp h:=aas.mpr ⟨b,a,by rw[e];rfl⟩
def Ic{h:Heap}(a:p∈tf fp h):p.1∈fp/\h.get? p.1=some p.2:=by
 obtain⟨b,c,e⟩:=aas.mp a;cases q:h.get? b with
 |none=>rw[q]at e;cases e
 |some o=>
  rw[q]at e;let d:(b,o)=p:=XZ e;subst d;show⟨c,q⟩
def Inv.pinned{pins:List (Addr×Obj)}{σ:St}{H:Hp}{s:Shared}{fp:List Addr}(I:Inv X pins σ H s)(h:∀b∈fp,lS X pins H b)(g:∀b∈fp,∃o,s.heap.get? b=some o/\∀v,o.data≠ .cell v):Inv X (pins++tf fp s.heap) σ H s:=
 I.tX λp f=>(XY.mp f).elim (λz=>I.pin p (Xl _ z)) λz=>by
  obtain⟨a,e⟩:=Ic z;obtain⟨k,j,i,_⟩:=h p.1 a;obtain⟨o,c,d⟩:=g p.1 a;rw[e]at c;cases c;show⟨e,k,j,i,d⟩
def Inv.ig{pins pl:List (Addr×Obj)}{σ:St}{H:Hp}{s:Shared}(I:Inv X (pins++pl) σ H s):Inv X pins σ H s:=I.tX λp a=>I.pin p (Xl _ (YH _ a))
def Rf{k:Expr}{g:TG}(G:PassesOwn (model X.prog X.w) X.A X.env X.xe)(hc:X.calm=true)(hi:PI X tg k U)(hg:PG X tg g)(l:g8 X y Y)
 (hs:∀x,foldedSetIterable k X.env x=pure x:=by intro _;rfl):PS X (.For tg k y [] pos) (RV U g Y):=by
 intro a s σ H D I h;show wpAny_For (bQ (hi a s σ H _ I h) λv s1 h1=>bQ h1 λah s2 h2=>?_) hs;obtain⟨it,L,V,J,H2,e,I2,T,O,f2,W,⟨m0,w0⟩,turn⟩:=h2;subst e;let j:∀ {t:Hp},(∀b∈L,t b=none)->∀b∈L,lS X a t b:=λhn b l=>⟨hn b l,(f2 b l).2⟩
 show codeAny_forLoop_any (λn s'=>∃i B t,Inv X a B t s'/\V i s'.heap/\(∀b∈L,t b=none)/\W i n B t) ?_ m0 ⟨0,σ,H2,I2,O,λb l=>(f2 b l).1,w0⟩;rintro n s3 ⟨i,A,M,I3,E,K,w3⟩;rcases turn i n A M w3 with⟨C,qn⟩|⟨go,N,hN,step⟩
 . show Zm G (bQ (T.done X rfl rfl rfl hc i a s3 A M X.xe I3 (j K) E C) λr s4 ⟨Q,I4⟩=>?_);subst Q;show ZO ⟨A,M,I4,qn⟩
 . show Zm G (bQ (T.item X rfl rfl rfl hc i a s3 A M X.xe I3 (j K) E go) λr s4 ⟨u,Q,h4⟩=>?_);subst Q;show Zm G (bQ h4 λ_ Z ⟨x,H5,I5,r5,y5,z,R⟩=>?_);let S:=I5.pinned (j R) (T.obj _ _ z);show Zm G (bQ (hg _ Z A H5 x u _ S r5 (step x H5 y5)) λ_ s6 ⟨σ6,H6,I6,q6⟩=>?_);show Zm G (bQ (l _ s6 σ6 H6 _ I6 q6) λf P w=>?_)
   let again:∀ {c:St} {q:Hp},Inv X (a++tf L Z.heap) c q P->N c q->∃m,m<n/\∃i B t,Inv X a B t P/\V i P.heap/\(∀b∈L,t b=none)/\W i m B t:=λ{c q} p F=>by
    obtain⟨m',hm,w7⟩:=hN c q F;show⟨m',hm,i+1,c,q,p.ig,T.keep _ _ _ z λb l o e=>(p.pin (b,o) (Xl _ (Xl _ (m7 l e)))).1,λb l=>?_,w7⟩;obtain⟨o,e,d⟩:=T.obj _ _ z b l;show(p.pin (b,o) (Xl _ (Xl _ (m7 l e)))).2.1
   cases f with
   |next=>obtain⟨c,q,p,F⟩:=w;show again p F
   |cont=>obtain⟨c,q,p,F⟩:=w;show again p F
   |brk=>obtain⟨c,q,p,w⟩:=w;show⟨c,q,p.ig,w⟩
   |ret v=>obtain⟨x7,c,q,p,r7,w⟩:=w;show⟨x7,c,q,p.ig,r7,w⟩
end
def iY{lo:Int}{n:Nat}{g:TG}{h:TS}{D:Ends}{σ:St}{H:Hp}(Pv:Nat->St->Hp->Prop)(q:Pv 0 σ H)
 (l:∀i σ H,i<n->Pv i σ H->g (.int (lo+i)) σ H λc f=>h {D with nx:=Pv (i+1),ct:=Pv (i+1),bk:=D.nx} c f) (o:∀σ H,Pv n σ H->D.nx σ H):
 ∃W:Nat->Nat->St->Hp->Prop,(∃m,W 0 m σ H)/\∀i m σ H,W i m σ H->
  ((zi lo n).stop i H/\D.nx σ H)\/((zi lo n).go i H/\∃N:St->Hp->Prop,(∀d b,N d b->∃j,j<m/\W (i+1) j d b)/\∀x b,(zi lo n).nQ i H x b->g x σ b λc f=>h {D with nx:=N,ct:=N,bk:=D.nx} c f):=by
 show⟨λi m σ H=>m=n-i/\i<=n/\Pv i σ H,⟨n,by simp,Xq _,q⟩,?_⟩;rintro i m σ H ⟨rfl,r,p⟩;by_cases a:i<n
 . show .inr ⟨a,Pv (i+1),λd b k=>⟨n-(i+1),by lia,rfl,a,k⟩,λx b y=>?_⟩;obtain⟨e,y⟩:=y;subst e y;show l i σ _ a p
 . have e:i=n:=by lia
   subst e;show .inl ⟨WX _,o σ H p⟩
abbrev R2:=V->V->Hp->VK->Prop
def bW(X:Cx)(f:Value->Value->Sem Value)(r:R2):Prop:=
 ∀(a:List (Addr×Obj)) (s:Shared) (σ:St) (H:Hp) (x y:V) (v u:Value) (Q:VK),Inv X a σ H s->RelV x v->RelV y u->r x y H Q->
  wpAny (model X.prog X.w) X.A (f v u) (EP X a σ Q) X.xe s
def EW(X:Cx)(f:Value->Sem Value)(r:V->Hp->VK->Prop):Prop:=
 ∀(a:List (Addr×Obj)) (s:Shared) (σ:St) (H:Hp) (x:V) (v:Value) (Q:VK),Inv X a σ H s->RelV x v->r x H Q->
  wpAny (model X.prog X.w) X.A (f v) (EP X a σ Q) X.xe s
def bH(X:Cx)(f:Value)(r:List V->Hp->VK->Prop):Prop:=
 ∀(a:List (Addr×Obj)) (s:Shared) (σ:St) (H:Hp) (xs:List V) (us:List Value) (Q:VK),Inv X a σ H s->Vals xs us->r xs H Q->
  wpAny (model X.prog X.w) X.A (call f us) (EP X a σ Q) X.xe s
def Hl(r:R2)(b a:TE):TE:=λσ H Q=>b σ H λx H1=>a σ H1 λy c=>r x y c Q
def Vp(r:V->Hp->VK->Prop)(a:TE):TE:=λσ H Q=>a σ H λx H1=>r x H1 Q
def rI(C:Int->Int->Prop)(g:Int->Int->V):R2:=λx y H Q=>∃i j,x= .int i/\y= .int j/\C i j/\Q (g i j) H
def wg(g:Int->Int->V):R2:=λx y H Q=>∃i j,x= .int i/\y= .int j/\Q (g i j) H
def rU(g:Int->V):V->Hp->VK->Prop:=λx H Q=>∃i,x= .int i/\Q (g i) H
section
variable {X:Cx}{a b c:Expr}{ta tb tc:TE}{pos:Pos}
def L_(q:PE X a ta)(p:PE X b tb){pins:List (Addr×Obj)}{s:Shared}{σ:St}{H:Hp}{R:V->V->Hp->Prop}(I:Inv X pins σ H s)
 (h:ta σ H λx H1=>tb σ H1 λy d=>R x y d) {Q:Value->Shared->Prop} {f:Value->Value->Sem Value}
 (o:∀v u e x y d,Inv X pins σ d e->RelV x v->RelV y u->R x y d->wpAny (model X.prog X.w) X.A (f v u) Q X.xe e):
 wpAny (model X.prog X.w) X.A (eval a X.env) (λv i=>wpAny (model X.prog X.w) X.A (eval b X.env) (λu g=>wpAny (model X.prog X.w) X.A (f v u) Q X.xe g) X.xe i) X.xe s:=by
 show bQ (q pins s σ H _ I h) λv j ⟨x,H1,t,l,n⟩=>?_;show bQ (p pins j σ H1 _ t n) λu e ⟨y,d,r,k,m⟩=>?_;show o v u e x y d r l k m
def SN(i:bW X (binaryOp op) r)(k:PE X a ta)(j:PE X b tb):PE X (.BinOp a op b pos) (Hl r ta tb):=by
 intro d s σ H Q I h;show wpAny_BinOp (L_ k j I h λv u e x y m l g f q=>i d e σ m x y v u Q l g f q)
def Uv(i:EW X (unaryOp op) r)(j:PE X a ta):PE X (.UnaryOp op a pos) (Vp r ta):=by
 intro d s σ H Q I h;show UnaryOp_ (bQ (j d s σ H _ I h) λv e ⟨x,H1,k,f,g⟩=>i d e σ H1 x v Q k f g)
def M4{f:Value->Value->Sem Value}{g:Int->Int->Int}
 (d:∀(i j:Int) (t u:Tok) (s:Shared) (Q:Value->Shared->Prop) (E:Value->Shared->Prop),C i j->Q (.int (g i j) s.toks) {s with toks:=s.toks+1}->wpAny (model X.prog X.w) X.A (f (.int i t) (.int j u)) Q E s):
 bW X f (rI C λi j=> .int (g i j)):=by
 intro e s σ H x y v u Q I m l h;obtain⟨i,j,rfl,rfl,n,q⟩:=h;obtain⟨t,rfl⟩:=m;obtain⟨k,rfl⟩:=l;show d i j t k s _ _ n ⟨.int (g i j),H,I.tok _,⟨_,rfl⟩,q⟩
def Rj{f:Value->Value->Sem Value}{g:Int->Int->Int}
 (d:∀(i j:Int) (t u:Tok) (s:Shared) (Q:Value->Shared->Prop) (E:Value->Shared->Prop),Q (.int (g i j) s.toks) {s with toks:=s.toks+1}->wpAny (model X.prog X.w) X.A (f (.int i t) (.int j u)) Q E s):
 bW X f (wg λi j=> .int (g i j)):=by
 intro e s σ H x y v u Q I m l h;obtain⟨i,j,rfl,rfl,q⟩:=h;obtain⟨t,rfl⟩:=m;obtain⟨k,rfl⟩:=l;show d i j t k s _ _ ⟨.int (g i j),H,I.tok _,⟨_,rfl⟩,q⟩
def GO{f:Value->Value->Sem Value}{g:Int->Int->Bool}
 (d:∀(i j:Int) (t u:Tok) (s:Shared) (Q:Value->Shared->Prop) (E:Value->Shared->Prop),Q (.bool (g i j)) s->wpAny (model X.prog X.w) X.A (f (.int i t) (.int j u)) Q E s):
 bW X f (wg λi j=> .bl (g i j)):=by
 intro e s σ H x y v u Q I m l h;obtain⟨i,j,rfl,rfl,q⟩:=h;obtain⟨t,rfl⟩:=m;obtain⟨k,rfl⟩:=l;show d i j t k s _ _ ⟨.bl (g i j),H,I,rfl,q⟩
def KP(i j:Int):Prop:=0<=j/\j<=1000000/\i.natAbs<2^64
def Ra:bW X (binaryOp .Add) (wg λi j=> .int (i+j)):=Rj λ_ _ _ _ _ _ _ q=>add_int q
def P7:bW X (binaryOp .Sub) (wg λi j=> .int (i-j)):=Rj λ_ _ _ _ _ _ _ q=>sub_int q
def NQ:bW X (binaryOp .Mod) (rI (λ_ j=>j≠0) λi j=> .int (i.fmod j)):=M4 λ_ _ _ _ _ _ _ d q=>mod_int' d q
def RW:bW X (binaryOp .Pow) (rI KP λi j=> .int (i^j.toNat)):=M4 λ_ _ _ _ _ _ _ d q=>pow_int_small d.1 d.2.1 d.2.2 q
def Wo{f:Value->Sem Value}{g:Int->Int}
 (d:∀(i:Int) (t:Tok) (s:Shared) (Q:Value->Shared->Prop) (E:Value->Shared->Prop),Q (.int (g i) s.toks) {s with toks:=s.toks+1}->wpAny (model X.prog X.w) X.A (f (.int i t)) Q E s):
 EW X f (rU λi=> .int (g i)):=by
 intro e s σ H x v Q I j h;obtain⟨i,rfl,q⟩:=h;obtain⟨t,rfl⟩:=j;show d i t s _ _ ⟨.int (g i),H,I.tok _,⟨_,rfl⟩,q⟩
def QO:EW X (unaryOp .USub) (rU λi=> .int (-i)):=Wo λ_ _ _ _ _ q=>neg_int q
end
def V6:V->V->Bool
 | .aD,.aD=>true| .aD,.int _=>true| .int _,.aD=>true| .aD,.bl _=>true| .bl _,.aD=>true| .aD,.str _=>true| .str _,.aD=>true
 | .int _,.int _=>true| .bl _,.bl _=>true| .str _,.str _=>true| .uY _,.uY _=>true
 | .int _,.str _=>true| .str _,.int _=>true| .bl _,.str _=>true| .str _,.bl _=>true
 |_,_=>false
def WB:R2:=λx y H Q=>V6 x y=true/\Q (.bl (!decide (x=y))) H
def OI:decide (V.int i=V.int j)=(i==j):=by
 rw[aaT];simp
def QZ:decide (V.bl i=V.bl j)=(i==j):=by
 rw[aaT];simp
def N6:decide (V.str i=V.str j)=(i==j):=by
 rw[aaT];simp
def Pz{i j:Array UInt8}:decide (V.uY i=V.uY j)=(i.toList==j.toList):=by
 rw[aaT];cases i;cases j;simp
section
variable {X:Cx}{a b c:Expr}{ta tb tc:TE}{pos:Pos}
def e_{pins:List (Addr×Obj)}{σ:St}{H:Hp}{s:Shared}{Q:VK}{k d:Bool}(I:Inv X pins σ H s)(q:Q (.bl k) H)(e:k=d):EP X pins σ Q (.bool d) s:=by
 subst e;show⟨.bl k,H,I,rfl,q⟩
def UP:bW X (compareOp .NotEq) WB:=by
 intro k s σ H x y v u Q I g d h;obtain⟨f,q⟩:=h;cases x with
 |aD=>
  cases g;cases y with
  |aD=>cases d;show PySem.EqNone.ne_none_none (e_ I q (by simp))
  |bl j=>cases d;show PySem.EqNone.ne_none_bool (e_ I q (by simp))
  |int j=>obtain⟨e,rfl⟩:=d;show PySem.EqNone.ne_none_int (e_ I q (by simp))
  |str j=>obtain⟨e,rfl⟩:=d;show PySem.EqNone.ne_none_str (e_ I q (by simp))
  |_=>show absurd (show false=true from f) Yk
 |bl i=>
  cases g;cases y with
  |aD=>cases d;show PySem.EqNone.ne_bool_none (e_ I q (by simp))
  |bl j=>cases d;show ne_bool (e_ I q (Ye not QZ))
  |str j=>obtain⟨e,rfl⟩:=d;show PySem.EqMixed.ne_bool_str (e_ I q (by simp))
  |_=>show absurd (show false=true from f) Yk
 |int i=>
  obtain⟨t,rfl⟩:=g;cases y with
  |aD=>cases d;show PySem.EqNone.ne_int_none (e_ I q (by simp))
  |int j=>obtain⟨e,rfl⟩:=d;show ne_int (e_ I q (Ye not OI))
  |str j=>obtain⟨e,rfl⟩:=d;show PySem.EqMixed.ne_int_str (e_ I q (by simp))
  |_=>show absurd (show false=true from f) Yk
 |str i=>
  obtain⟨t,rfl⟩:=g;cases y with
  |aD=>cases d;show PySem.EqNone.ne_str_none (e_ I q (by simp))
  |bl j=>cases d;show PySem.EqMixed.ne_str_bool (e_ I q (by simp))
  |int j=>obtain⟨e,rfl⟩:=d;show PySem.EqMixed.ne_str_int (e_ I q (by simp))
  |str j=>obtain⟨e,rfl⟩:=d;show ne_str (e_ I q (Ye not N6))
  |_=>show absurd (show false=true from f) Yk
 |uY i=>
  obtain⟨t,rfl⟩:=g;cases y with
  |uY j=>obtain⟨e,rfl⟩:=d;show PySem.W.ne_bytes (e_ I q (Ye not Pz))
  |_=>show absurd (show false=true from f) Yk
 |_=>cases y<;>show absurd (show false=true from f) Yk
def Uy:bW X (compareOp .Lt) (wg λi j=> .bl (decide (i<j))):=GO λ_ _ _ _ _ _ _ q=>lt_int q
def SQ:bW X (compareOp .LtE) (wg λi j=> .bl (decide (i<=j))):=GO λ_ _ _ _ _ _ _ q=>le_int q
def TC:bW X (compareOp .Gt) (wg λi j=> .bl (decide (j<i))):=GO λ_ _ _ _ _ _ _ q=>gt_int q
def TY:bW X (compareOp .GtE) (wg λi j=> .bl (decide (j<=i))):=GO λ_ _ _ _ _ _ _ q=>ge_int q
def PM:bW X (compareOp .Is) (λx y H Q=>y= .aD/\Q (.bl (decide (x= .aD))) H):=by
 intro e s σ H x y v u Q I d f h;obtain⟨rfl,q⟩:=h;cases f;show is_none_gen (e_ I q ?_)
 cases x<;>first
  |(cases d;rfl)
  |(obtain⟨t,rfl⟩:=d;rfl)
def Og:bW X (compareOp .IsNot) (λx y H Q=>y= .aD/\Q (.bl (!decide (x= .aD))) H):=by
 intro e s σ H x y v u Q I d f h;obtain⟨rfl,q⟩:=h;cases f;show isnot_none_gen (e_ I q ?_)
 cases x<;>first
  |(cases d;rfl)
  |(obtain⟨t,rfl⟩:=d;rfl)
def dv(b:Expr)(h:op≠ .In:=by decide)(d:op≠ .NotIn:=by decide):behindInMarks op b=false:=by
 let f:(op==CmpOp.In)=false:=by cases op<;>first|rfl|show absurd rfl h
 let e:(op==CmpOp.NotIn)=false:=by cases op<;>first|rfl|show absurd rfl d
 cases b<;>simp[behindInMarks,f,e]
def O8(i:bW X (compareOp op) r)(l:PE X a ta)(k:PE X b tb)(j:behindInMarks op b=false):PE X (.Compare a [op] [b] pos) (Hl r ta tb):=by
 intro d s σ H Q I h;show wpAny_Compare1 (L_ l k I h λv u e x y n m g f q=>i d e σ n x y v u Q m g f q) j
def TQ(t:TE):TT:=λσ H Q=>t σ H λx d=>∃k,x= .bl k/\Q k d
def Of(p:bW X (compareOp op) r)(w:PE X a ta)(t:PE X b tb)(q:behindInMarks op b=false):PT X (.Compare a [op] [b] pos) (TQ (Hl r ta tb)):=by
 intro d s σ H Q I h
 show wpAny_isTrue_Compare1 (bQ (w d s σ H _ I h) λv g ⟨x,H1,C,l,o⟩=>bQ (t d g σ H1 _ C o) λu f ⟨y,E,B,j,n⟩=>
  bQ (p d f σ E x y v u _ B l j n) λc F ⟨z,D,A,i,k,e,m⟩=>?_) q
 subst e;cases i;show Zd ⟨D,A,m⟩
def pU:(sizeLine:Nat)<2^63:=by rw[Yl];decide
def Fs:bW X (binaryOp .Add) (λx y H Q=>∃i j,x= .str i/\y= .str j/\i.length+j.length<=sizeLine/\Q (.str (i++j)) H):=by
 intro d s σ H x y v u Q I g f h;obtain⟨i,j,rfl,rfl,k,q⟩:=h;obtain⟨t,rfl⟩:=g;obtain⟨e,rfl⟩:=f;show add_str (λe tk=>⟨.str (i++j),H,I.tok _,⟨_,rfl⟩,q⟩) k
def vals1(r:Vals [x] us):∃u,us=[u]/\RelV x u:=by
 cases r with
 |cons e d=>cases d;show⟨_,rfl,e⟩
def vals2(r:Vals [x,y] us):∃u d,us=[u,d]/\RelV x u/\RelV y d:=by
 cases r with
 |cons h g=>
  cases g with
  |cons f e=>cases e;show⟨_,_,rfl,h,f⟩
def KI:bH X (.builtin "abs") (λxs H Q=>∃i,xs=[.int i]/\Q (.int (if i<0 then-i else i)) H):=by
 intro d s σ H xs e Q I r h;obtain⟨i,rfl,q⟩:=h;obtain⟨u,rfl,t,rfl⟩:=vals1 r;show call_abs_int λu tk=>⟨.int (if i<0 then-i else i),H,I.tok _,⟨_,rfl⟩,q⟩
def Iv(f:X.calm=true):bH X (.builtin "max") (λxs H Q=>∃i j,xs=[.int i,.int j]/\Q (.int (if j>i then j else i)) H):=by
 intro e s σ H xs l Q I r h;obtain⟨i,j,rfl,q⟩:=h;obtain⟨u,g,rfl,⟨t,rfl⟩,⟨m,rfl⟩⟩:=vals2 r;show max_two_ints (I.ok.hd f) λn tk k=>⟨_,H,I.kept k,?_,q⟩
 by_cases d:j>i
 . rw[WY d,WY d];show⟨_,rfl⟩
 . rw[WW d,WW d];show⟨_,rfl⟩
def IF:bH X (.type "int") (λxs H Q=>(∃i,xs=[.int i]/\Q (.int i) H)\/∃k,xs=[.bl k]/\Q (.int (if k then 1 else 0)) H):=by
 intro d s σ H xs f Q I r h;rcases h with⟨i,rfl,q⟩|⟨k,rfl,q⟩
 . obtain⟨u,rfl,t,rfl⟩:=vals1 r;show call_int_int ⟨.int i,H,I,⟨_,rfl⟩,q⟩
 . obtain⟨u,rfl,e⟩:=vals1 r;cases e;show call_int_bool ⟨.int (if k then 1 else 0),H,I.tok _,⟨_,rfl⟩,q⟩
end
structure vZ(h:Heap)(x dx C:Addr)(mA:Str->Option Value):Prop where
 obj:h.get? x=some (PySem.W.instObj C dx)
 ns:h.Ns1 dx mA
 ne:dx≠x
def Jj{h:Heap}{g:Addr}{d:Str->Option Value}(n:h.Ns1 g d):∃c,h.get? g=some c/\∀name,PySem.W.lookIn name c=some (d name):=by
 obtain⟨o,f,r,j,m,l,_,k⟩:=n;show⟨o,j,λname=>?_⟩;let e:=k name;unfold nsFind findBy at e;rw[<-Array.find?_toList]at e;unfold PySem.W.lookIn;rw[m];dsimp only;split
 . rename_i y q;rw[q]at e;show Ye some e
 . rename_i q;rw[q]at e
   let a:f.toList.any (·.refKey)=false:=by
    rw[abg];intro y i;obtain⟨z,t,b⟩:=l y (Array.mem_toList_iff.mp i);simp[DictEntry.refKey,b]
   let p:¬f.toList.any (·.refKey)=true:=by rw[a];show Yk
   rw[WW p];show Ye some e
def vZ.look{b:Str->Option Value}(I:vZ h x c C b):∃a,PySem.W.InstAt h x (PySem.W.instObj C c) C (some a)/\∀name,PySem.W.lookIn name a=some (b name):=
 let⟨a,ho,hl⟩:=Jj I.ns
 ⟨a,⟨I.obj,rfl,rfl,ho⟩,hl⟩
section
variable {prog:Program}{w:World}{A:Around}{E:Value->Shared->Prop}{s:Shared}{K:PySem.W.Frag}{x dx C f:Addr}{mA:Str->Option Value}{name:Str}{v:Value}
def get_map(X:K.In s.heap)(I:vZ s.heap x dx C mA)(g:PySem.W.plainGet K C name=true)(e:PySem.W.hasDictIn K C=true)
 (i:PySem.W.findIn K (.ref C) name=some none) (c:mA name=some v) (b:PySem.W.handedIn v=true) (h:Q v {s with toks:=s.toks+1}):
 wpAny (model prog w) A (getAttr (.ref x) name a) Q E s:=by
 obtain⟨j,J,d⟩:=I.look;show PySem.W.get_value X J (aa3 g).1 (PySem.W.findObj_own e i rfl (by rw[d,c])) b h
def KL{pl:Sem Bool}(X:K.In s.heap)(I:vZ s.heap x dx C mA)(a:PySem.W.plainGet K C name=true)
 (g:PySem.W.findIn K (.ref C) name=some (some (.ref f))) (d:PySem.W.isFn K (.ref f)=true) (c:mA name=none) (h:Q (.ref f,[.ref x]) s):
 wpAny (model prog w) A (getMethod (.ref x) name pl) Q E s:=by
 obtain⟨b,J,e⟩:=I.look;show PySem.W.method_fn X J (aa3 a).1 (aa3 a).2 g (Y7.mp d) (by change(PySem.W.lookIn name b).map (·.isSome)=some false;rw[e,c];rfl) h
def iF{ns:List Str}(X:K.In s.heap)(I:vZ s.heap x dx C mA)
 (o:PySem.W.findIn K (.ref C) "__setattr__"=some (some (.builtin "object.__setattr__"))) (p:PySem.W.plainOver K C=true) (m:PySem.W.takerIn K C name=some none) (q:PySem.W.hasDictIn K C=true)
 (l:PySem.Within mA ns) (n:ns.length<=sizeLine)
 (h:∀h',vZ h' x dx C (λy=>if y=name then some v else mA y)->Heap.SameBut dx s.heap h'->Q () {s with heap:=h',toks:=s.toks+2}):
 wpAny (model prog w) A (setAttr (.ref x) name v) Q E s:=by
 obtain⟨B,J,F⟩:=I.look;show PySem.W.set_plain X J o (PySem.W.osa_open (s:={s with toks:=s.toks+1}) (r:=none) X J p m λb=>?_);obtain⟨G,t,i⟩:=PySem.W.any_some q;let k:s.heap.get? x=some ⟨.ref C,some dx,.plain,#[]⟩:=I.obj;show WT (W5 (WT (WT (wpAny_loadPart k (WT (PySem.W.Looks.here (s:={s with toks:=s.toks+1}) (PySem.W.looks_clsIn X t) ?_))))));rw[i];show W5 (a:=some dx) (WT (W5 (WT ?_)));show wpAny_nsSet1 (s:={s with toks:=s.toks+1}) I.ns λh' d c=>?_;obtain⟨D,u,z,e,g,j⟩:=d.count (PySem.Within.cons name v l);show WT (wpAny_lookBehind e (by rw[g];show pastItsLine_dict (WZ j (by rw[Xw];lia))) ?_);show W5 (h _ ⟨(c.2 _ (W4 I.ne)).trans I.obj,d,I.ne⟩ c)
def Ma(X:K.In s.heap)(c:PySem.W.makesIn K C=true)
 (hi:PySem.W.findIn K (.ref C) "__init__"=some (some (.ref f))) (e:PySem.W.typeIn K (.ref f)=some (.type "function"))
 (h:codeAny (model prog w) (A.under (.builtin "type.__call__" ⟨.ref C::vs,b⟩)) (.call (.ref f) ⟨.ref (s.heap.objs.size+1)::vs,b⟩) (PySem.W.InitBack (s.heap.objs.size+1) R)
   {s with heap:=(s.heap.push PySem.W.emptyDict).push (PySem.W.instObj C s.heap.objs.size)}):
 codeAny (model prog w) A (.call (.ref C) ⟨vs,b⟩) R s:=by
 obtain⟨j,g,d,t,i⟩:=s;show PySem.W.make_core (PySem.W.makes_of X c) (PySem.W.looks_findIn X hi) (λa=>PySem.W.bind_fn X a e) (.inl rfl) h
end
def gS(f:Str)(v:V):List (Str×V)->List (Str×V)
 | []=>[(f,v)]
 |(g,x)::r=>if g=f then(g,v)::r else(g,x)::gS f v r
def uK(f g:Str)(v:V):∀fs:List (Str×V),(gS f v fs).lookup g=if g=f then some v else fs.lookup g
 | []=>by
   change List.lookup g [(f,v)]=_;by_cases h:g=f
   . have a:(g==f)=true:=Y7.mpr h;simp![List.lookup,a,WY h]
   . have a:(g==f)=false:=Ze.mpr h;simp![List.lookup,a,WW h]
 |(k,x)::r=>by
  let c:=uK f g v r;rw[show gS f v ((k,x)::r)=(if k=f then(k,v)::r else(k,x)::gS f v r)from rfl];by_cases b:k=f
  . rw[WY b];by_cases h:g=k
    . have a:(g==k)=true:=Y7.mpr h;simp![List.lookup,a,WY (h.trans b)]
    . have a:(g==k)=false:=Ze.mpr h;simp![List.lookup,a,WW (λe:g=f=>h (e.trans b.symm))]
  . rw[WW b];by_cases h:g=k
    . have a:(g==k)=true:=Y7.mpr h;simp![List.lookup,a,WW (λe:g=f=>b (h.symm.trans e))]
    . have a:(g==k)=false:=Ze.mpr h;simp![List.lookup,a];show c
def rT(f:Str)(v:V):∀fs:List (Str×V),f∈(gS f v fs).map (·.1)/\∀g,g∈fs.map (·.1)->g∈(gS f v fs).map (·.1)
 | []=>⟨by simp[gS],λg h=>by simp at h⟩
 |(k,x)::r=>by
  obtain⟨c,b⟩:=rT f v r;rw[show gS f v ((k,x)::r)=(if k=f then(k,v)::r else(k,x)::gS f v r)from rfl];by_cases a:k=f
  . rw[WY a];subst a;show⟨by simp,λg h=>by simpa using h⟩
  . rw[WW a];show⟨?_,λg h=>?_⟩
    . rw[XH];show Xg _ c
    . rw[XH]at h⊢;rcases Xh.mp h with e|e
      . show Xh.mpr (.inl e)
      . show Xg _ (b g e)
def u4(f:Str)(v:V):∀fs:List (Str×V),(gS f v fs).length<=fs.length+1
 | []=>by simp[gS]
 |(k,x)::r=>by
  let b:=u4 f v r;rw[show gS f v ((k,x)::r)=(if k=f then(k,v)::r else(k,x)::gS f v r)from rfl];by_cases a:k=f
  . rw[WY a,Xw,Xw];lia
  . rw[WW a,Xw,Xw];lia
def pC.some_of(r:pC (some v) o):∃u,o=some u/\RelV v u:=by
 cases o with
 |none=>show(show False from r).elim
 |some u=>show⟨u,rfl,r⟩
def pC.none_of(r:pC none o):o=none:=by
 cases o with
 |none=>rfl
 |some u=>show(show False from r).elim
def JY(r:RelV v u):PySem.W.handedIn u=true:=by
 cases v with
 |aD=>cases (show u=Value.none from r);rfl
 |bl b=>cases (show u=Value.bool b from r);rfl
 |int i=>obtain⟨t,e⟩:=(show∃t,u=Value.int i t from r);cases e;rfl
 |str x=>obtain⟨t,e⟩:=(show∃t,u=Value.str x t from r);cases e;rfl
 |uY b=>obtain⟨t,e⟩:=(show∃t,u=Value.bytes b t from r);cases e;rfl
 |u7 b=>obtain⟨t,e⟩:=(show∃t,u=Value.float b t from r);cases e;rfl
 |ref a=>cases (show u=Value.ref a from r);rfl
 |ty n=>cases (show u=Value.type n from r);rfl
section
variable {P:Program}{w:World}{H H':Hp}{h h':Heap}{a C dx:Addr}{fs fs':List (Str×V)}
def pX(g:iB P w H h)(e:H a=some (.ins C dx fs)):∃b,vZ h a dx C b/\(∀f,pC (fs.lookup f) (b f))/\PySem.Within b (fs.map (·.1))/\fs.length<=1000/\H dx=some (.own a):=by
 obtain⟨d,z,ne,c,b,n,r,q⟩:=(show di P w H h a (.ins C dx fs)from g a _ e)
 show⟨b,⟨c,n,ne⟩,r,q,z,d⟩
end
structure mv(K:PySem.W.Frag)(C:Addr):Prop where
 pg:PySem.W.plainGet K C Str.empty=true
 hd:PySem.W.hasDictIn K C=true
 po:PySem.W.plainOver K C=true
 sa:PySem.W.findIn K (.ref C) "__setattr__"=some (some (.builtin "object.__setattr__"))
def mv.get{K:PySem.W.Frag}{C:Addr}(c:mv K C)(f:Str):PySem.W.plainGet K C f=true:=c.pg
def fB(K:PySem.W.Frag)(C:Addr)(f:Str):Prop:=PySem.W.findIn K (.ref C) f=some none
def fB.Tc{K:PySem.W.Frag}{C:Addr}{f:Str}(n:fB K C f):PySem.W.takerIn K C f=some none:=by
 unfold PySem.W.takerIn;rw[show PySem.W.findIn K (.ref C) f=some none from n];rfl
structure Meth(K:PySem.W.Frag)(C:Addr)(m:Str)(f:Addr):Prop where
 at_:PySem.W.findIn K (.ref C) m=some (some (.ref f))
 fn:PySem.W.isFn K (.ref f)=true
 kp:PySem.W.keepIn K (.ref f)=true
section
variable {X:Cx}{pins:List (Addr×Obj)}{σ:St}{H:Hp}{s:Shared}{a C dx:Addr}{fs:List (Str×V)}{f:Str}{v:V}{A:Around}{E:Value->Shared->Prop}
def Gp(I:Inv X pins σ H s)(e:H a=some (.ins C dx fs))(c:mv X.K C)(n:fB X.K C f)(l:fs.lookup f=some v)
 (h:∀u s',Inv X pins σ H s'->RelV v u->Q u s'):wpAny (model X.prog X.w) A (getAttr (.ref a) f b) Q E s:=by
 obtain⟨g,O,r,_,_,_⟩:=pX I.aI e;obtain⟨u,i,d⟩:=pC.some_of (v:=v) (o:=g f) (by rw[<-l];show r f);show get_map I.g4 O (c.get f) c.hd n i (JY d) (h u _ (I.tok _) d)
def wm{g:Addr}{pl:Sem Bool}(I:Inv X pins σ H s)(e:H a=some (.ins C dx fs))(c:mv X.K C)(k:Meth X.K C m g)(l:fs.lookup m=none)
 (h:Q (.ref g,[.ref a]) s):wpAny (model X.prog X.w) A (getMethod (.ref a) m pl) Q E s:=by
 obtain⟨b,O,r,_,_,_⟩:=pX I.aI e;let d:b m=none:=pC.none_of (by rw[<-l];show r m);show KL I.g4 O (c.get m) k.at_ k.fn d h
def Gd(I:Inv X pins σ H s)(e:H a=some (.ins C dx fs))(c:mv X.K C)(n:fB X.K C f)(F:fs.length<1000)(m:RelV y u)
 (h:∀s',Inv X pins σ (upd H a (.ins C dx (gS f y fs))) s'->Q () s'):wpAny (model X.prog X.w) A (setAttr (.ref a) f u) Q E s:=by
 obtain⟨j,O,r,i,_,k⟩:=pX I.aI e;let p:(fs.map (·.1)).length<=sizeLine:=by rw[W2,Yl];lia
 show iF I.g4 O c.sa c.po n.Tc c.hd i p λD d l=>h _ ?_;let w:∃o,D.get? dx=some o:=let⟨o,_,_,e',_⟩:=d.ns;⟨o,e'⟩
 show I.write (x:=a) (e:=dx) (by rw[e];show True.intro) (.inr k) (λb q B z=>(l.2 b B).trans z) w ?_;show⟨by rw[aB O.ne];show k,?_,O.ne,d.obj,_,d.ns,λg=>?_,λg t=>?_⟩
 . have:=u4 f y fs;lia
 . change pC ((gS f y fs).lookup g) (if g=f then some u else j g);rw[uK];by_cases q:g=f
   . rw[WY q,WY q];show m
   . rw[WW q,WW q];show r g
 . by_cases q:g=f
   . rw[q];show(rT f y fs).1
   . show(rT f y fs).2 g (i g λz=>t ?_);change(if g=f then some u else j g)=none;rw[WW q];show z
def Inv.made(I:Inv X pins σ H s):Inv X pins σ (upd (upd H s.heap.objs.size (.own (s.heap.objs.size+1))) (s.heap.objs.size+1) (.ins C s.heap.objs.size []))
 {s with heap:=(s.heap.push PySem.W.emptyDict).push (PySem.W.instObj C s.heap.objs.size)}:=by
 let c:(s.heap.push PySem.W.emptyDict).get? s.heap.objs.size=some PySem.W.emptyDict:=Xe s.heap rfl
 let i:((s.heap.push PySem.W.emptyDict).push (PySem.W.instObj C s.heap.objs.size)).get? (s.heap.objs.size+1)=some (PySem.W.instObj C s.heap.objs.size):=by
  let:=Xe (s.heap.push PySem.W.emptyDict) (o:=PySem.W.instObj C s.heap.objs.size) rfl;rwa [XJ]at this
 let h:(s.heap.push PySem.W.emptyDict).Ns s.heap.objs.size (λ_=>none):=⟨PySem.W.emptyDict,#[],_,c,rfl,(λe g=>absurd g (by simp)),λ_=>rfl⟩
 let j:=I.laid (a:=s.heap.objs.size) (o:= .own (s.heap.objs.size+1)) (h':=s.heap.push PySem.W.emptyDict) (t':=s.toks) (λb u q=>WU _ q) (WX _) ⟨_,c⟩;show j.laid (a:=s.heap.objs.size+1) (o:= .ins C s.heap.objs.size []) (t':=s.toks) (λb u q=>WU _ q) (abw (XJ _ _)) ?_;let ne:s.heap.objs.size≠s.heap.objs.size+1:=Xn (XC _);show⟨by rw[aB ne,a9],Xq _,ne,i,λ_=>none,(Heap.Ns1.of_empty h).at λo q=>WU _ q,λ_=>True.intro,λy d=>absurd rfl d⟩
def Pf{e:Expr}{f:Str}{s:Shared}(c:attributeBase e f env (eval e env)=eval e env)
 (h:wpAny (model prog w) A (eval e env) (λo b=>wpAny (model prog w) A (getAttr o f true) Q E b) E s):wpAny (model prog w) A (eval (.Attribute e f pos) env) Q E s:=
 Attribute_any_ h (by rw[arm_eval_Attribute,c])
end
def VD(K:PySem.W.Frag)(b:TE)(f:Str):TE:=λσ H Q=>b σ H λx H1=>∃a C c fs v,x= .ref a/\H1 a=some (.ins C c fs)/\mv K C/\fB K C f/\fs.lookup f=some v/\Q v H1
def VJ(K:PySem.W.Frag)(e d:TE)(f:Str):TS:=λD σ H=>d σ H λy H1=>e σ H1 λx c=>∃a C b fs,x= .ref a/\c a=some (.ins C b fs)/\mv K C/\fB K C f/\fs.length<1000/\
 D.nx σ (upd c a (.ins C b (gS f y fs)))
section
variable {X:Cx}{o e value:Expr}{f:Str}{pos pos' tpos:Pos}{ta tv:TE}
def Rv(i:PE X e ta)(j:attributeBase e f X.env (eval e X.env)=eval e X.env):PE X (.Attribute e f pos) (VD X.K ta f):=by
 intro b s σ H Q I h;show Pf j (bQ (i b s σ H _ I h) λu y ⟨x,H1,r,d,a,C,z,fs,v,k,m,c,n,l,q⟩=>?_);subst k;obtain rfl:u=Value.ref a:=d;show Gp r m c n l λt w p g=>⟨v,H1,p,g,q⟩
def Qg(r:PE X o ta)(m:PE X value tv)(p:swapsWith value (some (.Attribute o f pos')) pos.line X.env=pure false):PS X (.Assign [.Attribute o f pos'] value pos) (VJ X.K ta tv f):=by
 intro b s σ H D I h;show plainObj_wpAny_Assign_Attribute (bQ (m b s σ H _ I h) λu d ⟨y,H1,A,g,q⟩=>bQ (r b d σ H1 _ A q) λk E ⟨x,G,z,i,a,C,F,fs,t,v,c,n,l,j⟩=>?_) p;subst t;obtain rfl:k=Value.ref a:=i;show Gd z v c n l g λB w=>⟨σ,_,w,j⟩
end
section
variable {X:Cx}{pins:List (Addr×Obj)}{σ:St}{H:Hp}{s:Shared}{A:Around}{E:Value->Shared->Prop}{Q:Value->Shared->Prop}{c:Value}{b:Bool}
inductive jC(K:PySem.W.Frag)(H:Hp):V->Value->Prop where
 |aD:jC K H .aD (.type "NoneType")
 |bl (x:Bool):jC K H (.bl x) (.type "bool")
 |int (i:Int):jC K H (.int i) (.type "int")
 |str (x:Str):jC K H (.str x) (.type "str")
 |u7 (x:UInt64):jC K H (.u7 x) (.type "float")
 |lst {a:Addr} {xs:List V} (e:H a=some (.lst xs)):jC K H (.ref a) (.type "list")
 |gG {a:Addr} {o:Obj} {xs:List V} (e:H a=some (.gG o (.lst xs))):jC K H (.ref a) (.type "list")
 |tup {a:Addr} {xs:List V} (e:H a=some (.tup xs)):jC K H (.ref a) (.type "tuple")
 |dK {a:Addr} {kvs:List (Key×V)} (e:H a=some (.dK kvs)):jC K H (.ref a) (.type "dict")
 |dT {a:Addr} {kvs:List (List Key×V)} (e:H a=some (.dT kvs)):jC K H (.ref a) (.type "dict")
 |ins {a C dx:Addr} {fs:List (Str×V)} (e:H a=some (.ins C dx fs)) (cl:mv K C) (ha:PySem.W.findIn K (.ref C) "__class__"=some (some (.builtin "object.__class__")))
   (hn:PySem.W.specialIn K (.builtin "object.__class__") "__get__"=some (some (.builtin "getset_descriptor.__get__"))) (htk:PySem.W.takesIn K (.builtin "object.__class__")=some true)
   (hm:PySem.W.mroIn K C (.type "object")=some true):jC K H (.ref a) (.ref C)
def HU(I:Inv X pins σ H s)(d:RelV x u)(r:jC X.K H x t)(e:PySem.W.kitOne X.K t c=some b)(h:∀tk,Q (.bool b) {s with toks:=tk}):
 wpAny (model X.prog X.w) A (call (.builtin "isinstance") [u,c]) Q E s:=by
 cases r with
 |aD=>cases (show u=Value.none from d);show YC PySem.W.kitx_none I.g4 True.intro e (λz=>nomatch z) h
 |bl y=>cases (show u=Value.bool y from d);show YC PySem.W.kitx_bool I.g4 True.intro e (λz=>nomatch z) h
 |int i=>obtain⟨t,q⟩:=(show∃t,u=Value.int i t from d);cases q;show YC PySem.W.kitx_int I.g4 True.intro e (λz=>nomatch z) h
 |str y=>obtain⟨t,q⟩:=(show∃t,u=Value.str y t from d);cases q;show YC PySem.W.kitx_str I.g4 True.intro e (λz=>nomatch z) h
 |u7 y=>obtain⟨t,q⟩:=(show∃t,u=Value.float y t from d);cases q;show YC PySem.W.kitx_float I.g4 True.intro e (λz=>nomatch z) h
 | @lst a k f=>
   cases (show u=Value.ref a from d);obtain⟨_,_,n,_,g⟩:=(show di X.prog X.w H s.heap a (.lst k)from I.aI a _ f)
   show YC aay I.g4 ⟨_,g,rfl⟩ e (λz=>nomatch z) h
 | @gG a v k f=>
   cases (show u=Value.ref a from d);obtain⟨_,_,_,n,_,g⟩:=(show di X.prog X.w H s.heap a (.gG v (.lst k))from I.aI a _ f)
   show YC aay I.g4 ⟨_,g,rfl⟩ e (λz=>nomatch z) h
 | @tup a k f=>
   cases (show u=Value.ref a from d);obtain⟨_,_,_,p⟩:=(show di X.prog X.w H s.heap a (.tup k)from I.aI a _ f)
   obtain⟨o,g,l,_⟩:=p;show YC PySem.W.kitx_tuple I.g4 ⟨o,g,l⟩ e (λz=>nomatch z) h
 | @dK a j f=>
   cases (show u=Value.ref a from d);obtain⟨_,_,K,_,p⟩:=(show di X.prog X.w H s.heap a (.dK j)from I.aI a _ f)
   obtain⟨o,F,G,g,l,_⟩:=p;show YC aaz I.g4 ⟨o,g,l.1⟩ e (λz=>nomatch z) h
 | @dT a j f=>
   cases (show u=Value.ref a from d);obtain⟨_,_,k,_,o,F,G,g,l,_⟩:=(show di X.prog X.w H s.heap a (.dT j)from I.aI a _ f)
   show YC aaz I.g4 ⟨o,g,l.1⟩ e (λz=>nomatch z) h
 | @ins a C N fs f cl D w m B=>
   cases (show u=Value.ref a from d);obtain⟨M,O,_⟩:=pX I.aI f;obtain⟨L,J,_⟩:=O.look;show YC (PySem.W.kitx_own (cl.get _) cl.hd D w m B) I.g4 J e (λz=>nomatch z) h
end
structure cK(k:Nat)(A:Around):Prop where
 hd:A.handled=none
 dp:A.depth+3*k+105<recursionLimit
 un:A.units+16*k+200<cLine
def cK.mono{j k:Nat}(r:cK k A)(h:j<=k):cK j A:=⟨r.hd,by let:=r.dp;lia,by let:=r.un;lia⟩
def cK.deeper{k:Nat}{A:Around}(r:cK (k+1) A)(env:Env):cK k (A.deeper env):=
 ⟨r.hd,by let:=r.dp;change A.depth+1+3*k+105<_;lia,by let:=r.un;change A.units+3+16*k+200<_;lia⟩
def GJ{A:Around}:(A.under (.builtin "type.__call__" ⟨.ref C::us,a⟩)).depth=A.depth+1:=by
 first|rfl|simp[Around.under,Code.weight,Code.isCreation,Code.isGuard,Code.isCaller,Code.frames,Code.isFrame,guardIds]
def GC{A:Around}:(A.under (.builtin "type.__call__" ⟨.ref C::us,a⟩)).units=A.units+1:=by
 first|rfl|simp[Around.under,Code.cUnits,Code.frames,Code.isFrame]
def cK.make{k:Nat}{A:Around}(r:cK (k+1) A)(C:Addr)(us:List Value)(a:List (Str×Value)):cK k (A.under (.builtin "type.__call__" ⟨.ref C::us,a⟩)):=
 ⟨r.hd,by let:=r.dp;rw[GJ];lia,by let:=r.un;rw[GC];lia⟩
def cK.depth{k:Nat}{A:Around}(r:cK k A):A.depth<recursionLimit:=by let:=r.dp;lia
def cK.units{k:Nat}{A:Around}(r:cK k A):A.units+64<cLine:=by let:=r.un;lia
def QN:TA:=λ_ H Q=>Q [] H
def Tt(b:TE)(tr:TA):TA:=λσ H Q=>b σ H λx H1=>tr σ H1 λa c=>Q (x::a) c
section
variable {X:Cx}{e:Expr}{es:List Expr}{te:TE}{t:TA}{pos:Pos}
def Rb:PA X [] QN:=λ_ _ _ _ H Q I h=>Calls.spliced_nil ⟨[],H,I,.nil,h⟩
def OJ(l:PE X e te)(k:PA X es t)(j:starEach (e::es) X.env=(false,eval e X.env)::starEach es X.env:=by rfl):PA X (e::es) (Tt te t):=by
 intro pos a s σ H Q I h;rw[j];change wpAny _ _ (spliced ((false,eval e X.env)::backTo pos (starEach es X.env))) _ _ s;show Calls.spliced_cons (bQ (l a s σ H _ I h) λu c ⟨x,H1,n,f,i⟩=>?_);show bQ (k pos a c σ H1 _ n i) λp q ⟨b,o,m,d,g⟩=>⟨x::b,o,m,.cons f d,g⟩
def V1(t:TA):TE:=λσ H Q=>t σ H λa H1=>a.length<=sizeLine/\∀p,H1 p=none->Q (.ref p) (upd H1 p (.tup a))
def VG(t:TA):TE:=λσ H Q=>t σ H λa H1=>a.length<=sizeLine/\∀p,H1 p=none->Q (.ref p) (upd H1 p (.lst a))
def Qp{x1}(h:PA X es t):PE X (.Tuple es x1 pos) (V1 t):=by
 intro a s σ H Q I i;show wpAny_Tuple_spliced (bQ (h pos a s σ H _ I i) λg c ⟨f,H1,d,r,z,q⟩=>⟨by rw[<-r.length];show z,?_⟩);let j:H1 c.heap.objs.size=none:=d.aI.fresh (WX _);show⟨.ref c.heap.objs.size,upd H1 c.heap.objs.size (.tup f),d.laid (t':=c.toks) (λb u e=>WU _ e) (WX _) ?_,rfl,q _ j⟩;show⟨z,g,r,⟨_,Xe _ rfl,rfl,_,rfl⟩⟩
def JN(h:PA X es t):PE X (.List es pos) (VG t):=by
 intro a s σ H Q I i;show wpAny_List_spliced (bQ (h pos a s σ H _ I i) λg c ⟨f,H1,d,r,z,q⟩=>⟨by rw[<-r.length];show z,?_⟩);let j:H1 c.heap.objs.size=none:=d.aI.fresh (WX _);show⟨.ref c.heap.objs.size,upd H1 c.heap.objs.size (.lst f),d.laid (t':=c.toks) (λb u e=>WU _ e) (WX _) ?_,rfl,q _ j⟩;show⟨z,g,0,r,Xe _ rfl⟩
end
abbrev Sp:=List V->Hp->VK->XK->Prop
abbrev uM:=List Env->Hp->Shared->XK->Value->Shared->Prop
structure vz(P:Program)(w:World)(K:PySem.W.Frag)(mg:Str->Option Value)(base:Heap)(A:Around)(outer:List Env)(s:Shared)(H:Hp):Prop where
 frames:A.frames=some outer
 mod:Mod K mg base
 bs:∀b o,base.get? b=some o->s.heap.get? b=some o/\H b=none
 td:base.objs.size<=s.heap.objs.size
 kU:s.heap.FunFrames base outer
 xB:∀b∈pL outer,H b=none
 aI:iB P w H s.heap
 bare:AllBare s.gens
 gt:P.given.tree=none
def CE(outer:List Env)(P:Program)(w:World)(H:Hp)(s:Shared)(Q:VK)(u:Value)(s':Shared):Prop:=
 ∃v a,s'.os=s.os/\AllBare s'.gens/\Un (pL outer) [] H a s.heap s'.heap/\iB P w a s'.heap/\RelV v u/\Q v a
def CR(a:uM)(outer:List Env)(P:Program)(w:World)(H:Hp)(s:Shared)(Q:VK)(E:XK)(r:Result)(s':Shared):Prop:=
 match r with
 | .ok (.ret u)=>CE outer P w H s Q u s'
 | .ok _=>False
 | .error e=>a outer H s E e s'
structure cY(P:Program)(w:World)(K:PySem.W.Frag)(mg:Str->Option Value)(base:Heap)(CX:uM)(k:Nat)(f:Addr)(fd:FuncData)(ps:List Str)(sp:Sp):Prop where
 len:∀vs H Q E,sp vs H Q E->vs.length=ps.length
 run:∀(A:Around) (outer:List Env) (s:Shared) (H:Hp) (args:Args) (us:List Value) (vs:List V) (Q:VK) (E:XK),cK k A->vz P w K mg base A outer s H->BindsTo s fd args (ps.zip us)->Vals vs us->sp vs H Q E->
  codeAny (model P w) A (.call (.ref f) args) (CR CX outer P w H s Q E) s
def cY.imp{P:Program}{w:World}{K:PySem.W.Frag}{e:Str->Option Value}{a:Heap}{g:uM}{k:Nat}{f:Addr}{fd:FuncData}{d:List Str}{sp b:Sp}(F:cY P w K e a g k f fd d sp)
 (h:∀vs H Q E,b vs H Q E->sp vs H Q E):cY P w K e a g k f fd d b:=
 ⟨λvs H Q E q=>F.len vs H Q E (h _ _ _ _ q),λA outer s H c i vs Q E m n o j l=>F.run A outer s H c i vs Q E m n o j (h _ _ _ _ l)⟩
def vz.make{P:Program}{w:World}{K:PySem.W.Frag}{b:Str->Option Value}{a:Heap}{A:Around}{outer:List Env}{s:Shared}{H:Hp}(e:vz P w K b a A outer s H)(C:Addr)(us:List Value)(c:List (Str×Value)):
 vz P w K b a (A.under (.builtin "type.__call__" ⟨.ref C::us,c⟩)) outer s H:=⟨by first|show e.frames|(simpa[Around.under,Code.envs,Code.isFrame,pushEnvs]using e.frames),e.mod,e.bs,e.td,e.kU,e.xB,e.aI,e.bare,e.gt⟩
section
variable {X:Cx}{pins:List (Addr×Obj)}{σ:St}{H:Hp}{s s':Shared}
def Inv.RM(I:Inv X pins σ H s):vz X.prog X.w X.K X.mg X.base X.A X.stack s H:=
 ⟨I.ok.frames,I.ok.mod,I.bs,WZ I.ok.td I.sz,I.stack,I.xN,I.aI,I.bare,I.ok.gt⟩
def Inv.after(I:Inv X pins σ H s)(h:CE X.stack X.prog X.w H s Q u s'):EP X pins σ Q u s':=by
 obtain⟨v,j,e,a,un,i,r,q⟩:=h;obtain⟨f,g,d,t,c⟩:=s';obtain rfl:c=s.os:=e;show⟨v,j,I.call (h':=f) (g':=g) (d':=d) (t':=t) (ch:=[]) un i a (λb z=>absurd z (by simp)),r,q⟩
end
def MD(sp:Sp)(a:List V)(E:XK)(t:TA):TE:=λσ H Q=>t σ H λb H1=>sp (b++a) H1 Q E
def Fx(C:Addr)(m:Str)(sp:Sp)(b:List V)(E:XK)(d:TE)(t:TA):TE:=λσ H Q=>d σ H λx H1=>∃a e fs,x= .ref a/\H1 a=some (.ins C e fs)/\fs.lookup m=none/\
 t σ H1 λc f=>sp (x::(c++b)) f Q E
def M6(C:Addr)(sp:Sp)(b:List V)(E:XK)(t:TA):TE:=λσ H Q=>t σ H λc H1=>∀x a,H1 x=none->H1 a=none->a≠x->
 sp (.ref x::(c++b)) (upd (upd H1 a (.own x)) x (.ins C a [])) (λv d=>v= .aD/\Q (.ref x) d) E
def Binds(K:PySem.W.Frag)(fd:FuncData)(a:List Str)(b:List Value):Prop:=
 ∀(s:Shared) (us:List Value),K.In s.heap->(us++b).length=a.length->BindsTo s fd ⟨us,[]⟩ (a.zip (us++b))
def Binds.all{K:PySem.W.Frag}{fd:FuncData}{a:List Str}(h:∀us:List Value,us.length=a.length->bindArgs fd ⟨us,[]⟩=pure (a.zip us)):Binds K fd a []:=λs us _ b=>by
 rw[YD]at b⊢;show .of_eq (h us b)
def Passes(b:uM)(X:Cx)(E:XK):Prop:=∀(a:List (Addr×Obj)) (σ:St) (H:Hp) (s:Shared) (e:Value) (s':Shared),Inv X a σ H s->b X.stack H s E e s'->X.xe e s'
section
variable {X:Cx}{CX:uM}{k:Nat}{f C:Addr}{fd:FuncData}{ps:List Str}{sp:Sp}{dvs:List V}{ds:List Value}{E:XK}{x m:Str}{p pos apos:Pos}{e o:Expr}{es:List Expr}{ta:TE}{t:TA}
def Dd{pins:List (Addr×Obj)}{σ:St}{H:Hp}{s:Shared}{Q:VK}{us:List Value}{vs:List V}(F:cY X.prog X.w X.K X.mg X.base CX k f fd ps sp)(g:cK k X.A)(l:Binds X.K fd ps ds)(j:Vals dvs ds)(d:Passes CX X E)
 (I:Inv X pins σ H s) (r:Vals vs us) (h:sp (vs++dvs) H Q E):wpAny (model X.prog X.w) X.A (call (.ref f) us) (EP X pins σ Q) X.xe s:=by
 let b:Vals (vs++dvs) (us++ds):=r.append j;let i:(us++ds).length=ps.length:=by rw[<-b.length];show F.len _ _ _ _ h
 show wpAny_call (abx (F.run X.A X.stack s H ⟨us,[]⟩ (us++ds) (vs++dvs) Q E g I.RM (l s us I.g4 i) b h) λr c a=>?_);cases r with
 |error e=>show d pins σ H s e c I a
 |ok n=>
  cases n with
  |ret u=>show I.after a
  |next=>show False.elim a
  |brk=>show False.elim a
  |cont=>show False.elim a
def N9(F:cY X.prog X.w X.K X.mg X.base CX k f fd ps sp)(i:cK k X.A)(n:Gl X x)(j:X.mg x=some (.ref f))(l:PySem.W.keepIn X.K (.ref f)=true)(w:Binds X.K fd ps ds)(v:Vals dvs ds)(g:Passes CX X E)
 (y:PA X (e::es) t) (c:(x==("__debug__":Str))=false:=by decide) (u:starEach (e::es) X.env=(false,eval e X.env)::starEach es X.env:=by rfl) (b:(backTo pos (starEach es X.env)).any (·.1)=false:=by rfl):
 PE X (.Call (.Name x p) (e::es) [] pos) (MD sp dvs E t):=by
 intro a s σ H Q I h;show ZP (EU I n j ?_ c);show aa8 (h₀:=X.base) I.ok.mod.IM l (bQ (y pos a s σ H _ I h) λA B ⟨z,H1,d,r,q⟩=>⟨d.g4,?_⟩) u b;show Dd F i w v g d r q
def N7{pl:Sem Bool}(D:PE X o ta)(c:mv X.K C)(i:Meth X.K C m f)(F:cY X.prog X.w X.K X.mg X.base CX k f fd ps sp)(B:cK k X.A)(J:Binds X.K fd ps ds)(G:Vals dvs ds)(z:Passes CX X E)(K:PA X (e::es) t)
 (d:starEach (e::es) X.env=(false,eval e X.env)::starEach es X.env:=by rfl) (g:(backTo pos (starEach es X.env)).any (·.1)=false:=by rfl)
 (A:eval (.Call (.Attribute o m apos) (e::es) [] pos) X.env=(do
   let ov <-eval o X.env
   standAt apos.atName
   let(f,first) <-holding [ov] (getMethod ov m pl)
   callWith pos f first (backTo pos (starEach (e::es) X.env)) (backToKw pos (keywordEach [] X.env))):=by rfl):
 PE X (.Call (.Attribute o m apos) (e::es) [] pos) (Fx C m sp dvs E ta t):=by
 intro b s σ H Q I h;show abO (pl:=pl) (bQ (D b s σ H _ I h) λu v ⟨x,H1,n,w,a,O,fs,L,M,l,q⟩=>?_) A;subst L;obtain rfl:u=Value.ref a:=w;show wm n M c i l ?_;show aa8 (first:=[.ref a]) (h₀:=X.base) I.ok.mod.IM i.kp (bQ (K pos b v σ H1 _ n q) λus N ⟨vs,P,j,r,y⟩=>⟨j.g4,?_⟩) d g;show Dd (us:= .ref a::us) (vs:= .ref a::vs) F B J G z j (.cons rfl r) y
def Kp{pl:Sem Bool}(v:PE X o ta)(c:mv X.K C)(g:Meth X.K C m f)(F:cY X.prog X.w X.K X.mg X.base CX k f fd ps sp)(r:cK k X.A)(y:Binds X.K fd ps ds)(w:Vals dvs ds)(j:Passes CX X E)
 (n:eval (.Call (.Attribute o m apos) [] [] pos) X.env=(do
   let ov <-eval o X.env
   standAt apos.atName
   let(f,first) <-holding [ov] (getMethod ov m pl)
   callWith pos f first (backTo pos (starEach [] X.env)) (backToKw pos (keywordEach [] X.env))):=by rfl):
 PE X (.Call (.Attribute o m apos) [] [] pos) (Fx C m sp dvs E ta QN):=by
 intro b s σ H Q I h;show abO (pl:=pl) (bQ (v b s σ H _ I h) λu B ⟨x,H1,d,i,a,D,fs,z,A,l,q⟩=>?_) n;subst z;obtain rfl:u=Value.ref a:=i;show wm d A c g l ?_;show PySem.W.callWith_K0 (first:=[.ref a]) d.g4 g.kp (Dd (us:=[.ref a]) (vs:=[.ref a]) F r y w j d (.cons rfl .nil) q)
structure Mk(K:PySem.W.Frag)(C f:Addr):Prop where
 makes:PySem.W.makesIn K C=true
 init:PySem.W.findIn K (.ref C) "__init__"=some (some (.ref f))
 fn:PySem.W.isFn K (.ref f)=true
 kp:PySem.W.keepIn K (.ref C)=true
def Ke{pins:List (Addr×Obj)}{σ:St}{H:Hp}{s:Shared}{Q:VK}{us:List Value}{vs:List V}(M:Mk X.K C f)(F:cY X.prog X.w X.K X.mg X.base CX k f fd ps sp)(q:cK (k+1) X.A)(z:Binds X.K fd ps ds)(y:Vals dvs ds)
 (n:Passes CX X E) (I:Inv X pins σ H s) (r:Vals vs us)
 (h:∀x b,H x=none->H b=none->b≠x->sp (.ref x::(vs++dvs)) (upd (upd H b (.own x)) x (.ins C b [])) (λv D=>v= .aD/\Q (.ref x) D) E):
 wpAny (model X.prog X.w) X.A (call (.ref C) us) (EP X pins σ Q) X.xe s:=by
 let g:=h (s.heap.objs.size+1) s.heap.objs.size (I.aI.fresh (aaD _)) (I.aI.fresh (WX _)) (Xn (XC _));let c:=Inv.made (C:=C) I;let d:Vals (V.ref (s.heap.objs.size+1)::(vs++dvs)) (Value.ref (s.heap.objs.size+1)::(us++ds)):= .cons rfl (r.append y)
 let w:(Value.ref (s.heap.objs.size+1)::us++ds).length=ps.length:=by
  let e:=d.length;rw[F.len _ _ _ _ g]at e;show e.symm
 show wpAny_call (Ma (f:=f) I.g4 M.makes M.init (Y7.mp M.fn) (abx (F.run _ X.stack _ _ ⟨Value.ref (s.heap.objs.size+1)::us,[]⟩ (Value.ref (s.heap.objs.size+1)::(us++ds)) _ _ E (q.make C us [])
  (c.RM.make C us []) (z _ (Value.ref (s.heap.objs.size+1)::us) c.g4 w) d g) λr i a=>?_))
 cases r with
 |error e=>show n pins σ _ _ e i c a
 |ok A=>
  cases A with
  |ret u=>
   obtain⟨v,G,B,j,ev,l⟩:=c.after a;subst ev;show⟨j,⟨V.ref (s.heap.objs.size+1),G,B,rfl,l⟩⟩
  |next=>show False.elim a
  |brk=>show False.elim a
  |cont=>show False.elim a
def Ow(M:Mk X.K C f)(F:cY X.prog X.w X.K X.mg X.base CX k f fd ps sp)(i:cK (k+1) X.A)(l:Gl X x)(j:X.mg x=some (.ref C))(v:Binds X.K fd ps ds)(u:Vals dvs ds)(g:Passes CX X E)
 (w:PA X (e::es) t) (c:(x==("__debug__":Str))=false:=by decide) (n:starEach (e::es) X.env=(false,eval e X.env)::starEach es X.env:=by rfl) (b:(backTo pos (starEach es X.env)).any (·.1)=false:=by rfl):
 PE X (.Call (.Name x p) (e::es) [] pos) (M6 C sp dvs E t):=by
 intro a s σ H Q I h;show ZP (EU I l j ?_ c);show aa8 (h₀:=X.base) I.ok.mod.IM M.kp (bQ (w pos a s σ H _ I h) λz A ⟨y,H1,d,r,q⟩=>⟨d.g4,?_⟩) n b;show Ke M F i v u g d r q
end
structure lK(N P:List Str)(sc:Scope):Prop where
 kind:sc.kind= .function
 co:sc.isCoroutine=false
 gen:sc.isGenerator=false
 nd:N.Nodup
 pre:N.take P.length=P
 par:∀x∈P,sc.names.lookup x=some .local\/sc.names.lookup x=some .cell
 Qh:∀y∈sc.names,y.2≠ .free
def zk{kindOf:Str->Option NameKind}:∀ {binds:List (Str×Value)} {m:Str->Option Value},(∀v,(x,v)∉binds)->bindL kindOf binds m x=m x
 | [],_,_=>rfl
 |(n,v)::r,m,h=>by
  unfold bindL;rw[zk λw a=>h w (Xg _ a)];split
  . have:x≠n:=by rintro rfl;show h v Xk
    simp[this]
  . rfl
def zL{kindOf:Str->Option NameKind}:∀ {binds:List (Str×Value)} {m:Str->Option Value},(∀v,(x,v)∉binds)->bindC kindOf binds m x=m x
 | [],_,_=>rfl
 |(n,v)::r,m,h=>by
  unfold bindC;rw[zL λw a=>h w (Xg _ a)];split
  . rfl
  . have:x≠n:=by rintro rfl;show h v Xk
    simp[this]
def yX{kindOf:Str->Option NameKind}:∀ {P:List Str} {vs:List Value} {i:Nat} {m:Str->Option Value},P.Nodup->P[i]?=some x->vs[i]?=some v->kindOf x=some .local->
 bindL kindOf (P.zip vs) m x=some v
 | [],_,_,_,_,h,_,_=>by simp at h
 |_::_,[],_,_,_,_,h,_=>by simp at h
 |p::P,w::vs,0,m,c,b,a,d=>by
  simp at b a;subst b;subst a;change bindL kindOf ((p,w)::P.zip vs) m p=_;unfold bindL;rw[zk λv e=>(Zn.mp c).1 (aaU e).1,WY d];simp
 |p::P,w::vs,i+1,m,c,b,a,d=>by
  change bindL kindOf ((p,w)::P.zip vs) m x=_;unfold bindL;show yX (i:=i) (Zn.mp c).2 (by simpa using b) (by simpa using a) d
def zI{kindOf:Str->Option NameKind}:∀ {P:List Str} {vs:List Value} {i:Nat} {m:Str->Option Value},P.Nodup->P[i]?=some x->vs[i]?=some v->kindOf x≠some .local->
 bindC kindOf (P.zip vs) m x=some v
 | [],_,_,_,_,h,_,_=>by simp at h
 |_::_,[],_,_,_,_,h,_=>by simp at h
 |p::P,w::vs,0,m,c,b,a,d=>by
  simp at b a;subst b;subst a;change bindC kindOf ((p,w)::P.zip vs) m p=_;unfold bindC;rw[zL λv e=>(Zn.mp c).1 (aaU e).1,WW d];simp
 |p::P,w::vs,i+1,m,c,b,a,d=>by
  change bindC kindOf ((p,w)::P.zip vs) m x=_;unfold bindC;show zI (i:=i) (Zn.mp c).2 (by simpa using b) (by simpa using a) d
def start(N:List Str)(vs:List V):St:=vs.map some++List.replicate (N.length-vs.length) none
def o9(d:uM)(P:Program)(w:World)(K:PySem.W.Frag)(mg:Str->Option Value)(base:Heap)(N:List Str)(a:Str)(scope:Scope)(f:Addr)(c:Value)(A:Around)(outer:List Env)(s:Shared)(H:Hp)(E:XK):Cx where
 prog:=P
 w:=w
 K:=K
 mg:=mg
 base:=base
 A:=A.deeper (envOfC a scope s.heap.objs.size f c)
 N:=N
 s₀:=s
 H₀:=H
 env:=envOfC a scope s.heap.objs.size f c
 outer:=outer
 stack:=envOfC a scope s.heap.objs.size f c::outer
 ex:=[]
 calm:=true
 fn:=λ_=>true
 pn:=[]
 xe:=λe g=>wpAny (model P w) (A.deeper (envOfC a scope s.heap.objs.size f c)) (leaving (envOfC a scope s.heap.objs.size f c) e) (λ_ b=>d outer H s E e b) (λh b=>d outer H s E h b) g
def Bs{a:Scope}(h:a.names.lookup x=some .cell):∃c,(cellsFrom n a.names []).lookup x=some c:=by
 let q:=Zf a.names n [] (.inl h);show ZC.mp q
def Ig{O:uM}{P:Program}{w:World}{K:PySem.W.Frag}{I:Str->Option Value}{l:Heap}{N m:List Str}{d:Str}{scope:Scope}{f:Addr}{G:Value}{A:Around}{outer:List Env}{s J:Shared}{H:Hp}{E:XK}{us:List Value}{vs:List V}
 (S:lK N m scope) (T:A.handled=none) (j:vz P w K I l A outer s H) (W:vs.length=m.length) (r:Vals vs us)
 (x:InCallC s s.heap.objs.size (bindL (envOfC d scope s.heap.objs.size f G).kindOf (m.zip us) λ_=>none) (cellsFrom (s.heap.objs.size+1) scope.names []) (bindC (envOfC d scope s.heap.objs.size f G).kindOf (m.zip us) λ_=>none) J):
 Inv (o9 O P w K I l N d scope f G A outer s H E) [] (start N vs) H J:=by
 let R:m.length<=N.length:=by let:=Ye List.length S.pre;rw[Yu]at this;lia
 obtain⟨F,tk,rfl,M⟩:=x.done;let o:∀b:Addr,b∉(o9 O P w K I l N d scope f G A outer s H E).ex:=λb z=>absurd (show b∈([]:List Addr)from z) (by simp)
 show⟨⟨j.mod,S.kind,rfl,rfl,WX _,λy z c F g=>?_,λy t=>?_,λy c _ h=>?_,λ_=>T,Around.frames_deeper j.frames,.inr ⟨rfl,rfl⟩,λb z=>absurd z (o b),j.bs,j.td,λb _ _=>o b,λb z=>absurd z (o b),j.kU,j.xB,j.gt⟩,
  rfl,j.bare,Un.kept M,⟨_,x.toInCall.ns,λi y v F g X=>?_⟩,λy c h=>⟨_,x.cell y c h⟩,j.aI.fresh (WX _),λy c h=>?_,λp C=>absurd (show p∈([]:List (Addr×Obj))from C) (by simp),j.aI.kept M,?_⟩
 . show name_of_addr x.apart (XR F) (XR g)
 . have t:scope.names.lookup y=some .cell\/scope.names.lookup y=some .free:=t;rcases t with t|t
   . show Bs t
   . show absurd rfl (S.Qh _ (XR t))
 . show YQ (x.above y c (XR h))
 . have D:i<vs.length:=by
    unfold start at g;by_cases D:i<vs.length
    . show D
    . rw[Xr (by simpa using D)]at g;rw[abE]at g;split at g<;>cases g
   let U:vs[i]?=some v:=by
    unfold start at g;rw[W3 (by simpa using D),W_]at g;cases e:vs[i]? with
    |none=>rw[e]at g;cases g
    |some a=>rw[e]at g;cases g;rfl
   obtain⟨u,L,Q⟩:=r.get U
   let C:m[i]?=some y:=by
    rw[<-S.pre,aat (by lia)];show F
   let B:m.Nodup:=by rw[<-S.pre];show S.nd.sublist (List.take_sublist _ _)
   show⟨u,Q,?_⟩;rcases S.par y (Xu C)with k|k
   . show .inl ⟨k,yX B C L k⟩
   . obtain⟨c,e⟩:=Bs (n:=s.heap.objs.size+1) k;show .inr ⟨.inl k,c,e,?_⟩;let q:=x.cell y c e;rw[zI B C L (by change scope.names.lookup y≠_;rw[k];decide)]at q;show q
 . show j.aI.fresh (YQ (x.above y c (XR h)))
 . unfold start;change _=N.length;rw[X8,W2,List.length_replicate];lia
def Mo{K:PySem.W.Frag}{F:Str->Option Value}{k:Nat}{g:List Stmt}{Y kV B X c ct oc:Value}
  {N D:List Str}  (lk:K.lookup f=some ⟨oc,od,.func (PySem.W.fnOf name a params g scope Y kV B X an c ct),O⟩) (U:PySem.W.codeIn K c a=true) (S:lK N D scope)
 (len:∀vs H Q E,sp vs H Q E->vs.length=D.length)
 (j:∀(A:Around) (outer:List Env) (s:Shared) (H:Hp) (vs:List V) (Q:VK) (E:XK),cK k (A.deeper (envOfC a scope s.heap.objs.size f c))->sp vs H Q E->
   ∃t,g8 (o9 G P w K F d N a scope f c A outer s H E) g t/\t {nx:=λ_ h=>Q .aD h,rt:=Q} (start N vs) H):
 cY P w K F d G (k+1) f (PySem.W.fnOf name a params g scope Y kV B X an c ct) D sp:=by
 show⟨len,λA outer s H Z us vs Q E T z hb r m=>?_⟩;let hl:=len _ _ _ _ m;let KX:K.In s.heap:=z.mod.IM.keeps λb o e=>(z.bs b o e).1;let R:s.heap.NoLimit:=z.mod.nolimit.keeps λb o e=>(z.bs b o e).1
 let i:∀y∈D.zip us,scope.names.lookup y.1=some .local\/(scope.names.lookup y.1=some .cell/\((cellsFrom (s.heap.objs.size+1) scope.names []).lookup y.1).isSome=true):=λ⟨n,v⟩ hy=>by
  rcases S.par n (aaU hy).1 with q|q
  . show .inl q
  . show .inr ⟨q,Zf _ _ _ (.inl q)⟩
 show codeAny_call_function T.depth (KX _ _ lk) rfl S.co S.gen rfl (PySem.W.codeRec_of KX U) (hb _ _ _ _ ?_);show wpAny_newFunctionEnv_cells S.kind i λah he W x=>?_;subst he;show⟨R.keeps x.toInCall.keep,codeAny_func ?_⟩;obtain⟨t,ht,hq⟩:=j A outer s H vs Q E (T.deeper _) m;let I:Inv (o9 G P w K F d N a scope f c A outer s H E) [] (start N vs) H W:=Ig S T.hd z hl r x;show YU (ht [] W (start N vs) H _ I hq) (λfl L l=>?_) λe L l=>l
 let p:∀ {C:St} {h:Hp} {v:V} {u:Value},Inv (o9 G P w K F d N a scope f c A outer s H E) [] C h L->RelV v u->Q v h->CE outer P w H s Q u L:=
  λ{C h v u} J M q=>⟨v,h,J.os,J.bare,J.base,J.aI,M,q⟩
 cases fl with
 |ret u=>
  obtain⟨v,C,h,J,M,q⟩:=l;show p J M q
 |next=>
  obtain⟨C,h,J,q⟩:=l;show p (v:=V.aD) (u:=Value.none) J rfl q
 |brk=>
  obtain⟨_,_,_,q⟩:=l;show False.elim q
 |cont=>
  obtain⟨_,_,_,q⟩:=l;show False.elim q
section
variable {X:Cx}{x:Str}{p pos:Pos}{e:Expr}{es:List Expr}{t:TA}{id T:String}{r:List V->Hp->VK->Prop}
def RQ(r:List V->Hp->VK->Prop)(t:TA):TE:=λσ H Q=>t σ H λa H1=>r a H1 Q
def Mc(q:bH X (.builtin id) r)(n:Gl X x)(m:X.mg x=none)(k:bootBuiltins x=some (.builtin id))(u:PA X (e::es) t)(l:x≠"__name__":=by decide)(c:(x==("__debug__":Str))=false:=by decide)
 (o:starEach (e::es) X.env=(false,eval e X.env)::starEach es X.env:=by rfl) (b:(backTo pos (starEach es X.env)).any (·.1)=false:=by rfl):PE X (.Call (.Name x p) (e::es) [] pos) (RQ r t):=by
 intro a s σ H Q I h;show ZP (jL I n m k ?_ l c);show PyProof.Rows.callWith_builtin1 (bQ (u pos a s σ H _ I h) λf g ⟨d,H1,v,i,j⟩=>q a g σ H1 d f Q v i j) o b
def Jp(q:bH X (.type T) r)(n:Gl X x)(m:X.mg x=none)(k:bootBuiltins x=some (.type T))(u:PA X (e::es) t)(l:x≠"__name__":=by decide)(c:(x==("__debug__":Str))=false:=by decide)
 (o:starEach (e::es) X.env=(false,eval e X.env)::starEach es X.env:=by rfl) (b:(backTo pos (starEach es X.env)).any (·.1)=false:=by rfl):PE X (.Call (.Name x p) (e::es) [] pos) (RQ r t):=by
 intro a s σ H Q I h;show ZP (jL I n m k ?_ l c);show Yv (bQ (u pos a s σ H _ I h) λf g ⟨d,H1,v,i,j⟩=>q a g σ H1 d f Q v i j) o b
end
end L2
namespace HT
open PySem PyProof.Rows
section
open PySem.SeqAt
open PySem.AutoSeq1 (wpAny_loadPart')
open PySem.MeetsSeq PySem.MeetsSeq2 PySem.MeetsSeq3
end
section
variable {prog:Program}{w:World}{A:Around}{E:Value->Shared->Prop}{s:Shared}
def EE{vs a:List Value}(v:IsTup s.heap t vs.toArray)(x:IsTup s.heap b a.toArray)(o:vs≠ [])
 (z:a=[]->Q (.ref t) s) (y:a≠ []->Q (.ref s.heap.objs.size) {s with heap:=s.heap.push {cls:= .type "tuple",data:= .seq (vs++a).toArray}})
 (k:vs.length+a.length<=sizeLine):wpAny (model prog w) A (binaryOp .Add (.ref t) (.ref b)) Q E s:=by
 obtain⟨⟨cls,r,data,l⟩,j,q,n,p⟩:=id v;obtain⟨⟨u,h,data2,d⟩,c,g,m,f⟩:=id x;simp only at q p g f;subst q p g f;let e:vs.toArray++a.toArray=(vs++a).toArray:=by simp
 by_cases i:a=[]
 . show aby ⟨_,j,rfl⟩ ⟨_,c,rfl⟩ aaI abc ZV ZK (ZD _ _)
    (tuple_addW1 t b vs.toArray a.toArray n m r h l d (by simpa using o) (by simp[i])) ⟨j,c,z i⟩
 . show aby ⟨_,j,rfl⟩ ⟨_,c,rfl⟩ aaI abc ZV ZK (ZD _ _)
    (tuple_addW2 t b vs.toArray a.toArray n m r h l d (by simpa using o) (by simpa using i) (by rw[W6,W6];show k)) ⟨j,c,?_⟩
   rw[e];show y i
def bY(n d:Nat):Option Int->Nat
 |none=>d
 |some v=>if v<0 then(v+(n:Int)).toNat else min v.toNat n
def qp(n d:Nat):bY n d none=d:=rfl
def ye(n d k:Nat):bY n d (some (k:Int))=min k n:=by
 change(if(k:Int)<0 then((k:Int)+(n:Int)).toNat else min (k:Int).toNat n)=min k n;rw[WW (by lia),Xv]
def Q2(n d:Nat)(b:d<=n)(o:Option Int):bY n d o<=n:=by
 cases o with
 |none=>show b
 |some v=>
  change(if v<0 then(v+(n:Int)).toNat else min v.toNat n)<=n;by_cases a:v<0
  . rw[WY a];lia
  . rw[WW a];show Nat.min_le_right _ _
def D5(v:Int)(n d:Nat):(if v<0 then max (v+(n:Int)) 0 else min v (n:Int))=((bY n d (some v):Nat):Int):=by
 change(if v<0 then max (v+(n:Int)) 0 else min v (n:Int))=(((if v<0 then(v+(n:Int)).toNat else min v.toNat n):Nat):Int)
 by_cases a:v<0
 . simp![WY a];lia
 . simp![WW a];lia
def Fv(lo hi:Option Int)(n:Nat):Builtin.Slice.sliceAdjust lo hi 1 (n:Int)=(((bY n 0 lo:Nat):Int),((bY n n hi:Nat):Int)):=by
 let a:¬((1:Int)<0):=by lia
 unfold Builtin.Slice.sliceAdjust;simp![a,Zr];show Prod.ext ?_ ?_
 . cases lo with
   |none=>rfl
   |some v=>show D5 v n 0
 . cases hi with
   |none=>rfl
   |some v=>show D5 v n n
def F_(i j:Nat):Builtin.Slice.slicePlaces (i:Int) (j:Int) 1=j-i:=by
 unfold Builtin.Slice.slicePlaces;let a:(1:Int)>0:=by lia
 simp![a,Zo,Int.ediv_one];split<;>lia
def xr(p:IsPart v o)(h:Q o s):wpAny (model prog w) A (Builtin.Slice.slicePartIndex v) Q E s:=by
 cases p with
 |none=>show slicePart_none h
 |int i t=>show slicePart_int h
def oj{e:Addr}{d c:Value}{lo hi:Option Int}{n:Nat}{Q:Int×Int×Nat->Shared->Prop}(g:s.heap.IsSliceOf e d c .none)(pl:IsPart d lo)(f:IsPart c hi)
 (h:Q (((bY n 0 lo:Nat):Int),1,bY n n hi-bY n 0 lo) s):wpAny (model prog w) A (Builtin.Slice.sliceApplied (.ref e) (pure (n:Int))) Q E s:=by
 obtain⟨j,a,i,b⟩:=id g;unfold Builtin.Slice.sliceApplied Builtin.Slice.sliceFields;show WT (WT (XS a b (x:=d) rfl (WT (XS a b (x:=c) rfl (WT (XS a b (x:= .none) rfl (W5 ?_)))))));show WT (slicePart_none ?_);change wpAny _ _ (if((1:Int)==0)=true then _ else _) _ _ s;rw[WW (by decide)];show WT (xr pl (WT (xr f (WT (W5 ?_)))));change wpAny _ _ (match Builtin.Slice.sliceAdjust lo hi 1 (n:Int)with|(lo,hi)=>pure (lo,(1:Int),Builtin.Slice.slicePlaces lo hi 1)) _ _ s;rw[Fv lo hi n];change wpAny _ _ (pure (((bY n 0 lo:Nat):Int),(1:Int),Builtin.Slice.slicePlaces ((bY n 0 lo:Nat):Int) ((bY n n hi:Nat):Int) 1)) _ _ s;rw[F_];show W5 h
def Le(xs:Array Value)(i k:Nat):((List.range k).filterMap λ(m:Nat)=>xs[((i:Int)+(m:Int)*1).toNat]?).toArray=((xs.toList.drop i).take k).toArray:=by
 let e:(λ(m:Nat)=>xs[((i:Int)+(m:Int)*1).toNat]?)=λm=>xs[i+m]?:=by
  funext m;let:((i:Int)+(m:Int)*1).toNat=i+m:=by lia
  rw[this]
 rw[e];let:=pick_run xs i k;rw[List.filterMap_map]at this;let a:((λx=>xs[x]?)∘λx=>i+x)=λm=>xs[i+m]?:=rfl;rw[a]at this;rw[this]
def uF{t c:Addr}{items:Array Value}{j i:Value}{lo hi:Option Int}{Q:Value->Shared->Prop}(b:IsTup s.heap t items)(k:s.heap.IsSliceOf c j i .none)(pl:IsPart j lo)(l:IsPart i hi)
 (o:¬(bY items.size 0 lo=0/\bY items.size items.size hi=items.size))
 (h:Q (.ref s.heap.objs.size) {s with heap:=s.heap.push {cls:= .type "tuple",data:= .seq ((items.toList.drop (bY items.size 0 lo)).take (bY items.size items.size hi-bY items.size 0 lo)).toArray}})
 (p:items.size<=sizeLine):wpAny (model prog w) A (getItem (.ref t) (.ref c)) Q E s:=by
 let a:sizeOk (.seq ((items.toList.drop (bY items.size 0 lo)).take (bY items.size items.size hi-bY items.size 0 lo)).toArray):=by
  change((items.toList.drop (bY items.size 0 lo)).take (bY items.size items.size hi-bY items.size 0 lo)).toArray.size<=sizeLine;rw[W6,Yu,aac,ZI];lia
 let x:bY items.size items.size hi<=items.size:=Q2 _ _ (WX _) hi;obtain⟨n,d,f,r⟩:=id k;let g:s.TypeIs (.ref c) "slice":=⟨n,d,f⟩
 unfold getItem;try with_reducible show Zq ?_
 first|show WT (W5 ?_)|skip
 show WT (wpAny_sequenceKey b.typeIs (by decide) ?_)
 show WT (Ym (name:=Str.ofString "__getitem__") b.typeIs Yx
  (YR Yx b.typeIs entry_tuple_getitem ?_ (args_tuple_getitem _ _)))
 change wpAny _ _ (Builtin.Tuple.tupleItemsOf (.ref t) >>= _) _ _ s;show WT (tupleItemsOf_ b ?_);show WT (wpAny_typeOf g ?_);rw[WY (by decide)];show WT (oj k pl l ?_)
 let e:¬((((bY items.size 0 lo:Nat):Int)==0&&(1:Int)==1&&(bY items.size items.size hi-bY items.size 0 lo)==items.size)=true):=by
  intro q;rw[Yc,Yc]at q;let v:((bY items.size 0 lo:Nat):Int)=0:=eq_of_beq q.1.1;let u:bY items.size items.size hi-bY items.size 0 lo=items.size:=eq_of_beq q.2;show o ⟨by lia,by lia⟩
 change wpAny _ _ (if(((bY items.size 0 lo:Nat):Int)==0&&(1:Int)==1&&(bY items.size items.size hi-bY items.size 0 lo)==items.size)=true then _ else _) _ _ s;rw[WW e,Le]
 first
  |show WT (m:=Builtin.Tuple.tupleExact _) (YW (W5 ⟨_,rfl,W5 h⟩) a)
  |show WT (m:=Builtin.Tuple.tupleExact _) (YW (WT (W5 (W5 ⟨_,rfl,W5 h⟩))) a)
  |show WT (WT (m:=Builtin.Tuple.tupleExact _) (YW (W5 (W5 ⟨_,rfl,W5 h⟩)) a))
  |show WT (WT (m:=Builtin.Tuple.tupleExact _) (YW (W5 ⟨_,rfl,W5 h⟩) a))
end
end HT
namespace L2
open PySem PySem.Spec PyProof.Rows
abbrev TO:=St->Hp->(Option Int->Hp->Prop)->Prop
def PO(X:Cx)(e:Option Expr)(t:TO):Prop:=
 ∀(a:List (Addr×Obj)) (s:Shared) (σ:St) (H:Hp) (Q:Option Int->Hp->Prop),Inv X a σ H s->t σ H Q->
  wpAny (model X.prog X.w) X.A (evalPart e X.env) (λu c=>∃o b,Inv X a σ b c/\IsPart u o/\Q o b) X.xe s
def Pe:TO:=λ_ H Q=>Q none H
def Tq(t:TE):TO:=λσ H Q=>t σ H λx H1=>∃i,x= .int i/\Q (some i) H1
section
variable {X:Cx}{e:Expr}{te:TE}{lo hi:Option Expr}{tl th:TO}{pos p2:Pos}
def Om:PO X none Pe:=by
 intro a s σ H Q I h;rw[evalPart_none];show W5 ⟨none,H,I,.none,h⟩
def OP(h:PE X e te):PO X (some e) (Tq te):=by
 intro a s σ H Q I d;rw[evalPart_some];show bQ (h a s σ H _ I d) λu g ⟨x,H1,f,b,c⟩=>?_;obtain⟨i,rfl,q⟩:=c;obtain⟨t,rfl⟩:=b;show⟨some i,H1,f,.int i t,q⟩
def Ia(X:Cx)(r:V->Option Int->Option Int->Hp->VK->Prop):Prop:=
 ∀(a:List (Addr×Obj)) (s:Shared) (σ:St) (H:Hp) (x:V) (v vl vu:Value) (lo hi:Option Int) (sl:Addr) (Q:VK),Inv X a σ H s->RelV x v->s.heap.IsSliceOf sl vl vu .none->IsPart vl lo->IsPart vu hi->r x lo hi H Q->
  ∃T b,typeLookup (.type T) "__getitem__"=pure (some (.builtin b))/\s.TypeIs v T/\wpAny (model X.prog X.w) X.A (getItem v (.ref sl)) (EP X a σ Q) X.xe s
def WI(r:V->Option Int->Option Int->Hp->VK->Prop)(te:TE)(tl th:TO):TE:=λσ H Q=>te σ H λx H1=>tl σ H1 λl b=>th σ b λu a=>r x l u a Q
def K6(y:Ia X r)(B:PE X e te)(z:PO X lo tl)(t:PO X hi th):PE X (.Subscript e (.Slice lo hi none p2) pos) (WI r te tl th):=by
 intro a s σ H Q I h;show Subscript_ (bQ (B a s σ H _ I h) λv j ⟨x,H1,G,k,o⟩=>?_);show wpAny_Slice (bQ (z a j σ H1 _ G o) λf i ⟨l,J,F,pl,n⟩=>bQ (t a i σ J _ F n) λd c ⟨u,g,E,p,m⟩=>?_);rw[evalPart_none];show W5 ?_;let D:Inv X a σ g {c with heap:=c.heap.push {cls:= .type "slice",data:= .fields #[f,d,.none]}}:=E.kept (t':=c.toks) λb K q=>WU _ q;obtain⟨T,L,C,w,A⟩:=y a {c with heap:=c.heap.push {cls:= .type "slice",data:= .fields #[f,d,.none]}} σ g x v f d l u c.heap.objs.size Q D k (Heap.IsSliceOf.new ..) pl p m;change wpAny (model X.prog X.w) X.A (subscriptTail e (.Slice lo hi none p2) v (.ref c.heap.objs.size)) (EP X a σ Q) X.xe {c with heap:=c.heap.push {cls:= .type "slice",data:= .fields #[f,d,.none]}};show tail_any (ops:=[.ref c.heap.objs.size,v]) w C A (by with_unfolding_all rfl)
def ql(xs:List V)(lo hi:Option Int):List V:=(xs.drop (HT.bY xs.length 0 lo)).take (HT.bY xs.length xs.length hi-HT.bY xs.length 0 lo)
def uP(xs:List V)(lo hi:Option Int):(ql xs lo hi).length<=xs.length:=by
 unfold ql;rw[Yu,aac];lia
def V8(K:PySem.W.Frag):V->Option Int->Option Int->Hp->VK->Prop:=λx lo hi H Q=>∃a b,x= .ref a/\iC K H a b/\
 ¬(HT.bY b.length 0 lo=0/\HT.bY b.length b.length hi=b.length)/\∀p,H p=none->Q (.ref p) (upd H p (.tup (ql b lo hi)))
def QQ:Ia X (V8 X.K):=by
 intro f s σ H x v u t lo hi w Q I j n pl k h;obtain⟨a,d,rfl,l,m,q⟩:=h;cases j;obtain⟨p,r,i,g⟩:=I.tuple l;let c:p.toArray.size=d.length:=by rw[W6];show r.length.symm
 show⟨"tuple",_,Yx.lookup,i.typeIs,?_⟩;show HT.uF i n pl k (by rw[c];show m) ?_ (by rw[c];show g);rw[c];show⟨.ref s.heap.objs.size,_,I.laid (t':=s.toks) (o:= .tup (ql d lo hi)) (λb y q=>WU _ q) (WX _) ?_,rfl,q _ (I.aI.fresh (WX _))⟩;show⟨WZ (uP d lo hi) g,_,(r.drop (HT.bY d.length 0 lo)).take (HT.bY d.length d.length hi-HT.bY d.length 0 lo),IsTup.new _ _⟩
def Tr(K:PySem.W.Frag):R2:=λx y H Q=>∃a b d c,x= .ref a/\y= .ref b/\iC K H a d/\iC K H b c/\d≠ []/\d.length+c.length<=sizeLine/\
 (c=[]->Q (.ref a) H)/\(c≠ []->∀p,H p=none->Q (.ref p) (upd H p (.tup (d++c))))
def Vals.ur(r:Vals xs us):us=[]↔xs=[]:=by
 cases r with
 |nil=>simp
 |cons _ _=>simp
def Od:bW X (binaryOp .Add) (Tr X.K):=by
 intro f s σ H x y v u Q I m l h;obtain⟨a,b,k,j,rfl,rfl,B,A,t,i,p,n⟩:=h;cases m;cases l;obtain⟨D,d,r,_⟩:=I.tuple B;obtain⟨g,c,p2,_⟩:=I.tuple A;show HT.EE r p2 (λz=>t (d.ur.mp z)) (λz=>⟨.ref a,H,I,rfl,p (c.ur.mp z)⟩) (λz=>?_) (by rw[<-d.length,<-c.length];show i);show⟨.ref s.heap.objs.size,_,I.laid (t':=s.toks) (o:= .tup (k++j)) (λb C q=>WU _ q) (WX _) ?_,rfl,n (λw=>z (c.ur.mpr w)) _ (I.aI.fresh (WX _))⟩;show⟨by rw[X8];show i,_,d.append c,IsTup.new _ _⟩
end
def km(n:Nat)(i:Int):Option Nat:=if 0<=i then(if i<n then some i.toNat else none)else if-(n:Int)<=i then some (i+n).toNat else none
def dw{α:Type}(xs:List α)(i:Int):Option α:=(km xs.length i).bind λj=>xs[j]?
def x8(h:km n i=some j):seqIndex? i n=some j/\j<n/\ -(n:Int)<=i/\i<n:=by
 unfold km at h;by_cases b:0<=i
 . rw[WY b]at h;by_cases a:i<n
   . rw[WY a]at h;let e:i.toNat=j:=XZ h;show⟨by rw[abL b a,e],by lia,by lia,a⟩
   . rw[WW a]at h;cases h
 . rw[WW b]at h;by_cases a: -(n:Int)<=i
   . rw[WY a]at h;let e:(i+n).toNat=j:=XZ h;show⟨by rw[seqIndex_neg (by lia) a,e],by lia,a,by lia⟩
   . rw[WW a]at h;cases h
def xV{α:Type}{xs:List α}{v:α}(h:dw xs i=some v):∃j,seqIndex? i xs.length=some j/\xs[j]?=some v/\j<xs.length/\ -(xs.length:Int)<=i/\i<xs.length:=by
 unfold dw at h;cases e:km xs.length i with
 |none=>rw[e]at h;cases h
 |some j=>
  rw[e]at h;obtain⟨d,c,b,a⟩:=x8 e;show⟨j,d,h,c,b,a⟩
def eP{α:Type}{xs:List α}{j:Nat}{v:α}(h:xs[j]?=some v):dw xs (j:Int)=some v:=by
 let a:j<xs.length:=(WV.mp h).1
 let e:km xs.length (j:Int)=some j:=by
  unfold km;rw[WY (by lia),WY (by lia)];simp
 unfold dw;rw[e];show h
def Kk{α:Type}(xs:List α)(v:α):dw (xs++[v]) (-1)=some v:=by
 let a:(xs++[v]).length=xs.length+1:=by simp
 let e:km (xs++[v]).length (-1)=some xs.length:=by
  unfold km;rw[a,WW (by decide),WY (by lia)];congr 1;lia
 unfold dw;rw[e];change(xs++[v])[xs.length]?=some v;simp
def uc(b:Expr):Prop:=∀o i,subscripted b false o i=operate [o,i] (getItem o i)
def Mj(X:Cx)(r:R2):Prop:=
 ∀(value slice:Expr) (pins:List (Addr×Obj)) (s:Shared) (σ:St) (H:Hp) (x y:V) (v u:Value) (Q:VK),Inv X pins σ H s->RelV x v->RelV y u->r x y H Q->
  subscripted slice false v u=operate [v,u] (getItem v u)->wpAny (model X.prog X.w) X.A (subscriptTail value slice v u) (EP X pins σ Q) X.xe s
def Vy(X:Cx)(id:String)(r:V->List V->Hp->VK->Prop):Prop:=
 ∀(a:List (Addr×Obj)) (s:Shared) (σ:St) (H:Hp) (x:V) (xs:List V) (v:Value) (us:List Value) (Q:VK),Inv X a σ H s->RelV x v->Vals xs us->r x xs H Q->
  wpAny (model X.prog X.w) X.A (call (.builtin id) (v::us)) (EP X a σ Q) X.xe s
section
variable {X:Cx}{a b:Expr}{ta tb:TE}{pos:Pos}
def TJ(i:Mj X r)(k:PE X a ta)(j:PE X b tb)(g:uc b):PE X (.Subscript a b pos) (Hl r ta tb):=by
 intro c s σ H Q I h;show Subscript_ (L_ k j I h λv u d x y m l f e q=>i a b c d σ m x y v u Q l f e q (g _ _))
def V5(K:PySem.W.Frag):R2:=λx y H Q=>∃p c i v,x= .ref p/\y= .int i/\mi K H p c/\dw c i=some v/\Q v H
def VA(K:PySem.W.Frag):R2:=λx y H Q=>∃p c i v,x= .ref p/\y= .int i/\iC K H p c/\dw c i=some v/\Q v H
def Ek:Mj X (V5 X.K):=by
 intro value slice c s σ H x y v u Q I A o h k;obtain⟨p,K,i,z,rfl,rfl,B,D,q⟩:=h;cases A;obtain⟨t,rfl⟩:=o;obtain⟨J,r,pl,L⟩:=I.list B;obtain⟨j,e,G,N,F,E⟩:=xV D;obtain⟨w,m,f⟩:=r.get G;let C:=r.length;let M:=pU;let d:EP X c σ Q w s:=⟨z,H,I,f,q⟩
 by_cases l:0<=i
 . have g:i.toNat=j:=by
    rw[abL l E]at e;show XZ e
   show item_listR pl.isList l (by lia) (by rw[g];simpa using m) d k
 . have g:(i+(J.toArray.size:Int)).toNat=j:=by
    rw[seqIndex_neg (by lia) F]at e;rw[W6,<-C];show XZ e
   show subscriptTail_builtinR (x:=w) pl.isList.typeIs slot_list_getitem.lookup
    (wpAny_getItem_list_neg (Q:=λr n=>r=w/\EP X c σ Q r n) pl.isList (by lia) (by rw[W6]<;>lia) (by lia) (by rw[g];simpa using m) ⟨rfl,d⟩) k
def Rq:Mj X (VA X.K):=by
 intro value slice c s σ H x y v u Q I k g h l;obtain⟨p,D,i,z,rfl,rfl,m,o,q⟩:=h;cases k;obtain⟨t,rfl⟩:=g;obtain⟨L,r,pl,E⟩:=I.tuple m;obtain⟨j,B,A,K,J,G⟩:=xV o;obtain⟨w,C,d⟩:=r.get A;let n:=r.length;let F:=pU;let e:EP X c σ Q w s:=⟨z,H,I,d,q⟩
 show subscriptTail_builtinR (x:=w) pl.typeIs slot_tuple_getitem.lookup
  (getItem_tuple (j:=j) (Q:=λr f=>r=w/\EP X c σ Q r f) pl (by lia) (by lia) (by rw[W6,<-n];show B) (by simpa using C) ⟨rfl,e⟩) l
def Fj(ao:List Value)(n j:Nat)(u:Value):Obj.mapSeq (·.setIfInBounds j u) {cls:= .type "list",data:= .seq ao.toArray n}= {cls:= .type "list",data:= .seq (ao.set j u).toArray n}:=by
 simp[Obj.mapSeq]
def Inv.lst{pins:List (Addr×Obj)}{σ:St}{H:Hp}{s:Shared}{p:Addr}{xs:List V}(I:Inv X pins σ H s)(h:H p=some (.lst xs)):
 ∃(ao:List Value) (n:Nat),Vals xs ao/\s.heap.get? p=some {cls:= .type "list",data:= .seq ao.toArray n}/\xs.length<=sizeLine:=by
 obtain⟨z,ao,n,r,e⟩:=I.aI p _ h;show⟨ao,n,r,e,z⟩
def Inv.Sk{pins:List (Addr×Obj)}{σ:St}{H:Hp}{s:Shared}{p:Addr}{xs ys:List V}{ao its':List Value}{n c:Nat}{f:Obj->Obj}(I:Inv X pins σ H s)(h:H p=some (.lst xs))
 (i:s.heap.get? p=some {cls:= .type "list",data:= .seq ao.toArray n}) (d:f {cls:= .type "list",data:= .seq ao.toArray n}= {cls:= .type "list",data:= .seq its'.toArray c}) (r:Vals ys its') (g:ys.length<=sizeLine) (t:Nat):
 Inv X pins σ (upd H p (.lst ys)) {s with heap:=s.heap.update p f,toks:=t}:=by
 let e:(s.heap.update p f).get? p=some {cls:= .type "list",data:= .seq its'.toArray c}:=by
  rw[Zp f i (by rw[d]<;>rfl),d]
 show I.write (x:=p) (e:=p) (by rw[h];trivial) (.inl rfl) (λb u j q=>(ZW _ _ (W4 j)).trans q) ⟨_,e⟩ ?_;show⟨g,its',c,r,e⟩
def Ai:V->V->V->Hp->(Hp->Prop)->Prop:=λo i v H Q=>∃p c k j,o= .ref p/\i= .int k/\H p=some (.lst c)/\km c.length k=some j/\Q (upd H p (.lst (c.set j v)))
def set_list:Lw X Ai:=by
 intro c s σ H o i v G J u Q I C D B h;obtain⟨p,A,k,j,rfl,rfl,l,F,q⟩:=h;cases C;obtain⟨t,rfl⟩:=D;obtain⟨y,n,r,e,E⟩:=I.lst l;obtain⟨d,L,w,m⟩:=x8 F;let f:=r.length;let K:=pU
 let z:Inv X c σ (upd H p (.lst (A.set j v))) {s with heap:=s.heap.update p (Obj.mapSeq (·.setIfInBounds j u))}:=
  I.Sk l e (Fj y n j u) (r.set B j) (by rw[Xf];show E) s.toks
 by_cases x:0<=k
 . have g:k.toNat=j:=by
    rw[abL x m]at d;show XZ d
   show PySem.W.ki_setAt e x (by lia) (by rw[W6,<-f];show m) (by rw[g];show⟨_,z,q⟩)
 . have g:(k+(y.toArray.size:Int)).toNat=j:=by
    rw[seqIndex_neg (by lia) w]at d;rw[W6,<-f];show XZ d
   show PySem.W.ki_setBack e (by lia) (by rw[W6,<-f];show w) (by lia) (by rw[g];show⟨_,z,q⟩)
def Ce(lo hi:Option Int)(n:Nat):(sliceBounds lo hi none n).1=((HT.bY n 0 lo:Nat):Int)/\(sliceBounds lo hi none n).2.1=((HT.bY n n hi:Nat):Int)/\(sliceBounds lo hi none n).2.2=1:=by
 show⟨?_,?_,rfl⟩
 . cases lo with
   |none=>simp[sliceBounds,HT.bY]
   |some i=>
    simp![sliceBounds,HT.bY,Option.getD_none,show(1:Int)>0 by decide,Zo];by_cases h:i<0
    . simp![h,Zo]<;>lia
    . simp![h,Zr]<;>lia
 . cases hi with
   |none=>simp[sliceBounds,HT.bY]
   |some i=>
    simp![sliceBounds,HT.bY,Option.getD_none,show(1:Int)>0 by decide,Zo];by_cases h:i<0
    . simp![h,Zo]<;>lia
    . simp![h,Zr]<;>lia
def zS(ao:List Value)(lo hi:Option Int):slicePick ao.toArray lo hi none=((ao.drop (HT.bY ao.length 0 lo)).take (HT.bY ao.length ao.length hi-HT.bY ao.length 0 lo)).toArray:=by
 obtain⟨e,d,c⟩:=Ce lo hi ao.toArray.size;unfold slicePick;rw[e,d,c];simp![sliceRange_one,pick_run,W6]<;>rfl
def VW(K:PySem.W.Frag):V->Option Int->Option Int->Hp->VK->Prop:=λx d e H Q=>∃a c,x= .ref a/\mi K H a c/\∀p,H p=none->Q (.ref p) (upd H p (.lst (ql c d e)))
def D4:Ia X (VW X.K):=by
 intro g s σ H x v t p e f u Q I j n pl k h;obtain⟨a,c,rfl,m,q⟩:=h;cases j;obtain⟨y,r,i,l⟩:=I.list m;let d:=r.length;show⟨"list",_,slot_list_getitem.lookup,i.isList.typeIs,?_⟩;show wpAny_getItem_list_slice i.isList n pl k .none (by simp) ?_ (by rw[W6]<;>lia);rw[zS,<-d];show⟨.ref s.heap.objs.size,_,I.laid (t':=s.toks) (o:= .lst (ql c e f)) (λb w q=>WU _ q) (WX _) ?_,rfl,q _ (I.aI.fresh (WX _))⟩;show⟨WZ (uP c e f) l,_,0,(r.drop (HT.bY c.length 0 e)).take (HT.bY c.length c.length f-HT.bY c.length 0 e),Xe _ rfl⟩
def BM:bH X (.builtin "len") (λxs H Q=>∃p ys,xs=[.ref p]/\(mi X.K H p ys\/iC X.K H p ys)/\Q (.int ys.length) H):=by
 intro f s σ H xs k Q I r h;obtain⟨p,ys,rfl,d,q⟩:=h;obtain⟨u,rfl,g⟩:=vals1 r;cases g;let l:=pU;rcases d with d|d
 . obtain⟨j,e,pl,i⟩:=I.list d;let c:=e.length;show Calls.call_len_list pl.isList (by simp![W6]<;>lia) ⟨.int ys.length,H,I.tok _,⟨s.toks+1,by rw[W6,c]⟩,q⟩
 . obtain⟨j,e,pl,i⟩:=I.tuple d;let c:=e.length;show len_tuple pl (by simp![W6]<;>lia) ⟨.int ys.length,H,I.tok _,⟨s.toks+1,by rw[W6,c]⟩,q⟩
def BO:bH X (.builtin "len") (λxs H Q=>∃z,xs=[.str z]/\z.length<=sizeLine/\Q (.int z.length) H):=by
 intro c s σ H xs d Q I r h;obtain⟨z,rfl,e,q⟩:=h;obtain⟨u,rfl,t,rfl⟩:=vals1 r;let f:=pU;show len_str (by lia) ⟨.int z.length,H,I.tok _,⟨_,rfl⟩,q⟩
def tG:bH X (.type "list") (λxs H Q=>∃p ys,xs=[.ref p]/\(mi X.K H p ys\/iC X.K H p ys)/\∀l,H l=none->Q (.ref l) (upd H l (.lst ys))):=by
 intro i s σ H xs B Q I r h;obtain⟨p,ys,rfl,m,q⟩:=h;obtain⟨u,rfl,A⟩:=vals1 r;cases A
 let v:∀(d:List Value),Vals ys d->ys.length<=sizeLine->∀(c:Heap) (g:Nat),(∀b z,s.heap.get? b=some z->c.get? b=some z)->
  c.get? s.heap.objs.size=some {cls:= .type "list",dict:=none,data:= .seq d.toArray g,slots:= #[]}->EP X i σ Q (.ref s.heap.objs.size) {s with heap:=c}:=λd f k c g j e=>
  ⟨.ref s.heap.objs.size,_,I.laid (t':=s.toks) j (WX _) (show di X.prog X.w _ c _ (.lst ys)from⟨k,d,g,f,e⟩),rfl,q _ (I.aI.fresh (WX _))⟩
 rcases m with m|m
 . obtain⟨d,f,pl,k⟩:=I.list m;let t:=f.length;obtain⟨o,w,y,n,x⟩:=pl.isList;show call_list_seq p (.inl rfl) w y x (λc g j e=>v d f k c g j e) (by simp![W6]<;>lia)
 . obtain⟨d,f,pl,k⟩:=I.tuple m;let t:=f.length;obtain⟨o,w,y,n,x⟩:=pl;show call_list_seq p (.inr rfl) w y x (λc g j e=>v d f k c g j e) (by simp![W6]<;>lia)
def Ab:bH X (.type "tuple") (λxs H Q=>∃p ys,xs=[.ref p]/\((mi X.K H p ys/\∀l,H l=none->Q (.ref l) (upd H l (.tup ys)))\/(iC X.K H p ys/\Q (.ref p) H))):=by
 intro c s σ H xs w Q I r h;obtain⟨p,ys,rfl,h⟩:=h;obtain⟨u,rfl,n⟩:=vals1 r;cases n;rcases h with⟨g,q⟩|⟨g,q⟩
 . obtain⟨i,f,pl,j⟩:=I.list g;let k:=f.length;show call_tuple_list pl.isList (λd t=>?_) (by simp![W6]<;>lia);let m:Inv X c σ H {s with heap:=d}:=I.kept (t':=s.toks) t
   let v:Inv X c σ (upd H d.objs.size (.tup ys)) {s with heap:=d.push {cls:= .type "tuple",data:= .seq i.toArray}}:=
    m.laid (t':=s.toks) (λb o e=>WU _ e) (WX _) (show di X.prog X.w _ _ _ (.tup ys)from⟨j,i,f,IsTup.new _ _⟩)
   show⟨.ref d.objs.size,_,v,rfl,q _ (m.aI.fresh (WX _))⟩
 . obtain⟨i,f,pl,j⟩:=I.tuple g;show call_tuple_same pl ⟨.ref p,H,I,rfl,q⟩
def Vw(K:PySem.W.Frag)(T:String)(x:V)(H:Hp):Prop:=match x with
 | .str _=>T="str"
 | .int _=>T="int"
 | .ref p=>(T="list"/\∃d,mi K H p d)\/(T="tuple"/\∃o,K.lookup p=some o/\o.cls= .type "tuple"/\o.dict=none)\/
    (T="dict"/\((∃c,H p=some (.dK c))\/∃c,H p=some (.dT c)))\/(T="set"/\∃S n,H p=some (.set S n))
 |_=>False
def QF{pins:List (Addr×Obj)}{σ:St}{H:Hp}{s:Shared}{T:String}{x:V}{v:Value}(I:Inv X pins σ H s)(r:RelV x v)(g:Vw X.K T x H):
 s.TypeIs v T/\∀a,v= .ref a->∃l,s.heap.get? a=some l/\l.dict=none:=by
 cases x with
 |str z=>
  obtain⟨t,rfl⟩:=r;cases (show T="str" from g);show⟨typeIs_str s z t,λ_ e=>nomatch e⟩
 |int i=>
  obtain⟨t,rfl⟩:=r;cases (show T="int" from g);show⟨abp s i t,λ_ e=>nomatch e⟩
 |ref p=>
  cases r;rcases g with⟨rfl,u,m⟩|⟨rfl,o,d,q,j⟩|⟨rfl,d⟩|⟨rfl,S,n,d⟩
  . obtain⟨w,_,pl,_⟩:=I.list m;show⟨pl.isList.typeIs,λa e=>?_⟩;cases e;obtain⟨o,n,e,c,j,_⟩:=pl;show⟨o,e,j⟩
  . show⟨⟨o,I.g4 p o d,q⟩,λa e=>?_⟩;cases e;show⟨o,I.g4 _ o d,j⟩
  . have z:∃o,s.heap.get? p=some o/\o.ExactDict:=by
     rcases d with⟨h,d⟩|⟨h,d⟩
     . obtain⟨_,_,_,_,o,_,_,e,f,_⟩:=I.aI p _ d;show⟨o,e,f⟩
     . obtain⟨_,_,_,_,o,_,_,e,f,_⟩:=I.aI p _ d;show⟨o,e,f⟩
    obtain⟨o,e,f⟩:=z;show⟨⟨o,e,f.1⟩,λa k=>?_⟩;cases k;show⟨o,e,f.2.1⟩
  . obtain⟨o,_,_,_,e,f,_⟩:=I.aI p _ d;show⟨⟨o,e,f.1⟩,λa k=>?_⟩;cases k;show⟨o,e,f.2.1⟩
 |_=>show False.elim g
def Vc(K:PySem.W.Frag)(T:String)(r:V->List V->Hp->VK->Prop)(d:TE)(t:TA):TE:=λσ H Q=>d σ H λx H1=>Vw K T x H1/\t σ H1 λc e=>r x c e Q
variable {o e:Expr}{es:List Expr}{to:TE}{t:TA}{name:Str}{apos cpos:Pos}{T id:String}{r:V->List V->Hp->VK->Prop}
def UB(B:PlainAttrs T)(slot:Slot T name id)(j:typeOf (.builtin id)=pure (.type "method_descriptor"))(E:Vy X id r)(D:PE X o to)(F:PA X (e::es) t)
 (g:attributeBase o name X.env (eval o X.env)=eval o X.env:=by rfl)
 (i:((backTo cpos (starEach (e::es) X.env)).all (λx=> !x.1)&&(backToKw cpos (keywordEach [] X.env)).all (λx=>x.1.isSome)
   &&decide ((e::es).length+([]:List Keyword).length+(if([]:List Keyword).isEmpty then 0 else 1)<30))=true:=by rfl)
 (f:(apos.endLine==cpos.line)=true:=by rfl) (C:starEach (e::es) X.env=(false,eval e X.env)::starEach es X.env:=by rfl) (d:(backTo cpos (starEach es X.env)).any (·.1)=false:=by rfl):
 PE X (.Call (.Attribute o name apos) (e::es) [] cpos) (Vc X.K T r to t):=by
 intro c s σ H Q I h;show wpAny_Call_method_late g i f rfl (bQ (D c s σ H _ I h) λv w ⟨x,H1,m,k,q,A⟩=>?_);obtain⟨J,G⟩:=QF m k q;show⟨T,id,B,slot,j,J,G,?_⟩;let l:=F cpos c w σ H1 _ m A;rw[C]at l⊢;show Calls.callWith_builtin (by change(false||(backTo cpos (starEach es X.env)).any (·.1))=false;rw[d]<;>rfl) (Calls.evalArgs_plain ?_);show bQ l λp u ⟨n,L,K,y,z⟩=>E c u σ L x n v p Q K k y z
/-xs.append(e),list.index on a module's tuple .. are Vy facts of 06m-/
end
def WQ(X:Cx)(id:String)(r:V->List V->Hp->VK->Prop):Prop:=
 ∀(a:List (Addr×Obj)) (s:Shared) (σ:St) (H:Hp) (x:V) (xs:List V) (v:Value) (us:List Value) (Q:VK),Inv X a σ H s->RelV x v->Vals xs us->r x xs H Q->
  wpAny (model X.prog X.w) X.A (call (.builtin id) (v::us)) (EP X a σ Q) X.xe s
def Vals.one:∀ {x:V} {us:List Value},Vals [x] us->∃u,us=[u]/\RelV x u
 |_,_,.cons r .nil=>⟨_,rfl,r⟩
def Vals.rep(h:Vals xs us):∀k:Nat,Vals (List.replicate k xs).flatten (List.replicate k us).flatten
 |0=> .nil
 |k+1=>by
  rw[YL,YL,XE,XE];show Vals.append h (Vals.rep h k)
def foldl_rep(ao:List Value):∀(k:Nat) (acc:List Value),
 List.foldl (λb a=>b++a) acc.toArray (List.replicate k ao.toArray)=(acc++(List.replicate k ao).flatten).toArray
 |0,acc=>by simp
 |k+1,acc=>by
  let e:acc.toArray++ao.toArray=(acc++ao).toArray:=by simp
  let c:(acc++ao)++(List.replicate k ao).flatten=acc++(List.replicate (k+1) ao).flatten:=by
   rw[YL,XE,YX]
  rw[<-c,<-foldl_rep ao k (acc++ao),<-e,YL,List.foldl_cons]
section
variable {X:Cx}{pins:List (Addr×Obj)}{σ:St}{H:Hp}{s:Shared}{l b:Addr}{xs ys zs:List V}
def Inv.VY{ao its':List Value}{f:Array Value->Array Value}(I:Inv X pins σ H s)(i:H l=some (.lst xs))
 (e:s.heap.get? l=some {cls:= .type "list",data:= .seq ao.toArray n}) (g:f ao.toArray=its'.toArray) (c:Vals ys its') (a:ys.length<=sizeLine):
 Inv X pins σ (upd H l (.lst ys)) {s with heap:=s.heap.update l (Obj.mapSeq f),toks:=t'}:=by
 let q:=PySem.IsL.update e f;rw[g]at q;show I.write (x:=l) (e:=l) (by rw[i];show trivial) (.inl rfl) (λj u h d=>(ZW s.heap (Obj.mapSeq f) (W4 h)).trans d) ⟨_,q⟩ ?_;show⟨a,its',_,c,q⟩
def Inv.K3{ao:List Value}(I:Inv X pins σ H s)(c:Vals ys ao)(a:ys.length<=sizeLine):
 Inv X pins σ (upd H s.heap.objs.size (.lst ys)) {s with heap:=s.heap.push {cls:= .type "list",data:= .seq ao.toArray},toks:=t'}:=
 I.laid (λ_ _ q=>WU _ q) (WX _) ⟨a,ao,0,c,Xe _ rfl⟩
def Inv.fresh(I:Inv X pins σ H s):H s.heap.objs.size=none:=I.aI.fresh (WX _)
def Inv.VE(I:Inv X pins σ H s)(a:H l=some (.lst xs)):xs.length<=sizeLine/\∃(ao:List Value) (n:Nat),Vals xs ao/\xs.length=ao.length/\s.heap.get? l=some {cls:= .type "list",data:= .seq ao.toArray n}:=by
 obtain⟨z,ao,n,r,e⟩:=I.aI l _ a;show⟨z,ao,n,r,r.length,e⟩
def LU(h:n<=sizeLine):Builtin.List.listTooLong n=false:=by
 unfold Builtin.List.listTooLong;show XO (by lia)
end
section
variable {X:Cx}
def EA:V->List V->Hp->VK->Prop:=λx b H Q=>∃l a y,x= .ref l/\b=[y]/\H l=some (.lst a)/\a.length<sizeLine/\Q .aD (upd H l (.lst (a++[y])))
def zj:WQ X "list.append" EA:=by
 intro a s σ H x j v k Q I d f h;obtain⟨l,i,y,rfl,rfl,b,m,q⟩:=h;cases d;obtain⟨u,rfl,g⟩:=f.one;obtain⟨z,c,n,r,o,e⟩:=I.VE b;show aaw F.slot_list_append ⟨_,e,rfl⟩ F.entry_list_append (F.args_list_append_2 _ _) (PySem.list_append l c.toArray n u (by rw[W6];lia)) ⟨e,?_⟩;show⟨.aD,_,I.VY (its':=c++[u]) b e (by simp) (r.append (.cons g .nil)) ?_,rfl,q⟩;rw[X8,abP];lia
def len_rep{α:Type}(xs:List α)(k:Nat):(List.replicate k xs).flatten.length=k*xs.length:=by
 induction k with
 |zero=>simp
 |succ k a=>rw[YL,XE,X8,a,ab6,Nat.add_comm]
end
section
variable {prog:Program}{w:World}{A:Around}{E:Value->Shared->Prop}{s:Shared}
set_option maxRecDepth 100000 in
end
end L2
namespace Att
open PySem PySem.W PySem.Calls PyProof.Rows
def xm:∀(ns:List Int) (vs:List Value),WellAll P h vs (ns.map WData.int)->IntsAre vs ns:=by
 intro ns;induction ns with
 |nil=>
  intro vs w;rw[List.map_nil]at w;cases w;show .nil
 |cons n ns c=>
  intro vs w;rw[XH]at w;cases w with
  |cons a b=>
   cases a;show .cons _ _ (c _ b)
def JZ{l:OpenLaw}(u:l.most=some n){h:Heap}
 (c:l.row.toRowW.claim.pre args=true) (j:WellAll P h b args):
 ∃a vs ns,b=[Value.ref a]/\args=[WData.list (ns.map WData.int)]/\h.get? a=some {cls:= .type "list",data:= .seq vs.toArray}/\IntsAre vs ns/\ns.length<=n:=by
 let k:WShape.hasAll [] args [.list .int]=true:=(pre_splitW c).1;let m:l.pre.holds [] {args:=args}=true:=(pre_splitW c).2;obtain⟨d,r,rfl,x,w⟩:=hasAllW_cons k;obtain rfl:=hasAllW_nil w;obtain⟨y,rfl,v⟩:=hasW_list x;obtain⟨ns,rfl⟩:=items_int v
 let e:ns.length<=n:=by
  unfold OpenLaw.pre at m
  let i:(WTm.not (.lt (.lit (.int (n:Int))) (.len (.arg 0)))).holds [] {args:=[.list (ns.map .int)]}=true:=by
   let i:=(holds_andW m).1;rw[u]at i;show i
  let g:=condW_of i (w_not (w_lt w_lit (w_len_list (w_arg rfl))));rw[W2]at g;show aad λq=>?_;let s:(n:Int)<((ns.length:Nat):Int):=by lia
  first
   |(rw[Y4 s]at g;show absurd g (by decide))
   |(simp at g;lia)
 cases j with
 |cons p o=>
  cases o;cases p with
  |list t f=>show⟨_,_,ns,rfl,rfl,t,xm ns _ f,e⟩
def IA(l:OpenLaw)(args:List WData):l.row.toRowW.claim.post args (.bool true) args=true:=
 postW_of (r:=l.row.toRowW) (X:=(true==true))
  (show WShape.has [] (.bool true) .bool=true by first|rfl|decide|simp[WShape.has,WShape.arms,WShape.armsAll])
  (show(WTm.eq .res (.lit (.bool true))).value [] {args:=args,res:=some (.bool true),after:=args}=some (.bool (true==true))from w_eq_bool (w_res rfl) w_lit) rfl
def Dk{l:OpenLaw}{d:DefRec}
 (x:l.most=some n) (i:d.params.defaults=[])
 (call:∀(w:World) (s₀ s₁:Shared) (mg mb:Str->Option Value) (fa:Addr) (o:Obj) (pm cd doc:Value) (a:Addr) (vs:List Value) (ns:List Int),
   Ground q loose [] XP w s₀ mg mb s₁.heap->YP w s₁.heap->
   s₁.heap.get? fa=some o->o.data= .func (docDef d.name d.params d.body d.scope pm cd doc)->s₁.heap.CodeRec cd d.name->mg d.name=some (.ref fa)->
   s₁.heap.get? a=some {cls:= .type "list",data:= .seq vs.toArray}->IntsAre vs ns->ns.length<=n->s₁.gens= #[]->
   codeAny (model l.prog w) callerA (.call (.ref fa) ⟨[.ref a],[]⟩) (λr s'=>r= .ok (.ret (.bool true))/\OldK s₁.heap s'.heap/\s'.os=s₁.os/\AllBare s'.gens) s₁):
 WalkO q loose XP YP l.row.toRowW d [] (λf vs=>PySem.call f vs):=by
 intro w s₀ s₁ mg mb G Y fa o pm cd doc F kV v B j p h A s k H b m t g z;obtain rfl:F= .none:=Dflts.none p i;obtain rfl:kV= .none:=Dflts.noKw p;obtain⟨a,vs,ns,rfl,rfl,c,hints,e⟩:=JZ x b g;show enter_call (abx (call w s₀ s₁ mg mb fa o pm cd doc a vs ns G Y v (fd_plain B) j h c hints e A) λr s' u=>?_);obtain⟨rfl,E,D,C⟩:=u;show⟨.inl ⟨.bool true,.bool true,[],rfl,λ_=>rfl,.bool true,IA l _,λ_=>⟨List.Pairwise.nil,λ_ y=>(nomatch y)⟩⟩,E,D,C⟩
end Att
namespace L2
open PySem PySem.Spec PyProof.Rows
def l9:∀ {vs:List Value} {ns:List Int},IntsAre vs ns->Vals (ns.map V.int) vs
 |_,_,.nil=> .nil
 |_,_,.cons n t h=> .cons ⟨t,rfl⟩ (l9 h)
end L2
/-THE LAST THEOREM (shape;LID,My.*are yours):
 My.Adr:a structure of the addresses that your layer names (classes,functions);My.Txt K t:a structure (Prop) of the equations over K;
 My.txt_mk:{K} {implicit addresses ..} (e1:nsIn K mainGlobals "law"=some (some (.ref f))) (e2:K.lookup f=some ⟨oc,od,.func (fnOf "law" "law" params body scope dV kV doc pm an cdv ct),sl⟩) (e3:codeIn K cdv "law"=true) .. :∃t,My.Txt K t
set_option maxRecDepth 100000 in
set_option maxHeartbeats 0 in
(the tactic k_is has no namespace:write k_is)-/
namespace L2
open PySem PySem.Spec PyProof.Rows
def inClass(s:Stmt)(j:Nat):Stmt:=match s with
 | .ClassDef _ _ _ a _ _ _ _ _ _ _=>a.getD j (.Pass ⟨0,0,0,0⟩)
 |_=> .Pass ⟨0,0,0,0⟩
def jq(s:Stmt):Arguments:=match s with
 | .FunctionDef _ a _ _ _ _ _ _ _ _=>a
 |_=>{posonlyargs:=[],args:=[],vararg:=none,kwonlyargs:=[],kw_defaults:=[],kwarg:=none,defaults:=[]}
def fN(s:Stmt):List Stmt:=match s with
 | .FunctionDef _ _ b _ _ _ _ _ _ _=>b
 |_=>[]
def bj(s:Stmt):Scope:=match s with
 | .FunctionDef _ _ _ _ _ _ a _ _ _=>a
 |_=>{kind:= .function,names:=[],isGenerator:=false,isCoroutine:=false}
abbrev fR:uM:=λ_ _ _ _ _ _=>False
abbrev E0:XK:=λ_ _ _=>False
def Aw:Passes fR X E0:=λ_ _ _ _ _ _ _ h=>h.elim
structure nL(K:PySem.W.Frag)(x qual:Str)(st:Stmt)(f:Addr)(fd:FuncData):Prop where
 ex:∃(oc:Value) (od:Option Addr) (kV doc pm:Value) (an:Option Addr) (cdv ct:Value) (osl:Array (Option Value)),
  fd=PySem.W.fnOf x qual (jq st) (fN st) (bj st) .none kV doc pm an cdv ct/\K.lookup f=some ⟨oc,od,.func fd,osl⟩/\PySem.W.codeIn K cdv qual=true
 kp:PySem.W.keepIn K (.ref f)=true
section
variable {P:Program}{w:World}{K:PySem.W.Frag}{mg:Str->Option Value}{base:Heap}
def nL.ok{x a:Str}{st:Stmt}{f:Addr}{fd:FuncData}{N d:List Str}{k:Nat}{sp:Sp}(F:nL K x a st f fd)(S:lK N d (bj st))(len:∀vs H Q E,sp vs H Q E->vs.length=d.length)
 (c:∀(b:Value) (A:Around) (outer:List Env) (s:Shared) (H:Hp) (vs:List V) (Q:VK) (E:XK),cK k (A.deeper (envOfC a (bj st) s.heap.objs.size f b))->sp vs H Q E->
   ∃t,g8 (o9 fR P w K mg base N a (bj st) f b A outer s H E).uO (fN st) t/\t {nx:=λ_ n=>Q .aD n,rt:=Q} (start N vs) H):cY P w K mg base fR (k+1) f fd d sp:=by
 obtain⟨r,p,kV,m,o,v,b,u,i,rfl,j,g⟩:=F.ex;show Mo j g S len λA outer s H vs Q E l e=>?_;obtain⟨t,h,q⟩:=c b A outer s H vs Q E l e;show⟨t,h.uO,q⟩
def nL.binds{x a:Str}{st:Stmt}{f:Addr}{fd:FuncData}{c:List Str}(F:nL K x a st f fd)
 (h:∀(kV b d:Value) (an:Option Addr) (cdv ct:Value) (us:List Value),us.length=c.length->bindArgs (PySem.W.fnOf x a (jq st) (fN st) (bj st) .none kV b d an cdv ct) ⟨us,[]⟩=pure (c.zip us)):Binds K fd c []:=by
 obtain⟨j,i,kV,b,d,an,cdv,ct,e,rfl,k,g⟩:=F.ex;show .all (h kV b d an cdv ct)
def Jo{x a:Str}{st:Stmt}{f:Addr}{j:Value}{i h:Option Addr}{e:Array (Option Value)}{kV d g b ct:Value}(l:K.lookup f=some ⟨j,i,.func (PySem.W.fnOf x a (jq st) (fN st) (bj st) .none kV d g h b ct),e⟩)
 (c:PySem.W.codeIn K b a=true) (k:PySem.W.keepIn K (.ref f)=true):nL K x a st f (PySem.W.fnOf x a (jq st) (fN st) (bj st) .none kV d g h b ct):=⟨⟨j,i,kV,d,g,h,b,ct,e,rfl,l,c⟩,k⟩
end
def eN{A B:Prop}(h:A):if true=true then A else B:=by
 rw[WY rfl];show h
def Lo(H a:Hp):Prop:=∀b o,H b=some o->a b=some o
end L2
set_option maxHeartbeats 4000000
namespace Hd
open PySem PySem.W PySem.Calls PyProof.Rows
noncomputable def bt (P:Params):BT:=(.node (boot_o_0 P) (.node (boot_o_1 P) (.node (boot_o_3 P) (.node (boot_o_7 P) .nil .nil) .nil) (.node (boot_o_5 P) (.node (boot_o_9 P) .nil .nil) .nil)) (.node (boot_o_2 P) (.node (boot_o_4 P) (.node (boot_o_8 P) .nil .nil) .nil) (.node (boot_o_6 P) (.node (boot_o_10 P) .nil .nil) .nil)))
def SE(P:Params):absHeap (bt P) 11 (boot_heap P).life=boot_heap P:=by kernel_rfl
noncomputable def run (p:Program) (w:World) (n:Nat) (a:Option Value):Nat->SharedT->Thread->Option SharedT
 |0,_,_=>none
 |k+1,s,t=>match through t with
  |true=>some s
  |false=>match Fast.tw6613529449190102663 n a t with
   |false=>none
   |true=>match Fast.tw10156331382660048174 (Fast.tw11892475500146522536 Fast.tw14364793385576792824) p w s t with
    |some (c,b)=>run p w n a k c b
    |none=>none
def IZ:∀ {k:Nat} {s s':SharedT} {t:Thread},run p w n a k s t=some s'->topRun treeTable p w n a k s.abs t=some s'.abs
 |0,_,_,_,h=>by cases h
 |k+1,s,s',t,h=>by
  unfold run at h;unfold topRun;cases d:through t with
  |true=>rw[d]at h;cases h;rfl
  |false=>
   rw[d]at h;rw[<-Fast.te6613529449190102663,<-Fast.te10156331382660048174,<-Fast.te11892475500146522536,<-Fast.te14364793385576792824]at h;cases c:stepOk n a t with
   |false=>simp![c]at h;cases h
   |true=>
    simp![c]at h;cases b:stepT (denote treeTable) p w s t with
    |none=>rw[b]at h;cases h
    |some r=>obtain⟨f,e⟩:=r;rw[b]at h;rw[stepT_spec b];show IZ h
noncomputable def b0 (w:World) (a:OsState):SharedT:=⟨bt w.params,11,(boot_heap w.params).life,⟨[]⟩,boot_drawn,boot_toks,a⟩
def QG(w:World)(a:OsState):(b0 w a).abs=⟨boot_heap w.params,⟨[]⟩,boot_drawn,boot_toks,a⟩:=by
 unfold b0 SharedT.abs;dsimp only;rw[SE]
def left{p q:Program}{α:Type}{c:Shared->α}{g:World->α}
 (e:opening p=plainProg p.main.scope.names) (f:∀s,fenceModules? p s=some s) (l:Nat.ble 600 N=true)
 (h:∀(w:World) (os:OsState),(run p w 11 (some (.ref 6)) N (b0 w os) (topStub p)).bind (λs=>match staticsOk (importedModules p.main.body) (boot_heap w.params) s.abs.heap&&namesBound p s.abs.heap&&gensDone s.abs&&laidKept (boot_heap w.params) s.abs.heap with
   |true=>some (Fast.tw4187177175401517315 q loose (importedModules p.main.body) (λ_=>true) true s.abs,c s.abs)
   |false=>none)=some (openGood q loose,g w)):LeftO p q loose (λ_=>true) c g N:=λw=>by
 obtain⟨⟨j,m,d,k,os⟩,o,n⟩:=Option.map_eq_some_iff.mp (boot_open e l f w);obtain⟨rfl,rfl,rfl,rfl⟩:j=boot_heap w.params/\m=⟨[]⟩/\d=boot_drawn/\k=boot_toks:=by simpa using n
 obtain⟨s,i,a⟩:=Option.bind_eq_some_iff.mp (h w os);let b:=IZ i;rw[QG]at b;rw[<-Fast.te4187177175401517315]at a;unfold openEnds;rw[o];change(topFrom treeTable p w N _).map _=_;unfold topFrom;rw[show((boot_heap w.params).isNs mainGlobals&&(⟨[]⟩:Array GenState).size==0)=true from by kernel_rfl];dsimp only;rw[show(boot_heap w.params).objs.size=11 from by kernel_rfl,show(boot_heap w.params).nsMap mainGlobals "__annotations__"=some (.ref 6)from by kernel_rfl,b];change((match staticsOk (importedModules p.main.body) (boot_heap w.params) s.abs.heap&&namesBound p s.abs.heap&&gensDone s.abs&&laidKept (boot_heap w.params) s.abs.heap with|true=>some s.abs|false=>none):Option Shared).map _=_;cases z:(staticsOk (importedModules p.main.body) (boot_heap w.params) s.abs.heap&&namesBound p s.abs.heap&&gensDone s.abs&&laidKept (boot_heap w.params) s.abs.heap)with
 |false=>rw[z]at a;cases a
 |true=>rw[z]at a;show a
def fo(st:Stmt)(x q:Str)(a b:Value):Obj:=⟨.type "function",none,.func (fnOf x q (L2.jq st) (L2.fN st) (L2.bj st) .none .none .none a none b .none),#[]⟩
abbrev e(x:Str)(t:Nat)(v:Value):Str×Nat×Value:=(x,t,v)
abbrev k(a:Addr)(o:Obj):Addr×Obj:=(a,o)
def no(P:Params)(n:Nat)(l:List (Str×Nat×Value)):Obj:=⟨.type "dict",none,.dict (l.map λe=>⟨PyData.keyHash P e.1,.str e.1 e.2.1,e.2.2⟩).toArray n,#[]⟩
def fd(st:Stmt)(x q:Str)(a:Value)(c:Addr):FuncData:=fnOf x q (L2.jq st) (L2.fN st) (L2.bj st) .none .none .none a none (.ref c) .none
def fq(st:Stmt)(x q:Str)(a:Value)(c:Addr):Obj:=⟨.type "function",none,.func (fd st x q a c),#[]⟩
def co(x q:Str)(t:Nat)(line c:Int)(a b:Addr)(u v:Value)(d:Addr)(i:Int)(z:Nat):Obj:=⟨.type "code",none,.fields #[.str x t,.str q (t+1),.str "/claim/cut.py" (t+2),.int line 0,.int c 0,.int 0 0,.int 0 0,.int 3 0,.ref a,.bool true,.int 181 0,.ref b,.none,u,v,.ref d,.int i 0,.int line 0,.str "/claim/cut.py" z],#[]⟩
end Hd
namespace Row
open PySem L2
open PySem.Spec hiding items?
open PyProof.Rows hiding St
def top(i:Nat):Stmt:=PySem.Challenge.pw_latticeworks_k39_whole_short_again.main.body.getD i (.Pass ⟨0,0,0,0⟩)
abbrev PW:Program:=PySem.Challenge.pw_latticeworks_k39_whole_short_again
abbrev o6:Stmt:=top 4
abbrev oV:Stmt:=top 5
abbrev lD:Stmt:=top 6
abbrev mD:Stmt:=top 7
abbrev vG:Stmt:=top 9
abbrev Bu:Stmt:=top 10
abbrev yI:Stmt:=top 12
abbrev yw:Stmt:=top 13
abbrev vM:Stmt:=top 15
abbrev sd:Stmt:=top 18
abbrev xT:Stmt:=top 19
abbrev vk:Stmt:=top 20
abbrev rP:Stmt:=top 21
abbrev vD:Stmt:=top 22
abbrev mQ:Stmt:=top 23
abbrev qE:Stmt:=top 24
abbrev pe:Stmt:=top 25
abbrev FT:Stmt:=top 26
abbrev rL:Stmt:=top 27
abbrev qJ:Stmt:=top 28
abbrev nY:Stmt:=top 29
abbrev nJ:Stmt:=top 30
abbrev sJ:Stmt:=top 32
abbrev rQ:Stmt:=top 33
abbrev qy:Stmt:=top 34
abbrev og:Stmt:=top 35
abbrev ph:Stmt:=top 36
abbrev vP:Stmt:=top 37
abbrev tI:Stmt:=top 39
abbrev iX:Stmt:=top 40
abbrev pv:Stmt:=top 41
abbrev rN:Stmt:=top 42
abbrev du:Stmt:=inClass (top 43) 0
abbrev je:Stmt:=inClass (top 43) 1
abbrev fV:Stmt:=inClass (top 43) 2
abbrev eG:Stmt:=inClass (top 43) 3
abbrev dE:Stmt:=inClass (top 43) 4
abbrev gX:Stmt:=inClass (top 43) 5
abbrev eh:Stmt:=inClass (top 43) 6
abbrev qm:Stmt:=top 44
abbrev tK:Stmt:=top 45
abbrev jE:Stmt:=top 47
abbrev kQ:Stmt:=top 48
abbrev qP:Stmt:=top 49
abbrev fx:Stmt:=inClass (top 50) 0
abbrev fQ:Stmt:=inClass (top 50) 1
abbrev gf:Stmt:=inClass (top 50) 2
abbrev fA:Stmt:=inClass (top 50) 3
abbrev iu:Stmt:=inClass (top 50) 4
abbrev fP:Stmt:=inClass (top 50) 5
abbrev yc:Stmt:=top 51
abbrev mI:Stmt:=top 52
abbrev vR:Stmt:=top 57
abbrev vt:Stmt:=top 59
abbrev qO:Stmt:=top 60
abbrev pd:Stmt:=top 61
abbrev nX:Stmt:=top 62
abbrev qD:Stmt:=top 63
abbrev oZ:Stmt:=top 64
abbrev sX:Stmt:=top 65
abbrev rD:Stmt:=top 66
abbrev qr:Stmt:=top 68
abbrev j8:Stmt:=top 69
abbrev sS:Stmt:=top 70
abbrev mW:Stmt:=top 71
def zu:Value:=(.str "latticeworks.kinds" 223)
def uN:Value:=(.str "latticeworks.fractions" 253)
def g7:Value:=(.str "latticeworks.rows" 322)
def qW:Value:=(.str "latticeworks.shares" 419)
def ft:Value:=(.str "latticeworks.standing" 475)
def gE:Value:=(.str "latticeworks.short" 618)
def Vx:Value:=(.str "latticeworks.inside" 744)
def iy:Value:=(.str "law_latticeworks_k39_whole_short_again" 791)
def KX(P:Params):PySem.W.Frag:=[Hd.k 3 (Hd.no P 72 [Hd.e "__name__" 165 (.str "law_latticeworks_k39_whole_short_again" 791),Hd.e "__doc__" 166 .none,Hd.e "__package__" 167 .none,Hd.e "__loader__" 168 (.builtin "__main__.__loader__#opaque"),Hd.e "__spec__" 169 .none,Hd.e "__annotations__" 170 (.ref 6),Hd.e "__builtins__" 171 (.ref 4),Hd.e "__file__" 173 (.str "/claim/cut.py" 172),Hd.e "__cached__" 174 .none,Hd.e "LatticeError" 206 (.ref 24),Hd.e "NoSteps" 222 (.ref 37),Hd.e "is_number" 231 (.ref 46),Hd.e "is_listed" 238 (.ref 53),Hd.e "is_listed_of" 246 (.ref 60),Hd.e "are_numbers" 252 (.ref 65),Hd.e "common" 265 (.ref 72),Hd.e "part" 274 (.ref 79),Hd.e "plus" 282 (.ref 86),Hd.e "minus" 290 (.ref 93),Hd.e "times" 298 (.ref 100),Hd.e "over" 306 (.ref 107),Hd.e "before" 314 (.ref 114),Hd.e "whole" 321 (.ref 121),Hd.e "as_rows" 329 (.ref 126),Hd.e "added" 335 (.ref 131),Hd.e "sum_by" 347 (.ref 138),Hd.e "product" 353 (.ref 143),Hd.e "column" 359 (.ref 148),Hd.e "turned_over" 365 (.ref 153),Hd.e "unit_row" 371 (.ref 158),Hd.e "unit_rows" 377 (.ref 163),Hd.e "dot" 383 (.ref 168),Hd.e "is_rows" 389 (.ref 173),Hd.e "are_back" 398 (.ref 180),Hd.e "is_turn_of" 407 (.ref 187),Hd.e "are_turned" 418 (.ref 194),Hd.e "cleared" 434 (.ref 201),Hd.e "line_of" 446 (.ref 208),Hd.e "table_of" 456 (.ref 215),Hd.e "squares_in" 462 (.ref 220),Hd.e "shares_in" 468 (.ref 225),Hd.e "shares" 474 (.ref 230),Hd.e "lead_of" 485 (.ref 237),Hd.e "nearest_quotient" 493 (.ref 244),Hd.e "exchanged" 503 (.ref 251),Hd.e "negated" 509 (.ref 256),Hd.e "Bench" 593 (.ref 311),Hd.e "standing" 604 (.ref 322),Hd.e "weighed" 617 (.ref 329),Hd.e "is_half_at_most" 626 (.ref 336),Hd.e "falls_too_far" 635 (.ref 343),Hd.e "is_short" 641 (.ref 348),Hd.e "Stairs" 726 (.ref 400),Hd.e "short" 735 (.ref 411),Hd.e "shows_short" 743 (.ref 418),Hd.e "parts_dot" 756 (.ref 425),Hd.e "bottom_at" 766 (.ref 432),Hd.e "parts_against" 779 (.ref 439),Hd.e "inside" 790 (.ref 446),Hd.e "_law_at" 800 (.ref 453),Hd.e "_law_left" 812 (.ref 460),Hd.e "_law_digit" 821 (.ref 467),Hd.e "_law_number" 830 (.ref 474),Hd.e "_law_rows" 836 (.ref 479),Hd.e "_law_drawn" 846 (.ref 486),Hd.e "_law_dot" 852 (.ref 491),Hd.e "_law_own" 868 (.ref 498),Hd.e "_law_product" 874 (.ref 503),Hd.e "_law_unit" 880 (.ref 508),Hd.e "_law_all_inside" 886 (.ref 513),Hd.e "_law_due" 892 (.ref 518),Hd.e "law" 898 (.ref 523)]),
 Hd.k 45 (Hd.co "is_number" "is_number" 225 7 1 40 41 (.ref 42) (.ref 43) 44 229 230),
 Hd.k 46 (Hd.fq o6 "is_number" "is_number" zu 45),
 Hd.k 52 (Hd.co "is_listed" "is_listed" 232 9 1 47 48 (.ref 49) (.ref 50) 51 236 237),
 Hd.k 53 (Hd.fq oV "is_listed" "is_listed" zu 52),
 Hd.k 59 (Hd.co "is_listed_of" "is_listed_of" 239 11 2 54 55 (.ref 56) (.ref 57) 58 244 245),
 Hd.k 60 (Hd.fq lD "is_listed_of" "is_listed_of" zu 59),
 Hd.k 64 (Hd.co "are_numbers" "are_numbers" 247 13 2 61 62 .none .none 63 250 251),
 Hd.k 65 (Hd.fq mD "are_numbers" "are_numbers" zu 64),
 Hd.k 71 (Hd.co "common" "common" 255 16 2 66 67 (.ref 68) (.ref 69) 70 263 264),
 Hd.k 72 (Hd.fq vG "common" "common" uN 71),
 Hd.k 78 (Hd.co "part" "part" 266 24 2 73 74 (.ref 75) (.ref 76) 77 272 273),
 Hd.k 79 (Hd.fq Bu "part" "part" uN 78),
 Hd.k 92 (Hd.co "minus" "minus" 283 31 2 87 88 (.ref 89) (.ref 90) 91 288 289),
 Hd.k 93 (Hd.fq yI "minus" "minus" uN 92),
 Hd.k 99 (Hd.co "times" "times" 291 33 2 94 95 (.ref 96) (.ref 97) 98 296 297),
 Hd.k 100 (Hd.fq yw "times" "times" uN 99),
 Hd.k 113 (Hd.co "before" "before" 307 37 2 108 109 (.ref 110) (.ref 111) 112 312 313),
 Hd.k 114 (Hd.fq vM "before" "before" uN 113),
 Hd.k 125 (Hd.co "as_rows" "as_rows" 324 42 1 122 123 .none .none 124 327 328),
 Hd.k 126 (Hd.fq sd "as_rows" "as_rows" g7 125),
 Hd.k 130 (Hd.co "added" "added" 330 44 3 127 128 .none .none 129 333 334),
 Hd.k 131 (Hd.fq xT "added" "added" g7 130),
 Hd.k 137 (Hd.co "sum_by" "sum_by" 336 46 3 132 133 (.ref 134) (.ref 135) 136 345 346),
 Hd.k 138 (Hd.fq vk "sum_by" "sum_by" g7 137),
 Hd.k 142 (Hd.co "product" "product" 348 51 2 139 140 .none .none 141 351 352),
 Hd.k 143 (Hd.fq rP "product" "product" g7 142),
 Hd.k 147 (Hd.co "column" "column" 354 54 2 144 145 .none .none 146 357 358),
 Hd.k 148 (Hd.fq vD "column" "column" g7 147),
 Hd.k 152 (Hd.co "turned_over" "turned_over" 360 56 2 149 150 .none .none 151 363 364),
 Hd.k 153 (Hd.fq mQ "turned_over" "turned_over" g7 152),
 Hd.k 157 (Hd.co "unit_row" "unit_row" 366 58 2 154 155 .none .none 156 369 370),
 Hd.k 158 (Hd.fq qE "unit_row" "unit_row" g7 157),
 Hd.k 162 (Hd.co "unit_rows" "unit_rows" 372 60 1 159 160 .none .none 161 375 376),
 Hd.k 163 (Hd.fq pe "unit_rows" "unit_rows" g7 162),
 Hd.k 167 (Hd.co "dot" "dot" 378 62 2 164 165 .none .none 166 381 382),
 Hd.k 168 (Hd.fq FT "dot" "dot" g7 167),
 Hd.k 172 (Hd.co "is_rows" "is_rows" 384 64 3 169 170 .none .none 171 387 388),
 Hd.k 173 (Hd.fq rL "is_rows" "is_rows" g7 172),
 Hd.k 179 (Hd.co "are_back" "are_back" 390 70 2 174 175 (.ref 176) (.ref 177) 178 396 397),
 Hd.k 180 (Hd.fq qJ "are_back" "are_back" g7 179),
 Hd.k 186 (Hd.co "is_turn_of" "is_turn_of" 399 77 3 181 182 (.ref 183) (.ref 184) 185 405 406),
 Hd.k 187 (Hd.fq nY "is_turn_of" "is_turn_of" g7 186),
 Hd.k 193 (Hd.co "are_turned" "are_turned" 408 79 4 188 189 (.ref 190) (.ref 191) 192 416 417),
 Hd.k 194 (Hd.fq nJ "are_turned" "are_turned" g7 193),
 Hd.k 200 (Hd.co "cleared" "cleared" 421 85 4 195 196 (.ref 197) (.ref 198) 199 432 433),
 Hd.k 201 (Hd.fq sJ "cleared" "cleared" qW 200),
 Hd.k 207 (Hd.co "line_of" "line_of" 435 91 3 202 203 (.ref 204) (.ref 205) 206 444 445),
 Hd.k 208 (Hd.fq rQ "line_of" "line_of" qW 207),
 Hd.k 214 (Hd.co "table_of" "table_of" 447 97 1 209 210 (.ref 211) (.ref 212) 213 454 455),
 Hd.k 215 (Hd.fq qy "table_of" "table_of" qW 214),
 Hd.k 219 (Hd.co "squares_in" "squares_in" 457 105 1 216 217 .none .none 218 460 461),
 Hd.k 220 (Hd.fq og "squares_in" "squares_in" qW 219),
 Hd.k 224 (Hd.co "shares_in" "shares_in" 463 108 2 221 222 .none .none 223 466 467),
 Hd.k 225 (Hd.fq ph "shares_in" "shares_in" qW 224),
 Hd.k 229 (Hd.co "shares" "shares" 469 110 1 226 227 .none .none 228 472 473),
 Hd.k 230 (Hd.fq vP "shares" "shares" qW 229),
 Hd.k 236 (Hd.co "lead_of" "lead_of" 477 114 1 231 232 (.ref 233) (.ref 234) 235 483 484),
 Hd.k 237 (Hd.fq tI "lead_of" "lead_of" ft 236),
 Hd.k 243 (Hd.co "nearest_quotient" "nearest_quotient" 486 119 2 238 239 (.ref 240) (.ref 241) 242 491 492),
 Hd.k 244 (Hd.fq iX "nearest_quotient" "nearest_quotient" ft 243),
 Hd.k 250 (Hd.co "exchanged" "exchanged" 494 121 3 245 246 (.ref 247) (.ref 248) 249 501 502),
 Hd.k 251 (Hd.fq pv "exchanged" "exchanged" ft 250),
 Hd.k 255 (Hd.co "negated" "negated" 504 126 1 252 253 .none .none 254 507 508),
 Hd.k 256 (Hd.fq rN "negated" "negated" ft 255),
 Hd.k 267 (Hd.co "__init__" "Bench.__init__" 522 130 2 264 265 .none .none 266 525 526),
 Hd.k 268 (Hd.fq du "__init__" "Bench.__init__" ft 267),
 Hd.k 274 (Hd.co "take" "Bench.take" 528 135 4 269 270 (.ref 271) (.ref 272) 273 535 536),
 Hd.k 275 (Hd.fq je "take" "Bench.take" ft 274),
 Hd.k 281 (Hd.co "exchange" "Bench.exchange" 538 140 3 276 277 (.ref 278) (.ref 279) 280 544 545),
 Hd.k 282 (Hd.fq fV "exchange" "Bench.exchange" ft 281),
 Hd.k 288 (Hd.co "change_sign" "Bench.change_sign" 547 145 2 283 284 (.ref 285) (.ref 286) 287 552 553),
 Hd.k 289 (Hd.fq eG "change_sign" "Bench.change_sign" ft 288),
 Hd.k 293 (Hd.co "live_rows" "Bench.live_rows" 555 150 3 290 291 .none .none 292 558 559),
 Hd.k 294 (Hd.fq dE "live_rows" "Bench.live_rows" ft 293),
 Hd.k 300 (Hd.co "gather" "Bench.gather" 561 154 3 295 296 (.ref 297) (.ref 298) 299 570 571),
 Hd.k 301 (Hd.fq gX "gather" "Bench.gather" ft 300),
 Hd.k 307 (Hd.co "lower_above" "Bench.lower_above" 573 168 3 302 303 (.ref 304) (.ref 305) 306 580 581),
 Hd.k 308 (Hd.fq eh "lower_above" "Bench.lower_above" ft 307),
 Hd.k 310 (Hd.no P 4 [Hd.e "__module__" 517 (.str "latticeworks.standing" 475),Hd.e "__firstlineno__" 521 (.int (128) 520),Hd.e "__init__" 527 (.ref 268),Hd.e "take" 537 (.ref 275),Hd.e "exchange" 546 (.ref 282),Hd.e "change_sign" 554 (.ref 289),Hd.e "live_rows" 560 (.ref 294),Hd.e "gather" 572 (.ref 301),Hd.e "lower_above" 582 (.ref 308),Hd.e "__static_attributes__" 586 (.ref 309),Hd.e "__dict__" 588 (.ref 312),Hd.e "__weakref__" 590 (.ref 313),Hd.e "__doc__" 591 .none]),
 Hd.k 311 (⟨(.type "type"),none,.cls {name:="Bench",bases:=[(.type "object")],mro:=[(.ref 311),(.type "object")],ns:=310,qualname:="Bench",hasDict:=true,subclasses:=[],abstract:=false,hasDel:=false},#[none,none,(some (.str "Bench" 510)),(some (.str "Bench" 518)),(some (.builtin "object.__new__")),(some (.bool true))]⟩),
 Hd.k 321 (Hd.co "standing" "standing" 594 171 1 316 317 (.ref 318) (.ref 319) 320 602 603),
 Hd.k 322 (Hd.fq qm "standing" "standing" ft 321),
 Hd.k 328 (Hd.co "weighed" "weighed" 605 180 2 323 324 (.ref 325) (.ref 326) 327 615 616),
 Hd.k 329 (Hd.fq tK "weighed" "weighed" ft 328),
 Hd.k 335 (Hd.co "is_half_at_most" "is_half_at_most" 620 190 1 330 331 (.ref 332) (.ref 333) 334 624 625),
 Hd.k 336 (Hd.fq jE "is_half_at_most" "is_half_at_most" gE 335),
 Hd.k 342 (Hd.co "falls_too_far" "falls_too_far" 627 192 3 337 338 (.ref 339) (.ref 340) 341 633 634),
 Hd.k 343 (Hd.fq kQ "falls_too_far" "falls_too_far" gE 342),
 Hd.k 347 (Hd.co "is_short" "is_short" 636 194 1 344 345 .none .none 346 639 640),
 Hd.k 348 (Hd.fq qP "is_short" "is_short" gE 347),
 Hd.k 361 (Hd.co "__init__" "Stairs.__init__" 654 203 2 356 357 (.ref 358) (.ref 359) 360 659 660),
 Hd.k 362 (Hd.fq fx "__init__" "Stairs.__init__" gE 361),
 Hd.k 368 (Hd.co "last_of" "Stairs.last_of" 662 207 2 363 364 (.ref 365) (.ref 366) 367 667 668),
 Hd.k 369 (Hd.fq fQ "last_of" "Stairs.last_of" gE 368),
 Hd.k 375 (Hd.co "lessen" "Stairs.lessen" 670 210 3 370 371 (.ref 372) (.ref 373) 374 678 679),
 Hd.k 376 (Hd.fq gf "lessen" "Stairs.lessen" gE 375),
 Hd.k 382 (Hd.co "is_steep" "Stairs.is_steep" 681 218 2 377 378 (.ref 379) (.ref 380) 381 688 689),
 Hd.k 383 (Hd.fq fA "is_steep" "Stairs.is_steep" gE 382),
 Hd.k 389 (Hd.co "swap" "Stairs.swap" 691 223 2 384 385 (.ref 386) (.ref 387) 388 705 706),
 Hd.k 390 (Hd.fq iu "swap" "Stairs.swap" gE 389),
 Hd.k 396 (Hd.co "shorten" "Stairs.shorten" 708 238 1 391 392 (.ref 393) (.ref 394) 395 714 715),
 Hd.k 397 (Hd.fq fP "shorten" "Stairs.shorten" gE 396),
 Hd.k 399 (Hd.no P 4 [Hd.e "__module__" 649 (.str "latticeworks.short" 618),Hd.e "__firstlineno__" 653 (.int (201) 652),Hd.e "__init__" 661 (.ref 362),Hd.e "last_of" 669 (.ref 369),Hd.e "lessen" 680 (.ref 376),Hd.e "is_steep" 690 (.ref 383),Hd.e "swap" 707 (.ref 390),Hd.e "shorten" 716 (.ref 397),Hd.e "__static_attributes__" 719 (.ref 398),Hd.e "__dict__" 721 (.ref 401),Hd.e "__weakref__" 723 (.ref 402),Hd.e "__doc__" 724 .none]),
 Hd.k 400 (⟨(.type "type"),none,.cls {name:="Stairs",bases:=[(.type "object")],mro:=[(.ref 400),(.type "object")],ns:=399,qualname:="Stairs",hasDict:=true,subclasses:=[],abstract:=false,hasDel:=false},#[none,none,(some (.str "Stairs" 642)),(some (.str "Stairs" 650)),(some (.builtin "object.__new__")),(some (.bool true))]⟩),
 Hd.k 410 (Hd.co "short" "short" 727 249 1 405 406 (.ref 407) (.ref 408) 409 733 734),
 Hd.k 411 (Hd.fq yc "short" "short" gE 410),
 Hd.k 417 (Hd.co "shows_short" "shows_short" 736 254 2 412 413 (.ref 414) (.ref 415) 416 741 742),
 Hd.k 418 (Hd.fq mI "shows_short" "shows_short" gE 417),
 Hd.k 445 (Hd.co "inside" "inside" 780 282 2 440 441 (.ref 442) (.ref 443) 444 788 789),
 Hd.k 446 (Hd.fq vR "inside" "inside" Vx 445),
 Hd.k 452 (Hd.co "_law_at" "_law_at" 793 290 2 447 448 (.ref 449) (.ref 450) 451 798 799),
 Hd.k 453 (Hd.fq vt "_law_at" "_law_at" iy 452),
 Hd.k 459 (Hd.co "_law_left" "_law_left" 801 294 2 454 455 (.ref 456) (.ref 457) 458 810 811),
 Hd.k 460 (Hd.fq qO "_law_left" "_law_left" iy 459),
 Hd.k 466 (Hd.co "_law_digit" "_law_digit" 813 304 2 461 462 (.ref 463) (.ref 464) 465 819 820),
 Hd.k 467 (Hd.fq pd "_law_digit" "_law_digit" iy 466),
 Hd.k 473 (Hd.co "_law_number" "_law_number" 822 308 2 468 469 (.ref 470) (.ref 471) 472 828 829),
 Hd.k 474 (Hd.fq nX "_law_number" "_law_number" iy 473),
 Hd.k 478 (Hd.co "_law_rows" "_law_rows" 831 315 4 475 476 .none .none 477 834 835),
 Hd.k 479 (Hd.fq qD "_law_rows" "_law_rows" iy 478),
 Hd.k 485 (Hd.co "_law_drawn" "_law_drawn" 837 317 1 480 481 (.ref 482) (.ref 483) 484 844 845),
 Hd.k 486 (Hd.fq oZ "_law_drawn" "_law_drawn" iy 485),
 Hd.k 490 (Hd.co "_law_dot" "_law_dot" 847 327 2 487 488 .none .none 489 850 851),
 Hd.k 491 (Hd.fq sX "_law_dot" "_law_dot" iy 490),
 Hd.k 497 (Hd.co "_law_own" "_law_own" 853 329 1 492 493 (.ref 494) (.ref 495) 496 866 867),
 Hd.k 498 (Hd.fq rD "_law_own" "_law_own" iy 497),
 Hd.k 507 (Hd.co "_law_unit" "_law_unit" 875 354 1 504 505 .none .none 506 878 879),
 Hd.k 508 (Hd.fq qr "_law_unit" "_law_unit" iy 507),
 Hd.k 512 (Hd.co "_law_all_inside" "_law_all_inside" 881 356 2 509 510 .none .none 511 884 885),
 Hd.k 513 (Hd.fq j8 "_law_all_inside" "_law_all_inside" iy 512),
 Hd.k 517 (Hd.co "_law_due" "_law_due" 887 358 4 514 515 .none .none 516 890 891),
 Hd.k 518 (Hd.fq sS "_law_due" "_law_due" iy 517),
 Hd.k 522 (Hd.co "law" "law" 893 364 1 519 520 .none .none 521 896 897),
 Hd.k 523 (Hd.fq mW "law" "law" iy 522)]
def KA:List Addr:=[3,45,46,52,53,59,60,64,65,71,72,78,79,92,93,99,100,113,114,125,126,130,131,137,138,142,143,147,148,152,153,157,158,162,163,167,168,172,173,179,180,186,187,193,194,200,201,207,208,214,215,219,220,224,225,229,230,236,237,243,244,250,251,255,256,267,268,274,275,281,282,288,289,293,294,300,301,307,308,310,311,321,322,328,329,335,336,342,343,347,348,361,362,368,369,375,376,382,383,389,390,396,397,399,400,410,411,417,418,445,446,452,453,459,460,466,467,473,474,478,479,485,486,490,491,497,498,507,508,512,513,517,518,522,523]
set_option maxHeartbeats 0 in
def left:PySem.W.LeftO PW (PySem.W.view PW [1,2,4,5,6,7,9,10,11,12,13,14,15,16,18,19,20,21,22,23,24,25,26,27,28,29,30,32,33,34,35,36,37,39,40,41,42,43,44,45,47,48,49,50,51,52,54,55,56,57,59,60,61,62,63,64,65,66,67,68,69,70,71]) [] (λ_=>true) (PySem.W.kmHook Row.KX Row.KA (λ_=>rfl) [291]).obs (PySem.W.kmHook Row.KX Row.KA (λ_=>rfl) [291]).val 6206:=
 Hd.left (by kernel_rfl) (λs=>by kernel_rfl) rfl λw os=>by kernel_rfl
end Row
namespace L3
open PySem PySem.Spec PyProof.Rows L2
section
variable {prog:Program}{w:World}{A:Around}{R:Result->Shared->Prop}{s:Shared}
def Dm{e target b:Expr}(I:Nat->Shared->Prop)
 (turn:∀n s,I n s->wpAny (model prog w) A (pyNext it) (λr i=>match r with
   |none=>R (.ok .next) i
   |some v=>wpAny (model prog w) A (letOwnedTupleGo target it v) (λ_ s₀=>wpAny (model prog w) A (assign target env v) (λ_ l=>
     wpAny (model prog w) A (forIn d true λc r=>if r=true then do let ok <-isTrue c env (eval c env);pure (ForInStep.yield ok)else pure (ForInStep.yield r)) (λok g=>
      if ok=true then wpAny (model prog w) A (eval e env) (λx k=>
       wpAny (model prog w) A (call (.builtin "list.append") [f,x]) (λ_ j=>∃m,m<n/\I m j) (λ_ _=>False) k) (λ_ _=>False) g
      else∃m,m<n/\I m g) (λ_ _=>False) l) (λ_ _=>False) s₀) (λ_ _=>False) i) (λ_ _=>False) s)
 (n:Nat) (h:I n s):
 codeAny (model prog w) A (.compLoop (.ListComp e [⟨target,b,d,0⟩] scope pos) 0 it f env) R s:=by
 show codeAny_loop rfl I (λn s z=>?_) n h;change wpAny _ A ((compTurn (.ListComp e [⟨target,b,d,0⟩] scope pos) 0 it f env).onRaise (λx=>do noteFrame x env;theTreesLotGoes x)) _ _ s;show wpAny_noted ?_;rw[compTurn_list];show WT (aaG (WT (YU (turn n s z) (λr i p=>?_) λ_ _ a=>a.elim)));cases r with
 |none=>show W5 p
 |some v=>
  show WT (YU p (λ_ s₀ y=>?_) λ_ _ a=>a.elim);show WT (YU y (λ_ l u=>WT (YU u (λok g o=>?_) λ_ _ a=>a.elim)) λ_ _ a=>a.elim);cases ok with
  |false=>show W5 ⟨rfl,o⟩
  |true=>
   show WT (WT (YU o (λx k t=>WT (YU t (λ_ j q=>W5 (W5 ⟨rfl,q⟩)) λ_ _ a=>a.elim)) λ_ _ a=>a.elim))
end
def dj(cells:List (Str×Addr)):List (Str×NameKind)->List (Str×Addr)->List (Str×Addr)
 | [],a=>a
 |(n,k)::r,a=>if k== .free then(match cells.lookup n with|some c=>dj cells r ((n,c)::a)|none=>dj cells r a)else dj cells r a
def cU{cells:List (Str×Addr)}:∀(names:List (Str×NameKind)) (acc:List (Str×Addr)),(∀x c,acc.lookup x=some c->cells.lookup x=some c)->
 ∀x c,(dj cells names acc).lookup x=some c->cells.lookup x=some c
 | [],acc,h,x,c,e=>h x c e
 |(n,k)::r,acc,h,x,c,e=>by
  unfold dj at e;split at e
  . split at e
    . rename_i d q;show cU r _ (λy b a=>?_) x c e;rw[XN]at a;split at a
      . rename_i z;cases a;let f:y=n:=by simpa using z
        rw[f];show q
      . show h y b a
    . show cU r _ h x c e
  . show cU r _ h x c e
def i5{cells:List (Str×Addr)}:∀(names:List (Str×NameKind)) (acc:List (Str×Addr)),(∃c,cells.lookup x=some c)->((x,NameKind.free)∈names\/∃c,acc.lookup x=some c)->
 ∃c,(dj cells names acc).lookup x=some c
 | [],acc,_,h=>by
   rcases h with h|h
   . simp at h
   . show h
 |(n,k)::r,acc,a,h=>by
  unfold dj;split
  . rename_i b;split
    . rename_i d q;show i5 r _ a ?_;rcases h with h|⟨c,h⟩
      . rcases Xh.mp h with e|e
        . cases e;show .inr ⟨d,by simp[XN]⟩
        . show .inl e
      . show .inr ?_;rw[XN];split
        . show⟨_,rfl⟩
        . show⟨c,h⟩
    . rename_i q;show i5 r _ a ?_;rcases h with h|h
      . rcases Xh.mp h with e|e
        . cases e;obtain⟨c,a⟩:=a;rw[a]at q;cases q
        . show .inl e
      . show .inr h
  . rename_i b;show i5 r _ a ?_;rcases h with h|h
    . rcases Xh.mp h with e|e
      . cases e;show absurd rfl b
      . show .inl e
    . show .inr h
def mG{scope:Scope}{env:Env}(h:∀x∈scope.names,x.2= .free->∃c,env.cells.lookup x.1=some c):closureFor scope env=pure (dj env.cells scope.names []):=by
 let g:∀(names:List (Str×NameKind)) (b:List (Str×Addr)),(∀x∈names,x.2= .free->∃c,env.cells.lookup x.1=some c)->
  (forIn names b (λ(x:Str×NameKind) (m:List (Str×Addr))=>if(x.2==NameKind.free)=true then(do let a <-cellOf env x.1;pure (ForInStep.yield ((x.1,a)::m)):Sem (ForInStep (List (Str×Addr))))else pure (ForInStep.yield m)))=(pure (dj env.cells names b):Sem (List (Str×Addr))):=by
  intro names;induction names with
  |nil=>intro b _;rfl
  |cons p r i=>
   intro b l;obtain⟨n,k⟩:=p;rw[ZQ];let o:=i;by_cases f:(k==NameKind.free)=true
   . obtain⟨c,e⟩:=l (n,k) Xk (by simpa using f);simp![f,Zo]
     let q:cellOf env n=pure c:=by
      unfold cellOf;rw[e]
     rw[q];simp![pure_bind];rw[i _ λx j=>l x (Xg _ j)];conv=>rhs;unfold dj
     simp![f,Zo];rw[show env.cells.lookup n=some c from e]
   . have d:(k==NameKind.free)=false:=by simpa using f
     simp![d,YS,Zr,pure_bind];rw[i _ λx j=>l x (Xg _ j)];conv=>rhs;unfold dj
     simp![d,YS,Zr]
 unfold closureFor;let:=g scope.names [] h;rw[bind_pure]
 first
  |show this
  |(simp![bind_pure]at this⊢;show this)
end L3
namespace L3
open PySem PySem.Spec L2
open PyProof.Rows hiding St
def jm(env:Env):∀(names:List (Str×NameKind)) (x:Str),
 (names.map λ(n,k)=>if(k==NameKind.free&&env.scope.kind== .function&&env.kindOf n==some .cell)then(n,NameKind.cell)else(n,k)).lookup x=
   (names.lookup x).map λk=>if(k==NameKind.free&&env.scope.kind== .function&&env.kindOf x==some .cell)then NameKind.cell else k
 | [],_=>rfl
 |(n,k)::r,x=>by
  change List.lookup x ((if(k==NameKind.free&&env.scope.kind== .function&&env.kindOf n==some .cell)=true then(n,NameKind.cell)else(n,k))::_)=_;cases b:x==n with
  |true=>
   have e:x=n:=by simpa using b
   subst e;by_cases a:(k==NameKind.free&&env.scope.kind== .function&&env.kindOf x==some .cell)=true
   . rw[WY a];simp![XN,aaJ,ZR];rw[WY a]
   . rw[WW a];simp![XN,aaJ,ZR];rw[WW a]
  |false=>
   by_cases a:(k==NameKind.free&&env.scope.kind== .function&&env.kindOf n==some .cell)=true
   . rw[WY a];simp![XN,b];show jm env r x
   . rw[WW a];simp![XN,b];show jm env r x
def CW{scope:Scope}(h:scope.names.lookup x=some .free):(relabel scope env).names.lookup x=some .cell\/(relabel scope env).names.lookup x=some .free:=by
 let e:(relabel scope env).names.lookup x=_:=jm env scope.names x;rw[e,h];simp![ZR];split
 . show .inl rfl
 . show .inr rfl
def BV{scope:Scope}(h:(relabel scope env).names.lookup x=some .cell\/(relabel scope env).names.lookup x=some .free):(x,NameKind.free)∈scope.names\/scope.names.lookup x=some .cell:=by
 let e:(relabel scope env).names.lookup x=_:=jm env scope.names x;rw[e]at h;cases q:scope.names.lookup x with
 |none=>rw[q]at h;rcases h with h|h<;>cases h
 |some k=>
  rw[q]at h;simp![ZR]at h;let m:=XR q;by_cases a:(k==NameKind.free&&env.scope.kind== .function&&env.kindOf x==some .cell)=true
  . have:k= .free:=by
     simp![Yc]at a;simpa using a.1.1
    subst this;show .inl m
  . rw[WW a]at h;rcases h with h|h
    . cases h;show .inr rfl
    . cases h;show .inl m
def gg:∀(names:List (Str×NameKind)) (L:Nat) (acc:List (Str×Addr)),cellsFrom L names acc=cellsFrom L names []++acc
 | [],_,_=>rfl
 |(n,k)::r,L,acc=>by
  unfold cellsFrom;by_cases a:(k==NameKind.cell)=true
  . rw[WY a,WY a,gg r (L+1) ((n,L)::acc),gg r (L+1) [(n,L)],YX];rfl
  . rw[WW a,WW a];show gg r L acc
def rF:∀ {names:List (Str×NameKind)} {L:Nat} {x:Str} {c:Addr},(x,c)∈cellsFrom L names []->(x,NameKind.cell)∈names
 | [],_,_,_,h=>by unfold cellsFrom at h;cases h
 |(n,k)::r,L,x,c,h=>by
  unfold cellsFrom at h;by_cases b:(k==NameKind.cell)=true
  . rw[WY b,gg]at h;let a:k= .cell:=by simpa using b
    subst a;rcases XY.mp h with h|h
    . show Xg _ (rF h)
    . have:(x,c)=(n,L):=by simpa using h
      cases this;show Xk
  . rw[WW b]at h;show Xg _ (rF h)
def qI:∀ {a b:List (Str×Addr)} {x:Str} {c:Addr},(a++b).lookup x=some c->a.lookup x=some c\/(a.lookup x=none/\b.lookup x=some c)
 | [],_,_,_,h=> .inr ⟨rfl,h⟩
 |(n,d)::a,b,x,c,h=>by
  rw[List.cons_append,XN]at h;rw[XN];cases e:x==n with
  |true=>rw[e]at h;show .inl h
  |false=>rw[e]at h;show qI h
def vc:∀ {b a:List (Str×Addr)} {x:Str},b.lookup x=none->(b++a).lookup x=a.lookup x
 | [],_,_,_=>rfl
 |(n,d)::b,a,x,h=>by
  rw[XN]at h;rw[List.cons_append,XN];cases c:x==n with
  |true=>rw[c]at h;cases h
  |false=>rw[c]at h;show vc h
def mh(scope:Scope)(C:Addr)(cl:List (Str×Addr)):List (Str×Addr):=cellsFrom (C+1) scope.names cl
def i_{scope:Scope}{cl:List (Str×Addr)}(h:(mh scope C cl).lookup x=some c):(x,c)∈cellsFrom (C+1) scope.names []\/cl.lookup x=some c:=by
 unfold mh at h;rw[gg]at h;rcases qI h with h|h
 . show .inl (XR h)
 . show .inr h.2
def RK(names:List (Str×NameKind))(h:Heap){C:Addr}(e:h.objs.size=C+1):CellsOk (pushCells h names) (C+1) (cellsFrom (C+1) names []):=by
 let:=cellsFrom_ok names h (C+1) [] ⟨λ_ _ a=>(nomatch a),List.Pairwise.nil⟩ (by rw[e];show WX _);rw[e]at this;show this
def nU{names:List (Str×NameKind)}{C:Addr}{x:Str}{c:Addr}:∀ {L:Nat},C<=L->(x,c)∈cellsFrom L names []->C<=c:=by
 induction names with
 |nil=>intro L _ h;unfold cellsFrom at h;cases h
 |cons p r b=>
  obtain⟨n,k⟩:=p;intro L a h;unfold cellsFrom at h;by_cases d:(k==NameKind.cell)=true
  . rw[WY d,gg]at h;rcases XY.mp h with h|h
    . show b (WZ a (aaD L)) h
    . have:(x,c)=(n,L):=by simpa using h
      cases this;show a
  . rw[WW d]at h;show b a h
def own_apart:∀ {L:Nat},(x,c)∈cellsFrom L names []->(y,c)∈cellsFrom L names []->x=y:=by
 induction names with
 |nil=>intro L h;unfold cellsFrom at h;cases h
 |cons p r j=>
  obtain⟨n,k⟩:=p;intro L b a;unfold cellsFrom at b a;by_cases l:(k==NameKind.cell)=true
  . rw[WY l,gg]at b a;rcases XY.mp b with e|e<;>rcases XY.mp a with d|d
    . show j e d
    . have g:(y,c)=(n,L):=by simpa using d
      let f:c=L:=(abM g).2;let:=nU (C:=L+1) (WX _) e;rw[f]at this;show absurd this (Nat.not_succ_le_self _)
    . have i:(x,c)=(n,L):=by simpa using e
      let f:c=L:=(abM i).2;let:=nU (C:=L+1) (WX _) d;rw[f]at this;show absurd this (Nat.not_succ_le_self _)
    . have i:(x,c)=(n,L):=by simpa using e
      let g:(y,c)=(n,L):=by simpa using d
      show(abM i).1.trans (abM g).1.symm
  . rw[WW l]at b a;show j b a
def vF{s:Shared}{scope:Scope}{cl:List (Str×Addr)}
 (e:Q (newEnv scope s.heap.objs.size globals (mh scope s.heap.objs.size cl) a none .none (some env) builtinsNs) {s with heap:=pushCells (s.heap.push {cls:= .type "dict",data:= .dict #[]}) scope.names}):
 wpAny M A (newFunctionEnv scope globals cl [] a none .none (some env)) Q E s:=by
 simp![newFunctionEnv,Option.isSome_some,Zo];show WT (wpAny_alloc ?_);show WT (wpAny_layCells _ (λd b cells=>by cases c:b==NameKind.cell<;>simp[c]) _ _ _ _ ?_);rw[show({s with heap:=s.heap.push {cls:= .type "dict",data:= .dict #[]}}:Shared).heap.objs.size=s.heap.objs.size+1 from XJ ..];rw[ZX];show WT (W5 (W5 e))
structure cD(X:Cx)(scope:Scope)(Nc:List Str)(fr:List (Option Nat)):Prop where
 kind:scope.kind= .function
 cells:∀x∈scope.names,x.2= .cell->scope.names.lookup x.1=some .cell
 names:∀x∈scope.names,x.2= .local->scope.names.lookup x.1=some .local
 free:∀x∈scope.names,x.2= .free->X.env.kindOf x.1=some .cell\/X.env.kindOf x.1=some .free
 len:fr.length=Nc.length
 map:∀(i j:Nat) (x:Str),Nc[i]?=some x->fr[i]?=some (some j)->X.N[j]?=some x/\scope.names.lookup x=some .free/\(X.env.kindOf x=some .cell\/X.env.kindOf x=some .free)
def σC(fr:List (Option Nat))(σ:St):St:=fr.map λo=>o.bind λj=>(σ[j]?).join
def cB(X:Cx)(scope:Scope)(Nc:List Str)(C:Addr)(s:Shared)(H:Hp)(ex:List Addr):Cx:=
 {X with N:=Nc,s₀:=s,H₀:=H,env:=compEnvC scope (mh scope C (dj X.env.cells scope.names [])) C X.env,outer:=X.stack,stack:=X.stack,ex:=ex,fn:=λx=>scope.names.lookup x==some .cell,pn:=[],xe:=λ_ _=>False}
def xF(n:TI)(fr:List (Option Nat))(g:TG)(c:TT)(o:TE):TE:=λσ H Q=>n σ H λJ H1=>∀l,H1 l=none->
 ∃W:Nat->Nat->L2.St->Hp->Prop,(∃m,W 0 m (σC fr σ) (upd H1 l (.lst [])))/\∀i m σ H,W i m σ H->
  (J.stop i H/\Q (.ref l) H)\/(J.go i H/\∃N:L2.St->Hp->Prop,(∀f a,N f a->∃h,h<m/\W (i+1) h f a)/\∀x a,J.nQ i H x a->
    g x σ a λd p=>c d p λb k=>if b=true then o d k λy j=>∃e,j l=some (.lst e)/\e.length<sizeLine/\N d (upd j l (.lst (e++[y])))else N d k)
def sZ(X:Cx)(b:List Expr)(t:TT):Prop:=
 ∀(a:List (Addr×Obj)) (s:Shared) (σ:St) (H:Hp) (Q:Bool->Hp->Prop),Inv X a σ H s->t σ H Q->
  wpAny (model X.prog X.w) X.A (forIn b true λc r=>if r=true then do let ok <-isTrue c X.env (eval c X.env);pure (ForInStep.yield ok)else pure (ForInStep.yield r)) (TP X a σ Q) X.xe s
def US:TT:=λ_ H Q=>Q true H
def Oi:sZ X [] US:=λ_ _ _ H _ I h=>wpAny_tests_nil ⟨H,I,h⟩
def NG(h:PT X c t):sZ X [c] t:=λa s σ H Q I q=>wpAny_tests_one (h a s σ H Q I q)
section
variable {X:Cx}{scope:Scope}{Nc:List Str}{fr:List (Option Nat)}{pins:List (Addr×Obj)}{σ:St}{H:Hp}{s:Shared}
def RN{C:Addr}{fp:List Addr}(S:cD X scope Nc fr)(I:Inv X pins σ H s)(i:C=s.heap.objs.size)(l:∀b∈fp,lS X pins H b)(k:∀b∈fp,b<s.heap.objs.size)(n:∀b∈fp,∀x c,X.env.cells.lookup x=some c->c≠b):
 (cB X scope Nc C s H fp).Ok where
 mod:=I.ok.mod
 kind:=S.kind
 glob:=I.ok.glob
 blt:=I.ok.blt
 above:=abw i.symm
 inj:=λx y c g f=>by
  let low:∀ {z},(dj X.env.cells scope.names []).lookup z=some c->c<s.heap.objs.size:=λ{z} p=>by
   obtain⟨v,q⟩:=I.cell z c (cU _ [] (λ_ _ e=>by cases e) z c p);show q.lt
  rcases i_ g with g|g<;>rcases i_ f with f|f
  . show own_apart g f
  . have a:=nU (C:=C+1) (WX _) g;let b:c<C:=by rw[i];show low f
    show absurd a (Nat.not_le_of_gt (XF b))
  . have a:=nU (C:=C+1) (WX _) f;let b:c<C:=by rw[i];show low g
    show absurd a (Nat.not_le_of_gt (XF b))
  . show I.ok.inj x y c (cU _ [] (λ_ _ e=>by cases e) x c g) (cU _ [] (λ_ _ e=>by cases e) y c f)
 has:=λx r=>by
  rcases BV r with m|m
  . obtain⟨c,e⟩:=i5 scope.names [] (I.ok.has x (S.free _ m rfl)) (.inl m);show ZC.mp (Zf _ _ _ (.inr (by rw[e];rfl)))
  . show ZC.mp (Zf _ _ _ (.inl m))
 AU:=λx c l h=>by
  let t:scope.names.lookup x=some .cell:=by
   let:(scope.names.lookup x==some .cell)=true:=l;simpa using this
  obtain⟨A,e⟩:=ZC.mp (Zf (x:=x) scope.names (C+1) [] (.inl t))
  let u:(cellsFrom (C+1) scope.names []++dj X.env.cells scope.names []).lookup x=some c:=by
   rw[<-gg];show h
  rcases qI u with q|q
  . have:=nU (C:=C+1) (WX _) (XR q);change s.heap.objs.size<=c;rw[<-i];show abh this
  . rw[q.1]at e;cases e
 hd:=I.ok.hd
 frames:=I.ok.frames
 ER:= .inl rfl
 G9:=λb d=>⟨by rw[show(cB X scope Nc C s H fp).env.locals=s.heap.objs.size from i];show Xn (k b d),λx c h=>by
  rcases i_ h with h|h
  . have a:=nU (C:=C+1) (WX _) h;let w:b<C:=by rw[i];show k b d
    show YZ (Xj w (abh a))
  . show n b d x c (cU _ [] (λ_ _ e=>by cases e) x c h)⟩
 bs:=I.bs
 td:=WZ I.ok.td I.sz
 vH:=λb o e d=>by
  let j:=(l b d).2.2.2.1;rcases j with j|j
  . show I.ok.vH b o e j
  . show absurd (W8 (I.ok.bs b o e).1) (ab3.mpr j)
 vJ:=λb d z=>by
  let q:=I.CU b z;rcases Xh.mp q with q|q
  . show(l b d).2.1 q
  . show(l b d).2.2.1 q
 kU:=I.stack
 xB:=λb d=>I.xN b d
 gt:=I.ok.gt
def Ew{i:Nat}{v:V}(h:(σC fr σ)[i]?=some (some v)):∃j,fr[i]?=some (some j)/\σ[j]?=some (some v):=by
 unfold σC at h;rw[W_]at h;cases q:fr[i]? with
 |none=>rw[q]at h;cases h
 |some o=>
  rw[q]at h;cases o with
  |none=>simp at h
  |some j=>
   simp![ZR,Option.some.injEq,Option.bind_some]at h;show⟨j,rfl,?_⟩;cases r:σ[j]? with
   |none=>rw[r]at h;cases h
   |some u=>rw[r]at h;simp at h;rw[h]
def Kg{s':Shared}{h':Heap}{C:Addr}{fp:List Addr}{t':Nat}(S:cD X scope Nc fr)(I:Inv X pins σ H s)(n:C=s.heap.objs.size)(ok:(cB X scope Nc C s H fp).Ok)(L:∀b∈fp,H b=none)
 (k:∀b o,s.heap.get? b=some o->h'.get? b=some o) (J:h'.Ns C (λ_=>none)) (g:∀x c,(x,c)∈cellsFrom (C+1) scope.names []->h'.IsCell c none):Inv (cB X scope Nc C s H fp) [] (σC fr σ) H {s with heap:=h',toks:=t'} where
 ok:=ok
 os:=rfl
 bare:=I.bare
 base:=Un.kept k
 loc:=⟨_,J,λi x v N M Q=>by
  obtain⟨j,B,A⟩:=Ew M;obtain⟨D,f,l⟩:=S.map i j x N B;obtain⟨m,P,K⟩:=I.loc
  let d:Bf X.env.scope x:=by
   rcases l with z|z
   . show .inr (.inl z)
   . show .inr (.inr z)
  obtain⟨u,r,E⟩:=K j x v D A d;show⟨u,r,?_⟩;rcases E with⟨z,_⟩|⟨z,c,e,F⟩
  . rcases l with y|y
    . rw[y]at z;cases z
    . rw[y]at z;cases z
  . show .inr ⟨CW f,?_⟩;obtain⟨O,w⟩:=i5 scope.names [] ⟨c,e⟩ (.inl (XR f));let t:=cU _ [] (λ_ _ e=>by cases e) x O w;rw[e]at t;cases t;show⟨c,?_,F.keeps k⟩;change(mh scope C (dj X.env.cells scope.names [])).lookup x=some c;unfold mh;rw[gg,vc ?_]
    . show w
    . cases q:(cellsFrom (C+1) scope.names []).lookup x with
      |none=>rfl
      |some R=>
       have:=S.cells _ (rF (XR q)) rfl;rw[f]at this;cases this⟩
 cell:=λx c h=>by
  rcases i_ h with h|h
  . show⟨_,g x c h⟩
  obtain⟨v,q⟩:=I.cell x c (cU _ [] (λ_ _ e=>by cases e) x c h);show⟨v,q.keeps k⟩
 free:=by change H C=none;rw[n];show I.aI.fresh (WX _)
 iV:=λx c h=>by
  rcases i_ h with h|h
  . have a:=nU (C:=C+1) (WX _) h;show I.aI.fresh (by rw[<-n];show abh a)
  . show I.iV x c (cU _ [] (λ_ _ e=>by cases e) x c h)
 pin:=λp G=>by cases G
 aI:=I.aI.kept k
 len:=by unfold σC;rw[W2];show S.len
def Inv.forget(I:Inv X pins σ H s)(f:lS X pins H C)(g:Heap.SameBut C s.heap h'):Inv X pins σ H {s with heap:=h'}:=by
 show I.Fu (s':={s with heap:=h'}) (ch:=[C]) rfl ?_ ?_ I.bare λb c=>?_
 . have ne:∀b,b∉[C]->b≠C:=λb c z=>c (by simp[z]);show{keep:=λb o q _ _ d=>(g.2 b (ne b d)).trans q,slot:=λb o q _ _ d=>⟨o.slots,(g.2 b (ne b d)).trans q⟩,free:=λb o q n _=>n,there:=λb o q d=>⟨o,(g.2 b (ne b d)).trans q⟩,oW:=λ_ _ e=>e,oz:=λ_ _ _ e=>e,nH:=λb h e=>⟨#[],by rw[e];simp⟩}
 . intro a o q;let na:∀b u,H b=some u->b≠C:=λb u q z=>by rw[z,f.1]at q;cases q
   show(I.aI a o q).pA (λb u c e=>?_) (λ_ q=>q) λ_ _ q=>q;rw[g.2 b ?_]
   . show e
   . rcases c with rfl|c
     . show na _ _ q
     . show na _ _ c
 . have:b=C:=by simpa using c
   subst this;show⟨f.2.2.2.1,f.2.1,f.2.2.2.2.1,f.2.2.2.2.2⟩
def wL{z tg t:Expr}{w:List Expr}{wi:TI}{g:TG}{c:TT}{te:TE}{pos:Pos}{Q:VK}{RR:Value->Addr->Result->Shared->Prop}(hx:X.xe=λ_ _=>False)(hc:X.calm=true)(S:cD X scope Nc fr)(hi:PI X tg t wi)
 (hg:∀C s H ex,PG (cB X scope Nc C s H ex) tg g) (ht:∀C s H ex,sZ (cB X scope Nc C s H ex) w c) (he:∀C s H ex,PE (cB X scope Nc C s H ex) z te) (I:Inv X pins σ H s) (h:xF wi fr g c te σ H Q)
 (bB:∀(l C:Addr) (s6:Shared) (H5:Hp) (m:Str->Option Value),s6.heap.Ns C m->lS X pins H5 C->Inv X pins σ H5 s6->Q (.ref l) H5->RR (.ref l) C (.ok .next) s6):
 wpAny (model X.prog X.w) X.A (eval t X.env) (λx s₁=>wpAny (model X.prog X.w) X.A (pyIter x) (λit s₂=>wpAny (model X.prog X.w) X.A (newList []) (λa3 s₃=>
  wpAny (model X.prog X.w) X.A (newFunctionEnv scope X.env.globals (dj X.env.cells scope.names []) [] X.env.qual none .none (some X.env)) (λF s₄=>
   codeAny (model X.prog X.w) X.A (.compStart (.ListComp z [⟨tg,t,w,0⟩] scope pos) 0 it a3 {F with scope:=relabel scope X.env}) (RR a3 F.locals) s₄) X.xe s₃) X.xe s₂) X.xe s₁) X.xe s:=by
 show bQ (hi pins s σ H _ I h) λv s1 h1=>bQ h1 λbU j h2=>?_;obtain⟨it,fp,tn,J,Y,e,I2,T,aD,f2,hR⟩:=h2;subst e;show wpAny_newList ?_ (Xq _);let V:=I2.K3 (t':=j.toks) (ao:=[]) (ys:=[]) .nil (Xq _);generalize e3:({j with heap:=j.heap.push {cls:= .type "list",data:= .seq ([]:List Value).toArray}}:Shared)=s3;let V:Inv X pins σ (upd Y j.heap.objs.size (.lst [])) s3:=by rw[<-e3];show V
 let ml:j.heap.objs.size<s3.heap.objs.size:=by rw[<-e3];change _<(j.heap.push _).objs.size;rw[XJ];lia
 let k3:∀b o,j.heap.get? b=some o->s3.heap.get? b=some o:=λb o q=>by rw[<-e3];show WU _ q
 obtain⟨W,⟨m0,w0⟩,turn⟩:=hR j.heap.objs.size (I2.aI.fresh (WX _));show vF ?_;let hn:(pushCells (s3.heap.push {cls:= .type "dict",data:= .dict #[]}) scope.names).Ns s3.heap.objs.size (λ_=>none):=(Heap.Ns.new s3.heap (.type "dict")).keeps (pushCells_keeps _ _);let aS:∀x c,(x,c)∈cellsFrom (s3.heap.objs.size+1) scope.names []->(pushCells (s3.heap.push {cls:= .type "dict",data:= .dict #[]}) scope.names).IsCell c none:=λx c h=>((RK scope.names _ (XJ ..)).empty x c h).1;let k4:∀b o,s3.heap.get? b=some o->(pushCells (s3.heap.push {cls:= .type "dict",data:= .dict #[]}) scope.names).get? b=some o:=λb o q=>pushCells_keeps _ _ b o (WU _ q);generalize(pushCells (s3.heap.push {cls:= .type "dict",data:= .dict #[]}) scope.names)=h' at hn aS k4⊢;let D:∀b∈fp,∃o,j.heap.get? b=some o/\∀v,o.data≠ .cell v:=T.obj _ _ aD;let E:∀b∈fp,b<s3.heap.objs.size:=λb a=>let⟨o,q,_⟩:=D b a;W8 (k3 b o q)
 let br:∀b∈fp,b≠j.heap.objs.size:=λb a=>by
  obtain⟨o,q,_⟩:=D b a;show Xn (W8 q)
 let P:∀b∈fp,lS X pins (upd Y j.heap.objs.size (.lst [])) b:=λb a=>⟨by rw[aB (br b a)];show(f2 b a).1,(f2 b a).2⟩
 let ok:=RN (C:=s3.heap.objs.size) (fp:=fp) S V rfl P E λb a=>(f2 b a).2.2.2.2.1
 let I4:Inv (cB X scope Nc s3.heap.objs.size s3 (upd Y j.heap.objs.size (.lst [])) fp) [] (σC fr σ) (upd Y j.heap.objs.size (.lst [])) {s3 with heap:=h',toks:=s3.toks}:=
  Kg (s':=s3) S V rfl ok (λb a=>(P b a).1) k4 hn aS
 let au:tn 0 h':=T.keep _ _ _ aD λb _ o q=>k4 b o (k3 b o q);generalize f:cB X scope Nc s3.heap.objs.size s3 (upd Y j.heap.objs.size (.lst [])) fp=Xc at I4;let bw:PG Xc tg g:=by rw[<-f];show hg _ _ _ _
 let bq:sZ Xc w c:=by rw[<-f];show ht _ _ _ _
 let bx:PE Xc z te:=by rw[<-f];show he _ _ _ _
 let K:Xc.prog=X.prog:=by rw[<-f];rfl
 let G:Xc.w=X.w:=by rw[<-f];rfl
 let xK:Xc.K=X.K:=by rw[<-f];rfl
 let xc:Xc.calm=true:=by rw[<-f];show hc
 let R:Xc.A=X.A:=by rw[<-f];rfl
 let xE:Xc.env=compEnvC scope (mh scope s3.heap.objs.size (dj X.env.cells scope.names [])) s3.heap.objs.size X.env:=by rw[<-f];rfl
 let xx:Xc.xe=λ_ _=>False:=by rw[<-f];rfl
 let O:∀ {k:Hp},(∀b∈fp,k b=none)->∀b∈fp,lS Xc [] k b:=λ{k} hn b a=>by
  rw[<-f];show⟨hn b a,Xn (E b a),ok.vJ b a,.inl a,(ok.G9 b a).2,λp hp=>by cases hp⟩
 let B:codeAny (model X.prog X.w) X.A (.compLoop (.ListComp z [⟨tg,t,w,0⟩] scope pos) 0 (.ref it) (.ref j.heap.objs.size) (compEnvC scope (mh scope s3.heap.objs.size (dj X.env.cells scope.names [])) s3.heap.objs.size X.env))
  (RR (.ref j.heap.objs.size) s3.heap.objs.size) {s3 with heap:=h',toks:=s3.toks}:=by
  show Dm (λn s'=>∃i Z k,Inv Xc [] Z k s'/\tn i s'.heap/\(∀b∈fp,k b=none)/\W i n Z k) ?_ m0 ⟨0,_,_,I4,au,λb a=>(P b a).1,w0⟩;rintro n s5 ⟨i,σ5,H5,I5,ar,a0,w5⟩;rcases turn i n σ5 H5 w5 with⟨ah,qn⟩|⟨go,N,hN,step⟩
  . have q:=T.done Xc K G xK xc i [] s5 σ5 H5 (λ_ _=>False) I5 (O a0) ar ah;rw[R]at q;show bQ q λr s6 ⟨hr,U⟩=>?_;subst hr;obtain⟨m,hm,_⟩:=U.loc;rw[xE]at hm;let M:H5 s3.heap.objs.size=none:=by let:=U.free;rw[xE]at this;show this
    let a4:Un (pL X.stack) fp (upd Y j.heap.objs.size (.lst [])) H5 s3.heap s6.heap:=by let:=U.base;rw[<-f]at this;show this
    let bp:s6.os=s3.os:=by let:=U.os;rw[<-f]at this;show this
    let aI:iB X.prog X.w H5 s6.heap:=by let:=U.aI;rw[K,G]at this;show this
    let J:=V.Fu (s':=s6) (ch:=fp) bp a4 aI U.bare λb a=>⟨(P b a).2.2.2.1,(P b a).2.1,(P b a).2.2.2.2.1,(P b a).2.2.2.2.2⟩
    show bB _ _ s6 H5 m hm (V.sv (WX _) M) J qn
  . have q:=T.item Xc K G xK xc i [] s5 σ5 H5 (λ_ _=>False) I5 (O a0) ar go;rw[R]at q;show bQ q λr s6 ⟨u,hr,h6⟩=>?_;subst hr;show bQ h6 λ_ s7 ⟨x,H7,I7,r7,y7,L,bA⟩=>?_;let bF:=I7.pinned (O bA) (T.obj _ _ L);let q8:=bw _ s7 σ5 H7 x u _ bF r7 (step x H7 y7);rw[K,G,R,xE,xx]at q8;show bQ q8 λ_ s8 ⟨A,H8,I8,q8⟩=>?_;let q9:=bq _ s8 A H8 _ I8 q8;rw[K,G,R,xE,xx]at q9;show bQ q9 λb s9 ⟨H9,I9,q9⟩=>?_
    let again:∀ {k:Hp} {s':Shared},Inv Xc ([]++tf fp s7.heap) A k s'->N A k->∃m,m<n/\∃i Z k,Inv Xc [] Z k s'/\tn i s'.heap/\(∀b∈fp,k b=none)/\W i m Z k:=λ{k s'} J nn=>by
     obtain⟨m',hm,w7⟩:=hN A k nn;show⟨m',hm,i+1,A,k,J.ig,T.keep _ _ _ L λb a o e=>(J.pin (b,o) (Xl _ (Xl _ (m7 a e)))).1,λb a=>?_,w7⟩;obtain⟨o,e,d⟩:=T.obj _ _ L b a;show(J.pin (b,o) (Xl _ (Xl _ (m7 a e)))).2.1
    cases b with
    |false=>show again I9 q9
    |true=>
     have qe:=bx _ s9 A H9 _ I9 q9;rw[K,G,R,xE,xx]at qe;show bQ qe λy a5 ⟨vy,bP,bO,ry,ys,hy,bu,qN⟩=>?_;let qa:=zj (X:=Xc) _ a5 A bP (.ref j.heap.objs.size) [vy] (.ref j.heap.objs.size) [y] (λ_ k=>N A k) bO rfl (.cons ry .nil) ⟨_,ys,vy,rfl,rfl,hy,bu,qN⟩;rw[K,G,R,xx]at qa;show bQ qa λ_ bT ⟨_,bZ,bM,_,bl⟩=>again bM bl
 show codeAny_compStart_list ?_ ?_
 . show B
 . show T.self _ 0 _ _ _ au B
def Ep{e i a:Expr}{g:TG}(j:X.xe=λ_ _=>False)(z:X.calm=true)(S:cD X scope Nc fr)(hi:PI X i a o)
 (w:∀C s H ex,PG (cB X scope Nc C s H ex) i g) (r:∀C s H ex,sZ (cB X scope Nc C s H ex) b c) (y:∀C s H ex,PE (cB X scope Nc C s H ex) e p)
 (t:∀x,foldedSetIterable a X.env x=pure x:=by intro _;rfl):PE X (.ListComp e [⟨i,a,b,0⟩] scope pos) (xF o fr g c p):=by
 intro pins s σ H Q I h;rw[eval_ListComp];let k:closureFor scope X.env=pure (dj X.env.cells scope.names []):=mG λx j v=>I.ok.has x.1 (S.free x j v);show wpAny_comprehension_free rfl t k S.kind S.names ?_;show wL (RR:=λn C=>compPost (model X.prog X.w) X.A X.xe none (EP X pins σ Q) n C) j z S hi w r y I h λl C D B m u f J q=>⟨m,u,λA d=>⟨.ref l,B,Inv.forget J f d,rfl,q⟩⟩
def Ov{k p d:Expr}{j:List Expr}{G:TI}{g:TG}{c:TT}{K:TE}{pos b n:Pos}{i:Nat}{x:Str}(u:X.xe=λ_ _=>False)(W:X.calm=true)(S:cD X scope Nc fr)(hi:PI X p d G)
 (T:∀C s H ex,PG (cB X scope Nc C s H ex) p g) (L:∀C s H ex,sZ (cB X scope Nc C s H ex) j c) (V:∀C s H ex,PE (cB X scope Nc C s H ex) k K) (Y:X.N.Nodup) (w:X.N[i]?=some x) (P:Loc X.env.scope x) (U:X.fn x=true\/X.env.scope.names.lookup x=some .local)
 (v:swapsWith (.ListComp k [⟨p,d,j,0⟩] scope pos) (some (.Name x b)) n.line X.env=pure true)
 (M:∀x,foldedSetIterable d X.env x=pure x:=by intro _;rfl):PS X (.Assign [.Name x b] (.ListComp k [⟨p,d,j,0⟩] scope pos) n) (oY (xF G fr g c K) (jO i)):=by
 intro pins s σ H D I h;let y:closureFor scope X.env=pure (dj X.env.cells scope.names []):=mG λx u R=>I.ok.has x.1 (S.free x u R);rw[exec_Assign_Name_used _ _ _ _ v];show WT (aaG (WT ?_));change wpAny _ X.A (do let _ <-comprehension (.ListComp k [⟨p,d,j,0⟩] scope pos) scope X.env _ (newList []) false (eval d X.env) (some (assign (.Name x b) X.env))) _ _ s
 show WT (YU (wpAny_comprehension_free (use:=some (assign (.Name x b) X.env)) (Q:=λ_ t=>SP X pins D .next t) rfl M y S.kind S.names
  (wL (RR:=λF C=>compPost (model X.prog X.w) X.A X.xe (some (assign (.Name x b) X.env)) (λ_ t=>SP X pins D .next t) F C) u W S hi T L V I h λl C s6 H5 m O f J q=>?_)) (λ_ t N=>W5 (W5 N)) λ_ _ e=>e)
 change wpAny _ X.A (assign (.Name x b) X.env (.ref l)) _ _ _;show wpAny_assign_Name (zw J Y w P (show RelV (.ref l) (.ref l)from rfl) (λs7 J7 A=>?_) U);obtain⟨a,o,B⟩:=A
 let E:C≠a:=by
  rcases B with rfl|B
  . show f.2.1
  . show λz=>f.2.2.2.2.1 x a B z.symm
 show⟨m,O.sameBut o E,λZ r=>⟨σ.set i (some (.ref l)),H5,Inv.forget J7 f r,q⟩⟩
end
inductive D where
 |aD|bl (b:Bool)|int (i:Int)|str (x:Str)|ty (n:String)|ref (n:Nat)|lst (xs:List D)|tup (xs:List D)
inductive Cell where
 |lst (xs:List D)|ins (C:Addr) (fs:List (Str×D))|dead
  |tab (P:Addr) (pos:Pos) (qual:Str) (b:Bool)
abbrev af:=List Cell
abbrev bX:=List (Option D)
mutual
def Rep(α:List (Option Addr))(H:Hp):D->V->Prop
 | .aD,v=>v= .aD
 | .bl b,v=>v= .bl b
 | .int i,v=>v= .int i
 | .str x,v=>v= .str x
 | .ty n,v=>v= .ty n
 | .ref n,v=>α[n]?=some none\/∃a,α[n]?=some (some a)/\v= .ref a
 | .lst d,v=>∃a c,v= .ref a/\some a∉α/\Rd H a (.lst c)/\aG α H d c
 | .tup d,v=>∃a c,v= .ref a/\some a∉α/\H a=some (.tup c)/\aG α H d c
def aG(α:List (Option Addr))(H:Hp):List D->List V->Prop
 | [],a=>a=[]
 |d::ds,a=>∃v r,a=v::r/\Rep α H d v/\aG α H ds r
end
def aV:∀ {c:List D} {vs:List V},aG α H c vs↔Paired (Rep α H) c vs
 | [],vs=>by
   unfold aG;constructor
   . rintro rfl;show .nil
   . intro h;cases h;rfl
 |d::c,vs=>by
  unfold aG;constructor
  . rintro⟨v,r,rfl,b,a⟩;show .cons b (aV.mp a)
  . intro h;cases h with|cons b a=>show⟨_,_,rfl,b,aV.mpr a⟩
section
variable {α:List (Option Addr)}{H:Hp}
def aG.length{a:List D}{vs:List V}(h:aG α H a vs):a.length=vs.length:=Paired.length (aV.mp h)
def wY{A B:Type}{F:A->B->Prop}:∀ {xs:List A} {ys:List B} {i:Nat} {x:A},Paired F xs ys->xs[i]?=some x->∃y,ys[i]?=some y/\F x y
 |_,_,_,_,.nil,e=>by simp at e
 |_,_,0,_,.cons r _,e=>by simp at e;subst e;show⟨_,rfl,r⟩
 |_,_,i+1,x,.cons _ t,e=>by
  obtain⟨u,b,a⟩:=wY (i:=i) (x:=x) t (by simpa using e);show⟨u,by simpa using b,a⟩
def dJ{A B:Type}{F:A->B->Prop}:∀ {xs a:List A} {ys ys':List B},Paired F xs ys->Paired F a ys'->Paired F (xs++a) (ys++ys')
 |_,_,_,_,.nil,s=>s
 |_,_,_,_,.cons r t,s=> .cons r (dJ t s)
def uT{A B:Type}{F:A->B->Prop}:∀ {xs:List A} {ys:List B} (n:Nat),Paired F xs ys->Paired F (xs.take n) (ys.take n)
 |_,_,0,_=> .nil
 |_,_,_+1,.nil=> .nil
 |_,_,n+1,.cons r t=> .cons r (uT n t)
def u6{A B:Type}{F:A->B->Prop}:∀ {xs:List A} {ys:List B} (n:Nat),Paired F xs ys->Paired F (xs.drop n) (ys.drop n)
 |_,_,0,r=>r
 |_,_,_+1,.nil=> .nil
 |_,_,n+1,.cons _ t=>u6 n t
def qH{A B:Type}{F:A->B->Prop}{x:A}{y:B}(r:F x y):∀ {xs:List A} {ys:List B} (i:Nat),Paired F xs ys->Paired F (xs.set i x) (ys.set i y)
 |_,_,_,.nil=> .nil
 |_,_,0,.cons _ t=> .cons r t
 |_,_,i+1,.cons q t=> .cons q (qH r i t)
def pk{A B:Type}{F:A->B->Prop}{xs:List A}{ys:List B}(h:Paired F xs ys):∀k:Nat,Paired F (List.replicate k xs).flatten (List.replicate k ys).flatten
 |0=> .nil
 |k+1=>by
  rw[YL,YL,XE,XE];show dJ h (pk h k)
def aG.get{a:List D}{vs:List V}{i:Nat}{d:D}(h:aG α H a vs)(e:a[i]?=some d):∃v,vs[i]?=some v/\Rep α H d v:=wY (aV.mp h) e
end
structure Step(α:List (Option Addr))(H:Hp)(α':List (Option Addr))(H':Hp):Prop where
 ext:∀b o,some b∉α->H b=some o->H' b=some o
 pre:∀(n:Nat) (x:Option Addr),α[n]?=some x->α'[n]?=some x\/α'[n]?=some none
 new:∀b,some b∈α'->some b∉α->H b=none
def Step.refl:Step α H α H:=⟨λ_ _ _ h=>h,λ_ _ h=> .inl h,λ_ h n=>absurd h n⟩
def Step.trans{H H1 k:Hp}(a:Step α H f H1)(b:Step f H1 i k):Step α H i k where
 ext:=λc o d e=>b.ext c o (λz=>by rw[a.new c z d]at e;cases e) (a.ext c o d e)
 pre:=λn x e=>by
  rcases a.pre n x e with h|h
  . show b.pre n x h
  . rcases b.pre n none h with g|g
    . show .inr g
    . show .inr g
 new:=λc d n=>by
  by_cases j:some c∈f
  . show a.new c j n
  . have:=b.new c d j;cases q:H c with
    |none=>rfl
    |some o=>rw[a.ext c o n q]at this;cases this
def Step.laid(h:H p=none):Step α H α (upd H p o):=
 ⟨λb u _ e=>by rw[aB (dz e h)];show e,λ_ _ h=> .inl h,λ_ h n=>absurd h n⟩
def Step.cell(h:H p=none):Step α H (α++[some p]) (upd H p o):=
 ⟨λb u _ e=>by rw[aB (dz e h)];show e,λn x e=> .inl (by rw[W3 (WV.mp e).1];show e),λb a n=>by
  rcases XY.mp a with z|z
  . show absurd z n
  . have:b=p:=by simpa using z
    subst this;show h⟩
def Step.write(h:some p∈α):Step α H α (upd H p o):=
 ⟨λb u n e=>by rw[aB (λz=>by subst z;show n h)];show e,λ_ _ h=> .inl h,λ_ h n=>absurd h n⟩
mutual
def Rep.step(s:Step α H c f):∀ {d:D} {v:V},Rep α H d v->Rep c f d v
 | .aD,_,h=>by unfold Rep at h⊢;show h
 | .bl _,_,h=>by unfold Rep at h⊢;show h
 | .int _,_,h=>by unfold Rep at h⊢;show h
 | .str _,_,h=>by unfold Rep at h⊢;show h
 | .ty _,_,h=>by unfold Rep at h⊢;show h
 | .ref n,_,h=>by
   unfold Rep at h⊢;rcases h with h|⟨a,e,r⟩
   . rcases s.pre _ _ h with z|z<;>show .inl z
   . rcases s.pre _ _ e with z|z
     . show .inr ⟨a,z,r⟩
     . show .inl z
 | .lst g,_,h=>by
   unfold Rep at h⊢;obtain⟨a,b,e,n,r,q⟩:=h;show⟨a,b,e,λz=>?_,?_,aG.step s q⟩
   . have:=s.new a z n;rcases r with r|⟨o,r⟩<;>(rw[this]at r;cases r)
   . rcases r with r|⟨o,r⟩
     . show .inl (s.ext _ _ n r)
     . show .inr ⟨o,s.ext _ _ n r⟩
 | .tup g,_,h=>by
   unfold Rep at h⊢;obtain⟨a,b,e,n,r,q⟩:=h;show⟨a,b,e,(λz=>by rw[s.new a z n]at r;show nomatch r),s.ext _ _ n r,aG.step s q⟩
def aG.step(s:Step α H b c):∀ {a:List D} {vs:List V},aG α H a vs->aG b c a vs
 | [],_,h=>by unfold aG at h⊢;show h
 |d::a,_,h=>by
  unfold aG at h⊢;obtain⟨v,r,e,g,f⟩:=h;show⟨v,r,e,Rep.step s g,aG.step s f⟩
end
structure cu(G F H:Hp):Prop where
 eq:∀b,H b=(G b).or (F b)
 BG:∀b o,G b=some o->F b=none
section
variable {G F H:Hp}
def cu.get(P:cu G F H)(h:G b=some o):H b=some o:=by rw[P.eq b,h];rfl
def cu.same(P:cu G F H):Lo G H:=λ_ _ h=>P.get h
def cu.none(P:cu G F H)(h:H b=none):G b=none/\F b=none:=by
 let e:=P.eq b;rw[h]at e;cases q:G b with
 |none=>rw[q]at e;show⟨rfl,e.symm⟩
 |some o=>rw[q]at e;cases e
def cu.frame(P:cu G F H)(h:F b=some o):H b=some o/\G b=Option.none:=by
 let a:G b=Option.none:=by
  cases q:G b with
  |none=>rfl
  |some u=>rw[P.BG b u q]at h;cases h
 show⟨by rw[P.eq b,a,h];rfl,a⟩
def cu.laid(P:cu G F H)(h:H p=Option.none):cu (upd G p o) F (upd H p o):=by
 obtain⟨d,c⟩:=P.none h;show⟨λb=>?_,λb u e=>?_⟩
 . by_cases a:b=p
   . subst a;rw[a9,a9];rfl
   . rw[aB a,aB a];show P.eq b
 . by_cases a:b=p
   . subst a;show c
   . rw[aB a]at e;show P.BG b u e
def cu.write(P:cu G F H)(h:G p=some o):cu (upd G p o') F (upd H p o'):=by
 show⟨λb=>?_,λb u e=>?_⟩
 . by_cases a:b=p
   . subst a;rw[a9,a9];rfl
   . rw[aB a,aB a];show P.eq b
 . by_cases a:b=p
   . subst a;show P.BG b o h
   . rw[aB a]at e;show P.BG b u e
def cu.hide(P:cu G F H)(h:H p=Option.none):cu G (upd F p o) (upd H p o):=by
 obtain⟨c,d⟩:=P.none h;show⟨λb=>?_,λb u e=>?_⟩
 . by_cases a:b=p
   . subst a;rw[a9,a9,c];rfl
   . rw[aB a,aB a];show P.eq b
 . by_cases a:b=p
   . subst a;rw[c]at e;cases e
   . rw[aB a];show P.BG b u e
def cu.Wz(P:cu G F H)(h:F p=some o):cu G (upd F p o') (upd H p o'):=by
 let c:=(P.frame h).2;show⟨λb=>?_,λb u e=>?_⟩
 . by_cases a:b=p
   . subst a;rw[a9,a9,c];rfl
   . rw[aB a,aB a];show P.eq b
 . by_cases a:b=p
   . subst a;rw[c]at e;cases e
   . rw[aB a];show P.BG b u e
def cu.show(P:cu G (upd F p o) H)(h:F p=Option.none):cu (upd G p o) F H:=by
 let c:=(P.frame (b:=p) a9)
 show⟨λb=>?_,λb u e=>?_⟩
 . by_cases a:b=p
   . subst a;rw[a9,c.1];rfl
   . rw[aB a,P.eq b,aB a]
 . by_cases a:b=p
   . subst a;show h
   . rw[aB a]at e;let:=P.BG b u e;rw[aB a]at this;show this
end
mutual
def Rep.mono(s:Lo G H):∀ {d:D} {v:V},Rep α G d v->Rep α H d v
 | .aD,_,h=>by unfold Rep at h⊢;show h
 | .bl _,_,h=>by unfold Rep at h⊢;show h
 | .int _,_,h=>by unfold Rep at h⊢;show h
 | .str _,_,h=>by unfold Rep at h⊢;show h
 | .ty _,_,h=>by unfold Rep at h⊢;show h
 | .ref n,_,h=>by unfold Rep at h⊢;show h
 | .lst c,_,h=>by
   unfold Rep at h⊢;obtain⟨a,b,e,n,r,q⟩:=h;show⟨a,b,e,n,?_,aG.mono s q⟩;rcases r with r|⟨o,r⟩
   . show .inl (s _ _ r)
   . show .inr ⟨o,s _ _ r⟩
 | .tup c,_,h=>by
   unfold Rep at h⊢;obtain⟨a,b,e,n,r,q⟩:=h;show⟨a,b,e,n,s _ _ r,aG.mono s q⟩
def aG.mono(s:Lo G H):∀ {a:List D} {vs:List V},aG α G a vs->aG α H a vs
 | [],_,h=>by unfold aG at h⊢;show h
 |d::a,_,h=>by
  unfold aG at h⊢;obtain⟨v,r,e,c,b⟩:=h;show⟨v,r,e,Rep.mono s c,aG.mono s b⟩
end
def j7(α:List (Option Addr))(H:Hp):List (Str×D)->List (Str×V)->Prop:=Paired λp q=>p.1=q.1/\Rep α H p.2 q.2
def kB(α:List (Option Addr))(H:Hp)(a:Addr):Cell->Prop
 | .lst xs=>∃d,H a=some (.lst d)/\aG α H xs d
 | .ins C fs=>∃h d,H a=some (.ins C h d)/\j7 α H fs d
 | .dead=>False
 | .tab P f e b=>a=P/\∃g:Array Value,H a=some (.kq g)/\TriplesOk g.toList/\
    ((b=false/\codeAmong f g.toList=none)\/(b=true/\∃c o d t,codeAmong f g.toList=some (.ref c)/\some c∉α/\H c=some (.gG o (.own c))/\o.data= .fields d/\d[1]?=some (.str e t)))
structure aY(α:List (Option Addr))(st:af)(H:Hp):Prop where
 len:α.length=st.length
 nd:∀(i j:Nat) (a:Addr),α[i]?=some (some a)->α[j]?=some (some a)->i=j
 at':∀(n:Nat) (c:Cell),st[n]?=some c->(c= .dead/\α[n]?=some none)\/∃a,α[n]?=some (some a)/\kB α H a c
def j7.step(s:Step α H a c)(h:j7 α H b vs):j7 a c b vs:=Paired.Ku h λ_ _ z=>⟨z.1,z.2.step s⟩
def kB.same{H k:Hp}(s:Step α H l k)(e:k a=H a)(h:kB α H a c):kB l k a c:=by
 cases c with
 |lst x=>obtain⟨d,g,f⟩:=h;show⟨d,e.trans g,f.step s⟩
 |ins C fs=>obtain⟨w,d,g,f⟩:=h;show⟨w,d,e.trans g,f.step s⟩
 |dead=>show h.elim
 |tab P u m b=>
  obtain⟨z,r,g,f,j⟩:=h;show⟨z,r,e.trans g,f,?_⟩;rcases j with j|⟨v,c,o,d,t,q,n,i,p⟩
  . show .inl j
  . show .inr ⟨v,c,o,d,t,q,(λy=>by rw[s.new c y n]at i;cases i),s.ext c _ n i,p⟩
def kB.some(h:kB α H a c):∃o,H a=some o:=by
 cases c with
 |lst j=>obtain⟨f,d,i⟩:=h;show⟨_,d⟩
 |ins C fs=>obtain⟨l,f,d,i⟩:=h;show⟨_,d⟩
 |dead=>show h.elim
 |tab P g e b=>obtain⟨_,k,d,_⟩:=h;show⟨_,d⟩
def cZ(e:α[n]?=Option.some (Option.some a))(r:Rep α H (.ref n) v):v= .ref a:=by
 unfold Rep at r;rcases r with r|⟨b,c,rfl⟩
 . rw[e]at r;cases r
 . rw[e]at c;cases c;rfl
section
variable {α:List (Option Addr)}{st:af}{H:Hp}
def aY.ie(S:aY α st H){n:Nat}{xs:List D}(e:st[n]?=Option.some (.lst xs)):∃a,α[n]?=Option.some (Option.some a)/\∃vs,H a=Option.some (.lst vs)/\aG α H xs vs:=by
 rcases S.at' n _ e with⟨z,_⟩|z
 . cases z
 . show z
def aY.xq(S:aY α st H){n:Nat}{C:Addr}{fs:List (Str×D)}(e:st[n]?=Option.some (.ins C fs)):∃a,α[n]?=Option.some (Option.some a)/\∃b vs,H a=Option.some (.ins C b vs)/\j7 α H fs vs:=by
 rcases S.at' n _ e with⟨z,_⟩|z
 . cases z
 . show z
def aY.mem(S:aY α st H)(h:Option.some a∈α):∃(n:Nat) (c:Cell),α[n]?=Option.some (Option.some a)/\st[n]?=Option.some c/\kB α H a c:=by
 obtain⟨n,d,e⟩:=Xp.mp h;let f:n<st.length:=by rw[<-S.len];show d
 let b:α[n]?=Option.some (Option.some a):=by rw[W7 d,e]
 rcases S.at' n st[n] (by simp[f])with⟨_,q⟩|⟨a',q,ca⟩
 . rw[b]at q;cases q
 . rw[b]at q;cases q;show⟨n,_,b,by simp[f],ca⟩
def aY.jW(S:aY α st H)(h:H p=none):Option.some p∉α:=λz=>by
 obtain⟨n,c,_,_,a⟩:=S.mem z;obtain⟨o,e⟩:=a.some;rw[h]at e;cases e
def aY.laid(S:aY α st H)(h:H p=none):aY α st (upd H p o):=
 ⟨S.len,S.nd,λn c e=>by
  rcases S.at' n c e with z|⟨a,q,b⟩
  . show .inl z
  . show .inr ⟨a,q,b.same (Step.laid h) (aB (by obtain⟨u,z⟩:=b.some;show dz z h))⟩⟩
def aY.cell(S:aY α st H)(h:H p=none)(w:kB (α++[Option.some p]) (upd H p o) p c):aY (α++[Option.some p]) (st++[c]) (upd H p o) where
 len:=by rw[X8,X8,S.len];rfl
 nd:=λi j a B A=>by
  let b:∀(i:Nat) (a:Addr),(α++[Option.some p])[i]?=Option.some (Option.some a)->(i<α.length/\α[i]?=Option.some (Option.some a))\/(i=α.length/\a=p):=by
   intro i a e;by_cases r:i<α.length
   . rw[W3 r]at e;show .inl ⟨r,e⟩
   . rw[Xr (aad r)]at e
     let g:i-α.length=0:=by
      cases q:i-α.length with
      |zero=>rfl
      |succ k=>rw[q]at e;simp at e
     rw[g]at e;let:p=a:=by simpa using e
     show .inr ⟨by lia,this.symm⟩
  rcases b i a B with⟨y,m⟩|⟨y,m⟩<;>rcases b j a A with⟨x,l⟩|⟨x,l⟩
  . show S.nd i j a m l
  . subst l;show absurd (Xu m) (S.jW h)
  . subst m;show absurd (Xu l) (S.jW h)
  . lia
 at':=λn d e=>by
  by_cases f:n<st.length
  . rw[W3 f]at e;let s:n<α.length:=by rw[S.len];show f
    rcases S.at' n d e with⟨z,q⟩|⟨a,q,t⟩
    . show .inl ⟨z,by rw[W3 s];show q⟩
    . show .inr ⟨a,by rw[W3 s];show q,t.same (Step.cell h) (aB (by obtain⟨u,z⟩:=t.some;show dz z h))⟩
  . rw[Xr (aad f)]at e
    let g:n-st.length=0:=by
     cases q:n-st.length with
     |zero=>rfl
     |succ k=>rw[q]at e;simp at e
    rw[g]at e;let v:c=d:=by simpa using e
    subst v;show .inr ⟨p,?_,w⟩;rw[Xr (by rw[S.len];show aad f),S.len,g];rfl
def aY.write(S:aY α st H)(e:α[n]?=Option.some (Option.some p))(h:kB α (upd H p o) p c):aY α (st.set n c) (upd H p o) where
 len:=by rw[Xf];show S.len
 nd:=S.nd
 at':=λm d q=>by
  let f:Option.some p∈α:=Xu e;by_cases b:m=n
  . subst b
    let g:m<st.length:=by
     let:=(WV.mp q).1;rw[Xf]at this;show this
    rw[W9 g]at q;cases q;show .inr ⟨p,e,h⟩
  . rw[W0 (W4 b)]at q;rcases S.at' m d q with z|⟨a,r,i⟩
    . show .inl z
    . show .inr ⟨a,r,i.same (Step.write f) (aB λz=>?_)⟩;subst z;show b (S.nd m n _ r e)
end
abbrev DK:=D->af->Prop
abbrev DE:=bX->af->DK->Prop
abbrev DT:=bX->af->(Bool->af->Prop)->Prop
abbrev DA:=bX->af->(List D->af->Prop)->Prop
structure jl where
 nx:bX->af->Prop
 rt:DK
 bk:bX->af->Prop:=λ_ _=>False
 ct:bX->af->Prop:=λ_ _=>False
abbrev DS:=jl->bX->af->Prop
structure dU(α:List (Option Addr))(H:Hp)(σd:bX)(σ:L2.St):Prop where
 len:σd.length=σ.length
 at':∀(i:Nat) (d:D),σd[i]?=some (some d)->∃v,σ[i]?=some (some v)/\Rep α H d v
def dU.step(s:Step α H b c)(h:dU α H a σ):dU b c a σ:=
 ⟨h.len,λi d e=>let⟨v,q,r⟩:=h.at' i d e;⟨v,q,r.step s⟩⟩
def dU.set{a:bX}{σ:L2.St}(h:dU α H a σ)(i:Nat)(r:Rep α H d v):dU α H (a.set i (some d)) (σ.set i (some v)):=by
 show⟨by rw[Xf,Xf,h.len],λj e q=>?_⟩;let f:=h.len;by_cases c:j=i
 . subst c
   let b:j<a.length:=by
    let:=(WV.mp q).1;rw[Xf]at this;show this
   rw[W9 b]at q;cases q;show⟨v,W9 (by lia),r⟩
 . rw[W0 (W4 c)]at q;rw[W0 (W4 c)];show h.at' j e q
def LK(α:List (Option Addr))(G F:Hp)(K:DK)(Q:VK):Prop:=∀d a,K d a->∀c b e v,Step α G c b->cu b F e->aY c a b->Rep c b d v->Q v e
def Mm(α:List (Option Addr))(G F:Hp)(K:Bool->af->Prop)(Q:Bool->Hp->Prop):Prop:=∀b a,K b a->∀d c e,Step α G d c->cu c F e->aY d a c->Q b e
def Wr(α:List (Option Addr))(G F:Hp)(K:List D->af->Prop)(Q:List V->Hp->Prop):Prop:=∀e a,K e a->∀c b f d,Step α G c b->cu b F f->aY c a b->aG c b e d->Q d f
inductive Vn(t:DE)(σ:L2.St)(H:Hp)(Q:VK):Prop
 |mk (α:List (Option Addr)) (σd:bX) (st:af) (K:DK) (G F:Hp) (P:cu G F H) (R:dU α G σd σ) (S:aY α st G) (h:t σd st K) (k:LK α G F K Q):Vn t σ H Q
def LE(t:DE):TE:=Vn t
inductive Vd(t:DT)(σ:L2.St)(H:Hp)(Q:Bool->Hp->Prop):Prop
 |mk (α:List (Option Addr)) (σd:bX) (st:af) (K:Bool->af->Prop) (G F:Hp) (P:cu G F H) (R:dU α G σd σ) (S:aY α st G) (h:t σd st K) (k:Mm α G F K Q):Vd t σ H Q
def LT(t:DT):TT:=Vd t
inductive Vr(t:DA)(σ:L2.St)(H:Hp)(Q:List V->Hp->Prop):Prop
 |mk (α:List (Option Addr)) (σd:bX) (st:af) (K:List D->af->Prop) (G F:Hp) (P:cu G F H) (R:dU α G σd σ) (S:aY α st G) (h:t σd st K) (k:Wr α G F K Q):Vr t σ H Q
def LA(t:DA):TA:=Vr t
def LK.here{α:List (Option Addr)}{G F H:Hp}{K:DK}{Q:VK}(h:LK α G F K Q)(P:cu G F H){d:D}{st:af}{v:V}(k:K d st)(S:aY α st G)(r:Rep α G d v):Q v H:=h d st k α G H v Step.refl P S r
def LK.at{α b:List (Option Addr)}{G F c:Hp}{K:DK}{Q:VK}(h:LK α G F K Q)(s:Step α G b c):LK b c F K Q:=λd a k e i g v f P S r=>h d a k e i g v (s.trans f) P S r
def Mm.at{α b:List (Option Addr)}{G F c:Hp}{K:Bool->af->Prop}{Q:Bool->Hp->Prop}(h:Mm α G F K Q)(s:Step α G b c):Mm b c F K Q:=λd a k e i g f P S=>h d a k e i g (s.trans f) P S
section
variable {X:Cx}{a b c e:Expr}{es:List Expr}{ta tb tc te:DE}{pos:Pos}
def PE.imp(h:PE X e t)(f:∀σ H Q,t' σ H Q->t σ H Q):PE X e t':=λd s σ H Q I q=>h d s σ H Q I (f σ H Q q)
def PT.imp(h:PT X e t)(f:∀σ H Q,t' σ H Q->t σ H Q):PT X e t':=λd s σ H Q I q=>h d s σ H Q I (f σ H Q q)
def PW.imp(h:PW X e t)(f:∀σ H Q,t' σ H Q->t σ H Q):PW X e t':=λw d s σ H Q I q=>h w d s σ H Q I (f σ H Q q)
def PA.imp(h:PA X es t)(f:∀σ H Q,t' σ H Q->t σ H Q):PA X es t':=λp d s σ H Q I q=>h p d s σ H Q I (f σ H Q q)
def aa(i:Nat):DE:=λσ st K=>match σ[i]? with|some (some d)=>K d st|_=>False
def dC(d:D):DE:=λ_ st K=>K d st
def SX(h:PE X (.Name x pos) (Sb i)):PE X (.Name x pos) (LE (aa i)):=PE.imp h λσ H Q ⟨α,f,st,K,G,F,P,R,S,t,k⟩=>by
 unfold aa at t;split at t
 . rename_i d q;obtain⟨v,e,r⟩:=R.at' i d q;show⟨v,e,k.here P t S r⟩
 . show t.elim
def p7(h:PE X e (tC v))(r:∀α H,Rep α H d v):PE X e (LE (dC d)):=PE.imp h λσ H Q ⟨α,f,st,K,G,F,P,R,S,t,k⟩=>k.here P t S (r α G)
def Uu:PE X (.Constant (.int i) j pos) (LE (dC (.int i))):=p7 Sn λ_ _=>by unfold Rep;rfl
def V2:PE X (.Constant (.bool i) j pos) (LE (dC (.bl i))):=p7 Uh λ_ _=>by unfold Rep;rfl
def Te:PE X (.Constant (.str i) j pos) (LE (dC (.str i))):=p7 Q9 λ_ _=>by unfold Rep;rfl
def TR:PE X (.Constant .none j pos) (LE (dC .aD)):=p7 Rz λ_ _=>by unfold Rep;rfl
abbrev cV:=D->D->af->DK->Prop
abbrev BN:=D->af->DK->Prop
abbrev d8:=List D->af->DK->Prop
inductive Vj(r:cV)(x y:V)(H:Hp)(Q:VK):Prop
 |mk (α:List (Option Addr)) (d e:D) (st:af) (K:DK) (G F:Hp) (P:cu G F H) (rx:Rep α G d x) (ry:Rep α G e y) (S:aY α st G) (h:r d e st K) (k:LK α G F K Q):Vj r x y H Q
def LR(r:cV):R2:=Vj r
inductive PN(r:BN)(x:V)(H:Hp)(Q:VK):Prop
 |mk (α:List (Option Addr)) (d:D) (st:af) (K:DK) (G F:Hp) (P:cu G F H) (rx:Rep α G d x) (S:aY α st G) (h:r d st K) (k:LK α G F K Q):PN r x H Q
def Nd(r:BN):V->Hp->VK->Prop:=PN r
inductive RZ(r:d8)(xs:List V)(H:Hp)(Q:VK):Prop
 |mk (α:List (Option Addr)) (ds:List D) (st:af) (K:DK) (G F:Hp) (P:cu G F H) (rx:aG α G ds xs) (S:aY α st G) (h:r ds st K) (k:LK α G F K Q):RZ r xs H Q
def fy(r:d8):List V->Hp->VK->Prop:=RZ r
def ai(r:cV)(ta tb:DE):DE:=λσ st K=>ta σ st λx f=>tb σ f λy d=>r x y d K
def iU(r:BN)(ta:DE):DE:=λσ st K=>ta σ st λx d=>r x d K
def LE.op(h:LE (ai r ta tb) σ H Q):Hl (LR r) (LE ta) (LE tb) σ H Q:=by
 obtain⟨α,i,st,K,G,F,P,R,S,t,k⟩:=h;show⟨α,i,st,_,G,F,P,R,S,t,λd g q n B H1 v l z x p=>?_⟩;show⟨n,i,g,_,B,F,z,R.step l,x,q,λu f s m A D C j y w o=>?_⟩;show⟨m,d,u,f,K,A,F,y,p.step j,o,w,s,(k.at l).at j⟩
def LE.un(h:LE (iU r ta) σ H Q):Vp (Nd r) (LE ta) σ H Q:=by
 obtain⟨α,g,st,K,G,F,P,R,S,t,k⟩:=h;show⟨α,g,st,_,G,F,P,R,S,t,λd f q i o H1 v j n m l=>?_⟩;show⟨i,d,f,K,o,F,n,l,m,q,k.at j⟩
def VZ(d:bW X (binaryOp op) (LR r))(g:PE X a (LE ta))(f:PE X b (LE tb)):PE X (.BinOp a op b pos) (LE (ai r ta tb)):=PE.imp (SN d g f) λ_ _ _ h=>LE.op h
def Wa(d:EW X (unaryOp op) (Nd r))(f:PE X a (LE ta)):PE X (.UnaryOp op a pos) (LE (iU r ta)):=PE.imp (Uv d f) λ_ _ _ h=>LE.un h
def To(d:bW X (compareOp op) (LR r))(i:PE X a (LE ta))(g:PE X b (LE tb))(f:behindInMarks op b=false:=by first|show dv _|rfl):PE X (.Compare a [op] [b] pos) (LE (ai r ta tb)):=PE.imp (O8 d i g f) λ_ _ _ h=>LE.op h
def a_(t:DE):DT:=λσ st K=>t σ st λd f=>match d with| .bl b=>K b f|_=>False
def LT.test(h:LT (a_ te) σ H Q):LE te σ H λx o=>∃k,x= .bl k/\Q k o:=by
 obtain⟨α,i,st,K,G,F,P,R,S,t,k⟩:=h;show⟨α,i,st,_,G,F,P,R,S,t,λd f q j p H1 v l n m g=>?_⟩;cases d with
 |bl b=>
  unfold Rep at g;show⟨b,g,k b f q j p H1 l n m⟩
 |_=>show q.elim
def RU(d:bW X (compareOp op) (LR r))(i:PE X a (LE ta))(g:PE X b (LE tb))(f:behindInMarks op b=false:=by first|show dv _|rfl):PT X (.Compare a [op] [b] pos) (LT (a_ (ai r ta tb))):=PT.imp (Of d i g f) λσ H Q h=>by
 let q:=LT.test h;show LE.op (Q:=λx j=>∃k,x= .bl k/\Q k j) q
def Rt(f:PE X e (LE te))(d:∀whole,isTrue e X.env whole=(do let v <-whole;standAt e.pos;holding [v] (truthy v)):=by intro _;rfl):PT X e (LT (a_ te)):=PT.imp (RP f d) λσ H Q h=>LT.test h
def gp(t:DT):DT:=λσ st K=>t σ st λb d=>K (!b) d
def ue(t u:DT):DT:=λσ st K=>t σ st λb d=>if b=true then u σ d K else K false d
def mN(t u:DT):DT:=λσ st K=>t σ st λb d=>if b=true then K true d else u σ d K
def Qi(i:PT X a (LT t)):PT X (.UnaryOp .Not a pos) (LT (gp t)):=PT.imp (Qr i) λσ H Q ⟨α,f,st,K,G,F,P,R,S,t,k⟩=>
 ⟨α,f,st,_,G,F,P,R,S,t,λb d q g m H1 h l j=>k _ d q g m H1 h l j⟩
def LT.and(h:LT (ue t u) σ H Q):PQ (LT t) (LT u) σ H Q:=by
 obtain⟨α,g,st,K,G,F,P,R,S,t,k⟩:=h;show⟨α,g,st,_,G,F,P,R,S,t,λb d q i m H1 f l j=>?_⟩;cases b with
 |true=>show⟨i,g,d,K,m,F,l,R.step f,j,q,k.at f⟩
 |false=>show k _ d q i m H1 f l j
def LT.or(h:LT (mN t u) σ H Q):U_ (LT t) (LT u) σ H Q:=by
 obtain⟨α,g,st,K,G,F,P,R,S,t,k⟩:=h;show⟨α,g,st,_,G,F,P,R,S,t,λb d q i m H1 f l j=>?_⟩;cases b with
 |false=>show⟨i,g,d,K,m,F,l,R.step f,j,q,k.at f⟩
 |true=>show k _ d q i m H1 f l j
def OL(d:PT X a (LT t)):PW X (.BoolOp .And [a] pos) (LT t):=pw_and1 d
def RI(d:PT X a (LT t)):PW X (.BoolOp .Or [a] pos) (LT t):=pw_or1 d
def SG(f:PT X a (LT t))(d:PW X (.BoolOp .And (b::es) pos) (LT u)):PW X (.BoolOp .And (a::b::es) pos) (LT (ue t u)):=PW.imp (pw_and f d) λ_ _ _ h=>LT.and h
def UA(f:PT X a (LT t))(d:PW X (.BoolOp .Or (b::es) pos) (LT u)):PW X (.BoolOp .Or (a::b::es) pos) (LT (mN t u)):=PW.imp (pw_or f d) λ_ _ _ h=>LT.or h
def tR(ta tb:DE):DE:=λσ st K=>ta σ st λd f=>match d with| .bl b=>if b=true then tb σ f K else K (.bl false) f|_=>False
def Lm(ta tb:DE):DE:=λσ st K=>ta σ st λd f=>match d with| .bl b=>if b=true then K (.bl true) f else tb σ f K|_=>False
def AJ(t:DT):DE:=λσ st K=>t σ st λb d=>K (.bl (!b)) d
def Tw(d:PE X a (LE ta)):PE X (.BoolOp op [a] pos) (LE ta):=QM d
def S9(p:PE X a (LE ta))(o:PE X (.BoolOp .And (b::es) pos) (LE tb)):PE X (.BoolOp .And (a::b::es) pos) (LE (tR ta tb)):=PE.imp (PV p o) λσ H Q ⟨α,h,st,K,G,F,P,R,S,t,k⟩=>by
 show⟨α,h,st,_,G,F,P,R,S,t,λd f q i n H1 v g m l j=>?_⟩;cases d with
 |bl b=>
  unfold Rep at j;show⟨b,j,?_⟩;cases b with
  |true=>show⟨i,h,f,K,n,F,m,R.step g,l,q,k.at g⟩
  |false=>show k _ f q i n H1 _ g m l (by unfold Rep;rfl)
 |_=>show q.elim
def VR(p:PE X a (LE ta))(o:PE X (.BoolOp .Or (b::es) pos) (LE tb)):PE X (.BoolOp .Or (a::b::es) pos) (LE (Lm ta tb)):=PE.imp (Uj p o) λσ H Q ⟨α,h,st,K,G,F,P,R,S,t,k⟩=>by
 show⟨α,h,st,_,G,F,P,R,S,t,λd f q i n H1 v g m l j=>?_⟩;cases d with
 |bl b=>
  unfold Rep at j;show⟨b,j,?_⟩;cases b with
  |false=>show⟨i,h,f,K,n,F,m,R.step g,l,q,k.at g⟩
  |true=>show k _ f q i n H1 _ g m l (by unfold Rep;rfl)
 |_=>show q.elim
def UG(l:PE X a (LE ta)):PE X (.UnaryOp .Not a pos) (LE (AJ (a_ ta))):=PE.imp (R7 l) λσ H Q ⟨α,h,st,K,G,F,P,R,S,t,k⟩=>by
 show⟨α,h,st,_,G,F,P,R,S,t,λd f q i o H1 v j n m g=>?_⟩;cases d with
 |bl b=>
  unfold Rep at g;show⟨b,g,k _ f q i o H1 _ j n m (by unfold Rep;rfl)⟩
 |_=>show q.elim
def MK(t:DT)(ta tb:DE):DE:=λσ st K=>t σ st λb d=>if b=true then ta σ d K else tb σ d K
def Uw(m:PT X c (LT t))(o:PE X a (LE ta))(n:PE X b (LE tb)):PE X (.IfExp c a b pos) (LE (MK t ta tb)):=PE.imp (KU m o n) λσ H Q ⟨α,g,st,K,G,F,P,R,S,t,k⟩=>by
 show⟨α,g,st,_,G,F,P,R,S,t,λb d q h l H1 f j i=>?_⟩;cases b with
 |true=>show⟨h,g,d,K,l,F,j,R.step f,i,q,k.at f⟩
 |false=>show⟨h,g,d,K,l,F,j,R.step f,i,q,k.at f⟩
def ag:DA:=λ_ st K=>K [] st
def ab(ta:DE)(tr:DA):DA:=λσ st K=>ta σ st λx f=>tr σ f λg d=>K (x::g) d
def B5:PA X [] (LA ag):=PA.imp Rb λσ H Q ⟨α,d,st,K,G,F,P,R,S,t,k⟩=>k [] st t α G H [] Step.refl P S (by unfold aG;rfl)
def yf{tr:DA}(w:PE X e (LE te))(u:PA X es (LA tr))(s:starEach (e::es) X.env=(false,eval e X.env)::starEach es X.env:=by rfl):PA X (e::es) (LA (ab te tr)):=PA.imp (OJ w u s) λσ H Q ⟨α,h,st,K,G,F,P,R,S,t,k⟩=>by
 show⟨α,h,st,_,G,F,P,R,S,t,λd g q n D H1 v l A y p=>?_⟩;show⟨n,h,g,_,D,F,A,R.step l,y,q,λE f r m C B i j z x o=>?_⟩;show k _ f r m C B (v::i) (l.trans j) z x (by unfold aG;show⟨v,i,rfl,p.step j,o⟩)
def jb(t:DA):DE:=λσ st K=>t σ st λf d=>f.length<=sizeLine/\K (.tup f) d
def mP(t:DA):DE:=λσ st K=>t σ st λf d=>f.length<=sizeLine/\K (.lst f) d
def mO(t:DA):DE:=λσ st K=>t σ st λf d=>f.length<=sizeLine/\K (.ref d.length) (d++[.lst f])
def LK.tup{α:List (Option Addr)}{G F H:Hp}{K:DK}{Q:VK}{g:List D}{vs:List V}{st:af}{p:Addr}(k:LK α G F K Q)(P:cu G F H)(q:K (.tup g) st)(S:aY α st G)(r:aG α G g vs)(f:H p=none):Q (.ref p) (upd H p (.tup vs)):=
 have d:=(P.none f).1
 k _ st q α _ _ _ (Step.laid d) (P.laid f) (S.laid d) (by unfold Rep;show⟨p,vs,rfl,S.jW d,a9,r.step (Step.laid d)⟩)
def LK.lst{α:List (Option Addr)}{G F H:Hp}{K:DK}{Q:VK}{g:List D}{vs:List V}{st:af}{p:Addr}(k:LK α G F K Q)(P:cu G F H)(q:K (.lst g) st)(S:aY α st G)(r:aG α G g vs)(f:H p=none):Q (.ref p) (upd H p (.lst vs)):=
 have d:=(P.none f).1
 k _ st q α _ _ _ (Step.laid d) (P.laid f) (S.laid d) (by unfold Rep;show⟨p,vs,rfl,S.jW d,.of a9,r.step (Step.laid d)⟩)
def LK.new{α:List (Option Addr)}{G F H:Hp}{K:DK}{Q:VK}{g:List D}{vs:List V}{st:af}{p:Addr}(k:LK α G F K Q)(P:cu G F H)(q:K (.ref st.length) (st++[.lst g]))(S:aY α st G)(r:aG α G g vs)(f:H p=none):Q (.ref p) (upd H p (.lst vs)):=
 have d:=(P.none f).1
 k _ _ q (α++[some p]) _ _ _ (Step.cell d) (P.laid f) (S.cell d ⟨vs,a9,r.step (Step.cell d)⟩) (by
  unfold Rep;show .inr ⟨p,?_,rfl⟩;rw[Xr (by rw[S.len];show WX _),S.len,Y0];rfl)
def SO(h:PA X es (LA t)):PE X (.Tuple es n pos) (LE (jb t)):=PE.imp (Qp h) λσ H Q ⟨α,f,st,K,G,F,P,R,S,t,k⟩=>
 ⟨α,f,st,_,G,F,P,R,S,t,λs g q o u H1 r i m l d=>⟨by rw[<-d.length];show q.1,λp j=>(k.at i).tup m q.2 l d j⟩⟩
def Uk(h:PA X es (LA t)):PE X (.List es pos) (LE (mP t)):=PE.imp (JN h) λσ H Q ⟨α,f,st,K,G,F,P,R,S,t,k⟩=>
 ⟨α,f,st,_,G,F,P,R,S,t,λr g q n s H1 o i m l d=>⟨by rw[<-d.length];show q.1,λp j=>(k.at i).lst m q.2 l d j⟩⟩
def UD(h:PA X es (LA t)):PE X (.List es pos) (LE (mO t)):=PE.imp (JN h) λσ H Q ⟨α,f,st,K,G,F,P,R,S,t,k⟩=>
 ⟨α,f,st,_,G,F,P,R,S,t,λr g q n s H1 o i m l d=>⟨by rw[<-d.length];show q.1,λp j=>(k.at i).new m q.2 l d j⟩⟩
abbrev bN:=List D->af->DK->Prop
inductive QJ(T:bN)(vs:List V)(H:Hp)(Q:VK):Prop
 |mk (α:List (Option Addr)) (ds:List D) (st:af) (K:DK) (G F:Hp) (P:cu G F H) (rx:aG α G ds vs) (S:aY α st G) (h:T ds st K) (k:LK α G F K Q):QJ T vs H Q
def gF(S:bN):Sp:=λd H Q _=>QJ S d H Q
def ay(S:bN)(t:DA):DE:=λσ st K=>t σ st λf d=>S f d K
def LE.call{S:bN}(h:LE (ay S t) σ H Q):MD (gF S) [] E0 (LA t) σ H Q:=by
 obtain⟨α,f,st,K,G,F,P,R,S,t,k⟩:=h;show⟨α,f,st,_,G,F,P,R,S,t,λl d q g o H1 p i n m j=>?_⟩;try dsimp only
 rw[YD];show⟨g,l,d,K,o,F,n,j,m,q,k.at i⟩
def Rg{S:bN}{k:Nat}{f:Addr}{fd:FuncData}{i:List Str}{x:Str}{p:Pos}{t:DA}(F:cY X.prog X.w X.K X.mg X.base fR k f fd i (gF S))(j:cK k X.A)(n:Gl X x)(l:X.mg x=some (.ref f))(m:PySem.W.keepIn X.K (.ref f)=true)(q:Binds X.K fd i [])
 (r:PA X (e::es) (LA t)) (g:(x==("__debug__":Str))=false:=by decide) (o:starEach (e::es) X.env=(false,eval e X.env)::starEach es X.env:=by rfl) (d:(backTo pos (starEach es X.env)).any (·.1)=false:=by rfl):
 PE X (.Call (.Name x p) (e::es) [] pos) (LE (ay S t)):=PE.imp (N9 F j n l m q .nil Aw r g o d) λ_ _ _ h=>LE.call h
def bz(r:d8)(t:DA):DE:=λσ st K=>t σ st λf d=>r f d K
def LE.cb(h:LE (bz r t) σ H Q):RQ (fy r) (LA t) σ H Q:=by
 obtain⟨α,f,st,K,G,F,P,R,S,t,k⟩:=h;show⟨α,f,st,_,G,F,P,R,S,t,λl d q g o H1 p i n m j=>?_⟩;show⟨g,l,d,K,o,F,n,j,m,q,k.at i⟩
end
section
variable {X:Cx}
def bW.imp{f:Value->Value->Sem Value}(h:bW X f r)(k:∀x y H Q,b x y H Q->r x y H Q):bW X f b:=λa s σ H x y v u Q I d c q=>h a s σ H x y v u Q I d c (k x y H Q q)
def bH.imp(h:bH X f r)(k:∀xs H Q,b xs H Q->r xs H Q):bH X f b:=λa s σ H xs c Q I d q=>h a s σ H xs c Q I d (k xs H Q q)
def u_(C:Int->Int->Prop)(g:Int->Int->D):cV:=λx y st K=>match x,y with| .int i,.int j=>C i j/\K (g i j) st|_,_=>False
def kI{f:Value->Value->Sem Value}{g:Int->Int->D}{g':Int->Int->V}(c:∀i j α H,Rep α H (g i j) (g' i j))(h:bW X f (rI C g')):bW X f (LR (u_ C g)):=bW.imp h λx y H Q ⟨α,d,e,st,K,G,l,P,b,a,S,q,k⟩=>by
 cases d<;>cases e<;>first
  |show q.elim
  |(unfold Rep at b a;show⟨_,_,b,a,q.1,k.here P q.2 S (c _ _ _ _)⟩)
abbrev T2:Int->Int->Prop:=λ_ _=>True
def xi{g:Int->Int->V}{f:Value->Value->Sem Value}(h:bW X f (wg g)):bW X f (rI T2 g):=bW.imp h λx y H Q ⟨i,j,b,a,_,q⟩=>⟨i,j,b,a,q⟩
abbrev MG:cV:=u_ T2 λi j=> .int (i-j)
abbrev GS:cV:=u_ (λ_ j=>j≠0/\j.natAbs.log2<9000) λi j=> .int (i.fdiv j)
abbrev M3:cV:=u_ (λ_ j=>j≠0) λi j=> .int (i.fmod j)
abbrev Mw:cV:=u_ KP λi j=> .int (i^j.toNat)
abbrev PY:cV:=u_ T2 λi j=> .bl (decide (i<j))
abbrev PU:cV:=u_ T2 λi j=> .bl (decide (i<=j))
abbrev Qw:cV:=u_ T2 λi j=> .bl (decide (j<i))
abbrev RC:cV:=u_ T2 λi j=> .bl (decide (j<=i))
def Uc:bW X (binaryOp .Sub) (LR MG):=kI (λ_ _ _ _=>by unfold Rep;rfl) (xi P7)
def RE:bW X (binaryOp .FloorDiv) (LR GS):=kI (λ_ _ _ _=>by unfold Rep;rfl) (M4 λi j _ _ _ _ _ a q=>floordiv_int a.1 q (.inl (abz a.2)))
def TL:bW X (binaryOp .Mod) (LR M3):=kI (λ_ _ _ _=>by unfold Rep;rfl) NQ
def Ub:bW X (binaryOp .Pow) (LR Mw):=kI (λ_ _ _ _=>by unfold Rep;rfl) RW
def Wb:bW X (compareOp .Lt) (LR PY):=kI (λ_ _ _ _=>by unfold Rep;rfl) (xi Uy)
def VB:bW X (compareOp .LtE) (LR PU):=kI (λ_ _ _ _=>by unfold Rep;rfl) (xi SQ)
def Wh:bW X (compareOp .Gt) (LR Qw):=kI (λ_ _ _ _=>by unfold Rep;rfl) (xi TC)
def V_:bW X (compareOp .GtE) (LR RC):=kI (λ_ _ _ _=>by unfold Rep;rfl) (xi TY)
def MO:BN:=λx st K=>match x with| .int i=>K (.int (-i)) st|_=>False
def UE:EW X (unaryOp .USub) (Nd MO):=λa s σ H x v Q I b ⟨α,d,st,K,G,c,P,r,S,q,k⟩=>by
 cases d<;>first
  |show q.elim
  |(unfold Rep at r;show QO a s σ H x v Q I b ⟨_,r,k.here P q S (by unfold Rep;rfl)⟩)
def Inv.rY{pins:List (Addr×Obj)}{σ:L2.St}{H:Hp}{s:Shared}{l:Addr}{xs:List V}(I:Inv X pins σ H s)(h:Rd H l (.lst xs)):
 xs.length<=sizeLine/\∃(ao:List Value) (n:Nat),Vals xs ao/\xs.length=ao.length/\s.heap.get? l=some {cls:= .type "list",data:= .seq ao.toArray n}:=by
 obtain⟨z,ao,n,r,e⟩:=h.ok I.aI;show⟨z,ao,n,r,r.length,e⟩
def fi(P:cu G F H)(h:Rd G a u):Rd H a u:=by
 rcases h with h|⟨o,h⟩
 . show .inl (P.get h)
 . show .inr ⟨o,P.get h⟩
def x9:bW X (binaryOp .Add) (λx y H Q=>∃l b xs c,x= .ref l/\y= .ref b/\Rd H l (.lst xs)/\Rd H b (.lst c)/\xs.length+c.length<=sizeLine/\∀p,H p=none->Q (.ref p) (upd H p (.lst (xs++c)))):=by
 intro d s σ H x y v u Q I i g h;obtain⟨l,b,xs,c,rfl,rfl,m,o,C,q⟩:=h;cases i;cases g;obtain⟨z,f,n,r,D,e⟩:=Inv.rY I m;obtain⟨A,a,B,j,k,w⟩:=Inv.rY I o;show PySem.P.add_list e w ?_ (by rw[W6,W6];lia);let t:f.toArray++a.toArray=(f++a).toArray:=by simp
 rw[t];show⟨.ref _,_,I.K3 (t':=s.toks) (r.append j) (by rw[X8];lia),rfl,q _ I.fresh⟩
def Ot:bW X (binaryOp .Mult) (λx y H Q=>∃l k xs,x= .ref l/\y= .int k/\Rd H l (.lst xs)/\ -(2^63)<=k/\k<2^63/\xs.length*k.toNat<=sizeLine/\
 ∀p,H p=none->Q (.ref p) (upd H p (.lst (List.replicate k.toNat xs).flatten))):=by
 intro w s σ H x y v u Q I D C h;obtain⟨l,k,xs,rfl,rfl,G,K,J,A,q⟩:=h;cases D;obtain⟨t,rfl⟩:=C;obtain⟨z,b,n,r,E,e⟩:=Inv.rY I G;let f:b.toArray.size*k.toNat<=sizeLine:=by rw[W6,<-E];show A
 let i:¬b.toArray.size*k.toNat>(2^63-1)/8:=by
  let:(sizeLine:Nat)<=(2^63-1)/8:=by decide
  lia
 let g:¬(!Builtin.List.listFitsIndex k)=true:=by
  rw[fitsIndex_both K J];show Yk
 let c:¬Builtin.List.listTooLong (b.toArray.size*k.toNat)=true:=by
  rw[LU f];show Yk
 let d:List.foldl (λo j=>o++j) #[] (List.replicate (if b.toArray.isEmpty=true then 0 else k.toNat) b.toArray)=(List.replicate k.toNat b).flatten.toArray:=by
  let L:∀m:Nat,List.foldl (λo j=>o++j) #[] (List.replicate m b.toArray)=(List.replicate m b).flatten.toArray:=λm=>by
   let:=foldl_rep b m [];rw[abG]at this;show this
  rw[L];cases b with
  |nil=>simp
  |cons a M=>rw[WW (by simp)]
 show abq (T:="list") (U:="int") (by decide) ⟨_,e,rfl⟩ (λB=>abp B k t) noFill_list_mul F.fills_int_mul aaV repeat_list F.slot_int_index.lookup
  (aaw aaV (abp s k t) F.entry_int_rmul (F.args_int_rmul_2 _ _) (int___rmul___int_list k t l b.toArray n)
    ⟨e,rfl,⟨_,e,rfl⟩,aaw F.slot_list_mul ⟨_,e,rfl⟩ F.entry_list_mul (F.args_list_mul_2 _ _) (AutoListH.list___mul___list_int_3 l b.toArray n k t g i c) ⟨e,?_⟩⟩)
 rw[d];show⟨.ref _,_,I.K3 (t':=s.toks) (r.rep k.toNat) (by rw[len_rep,Y8];show A),rfl,q _ I.fresh⟩
def LF:bW X (binaryOp .Add) (λx y H Q=>∃a b xs ys,x= .ref a/\y= .ref b/\H a=some (.tup xs)/\H b=some (.tup ys)/\xs.length+ys.length<=sizeLine/\
 (xs=[]->Q (.ref b) H)/\(xs≠ []->ys=[]->Q (.ref a) H)/\(xs≠ []->ys≠ []->∀p,H p=none->Q (.ref p) (upd H p (.tup (xs++ys))))):=by
 intro c s σ H x y v u Q I m l h;obtain⟨a,b,xs,ys,rfl,rfl,w,t,L,G,F,E⟩:=h;by_cases e:xs=[]
 . cases m;cases l;obtain⟨B,D,J,_⟩:=I.tuple (.of w);obtain⟨d,P,p2,_⟩:=I.tuple (.of t);obtain⟨⟨O,N,z,C⟩,o,r,n,q⟩:=id J;obtain⟨⟨A,k,data2,j⟩,f,i,K,g⟩:=id p2;simp only at r q i g;subst r q i g;let M:B=[]:=(L2.Vals.ur D).mpr e
   show aby ⟨_,o,rfl⟩ ⟨_,f,rfl⟩ aaI abc ZV ZK (ZD _ _)
    (tuple_addW0 a b B.toArray d.toArray n K N k C j (by simp[M])) ⟨o,f,⟨.ref b,H,I,rfl,G e⟩⟩
 . show Od c s σ H _ _ v u Q I m l ⟨a,b,xs,ys,rfl,rfl,.of w,.of t,e,L,F e,E e⟩
def ym:fillsNumberSlot (.type "tuple") "mul"=pure false:=
 PySem.fillsNumberSlot_seq (id:="tuple.__mul__") (r:=some (.builtin "tuple.__rmul__")) aae.lookup (by decide+kernel) F.slot_tuple_rmul.lookup (by decide+kernel)
def FO:seqRepeat? (.type "tuple")=pure (some (.builtin "tuple.__mul__")):=by
 unfold seqRepeat?;rw[PySem.seqSlot_of (T:="tuple") (name:="__mul__") (id:="tuple.__mul__") aae.lookup (by decide+kernel),PySem.seqSlot_of (T:="tuple") (name:="__rmul__") (id:="tuple.__rmul__") F.slot_tuple_rmul.lookup (by decide+kernel)];rfl
def BW(a:Int)(t:Tok)(l:Addr)(ao:Array Value)(n:Nat)(c:Option Addr)(b:Array (Option Value)):Meets (Builtin.«int.__rmul__» ⟨[.int a t,.ref l],[]⟩) (λ_ R s=>s.heap.get? l=some {cls:= .type "tuple",dict:=c,data:= .seq ao n,slots:=b}/\R (.ok (.ret Value.notImplemented)) s):=
 .of_wp λP w A R s h=>by
  obtain⟨f,g,d,tk,e⟩:=s;obtain⟨i,h⟩:=h
  wp_walk
  show⟨_,rfl,h⟩
def Bq(l:Addr)(ao:Array Value)(n:Nat)(c:Option Addr)(a:Array (Option Value))(x:Int)(u:Tok)(b:(decide (x< -(2^63))||decide (x>=2^63))=false)(j:(ao.isEmpty||x==1)=true):
 Meets (Builtin.«tuple.__mul__» ⟨[.ref l,.int x u],[]⟩) (λ_ R s=>s.heap.get? l=some {cls:= .type "tuple",dict:=c,data:= .seq ao n,slots:=a}/\R (.ok (.ret (.ref l))) s):=
 .of_wp λP w A R s h=>by
  obtain⟨f,g,d,tk,e⟩:=s;obtain⟨i,h⟩:=h
  wp_walk
  show aaW (by rw[b];rfl) ?_
  wp_walk
  show⟨_,rfl,h⟩
def AY(l:Addr)(ao:Array Value)(n:Nat)(c:Option Addr)(a:Array (Option Value))(x:Int)(u:Tok)(b:(decide (x< -(2^63))||decide (x>=2^63))=false)(k:(ao.isEmpty||x==1)=false)(j:(decide (x<=0)||ao.isEmpty)=true):
 Meets (Builtin.«tuple.__mul__» ⟨[.ref l,.int x u],[]⟩) (λ_ R s=>s.heap.get? l=some {cls:= .type "tuple",dict:=c,data:= .seq ao n,slots:=a}/\R (.ok (.ret (.ref s.heap.objs.size))) {s with heap:=s.heap.push {cls:= .type "tuple",data:= .seq #[]}}):=
 .of_wp λP w A R s h=>by
  obtain⟨f,g,d,tk,e⟩:=s;obtain⟨i,h⟩:=h
  wp_walk
  show aaW (by rw[b];rfl) ?_
  wp_walk
  show⟨_,rfl,h⟩
def BZ(l:Addr)(ao:Array Value)(n:Nat)(i:Option Addr)(c:Array (Option Value))(x:Int)(u:Tok)(f:(decide (x< -(2^63))||decide (x>=2^63))=false)(r:(ao.isEmpty||x==1)=false)(q:(decide (x<=0)||ao.isEmpty)=false)(e:¬((ao.size:Int)*x>(2^63-1)/8))(p:Builtin.Tuple.tupleTooMany (ao.size*x)=false)
 (k:(List.foldl (λb a=>b++a) #[] (List.replicate x.toNat ao)).size<=sizeLine):
 Meets (Builtin.«tuple.__mul__» ⟨[.ref l,.int x u],[]⟩) (λ_ R s=>s.heap.get? l=some {cls:= .type "tuple",dict:=i,data:= .seq ao n,slots:=c}/\R (.ok (.ret (.ref s.heap.objs.size))) {s with heap:=s.heap.push {cls:= .type "tuple",data:= .seq (List.foldl (λb a=>b++a) #[] (List.replicate x.toNat ao))}}):=
 .of_wp λP w A R s h=>by
  obtain⟨m,g,d,tk,j⟩:=s;obtain⟨o,h⟩:=h
  wp_walk
  show aaW (by rw[f];rfl) ?_
  wp_walk
  show aaW (XO e) ?_
  wp_walk
  show⟨_,rfl,h⟩
def PB:bW X (binaryOp .Mult) (λx y H Q=>∃l k xs,x= .ref l/\y= .int k/\H l=some (.tup xs)/\ -(2^63)<=k/\k<2^63/\xs.length*k.toNat<=sizeLine/\
 ((xs=[]\/k=1)->Q (.ref l) H)/\(¬(xs=[]\/k=1)->∀p,H p=none->Q (.ref p) (upd H p (.tup (List.replicate k.toNat xs).flatten)))):=by
 intro f s σ H x y v u Q I W S h;obtain⟨l,k,xs,rfl,rfl,hH,h1,h2,J,Y,w⟩:=h;cases W;obtain⟨t,rfl⟩:=S;obtain⟨a,r,Z,_⟩:=I.tuple (.of hH);obtain⟨⟨cls,o,data,j⟩,b,L,n,K⟩:=id Z;simp only at L K;subst L K;let B:xs.length=a.length:=r.length
 let G:(decide (k< -(2^63))||decide (k>=2^63))=false:=by
  rw[XO (by lia),XO (by lia)];rfl
 show abq (T:="tuple") (U:="int") (by decide) ⟨_,b,rfl⟩ (λR=>abp R k t) ym F.fills_int_mul aaV FO F.slot_int_index.lookup
  (aaw aaV (abp s k t) F.entry_int_rmul (F.args_int_rmul_2 _ _) (BW k t l a.toArray n o j) ⟨b,rfl,⟨_,b,rfl⟩,?_⟩)
 by_cases e:xs=[]\/k=1
 . have m:(a.toArray.isEmpty||k==1)=true:=by
    rcases e with z|z
    . have:a=[]:=Yh.mp (by rw[<-B,z];rfl);rw[this];rfl
    . rw[z];simp
   show aaw aae ⟨_,b,rfl⟩ abi (aa9 _ _) (Bq l a.toArray n o j k t G m) ⟨b,⟨.ref l,H,I,rfl,Y e⟩⟩
 . have A:a≠ []:=λz=>e (.inl (Yh.mp (by rw[B,z];rfl)));let C:k≠1:=λz=>e (.inr z);let N:a.toArray.isEmpty=false:=by simpa using A
   let m:(a.toArray.isEmpty||k==1)=false:=by rw[N];simpa using C
   let new:∀(i:List Value) (g:List V),Vals g i->g.length<=sizeLine->Inv X f σ (upd H s.heap.objs.size (.tup g)) {s with heap:=s.heap.push {cls:= .type "tuple",data:= .seq i.toArray}}:=λi g hv hy=>
    I.laid (t':=s.toks) (λ_ _ q=>WU _ q) (WX _) ⟨hy,i,hv,⟨_,Xe _ rfl,rfl,_,rfl⟩⟩
   by_cases M:k<=0
   . have E:(decide (k<=0)||a.toArray.isEmpty)=true:=by rw[Y4 M];rfl
     show aaw aae ⟨_,b,rfl⟩ abi (aa9 _ _) (AY l a.toArray n o j k t G m E) ⟨b,?_⟩;let ez:k.toNat=0:=by lia
     rw[ez]at w;show⟨.ref _,_,new [] [] .nil (Xq _),rfl,w e _ I.fresh⟩
   . have E:(decide (k<=0)||a.toArray.isEmpty)=false:=by rw[XO M,N];rfl
     let hk:(k.toNat:Int)=k:=by lia
     let d:a.toArray.size*k.toNat<=sizeLine:=by rw[W6,<-B];show J
     let ah:((a.toArray.size:Nat):Int)*k<=(sizeLine:Int):=by
      rw[<-hk]
      exact_mod_cast d
     let f3:¬(((a.toArray.size:Nat):Int)*k>(2^63-1)/8):=by
      let:((sizeLine:Nat):Int)<=(2^63-1)/8:=by decide
      lia
     let f4:Builtin.Tuple.tupleTooMany (((a.toArray.size:Nat):Int)*k)=false:=by
      unfold Builtin.Tuple.tupleTooMany;show XO (by lia)
     let c:List.foldl (λP O=>P++O) #[] (List.replicate k.toNat a.toArray)=(List.replicate k.toNat a).flatten.toArray:=by
      let:=foldl_rep a k.toNat [];rw[abG]at this;show this
     let D:(List.replicate k.toNat a).flatten.length=a.length*k.toNat:=by rw[len_rep,Y8]
     show aaw aae ⟨_,b,rfl⟩ abi (aa9 _ _) (BZ l a.toArray n o j k t G m E f3 f4 (by rw[c,W6,D];show d)) ⟨b,?_⟩;rw[c];show⟨.ref _,_,new _ _ (r.rep k.toNat) (by rw[len_rep,Y8];show J),rfl,w e _ I.fresh⟩
def Mv:cV:=λx y st K=>match x,y with
 | .int i,.int j=>K (.int (i+j)) st
 | .tup b,.tup a=>b.length+a.length<=sizeLine/\K (.tup (b++a)) st
 | .lst b,.lst a=>b.length+a.length<=sizeLine/\K (.lst (b++a)) st
 | .str x,.str y=>x.length+y.length<=sizeLine/\K (.str (x++y)) st
 |_,_=>False
def Uq:bW X (binaryOp .Add) (LR Mv):=λc s σ H x y v u Q I r o ⟨α,d,e,st,K,G,E,P,g,f,S,q,k⟩=>by
 cases d<;>cases e<;>try show q.elim
 . unfold Rep at g f;show Ra c s σ H x y v u Q I r o ⟨_,_,g,f,k.here P q S (by unfold Rep;rfl)⟩
 . unfold Rep at g f;show Fs c s σ H x y v u Q I r o ⟨_,_,g,f,q.1,k.here P q.2 S (by unfold Rep;rfl)⟩
 . unfold Rep at g f;obtain⟨a,n,rfl,na,w,l⟩:=g;obtain⟨b,m,rfl,B,t,j⟩:=f;show x9 c s σ H _ _ v u Q I r o ⟨a,b,n,m,rfl,rfl,fi P w,fi P t,by rw[<-l.length,<-j.length];show q.1,λp A=>?_⟩;show k.lst P q.2 S (aV.mpr (dJ (aV.mp l) (aV.mp j))) A
 . rename_i D C;unfold Rep at g f;obtain⟨a,n,rfl,na,w,l⟩:=g;obtain⟨b,m,rfl,B,t,j⟩:=f;let i:=l.length;let h:=j.length;show LF c s σ H _ _ v u Q I r o ⟨a,b,n,m,rfl,rfl,P.get w,P.get t,by rw[<-i,<-h];show q.1,λz=>?_,λ_ z=>?_,λ_ _ p A=>?_⟩
   . show k.here P q.2 S ?_;unfold Rep;let:D=[]:=by rw[z]at i;show Yh.mp i
     subst this;show⟨b,m,rfl,B,t,j⟩
   . show k.here P q.2 S ?_;unfold Rep;let:C=[]:=by rw[z]at h;show Yh.mp h
     subst this;rw[YD];show⟨a,n,rfl,na,w,l⟩
   . show k.tup P q.2 S (aV.mpr (dJ (aV.mp l) (aV.mp j))) A
def MY:cV:=λx y st K=>match x,y with
 | .int i,.int j=>IntMulOk i j/\K (.int (i*j)) st
 | .lst a,.int k=>(-(2^63)<=k/\k<2^63/\a.length*k.toNat<=sizeLine)/\K (.lst (List.replicate k.toNat a).flatten) st
 | .tup a,.int k=>(-(2^63)<=k/\k<2^63/\a.length*k.toNat<=sizeLine)/\K (.tup (List.replicate k.toNat a).flatten) st
 |_,_=>False
def TF:bW X (binaryOp .Mult) (LR MY):=λb s σ H x y v u Q I r o ⟨α,d,e,st,K,G,E,P,c,g,S,q,k⟩=>by
 cases d<;>cases e<;>try show q.elim
 . unfold Rep at c g;let h:bW X (binaryOp .Mult) (rI IntMulOk λi j=> .int (i*j)):=M4 λ_ _ _ _ _ _ _ D q=>mul_int q D;show h b s σ H x y v u Q I r o ⟨_,_,c,g,q.1,k.here P q.2 S (by unfold Rep;rfl)⟩
 . unfold Rep at c g;obtain⟨a,n,rfl,na,A,f⟩:=c;show Ot b s σ H _ _ v u Q I r o ⟨a,_,n,rfl,g,fi P A,q.1.1,q.1.2.1,by rw[<-f.length];show q.1.2.2,λp w=>?_⟩;show k.lst P q.2 S (aV.mpr (pk (aV.mp f) _)) w
 . rename_i l m;let t:=c;unfold Rep at c g;obtain⟨a,n,rfl,na,A,f⟩:=c;show PB b s σ H _ _ v u Q I r o ⟨a,_,n,rfl,g,P.get A,q.1.1,q.1.2.1,by rw[<-f.length];show q.1.2.2,λC=>?_,λ_ p w=>k.tup P q.2 S (aV.mpr (pk (aV.mp f) _)) w⟩
   let e:(List.replicate m.toNat l).flatten=l:=by
    rcases C with z|z
    . have:l=[]:=Yh.mp (by rw[f.length,z];rfl);rw[this];simp
    . rw[z];simp
   let B:=q.2;rw[e]at B;show k.here P B S t
def live(st:af):D->Bool
 | .ref n=>(match st[n]? with|some (.lst _)=>true|some (.ins _ _)=>true|_=>false)
 |_=>true
def v_{α:List (Option Addr)}{H:Hp}{st:af}{n:Nat}{v:V}(S:aY α st H)(h:live st (.ref n)=true)(r:Rep α H (.ref n) v):∃a,v= .ref a:=by
 unfold live at h;simp only at h;split at h
 . rename_i e;obtain⟨a,b,_⟩:=S.ie e;show⟨a,cZ b r⟩
 . rename_i e;obtain⟨a,b,_⟩:=S.xq e;show⟨a,cZ b r⟩
 . cases h
def Oa:cV:=λx y st K=>match y with| .aD=>live st x=true/\K (.bl (match x with| .aD=>false|_=>true)) st|_=>False
def Pp:bW X (compareOp .IsNot) (LR Oa):=bW.imp Og λx y H Q ⟨α,d,e,st,K,G,g,P,b,c,S,q,k⟩=>by
 cases e<;>try show q.elim
 unfold Rep at c;show⟨c,k.here P q.2 S ?_⟩;unfold Rep;cases d
 case ref n=>
  obtain⟨a,rfl⟩:=v_ S q.1 b;rfl
 all_goals(unfold Rep at b;first|(rw[b];rfl)|(obtain⟨a,f,rfl,_⟩:=b;rfl))
def qh:cV:=λx y st K=>match y with
 | .int i=>(match x with
   | .lst a=>(match dw a i with|some d=>K d st|none=>False)
   | .tup a=>(match dw a i with|some d=>K d st|none=>False)
   | .ref n=>(match st[n]? with|some (.lst a)=>(match dw a i with|some d=>K d st|none=>False)|_=>False)
   |_=>False)
 |_=>False
def aG.dw(h:aG α H a vs)(e:L2.dw a i=some d):∃v,L2.dw vs i=some v/\Rep α H d v:=by
 unfold L2.dw at e⊢;rw[<-h.length];cases q:km a.length i with
 |none=>rw[q]at e;cases e
 |some j=>rw[q]at e;show h.get e
def VL:Mj X (LR qh):=λvalue slice b s σ H x y v u Q I o m ⟨α,d,e,st,K,G,J,P,g,l,S,q,k⟩ t=>by
 cases e<;>try show q.elim
 unfold Rep at l;cases d<;>try show q.elim
 . rename_i i n;unfold qh at q;simp only at q;split at q
   . split at q
     . rename_i A F _ B j;obtain⟨a,E,c,D,C⟩:=S.ie F;let r:=cZ E g;subst r;obtain⟨z,h,f⟩:=C.dw j;show Ek value slice b s σ H _ _ v u Q I o m ⟨a,c,_,z,rfl,l,.of (P.get D),h,k.here P q S f⟩ t
     . show q.elim
   . show q.elim
 . unfold qh at q;simp only at q;split at q
   . rename_i A B j;unfold Rep at g;obtain⟨a,c,rfl,na,w,p⟩:=g;obtain⟨z,h,f⟩:=p.dw j;show Ek value slice b s σ H _ _ v u Q I o m ⟨a,c,_,z,rfl,l,.inl (fi P w),h,k.here P q S f⟩ t
   . show q.elim
 . unfold qh at q;simp only at q;split at q
   . rename_i A B j;unfold Rep at g;obtain⟨a,c,rfl,na,w,p⟩:=g;obtain⟨z,h,f⟩:=p.dw j;show Rq value slice b s σ H _ _ v u Q I o m ⟨a,c,_,z,rfl,l,.of (P.get w),h,k.here P q S f⟩ t
   . show q.elim
def VV(g:PE X a (LE d))(f:PE X b (LE c))(e:uc b:=by intro _ _;rfl):PE X (.Subscript a b pos) (LE (ai qh d c)):=PE.imp (TJ VL g f e) λ_ _ _ h=>LE.op h
def items?(st:af):D->Option (List D)
 | .lst a=>some a
 | .tup a=>some a
 | .ref n=>(match st[n]? with|some (.lst a)=>some a|_=>none)
 |_=>none
@[simp] theorem UX(st:af)(xs:List D):items? st (.lst xs)=some xs:=rfl
@[simp] theorem UW(st:af)(xs:List D):items? st (.tup xs)=some xs:=rfl
@[simp] theorem items_int(st:af)(i:Int):items? st (.int i)=none:=rfl
@[simp] theorem VO(st:af)(i:Bool):items? st (.bl i)=none:=rfl
@[simp] theorem items_str(st:af)(i:Str):items? st (.str i)=none:=rfl
@[simp] theorem Vo(st:af):items? st .aD=none:=rfl
def ax{st:af}{n:Nat}{xs:List D}(h:st[n]?=some (.lst xs)):items? st (.ref n)=some xs:=by unfold items?;simp![h]
def oJ{α:List (Option Addr)}{H:Hp}{st:af}{d:D}{v:V}{xs:List D}(S:aY α st H)(r:Rep α H d v)(e:items? st d=some xs):
 ∃p vs,v= .ref p/\aG α H xs vs/\(Rd H p (.lst vs)\/H p=some (.tup vs)):=by
 cases d<;>try(cases e;done)
 . unfold items? at e;simp only at e;split at e
   . rename_i h q;cases e;obtain⟨a,g,vs,c,b⟩:=S.ie q;let f:=cZ g r;subst f;show⟨a,vs,rfl,b,.inl (.of c)⟩
   . cases e
 . cases e;unfold Rep at r;obtain⟨a,vs,rfl,_,c,b⟩:=r;show⟨a,vs,rfl,b,.inl c⟩
 . cases e;unfold Rep at r;obtain⟨a,vs,rfl,_,c,b⟩:=r;show⟨a,vs,rfl,b,.inr c⟩
def F8{K:PySem.W.Frag}{G F H:Hp}(P:cu G F H){p:Addr}{vs:List V}(h:Rd G p (.lst vs)\/G p=some (.tup vs)):mi K H p vs\/iC K H p vs:=h.elim (λz=> .inl (.inl (fi P z))) λz=> .inr (.of (P.get z))
def gI(r:aG α H b xs)(e:b=[d]):∃v,xs=[v]/\Rep α H d v:=by
 subst e;unfold aG at r;obtain⟨v,q,rfl,c,a⟩:=r;unfold aG at a;subst a;show⟨v,rfl,c⟩
def mX{d e:D}(r:aG α H a xs)(q:a=[d,e]):∃v u,xs=[v,u]/\Rep α H d v/\Rep α H e u:=by
 subst q;unfold aG at r;obtain⟨v,q,rfl,f,c⟩:=r;obtain⟨u,rfl,b⟩:=gI c rfl;show⟨v,u,rfl,f,b⟩
def Ak:d8:=λb st K=>match b with
 | [.str x]=>x.length<=sizeLine/\K (.int x.length) st
 | [d]=>(match items? st d with|some a=>K (.int a.length) st|none=>False)
 |_=>False
def Td:bH X (.builtin "len") (fy Ak):=λa s σ H l c Q I f ⟨α,m,st,K,G,n,P,r,S,q,k⟩=>by
 unfold Ak at q;split at q
 . rename_i x;obtain⟨v,rfl,b⟩:=gI r rfl;unfold Rep at b;subst b;show BO a s σ H _ c Q I f ⟨x,rfl,q.1,k.here P q.2 S (by unfold Rep;rfl)⟩
 . rename_i d _;split at q
   . rename_i j e;obtain⟨v,rfl,b⟩:=gI r rfl;obtain⟨p,g,rfl,i,h⟩:=oJ S b e;show BM a s σ H _ c Q I f ⟨p,g,rfl,F8 P h,k.here P q S (by unfold Rep;rw[i.length])⟩
   . show q.elim
 . show q.elim
def U6(g:Int->Int):d8:=λa st K=>match a with| [.int i]=>K (.int (g i)) st|_=>False
abbrev E4:d8:=U6 λi=>if i<0 then-i else i
def UT:bH X (.builtin "abs") (fy E4):=bH.imp KI λb H Q ⟨α,c,st,K,G,d,P,r,S,q,k⟩=>by
 unfold E4 U6 at q;split at q
 . obtain⟨v,rfl,a⟩:=gI r rfl;unfold Rep at a;subst a;show⟨_,rfl,k.here P q S (by unfold Rep;rfl)⟩
 . show q.elim
def Rn(g:Int->Int->Int):d8:=λa st K=>match a with| [.int i,.int j]=>K (.int (g i j)) st|_=>False
abbrev GP:d8:=Rn λi j=>if j>i then j else i
def Ul(c:X.calm=true):bH X (.builtin "max") (fy GP):=bH.imp (Iv c) λd H Q ⟨α,e,st,K,G,f,P,r,S,q,k⟩=>by
 unfold GP Rn at q;split at q
 . obtain⟨v,u,rfl,b,a⟩:=mX r rfl;unfold Rep at b a;subst b a;show⟨_,_,rfl,k.here P q S (by unfold Rep;rfl)⟩
 . show q.elim
def Ga:d8:=λa st K=>match a with| [.int i]=>K (.int i) st| [.bl b]=>K (.int (if b then 1 else 0)) st|_=>False
def TK:bH X (.type "int") (fy Ga):=bH.imp IF λb H Q ⟨α,c,st,K,G,d,P,r,S,q,k⟩=>by
 unfold Ga at q;split at q
 . obtain⟨v,rfl,a⟩:=gI r rfl;unfold Rep at a;subst a;show .inl ⟨_,rfl,k.here P q S (by unfold Rep;rfl)⟩
 . obtain⟨v,rfl,a⟩:=gI r rfl;unfold Rep at a;subst a;show .inr ⟨_,rfl,k.here P q S (by unfold Rep;rfl)⟩
 . show q.elim
def t5:d8:=λb st K=>match b with| [d]=>(match items? st d with|some a=>K (.tup a) st|none=>False)|_=>False
def Py:bH X (.type "tuple") (fy t5):=bH.imp Ab λx H Q ⟨α,y,st,K,G,A,P,r,S,q,k⟩=>by
 unfold t5 at q;split at q
 . rename_i d;split at q
   . rename_i w e;obtain⟨v,rfl,c⟩:=gI r rfl;cases d with
     |tup u=>
      cases e;let m:=c;unfold Rep at c;obtain⟨a,g,rfl,na,b,s⟩:=c;show⟨a,g,rfl,.inr ⟨.of (P.get b),k.here P q S m⟩⟩
     |_=>
      obtain⟨p,g,rfl,j,h⟩:=oJ S c e;show⟨p,g,rfl,?_⟩;rcases h with h|h
      . show .inl ⟨.inl (fi P h),λl n=>k.tup P q S j n⟩
      . first
         |(cases e;done)
         |(exfalso
           unfold items? at e;simp only at e
           first
            |(split at e
              . rename_i z;obtain⟨a,t,f,b,s⟩:=S.ie z;let i:=cZ t c;cases i;rw[h]at b;cases b
              . cases e)
            |(unfold Rep at c
              obtain⟨a,f,i,_,b,_⟩:=c;cases i;rcases b with b|⟨o,b⟩<;>(rw[h]at b;cases b)))
   . show q.elim
 . show q.elim
def wx:d8:=λb st K=>match b with| [d]=>(match items? st d with|some a=>K (.lst a) st|none=>False)|_=>False
def Qu:bH X (.type "list") (fy wx):=bH.imp tG λg H Q ⟨α,i,st,K,G,j,P,r,S,q,k⟩=>by
 unfold wx at q;split at q
 . split at q
   . rename_i f e;obtain⟨v,rfl,c⟩:=gI r rfl;obtain⟨p,a,rfl,b,h⟩:=oJ S c e;show⟨p,a,rfl,F8 P h,λl d=>k.lst P q S b d⟩
   . show q.elim
 . show q.elim
def uh:d8:=λb st K=>match b with| [d]=>(match items? st d with|some a=>K (.ref st.length) (st++[.lst a])|none=>False)|_=>False
def Pl:bH X (.type "list") (fy uh):=bH.imp tG λg H Q ⟨α,i,st,K,G,j,P,r,S,q,k⟩=>by
 unfold uh at q;split at q
 . split at q
   . rename_i f e;obtain⟨v,rfl,c⟩:=gI r rfl;obtain⟨p,a,rfl,b,h⟩:=oJ S c e;show⟨p,a,rfl,F8 P h,λl d=>k.new P q S b d⟩
   . show q.elim
 . show q.elim
def gQ:List D->Option (List Bool)
 | []=>some []
 | .bl b::r=>(gQ r).map (b:: ·)
 |_::_=>none
def lY:List D->Option (List Int)
 | []=>some []
 | .int b::r=>(lY r).map (b:: ·)
 |_::_=>none
def qz:∀ {a:List D} {vs:List V} {bs:List Bool},aG α H a vs->gQ a=some bs->vs=bs.map V.bl
 | [],vs,bs,r,e=>by
   unfold aG at r;cases e;show r
 |d::a,vs,bs,r,e=>by
  unfold aG at r;obtain⟨v,q,rfl,b,c⟩:=r;cases d<;>try(cases e;done)
  unfold gQ at e;cases z:gQ a with
  |none=>rw[z]at e;cases e
  |some f=>
   rw[z]at e;cases e;unfold Rep at b;rw[b,qz c z];rfl
def rE:∀ {a:List D} {vs:List V} {bs:List Int},aG α H a vs->lY a=some bs->vs=bs.map V.int
 | [],vs,bs,r,e=>by
   unfold aG at r;cases e;show r
 |d::a,vs,bs,r,e=>by
  unfold aG at r;obtain⟨v,q,rfl,b,c⟩:=r;cases d<;>try(cases e;done)
  unfold lY at e;cases z:lY a with
  |none=>rw[z]at e;cases e
  |some f=>
   rw[z]at e;cases e;unfold Rep at b;rw[b,rE c z];rfl
def qf:∀ {bs:List Bool} {us:List Value},Vals (bs.map V.bl) us->us=bs.map Value.bool
 | [],_,.nil=>rfl
 |b::bs,_,.cons h t=>by
  let h:_=Value.bool b:=h;rw[h,qf t];rfl
def Ay:d8:=λb st K=>match b with| [.lst a]=>(match gQ a with|some bs=>K (.bl (bs.all id)) st|none=>False)|_=>False
def range_all{α:Type}(l:List α)(f:α->Bool)(tr:Nat->Bool)(h:∀i x,l[i]?=some x->tr i=f x):(List.range l.length).all tr=l.all f:=by
 induction l generalizing tr with
 |nil=>rfl
 |cons a l b=>
  rw[Xw,Yp,aaH,aaH,List.all_map,h 0 a rfl];congr 1;show b (tr∘Nat.succ) λi x e=>h (i+1) x (by simpa using e)
def TV(F:X.calm=true):bH X (.builtin "all") (fy Ay):=λm s σ H T V Q I B ⟨α,Z,st,K,G,F',P,r,S,q,k⟩=>by
 unfold Ay at q;split at q
 . rename_i R;split at q
   . rename_i bs e;obtain⟨v,rfl,l⟩:=gI r rfl;unfold Rep at l;obtain⟨a,U,rfl,na,M,L⟩:=l;obtain⟨u,rfl,y⟩:=vals1 B;cases y;let D:=qz L e;subst D;obtain⟨z,ao,n,t,Y,j⟩:=Inv.rY I (fi P M);let c:=qf t;subst c;let g:s.heap.IsList a (bs.map Value.bool).toArray:=⟨_,j,rfl,n,rfl⟩
     show call_all_walk (Zw g ?_);let h:a≠s.heap.objs.size:=Xn (W8 j);show⟨s.heap.objs.size,_,_,_,_,_,λi=>(bs[i]?).getD true,rfl,Walks.list (A:=X.A.in1) (I.ok.hd F) _ a h (bs.map Value.bool).toArray,⟨⟨_,Xe _ rfl,rfl,rfl⟩,⟨_,WU _ j,rfl,n,rfl⟩⟩,?_,?_⟩
     . intro i w W Q' E' d p;rw[abQ,W_]at d;cases f:bs[i]? with
       |none=>rw[f]at d;cases d
       |some b=>
        rw[f]at d;cases d;simp![f]at p;show Zd p
     . intro N tk E
       let C:∀b o,s.heap.get? b=some o->N.get? b=some o:=λb o q=>E b o (by
        intro J;let:b=s.heap.objs.size:=by simpa using J
        show absurd (W8 q) (by rw[this];show XU _)) (WU _ q)
       let O:(List.range (bs.map Value.bool).toArray.size).all (λi=>(bs[i]?).getD true)=bs.all id:=by
        rw[W6,W2];show range_all bs id _ λi x e=>by rw[e];rfl
       rw[O];show⟨.bl (bs.all id),H,I.kept (t':=tk) C,rfl,k.here P q S (by unfold Rep;rfl)⟩
   . show q.elim
 . show q.elim
def fF(st:af):D->Option String
 | .aD=>some "NoneType"
 | .bl _=>some "bool"
 | .int _=>some "int"
 | .str _=>some "str"
 | .lst _=>some "list"
 | .tup _=>some "tuple"
 | .ref n=>(match st[n]? with|some (.lst _)=>some "list"|_=>none)
 | .ty _=>none
@[simp] theorem WA(st:af)(xs:List D):fF st (.lst xs)=some "list":=rfl
@[simp] theorem WO(st:af)(xs:List D):fF st (.tup xs)=some "tuple":=rfl
@[simp] theorem ty_int(st:af)(i:Int):fF st (.int i)=some "int":=rfl
@[simp] theorem WR(st:af)(i:Bool):fF st (.bl i)=some "bool":=rfl
@[simp] theorem ty_str(st:af)(i:Str):fF st (.str i)=some "str":=rfl
@[simp] theorem WG(st:af):fF st .aD=some "NoneType":=rfl
def sE(t c:String):Bool:=t==c||(t=="bool"&&c=="int")
def AW{α:List (Option Addr)}{H:Hp}{st:af}{K:PySem.W.Frag}{d:D}{v:V}{t:String}(S:aY α st H)(r:Rep α H d v)(e:fF st d=some t):jC K H v (.type t):=by
 cases d<;>unfold fF at e<;>try(cases e;done)
 . unfold Rep at r;cases e;subst r;show .aD
 . unfold Rep at r;cases e;subst r;show .bl _
 . unfold Rep at r;cases e;subst r;show .int _
 . unfold Rep at r;cases e;subst r;show .str _
 . simp only at e;split at e
   . rename_i z;cases e;obtain⟨a,i,f,b,c⟩:=S.ie z;let h:=cZ i r;subst h;show .lst b
   . cases e
 . cases e;unfold Rep at r;obtain⟨a,g,rfl,na,b,c⟩:=r;rcases b with b|⟨o,b⟩
   . show .lst b
   . show .gG b
 . cases e;unfold Rep at r;obtain⟨a,g,rfl,na,b,c⟩:=r;show .tup b
def Ex{G F H:Hp}{K:PySem.W.Frag}(P:cu G F H){x:V}{t:Value}(h:jC K G x t):jC K H x t:=by
 cases h with
 |aD=>show .aD
 |bl x=>show .bl x
 |int x=>show .int x
 |str x=>show .str x
 |u7 x=>show .u7 x
 |lst e=>show .lst (P.get e)
 |gG e=>show .gG (P.get e)
 |tup e=>show .tup (P.get e)
 |dK e=>show .dK (P.get e)
 |dT e=>show .dT (P.get e)
 |ins e a b c d f=>show .ins (P.get e) a b c d f
def nh:List String:=["NoneType","bool","int","str","list","tuple"]
def lG:List String:=["bool","int","str","list","tuple"]
def Eh(K:PySem.W.Frag)(a:t∈nh)(b:c∈lG):PySem.W.kitOne K (.type t) (.type c)=some (sE t c):=by
 simp![nh,lG,Xh,Xi,YY]at a b;rcases a with rfl|rfl|rfl|rfl|rfl|rfl<;>rcases b with rfl|rfl|rfl|rfl|rfl<;>with_unfolding_all rfl
def qA{st:af}{d:D}{t:String}(e:fF st d=some t):t∈nh:=by
 cases d<;>unfold fF at e<;>first
  |(cases e;done)
  |(cases e;decide)
  |(simp only at e;split at e<;>cases e;decide)
def kitx_of{pins:List (Addr×Obj)}{σ:L2.St}{H:Hp}{s:Shared}{x:V}{u:Value}{t:String}(I:Inv X pins σ H s)(b:RelV x u)(j:jC X.K H x (.type t)):
 ∃h:Heap->Prop,PySem.W.KitX X.K u (.type t) h/\h s.heap/\u≠ .builtin "__main__.__loader__#opaque":=by
 cases j with
 |aD=>cases (show u=Value.none from b);show⟨_,PySem.W.kitx_none,True.intro,λz=>nomatch z⟩
 |bl y=>cases (show u=Value.bool y from b);show⟨_,PySem.W.kitx_bool,True.intro,λz=>nomatch z⟩
 |int i=>obtain⟨t,q⟩:=(show∃t,u=Value.int i t from b);cases q;show⟨_,PySem.W.kitx_int,True.intro,λz=>nomatch z⟩
 |str y=>obtain⟨t,q⟩:=(show∃t,u=Value.str y t from b);cases q;show⟨_,PySem.W.kitx_str,True.intro,λz=>nomatch z⟩
 |u7 y=>obtain⟨t,q⟩:=(show∃t,u=Value.float y t from b);cases q;show⟨_,PySem.W.kitx_float,True.intro,λz=>nomatch z⟩
 | @lst a f d=>
   cases (show u=Value.ref a from b);obtain⟨_,_,n,_,c⟩:=(show di X.prog X.w H s.heap a (.lst f)from I.aI a _ d)
   show⟨_,aay,⟨_,c,rfl⟩,λz=>nomatch z⟩
 | @gG a k f d=>
   cases (show u=Value.ref a from b);obtain⟨_,_,_,n,_,c⟩:=(show di X.prog X.w H s.heap a (.gG k (.lst f))from I.aI a _ d)
   show⟨_,aay,⟨_,c,rfl⟩,λz=>nomatch z⟩
 | @tup a f d=>
   cases (show u=Value.ref a from b);obtain⟨_,_,_,p⟩:=(show di X.prog X.w H s.heap a (.tup f)from I.aI a _ d)
   obtain⟨o,c,g,_⟩:=p;show⟨_,PySem.W.kitx_tuple,⟨o,c,g⟩,λz=>nomatch z⟩
 | @dK a e d=>
   cases (show u=Value.ref a from b);obtain⟨_,_,r,_,p⟩:=(show di X.prog X.w H s.heap a (.dK e)from I.aI a _ d)
   obtain⟨o,l,m,c,g,_⟩:=p;show⟨_,aaz,⟨o,c,g.1⟩,λz=>nomatch z⟩
 | @dT a e d=>
   cases (show u=Value.ref a from b);obtain⟨_,_,f,_,o,l,m,c,g,_⟩:=(show di X.prog X.w H s.heap a (.dT e)from I.aI a _ d)
   show⟨_,aaz,⟨o,c,g.1⟩,λz=>nomatch z⟩
def nr:List D->Option (List String)
 | []=>some []
 | .ty b::r=>(nr r).map (b:: ·)
 |_::_=>none
def C3:∀ {a:List D} {vs:List V} {bs:List String},aG α H a vs->nr a=some bs->vs=bs.map V.ty
 | [],vs,bs,r,e=>by
   unfold aG at r;cases e;show r
 |d::a,vs,bs,r,e=>by
  unfold aG at r;obtain⟨v,q,rfl,b,c⟩:=r;cases d<;>try(cases e;done)
  unfold nr at e;cases z:nr a with
  |none=>rw[z]at e;cases e
  |some f=>
   rw[z]at e;cases e;unfold Rep at b;rw[b,C3 c z];rfl
def Cy:∀ {bs:List String} {us:List Value},Vals (bs.map V.ty) us->us=bs.map Value.type
 | [],_,.nil=>rfl
 |b::bs,_,.cons h t=>by
  let h:_=Value.type b:=h;rw[h,Cy t];rfl
def En(K:PySem.W.Frag)(a:t∈nh):∀cs:List String,(∀c∈cs,c∈lG)->PySem.W.kitAny K (.type t) (cs.map Value.type)=some (cs.any (sE t))
 | [],_=>rfl
 |c::cs,h=>by
  change(match PySem.W.kitOne K (.type t) (.type c)with|some true=>some true|some false=>PySem.W.kitAny K (.type t) (cs.map Value.type)|none=>none)=_;rw[Eh K a (h c Xk),abd];cases sE t c with
  |true=>rfl
  |false=>show En K a cs λc b=>h c (Xg _ b)
def xl:d8:=λa st K=>match a with
 | [d,.ty c]=>(match fF st d with|some t=>c∈lG/\K (.bl (sE t c)) st|none=>False)
 | [d,.tup b]=>(match fF st d,nr b with|some t,some cl=>(∀c∈cl,c∈lG)/\K (.bl (cl.any (sE t))) st|_,_=>False)
 |_=>False
def Tv:bH X (.builtin "isinstance") (fy xl):=λm s σ H L N Q I l ⟨α,T,st,K,G,F',P,r,S,q,k⟩=>by
 unfold xl at q;split at q
 . rename_i d c;split at q
   . rename_i t e;obtain⟨v,x,rfl,i,f⟩:=mX r rfl;obtain⟨u,g,rfl,h,b⟩:=vals2 l;unfold Rep at f;subst f;cases (show g=Value.type c from b);show HU I h (Ex P (AW S i e)) (Eh _ (qA e) q.1) λtk=>⟨.bl (sE t c),H,I.tok tk,rfl,k.here P q.2 S (by unfold Rep;rfl)⟩
   . show q.elim
 . rename_i d V;split at q
   . rename_i t cl e F;obtain⟨v,x,rfl,i,f⟩:=mX r rfl;obtain⟨u,g,rfl,h,b⟩:=vals2 l;unfold Rep at f;obtain⟨a,M,rfl,na,E,D⟩:=f;cases (show g=Value.ref a from b);let z:=C3 D F;subst z;obtain⟨Y,Z,C,j⟩:=kitx_of I h (Ex P (AW S i e));obtain⟨W,y,pl,R⟩:=I.tuple (iC.of (P.get E));let B:=Cy y;subst B;obtain⟨⟨J,U,w,O⟩,A,p,n,o⟩:=pl;simp only at p o;subst p o;show PySem.W.kia_tup Z I.g4 C A (En _ (qA e) cl q.1) j λtk=>⟨.bl _,H,I.tok tk,rfl,k.here P q.2 S (by unfold Rep;rfl)⟩
   . show q.elim
 . show q.elim
end
end L3
namespace L3
open PySem PySem.Spec L2 PySem.SeqAt
open PyProof.Rows hiding St
mutual
def cO:D->D->Bool
 | .aD,.aD=>true
 | .bl a,.bl b=>a==b
 | .bl a,.int b=>(if a then 1 else 0)==b
 | .int a,.bl b=>a==(if b then 1 else 0)
 | .int a,.int b=>a==b
 | .str a,.str b=>a==b
 | .lst d,.lst c=>kY d c
 | .tup d,.tup c=>kY d c
 |_,_=>false
def kY:List D->List D->Bool
 | [],[]=>true
 |x::xs,y::ys=>cO x y&&kY xs ys
 |_,_=>false
end
def pl:Nat->D->Bool
 |_,.aD=>true
 |_,.bl _=>true
 |_,.int _=>true
 |_,.str _=>true
 |n+1,.lst a=>a.all (pl n)
 |n+1,.tup a=>a.all (pl n)
 |_,_=>false
mutual
def n_:∀(n:Nat) (d:D),pl n d=true->cO d d=true
 |_,.aD,_=>rfl
 |_,.bl _,_=>by simp[cO]
 |_,.int _,_=>by simp[cO]
 |_,.str _,_=>by simp[cO]
 |n+1,.lst a,h=>by unfold cO;show sU n a (by unfold pl at h;show h)
 |n+1,.tup a,h=>by unfold cO;show sU n a (by unfold pl at h;show h)
 |0,.lst a,h=>by cases h
 |0,.tup a,h=>by cases h
 |_,.ref _,h=>by unfold pl at h;cases h
 |_,.ty _,h=>by unfold pl at h;cases h
def sU:∀(n:Nat) (xs:List D),xs.all (pl n)=true->kY xs xs=true
 |_,[],_=>by unfold kY;rfl
 |n,x::xs,h=>by
  rw[aaH,Yc]at h;unfold kY;rw[n_ n x h.1,sU n xs h.2];rfl
end
mutual
def Rep.inj:∀ {d e:D} {v:V} (n:Nat),pl n d=true->pl n e=true->Rep α H d v->Rep α H e v->d=e
 | .aD,e,v,n,_,g,h,c=>by
   unfold Rep at h;subst h;cases e<;>first|(unfold pl at g;cases g;done)|(unfold Rep at c;cases c;rfl)|(unfold Rep at c;cases c;done)|(unfold Rep at c;obtain⟨_,_,c,_⟩:=c;cases c)|rfl|(cases c;done)|(obtain⟨_,_,c,_⟩:=c;cases c)|(obtain⟨_,_,c⟩:=c;cases c)
 | .bl b,e,v,n,_,g,h,c=>by
   unfold Rep at h;subst h;cases e<;>first|(unfold pl at g;cases g;done)|(unfold Rep at c;cases c;rfl)|(unfold Rep at c;cases c;done)|(unfold Rep at c;obtain⟨_,_,c,_⟩:=c;cases c)|(cases c;rfl)|(cases c;done)|(obtain⟨_,_,c,_⟩:=c;cases c)|(obtain⟨_,_,c⟩:=c;cases c)
 | .int b,e,v,n,_,g,h,c=>by
   unfold Rep at h;subst h;cases e<;>first|(unfold pl at g;cases g;done)|(unfold Rep at c;cases c;rfl)|(unfold Rep at c;cases c;done)|(unfold Rep at c;obtain⟨_,_,c,_⟩:=c;cases c)|(cases c;rfl)|(cases c;done)|(obtain⟨_,_,c,_⟩:=c;cases c)|(obtain⟨_,_,c⟩:=c;cases c)
 | .str b,e,v,n,_,g,h,c=>by
   unfold Rep at h;subst h;cases e<;>first|(unfold pl at g;cases g;done)|(unfold Rep at c;cases c;rfl)|(unfold Rep at c;cases c;done)|(unfold Rep at c;obtain⟨_,_,c,_⟩:=c;cases c)|(cases c;rfl)|(cases c;done)|(obtain⟨_,_,c,_⟩:=c;cases c)|(obtain⟨_,_,c⟩:=c;cases c)
 | .ty b,e,v,n,i,g,h,c=>by unfold pl at i;cases i
 | .ref b,e,v,n,i,g,h,c=>by unfold pl at i;cases i
 | .lst q,e,v,0,i,g,h,c=>by cases i
 | .tup q,e,v,0,i,g,h,c=>by cases i
 | .lst q,e,v,n+1,i,g,h,c=>by
   unfold Rep at h;obtain⟨a,t,rfl,na,k,r⟩:=h;cases e<;>unfold Rep at c<;>try(cases c;done)
   . unfold pl at g;cases g
   . obtain⟨s,l,p,m,f,j⟩:=c;cases p
     let:t=l:=by
      rcases k with k|⟨o,k⟩<;>rcases f with f|⟨u,f⟩<;>(rw[k]at f;first|(cases f;rfl)|(cases f;done))
     subst this;rw[aG.inj n (by unfold pl at i;show i) (by unfold pl at g;show g) r j]
   . obtain⟨s,l,p,m,f,j⟩:=c;cases p;rcases k with k|⟨o,k⟩<;>(rw[k]at f;cases f)
 | .tup q,e,v,n+1,i,g,h,c=>by
   unfold Rep at h;obtain⟨a,t,rfl,na,k,r⟩:=h;cases e<;>unfold Rep at c<;>try(cases c;done)
   . unfold pl at g;cases g
   . obtain⟨s,l,p,m,f,j⟩:=c;cases p;rcases f with f|⟨o,f⟩<;>(rw[k]at f;cases f)
   . obtain⟨s,l,p,m,f,j⟩:=c;cases p;rw[k]at f;cases f;rw[aG.inj n (by unfold pl at i;show i) (by unfold pl at g;show g) r j]
def aG.inj:∀ {f a:List D} {vs:List V} (n:Nat),f.all (pl n)=true->a.all (pl n)=true->aG α H f vs->aG α H a vs->f=a
 | [],a,vs,n,_,_,c,b=>by
   unfold aG at c;subst c;cases a with
   |nil=>rfl
   |cons e a=>unfold aG at b;obtain⟨_,_,h,_⟩:=b;cases h
 |d::f,a,vs,n,i,g,c,b=>by
  unfold aG at c;obtain⟨v,r,rfl,k,j⟩:=c;cases a with
  |nil=>unfold aG at b;cases b
  |cons e a=>
   unfold aG at b;obtain⟨o,p,h,m,l⟩:=b;cases h;rw[aaH,Yc]at i g;rw[Rep.inj n i.1 g.1 k m,aG.inj n i.2 g.2 j l]
end
def nE:∀ {xs ys:List D},xs.length≠ys.length->kY xs ys=false
 | [],[],h=>absurd rfl h
 | [],_::_,_=>by unfold kY;rfl
 |_::_,[],_=>by unfold kY;rfl
 |x::xs,y::ys,h=>by
  unfold kY;rw[nE (by simpa using h),abR]
def nD:∀ {xs ys:List D},xs.length=ys.length->kY xs ys=(List.range xs.length).all λj=>cO (xs.getD j .aD) (ys.getD j .aD)
 | [],[],_=>by unfold kY;rfl
 | [],_::_,h=>by cases h
 |_::_,[],h=>by cases h
 |x::xs,y::ys,h=>by
  unfold kY;rw[Xw,Yp,aaH,List.all_map,nD (by simpa using h)];rfl
section
variable {X:Cx}{pins:List (Addr×Obj)}{σ:L2.St}{H:Hp}{s:Shared}{α:List (Option Addr)}
def ky{xs:List D}{ao:List Value}(r:aG α H xs vs)(v:Vals vs ao)(j:Nat)(f:j<ao.length):∃x,xs[j]?=some (xs.getD j .aD)/\Rep α H (xs.getD j .aD) x/\RelV x ao[j]:=by
 let h:=r.length;let g:=v.length;let b:j<xs.length:=by lia
 let e:xs[j]?=some (xs.getD j .aD):=by rw[W7 b,Xa,W7 b];rfl
 obtain⟨x,q,d⟩:=r.get e;obtain⟨u,a,c⟩:=v.get q;rw[W7 f]at a;cases a;show⟨x,e,d,c⟩
def ja{xs:List D}(h:xs.all (pl n)=true)(j:Nat):pl n (xs.getD j .aD)=true:=by
 rw[Xa];cases e:xs[j]? with
 |none=>cases n<;>rfl
 |some d=>show XA.mp h d (Xu e)
def zF:D->Bool
 | .aD=>true
 | .bl _=>true
 | .int _=>true
 | .str _=>true
 |_=>false
def DZ{d e:D}(h:zF d=true)(g:zF e=true)(f:Rep α H d x)(c:Rep α H e y)(b:RelV x u)(a:RelV y v):RcAt A s u v (cO d e)/\EqAt A s u v (cO d e):=by
 cases d<;>cases e<;>try(first|(cases h;done)|(cases g;done))
 all_goals(unfold Rep at f c;subst f c)
 all_goals(first|(obtain⟨t,rfl⟩:=b;obtain⟨i,rfl⟩:=a)|(obtain⟨t,rfl⟩:=b;cases a)|(cases b;obtain⟨t,rfl⟩:=a)|(cases b;cases a))
 all_goals unfold cO
 . show⟨RcAt.none_none,EqAt.same _⟩
 . show⟨RcAt.none_bool _,EqAt.none_bool _⟩
 . show⟨RcAt.none_int _ _,EqAt.none_int _ _⟩
 . show⟨RcAt.none_str _ _,EqAt.none_str _ _⟩
 . show⟨RcAt.bool_none _,EqAt.bool_none _⟩
 . show⟨RcAt.bool_bool _ _,EqAt.bool_bool _ _⟩
 . show⟨RcAt.bool_int _ _ _,EqAt.bool_int _ _ _⟩
 . show⟨RcAt.bool_str _ _ _,EqAt.bool_str _ _ _⟩
 . show⟨RcAt.int_none _ _,EqAt.int_none _ _⟩
 . show⟨RcAt.int_bool _ _ _,EqAt.int_bool _ _ _⟩
 . show⟨RcAt.int_int _ _ _ _,EqAt.int_int _ _ _ _⟩
 . show⟨RcAt.int_str _ _ _ _,EqAt.int_str _ _ _ _⟩
 . show⟨RcAt.str_none _ _,EqAt.str_none _ _⟩
 . show⟨RcAt.str_bool _ _ _,EqAt.str_bool _ _ _⟩
 . show⟨RcAt.str_int _ _ _ _,EqAt.str_int _ _ _ _⟩
 . show⟨RcAt.str_str _ _ _ _,EqAt.str_str _ _ _ _⟩
def lst_is(I:Inv X pins σ H s)(r:Rep α H (.lst xs) x)(b:RelV x u):∃a vs ao,u= .ref a/\aG α H xs vs/\Vals vs ao/\s.heap.IsList a ao.toArray:=by
 unfold Rep at r;obtain⟨a,vs,rfl,na,e,d⟩:=r;cases b;obtain⟨z,ao,n,c,g,f⟩:=Inv.rY I e;show⟨a,vs,ao,rfl,d,c,⟨_,f,rfl,n,rfl⟩⟩
def tup_is(I:Inv X pins σ H s)(r:Rep α H (.tup xs) x)(b:RelV x u):∃a vs ao,u= .ref a/\aG α H xs vs/\Vals vs ao/\s.heap.IsTuple a ao.toArray:=by
 unfold Rep at r;obtain⟨a,vs,rfl,na,e,c⟩:=r;cases b;obtain⟨ao,d,p,f⟩:=I.tuple (iC.of e);show⟨a,vs,ao,rfl,c,d,p⟩
def zM(I:Inv X pins σ H s){A:Around}{e:D}(i:zF e=true)(h:Rep α H (.lst xs) x)(f:Rep α H e y)(g:RelV x u)(d:RelV y v)(b:A.units<cLine):
 (RcAt A s u v (cO (.lst xs) e)/\EqAt A s u v (cO (.lst xs) e))/\RcAt A s v u (cO e (.lst xs))/\EqAt A s v u (cO e (.lst xs)):=by
 obtain⟨a,j,k,rfl,_,_,c⟩:=lst_is I h g;cases e<;>try(cases i;done)
 all_goals(unfold Rep at f;subst f)
 all_goals(first|(obtain⟨t,rfl⟩:=d)|(cases d))
 all_goals unfold cO
 . show⟨⟨RcAt.list_none c b,EqAt.list_none c b⟩,RcAt.none_list c b,EqAt.none_list c b⟩
 . show⟨⟨RcAt.list_bool _ c b,EqAt.list_bool _ c b⟩,RcAt.bool_list _ c b,EqAt.bool_list _ c b⟩
 . show⟨⟨RcAt.list_int _ _ c b,EqAt.list_int _ _ c b⟩,RcAt.int_list _ _ c b,EqAt.int_list _ _ c b⟩
 . show⟨⟨RcAt.list_str _ _ c b,EqAt.list_str _ _ c b⟩,RcAt.str_list _ _ c b,EqAt.str_list _ _ c b⟩
def yS(I:Inv X pins σ H s){A:Around}{e:D}(i:zF e=true)(h:Rep α H (.tup xs) x)(f:Rep α H e y)(g:RelV x u)(d:RelV y v)(b:A.units<cLine):
 (RcAt A s u v (cO (.tup xs) e)/\EqAt A s u v (cO (.tup xs) e))/\RcAt A s v u (cO e (.tup xs))/\EqAt A s v u (cO e (.tup xs)):=by
 obtain⟨a,j,k,rfl,_,_,c⟩:=tup_is I h g;cases e<;>try(cases i;done)
 all_goals(unfold Rep at f;subst f)
 all_goals(first|(obtain⟨t,rfl⟩:=d)|(cases d))
 all_goals unfold cO
 . show⟨⟨RcAt.tuple_none c b,EqAt.tuple_none c b⟩,RcAt.none_tuple c b,EqAt.none_tuple c b⟩
 . show⟨⟨RcAt.tuple_bool _ c b,EqAt.tuple_bool _ c b⟩,RcAt.bool_tuple _ c b,EqAt.bool_tuple _ c b⟩
 . show⟨⟨RcAt.tuple_int _ _ c b,EqAt.tuple_int _ _ c b⟩,RcAt.int_tuple _ _ c b,EqAt.int_tuple _ _ c b⟩
 . show⟨⟨RcAt.tuple_str _ _ c b,EqAt.tuple_str _ _ c b⟩,RcAt.str_tuple _ _ c b,EqAt.str_tuple _ _ c b⟩
def ED{d e:D}(f:pl n d=true)(m:pl n e=true)(k:Rep α H d x)(j:Rep α H e y)(i:RelV x (.ref a))(g:RelV y (.ref b))(h:RcAt A s (.ref a) (.ref b) (cO d e)):
 RcAt A s (.ref a) (.ref b) (cO d e)/\EqAt A s (.ref a) (.ref b) (cO d e):=by
 show⟨h,?_⟩;by_cases c:a=b
 . subst c;let l:x=y:=RelV.inj i g;subst l;let:=Rep.inj n f m k j;subst this;rw[n_ n d f];show EqAt.same _
 . show EqAt.of_refs c h
def GB(I:Inv X pins σ H s):∀(n:Nat) (A:Around) (d e:D) (x y:V) (u v:Value),pl n d=true->pl n e=true->Rep α H d x->Rep α H e y->RelV x u->RelV y v->A.units+n<cLine->
 RcAt A s u v (cO d e)/\EqAt A s u v (cO d e):=by
 intro n;induction n with
 |zero=>
  intro A d e x y u v z m l k i h hu;show DZ ?_ ?_ l k i h
  . cases d<;>first|rfl|(cases z)
  . cases e<;>first|rfl|(cases m)
 |succ n ih=>
  intro A d e x y u v z m l k i h hu;let c:A.units<cLine:=by lia
  let Q:A.in1.units+n<cLine:=by rw[Around.in1_units];lia
  cases d<;>try(cases z;done)
  case lst xs=>
   cases e<;>try(cases m;done)
   case lst ys=>
    have J:=l;let G:=k;let F:=i;let E:=h;obtain⟨a,S,r,rfl,L,C,q⟩:=lst_is I l i;obtain⟨b,R,f,rfl,K,B,o⟩:=lst_is I k h;let e1:=L.length;let e2:=C.length;let e3:=K.length;let e4:=B.length;show ED z m J G F E ?_;unfold cO;by_cases g:xs.length=ys.length
    . rw[nD g];let w:r.toArray.size=f.toArray.size:=by simp![W6];lia
      let Y:xs.length=r.toArray.size:=by simp![W6];lia
      rw[Y];show RcAt.lists q o w c λj h1 h2=>?_;let P:j<r.length:=by simpa using h1
      let O:j<f.length:=by simpa using h2
      obtain⟨p,_,U,T⟩:=ky L C j P;obtain⟨W,_,N,M⟩:=ky K B j O;show(ih A.in1 _ _ p W _ _ (ja (by unfold pl at z;show z) j) (ja (by unfold pl at m;show m) j) U N (by simpa using T) (by simpa using M) Q).2
    . rw[nE g];show RcAt.lists_lengths q o (by simp![W6,aaX,ne_eq];lia) c
   case tup ys=>
    obtain⟨a,S,r,rfl,L,C,q⟩:=lst_is I l i;obtain⟨b,R,f,rfl,K,B,o⟩:=tup_is I k h;unfold cO;show⟨RcAt.list_tuple q o c,EqAt.list_tuple q o c⟩
   all_goals show(zM I rfl l k i h c).1
  case tup xs=>
   cases e<;>try(cases m;done)
   case tup ys=>
    have J:=l;let G:=k;let F:=i;let E:=h;obtain⟨a,S,r,rfl,L,C,q⟩:=tup_is I l i;obtain⟨b,R,f,rfl,K,B,o⟩:=tup_is I k h;let e1:=L.length;let e2:=C.length;let e3:=K.length;let e4:=B.length;show ED z m J G F E ?_;unfold cO
    let t:=RcAt.tuples (e:=λj=>cO (xs.getD j .aD) (ys.getD j .aD)) q o c λj h1 h2=>by
     let P:j<r.length:=by simpa using h1
     let O:j<f.length:=by simpa using h2
     obtain⟨p,_,U,T⟩:=ky L C j P;obtain⟨W,_,N,M⟩:=ky K B j O;show(ih A.in1 _ _ p W _ _ (ja (by unfold pl at z;show z) j) (ja (by unfold pl at m;show m) j) U N (by simpa using T) (by simpa using M) Q).2
    by_cases g:xs.length=ys.length
    . rw[nD g];let w:r.toArray.size=f.toArray.size:=by simp![W6];lia
      let Y:xs.length=r.toArray.size:=by simp![W6];lia
      rw[w,ab7,aaJ,Bool.and_true,<-w,<-Y]at t;show t
    . rw[nE g];let Z:(r.toArray.size==f.toArray.size)=false:=by simp![W6,Ze,ne_eq];lia
      rw[Z,abR]at t;show t
   case lst ys=>
    obtain⟨a,S,r,rfl,L,C,q⟩:=tup_is I l i;obtain⟨b,R,f,rfl,K,B,o⟩:=lst_is I k h;unfold cO;show⟨RcAt.tuple_list q o c,EqAt.tuple_list q o c⟩
   all_goals show(yS I rfl l k i h c).1
  all_goals
   cases e<;>try(cases m;done)
   case lst ys=>show(zM I rfl k l h i c).2
   case tup ys=>show(yS I rfl k l h i c).2
   all_goals show DZ rfl rfl l k i h
def QV:cV:=λx y st K=>pl 40 x=true/\pl 40 y=true/\K (.bl (cO x y)) st
def VP{k:Nat}(g:cK k X.A):bW X (compareOp .Eq) (LR QV):=λpins s σ H x y v u Q I b a ⟨α,d,e,st,K,G,i,P,f,c,S,q,k⟩=>by
 let h:=g.units;show(GB I 40 X.A d e x y v u q.1 q.2.1 (f.mono P.same) (c.mono P.same) b a (by lia)).1 _ _ _ _ ⟨.bl (cO d e),H,I,rfl,k.here P q.2.2 S (by unfold Rep;rfl)⟩
def Qc:cV:=λx y st K=>match x,y with
 | .int i,.int j=>K (.bl (!decide (i=j))) st
 | .bl i,.bl j=>K (.bl (!decide (i=j))) st
 | .str i,.str j=>K (.bl (!decide (i=j))) st
 |_,_=>False
def VH:bW X (compareOp .NotEq) (LR Qc):=bW.imp UP λx y H Q ⟨α,d,e,st,K,G,c,P,b,a,S,q,k⟩=>by
 cases d<;>cases e<;>try show q.elim
 all_goals(unfold Rep at b a;subst b a)
 . show⟨rfl,k.here P q S (by unfold Rep;congr 2;show ZE.mpr ⟨λh=>by cases h;rfl,λh=>by rw[h]⟩)⟩
 . show⟨rfl,k.here P q S (by unfold Rep;congr 2;show ZE.mpr ⟨λh=>by cases h;rfl,λh=>by rw[h]⟩)⟩
 . show⟨rfl,k.here P q S (by unfold Rep;congr 2;show ZE.mpr ⟨λh=>by cases h;rfl,λh=>by rw[h]⟩)⟩
end
end L3
namespace L3
open PySem PySem.Spec L2
open PyProof.Rows hiding St
def LC(α:List (Option Addr))(G F:Hp)(K:bX->af->Prop)(Q:L2.St->Hp->Prop):Prop:=∀a b,K a b->∀d c f e,Step α G d c->cu c F f->dU d c a e->aY d b c->Q e f
structure Au(α:List (Option Addr))(G F:Hp)(DD:jl)(D:Ends):Prop where
 nx:LC α G F DD.nx D.nx
 rt:LK α G F DD.rt D.rt
 bk:LC α G F DD.bk D.bk
 ct:LC α G F DD.ct D.ct
inductive Vh(t:DS)(D:Ends)(σ:L2.St)(H:Hp):Prop
 |mk (α:List (Option Addr)) (σd:bX) (st:af) (DD:jl) (G F:Hp) (P:cu G F H) (R:dU α G σd σ) (S:aY α st G) (h:t DD σd st) (k:Au α G F DD D):Vh t D σ H
def LS(t:DS):TS:=Vh t
def LC.at{α b:List (Option Addr)}{G F c:Hp}{K:bX->af->Prop}{Q:L2.St->Hp->Prop}(h:LC α G F K Q)(s:Step α G b c):LC b c F K Q:=λd a k e i g v f P R S=>h d a k e i g v (s.trans f) P R S
def LC.here{α:List (Option Addr)}{G F H:Hp}{K:bX->af->Prop}{Q:L2.St->Hp->Prop}(h:LC α G F K Q)(P:cu G F H){a:bX}{st:af}{σ:L2.St}(k:K a st)(R:dU α G a σ)(S:aY α st G):Q σ H:=h a st k α G H σ Step.refl P R S
def Au.at{D:Ends}(h:Au α G F c D)(s:Step α G a b):Au a b F c D:=⟨h.nx.at s,h.rt.at s,h.bk.at s,h.ct.at s⟩
section
variable {X:Cx}{a b c e o i:Expr}{es:List Expr}{ta tb tc te:DE}{pos:Pos}{st:Stmt}{sts:List Stmt}{t u:DS}
def PS.imp{t t':TS}(h:PS X st t)(f:∀D σ H,t' D σ H->t D σ H):PS X st t':=λd s σ H D I q=>h d s σ H D I (f D σ H q)
def g8.imp{t t':TS}(h:g8 X sts t)(f:∀D σ H,t' D σ H->t D σ H):g8 X sts t':=λd s σ H D I q=>h d s σ H D I (f D σ H q)
def cA:DS:=λD σ st=>D.nx σ st
def av(t u:DS):DS:=λD σ st=>t {D with nx:=u D} σ st
def N2:g8 X [] (LS cA):=g8.imp NU λD σ H ⟨α,d,st,f,G,F,P,R,S,t,k⟩=>k.nx.here P t R S
def Oj(h:PS X st (LS t)):g8 X [st] (LS t):=NT h
def LX(h:PS X st (LS t))(m:g8 X sts (LS u)):g8 X (st::sts) (LS (av t u)):=g8.imp (Kb h m) λD σ H ⟨α,g,st,v,G,F,P,R,S,t,k⟩=>
 ⟨α,g,st,_,G,F,P,R,S,t,λd f q j s x w l r p n=>⟨j,d,f,v,s,F,r,p,n,q,k.at l⟩,k.rt,k.bk,k.ct⟩
def tM:DS:=λD σ st=>D.ct σ st
def Dt:PS X (.Continue pos) (LS tM):=PS.imp DU λD σ H ⟨α,d,st,f,G,F,P,R,S,t,k⟩=>k.ct.here P t R S
def a6(te:DE):DS:=λD σ st=>te σ st D.rt
def RT(h:PE X e (LE te)):PS X (.Return (some e) pos) (LS (a6 te)):=PS.imp (Qv h) λD σ H ⟨α,d,st,f,G,F,P,R,S,t,k⟩=>⟨α,d,st,_,G,F,P,R,S,t,k.rt⟩
def E1:DS:=λD _ st=>D.rt .aD st
def Pm:PS X (.Return none pos) (LS E1):=PS.imp Pt λD σ H ⟨α,d,st,f,G,F,P,R,S,t,k⟩=>k.rt.here P t S (by unfold Rep;rfl)
def d6(te:DE):DS:=λD σ st=>te σ st λ_ d=>D.nx σ d
def NL(h:PE X e (LE te))(l:swapsWith e none pos.line X.env=pure false:=by rfl):PS X (.Expr e pos) (LS (d6 te)):=PS.imp (ON h l) λD σ H ⟨α,g,st,w,G,F,P,R,S,t,k⟩=>
 ⟨α,g,st,_,G,F,P,R,S,t,λd j q p s H1 v f n m r=>(k.nx.at f).here n q (R.step f) m⟩
def cS(c:DT)(t u:DS):DS:=λD σ st=>c σ st λb d=>if b=true then t D σ d else u D σ d
def Ud{tc:DT}(p:PT X c (LT tc))(s:g8 X x (LS t))(r:g8 X y (LS u)):PS X (.If c x y pos) (LS (cS tc t u)):=PS.imp (UO p s r) λD σ H ⟨α,g,st,n,G,F,P,R,S,t,k⟩=>by
 show⟨α,g,st,_,G,F,P,R,S,t,λb d q h m H1 f l j=>?_⟩;cases b with
 |true=>show⟨h,g,d,n,m,F,l,R.step f,j,q,k.at f⟩
 |false=>show⟨h,g,d,n,m,F,l,R.step f,j,q,k.at f⟩
abbrev fu:=D->bX->Option bX
def bf(i:Nat):fu:=λd σ=>some (σ.set i (some d))
def dN(i j:Nat):fu:=λd σ=>match d with| .tup [x,y]=>some ((σ.set i (some x)).set j (some y))|_=>none
inductive Vs(t:fu)(v:V)(σ:L2.St)(H:Hp)(Q:L2.St->Hp->Prop):Prop
 |mk (α:List (Option Addr)) (σd:bX) (st:af) (d:D) (K:bX->af->Prop) (G F:Hp) (P:cu G F H) (R:dU α G σd σ) (S:aY α st G) (r:Rep α G d v) (h:∃σ',t d σd=some σ'/\K σ' st) (k:LC α G F K Q):Vs t v σ H Q
def LG(t:fu):TG:=Vs t
def PG.imp{g:Expr}{t t':TG}(h:PG X g t)(f:∀v σ H Q,t' v σ H Q->t v σ H Q):PG X g t':=λd s σ H v u Q I r q=>h d s σ H v u Q I r (f v σ H Q q)
def OT{i:Nat}(h:PG X f (jO i)):PG X f (LG (bf i)):=PG.imp h λv σ H Q ⟨α,g,st,d,K,G,F,P,R,S,r,⟨j,e,q⟩,k⟩=>by
 cases e;show k.here P q (R.set i r) S
def RY{i j:Nat}(h:PG X f (LH X.K 2 (t6 (jO i) (t6 (jO j) KN)))):PG X f (LG (dN i j)):=PG.imp h λv σ H Q ⟨α,w,st,d,K,G,F,P,R,S,r,⟨z,e,q⟩,k⟩=>by
 unfold dN at e;split at e
 . rename_i x y;cases e;unfold Rep at r;obtain⟨a,A,rfl,na,s,p⟩:=r;obtain⟨l,g,rfl,n,m⟩:=mX p rfl;show⟨a,_,rfl,.of (P.get s),rfl,l,_,rfl,g,_,rfl,rfl,k.here P q ((R.set i n).set j m) S⟩
 . cases e
def aM(i:Nat)(te:DE):DS:=λD σ st=>te σ st λd f=>D.nx (σ.set i (some d)) f
def Qo{i:Nat}(h:PS X st (oY (LE te) (jO i))):PS X st (LS (aM i te)):=PS.imp h λD σ H ⟨α,g,st,s,G,F,P,R,S,t,k⟩=>
 ⟨α,g,st,_,G,F,P,R,S,t,λd j q p r H1 v f n m l=>(k.nx.at f).here n q ((R.step f).set i l) m⟩
def xX(h:fu)(te:DE):DS:=λD σ st=>te σ st λd f=>∃g,h d σ=some g/\D.nx g f
def QH(h:PS X st (oY (LE te) (LG j))):PS X st (LS (xX j te)):=PS.imp h λD σ H ⟨α,g,st,w,G,F,P,R,S,t,k⟩=>
 ⟨α,g,st,_,G,F,P,R,S,t,λd f q m s H1 v l r p n=>⟨m,g,f,d,w.nx,s,F,r,R.step l,p,n,q,k.nx.at l⟩⟩
def Lz(i j:Nat)(ta:DA):DS:=λD σ st=>ta σ st λf d=>match f with| [x,y]=>D.nx ((σ.set i (some x)).set j (some y)) d|_=>False
def P9{i j:Nat}{ta:DA}(h:PS X st (Qq i j (LA ta))):PS X st (LS (Lz i j ta)):=PS.imp h λD σ H ⟨α,g,st,C,G,F,P,R,S,t,k⟩=>by
 show⟨α,g,st,_,G,F,P,R,S,t,λs n q z B H1 A f w v d=>?_⟩;match s,q,d with
 | [x,y],q,d=>
   obtain⟨m,l,rfl,r,p⟩:=mX d rfl;show⟨m,l,rfl,(k.nx.at f).here w q (((R.step f).set i r).set j p) v⟩
def Bw(i:Nat)(r:cV)(te:DE):DS:=λD σ st=>match σ[i]? with|some (some x)=>te σ st λy f=>r x y f λz d=>D.nx (σ.set i (some z)) d|_=>False
def wR(f:Int->Int->Int):cV:=λx y st K=>match x,y with| .int i,.int j=>K (.int (f i j)) st|_,_=>False
def RO{i:Nat}{f:Int->Int->Int}(h:PS X st (SH i (LE te) (DY f))):PS X st (LS (Bw i (wR f) te)):=PS.imp h λD σ H ⟨α,l,st,A,G,F,P,R,S,t,k⟩=>by
 unfold Bw at t;split at t
 . rename_i x e;obtain⟨v,ev,d⟩:=R.at' i x e;show⟨v,ev,α,l,st,_,G,F,P,R,S,t,λy m q s z H1 w g r p j=>?_⟩;cases x<;>cases y<;>try show q.elim
   let n:=d;unfold Rep at d j;show⟨_,_,d,j,(k.nx.at g).here r q ((R.step g).set i (by unfold Rep;rfl)) p⟩
 . show t.elim
def vK(x y d:D)(st:af)(K:af->Prop):Prop:=match x,y with
 | .ref n,.int k=>(match st[n]? with
   |some (.lst f)=>(match km f.length k with|some j=>K (st.set n (.lst (f.set j d)))|none=>False)
   |_=>False)
 |_,_=>False
def Sy(k l te:DE):DS:=λD σ st=>te σ st λd j=>k σ j λx h=>l σ h λy g=>vK x y d g λf=>D.nx σ f
def LP(h:PS X st (oY (LE te) (Gx (LE I) (LE J) Ai))):PS X st (LS (Sy I J te)):=PS.imp h λD σ H ⟨α,g,st,DD,G,F,P,R,S,t,k⟩=>by
 show⟨α,g,st,_,G,F,P,R,S,t,λd z q Q G1 H1 v r P1 S1 W=>?_⟩;show⟨Q,g,z,_,G1,F,P1,R.step r,S1,q,λx w Y O G2 H2 v2 m P2 S2 V=>?_⟩;show⟨O,g,w,_,G2,F,P2,(R.step r).step m,S2,Y,λy T f E G3 H3 v3 l P3 N L=>?_⟩;cases x<;>cases y<;>try show f.elim
 rename_i n Z;unfold vK at f;simp only at f;split at f
 . rename_i xs e;split at f
   . rename_i j ej;obtain⟨p,C,s,M,K⟩:=N.ie e;let A:=cZ C (V.step l);subst A;unfold Rep at L;let B:some p∈E:=Xu C;let U:=(W.step m).step l;show⟨p,s,Z,j,rfl,L,P3.get M,by rw[<-K.length];show ej,?_⟩;show(((k.nx.at r).at m).at l) g _ f E (upd G3 p (.lst (s.set j v))) _ σ (Step.write B) (P3.write M) ((((R.step r).step m).step l).step (Step.write B)) ?_;show N.write C ⟨s.set j v,a9,(aV.mpr (qH U j (aV.mp K))).step (Step.write B)⟩
   . show f.elim
 . show f.elim
def rW(c:DT)(tb:DS):DS:=λD σ st=>∃W:Nat->bX->af->Prop,(∃m,W m σ st)/\∀m σ st,W m σ st->
 c σ st λb f=>if b=true then tb {D with nx:=λh d=>∃g,g<m/\W g h d,ct:=λh d=>∃g,g<m/\W g h d,bk:=D.nx} σ f else D.nx σ f
def K0{tc:DT}(h:PS X st (HB (LT tc) (LS t))):PS X st (LS (rW tc t)):=PS.imp h λD σ H ⟨α,Q,st,DD,G,F,P,R,S,⟨W,⟨m0,Z⟩,turn⟩,k⟩=>by
 show⟨λm x y=>∃n d f g,Step α G n g/\cu g F y/\dU n g d x/\aY n f g/\W m d f,⟨m0,α,Q,st,G,Step.refl,P,R,S,Z⟩,?_⟩;rintro m σ1 H1 ⟨V,l,v,G1,w,P1,L,S1,Y⟩;show⟨V,l,v,_,G1,F,P1,L,S1,turn m l v Y,λb C q U G2 H2 r O N=>?_⟩;cases b with
 |false=>show((k.nx.at w).at r).here O q (L.step r) N
 |true=>
  show⟨λx y=>∃s,s<m/\∃n d f g,Step α G n g/\cu g F y/\dU n g d x/\aY n f g/\W s d f,λx y z=>z,?_⟩;show⟨U,l,C,_,G2,F,O,L.step r,N,q,?_⟩;show⟨?_,(k.rt.at w).at r,(k.nx.at w).at r,?_⟩
  . rintro j p ⟨s,I,B⟩ A M H3 T E P3 K J;show⟨s,I,A,j,p,M,(w.trans r).trans E,P3,K,J,B⟩
  . rintro j p ⟨s,I,B⟩ A M H3 T E P3 K J;show⟨s,I,A,j,p,M,(w.trans r).trans E,P3,K,J,B⟩
abbrev DI:=bX->af->(List D->(af->Prop)->af->Prop)->Prop
structure sW(J:It)(α:List (Option Addr))(G:Hp)(ok:af->Prop)(xs:List D):Prop where
 stop:∀(n:Nat) α' G' F' H' st',Step α G α' G'->cu G' F' H'->aY α' st' G'->ok st'->xs.length<=n->J.stop n H'
 go:∀(n:Nat) d α' G' F' H' st',Step α G α' G'->cu G' F' H'->aY α' st' G'->ok st'->xs[n]?=some d->J.go n H'
 nQ:∀(n:Nat) d α' G' F' H' st' x H'',Step α G α' G'->cu G' F' H'->aY α' st' G'->ok st'->xs[n]?=some d->J.nQ n H' x H''->∃G'',Step α' G' α' G''/\cu G'' F' H''/\aY α' st' G''/\Rep α' G'' d x
def LI(t:DI):TI:=λσ H R=>∃α h st K G F,cu G F H/\dU α G h σ/\aY α st G/\t h st K/\∀j ok d,K j ok d->∀J g f H1,Step α G g f->cu f F H1->aY g d f->sW J g f ok j->R J H1
def yr(d:D)(f:af)(K:List D->(af->Prop)->af->Prop):Prop:=match d with
 | .lst g=>K g (λ_=>True) f
 | .tup g=>K g (λ_=>True) f
 | .ref n=>(match f[n]? with|some (.lst g)=>K g (λh=>h[n]?=some (.lst g)) f|_=>False)
 |_=>False
def TX(t:DE):DI:=λσ st K=>t σ st λd f=>yr d f K
def Eo{K:PySem.W.Frag}{a:Addr}{α:List (Option Addr)}{G:Hp}{ok:af->Prop}{xs:List D}
 (h:∀j g f,Step α G j g->aY j f g->ok f->∃vs,Rd g a (.lst vs)/\aG j g xs vs):sW (Qj K a) α G ok xs where
 stop:=λn j g q p f s P S o k=>by
  obtain⟨vs,m,l⟩:=h j g f s S o;show⟨vs,.inl (fi P m),by rw[<-l.length];show k⟩
 go:=λn d j g q p f s P S o k=>by
  obtain⟨vs,m,l⟩:=h j g f s S o;obtain⟨v,e,_⟩:=l.get k;show⟨vs,v,.inl (fi P m),e⟩
 nQ:=λn d j g q p f x w s P S o k y=>by
  obtain⟨vs,m,l⟩:=h j g f s S o;obtain⟨v,e,r⟩:=l.get k;obtain⟨rfl,y⟩:=y;let:=y vs (.inl (fi P m));rw[e]at this;cases this;show⟨g,Step.refl,P,S,r⟩
def Sd{K:PySem.W.Frag}{a:Addr}{α:List (Option Addr)}{G:Hp}{ok:af->Prop}{xs:List D}
 (h:∀j g f,Step α G j g->aY j f g->ok f->∃vs,g a=some (.tup vs)/\aG j g xs vs):sW (RH K a) α G ok xs where
 stop:=λn j g q p f s P S o k=>by
  obtain⟨vs,m,l⟩:=h j g f s S o;show⟨vs,.of (P.get m),by rw[<-l.length];show k⟩
 go:=λn d j g q p f s P S o k=>by
  obtain⟨vs,m,l⟩:=h j g f s S o;obtain⟨v,e,_⟩:=l.get k;show⟨vs,v,.of (P.get m),e⟩
 nQ:=λn d j g q p f x w s P S o k y=>by
  obtain⟨vs,m,l⟩:=h j g f s S o;obtain⟨v,e,r⟩:=l.get k;obtain⟨rfl,y⟩:=y;let:=y vs (.of (P.get m));rw[e]at this;cases this;show⟨g,Step.refl,P,S,r⟩
def Md{a:Addr}(s:Step α G f d)(na:some a∉α)(j:Rd G a (.lst vs))(g:aG α G xs vs):Rd d a (.lst vs)/\aG f d xs vs:=by
 show⟨?_,g.step s⟩;rcases j with h|⟨o,h⟩
 . show .inl (s.ext _ _ na h)
 . show .inr ⟨o,s.ext _ _ na h⟩
def SA(hl:PE X l (LE tl)):PI X O l (LI (TX tl)):=by
 intro j s σ H R I h;obtain⟨α,σd,st,K,G,F,P,RS,S,t,k⟩:=h;show bQ (hl j s σ H (λx H1=>∃d w r f,Step α G w r/\cu r F H1/\aY w f r/\Rep w r d x/\yr d f K) I ⟨α,σd,st,_,G,F,P,RS,S,t,λd f q w r H1 v g A E D=>⟨d,w,r,f,g,A,E,D,q⟩⟩) λv g ⟨x,H1,B,rx,d,w,r,f,C,A,E,D,q⟩=>?_;unfold yr at q
 let y:∀ {a:Addr} {m:List V},x= .ref a->Rd H1 a (.lst m)->R (Qj X.K a) H1->wpAny (model X.prog X.w) X.A (pyIter v) (Mr X j σ O R) X.xe g:=by
  intro a m Y U W;subst Y;cases rx;obtain⟨ao,rv,p,hz⟩:=B.list (.inl U);show Zw p.isList ?_;show⟨g.heap.objs.size,[g.heap.objs.size],_,_,H1,rfl,B.kept (t':=g.toks) λb o e=>WU _ e,Iu a _,⟨_,Xe _ rfl,rfl,rfl⟩,λb M=>?_,W⟩;let e:b=g.heap.objs.size:=by simpa using M
  subst e;show B.sv (WX _) (B.aI.fresh (WX _))
 let J:∀ {a:Addr} {m:List V},x= .ref a->H1 a=some (.tup m)->R (RH X.K a) H1->wpAny (model X.prog X.w) X.A (pyIter v) (Mr X j σ O R) X.xe g:=by
  intro a m Y U W;subst Y;cases rx;obtain⟨ao,rv,p,hz⟩:=B.tuple (iC.of U);show Zj (show g.heap.IsTuple a ao.toArray from p) ?_;show⟨g.heap.objs.size,[g.heap.objs.size],_,_,H1,rfl,B.kept (t':=g.toks) λb o e=>WU _ e,Gs a _,⟨_,Xe _ rfl,rfl,rfl⟩,λb M=>?_,W⟩;let e:b=g.heap.objs.size:=by simpa using M
  subst e;show B.sv (WX _) (B.aI.fresh (WX _))
 cases d<;>try show q.elim
 . rename_i n;simp only at q;split at q
   . rename_i xs e;obtain⟨a,ea,m,h1,h2⟩:=E.ie e;let T:=cZ ea D;subst T;show y rfl (fi A (.of h1)) (k _ _ f q _ w r H1 C A E (Eo λZ G' L s S o=>?_));obtain⟨b,eb,ws,g1,g2⟩:=S.ie o
     let M:b=a:=by
      rcases s.pre _ _ ea with z|z<;>(rw[z]at eb;cases eb)
      rfl
     subst M;show⟨ws,.of g1,g2⟩
   . show q.elim
 . unfold Rep at D;obtain⟨a,m,rfl,na,N,Q⟩:=D;show y rfl (fi A N) (k _ _ f q _ w r H1 C A E (Eo λZ G' L s S o=>⟨m,Md s na N Q⟩))
 . unfold Rep at D;obtain⟨a,m,rfl,na,N,Q⟩:=D;show J rfl (A.get N) (k _ _ f q _ w r H1 C A E (Sd λZ G' L s S o=>⟨m,s.ext _ _ na N,Q.step s⟩))
def cQ(lo:Int)(n:Nat):List D:=(List.range n).map λ(k:Nat)=>D.int (lo+(k:Int))
def we{lo:Int}{n k:Nat}:(cQ lo n)[k]?=if k<n then some (.int (lo+(k:Int)))else none:=by
 unfold cQ;rw[W_];by_cases h:k<n
 . rw[Yb h,WY h];rfl
 . rw[Yw (by simpa using h),WW h];rfl
def dZ{lo:Int}{n:Nat}:(cQ lo n).length=n:=by unfold cQ;simp
def BH{α:List (Option Addr)}{G:Hp}{lo:Int}{n:Nat}:sW (zi lo n) α G (λ_=>True) (cQ lo n) where
 stop:=λm j h l k g s P S o f=>by rw[dZ]at f;show f
 go:=λm d j h l k g s P S o f=>by
  rw[we]at f;split at f
  . assumption
  . cases f
 nQ:=λm d j h l k g x p s P S o f y=>by
  obtain⟨rfl,rfl⟩:=y;rw[we]at f;split at f
  . cases f;show⟨h,Step.refl,P,S,by unfold Rep;rfl⟩
  . cases f
def PI.imp{t t':TI}(h:PI X j d t)(f:∀σ H R,t' σ H R->t σ H R):PI X j d t':=λg s σ H R I q=>h g s σ H R I (f σ H R q)
def ME(f:List D)(d:af)(K:List D->(af->Prop)->af->Prop):Prop:=match f with
 | [.int j]=>(-(2^62)<=j/\j<2^62)/\K (cQ 0 j.toNat) (λ_=>True) d
 |_=>False
def Mn(f:List D)(d:af)(K:List D->(af->Prop)->af->Prop):Prop:=match f with
 | [.int i,.int j]=>(-(2^62)<=i/\i<2^62/\ -(2^62)<=j/\j<2^62)/\K (cQ i (j-i).toNat) (λ_=>True) d
 |_=>False
def Pj(t:DA):DI:=λσ st K=>t σ st λf d=>ME f d K
def PH(t:DA):DI:=λσ st K=>t σ st λf d=>Mn f d K
def Hi{t:DA}(h:PI X l d (E5 (LA t))):PI X l d (LI (Pj t)):=PI.imp h λσ H R ⟨α,n,st,K,G,F,P,x,S,t,k⟩=>by
 show⟨α,n,st,_,G,F,P,x,S,t,λs f q p z H1 A r y w g=>?_⟩;match s,q,g with
 | [.int j],q,g=>
   obtain⟨v,rfl,m⟩:=gI g rfl;unfold Rep at m;subst m;show⟨j,rfl,q.1.1,q.1.2,k _ _ f q.2 _ p z H1 r y w BH⟩
def Ii{t:DA}(h:PI X l d (FJ (LA t))):PI X l d (LI (PH t)):=PI.imp h λσ H R ⟨α,p,st,K,G,F,P,y,S,t,k⟩=>by
 show⟨α,p,st,_,G,F,P,y,S,t,λw f q r A H1 B s z x g=>?_⟩;match w,q,g with
 | [.int i,.int j],q,g=>
   obtain⟨v,u,rfl,n,m⟩:=mX g rfl;unfold Rep at n m;subst n m;show⟨i,j,rfl,q.1,k _ _ f q.2 _ r A H1 s z x BH⟩
def i4(f:fu)(d:DS)(ok:af->Prop)(E:jl):List D->bX->af->Prop
 | [],σ,st=>ok st/\E.nx σ st
 |x::xs,σ,st=>ok st/\∃g,f x σ=some g/\d {E with nx:=i4 f d ok E xs,ct:=i4 f d ok E xs,bk:=E.nx} g st
def fm(g:DI)(j:fu)(d:DS):DS:=λD σ st=>g σ st λh ok f=>i4 j d ok D h σ f
def QY{B:DI}{K:fu}(h:PS X st (RV (LI B) (LG K) (LS t))):PS X st (LS (fm B K t)):=PS.imp h λD σ H ⟨α,σd,st,DD,G,F,P,R,S,tt,k⟩=>by
 show⟨α,σd,st,_,G,F,P,R,S,tt,λn ok U q J T G1 H1 L P1 S1 Y=>?_⟩;show⟨λi m s A=>∃p g f l,Step T G1 p l/\cu l F A/\dU p l g s/\aY p f l/\i4 K t ok DD (n.drop i) g f/\m=n.length-i,⟨n.length,T,σd,U,G1,Step.refl,P1,R.step L,S1,q,rfl⟩,?_⟩;rintro i m σ2 H2 ⟨I,O,j,G2,C,N,R2,M,z,rfl⟩;cases e:n[i]? with
 |none=>
  have E:n.length<=i:=abr.mp e;rw[Y1 E]at z;unfold i4 at z;show .inl ⟨Y.stop i I G2 F H2 j C N M z.1 E,((k.nx.at L).at C).here N z.2 R2 M⟩
 |some d=>
  have E:i<n.length:=(WV.mp e).1
  let ed:n.drop i=d::n.drop (i+1):=by
   rw[Xm E];congr 1;rw[W7 E]at e;show XZ e
  rw[ed]at z;unfold i4 at z;obtain⟨aI,σ3,e3,q3⟩:=z;show .inr ⟨Y.go i d I G2 F H2 j C N M aI e,λs A=>∃p g f l,Step T G1 p l/\cu l F A/\dU p l g s/\aY p f l/\i4 K t ok DD (n.drop (i+1)) g f,?_,?_⟩
  . rintro s A ⟨p,g,f,l,z1,z2,z3,z4,z5⟩;show⟨n.length-(i+1),by lia,p,g,f,l,z1,z2,z3,z4,z5,rfl⟩
  . intro x A y;obtain⟨G3,s3,P3,S3,r3⟩:=Y.nQ i d I G2 F H2 j x A C N M aI e y;show⟨I,O,j,d,λs f=>s=σ3/\f=j,G3,F,P3,R2.step s3,S3,r3,⟨σ3,e3,rfl,rfl⟩,?_⟩;rintro s f ⟨rfl,rfl⟩ α4 G4 H4 σ4 s4 P4 R4 S4;let r:=(C.trans s3).trans s4;show⟨α4,s,f,_,G4,F,P4,R4,S4,q3,?_,((k.rt.at L).at r),(k.nx.at L).at r,?_⟩
    . intro v w W Q G5 H5 σ5 V P5 R5 Z;show⟨Q,v,w,G5,r.trans V,P5,R5,Z,W⟩
    . intro v w W Q G5 H5 σ5 V P5 R5 Z;show⟨Q,v,w,G5,r.trans V,P5,R5,Z,W⟩
end
def gL(fr:List (Option Nat))(σ:bX):bX:=fr.map λo=>o.bind λj=>(σ[j]?).join
def dU.comp(h:dU α G a σ):dU α G (gL fr a) (σC fr σ):=by
 show⟨by unfold gL σC;simp,λi d e=>?_⟩;unfold gL at e;rw[W_]at e;cases q:fr[i]? with
 |none=>rw[q]at e;cases e
 |some o=>
  rw[q]at e;cases o with
  |none=>simp at e
  |some j=>
   simp![ZR,Option.some.injEq,Option.bind_some]at e
   let c:a[j]?=some (some d):=by
    cases r:a[j]? with
    |none=>rw[r]at e;cases e
    |some u=>rw[r]at e;simp at e;rw[e]
   obtain⟨v,ev,b⟩:=h.at' j d c;show⟨v,?_,b⟩;unfold σC;rw[W_,q];simp[ev]
def dc(g:fu)(c:DT)(h:DE)(ok:af->Prop)(e:bX):List D->List D->af->(List D->af->Prop)->Prop
 | [],a,st,K=>ok st/\K a st
 |x::xs,a,st,K=>ok st/\∃f,g x e=some f/\c f st λb d=>if b=true then h f d λy i=>dc g c h ok e xs (a++[y]) i K else dc g c h ok e xs a d K
def cp(d:DI)(fr:List (Option Nat))(g:fu)(c:DT)(h:DE):DE:=λσ st K=>d σ st λe ok b=>e.length<=sizeLine/\dc g c h ok (gL fr σ) e [] b λf a=>K (.lst f) a
def sI(d:DI)(fr:List (Option Nat))(g:fu)(c:DT)(h:DE):DE:=λσ st K=>d σ st λe ok b=>e.length<=sizeLine/\dc g c h ok (gL fr σ) e [] b λf a=>K (.ref a.length) (a++[.lst f])
def bI:DT:=λ_ st K=>K true st
def pN(fr:List (Option Nat))(a:fu):Prop:=∀(σ:bX) (d:D) (σ2:bX),a d (gL fr σ)=some σ2->σ2.length=(gL fr σ).length/\∀(i:Nat) (e:D),(gL fr σ)[i]?=some (some e)->σ2[i]?=some (some e)
def sP{k:Nat}(h:fr[k]?=some none){e:D}(q:(gL fr σ)[k]?=some (some e)):False:=by
 unfold gL at q;rw[W_,h]at q;simp at q
def i8{k:Nat}(h:fr[k]?=some none:=by rfl):pN fr (bf k):=λσ d b e=>by
 cases e;show⟨Xf,λi x q=>?_⟩;by_cases a:i=k
 . subst a;show(sP h q).elim
 . rw[W0 (W4 a)];show q
def yz{k j:Nat}(h:fr[k]?=some none:=by rfl)(h':fr[j]?=some none:=by rfl):pN fr (dN k j):=λσ d c e=>by
 unfold dN at e;split at e
 . cases e;show⟨by rw[Xf,Xf],λi x q=>?_⟩;by_cases b:i=k
   . subst b;show(sP h q).elim
   . by_cases a:i=j
     . subst a;show(sP h' q).elim
     . rw[W0 (W4 a),W0 (W4 b)];show q
 . cases e
section
variable {X:Cx}
def Rx(h:PT X c (LT t)):sZ X [c] (LT t):=NG h
def KY:sZ X [] (LT bI):=λa s σ H Q I ⟨α,b,st,K,G,F,P,R,S,t,k⟩=>Oi a s σ H Q I (k true st t α G H Step.refl P S)
def LE.comp{K:DI}{fr:List (Option Nat)}{E:fu}{c:DT}{T:DE}(N:pN fr E){σ:L2.St}{H:Hp}{Q:VK}{α:List (Option Addr)}{n:bX}{st:af}{KE:List D->af->Prop}{G F:Hp}(P:cu G F H)(R:dU α G n σ)(S:aY α st G)
 (t:K n st λxs ok v=>xs.length<=sizeLine/\dc E c T ok (gL fr n) xs [] v KE)
 (ar:∀ys g s u B l vs,KE ys g->Step α G s u->cu u (upd F l (.lst vs)) B->F l=none->aY s g u->aG s u ys vs->Q (.ref l) B):
 xF (LI K) fr (LG E) (LT c) (LE T) σ H Q:=by
 show⟨α,n,st,_,G,F,P,R,S,t,λxs ok v q J Z G1 H1 s1 P1 S1 it l hl=>?_⟩;obtain⟨aD,q⟩:=q;obtain⟨hG,hF⟩:=P1.none hl
 show⟨λi m o C=>∃r a k f vs,Step Z G1 r k/\cu k (upd F l (.lst vs)) C/\dU r k (gL fr n) o/\aY r a k/\aG r k f vs/\f.length<=i/\i<=xs.length/\dc E c T ok (gL fr n) (xs.drop i) f a KE/\m=xs.length-i,
  ⟨xs.length,Z,v,G1,[],[],Step.refl,P1.hide hl,(R.step s1).comp,S1,by unfold aG;rfl,WX _,Xq _,q,rfl⟩,?_⟩
 rintro i m σ2 B ⟨s,g,u,f,vs,M,Y,R2,V,ra,au,hi,A,rfl⟩;cases e:xs[i]? with
 |none=>
  have h:xs.length<=i:=abr.mp e;rw[Y1 h]at A;unfold dc at A;show .inl ⟨it.stop i s u _ B g M Y V A.1 h,ar f g s u B l vs A.2 (s1.trans M) Y hF V ra⟩
 |some d=>
  have h:i<xs.length:=(WV.mp e).1
  let ed:xs.drop i=d::xs.drop (i+1):=by
   rw[Xm h];congr 1;rw[W7 h]at e;show XZ e
  rw[ed]at A;unfold dc at A;obtain⟨aI,σ3,e3,q3⟩:=A;show .inr ⟨it.go i d s u _ B g M Y V aI e,λo C=>∃r a k f vs,Step Z G1 r k/\cu k (upd F l (.lst vs)) C/\dU r k (gL fr n) o/\aY r a k/\aG r k f vs/\f.length<=i+1/\dc E c T ok (gL fr n) (xs.drop (i+1)) f a KE,?_,?_⟩
  . rintro o C ⟨r,a,k,O,ah,z1,z2,z3,z4,z5,z6,z7⟩;show⟨xs.length-(i+1),by lia,r,a,k,O,ah,z1,z2,z3,z4,z5,z6,h,z7,rfl⟩
  . intro x C y;obtain⟨G3,U,P3,S3,r3⟩:=it.nQ i d s u _ B g x C M Y V aI e y;show⟨s,gL fr n,g,d,λo a=>o=σ3/\a=g,G3,_,P3,R2.step U,S3,r3,⟨σ3,e3,rfl,rfl⟩,?_⟩;rintro o a ⟨rfl,rfl⟩ α4 G4 H4 σ4 s4 P4 W S4;let L:=(M.trans U).trans s4;let Rc:dU α4 G4 (gL fr n) σ4:=⟨by rw[<-(N n d o e3).1];show W.len,λj z hz=>W.at' j z ((N n d o e3).2 j z hz)⟩
    show⟨α4,o,a,_,G4,_,P4,W,S4,q3,λb I q5 α5 G5 H5 w P5 S5=>?_⟩;cases b with
    |false=>show⟨α5,I,G5,f,vs,L.trans w,P5,Rc.step w,S5,((ra.step U).step s4).step w,by lia,q5⟩
    |true=>
     show⟨α5,o,I,_,G5,_,P5,W.step w,S5,q5,λz ao q6 α6 G6 H6 v6 s6 P6 S6 r6=>?_⟩;let hr:=(((ra.step U).step s4).step w).step s6;show⟨vs,(P6.frame a9).1,by rw[<-hr.length];lia,α6,ao,G6,f++[z],vs++[v6],(L.trans w).trans s6,?_,(Rc.step w).step s6,S6,aV.mpr (dJ (aV.mp hr) (.cons r6 .nil)),by rw[X8,abP];lia,q6⟩;let:=P6.Wz (p:=l) (o':= .lst (vs++[v6])) a9;rw[N3]at this;show this
def Qm{scope:Scope}{Nc:List Str}{g h a:Expr}{f:List Expr}{pos:Pos}{e:DI}{fr:List (Option Nat)}{b:fu}{c:DT}{n:DE}(S:cD X scope Nc fr)(hi:PI X h a (LI e))
 (d:∀C s H ex,PG (cB X scope Nc C s H ex) h (LG b)) (z:∀C s H ex,sZ (cB X scope Nc C s H ex) f (LT c)) (D:∀C s H ex,PE (cB X scope Nc C s H ex) g (LE n)) (j:pN fr b)
 (y:X.xe=λ_ _=>False:=by rfl) (E:X.calm=true:=by rfl) (A:∀x,foldedSetIterable a X.env x=pure x:=by intro _;rfl):PE X (.ListComp g [⟨h,a,f,0⟩] scope pos) (LE (cp e fr b c n)):=
 PE.imp (Ep y E S hi d z D A) λσ H Q ⟨α,J,st,K,G,F,P,R,S,t,k⟩=>LE.comp j P R S t λL i v u I l m q w p B o r=>by
  let d:u l=none:=(p.frame a9).2;show k _ i q v (upd u l (.lst m)) I (.ref l) (w.trans (Step.laid d)) (p.show B) (o.laid d) ?_;unfold Rep;show⟨l,m,rfl,o.jW d,.of a9,r.step (Step.laid d)⟩
def Pq{scope:Scope}{Nc:List Str}{g h a:Expr}{e:List Expr}{pos:Pos}{d:DI}{fr:List (Option Nat)}{b:fu}{c:DT}{n:DE}(S:cD X scope Nc fr)(hi:PI X h a (LI d))
 (f:∀C s H ex,PG (cB X scope Nc C s H ex) h (LG b)) (z:∀C s H ex,sZ (cB X scope Nc C s H ex) e (LT c)) (D:∀C s H ex,PE (cB X scope Nc C s H ex) g (LE n)) (i:pN fr b)
 (y:X.xe=λ_ _=>False:=by rfl) (E:X.calm=true:=by rfl) (A:∀x,foldedSetIterable a X.env x=pure x:=by intro _;rfl):PE X (.ListComp g [⟨h,a,e,0⟩] scope pos) (LE (sI d fr b c n)):=
 PE.imp (Ep y E S hi f z D A) λσ H Q ⟨α,J,st,K,G,F,P,R,S,t,k⟩=>LE.comp i P R S t λL v u p I l m q w o B j r=>by
  let f:p l=none:=(o.frame a9).2;show k _ _ q (u++[some l]) (upd p l (.lst m)) I (.ref l) (w.trans (Step.cell f)) (o.show B) (j.cell f ⟨m,a9,r.step (Step.cell f)⟩) ?_;unfold Rep;show .inr ⟨l,?_,rfl⟩;rw[Xr (by rw[j.len];show WX _),j.len,Y0];rfl
def NF{st:Stmt}{k:Nat}{b:DI}{fr:List (Option Nat)}{a:fu}{c:DT}{i:DE}(g:pN fr a)(h:PS X st (oY (xF (LI b) fr (LG a) (LT c) (LE i)) (jO k))):PS X st (LS (aM k (cp b fr a c i))):=
 PS.imp h λD σ H ⟨α,y,st,A,G,F,P,R,S,t,q⟩=>LE.comp g P R S t λz f s p x l e v u n w m r=>by
  let d:p l=none:=(n.frame a9).2;let j:=u.trans (Step.laid (o:= .lst e) d);show q.nx _ f v s (upd p l (.lst e)) x _ j (n.show w) ((R.step j).set k ?_) (m.laid d);unfold Rep;show⟨l,e,rfl,m.jW d,.of a9,r.step (Step.laid d)⟩
def aK(N:List Str)(a:List D):bX:=a.map some++List.replicate (N.length-a.length) none
def dU.start(r:aG α G a vs):dU α G (aK N a) (L2.start N vs):=by
 let f:=r.length;show⟨by unfold aK L2.start;simp[f],λi d e=>?_⟩;unfold aK at e;by_cases b:i<a.length
 . rw[W3 (by simpa using b),W_]at e;cases q:a[i]? with
   |none=>rw[q]at e;cases e
   |some x=>
    rw[q]at e;cases e;obtain⟨v,ev,c⟩:=r.get q;show⟨v,?_,c⟩;unfold L2.start;rw[W3 (by rw[W2];lia),W_,ev];rfl
 . rw[Xr (by simpa using b),abE]at e;split at e<;>cases e
def Ux{P:Program}{w:World}{K:PySem.W.Frag}{n:Str->Option Value}{e:Heap}{x b:Str}{st:Stmt}{f:Addr}{fd:FuncData}{N m:List Str}{k:Nat}{sp:bN}{t:DS}(F:nL K x b st f fd)(S:lK N m (bj st))
 (g:∀(c:Value) (A:Around) (outer:List Env) (s:Shared) (H:Hp) (E:XK),cK k (A.deeper (envOfC b (bj st) s.heap.objs.size f c))->g8 (o9 fR P w K n e N b (bj st) f c A outer s H E).uO (fN st) (LS t))
 (l:∀d st K,sp d st K->d.length=m.length/\t {nx:=λ_ a=>K .aD a,rt:=K} (aK N d) st):cY P w K n e fR (k+1) f fd m (gF sp):=by
 show F.ok S (λp H Q E h=>?_) λc A outer s H p Q E v h=>⟨_,g c A outer s H E v,?_⟩
 . obtain⟨α,d,st,K,G,F,P,r,S,q,k⟩:=h;rw[<-r.length];show(l d st K q).1
 . obtain⟨α,d,st,K,G,F,P,r,S,q,k⟩:=h;show⟨α,aK N d,st,_,G,F,P,dU.start r,S,(l d st K q).2,?_,k,?_,?_⟩
   . intro i a j o C B D u z I y;show k .aD a j o C B .aD u z y (by unfold Rep;rfl)
   . intro i a j;show j.elim
   . intro i a j;show j.elim
def p_(e f:DE):DE:=λσ st K=>e σ st λx b=>match x with
 | .ref n=>(match b[n]? with
   |some (.lst _)=>f σ b λy a=>∃c,[y]=[c]/\(match a[n]? with|some (.lst d)=>d.length<sizeLine/\K .aD (a.set n (.lst (d++[c])))|_=>False)
   |_=>False)
 |_=>False
end
structure m6(K:PySem.W.Frag)(mg:Str->Option Value)(x qual:Str)(st:Stmt)(ps:List Str)(f:Addr)(fd:FuncData):Prop where
 fn:nL K x qual st f fd
 mg:mg x=some (.ref f)
 bd:Binds K fd ps []
def oh(a:Scope)(N:List Str)(scope:Scope)(Nc:List Str)(fr:List (Option Nat)):Bool:=
 (scope.kind== .function)&&scope.names.all (λx=>x.2 != .cell||scope.names.lookup x.1==some .cell)&&scope.names.all (λx=>x.2 != .local||scope.names.lookup x.1==some .local)&&
 scope.names.all (λx=>x.2 != .free||a.names.lookup x.1==some .cell||a.names.lookup x.1==some .free)&&(fr.length==Nc.length)&&
 (List.range fr.length).all λi=>match fr[i]?,Nc[i]? with
   |some (some j),some x=>(N[j]?==some x)&&(scope.names.lookup x==some .free)&&(a.names.lookup x==some .cell||a.names.lookup x==some .free)
   |_,_=>true
def cD.look{X:Cx}(d:Scope)(N:List Str)(h:oh d N scope Nc fr=true)(c:X.env.scope=d:=by rfl)(g:X.N=N:=by rfl):cD X scope Nc fr:=by
 unfold oh at h;simp![Yc]at h;obtain⟨⟨⟨⟨⟨p,o⟩,n⟩,m⟩,l⟩,k⟩:=h;subst c g;show⟨by simpa using p,λx a b=>?_,λx a b=>?_,λx a b=>?_,by simpa using l,λi j x q e=>?_⟩
 . have:=XA.mp o x a;rw[b]at this;simpa using this
 . have:=XA.mp n x a;rw[b]at this;simpa using this
 . have:=XA.mp m x a;rw[b]at this;let z:X.env.scope.names.lookup x.1=some .cell\/X.env.scope.names.lookup x.1=some .free:=by simpa using this
   show z
 . have f:i<fr.length:=(WV.mp e).1;let:=XA.mp k i (XI.mpr f);rw[q,e]at this;simp![Yc,aao,Y7]at this;show⟨this.1.1,this.1.2,this.2⟩
section
variable {X:Cx}
def Wg{e:Expr}{a:List Expr}{pos p:Pos}{x:Str}{id:String}{r:d8}{t:DA}(k:bH X (.builtin id) (fy r))(l:PA X (e::a) (LA t))(g:X.mg x=none)(d:bootBuiltins x=some (.builtin id))(i:Gl X x:=by rfl)(f:x≠"__name__":=by decide)(c:(x==("__debug__":Str))=false:=by decide)
 (j:starEach (e::a) X.env=(false,eval e X.env)::starEach a X.env:=by rfl) (b:(backTo pos (starEach a X.env)).any (·.1)=false:=by rfl):PE X (.Call (.Name x p) (e::a) [] pos) (LE (bz r t)):=PE.imp (Mc k i g d l f c j b) λ_ _ _ h=>LE.cb h
def VU{e:Expr}{a:List Expr}{pos p:Pos}{x:Str}{T:String}{r:d8}{t:DA}(k:bH X (.type T) (fy r))(l:PA X (e::a) (LA t))(g:X.mg x=none)(d:bootBuiltins x=some (.type T))(i:Gl X x:=by rfl)(f:x≠"__name__":=by decide)(c:(x==("__debug__":Str))=false:=by decide)
 (j:starEach (e::a) X.env=(false,eval e X.env)::starEach a X.env:=by rfl) (b:(backTo pos (starEach a X.env)).any (·.1)=false:=by rfl):PE X (.Call (.Name x p) (e::a) [] pos) (LE (bz r t)):=PE.imp (Jp k i g d l f c j b) λ_ _ _ h=>LE.cb h
def Wd{pos:Pos}{x:Str}{T:String}(d:X.mg x=none)(b:bootBuiltins x=some (.type T))(e:Gl X x:=by rfl)(c:x≠"__name__":=by decide)(a:(x==("__debug__":Str))=false:=by decide):PE X (.Name x pos) (LE (dC (.ty T))):=
 p7 (v:= .ty T) (Oq e d b rfl c a) λ_ _=>by unfold Rep;rfl
def V4{e:Expr}{b:List Expr}{pos p:Pos}{x a:Str}{st:Stmt}{g:List Str}{f:Addr}{fd:FuncData}{k:Nat}{S:bN}{t:DA}(A:m6 X.K X.mg x a st g f fd)(F:cY X.prog X.w X.K X.mg X.base fR k f fd g (gF S))(h:cK k X.A)
 (l:PA X (e::b) (LA t)) (i:Gl X x:=by rfl) (d:(x==("__debug__":Str))=false:=by decide) (j:starEach (e::b) X.env=(false,eval e X.env)::starEach b X.env:=by rfl) (c:(backTo pos (starEach b X.env)).any (·.1)=false:=by rfl):
 PE X (.Call (.Name x p) (e::b) [] pos) (LE (ay S t)):=Rg F h i A.mg A.fn.kp A.bd l d j c
def Du(r:RelV x v)(h:Q (.bool (v== .bool b)) s):wpAny M A (compareOp .Is v (.bool b)) Q E s:=by
 cases x
 case bl c=>
  cases r;let e:(Value.bool c==Value.bool b)=(c==b):=by cases c<;>cases b<;>rfl
  rw[e]at h;show is_bool h
 all_goals first
  |(cases r;show W5 h)
  |(obtain⟨t,rfl⟩:=r;show W5 h)
def DX(d:D)(b:Bool):Bool:=match d with| .bl c=>c==b|_=>false
def Nm(d:D):Bool:=match d with| .aD=>true|_=>false
def M8:cV:=λx y st K=>match y with| .aD=>live st x=true/\K (.bl (Nm x)) st| .bl b=>live st x=true/\K (.bl (DX x b)) st|_=>False
def Ei{α:List (Option Addr)}{H:Hp}{st:af}{d:D}{v:V}{u:Value}{b:Bool}(S:aY α st H)(f:live st d=true)(r:Rep α H d v)(e:RelV v u):(u==Value.bool b)=DX d b:=by
 cases d
 case ref n=>
  obtain⟨a,rfl⟩:=v_ S f r;cases e;rfl
 all_goals unfold Rep at r
 case bl c=>
  subst r;cases e;cases c<;>cases b<;>rfl
 all_goals first
  |(subst r;first|(cases e;rfl)|(obtain⟨t,rfl⟩:=e;rfl))
  |(obtain⟨a,g,rfl,_⟩:=r;cases e;rfl)
def Ua:bW X (compareOp .Is) (LR M8):=λf s σ H x y v u Q I h i ⟨α,d,e,st,K,G,l,P,c,g,S,q,k⟩=>by
 cases e<;>try show q.elim
 . unfold Rep at g;show PM f s σ H x y v u Q I h i ⟨g,k.here P q.2 S ?_⟩;unfold Rep;cases d
   case ref n=>
    obtain⟨a,rfl⟩:=v_ S q.1 c;rfl
   all_goals(unfold Rep at c;first|(rw[c];rfl)|(obtain⟨a,j,rfl,_⟩:=c;rfl))
 . rename_i b;unfold Rep at g;subst g;cases i;show Du h ?_;rw[Ei S q.1 c h];show⟨.bl (DX d b),H,I,rfl,k.here P q.2 S (by unfold Rep;rfl)⟩
def LE.append(h:LE (p_ o r) σ H Q):Vc X.K "list" EA (LE o) (LA (ab r ag)) σ H Q:=by
 obtain⟨α,l,st,K,G,F,P,R,S,t,k⟩:=h;show⟨α,l,st,_,G,F,P,R,S,t,λx g q N Z H1 v u M J U=>?_⟩;cases x<;>try show q.elim
 rename_i n;simp only at q;split at q
 . rename_i ys e;obtain⟨p,D,O,V,h2⟩:=J.ie e;let j:=cZ D U;subst j;show⟨.inl ⟨rfl,O,.inl (.of (M.get V))⟩,N,l,g,λE b=>∃y,E=[y]/\(match b[n]? with|some (.lst d)=>d.length<sizeLine/\K .aD (b.set n (.lst (d++[y])))|_=>False),Z,F,M,R.step u,J,?_,?_⟩
   . show Eq.mp ?_ q;rfl
   . rintro E b ⟨y,rfl,c⟩ m Y H2 ws s L I T;obtain⟨w,rfl,i⟩:=gI T rfl;split at c
     . rename_i d W;obtain⟨p2,a,f,C,B⟩:=I.ie W
       let:p2=p:=by
        rcases s.pre _ _ D with z|z<;>(rw[z]at a;cases a)
        rfl
       subst this;let A:some p2∈m:=Xu a;show⟨p2,f,w,rfl,rfl,L.get C,by rw[<-B.length];show c.1,?_⟩;show((k.at u).at s) _ _ c.2 m (upd Y p2 (.lst (f++[w]))) _ .aD (Step.write A) (L.write C) ?_ (by unfold Rep;rfl);show I.write a ⟨f++[w],a9,(aV.mpr (dJ (aV.mp B) (.cons i .nil))).step (Step.write A)⟩
     . show c.elim
 . show q.elim
def Ld{o e:Expr}{c a:Pos}(l:PE X o (LE i))(m:PE X e (LE j))(f:attributeBase o "append" X.env (eval o X.env)=eval o X.env:=by rfl)
 (g:((backTo a (starEach [e] X.env)).all (λx=> !x.1)&&(backToKw a (keywordEach [] X.env)).all (λx=>x.1.isSome)
   &&decide (([e]:List Expr).length+([]:List Keyword).length+(if([]:List Keyword).isEmpty then 0 else 1)<30))=true:=by rfl)
 (d:(c.endLine==a.line)=true:=by rfl) (k:starEach [e] X.env=(false,eval e X.env)::starEach [] X.env:=by rfl) (b:(backTo a (starEach [] X.env)).any (·.1)=false:=by rfl):PE X (.Call (.Attribute o "append" c) [e] [] a) (LE (p_ i j)):=
 PE.imp (UB PySem.F.plainAttrs_list PySem.F.slot_list_append PySem.F.type_list_append zj l (yf m B5 k) f g d k b) λ_ _ _ h=>LE.append h
end
end L3
namespace L3
open PySem L2
open PySem.Spec hiding items?
open PyProof.Rows hiding St
section
variable {X:Cx}
@[irreducible] def cE:cV:=Mv
def jV:bW X (binaryOp .Add) (LR cE):=by unfold cE;show Uq
@[irreducible] def df:cV:=MG
def eY:bW X (binaryOp .Sub) (LR df):=by unfold df;show Uc
@[irreducible] def bo:cV:=MY
def d4:bW X (binaryOp .Mult) (LR bo):=by unfold bo;show TF
@[irreducible] def ip:cV:=GS
def pK:bW X (binaryOp .FloorDiv) (LR ip):=by unfold ip;show RE
@[irreducible] def i9:cV:=M3
def MC:bW X (binaryOp .Mod) (LR i9):=by unfold i9;show TL
@[irreducible] def qg:cV:=Mw
def GQ:bW X (binaryOp .Pow) (LR qg):=by unfold qg;show Ub
@[irreducible] def pW:cV:=PY
def yx:bW X (compareOp .Lt) (LR pW):=by unfold pW;show Wb
@[irreducible] def Jl:cV:=PU
def Lr:bW X (compareOp .LtE) (LR Jl):=by unfold Jl;show VB
@[irreducible] def u0:cV:=Qw
def KZ:bW X (compareOp .Gt) (LR u0):=by unfold u0;show Wh
@[irreducible] def sF:cV:=RC
def Bh:bW X (compareOp .GtE) (LR sF):=by unfold sF;show V_
@[irreducible] def pM:cV:=Qc
def Cb:bW X (compareOp .NotEq) (LR pM):=by unfold pM;show VH
@[irreducible] def JV:cV:=M8
def VX:bW X (compareOp .Is) (LR JV):=by unfold JV;show Ua
@[irreducible] def gN:cV:=QV
def yq{k:Nat}(a:cK k X.A):bW X (compareOp .Eq) (LR gN):=by unfold gN;show VP a
@[irreducible] def ff:BN:=MO
def Tz:EW X (unaryOp .USub) (Nd ff):=by unfold ff;show UE
@[irreducible] def aN:cV:=qh
def Wl(g:PE X a (LE d))(f:PE X b (LE c))(e:uc b:=by intro _ _;rfl):PE X (.Subscript a b pos) (LE (ai aN d c)):=by unfold aN;show VV g f e
@[irreducible] def dB:d8:=Ak
def gn:bH X (.builtin "len") (fy dB):=by unfold dB;show Td
@[irreducible] def mF:d8:=E4
def Aq:bH X (.builtin "abs") (fy mF):=by unfold mF;show UT
@[irreducible] def yj:d8:=GP
def FC(a:X.calm=true):bH X (.builtin "max") (fy yj):=by unfold yj;show Ul a
@[irreducible] def BL:d8:=Ga
def Mp:bH X (.type "int") (fy BL):=by unfold BL;show TK
@[irreducible] def cN:d8:=t5
def tY:bH X (.type "tuple") (fy cN):=by unfold cN;show Py
@[irreducible] def oE:d8:=wx
def r_:bH X (.type "list") (fy oE):=by unfold oE;show Qu
@[irreducible] def r8:d8:=uh
def EL:bH X (.type "list") (fy r8):=by unfold r8;show Pl
@[irreducible] def pj:d8:=Ay
def Ft(a:X.calm=true):bH X (.builtin "all") (fy pj):=by unfold pj;show TV a
@[irreducible] def qo:d8:=xl
def Mu:bH X (.builtin "isinstance") (fy qo):=by unfold qo;show Tv
@[irreducible] def o8:D->af->(List D->(af->Prop)->af->Prop)->Prop:=yr
def dy(t:DE):DI:=λσ st K=>t σ st λd a=>o8 d a K
def Qn(b:PE X l (LE tl)):PI X a l (LI (dy tl)):=by unfold dy o8;show SA b
@[irreducible] def Ap:List D->af->(List D->(af->Prop)->af->Prop)->Prop:=ME
@[irreducible] def Av:List D->af->(List D->(af->Prop)->af->Prop)->Prop:=Mn
def dg(t:DA):DI:=λσ st K=>t σ st λb a=>Ap b a K
def kZ(t:DA):DI:=λσ st K=>t σ st λb a=>Av b a K
def IT(h:PI X b a (E5 (LA t))):PI X b a (LI (dg t)):=by unfold dg Ap;show Hi h
def Hr(h:PI X b a (FJ (LA t))):PI X b a (LI (kZ t)):=by unfold kZ Av;show Ii h
@[irreducible] def E2:D->D->D->af->(af->Prop)->Prop:=vK
def fY(f g h:DE):DS:=λD σ st=>h σ st λd e=>f σ e λx c=>g σ c λy b=>E2 x y d b λa=>D.nx σ a
def Ln{st:Stmt}{a b c:DE}(h:PS X st (oY (LE c) (Gx (LE a) (LE b) Ai))):PS X st (LS (fY a b c)):=by unfold fY E2;show LP h
end
section
variable {st:af}{K:DK}{i j:Int}{b c:Bool}{xs ys:List D}{d e:D}{n:Nat}
def cW(k:K (.int (i+j)) st):cE (.int i) (.int j) st K:=by unfold cE;show k
def DW(h:xs.length+ys.length<=sizeLine)(k:K (.lst (xs++ys)) st):cE (.lst xs) (.lst ys) st K:=by unfold cE;show⟨h,k⟩
def cM(k:K (.int (i-j)) st):df (.int i) (.int j) st K:=by unfold df;show⟨trivial,k⟩
def bC(h:IntMulOk i j)(k:K (.int (i*j)) st):bo (.int i) (.int j) st K:=by unfold bo;show⟨h,k⟩
def Pc(h: -(2^63)<=i/\i<2^63/\xs.length*i.toNat<=sizeLine)(k:K (.lst (List.replicate i.toNat xs).flatten) st):bo (.lst xs) (.int i) st K:=by unfold bo;show⟨h,k⟩
def gT(a:j≠0)(h:j.natAbs.log2<9000)(k:K (.int (i.fdiv j)) st):ip (.int i) (.int j) st K:=by unfold ip;show⟨⟨a,h⟩,k⟩
def kM(a:j≠0)(k:K (.int (i.fmod j)) st):i9 (.int i) (.int j) st K:=by unfold i9;show⟨a,k⟩
def wI(h:KP i j)(k:K (.int (i^j.toNat)) st):qg (.int i) (.int j) st K:=by unfold qg;show⟨h,k⟩
def AL(k:K (.bl (decide (i<j))) st):pW (.int i) (.int j) st K:=by unfold pW;show⟨trivial,k⟩
def SY(k:K (.bl (decide (i<=j))) st):Jl (.int i) (.int j) st K:=by unfold Jl;show⟨trivial,k⟩
def MH(k:K (.bl (decide (j<i))) st):u0 (.int i) (.int j) st K:=by unfold u0;show⟨trivial,k⟩
def M_(k:K (.bl (decide (j<=i))) st):sF (.int i) (.int j) st K:=by unfold sF;show⟨trivial,k⟩
def AM(k:K (.bl (!decide (i=j))) st):pM (.int i) (.int j) st K:=by unfold pM;show k
def Jx(h:live st d=true)(k:K (.bl (Nm d)) st):JV d .aD st K:=by unfold JV;show⟨h,k⟩
def FA(f:pl 40 d=true)(a:pl 40 e=true)(k:K (.bl (cO d e)) st):gN d e st K:=by unfold gN;show⟨f,a,k⟩
def Oh(a b:Int):(a==b)=decide (a=b):=by
 by_cases h:a=b
 . subst h;simp
 . simp[h]
def AS(k:K (.bl (decide (i=j))) st):gN (.int i) (.int j) st K:=by
 show FA rfl rfl ?_;let:cO (.int i) (.int j)=decide (i=j):=by unfold cO;show Oh i j
 rw[this];show k
def dY(k:K (.int (-i)) st):ff (.int i) st K:=by unfold ff;show k
def KS(h:items? st d=some xs)(a:dw xs i=some e)(k:K e st):qh d (.int i) st K:=by
 cases d<;>unfold items? at h<;>first
  |(cases h;done)
  |(cases h;simp![qh,a];show k)
  |(simp only at h
    split at h
    . rename_i q;cases h;simp![qh,q,a];show k
    . cases h)
def aA(h:items? st d=some xs)(a:dw xs i=some e)(k:K e st):aN d (.int i) st K:=by unfold aN;show KS h a k
def cP(h:items? st d=some xs)(k:K (.int xs.length) st):dB [d] st K:=by
 unfold dB Ak;split
 . rename_i z;cases z;cases h
 . rename_i z;cases z;rw[h];show k
 . rename_i f a;show absurd rfl (a d)
def NM(i:Int):(if i<0 then-i else i)=((i.natAbs:Nat):Int):=by split<;>lia
def nR(k:K (.int ((i.natAbs:Nat):Int)) st):mF [.int i] st K:=by unfold mF;change K (.int (if i<0 then-i else i)) st;rw[NM];show k
def HW(k:K (.int (if j>i then j else i)) st):yj [.int i,.int j] st K:=by unfold yj;show k
def D1(k:K (.int (if b then 1 else 0)) st):BL [.bl b] st K:=by unfold BL;show k
def cJ(h:items? st d=some xs)(k:K (.tup xs) st):cN [d] st K:=by unfold cN t5;simp![h];show k
def ud(h:items? st d=some xs)(k:K (.lst xs) st):oE [d] st K:=by unfold oE wx;simp![h];show k
def Lh(h:items? st d=some xs)(k:K (.ref st.length) (st++[.lst xs])):r8 [d] st K:=by unfold r8 uh;simp![h];show k
def tw{bs:List Bool}(h:gQ xs=some bs)(k:K (.bl (bs.all id)) st):pj [.lst xs] st K:=by unfold pj Ay;simp![h];show k
def CP{t c:String}(h:fF st d=some t)(a:c∈lG)(k:K (.bl (sE t c)) st):qo [d,.ty c] st K:=by unfold qo xl;simp![h];show⟨a,k⟩
def NB{cl:List String}(h:fF st d=some t)(f:nr cs=some cl)(a:∀c∈cl,c∈lG)(k:K (.bl (cl.any (sE t))) st):qo [d,.tup cs] st K:=by unfold qo xl;simp![h,f];show⟨a,k⟩
def tE{K:List D->(af->Prop)->af->Prop}(h:items? st d=some xs)(k:∀ok:af->Prop,ok st->K xs ok st):o8 d st K:=by
 unfold o8 yr
 cases d<;>unfold items? at h<;>first
  |(cases h;done)
  |(cases h;show k _ trivial)
  |(simp only at h
    split at h
    . rename_i q;cases h;simp![q];show k _ q
    . cases h)
def Pg{K:List D->(af->Prop)->af->Prop}(k:K xs (λ_=>True) st):o8 (.lst xs) st K:=by unfold o8;show k
def fj{K:List D->(af->Prop)->af->Prop}(k:K xs (λ_=>True) st):o8 (.tup xs) st K:=by unfold o8;show k
def fI{K:List D->(af->Prop)->af->Prop}(h: -(2^62)<=j/\j<2^62)(k:K (cQ 0 j.toNat) (λ_=>True) st):Ap [.int j] st K:=by unfold Ap;show⟨h,k⟩
def tW{K:List D->(af->Prop)->af->Prop}(h: -(2^62)<=i/\i<2^62/\ -(2^62)<=j/\j<2^62)(k:K (cQ i (j-i).toNat) (λ_=>True) st):Av [.int i,.int j] st K:=by unfold Av;show⟨h,k⟩
def iz{K:af->Prop}(h:st[n]?=some (.lst xs))(e:km xs.length i=some m)(k:K (st.set n (.lst (xs.set m d)))):E2 (.ref n) (.int i) d st K:=by unfold E2 vK;simp![h,e];show k
end
def GV(K:PySem.W.Frag):Bool:=K.all λp=>p.2.cls != .type "list"
def vb:∀ {l:List (Addr×Obj)},l.lookup a=some o->(a,o)∈l
 | [],h=>by cases h
 |(b,u)::r,h=>by
  rw[XN]at h;split at h
  . rename_i z;cases h;let:a=b:=by simpa using z
    subst this;show Xk
  . show Xg _ (vb h)
def z8{K:PySem.W.Frag}(h:GV K=true){o:Obj}(e:K.lookup a=some o):o.cls≠ .type "list":=by
 let:=XA.mp h (a,o) (vb e);simpa using this
def zH:∀ns:List Int,aG α G (ns.map D.int) (ns.map V.int)
 | []=>by unfold aG;rfl
 |n::ns=>by
  rw[XH,XH];unfold aG;show⟨_,_,rfl,by unfold Rep;rfl,zH ns⟩
def notStar:Expr->Bool
 | .Starred .. =>false
 |_=>true
def cz{e:Expr}(h:notStar e=true):starEach (e::a) env=(false,eval e env)::starEach a env:=by
 cases e<;>first|rfl|cases h
def f9:List Expr->Bool
 | []=>true
 |e::es=>notStar e&&f9 es
def jY:∀ {a:List Expr},f9 a=true->(backTo pos (starEach a env)).any (·.1)=false
 | [],_=>rfl
 |e::a,h=>by
  unfold f9 at h;rw[Yc]at h;rw[cz h.1];let b:=jY (pos:=pos) (env:=env) h.2;unfold backTo at b⊢;rw[XH,abd,b];rfl
def nO:Expr->Bool
 | .Slice .. =>false
 |_=>true
def rX:Expr->Bool
 | .Name .. =>true
 | .Call .. =>true
 | .Subscript .. =>true
 | .Attribute .. =>true
 |_=>false
def ll:Expr->Bool
 | .ListComp .. =>false
 | .SetComp .. =>false
 | .DictComp .. =>false
 |_=>true
section
variable {X:Cx}
def K7(h:nO b=true):uc b:=by
 intro o i;cases b<;>first|rfl|cases h
def E7{e:Expr}(h:rX e=true):∀whole,isTrue e X.env whole=(do let v <-whole;standAt e.pos;holding [v] (truthy v)):=by
 intro whole;cases e<;>first|(cases h;done)|rfl
def yF{e:Expr}(h:ll e=true):swapsWith e a n env=pure false:=by
 cases e<;>first|(cases h;done)|rfl
def LV{e:Expr}{tr:DA}(f:PE X e (LE a))(d:PA X b (LA tr))(c:notStar e=true:=by rfl):PA X (e::b) (LA (ab a tr)):=yf f d (cz c)
def SS{e:Expr}{c:List Expr}{pos p:Pos}{x:Str}{id:String}{r:d8}{t:DA}(j:bH X (.builtin id) (fy r))(k:PA X (e::c) (LA t))(h:X.mg x=none)(d:bootBuiltins x=some (.builtin id))(g:x≠"__name__")(b:(x==("__debug__":Str))=false)(i:Gl X x:=by rfl)(f:notStar e=true:=by rfl)(a:f9 c=true:=by rfl):
 PE X (.Call (.Name x p) (e::c) [] pos) (LE (bz r t)):=Wg j k h d i g b (cz f) (jY a)
def UC{e:Expr}{c:List Expr}{pos p:Pos}{x:Str}{T:String}{r:d8}{t:DA}(j:bH X (.type T) (fy r))(k:PA X (e::c) (LA t))(h:X.mg x=none)(d:bootBuiltins x=some (.type T))(g:x≠"__name__")(b:(x==("__debug__":Str))=false)(i:Gl X x:=by rfl)(f:notStar e=true:=by rfl)(a:f9 c=true:=by rfl):
 PE X (.Call (.Name x p) (e::c) [] pos) (LE (bz r t)):=VU j k h d i g b (cz f) (jY a)
def TU{e:Expr}{d:List Expr}{pos p:Pos}{x a:Str}{st:Stmt}{g:List Str}{f:Addr}{fd:FuncData}{k:Nat}{S:bN}{t:DA}(A:m6 X.K X.mg x a st g f fd)(F:cY X.prog X.w X.K X.mg X.base fR k f fd g (gF S))(i:cK k X.A)
 (l:PA X (e::d) (LA t)) (c:(x==("__debug__":Str))=false) (j:Gl X x:=by rfl) (h:notStar e=true:=by rfl) (b:f9 d=true:=by rfl):
 PE X (.Call (.Name x p) (e::d) [] pos) (LE (ay S t)):=V4 A F i l j c (cz h) (jY b)
def Uo(g:PE X a (LE d))(f:PE X b (LE c))(e:nO b=true:=by rfl):PE X (.Subscript a b pos) (LE (ai aN d c)):=Wl g f (K7 e)
def OX{e:Expr}(b:PE X e (LE a))(h:rX e=true:=by rfl):PT X e (LT (a_ a)):=Rt b (E7 h)
def LM{e:Expr}(b:PE X e (LE a))(h:ll e=true:=by rfl):PS X (.Expr e pos) (LS (d6 a)):=NL b (yF h)
def NX{i:Nat}{x:Str}{e:Expr}{b:TE}{pos a:Pos}(g:X.N.Nodup)(hi:X.N[i]?=some x)(c:Loc X.env.scope x)(f:PE X e b)(d:X.fn x=true\/X.env.scope.names.lookup x=some .local:=by first|show .inl rfl|show .inr rfl)(h:ll e=true:=by rfl):
 PS X (.Assign [.Name x a] e pos) (oY b (jO i)):=Sj g hi c f (yF h) d
def OR(c:(x==("__debug__":Str))=false)(a:(x==("__classdict__":Str))=false)(b:Bf X.env.scope x)(d:X.N[i]?=some x:=by rfl):PE X (.Name x pos) (LE (aa i)):=SX (QX d b c a)
def Qz{o i e:Expr}{b c d:TE}{pos a:Pos}(g:PE X e d)(f:PE X o b)(hi:PE X i c)(j:ll e=true:=by rfl)(h:nO i=true:=by rfl):PS X (.Assign [.Subscript o i a] e pos) (oY d (Gx b c Ai)):=
 Ib g (PK f hi set_list (by intro v;cases i<;>first|rfl|cases h)) (by unfold swapsWithSole;show yF j) (by cases e<;>rfl) rfl
end
@[irreducible] def JE(X:Cx)(e:Expr)(t:DE):Prop:=PE X e (LE t)
@[irreducible] def JT(X:Cx)(e:Expr)(t:DT):Prop:=PT X e (LT t)
@[irreducible] def JW(X:Cx)(e:Expr)(t:DT):Prop:=PW X e (LT t)
@[irreducible] def JA(X:Cx)(a:List Expr)(t:DA):Prop:=PA X a (LA t)
@[irreducible] def JS(X:Cx)(s:Stmt)(t:DS):Prop:=PS X s (LS t)
@[irreducible] def JB(X:Cx)(s:List Stmt)(t:DS):Prop:=g8 X s (LS t)
@[irreducible] def JG(X:Cx)(e:Expr)(t:fu):Prop:=PG X e (LG t)
@[irreducible] def JI(X:Cx)(a e:Expr)(t:DI):Prop:=PI X a e (LI t)
@[irreducible] def JC(X:Cx)(a:List Expr)(t:DT):Prop:=sZ X a (LT t)
section
variable {X:Cx}{a b c e o i:Expr}{es:List Expr}{ta tb tc te to ti:DE}{t u:DT}{ar:DA}{pos p pos':Pos}{s:Stmt}{ss:List Stmt}{T U:DS}
def Jf(g:(x==("__debug__":Str))=false)(d:(x==("__classdict__":Str))=false)(f:Bf X.env.scope x)(h:X.N[n]?=some x:=by rfl):JE X (.Name x pos) (aa n):=by unfold JE;show OR g d f h
def rK{T:String}(h:X.mg x=none)(f:bootBuiltins x=some (.type T))(g:x≠"__name__")(d:(x==("__debug__":Str))=false)(j:Gl X x):JE X (.Name x pos) (dC (.ty T)):=by unfold JE;show Wd h f j g d
def aZ{k:Int}:JE X (.Constant (.int k) j pos) (dC (.int k)):=by unfold JE;show Uu
def lP{k:Bool}:JE X (.Constant (.bool k) j pos) (dC (.bl k)):=by unfold JE;show V2
def MF{k:Str}:JE X (.Constant (.str k) j pos) (dC (.str k)):=by unfold JE;show Te
def F0:JE X (.Constant .none j pos) (dC .aD):=by unfold JE;show TR
def bK(d:bW X (binaryOp op) (LR r))(g:JE X a ta)(f:JE X b tb):JE X (.BinOp a op b pos) (ai r ta tb):=by unfold JE at*;show VZ d g f
def jX(d:JE X a ta):JE X (.UnaryOp .USub a pos) (iU ff ta):=by unfold JE at*;show Wa Tz d
def Nf(d:JE X a ta):JE X (.UnaryOp .Not a pos) (AJ (a_ ta)):=by unfold JE at*;show UG d
def Mq(d:JE X a ta):JE X (.BoolOp op [a] pos) ta:=by unfold JE at*;show Tw d
def MI(f:JE X a ta)(d:JE X (.BoolOp .And (b::es) pos) tb):JE X (.BoolOp .And (a::b::es) pos) (tR ta tb):=by unfold JE at*;show S9 f d
def Si(f:JE X a ta)(d:JE X (.BoolOp .Or (b::es) pos) tb):JE X (.BoolOp .Or (a::b::es) pos) (Lm ta tb):=by unfold JE at*;show VR f d
def Aj(d:bW X (compareOp op) (LR r))(f:behindInMarks op b=false)(h:JE X a ta)(g:JE X b tb):JE X (.Compare a [op] [b] pos) (ai r ta tb):=by unfold JE at*;show To d h g f
def GI(d:JT X c t)(g:JE X a ta)(f:JE X b tb):JE X (.IfExp c a b pos) (MK t ta tb):=by unfold JE at*;unfold JT at d;show Uw d g f
def tQ(h:JA X es ar):JE X (.Tuple es n pos) (jb ar):=by unfold JE;unfold JA at h;show SO h
def wA(h:JA X es ar):JE X (.List es pos) (mP ar):=by unfold JE;unfold JA at h;show Uk h
def Nl(h:JA X es ar):JE X (.List es pos) (mO ar):=by unfold JE;unfold JA at h;show UD h
def aF:JA X [] ag:=by unfold JA;show B5
def ak(d:JE X e te)(g:JA X es ar)(f:notStar e=true:=by rfl):JA X (e::es) (ab te ar):=by unfold JA at*;unfold JE at d;show LV d g f
def bS(g:JE X a ta)(f:JE X b tb)(d:nO b=true:=by rfl):JE X (.Subscript a b pos) (ai aN ta tb):=by unfold JE at*;show Uo g f d
def dm{x:Str}{id:String}{r:d8}(n:bH X (.builtin id) (fy r))(g:JA X (e::es) ar)(l:X.mg x=none)(h:bootBuiltins x=some (.builtin id))(k:x≠"__name__")(f:(x==("__debug__":Str))=false)(m:Gl X x)(j:notStar e=true:=by rfl)(d:f9 es=true:=by rfl):JE X (.Call (.Name x p) (e::es) [] pos) (bz r ar):=by
 unfold JE;unfold JA at g;show SS n g l h k f m j d
def lE{T:String}(n:bH X (.type T) (fy r))(g:JA X (e::es) ar)(l:X.mg x=none)(h:bootBuiltins x=some (.type T))(k:x≠"__name__")(f:(x==("__debug__":Str))=false)(m:Gl X x)(j:notStar e=true:=by rfl)(d:f9 es=true:=by rfl):JE X (.Call (.Name x p) (e::es) [] pos) (bz r ar):=by
 unfold JE;unfold JA at g;show UC n g l h k f m j d
def bV{x d:Str}{st:Stmt}{j:List Str}{f:Addr}{fd:FuncData}{k:Nat}{S:bN}(A:m6 X.K X.mg x d st j f fd)(F:cY X.prog X.w X.K X.mg X.base fR k f fd j (gF S))(n:cK k X.A)(l:JA X (e::es) ar)(h:(x==("__debug__":Str))=false)(q:Gl X x)(m:notStar e=true:=by rfl)(g:f9 es=true:=by rfl):
 JE X (.Call (.Name x p) (e::es) [] pos) (ay S ar):=by unfold JE;unfold JA at l;show TU A F n l h q m g
def LZ{f d:Pos}(k:JE X o to)(l:JE X e te)(h:attributeBase o "append" X.env (eval o X.env)=eval o X.env:=by rfl)(g:(f.endLine==d.line)=true:=by rfl)(j:notStar e=true:=by rfl):JE X (.Call (.Attribute o "append" f) [e] [] d) (p_ to te):=by
 unfold JE at*;show Ld k l h ?_ g (cz j) rfl;rw[cz j];rfl
def fb(d:bW X (compareOp op) (LR r))(f:behindInMarks op b=false)(h:JE X a ta)(g:JE X b tb):JT X (.Compare a [op] [b] pos) (a_ (ai r ta tb)):=by unfold JE at*;unfold JT;show RU d h g f
def w_(d:JT X a t):JT X (.UnaryOp .Not a pos) (gp t):=by unfold JT at*;show Qi d
def pF(d:JE X e te)(h:rX e=true:=by rfl):JT X e (a_ te):=by unfold JT;unfold JE at d;show OX d h
def EG(d:JT X a t):JW X (.BoolOp .And [a] pos) t:=by unfold JW;unfold JT at d;show OL d
def wk(d:JT X a t):JW X (.BoolOp .Or [a] pos) t:=by unfold JW;unfold JT at d;show RI d
def JR(d:JT X a t)(f:JW X (.BoolOp .And (b::es) pos) u):JW X (.BoolOp .And (a::b::es) pos) (ue t u):=by unfold JW at*;unfold JT at d;show SG d f
def AH(d:JT X a t)(f:JW X (.BoolOp .Or (b::es) pos) u):JW X (.BoolOp .Or (a::b::es) pos) (mN t u):=by unfold JW at*;unfold JT at d;show UA d f
def wK(h:JW X e t):JT X e t:=by unfold JT;unfold JW at h;show PW.pt h
def oN(d:JE X l ta):JI X f l (dy ta):=by unfold JI;unfold JE at d;show Qn d
def ot(j:Gl X "range")(h:X.mg "range"=none)(d:JA X [a] ar)(g:notStar a=true:=by rfl):JI X f (.Call (.Name "range" p) [a] [] pos) (dg ar):=by unfold JI;unfold JA at d;show IT (J0 j h d (cz g))
def nG{g:Expr}(k:Gl X "range")(j:X.mg "range"=none)(f:JA X [a,b] ar)(h:notStar a=true:=by rfl)(d:notStar b=true:=by rfl):JI X g (.Call (.Name "range" p) [a,b] [] pos) (kZ ar):=by unfold JI;unfold JA at f;show Hr (HN k j f (by rw[cz h,cz d];rfl) (cz d))
def kb{k:Nat}(g:X.N.Nodup)(d:Loc X.env.scope x:=by first|show Or.inl rfl|show Or.inr rfl)(f:X.fn x=true\/X.env.scope.names.lookup x=some .local:=by first|show .inl rfl|show .inr rfl)(hi:X.N[k]?=some x:=by rfl):JG X (.Name x pos) (bf k):=by unfold JG;show OT (nB g hi d f)
def uj{k j n:Nat}{x y:Str}{g f:Pos}(v:X.calm=true)(d:X.N.Nodup)(l:Loc X.env.scope x:=by first|show Or.inl rfl|show Or.inr rfl)(r:X.fn x=true\/X.env.scope.names.lookup x=some .local:=by first|show .inl rfl|show .inr rfl)(h:Loc X.env.scope y:=by first|show Or.inl rfl|show Or.inr rfl)(q:X.fn y=true\/X.env.scope.names.lookup y=some .local:=by first|show .inl rfl|show .inr rfl)(hi:X.N[k]?=some x:=by rfl)(m:X.N[j]?=some y:=by rfl):
 JG X (.Tuple [.Name x g,.Name y f] n pos) (dN k j):=by unfold JG;show RY (Jn v (ox (nB d hi l r) (ox (nB d m h q) EK)))
def jr:JC X [] bI:=by unfold JC;show KY
def RB(h:JT X c t):JC X [c] t:=by unfold JC;unfold JT at h;show Rx h
def pR{j k d:Expr}{g:DI}(S:cD X scope Nc fr)(hi:JI X k d g)(r:∀C s H ex,JG (cB X scope Nc C s H ex) k f)(n:∀C s H ex,JC (cB X scope Nc C s H ex) h t)(v:∀C s H ex,JE (cB X scope Nc C s H ex) j te)(l:pN fr f)
 (m:X.xe=λ_ _=>False:=by rfl) (w:X.calm=true:=by rfl) (q:∀x,foldedSetIterable d X.env x=pure x:=by intro _;rfl):JE X (.ListComp j [⟨k,d,h,0⟩] scope pos) (cp g fr f t te):=by
 unfold JE JI JG JC at*;show Qm S hi r n v l m w q
def yo{j k d:Expr}{g:DI}(S:cD X scope Nc fr)(hi:JI X k d g)(r:∀C s H ex,JG (cB X scope Nc C s H ex) k f)(n:∀C s H ex,JC (cB X scope Nc C s H ex) h t)(v:∀C s H ex,JE (cB X scope Nc C s H ex) j te)(l:pN fr f)
 (m:X.xe=λ_ _=>False:=by rfl) (w:X.calm=true:=by rfl) (q:∀x,foldedSetIterable d X.env x=pure x:=by intro _;rfl):JE X (.ListComp j [⟨k,d,h,0⟩] scope pos) (sI g fr f t te):=by
 unfold JE JI JG JC at*;show Pq S hi r n v l m w q
def gR:JB X [] cA:=by unfold JB;show N2
def bE(h:JS X s T):JB X [s] T:=by unfold JB;unfold JS at h;show Oj h
def aH(h:JS X s T)(d:JB X ss U):JB X (s::ss) (av T U):=by unfold JB at*;unfold JS at h;show LX h d
def o7:JS X (.Continue pos) tM:=by unfold JS;show Dt
def fw(h:JE X e te):JS X (.Return (some e) pos) (a6 te):=by unfold JS;unfold JE at h;show RT h
def OH:JS X (.Return none pos) E1:=by unfold JS;show Pm
def f_(h:JE X e te)(d:ll e=true:=by rfl):JS X (.Expr e pos) (d6 te):=by unfold JS;unfold JE at h;show LM h d
def iQ(d:JT X c t)(g:JB X x T)(f:JB X y U):JS X (.If c x y pos) (cS t T U):=by unfold JS;unfold JB at*;unfold JT at d;show Ud d g f
def vT(d:JT X c t)(f:JB X x T)(g:X.xe=λ_ _=>False:=by rfl):JS X (.While c x [] pos) (rW t T):=by unfold JS;unfold JB at f;unfold JT at d;show K0 (L5 (by rw[g];show PassesOwn.never) d f)
def mq{g:fu}(hi:JI X h d f)(j:JG X h g)(k:JB X x T)(l:X.xe=λ_ _=>False:=by rfl)(n:X.calm=true:=by rfl)(m:∀x,foldedSetIterable d X.env x=pure x:=by intro _;rfl):JS X (.For h d x [] pos) (fm f g T):=by
 unfold JS;unfold JI at hi;unfold JG at j;unfold JB at k;show QY (Rf (by rw[l];show PassesOwn.never) n hi j k m)
def cw{k:Nat}(j:X.N.Nodup)(f:Loc X.env.scope x)(d:JE X e te)(g:X.fn x=true\/X.env.scope.names.lookup x=some .local:=by first|show .inl rfl|show .inr rfl)(h:ll e=true:=by rfl)(hi:X.N[k]?=some x:=by rfl):JS X (.Assign [.Name x pos'] e pos) (aM k te):=by
 unfold JS;unfold JE at d;show Qo (NX j hi f d g h)
def yJ{g l d:Expr}{k:Nat}(E:X.N.Nodup)(y:Loc X.env.scope x)(S:cD X scope Nc fr)(hi:JI X l d j)(z:∀C s H ex,JG (cB X scope Nc C s H ex) l h)(v:∀C s H ex,JC (cB X scope Nc C s H ex) f t)(B:∀C s H ex,JE (cB X scope Nc C s H ex) g te)(q:pN fr h)
 (A:X.fn x=true\/X.env.scope.names.lookup x=some .local:=by first|show .inl rfl|show .inr rfl) (m:swapsWith (.ListComp g [⟨l,d,f,0⟩] scope p) (some (.Name x pos')) pos.line X.env=pure true:=by rfl) (n:X.N[k]?=some x:=by rfl) (r:X.xe=λ_ _=>False:=by rfl) (D:X.calm=true:=by rfl) (w:∀x,foldedSetIterable d X.env x=pure x:=by intro _;rfl):
 JS X (.Assign [.Name x pos'] (.ListComp g [⟨l,d,f,0⟩] scope p) pos) (aM k (cp j fr h t te)):=by
 unfold JS;unfold JE JI JG JC at*;show NF q (Ov r D S hi z v B E n y A m w)
def gB(f:JE X e te)(d:JE X o to)(hi:JE X i ti)(h:ll e=true:=by rfl)(g:nO i=true:=by rfl):JS X (.Assign [.Subscript o i pos'] e pos) (fY to ti te):=by unfold JS;unfold JE at*;show Ln (Qz f d hi h g)
def H0{k:Nat}{f:Int->Int->Int}(l:X.N.Nodup)(g:Loc X.env.scope x)(d:JE X e te)(h:Cc X op (DY f))(j:X.fn x=true\/X.env.scope.names.lookup x=some .local:=by first|show .inl rfl|show .inr rfl)(hi:X.N[k]?=some x:=by rfl):JS X (.AugAssign (.Name x pos') op e pos) (Bw k (wR f) te):=by
 unfold JS;unfold JE at d;show RO (SJ l hi g d h j)
def Q0{k j h l:Nat}{g f pt d:Pos}(B:X.N.Nodup)(m:k≠j)(r:X.env.scope.names.lookup x=some .local)(q:X.env.scope.names.lookup y=some .local)(n:JA X [a,b] ar)
 (v:swappedStores [.Tuple [.Name x g,.Name y f] h pt] (.Tuple [a,b] l d) X.env=pure (some [x,y]):=by rfl) (A:X.calm=true:=by rfl) (hi:X.N[k]?=some x:=by rfl) (z:X.N[j]?=some y:=by rfl) (w:swapsWithSole [.Tuple [.Name x g,.Name y f] h pt] (.Tuple [a,b] l d) pos.line X.env=pure false:=by rfl):
 JS X (.Assign [.Tuple [.Name x g,.Name y f] h pt] (.Tuple [a,b] l d) pos) (Lz k j ar):=by unfold JS;unfold JA at n;show P9 (Q7 A B hi z m r q n v w)
def IB(h:JE X e te)(g:JG X d f)(k:swapsWithSole [d] e pos.line X.env=pure false:=by rfl)(j:swappedStores [d] e X.env=pure none:=by rfl)(l:(assignEach [d] X.env).map (·.2)=[assign d X.env]:=by rfl):JS X (.Assign [d] e pos) (xX f te):=by
 unfold JS;unfold JE at h;unfold JG at g;show QH (Ib h g k j l)
end
def js{P:Program}{w:World}{K:PySem.W.Frag}{j:Str->Option Value}{c:Heap}{x a:Str}{st:Stmt}{f:Addr}{fd:FuncData}{N g:List Str}{k:Nat}{sp:bN}{t:DS}(F:nL K x a st f fd)(S:lK N g (bj st))
 (b:∀(d:Value) (A:Around) (outer:List Env) (s:Shared) (H:Hp) (E:XK),cK k (A.deeper (envOfC a (bj st) s.heap.objs.size f d))->JB (o9 fR P w K j c N a (bj st) f d A outer s H E).uO (fN st) t)
 (h:∀i st K,sp i st K->i.length=g.length/\t {nx:=λ_ e=>K .aD e,rt:=K} (aK N i) st):cY P w K j c fR (k+1) f fd g (gF sp):=by
 unfold JB at b;show Ux F S b h
end L3
namespace HT
open PySem PyProof.Rows
section
variable {prog:Program}{w:World}{A:Around}{E:Value->Shared->Prop}{s:Shared}
def rj{t c:Addr}{items:Array Value}{i g:Value}{lo hi:Option Int}{Q:Value->Shared->Prop}(b:IsTup s.heap t items)(k:s.heap.IsSliceOf c i g .none)(pl:IsPart i lo)(l:IsPart g hi)
 (j:bY items.size 0 lo=0/\bY items.size items.size hi=items.size) (h:Q (.ref t) s):wpAny (model prog w) A (getItem (.ref t) (.ref c)) Q E s:=by
 obtain⟨m,d,e,n⟩:=id k;let f:s.TypeIs (.ref c) "slice":=⟨m,d,e⟩
 unfold getItem;try with_reducible show Zq ?_
 first|show WT (W5 ?_)|skip
 show WT (wpAny_sequenceKey b.typeIs (by decide) ?_)
 show WT (Ym (name:=Str.ofString "__getitem__") b.typeIs Yx
  (YR Yx b.typeIs entry_tuple_getitem ?_ (args_tuple_getitem _ _)))
 change wpAny _ _ (Builtin.Tuple.tupleItemsOf (.ref t) >>= _) _ _ s;show WT (tupleItemsOf_ b ?_);show WT (wpAny_typeOf f ?_);rw[WY (by decide)];show WT (oj k pl l ?_)
 let a:(((bY items.size 0 lo:Nat):Int)==0&&(1:Int)==1&&(bY items.size items.size hi-bY items.size 0 lo)==items.size)=true:=by
  rw[j.1,j.2];simp
 change wpAny _ _ (if(((bY items.size 0 lo:Nat):Int)==0&&(1:Int)==1&&(bY items.size items.size hi-bY items.size 0 lo)==items.size)=true then _ else _) _ _ s;rw[WY a];show WT ?_;unfold Builtin.Tuple.tupleIsExact;show WT (wpAny_typeOf b.typeIs (W5 (WT (aab (W5 ⟨_,rfl,W5 h⟩)))))
end
end HT
namespace L3
open PySem L2
open PySem.Spec hiding items?
open PyProof.Rows hiding St
abbrev DO:=bX->af->(Option Int->af->Prop)->Prop
def fH:DO:=λ_ st K=>K none st
def hZ(t:DE):DO:=λσ st K=>t σ st λd a=>match d with| .int i=>K (some i) a|_=>False
def cutD(xs:List D)(lo hi:Option Int):List D:=(xs.drop (HT.bY xs.length 0 lo)).take (HT.bY xs.length xs.length hi-HT.bY xs.length 0 lo)
def CK(d:D)(lo hi:Option Int)(st:af)(K:DK):Prop:=match d with
 | .lst a=>K (.lst (cutD a lo hi)) st
 | .tup a=>K (.tup (cutD a lo hi)) st
 | .ref n=>(match st[n]? with|some (.lst a)=>K (.lst (cutD a lo hi)) st|_=>False)
 |_=>False
@[irreducible] def kC:D->Option Int->Option Int->af->DK->Prop:=CK
def gq(t:DE)(lo hi:DO):DE:=λσ st K=>t σ st λd c=>lo σ c λl b=>hi σ b λu a=>kC d l u a K
def vg{α:List (Option Addr)}{G:Hp}{xs:List D}{vs:List V}{lo hi:Option Int}(r:aG α G xs vs):aG α G (cutD xs lo hi) (ql vs lo hi):=by
 unfold cutD ql;rw[<-r.length];show aV.mpr (uT _ (u6 _ (aV.mp r)))
def WM(α:List (Option Addr))(G F:Hp)(K:Option Int->af->Prop)(Q:Option Int->Hp->Prop):Prop:=∀o a,K o a->∀c b d,Step α G c b->cu b F d->aY c a b->Q o d
inductive Vq(t:DO)(σ:L2.St)(H:Hp)(Q:Option Int->Hp->Prop):Prop
 |mk (α:List (Option Addr)) (σd:bX) (st:af) (K:Option Int->af->Prop) (G F:Hp) (P:cu G F H) (R:dU α G σd σ) (S:aY α st G) (h:t σd st K) (k:WM α G F K Q):Vq t σ H Q
def LO(t:DO):TO:=Vq t
section
variable {X:Cx}
def PO.imp{e:Option Expr}(h:PO X e t)(f:∀σ H Q,t' σ H Q->t σ H Q):PO X e t':=λa s σ H Q I q=>h a s σ H Q I (f σ H Q q)
def OA:PO X none (LO fH):=PO.imp Om λσ H Q ⟨α,a,st,K,G,F,P,R,S,t,k⟩=>k none st t α G H Step.refl P S
def NJ{e:Expr}(h:PE X e (LE b)):PO X (some e) (LO (hZ b)):=PO.imp (OP h) λσ H Q ⟨α,f,st,K,G,F,P,R,S,t,k⟩=>by
 show⟨α,f,st,_,G,F,P,R,S,t,λd a q g m H1 v i l j c=>?_⟩;cases d<;>try show q.elim
 unfold Rep at c;show⟨_,c,k _ a q g m H1 i l j⟩
def WK(x:V)(lo hi:Option Int)(H:Hp)(Q:VK):Prop:=∃α d st K G F,cu G F H/\Rep α G d x/\aY α st G/\kC d lo hi st K/\LK α G F K Q
def OB:Ia X (λx lo hi H Q=>∃a xs,x= .ref a/\H a=some (.tup xs)/\((HT.bY xs.length 0 lo=0/\HT.bY xs.length xs.length hi=xs.length)->Q (.ref a) H)/\(¬(HT.bY xs.length 0 lo=0/\HT.bY xs.length xs.length hi=xs.length)->∀p,H p=none->Q (.ref p) (upd H p (.tup (ql xs lo hi))))):=by
 intro b s σ H x v l k lo hi m Q I e j pl f h;obtain⟨a,xs,rfl,g,o,n⟩:=h;by_cases d:HT.bY xs.length 0 lo=0/\HT.bY xs.length xs.length hi=xs.length
 . cases e;obtain⟨q,r,i,t⟩:=I.tuple (iC.of g);let c:q.toArray.size=xs.length:=by rw[W6];show r.length.symm
   show⟨"tuple",_,Yx.lookup,i.typeIs,HT.rj i j pl f (by rw[c];show d) ⟨.ref a,H,I,rfl,o d⟩⟩
 . show QQ b s σ H _ v l k lo hi m Q I e j pl f ⟨a,xs,rfl,.of g,d,n d⟩
def J4{xs:List D}{lo hi:Option Int}(a:HT.bY xs.length 0 lo=0/\HT.bY xs.length xs.length hi=xs.length):cutD xs lo hi=xs:=by
 unfold cutD;rw[a.1,a.2];simp
def QT:Ia X WK:=by
 intro b s σ H x v j i t w l Q I m u pl r ⟨α,d,st,K,G,F,P,c,S,q,k⟩;unfold kC CK at q;cases d<;>try show q.elim
 . rename_i n;simp only at q;split at q
   . rename_i A e;obtain⟨a,E,f,D,C⟩:=S.ie e;let o:=cZ E c;subst o;show D4 b s σ H _ v j i t w l Q I m u pl r ⟨a,f,rfl,.inl (.of (P.get D)),λp g=>k.lst P q S (vg C) g⟩
   . show q.elim
 . unfold Rep at c;obtain⟨a,f,rfl,na,y,h⟩:=c;show D4 b s σ H _ v j i t w l Q I m u pl r ⟨a,f,rfl,.inl (fi P y),λp g=>k.lst P q S (vg h) g⟩
 . rename_i A;let B:=c;unfold Rep at c;obtain⟨a,f,rfl,na,y,h⟩:=c;show OB b s σ H _ v j i t w l Q I m u pl r ⟨a,f,rfl,P.get y,λz=>?_,λ_ p g=>k.tup P q S (vg h) g⟩;rw[<-h.length]at z;simp only at q;rw[J4 z]at q;show k.here P q S B
def N0{e:Expr}{lo hi:Option Expr}{j:DE}{tl i:DO}{p2 pos:Pos}(z:PE X e (LE j))(x:PO X lo (LO tl))(y:PO X hi (LO i)):PE X (.Subscript e (.Slice lo hi none p2) pos) (LE (gq j tl i)):=PE.imp (K6 QT z x y) λσ H Q ⟨α,a,st,K,G,F,P,R,S,t,k⟩=>by
 show⟨α,a,st,_,G,F,P,R,S,t,λd f q p L H1 v h E C r=>?_⟩;show⟨p,a,f,_,L,F,E,R.step h,C,q,λl c w o J N g D B=>?_⟩;show⟨o,a,c,_,J,F,D,(R.step h).step g,B,w,λu b s n I M m P3 A=>?_⟩;show⟨n,d,b,K,I,F,P3,(r.step g).step m,A,s,((k.at h).at g).at m⟩
@[irreducible] def JO(X:Cx)(e:Option Expr)(t:DO):Prop:=PO X e (LO t)
def kv:JO X none fH:=by unfold JO;show OA
def iH{e:Expr}(h:JE X e a):JO X (some e) (hZ a):=by unfold JO;unfold JE at h;show NJ h
def iE{e:Expr}{lo hi:Option Expr}{b:DE}{tl a:DO}{p2 pos:Pos}(f:JE X e b)(c:JO X lo tl)(d:JO X hi a):JE X (.Subscript e (.Slice lo hi none p2) pos) (gq b tl a):=by unfold JE at*;unfold JO at*;show N0 f c d
end
def Ij{st:af}{K:DK}{xs:List D}{lo hi:Option Int}(k:K (.lst (cutD xs lo hi)) st):kC (.lst xs) lo hi st K:=by unfold kC;show k
def sr{st:af}{K:DK}{xs:List D}{lo hi:Option Int}(k:K (.tup (cutD xs lo hi)) st):kC (.tup xs) lo hi st K:=by unfold kC;show k
def ku{st:af}{K:DK}{xs:List D}{lo hi:Option Int}{n:Nat}(h:st[n]?=some (.lst xs))(k:K (.lst (cutD xs lo hi)) st):kC (.ref n) lo hi st K:=by unfold kC CK;simp![h];show k
section
variable {prog:Program}{w:World}{A:Around}{E:Value->Shared->Prop}{s:Shared}
def Gn(e:s.heap.IsTupleIter b a n)(h:s.heap.IsTuple a ao)(f:ao[n]?=some v)
 (q:∀g,g.IsTupleIter b a (n+1)->Heap.SameBut b s.heap g->Q v {s with heap:=g}):wpAny (model prog w) A (Builtin.SmallTypes.nextOf (.ref b)) Q E s:=by
 obtain⟨m,d,k,c⟩:=id e;obtain⟨l,i,_,o,j⟩:=h;unfold Builtin.SmallTypes.nextOf;show WT (Ym (name:=Str.ofString "__next__") e.typeIs Zs (YR Zs e.typeIs aa_ ?_ (aa6 _)));change wpAny _ _ (field (.ref b) 0 >>= _) _ _ s;show WT (XS d c (x:= .ref a) rfl ?_);change wpAny _ _ (if(Value.ref a==Value.none)=true then _ else _) _ _ s;rw[WW (show¬((Value.ref a==Value.none)=true)from Yk)];change wpAny _ _ (field (.ref b) 1 >>= _) _ _ s;show WT (XS d c (x:= .int n 0) rfl ?_);change wpAny _ _ (seqItems? (.ref a) >>= _) _ _ s;show WT (X9 i j ?_);simp![Xv,f];show WT (wpAny_setField d c (by simp) (W5 ⟨v,rfl,W5 (q _ ?_ (YM ..))⟩));show⟨_,Zp _ d (Obj.isFreed_of_fields (Obj.data_mapFields c _)),(Obj.cls_mapFields ..).trans k,?_⟩;rw[Obj.data_mapFields c];simp[rawInt]
def IW(i:A.handled=none)(d:s.heap.IsTupleIter c b n)(k:s.heap.IsTuple b ao)(j:ao[n]?=none)
 (q:∀g e,Heap.ExtBut c s.heap g->(∃o,g.get? e=some o/\o.cls= .type "StopIteration")->E (.ref e) {s with heap:=g}):wpAny (model prog w) A (Builtin.SmallTypes.nextOf (.ref c)) Q E s:=by
 obtain⟨t,f,v,h⟩:=id d;obtain⟨r,l,_,u,p⟩:=k;unfold Builtin.SmallTypes.nextOf;show WT (Ym (name:=Str.ofString "__next__") d.typeIs Zs (YR Zs d.typeIs aa_ ?_ (aa6 _)));change wpAny _ _ (field (.ref c) 0 >>= _) _ _ s;show WT (XS f h (x:= .ref b) rfl ?_);change wpAny _ _ (if(Value.ref b==Value.none)=true then _ else _) _ _ s;rw[WW (show¬((Value.ref b==Value.none)=true)from Yk)];change wpAny _ _ (field (.ref c) 1 >>= _) _ _ s;show WT (XS f h (x:= .int n 0) rfl ?_);change wpAny _ _ (seqItems? (.ref b) >>= _) _ _ s;show WT (X9 l p ?_);simp![Xv,j];show WT (aab (WT (wpAny_setField f h (by simp) ?_)));change wpAny _ _ (newExc (.type "StopIteration") [] >>= _) _ _ _;show WT ?_;simp![newExc,newTuple];show WT (YW ?_ (by size_fits));show WT (m:=firstArgMember _ _) (wpAny_of_eq (a:=Value.none) (by first|rfl|(simp![firstArgMember];rfl)) ?_);show YW ?_ (by size_fits);simp![raiseNew];show WT (wpAny_handled ?_);first|rw[show A.in1.handled=none from i]|rw[i]
 show WT (W5 (wpAny_throw ?_));show q _ _ (((YM ..).extBut.push _).push _) ⟨_,Xe _ rfl,rfl⟩
end
section
variable {st:af}{K:DK}{i j:Int}{b c:Bool}{xs ys:List D}{d e:D}{n:Nat}
def eqT(h:i=j)(k:K (.bl true) st):gN (.int i) (.int j) st K:=AS (by rw[Y4 h];show k)
def Nq(h:i≠j)(k:K (.bl false) st):gN (.int i) (.int j) st K:=AS (by rw[XO h];show k)
def eq2(f:i=j->K (.bl true) st)(a:i≠j->K (.bl false) st):gN (.int i) (.int j) st K:=by
 by_cases h:i=j
 . show eqT h (f h)
 . show Nq h (a h)
def neT(h:i≠j)(k:K (.bl true) st):pM (.int i) (.int j) st K:=AM (by rw[XO h];show k)
def QA(h:i=j)(k:K (.bl false) st):pM (.int i) (.int j) st K:=AM (by rw[Y4 h];show k)
def ne2(f:i≠j->K (.bl true) st)(a:i=j->K (.bl false) st):pM (.int i) (.int j) st K:=by
 by_cases h:i=j
 . show QA h (a h)
 . show neT h (f h)
def Wt(h:i<j)(k:K (.bl true) st):pW (.int i) (.int j) st K:=AL (by rw[Y4 h];show k)
def WD(h:j<=i)(k:K (.bl false) st):pW (.int i) (.int j) st K:=AL (by rw[XO (by lia)];show k)
def M5(f:i<j->K (.bl true) st)(a:j<=i->K (.bl false) st):pW (.int i) (.int j) st K:=by
 by_cases h:i<j
 . show Wt h (f h)
 . show WD (by lia) (a (by lia))
def Ww(h:j<i)(k:K (.bl true) st):u0 (.int i) (.int j) st K:=MH (by rw[Y4 h];show k)
def Wy(h:i<=j)(k:K (.bl false) st):u0 (.int i) (.int j) st K:=MH (by rw[XO (by lia)];show k)
def Qy(f:j<i->K (.bl true) st)(a:i<=j->K (.bl false) st):u0 (.int i) (.int j) st K:=by
 by_cases h:j<i
 . show Ww h (f h)
 . show Wy (by lia) (a (by lia))
def U7(h:j<=i)(k:K (.bl true) st):sF (.int i) (.int j) st K:=M_ (by rw[Y4 h];show k)
def Vv(h:i<j)(k:K (.bl false) st):sF (.int i) (.int j) st K:=M_ (by rw[XO (by lia)];show k)
def U0(f:j<=i->K (.bl true) st)(a:i<j->K (.bl false) st):sF (.int i) (.int j) st K:=by
 by_cases h:j<=i
 . show U7 h (f h)
 . show Vv (by lia) (a (by lia))
def UY(h:xs.length<=1000)(k:P):xs.length<=sizeLine/\P:=⟨by rw[Yl];lia,k⟩
def cx(h:m<=1000):m<=sizeLine:=by rw[Yl];lia
def xV(a:0<=i)(e:xs[i.toNat]?=some d):dw xs i=some d:=by
 let:=eP e;rw[aan a]at this;show this
def Rp(a:0<=i)(h:i.toNat<m):km m i=some i.toNat:=by
 unfold km;let:i<(m:Int):=by lia
 simp[a,this]
end
def fg{e:fu}{E:jl}(I:List D->bX->af->Prop)(d:∀σ st,I [] σ st->ok st/\E.nx σ st)
 (b:∀x xs σ st,I (x::xs) σ st->(∀f c,I xs f c->i4 e a ok E xs f c)->ok st/\∃g,e x σ=some g/\a {E with nx:=i4 e a ok E xs,ct:=i4 e a ok E xs,bk:=E.nx} g st):
 ∀xs σ st,I xs σ st->i4 e a ok E xs σ st
 | [],σ,st,h=>by unfold i4;show d σ st h
 |x::xs,σ,st,h=>by unfold i4;show b x xs σ st h λf c i=>fg I d b xs f c i
def gD{j:fu}{c:DT}{k:DE}{ok:af->Prop}{i:bX}{K:List D->af->Prop}(I:List D->List D->af->Prop)(g:∀a st,I [] a st->ok st/\K a st)
 (e:∀x xs a st,I (x::xs) a st->(∀d f,I xs d f->dc j c k ok i xs d f K)->ok st/\∃m,j x i=some m/\c m st λb l=>if b=true then k m l λy n=>dc j c k ok i xs (a++[y]) n K else dc j c k ok i xs a l K):
 ∀xs a st,I xs a st->dc j c k ok i xs a st K
 | [],a,st,h=>by unfold dc;show g a st h
 |x::xs,a,st,h=>by unfold dc;show e x xs a st h λd f o=>gD I g e xs d f o
def comp_map{f:fu}{i:DE}{ok:af->Prop}{d:bX}{st:af}{K:List D->af->Prop}{g:D->D}(m:ok st)(xs:List D)(p:∀x∈xs,∀n,n (g x) st->∃c,f x d=some c/\i c st n)(k:K (xs.map g) st):dc f bI i ok d xs [] st K:=by
 show gD (λr a b=>b=st/\(∀x∈r,x∈xs)/\a++r.map g=xs.map g) (λa b h=>?_) (λx r a b h next=>?_) xs [] st ⟨rfl,λ_ h=>h,rfl⟩
 . obtain⟨rfl,_,e⟩:=h;rw[List.map_nil,YD]at e;rw[e];show⟨m,k⟩
 . obtain⟨rfl,l,e⟩:=h;obtain⟨c,s,q⟩:=p x (l x Xk) (λy j=>dc f bI i ok d r (a++[y]) j K) (next _ _ ⟨rfl,λz o=>l z (Xg _ o),by rw[<-e];simp⟩);show⟨m,c,s,q⟩
def yd{A B:DS}{E:jl}{σ:bX}{st:af}(J:bX->af->Prop)(h:∀nx,(∀b a,J b a->nx b a)->A {E with nx:=nx} σ st)(k:∀b a,J b a->B E b a):av A B E σ st:=h (B E) k
def Q1(n:Nat)(K:DK)(y:D)(a:af):Prop:=∃b,[y]=[b]/\(match a[n]? with|some (.lst c)=>c.length<sizeLine/\K .aD (a.set n (.lst (c++[b])))|_=>False)
def ke{n:Nat}{K:DK}{y:D}{st:af}{xs:List D}(e:st[n]?=some (.lst xs))(h:xs.length<sizeLine)(k:K .aD (st.set n (.lst (xs++[y])))):Q1 n K y st:=by
 show⟨y,rfl,?_⟩;simp![e];show⟨h,k⟩
@[irreducible] def fM(a b:DE):DE:=p_ a b
def mz{σ:bX}{st:af}{K:DK}{i n:Nat}{xs:List D}{a:DE}(b:σ[i]?=some (some (.ref n)))(e:st[n]?=some (.lst xs))(h:a σ st (Q1 n K)):fM (aa i) a σ st K:=by
 unfold fM p_ aa;simp![b,e];show h
def yR{X:Cx}{o e:Expr}{f g:DE}{b a:Pos}(i:JE X o f)(j:JE X e g)(d:attributeBase o "append" X.env (eval o X.env)=eval o X.env:=by rfl)(c:(b.endLine==a.line)=true:=by rfl)(h:notStar e=true:=by rfl):JE X (.Call (.Attribute o "append" b) [e] [] a) (fM f g):=by
 unfold fM;show LZ i j d c h
structure Src(P:Program)(w:World)(t a:Addr)(J:Nat->Heap->Prop)(us:Array Value):Prop where
 fr:∀n g k,J n g->(∀b,b=t\/b=a->∀o,g.get? b=some o->k.get? b=some o)->J n k
 lv:∀n g,J n g->(∃o,g.get? t=some o)/\∃o,g.get? a=some o
 nx:∀n (A:Around) (s:Shared) (Q:Value->Shared->Prop) (E:Value->Shared->Prop) v,J n s.heap->us[n]?=some v->(∀k,J (n+1) k->Heap.SameBut t s.heap k->Q v {s with heap:=k})->wpAny (model P w) A (Builtin.SmallTypes.nextOf (.ref t)) Q E s
 en:∀n (A:Around) (s:Shared) (Q:Value->Shared->Prop) (E:Value->Shared->Prop),A.handled=none->J n s.heap->us[n]?=none->(∀k e,Heap.ExtBut t s.heap k->(∃o,k.get? e=some o/\o.cls= .type "StopIteration")->E (.ref e) {s with heap:=k})->wpAny (model P w) A (Builtin.SmallTypes.nextOf (.ref t)) Q E s
section
variable {P:Program}{w:World}
def src_list(t a:Addr)(c:a≠t)(us:Array Value):Src P w t a (λn g=>g.IsListIter t a n/\g.IsList a us) us where
 fr:=λn g k j f=>⟨j.1.at λo e=>f t (.inl rfl) o e,j.2.at λo e=>f a (.inr rfl) o e⟩
 lv:=λn g j=>⟨let⟨o,e,_⟩:=j.1;⟨o,e⟩,let⟨o,e,_⟩:=j.2;⟨o,e⟩⟩
 nx:=λn A s Q E v j b q=>wpAny_nextOf_list_item j.1 j.2 b λk h d=>q k ⟨h,j.2.extBut d.extBut c⟩ d
 en:=λn A s Q E i j b q=>wpAny_nextOf_list_end i j.1 j.2 b q
def NO(t a:Addr)(c:a≠t)(us:Array Value):Src P w t a (λn g=>g.IsTupleIter t a n/\g.IsTuple a us) us where
 fr:=λn g k j h=>by
  obtain⟨⟨o,e,r⟩,⟨f,p,i⟩⟩:=j;show⟨⟨o,h t (.inl rfl) o e,r⟩,⟨f,h a (.inr rfl) f p,i⟩⟩
 lv:=λn g j=>⟨let⟨o,e,_⟩:=j.1;⟨o,e⟩,let⟨o,e,_⟩:=j.2;⟨o,e⟩⟩
 nx:=λn A s Q E v j b q=>Gn j.1 j.2 b λk l d=>q k ⟨l,j.2.extBut d.extBut c⟩ d
 en:=λn A s Q E m j b q=>IW m j.1 j.2 b q
def Src.ext(S:Src P w t a J us){g k:Heap}(j:J n g)(x:Heap.ExtBut c g k)(h:c≠t)(f:c≠a):J n k:=
 S.fr n g k j λb d o e=>x b o (by rcases d with rfl|rfl;show W4 h;show W4 f) e
structure EJ(z ti to t1 t2 a1 a2:Addr):Prop where
 nd: [z,ti,to,t1,t2].Nodup
 a1:a1∉[z,ti,to,t1,t2]
 a2:a2∉[z,ti,to,t1,t2]
section
variable {z ti to t1 t2 a1 a2:Addr}
def EJ.n(D:EJ z ti to t1 t2 a1 a2):(ti≠z/\to≠z/\t1≠z/\t2≠z)/\(ti≠to/\ti≠t1/\ti≠t2)/\(to≠t1/\to≠t2)/\t1≠t2:=by
 let:=D.nd;simp![Zn,Xh,ZY,Xi,Yj,Zt,List.nodup_nil]at this;obtain⟨⟨j,i,h,g⟩,⟨f,e,d⟩,⟨c,b⟩,a⟩:=this;show⟨⟨W4 j,W4 i,W4 h,W4 g⟩,⟨f,e,d⟩,⟨c,b⟩,a⟩
def He{A:Around}{s:Shared}{E:Value->Shared->Prop}{R K:Nat->Heap->Prop}{us vs:Array Value}{n:Nat}{x y a b:Value}{Q:Value->Shared->Prop}(D:EJ z ti to t1 t2 a1 a2)(m:Src P w t1 a1 R us)(l:Src P w t2 a2 K vs)
 (Z:IsZip s.heap z ti to .none) (pI:IsPair s.heap ti (.ref t1) (.ref t2)) (pO:IsPair s.heap to a b) (j1:R n s.heap) (j2:K n s.heap) (ex:us[n]?=some x) (ey:vs[n]?=some y)
 (q:∀k,IsZip k z ti to (rawInt s.heap.objs.size)->IsPair k to x y->R (n+1) k->K (n+1) k->IsPair k s.heap.objs.size x y->k.objs.size=s.heap.objs.size+1->
   (∀c o,c≠z->c≠to->c≠t1->c≠t2->s.heap.get? c=some o->k.get? c=some o)->Q (.ref s.heap.objs.size) {s with heap:=k}):
 wpAny (model P w) A (Builtin.«zip.__next__» ⟨[.ref z],[]⟩) (λau s'=>∃v,au= .done (.ret v)/\Q v s') E s:=by
 obtain⟨⟨n1,M,V,U⟩,⟨n5,n6,n7⟩,⟨T,S⟩,u⟩:=D.n;let j:=D.a1;let i:=D.a2;simp![Xh,ZY,Xi,Yj,Zt]at j i;change wpAny _ _ (field (.ref z) 2 >>= _) _ _ _;show WT (XS Z rfl (x:= .bool false) rfl ?_);change wpAny _ _ (field (.ref z) 3 >>= _) _ _ _;show WT (XS Z rfl (x:= .ref ti) rfl ?_);show WT (X9 pI rfl ?_);change wpAny _ _ (Builtin.SmallTypes.ownedTupleIsFree (.ref z) >>= _) _ _ _;show WT ?_;unfold Builtin.SmallTypes.ownedTupleIsFree;show WT (XS Z rfl (x:= .none) rfl (W5 ?_));simp![Zo];show WT (aab ?_);show WT (XS Z rfl (x:= .ref to) rfl ?_);show WT (Yd Z (by simp) λk1 Z1 J=>?_);replace Z1:IsZip k1 z ti to .ellipsis:=Z1;show WT ?_;simp![aaK,aaY,ZQ,ZX];show WT (WT (Y3 ?_));change wpAny _ _ (Builtin.SmallTypes.nextOf (.ref t1) >>= _) _ _ _;show WT (m.nx n _ _ _ _ x (m.ext j1 J.extBut (W4 V) (W4 j.1)) ex λk2 ar I=>W5 ?_);let t:IsPair k2 to a b:=I.extBut _ _ T (J.extBut _ _ M pO);show WT (X9 t rfl ?_);show WT (aaZ t λk3 g H=>?_);replace g:IsPair k3 to x b:=g;show WT (Zg (W5 ?_));show WT (WT (Y3 ?_));change wpAny _ _ (Builtin.SmallTypes.nextOf (.ref t2) >>= _) _ _ _;let ah:K n k3:=l.ext (l.ext (l.ext j2 J.extBut (W4 U) (W4 i.1)) I.extBut u (W4 i.2.2.2.1)) H.extBut S (W4 i.2.2.1);show WT (l.nx n _ _ _ _ y ah ey λk4 Y G=>W5 ?_);let r:IsPair k4 to x b:=G.extBut _ _ S g;show WT (X9 r rfl ?_);show WT (aaZ r λd f F=>?_);replace f:IsPair d to x y:=f;show WT (Zg (W5 (W5 ?_)));show WT (X9 f rfl ?_);show WT (abS ?_);let sz:d.objs.size=s.heap.objs.size:=by rw[F.1,G.1,H.1,I.1,J.1]
 let Z5:IsZip d z ti to .ellipsis:=F.extBut _ _ (W4 M) (G.extBut _ _ (W4 U) (H.extBut _ _ (W4 M) (I.extBut _ _ (W4 V) Z1)));let W:∀c o,c≠z->c≠to->c≠t1->c≠t2->s.heap.get? c=some o->d.get? c=some o:=λc o h N c3 c4 e=>F.extBut _ _ N (G.extBut _ _ c4 (H.extBut _ _ N (I.extBut _ _ c3 (J.extBut _ _ h e))));let ao:R (n+1) d:=m.ext (m.ext (m.ext ar H.extBut T (W4 j.2.2.1)) G.extBut (W4 u) (W4 j.2.2.2.2)) F.extBut T (W4 j.2.2.1);let X:K (n+1) d:=l.ext Y F.extBut S (W4 i.2.2.1);let B:z<d.objs.size:=W8 Z5;change wpAny _ _ (Builtin.SmallTypes.ownedTupleHandOut (.ref z) (.ref d.objs.size) >>= _) _ _ _;show WT ?_;unfold Builtin.SmallTypes.ownedTupleHandOut;let Z6:IsZip (d.push {cls:= .type "tuple",data:= .seq #[x,y]}) z ti to .ellipsis:=WU _ Z5;show WT (Yd Z6 (by simp) λk7 Z7 b7=>?_);replace Z7:IsZip k7 z ti to (rawInt d.objs.size):=Z7;show Yd Z7 (by simp) λC O b8=>?_;replace O:IsZip C z ti to (rawInt d.objs.size):=O;let L:∀c o,c≠z->d.get? c=some o->C.get? c=some o:=λc o h e=>b8.extBut _ _ h (b7.extBut _ _ h (WU _ e));let pT:IsPair C d.objs.size x y:=b8.extBut _ _ (YZ B) (b7.extBut _ _ (YZ B) (Xe _ rfl));let p:C.objs.size=d.objs.size+1:=by rw[b8.1,b7.1,XJ]
 rw[sz]at O pT p;show W5 ⟨_,rfl,?_⟩;change Q (.ref d.objs.size) _;rw[sz];show q C O (L _ _ M f) (m.fr _ _ _ ao λb hb o e=>L b o ?_ e) (l.fr _ _ _ X λb hb o e=>L b o ?_ e) pT p λc o h N c3 c4 e=>L c o h (W c o h N c3 c4 e)
 . rcases hb with rfl|rfl
   . show V
   . show j.1
 . rcases hb with rfl|rfl
   . show U
   . show i.1
def KC{A:Around}{s:Shared}(V:A.handled=none)(D:EJ z ti to t1 t2 a1 a2)(M:Src P w t1 a1 O us)(y:Src P w t2 a2 N vs)
 (Z:IsZip s.heap z ti to .none) (pI:IsPair s.heap ti (.ref t1) (.ref t2)) (pO:IsPair s.heap to a b) (j1:O n s.heap) (j2:N n s.heap) (he:us[n]?=none\/vs[n]?=none)
 (q:∀k e,(∀c o,c≠z->c≠to->c≠t1->c≠t2->s.heap.get? c=some o->k.get? c=some o)->(∃o,k.get? e=some o/\o.cls= .type "StopIteration")->E (.ref e) {s with heap:=k}):
 wpAny (model P w) A (Builtin.«zip.__next__» ⟨[.ref z],[]⟩) Q E s:=by
 obtain⟨⟨n1,S,C,R⟩,⟨n5,n6,n7⟩,⟨n8,n9⟩,F⟩:=D.n;let T:=D.a1;let u:=D.a2;simp![Xh,ZY,Xi,Yj,Zt]at T u;change wpAny _ _ (field (.ref z) 2 >>= _) _ _ _;show WT (XS Z rfl (x:= .bool false) rfl ?_);change wpAny _ _ (field (.ref z) 3 >>= _) _ _ _;show WT (XS Z rfl (x:= .ref ti) rfl ?_);show WT (X9 pI rfl ?_);change wpAny _ _ (Builtin.SmallTypes.ownedTupleIsFree (.ref z) >>= _) _ _ _;show WT ?_;unfold Builtin.SmallTypes.ownedTupleIsFree;show WT (XS Z rfl (x:= .none) rfl (W5 ?_));simp![Zo];show WT (aab ?_);show WT (XS Z rfl (x:= .ref to) rfl ?_);show WT (Yd Z (by simp) λU v t=>?_);replace v:IsZip U z ti to .ellipsis:=v;show WT ?_;simp![aaK,aaY,ZQ,ZX];show WT (WT (Y3 ?_));change wpAny _ _ (Builtin.SmallTypes.nextOf (.ref t1) >>= _) _ _ _;let p:O n U:=M.ext j1 t.extBut (W4 C) (W4 T.1);cases K:us[n]? with
 |none=>
  show WT (M.en n _ _ _ _ V p K λH e j J=>?_);obtain⟨B,d,g⟩:=J;let Z2:IsZip H z ti to .ellipsis:=j _ _ (W4 C) v;let i:e≠z:=λc=>by subst c;rw[Z2]at d;cases d;simp at g
  show Yd Z2 (by simp) λG _ l=>q G e (λc o r _ L _ f=>l.extBut _ _ r (j _ _ L (t.extBut _ _ r f))) ⟨B,l.extBut _ _ i d,g⟩
 |some x=>
  have ey:vs[n]?=none:=by
   rcases he with h|h
   . rw[K]at h;cases h
   . show h
  show WT (M.nx n _ _ _ _ x p K λH ao j=>W5 ?_);let m:IsPair H to a b:=j.extBut _ _ n8 (t.extBut _ _ S pO);show WT (X9 m rfl ?_);show WT (aaZ m λG ah l=>?_);show WT (Zg (W5 ?_));show WT (WT (Y3 ?_));change wpAny _ _ (Builtin.SmallTypes.nextOf (.ref t2) >>= _) _ _ _;let I:N n G:=y.ext (y.ext (y.ext j2 t.extBut (W4 R) (W4 u.1)) j.extBut F (W4 u.2.2.2.1)) l.extBut n9 (W4 u.2.2.1);show WT (y.en n _ _ _ _ V I ey λk4 e X J=>?_);obtain⟨B,d,g⟩:=J;let Y:IsZip k4 z ti to .ellipsis:=X _ _ (W4 R) (l.extBut _ _ (W4 S) (j.extBut _ _ (W4 C) v));let i:e≠z:=λc=>by subst c;rw[Y]at d;cases d;simp at g
  show Yd Y (by simp) λk5 _ W=>q k5 e (λc o r c2 L c4 f=>W.extBut _ _ r (X _ _ c4 (l.extBut _ _ c2 (j.extBut _ _ L (t.extBut _ _ r f))))) ⟨B,W.extBut _ _ i d,g⟩
end
end
def Fd{X:Cx}{pins:List (Addr×Obj)}{σ:L2.St}{H:Hp}{s:Shared}{g:Heap}{tk:Nat}{fp:List Addr}{T:Addr}{xs:List V}(I:Inv X pins σ H s)(i:∀b∈fp,lS X pins H b)
 (k:∀b o,b∉fp->s.heap.get? b=some o->g.get? b=some o) (j:s.heap.objs.size<=T) (new:di X.prog X.w (upd H T (.tup xs)) g T (.tup xs)):Inv X pins σ (upd H T (.tup xs)) {s with heap:=g,toks:=tk}:=by
 let t:H T=none:=I.aI.fresh j;let d:∀b u,H b=some u->b∉fp:=λb u e z=>by rw[(i b z).1]at e;cases e
 let f:∀b u,H b=some u->b≠T:=λb u e=>dz e t
 show I.step (g':=s.gens) (d':=s.drawn) (ch:=fp) (λb h=>?_) (λb o _ _ a e _=>k b o a e) (λb o _ _ a e _=>⟨o.slots,k b o a e⟩) (λb o _ e n=>?_) (λb o a e=>⟨o,k b o a e⟩)
  (λb l e=>by rw[aB (f b _ e)];show e) (λb o u e=>by rw[aB (f b _ e)];show e) (λb E e=>⟨#[],by rw[aB (f b _ e),e];simp⟩) (λm w=>?_) (λb u e=>?_) I.bare
 . obtain⟨G,B,F,A,y,x⟩:=i b h;show⟨A,B,y,x⟩
 . rw[aB (Xn (Xj (W8 e) j))];show n
 . obtain⟨o,C,D,p,r⟩:=w;show⟨o,C,D,k _ o (λz=>(i _ z).2.1 rfl) p,r⟩
 . by_cases h:b=T
   . subst h;rw[a9]at e;cases e;show new
   . rw[aB h]at e;show(I.aI b u e).pA (λc v a q=>k c v ?_ q) (λc q=>by rw[aB (f c _ q)];show q) λc l q=>by rw[aB (f c _ q)];show q
     rcases a with z|z
     . rw[z];show d b u e
     . show d c _ z
def E9{X:Cx}{pins:List (Addr×Obj)}{σ:L2.St}{H:Hp}{s:Shared}{g:Heap}{tk:Nat}{fp:List Addr}(I:Inv X pins σ H s)(f:∀b∈fp,lS X pins H b)
 (k:∀b o,b∉fp->s.heap.get? b=some o->g.get? b=some o):Inv X pins σ H {s with heap:=g,toks:=tk}:=by
 let d:∀b u,H b=some u->b∉fp:=λb u e z=>by rw[(f b z).1]at e;cases e
 show I.step (g':=s.gens) (d':=s.drawn) (ch:=fp) (λb l=>?_) (λb o _ _ a e _=>k b o a e) (λb o _ _ a e _=>⟨o.slots,k b o a e⟩) (λb o _ e n=>n) (λb o a e=>⟨o,k b o a e⟩)
  (λb h e=>e) (λb o u e=>e) (λb B e=>⟨#[],by rw[e];simp⟩) (λm j=>?_) (λb u e=>?_) I.bare
 . obtain⟨D,x,C,w,t,p⟩:=f b l;show⟨w,x,t,p⟩
 . obtain⟨o,y,A,i,r⟩:=j;show⟨o,y,A,k _ o (λz=>(f _ z).2.1 rfl) i,r⟩
 . show(I.aI b u e).pA (λc v a q=>k c v ?_ q) (λc q=>q) λc h q=>q;rcases a with z|z
   . rw[z];show d b u e
   . show d c _ z
inductive SK where
 |l|t
def jv(k:SK)(K:PySem.W.Frag)(H:Hp)(a:Addr)(xs:List V):Prop:=match k with
 | .l=>mi K H a xs
 | .t=>iC K H a xs
def kX(k:SK)(t a:Addr)(n:Nat)(g:Heap):Prop:=match k with
 | .l=>g.IsListIter t a n
 | .t=>g.IsTupleIter t a n
def gv(k:SK)(g:Heap)(a:Addr)(us:Array Value):Prop:=match k with
 | .l=>g.IsList a us
 | .t=>g.IsTuple a us
def oM(k:SK)(a:Addr):Obj:=match k with
 | .l=>{cls:= .type "list_iterator",data:= .fields #[.ref a,.int 0 0]}
 | .t=>{cls:= .type "tuple_iterator",data:= .fields #[.ref a,.int 0 0]}
def h_(k:SK)(t a:Addr)(b:a≠t)(us:Array Value):Src P w t a (λn g=>kX k t a n g/\gv k g a us) us:=by
 cases k
 . show src_list t a b us
 . show NO t a b us
def eF{X:Cx}{pins:List (Addr×Obj)}{σ:L2.St}{H:Hp}{s:Shared}{k:SK}{a:Addr}{xs:List V}(I:Inv X pins σ H s)(h:jv k X.K H a xs):∃ao:List Value,Vals xs ao/\gv k s.heap a ao.toArray:=by
 cases k
 . obtain⟨ao,b,p,_⟩:=I.list h;show⟨ao,b,p.isList⟩
 . obtain⟨ao,b,p,_⟩:=I.tuple h;show⟨ao,b,p⟩
def nu{X:Cx}{pins:List (Addr×Obj)}{σ:L2.St}{H:Hp}{s:Shared}{k:SK}{a:Addr}{xs ys:List V}(I:Inv X pins σ H s)(h:jv k X.K H a xs)(h':jv k X.K H a ys):xs=ys:=by
 cases k
 . show I.C7 h h'
 . show I.yN h h'
def rM{s:Shared}{k:SK}(h:gv k s.heap a us)(q:Q (.ref s.heap.objs.size) {s with heap:=s.heap.push (oM k a)}):wpAny (model P w) A (pyIter (.ref a)) Q E s:=by
 cases k
 . show Zw h q
 . show Zj h q
def gv.push{k:SK}{g:Heap}(h:gv k g a us)(o:Obj):gv k (g.push o) a us:=by
 cases k
 . obtain⟨b,e,r⟩:=h;show⟨b,WU _ e,r⟩
 . obtain⟨b,e,r⟩:=h;show⟨b,WU _ e,r⟩
def gv.some{k:SK}{g:Heap}(h:gv k g a us):∃o,g.get? a=Option.some o:=by
 cases k
 . obtain⟨b,e,r⟩:=h;show⟨b,e⟩
 . obtain⟨b,e,r⟩:=h;show⟨b,e⟩
def qb{k:SK}{g h:Heap}(e:g.get? t=Option.some (oM k a)):kX k t a 0 g:=by
 cases k
 . show⟨_,e,rfl,rfl⟩
 . show⟨_,e,rfl,rfl⟩
def iq{k:SK}{g g':Heap}(h:kX k t a n g)(b:∀o,g.get? t=Option.some o->g'.get? t=Option.some o):kX k t a n g':=by
 cases k
 . obtain⟨o,e,r⟩:=h;show⟨o,b o e,r⟩
 . obtain⟨o,e,r⟩:=h;show⟨o,b o e,r⟩
def f7{k:SK}{g:Heap}(h:kX k t a n g):∃o,g.get? t=Option.some o/\∀v,o.data≠ .cell v:=by
 cases k
 . obtain⟨o,e,c,d⟩:=h;show⟨o,e,λv z=>by rw[d]at z;cases z⟩
 . obtain⟨o,e,c,d⟩:=h;show⟨o,e,λv z=>by rw[d]at z;cases z⟩
def Vg(K:PySem.W.Frag)(d c:SK)(f e:Addr):It:=
 ⟨λi H=>∃b a x y,jv d K H f b/\jv c K H e a/\b[i]?=some x/\a[i]?=some y,
  λi H v g=>∃T x y,H T=none/\v= .ref T/\g=upd H T (.tup [x,y])/\(∀b,jv d K H f b->b[i]?=some x)/\∀a,jv c K H e a->a[i]?=some y,
  λi H=>∃b a,jv d K H f b/\jv c K H e a/\(b.length<=i\/a.length<=i)⟩
def T9(z d c f e l k:Addr)(j g:SK)(i:Nat)(h:Heap):Prop:=IsZip h z d c .none/\IsPair h d (.ref f) (.ref e)/\(∃a b,IsPair h c a b)/\kX j f l i h/\kX g e k i h
def Lv{P:Program}{w:World}{K:PySem.W.Frag}{C:List Expr}{kx:Nat}{pos:Pos}{z r q m l G F:Addr}(O N:SK)(D:EJ z r q m l G F):
 Turn P w K (.Tuple C kx pos) (Vg K O N G F) [z,r,q,m,l] z (T9 z r q m l G F O N) where
 mem:=by simp
 obj:=λi h st b c=>by
  obtain⟨Z,d,⟨a,R,f⟩,j,g⟩:=st;simp![Xh,Xi,YY]at c;rcases c with rfl|rfl|rfl|rfl|rfl
  . show⟨_,Z,λv e=>by cases e⟩
  . show⟨_,d,λv e=>by cases e⟩
  . show⟨_,f,λv e=>by cases e⟩
  . show f7 j
  . show f7 g
 keep:=λi h h' st k=>by
  obtain⟨Z,d,⟨a,R,f⟩,j,g⟩:=st;show⟨k z (by simp) _ Z,k r (by simp) _ d,⟨a,R,k q (by simp) _ f⟩,iq j (k m (by simp)),iq g (k l (by simp))⟩
 item:=by
  intro X hP hw hK hc i t s σ H E I Q st hg;subst hP hw hK;obtain⟨Z,d,⟨a,R,f⟩,j,g⟩:=st;obtain⟨xs,ys,x,y,L,J,ex,ey⟩:=hg;obtain⟨U,W,l1⟩:=eF I L;obtain⟨S,V,l2⟩:=eF I J;obtain⟨u,eu,ru⟩:=W.get ex;obtain⟨v,ev,rv⟩:=V.get ey;let B:=D.a1;let A:=D.a2;simp![Xh,ZY,Xi,Yj,Zt]at B A;obtain⟨⟨n1,n2,n3,n4⟩,⟨n5,n6,n7⟩,⟨n8,n9⟩,aS⟩:=D.n;let p:s.TypeIs (.ref z) "zip":=⟨_,Z,rfl⟩
  unfold pyNext;show WT (ZL (Ym (name:=Str.ofString "__next__") p Y9 (YR Y9 p aaL (He D (h_ O m G B.2.2.2.1 U.toArray) (h_ N l F A.2.2.2.2 S.toArray) Z d f ⟨j,l1⟩ ⟨g,l2⟩ (x:=u) (y:=v) (by simpa using eu) (by simpa using ev) λk Z2 ah j1 j2 pT aI M=>W5 ⟨_,rfl,?_⟩) (aaA _))));show abt (s:={s with heap:=k}) Z2 λk' Z3 n=>?_;let hT:s.heap.objs.size≠z:=YZ (W8 Z)
  let ao:∀b o,b∉[z,r,q,m,l]->s.heap.get? b=some o->k'.get? b=some o:=λb o c e=>by
   simp![Xh,ZY,Xi,Yj,Zt]at c;show n.extBut _ _ c.1 (M b o c.1 c.2.2.1 c.2.2.2.1 c.2.2.2.2 e)
  show⟨.ref s.heap.objs.size,upd H s.heap.objs.size (.tup [x,y]),Fd (s:=s) (tk:=s.toks) I Q ao (WX _) ?_,rfl,⟨s.heap.objs.size,x,y,I.aI.fresh (WX _),rfl,rfl,?_,?_⟩,?_,?_⟩
  . show⟨Xb rfl,[u,v],.cons ru (.cons rv .nil),?_⟩;show⟨_,n.extBut _ _ hT pT,rfl,_,rfl⟩
  . intro aD Y;rw[nu I Y L];show ex
  . intro au Y;rw[nu I Y J];show ey
  . show⟨Z3,n.extBut _ _ n1 (M _ _ n1 n5 n6 n7 d),⟨_,_,n.extBut _ _ n2 ah⟩,iq j1.1 λo e=>n.extBut _ _ n3 e,iq j2.1 λo e=>n.extBut _ _ n4 e⟩
  . intro b c
    let:b≠s.heap.objs.size:=by
     obtain⟨o,e,_⟩:∃o,s.heap.get? b=some o/\True:=by
      simp![Xh,Xi,YY]at c;rcases c with rfl|rfl|rfl|rfl|rfl
      . show⟨_,Z,trivial⟩
      . show⟨_,d,trivial⟩
      . show⟨_,f,trivial⟩
      . obtain⟨o,e,_⟩:=f7 j;show⟨o,e,trivial⟩
      . obtain⟨o,e,_⟩:=f7 g;show⟨o,e,trivial⟩
     show Xn (W8 e)
    rw[aB this];show(Q b c).1
 done:=by
  intro X hP hw hK hc i t s σ H E I Q st hg;subst hP hw hK;obtain⟨Z,d,⟨a,R,f⟩,j,g⟩:=st;obtain⟨xs,ys,L,J,he⟩:=hg;obtain⟨U,W,l1⟩:=eF I L;obtain⟨S,V,l2⟩:=eF I J;let e1:=W.length;let e2:=V.length;let B:=D.a1;let A:=D.a2;simp![Xh,ZY,Xi,Yj,Zt]at B A;let p:s.TypeIs (.ref z) "zip":=⟨_,Z,rfl⟩
  unfold pyNext;show WT (ZL (Ym (name:=Str.ofString "__next__") p Y9 (YR Y9 p aaL (KC (I.ok.hd hc) D (h_ O m G B.2.2.2.1 U.toArray) (h_ N l F A.2.2.2.2 S.toArray) Z d f ⟨j,l1⟩ ⟨g,l2⟩ ?_ λk e M hx=>?_) (aaA _))))
  . rcases he with h|h
    . left;simp;lia
    . right;simp;lia
  . obtain⟨o,ho,ar⟩:=hx;show WT (ZF (T:="StopIteration") (b:=true) ⟨o,ho,ar⟩ abT ?_);show W5 ⟨rfl,E9 (s:=s) (tk:=s.toks) I Q λb o c e=>?_⟩;simp![Xh,ZY,Xi,Yj,Zt]at c;show M b o c.1 c.2.2.1 c.2.2.2.1 c.2.2.2.2 e
 self:=λ_ _ _ _ _ st h=>aaM st.1 h
abbrev Ba(h:Heap)(k1:SK)(a1:Addr):Heap:=h.push (oM k1 a1)
abbrev zJ(h:Heap)(k1 k2:SK)(a1 a2:Addr):Heap:=(Ba h k1 a1).push (oM k2 a2)
abbrev MW(h:Heap)(k1 k2:SK)(a1 a2:Addr):Heap:=(zJ h k1 k2 a1 a2).push {cls:= .type "tuple",data:= .seq #[.ref h.objs.size,.ref (Ba h k1 a1).objs.size]}
abbrev Np(h:Heap)(k1 k2:SK)(a1 a2:Addr):Heap:=(MW h k1 k2 a1 a2).push {cls:= .type "tuple",data:= .seq #[.none,.none]}
abbrev Ea(h:Heap)(k1 k2:SK)(a1 a2:Addr):Heap:=(Np h k1 k2 a1 a2).push {cls:= .type "zip",data:= .fields #[.none,.bool false,.bool false,.ref (zJ h k1 k2 a1 a2).objs.size,.ref (MW h k1 k2 a1 a2).objs.size]}
def J5(b e:SK)(a c:Addr)(us vs:Array Value):Meets (Builtin.«zip.__new__» ⟨[.type "zip",.ref a,.ref c],[]⟩) (λ_ R s=>gv b s.heap a us/\gv e s.heap c vs/\
 R (.ok (.ret (.ref (Np s.heap b e a c).objs.size))) {s with heap:=Ea s.heap b e a c}):=
 .of_wp λP w A R s h=>by
  obtain⟨j,g,d,tk,f⟩:=s;obtain⟨l,k,h⟩:=h;let i:=sub_zip;let m:gv b (Shared.heap ⟨j,g,d,tk,f⟩) a us:=l;let L2:gv e (Shared.heap ⟨j.push (oM b a),g,d,tk,f⟩) c vs:=gv.push k _
  wp_walk using rM m,rM L2
  show⟨_,rfl,h⟩
def LL{s:Shared}{b e:Addr}(y:gv a s.heap b us)(v:gv d s.heap e vs)
 (q:∀g n,n=s.heap.objs.size->IsZip g (n+4) (n+2) (n+3) .none->IsPair g (n+2) (.ref n) (.ref (n+1))->IsPair g (n+3) .none .none->kX a n b 0 g->kX d (n+1) e 0 g->(∀c o,s.heap.get? c=some o->g.get? c=some o)->Q (.ref (n+4)) {s with heap:=g}):
 wpAny (model P w) A (call (.type "zip") [.ref b,.ref e]) Q E s:=by
 show callType_new F.called_zip (by decide) (F.typeCall_zip_2 _ _) (F.newCall_zip_2 _ _) (λt=>F.args_object_init_3 t _ _) F.entry_zip_new (J5 a d b e us vs) ⟨y,v,?_⟩;let j:(Ba s.heap a b).objs.size=s.heap.objs.size+1:=XJ ..;let i:(zJ s.heap a d b e).objs.size=s.heap.objs.size+2:=by rw[XJ,j]
 let f:(MW s.heap a d b e).objs.size=s.heap.objs.size+3:=by rw[XJ,i]
 let l:(Np s.heap a d b e).objs.size=s.heap.objs.size+4:=by rw[XJ,f]
 let k:(Ea s.heap a d b e).get? (Np s.heap a d b e).objs.size=some _:=Xe _ rfl;let m:(Ea s.heap a d b e).get? (MW s.heap a d b e).objs.size=some _:=WU _ (Xe _ rfl);let p:(Ea s.heap a d b e).get? (zJ s.heap a d b e).objs.size=some _:=WU _ (WU _ (Xe _ rfl));let r:(Ea s.heap a d b e).get? (Ba s.heap a b).objs.size=some (oM d e):=WU _ (WU _ (WU _ (Xe _ (by cases d<;>rfl))));let u:(Ea s.heap a d b e).get? s.heap.objs.size=some (oM a b):=WU _ (WU _ (WU _ (WU _ (Xe _ (by cases a<;>rfl)))));change _/\_;rw[i,f,l]at k;rw[j,i]at p;rw[f]at m;rw[j]at r;rw[l];show⟨⟨_,k,rfl⟩,q _ _ rfl k p m (qb (h:=s.heap) u) (qb (h:=s.heap) r) λc o x=>WU _ (WU _ (WU _ (WU _ (WU _ x))))⟩
def Ct:D->SK
 | .tup _=> .t
 |_=> .l
def yU(k:SK)(G:Hp)(a:Addr)(vs:List V):Prop:=match k with
 | .l=>Rd G a (.lst vs)
 | .t=>G a=some (.tup vs)
def dS{K:PySem.W.Frag}{k:SK}{G F H:Hp}(P:cu G F H){a:Addr}{vs:List V}(h:yU k G a vs):jv k K H a vs:=by
 cases k
 . show .inl (fi P h)
 . show iC.of (P.get h)
def gd{α:List (Option Addr)}{H:Hp}{st:af}{d:D}{v:V}{xs:List D}(S:aY α st H)(r:Rep α H d v)(e:items? st d=some xs):∃p vs,v= .ref p/\aG α H xs vs/\yU (Ct d) H p vs:=by
 cases d<;>try(cases e;done)
 . unfold items? at e;simp only at e;split at e
   . rename_i g q;cases e;obtain⟨a,f,vs,c,b⟩:=S.ie q;show⟨a,vs,cZ f r,b,Rd.of c⟩
   . cases e
 . cases e;unfold Rep at r;obtain⟨a,vs,rfl,_,c,b⟩:=r;show⟨a,vs,rfl,b,c⟩
 . cases e;unfold Rep at r;obtain⟨a,vs,rfl,_,c,b⟩:=r;show⟨a,vs,rfl,b,c⟩
def eJ(xs ys:List D):List D:=(xs.zip ys).map λp=> .tup [p.1,p.2]
def jd{xs ys:List D}:(eJ xs ys).length=min xs.length ys.length:=by unfold eJ;simp
def vo{xs ys:List D}{n:Nat}{d:D}(e:(eJ xs ys)[n]?=some d):∃x y,xs[n]?=some x/\ys[n]?=some y/\d= .tup [x,y]:=by
 unfold eJ at e;rw[W_]at e;cases q:(xs.zip ys)[n]? with
 |none=>rw[q]at e;cases e
 |some p=>
  rw[q]at e;cases e;rw[aap]at q;show⟨p.1,p.2,q.1,q.2,rfl⟩
def Qd{K:PySem.W.Frag}{t r:SK}{A z:Addr}{α:List (Option Addr)}{G:Hp}{ok:af->Prop}{xs ys:List D}
 (h:∀f b a,Step α G f b->aY f a b->ok a->∃vs g,yU t b A vs/\yU r b z g/\aG f b xs vs/\aG f b ys g):sW (Vg K t r A z) α G ok (eJ xs ys) where
 stop:=λn f b C B a s P S o k=>by
  obtain⟨vs,g,p,m,j,i⟩:=h f b a s S o;rw[jd]at k;show⟨vs,g,dS P p,dS P m,?_⟩;let:=j.length;let:=i.length;lia
 go:=λn d f b C B a s P S o k=>by
  obtain⟨vs,g,p,m,j,i⟩:=h f b a s S o;obtain⟨x,y,L,J,rfl⟩:=vo k;obtain⟨v,ev,_⟩:=j.get L;obtain⟨u,q,_⟩:=i.get J;show⟨vs,g,v,u,dS P p,dS P m,ev,q⟩
 nQ:=λn d f b C B a x O s P S o k y=>by
  obtain⟨vs,g,p,m,j,i⟩:=h f b a s S o;obtain⟨c,e,N,M,rfl⟩:=vo k;obtain⟨T,v,u,w,rfl,rfl,F,E⟩:=y;obtain⟨Q,ev,H⟩:=j.get N;obtain⟨R,q,I⟩:=i.get M;rw[F vs (dS P p)]at ev;rw[E g (dS P m)]at q;cases ev;cases q;let l:=(P.none w).1;show⟨upd b T (.tup [v,u]),Step.laid l,P.laid w,S.laid l,?_⟩;unfold Rep;show⟨T,[v,u],rfl,S.jW l,a9,?_⟩;unfold aG;show⟨v,[u],rfl,H.step (Step.laid l),?_⟩;unfold aG;show⟨u,[],rfl,I.step (Step.laid l),by unfold aG;rfl⟩
def Lp(e:List D)(a:af)(K:List D->(af->Prop)->af->Prop):Prop:=match e with
 | [x,y]=>(match items? a x,items? a y with
   |some d,some c=>K (eJ d c) (λb=>items? b x=some d/\items? b y=some c) a
   |_,_=>False)
 |_=>False
@[irreducible] def wD:List D->af->(List D->(af->Prop)->af->Prop)->Prop:=Lp
def kc(t:DA):DI:=λσ st K=>t σ st λb a=>wD b a K
def Pn{n c b:Nat}(f:c<n)(e:b<n):EJ (n+4) (n+2) (n+3) n (n+1) c b:=by
 let g:([n+4,n+2,n+3,n,n+1]:List Nat).Nodup:=by
  simp![Zn,Xh,ZY,Xi,Yj,Zt,List.nodup_nil];lia
 let d:∀a:Nat,a<n->a∉([n+4,n+2,n+3,n,n+1]:List Nat):=λa h=>by
  simp![Xh,ZY,Xi,Yj,Zt];lia
 show⟨g,d c f,d b e⟩
def R6{X:Cx}(hg:Gl X "zip")(hm:X.mg "zip"=none)(ha:PA X [a,b] (LA t))(hs:starEach [a,b] X.env=[(false,eval a X.env),(false,eval b X.env)])(l:starEach [b] X.env=[(false,eval b X.env)]):
 PI X (.Tuple r kx f) (.Call (.Name "zip" p) [a,b] [] pos) (LI (kc t)):=by
 intro j s σ H R I h;obtain⟨α,σd,st,K,G,F,P,RS,S,t,k⟩:=h;show Call_ (jL I hg hm boot_zip (Yv (bQ (ha pos j s σ H (λC H1=>∃u e d c,Step α G e d/\cu d F H1/\aY e c d/\aG e d u C/\wD u c K) I ⟨α,σd,st,_,G,F,P,RS,S,t,λu c q e d H1 C i w v J=>⟨u,e,d,c,i,w,v,J,q⟩⟩) λus i ⟨C,H1,z,rv,u,e,d,c,w1,w,v,J,q⟩=>?_) (by rw[hs,l]) (by rw[l];rfl)));unfold wD Lp at q;split at q
 . rename_i x y;split at q
   . rename_i xs ys ex ey;obtain⟨v1,v2,rfl,T,Q⟩:=mX J rfl;obtain⟨p1,ao,rfl,g1,c1⟩:=gd v T ex;obtain⟨p2,ah,rfl,g2,c2⟩:=gd v Q ey;obtain⟨u1,u2,rfl,E,D⟩:=vals2 rv;cases E;cases D;obtain⟨Y,_,V⟩:=eF z (dS w c1);obtain⟨W,_,U⟩:=eF z (dS w c2);show LL V U λg n L Z pI pO i1 i2 kp=>?_;obtain⟨o1,N⟩:=V.some;obtain⟨o2,M⟩:=U.some;show aaM (s:={i with heap:=g}) Z ?_;show⟨n+4,[n+4,n+2,n+3,n,n+1],_,_,H1,rfl,z.kept (t':=i.toks) kp,Lv (Ct x) (Ct y) (Pn (by rw[L];show W8 N) (by rw[L];show W8 M)),⟨Z,pI,⟨_,_,pO⟩,i1,i2⟩,λb hb=>?_,?_⟩
     . have m:i.heap.objs.size<=b:=by
        simp![Xh,Xi,YY]at hb;rcases hb with rfl|rfl|rfl|rfl|rfl<;>(rw[<-L];first|show WX _|show abA _ _)
       show z.sv m (z.aI.fresh m)
     . show k _ _ c q _ e d H1 w1 w v (Qd λα' G' ar O S' o=>?_);obtain⟨aD,B,e1,f1,d1⟩:=gd S' (T.step O) o.1;obtain⟨au,A,e2,f2,d2⟩:=gd S' (Q.step O) o.2;cases e1;cases e2;show⟨B,A,d1,d2,f1,f2⟩
   . show q.elim
 . show q.elim
def jG{st:af}{x y:D}{xs ys:List D}{K:List D->(af->Prop)->af->Prop}(ex:items? st x=some xs)(d:items? st y=some ys)(k:∀ok:af->Prop,(∀a,items? a x=some xs->items? a y=some ys->ok a)->K (eJ xs ys) ok st):wD [x,y] st K:=by
 unfold wD Lp;simp![ex,d];show k _ λa c b=>⟨c,b⟩
def Az{X:Cx}{a b:Expr}{e:List Expr}{h:Nat}{c p pos:Pos}{g:DA}(k:Gl X "zip")(j:X.mg "zip"=none)(f:JA X [a,b] g)(i:notStar a=true:=by rfl)(d:notStar b=true:=by rfl):JI X (.Tuple e h c) (.Call (.Name "zip" p) [a,b] [] pos) (kc g):=by
 unfold JI;unfold JA at f;show R6 k j f (by rw[cz i,cz d];rfl) (cz d)
def C9(f:Nat->Int):∀n,preSum f (n+1)=f 0+preSum (λi=>f (i+1)) n
 |0=>by change preSum f 0+f 0=f 0+0;change(0:Int)+f 0=f 0+0;lia
 |n+1=>by
  let h:=C9 f n;change preSum f (n+1)+f (n+1)=f 0+(preSum (λi=>f (i+1)) n+f (n+1));rw[h];lia
def D8:∀ns:List Int,preSum (λi=>ns.getD i 0) ns.length=ns.sum
 | []=>rfl
 |n::ns=>by
  rw[Xw,C9];let:(λi=>(n::ns).getD (i+1) 0)=λi=>ns.getD i 0:=by funext i;simp
  rw[this,D8 ns,List.sum_cons];rfl
section
variable {X:Cx}
def Ag:d8:=λc st K=>match c with| [.lst a]=>(match lY a with|some b=>K (.int b.sum) st|none=>False)|_=>False
def l9:∀ {ns:List Int} {us:List Value},Vals (ns.map V.int) us->∀(i:Nat) (u:Value),us[i]?=some u->∃t,u=Value.int (ns.getD i 0) t
 | [],_,.nil,i,u,e=>by simp at e
 |n::ns,_,.cons h t,0,u,e=>by
  obtain⟨tk,rfl⟩:=h;simp at e;show⟨tk,by rw[<-e];rfl⟩
 |n::ns,_,.cons h t,i+1,u,e=>by
  obtain⟨tk,q⟩:=l9 t i u (by simpa using e);show⟨tk,by rw[q];simp⟩
def Up(N:X.calm=true):bH X (.builtin "sum") (fy Ag):=λB s σ H W Z Q I E ⟨α,ds,st,K,G,F',P,r,S,q,k⟩=>by
 unfold Ag at q;split at q
 . rename_i V;split at q
   . rename_i f e;obtain⟨v,rfl,y⟩:=gI r rfl;unfold Rep at y;obtain⟨a,Y,rfl,na,R,O⟩:=y;obtain⟨u,rfl,D⟩:=vals1 E;cases D;let L:=rE O e;subst L;obtain⟨z,m,n,C,M,l⟩:=Inv.rY I (fi P R);let p:s.heap.IsList a m.toArray:=⟨_,l,rfl,n,rfl⟩
     show call_sum_walkAnyB (Zw p ?_);let x:a≠s.heap.objs.size:=Xn (W8 l);show⟨s.heap.objs.size,_,_,_,_,_,_,λi=>f.getD i 0,rfl,(Walks.list (A:=X.A.in1) (I.ok.hd N) _ a x m.toArray).toS,⟨⟨_,Xe _ rfl,rfl,rfl⟩,⟨_,WU _ l,rfl,n,rfl⟩⟩,?_,?_,?_⟩
     . intro b j;rw[XJ];simp![Xh,Xi,YY]at j;rcases j with rfl|rfl
       . show XC _
       . show XF (W8 l)
     . intro i w J;obtain⟨t,e⟩:=l9 C i w (by simpa using J);show .inl ⟨t,e⟩
     . intro c t' h
       let F:∀b o,s.heap.get? b=some o->c.heap.get? b=some o:=λb o q=>h.heap b o (by
        intro j;let:b=s.heap.objs.size:=by simpa using j
        show absurd (W8 q) (by rw[this];show XU _)) (WU _ q)
       let T:c= {s with heap:=c.heap,toks:=c.toks}:=by
        let g:=h.gens;let d:=h.drawn;let o:=h.os;cases c;cases s
        simp_all
       let U:preSum (λi=>f.getD i 0) m.toArray.size=f.sum:=by
        let:m.toArray.size=f.length:=by rw[W6,<-M,W2]
        rw[this];show D8 f
       rw[U,T];show⟨.int f.sum,H,I.kept (t':=c.toks) F,⟨t',rfl⟩,k.here P q S (by unfold Rep;rfl)⟩
   . show q.elim
 . show q.elim
@[irreducible] def xY:d8:=Ag
def ML(a:X.calm=true):bH X (.builtin "sum") (fy xY):=by unfold xY;show Up a
end
def ints_map:∀ns:List Int,lY (ns.map D.int)=some ns
 | []=>rfl
 |n::ns=>by simp[lY,ints_map ns]
def P8{st:af}{K:DK}{xs:List D}{ns:List Int}(h:lY xs=some ns)(k:K (.int ns.sum) st):xY [.lst xs] st K:=by unfold xY Ag;simp![h];show k
section
variable {X:Cx}{pos:Pos}
def Gy{d e f:D}(r:aG α H a xs)(q:a=[d,e,f]):∃v u t,xs=[v,u,t]/\Rep α H d v/\Rep α H e u/\Rep α H f t:=by
 subst q;unfold aG at r;obtain⟨v,q,rfl,h,g⟩:=r;obtain⟨u,t,rfl,c,b⟩:=mX g rfl;show⟨v,u,t,rfl,h,c,b⟩
def tP(i j k:Nat):fu:=λd σ=>match d with| .tup [x,y,z]=>some (((σ.set i (some x)).set j (some y)).set k (some z))|_=>none
def Ly{i j k:Nat}(h:PG X b (LH X.K 3 (t6 (jO i) (t6 (jO j) (t6 (jO k) KN))))):PG X b (LG (tP i j k)):=PG.imp h λv σ H Q ⟨α,t,st,d,K,G,F,P,R,S,r,⟨u,e,q⟩,o⟩=>by
 unfold tP at e;split at e
 . rename_i x y z;cases e;unfold Rep at r;obtain⟨a,w,rfl,na,s,p⟩:=r;obtain⟨g,f,c,rfl,n,m,l⟩:=Gy p rfl;show⟨a,_,rfl,.of (P.get s),rfl,g,_,rfl,f,_,rfl,c,_,rfl,rfl,o.here P q (((R.set i n).set j m).set k l) S⟩
 . cases e
def TN{i j k n:Nat}{x y z:Str}{d c b:Pos}(q:X.calm=true)(a:X.N.Nodup)(g:Loc X.env.scope x:=by first|show Or.inl rfl|show Or.inr rfl)(p:X.fn x=true\/X.env.scope.names.lookup x=some .local:=by first|show .inl rfl|show .inr rfl)(f:Loc X.env.scope y:=by first|show Or.inl rfl|show Or.inr rfl)(o:X.fn y=true\/X.env.scope.names.lookup y=some .local:=by first|show .inl rfl|show .inr rfl)(e:Loc X.env.scope z:=by first|show Or.inl rfl|show Or.inr rfl)(m:X.fn z=true\/X.env.scope.names.lookup z=some .local:=by first|show .inl rfl|show .inr rfl)
 (hi:X.N[i]?=some x:=by rfl) (l:X.N[j]?=some y:=by rfl) (h:X.N[k]?=some z:=by rfl):JG X (.Tuple [.Name x d,.Name y c,.Name z b] n pos) (tP i j k):=by
 unfold JG;show Ly (Jn q (ox (nB a hi g p) (ox (nB a l f o) (ox (nB a h e m) EK))))
end
end L3
namespace L3
open PySem L2 PySem.SeqAt
open PySem.Spec hiding items?
open PyProof.Rows hiding St
section
variable {X:Cx}{pins:List (Addr×Obj)}{σ:L2.St}{H:Hp}{s:Shared}{α:List (Option Addr)}
def Er{d e:D}(h:zF d=true)(g:zF e=true)(f:Rep α H d x)(c:Rep α H e y)(b:RelV x u)(a:RelV y v):RcNeAt A s u v (!cO d e):=by
 cases d<;>cases e<;>try(first|(cases h;done)|(cases g;done))
 all_goals(unfold Rep at f c;subst f c)
 all_goals(first|(obtain⟨t,rfl⟩:=b;obtain⟨i,rfl⟩:=a)|(obtain⟨t,rfl⟩:=b;cases a)|(cases b;obtain⟨t,rfl⟩:=a)|(cases b;cases a))
 all_goals unfold cO
 . show RcNeAt.none_none
 . show RcNeAt.none_bool _
 . show RcNeAt.none_int _ _
 . show RcNeAt.none_str _ _
 . show RcNeAt.bool_none _
 . show RcNeAt.bool_bool _ _
 . show RcNeAt.bool_int _ _ _
 . show RcNeAt.bool_str _ _ _
 . show RcNeAt.int_none _ _
 . show RcNeAt.int_bool _ _ _
 . show RcNeAt.int_int _ _ _ _
 . show RcNeAt.int_str _ _ _ _
 . show RcNeAt.str_none _ _
 . show RcNeAt.str_bool _ _ _
 . show RcNeAt.str_int _ _ _ _
 . show RcNeAt.str_str _ _ _ _
def y9(I:Inv X pins σ H s){A:Around}{e:D}(i:zF e=true)(h:Rep α H (.lst xs) x)(f:Rep α H e y)(g:RelV x u)(d:RelV y v)(b:A.units<cLine):
 RcNeAt A s u v (!cO (.lst xs) e)/\RcNeAt A s v u (!cO e (.lst xs)):=by
 obtain⟨a,j,k,rfl,_,_,c⟩:=lst_is I h g;cases e<;>try(cases i;done)
 all_goals(unfold Rep at f;subst f)
 all_goals(first|(obtain⟨t,rfl⟩:=d)|(cases d))
 all_goals unfold cO
 . show⟨RcNeAt.list_none c b,RcNeAt.none_list c b⟩
 . show⟨RcNeAt.list_bool _ c b,RcNeAt.bool_list _ c b⟩
 . show⟨RcNeAt.list_int _ _ c b,RcNeAt.int_list _ _ c b⟩
 . show⟨RcNeAt.list_str _ _ c b,RcNeAt.str_list _ _ c b⟩
def zf(I:Inv X pins σ H s){A:Around}{e:D}(i:zF e=true)(h:Rep α H (.tup xs) x)(f:Rep α H e y)(g:RelV x u)(d:RelV y v)(b:A.units<cLine):
 RcNeAt A s u v (!cO (.tup xs) e)/\RcNeAt A s v u (!cO e (.tup xs)):=by
 obtain⟨a,j,k,rfl,_,_,c⟩:=tup_is I h g;cases e<;>try(cases i;done)
 all_goals(unfold Rep at f;subst f)
 all_goals(first|(obtain⟨t,rfl⟩:=d)|(cases d))
 all_goals unfold cO
 . show⟨RcNeAt.tuple_none c b,RcNeAt.none_tuple c b⟩
 . show⟨RcNeAt.tuple_bool _ c b,RcNeAt.bool_tuple _ c b⟩
 . show⟨RcNeAt.tuple_int _ _ c b,RcNeAt.int_tuple _ _ c b⟩
 . show⟨RcNeAt.tuple_str _ _ c b,RcNeAt.str_tuple _ _ c b⟩
def S7(I:Inv X pins σ H s)(n:Nat)(A:Around)(d e:D)(x y:V)(u v:Value)(J:pl n d=true)(t:pl n e=true)(l:Rep α H d x)(k:Rep α H e y)(i:RelV x u)(h:RelV y v)(hu:A.units+n<cLine):RcNeAt A s u v (!cO d e):=by
 cases n with
 |zero=>
  show Er ?_ ?_ l k i h
  . cases d<;>first|rfl|(cases J)
  . cases e<;>first|rfl|(cases t)
 |succ n=>
  have c:A.units<cLine:=by lia
  let K:A.in1.units+n<cLine:=by rw[Around.in1_units];lia
  cases d<;>try(cases J;done)
  case lst xs=>
   cases e<;>try(cases t;done)
   case lst ys=>
    obtain⟨a,M,w,rfl,E,B,r⟩:=lst_is I l i;obtain⟨b,L,g,rfl,C,z,q⟩:=lst_is I k h;let Z:=E.length;let Y:=B.length;let W:=C.length;let U:=z.length;unfold cO;by_cases f:xs.length=ys.length
    . rw[nD f];let o:w.toArray.size=g.toArray.size:=by simp![W6];lia
      let Q:xs.length=w.toArray.size:=by simp![W6];lia
      rw[Q];show RcNeAt.lists r q o c λj T S=>?_;obtain⟨p,_,O,N⟩:=ky E B j (by simpa using T);obtain⟨P,_,G,F⟩:=ky C z j (by simpa using S);show(GB I n A.in1 _ _ p P _ _ (ja (by unfold pl at J;show J) j) (ja (by unfold pl at t;show t) j) O G (by simpa using N) (by simpa using F) K).2
    . rw[nE f];show RcNeAt.lists_lengths r q (by simp![W6,aaX,ne_eq];lia) c
   case tup ys=>
    obtain⟨a,M,w,rfl,E,B,r⟩:=lst_is I l i;obtain⟨b,L,g,rfl,C,z,q⟩:=tup_is I k h;unfold cO;show RcNeAt.list_tuple r q c
   all_goals show(y9 I rfl l k i h c).1
  case tup xs=>
   cases e<;>try(cases t;done)
   case tup ys=>
    obtain⟨a,M,w,rfl,E,B,r⟩:=tup_is I l i;obtain⟨b,L,g,rfl,C,z,q⟩:=tup_is I k h;let Z:=E.length;let Y:=B.length;let W:=C.length;let U:=z.length;unfold cO
    let m:=RcNeAt.tuples (e:=λj=>cO (xs.getD j .aD) (ys.getD j .aD)) r q c λj T S=>by
     obtain⟨p,_,O,N⟩:=ky E B j (by simpa using T);obtain⟨P,_,G,F⟩:=ky C z j (by simpa using S);show(GB I n A.in1 _ _ p P _ _ (ja (by unfold pl at J;show J) j) (ja (by unfold pl at t;show t) j) O G (by simpa using N) (by simpa using F) K).2
    by_cases f:xs.length=ys.length
    . rw[nD f];let o:w.toArray.size=g.toArray.size:=by simp![W6];lia
      let Q:xs.length=w.toArray.size:=by simp![W6];lia
      rw[o,ab7,aaJ,Bool.and_true,<-o,<-Q]at m;show m
    . rw[nE f];let R:(w.toArray.size==g.toArray.size)=false:=by simp![W6,Ze,ne_eq];lia
      rw[R,abR]at m;show m
   case lst ys=>
    obtain⟨a,M,w,rfl,E,B,r⟩:=tup_is I l i;obtain⟨b,L,g,rfl,C,z,q⟩:=lst_is I k h;unfold cO;show RcNeAt.tuple_list r q c
   all_goals show(zf I rfl l k i h c).1
  all_goals
   cases e<;>try(cases t;done)
   case lst ys=>show(y9 I rfl k l h i c).2
   case tup ys=>show(zf I rfl k l h i c).2
   all_goals show Er rfl rfl l k i h
def Q5:cV:=λx y st K=>pl 40 x=true/\pl 40 y=true/\K (.bl (!cO x y)) st
def T7{k:Nat}(g:cK k X.A):bW X (compareOp .NotEq) (LR Q5):=λpins s σ H x y v u Q I b a ⟨α,d,e,st,K,G,i,P,f,c,S,q,k⟩=>by
 let h:=g.units;show S7 I 40 X.A d e x y v u q.1 q.2.1 (f.mono P.same) (c.mono P.same) b a (by lia) _ _ _ _ ⟨.bl (!cO d e),H,I,rfl,k.here P q.2.2 S (by unfold Rep;rfl)⟩
@[irreducible] def ve:cV:=Q5
def Ug{k:Nat}(a:cK k X.A):bW X (compareOp .NotEq) (LR ve):=by unfold ve;show T7 a
end
def RL{st:af}{K:DK}{d e:D}(b:pl 40 d=true)(a:pl 40 e=true)(k:K (.bl (!cO d e)) st):ve d e st K:=by unfold ve;show⟨b,a,k⟩
def Ls{st:af}{K:DK}{d:D}(h:pl 40 d=true)(k:K (.bl false) st):ve d d st K:=RL h h (by rw[n_ 40 d h];show k)
def sH{st:af}{n:Nat}{xs:List D}(h:items? st (.ref n)=some xs):st[n]?=some (.lst xs):=by
 unfold items? at h;simp only at h;split at h
 . rename_i q;cases h;show q
 . cases h
def xZ{st:af}{d:D}{xs:List D}{K:List D->(af->Prop)->af->Prop}(h:items? st d=some xs)(k:∀ok:af->Prop,(∀a,items? a d=some xs->ok a)->K xs ok st):o8 d st K:=by
 cases d with
 |lst b=>cases h;show Pg (k _ λ_ _=>trivial)
 |tup b=>cases h;show fj (k _ λ_ _=>trivial)
 |ref n=>
  have e:=sH h;unfold o8 yr;simp![e];show k _ λa c=>sH c
 |_=>cases h
def qM{env:Env}:∀(l:List (Str×NameKind)) (x:Str),(l.lookup x=some .cell\/l.lookup x=some .free)->
 ((l.map λ(n,k)=>if(k== .free&&env.scope.kind== .function&&env.kindOf n==some .cell)then(n,.cell)else(n,k)).lookup x=some .cell\/(l.map λ(n,k)=>if(k== .free&&env.scope.kind== .function&&env.kindOf n==some .cell)then(n,.cell)else(n,k)).lookup x=some .free)
 | [],x,h=>by simp at h
 |(n,k)::l,x,h=>by
  rw[XH];dsimp only;by_cases c:x=n
  . subst c;rw[aaQ]at h;split
    . rw[aaQ];show .inl rfl
    . rw[aaQ];show h
  . have a:(x==n)=false:=by simpa using c
    let d:List.lookup x ((n,k)::l)=List.lookup x l:=by rw[XN,a]
    rw[d]at h;let b:=qM (env:=env) l x h;split
    . rw[XN,a];show b
    . rw[XN,a];show b
def cD.Nu(h:oh a d scope Nc fr=true):cD (cB q a d C s H ex) scope Nc fr:=by
 unfold oh at h;simp![Yc]at h;obtain⟨⟨⟨⟨⟨o,n⟩,m⟩,l⟩,k⟩,g⟩:=h;show⟨by simpa using o,λx b c=>?_,λx b c=>?_,λx b c=>?_,by simpa using k,λi j x p e=>?_⟩
 . have:=XA.mp n x b;rw[c]at this;simpa using this
 . have:=XA.mp m x b;rw[c]at this;simpa using this
 . have:=XA.mp l x b;rw[c]at this;let z:a.names.lookup x.1=some .cell\/a.names.lookup x.1=some .free:=by simpa using this
   show qM _ _ z
 . have f:i<fr.length:=(WV.mp e).1;let:=XA.mp g i (XI.mpr f);rw[p,e]at this;simp![Yc,aao,Y7]at this;show⟨this.1.1,this.1.2,qM _ _ this.2⟩
end L3
namespace L3
open PySem L2
open PySem.Spec hiding items?
open PyProof.Rows hiding St
def Hj(h:d∈cQ 0 n):∃i:Nat,i<n/\d= .int (i:Int):=by
 unfold cQ at h;obtain⟨i,a,rfl⟩:=XB.mp h;rw[XI]at a;show⟨i,a,by rw[aau]⟩
def IY{f:Nat->D}(n:Nat):(cQ 0 n).map (λd=>match d with| .int i=>f i.toNat|_=> .aD)=(List.range n).map f:=by
 unfold cQ;rw[Xy];show Xz λi _=>?_;change f ((0:Int)+(i:Int)).toNat=f i;let:((0:Int)+(i:Int)).toNat=i:=by lia
 rw[this]
def kR{e:fu}{h:DE}{b:bX}{st:af}{K:List D->af->Prop}(f:Nat->D)(n:Nat)(j:∀i:Nat,i<n->∀a,a (f i) st->∃c,e (.int (i:Int)) b=some c/\h c st a)(k:K ((List.range n).map f) st):dc e bI h (λ_=>True) b (cQ 0 n) [] st K:=by
 show comp_map (g:=λd=>match d with| .int i=>f i.toNat|_=> .aD) trivial _ (λd m a q=>?_) (by rw[IY];show k);obtain⟨i,l,rfl⟩:=Hj m;show j i l a q
def iY{g:fu}{a:DS}{E:jl}(n:Nat)(I:Nat->bX->af->Prop)(h:∀σ st,I n σ st->E.nx σ st)
 (e:∀(j:Nat) σ st (rest:List D),j<n->I j σ st->(∀k b,I (j+1) k b->i4 g a (λ_=>True) E rest k b)->∃p,g (.int (j:Int)) σ=some p/\a {E with nx:=i4 g a (λ_=>True) E rest,ct:=i4 g a (λ_=>True) E rest,bk:=E.nx} p st)
 {σ:bX} {st:af} (s:I 0 σ st):i4 g a (λ_=>True) E (cQ 0 n) σ st:=by
 show fg (λrest σ st=>∃j:Nat,j<=n/\rest=(List.range (n-j)).map (λi=>D.int (((j+i:Nat):Int)))/\I j σ st) ?_ ?_ _ _ _ ⟨0,Xq _,by unfold cQ;simp,s⟩
 . rintro σ st ⟨j,r,c,o⟩
   let:n-j=0:=by
    cases q:n-j with
    |zero=>rfl
    |succ m=>rw[q,Yp]at c;cases c
   let l:j=n:=by lia
   subst l;show⟨trivial,h σ st o⟩
 . rintro d rest σ st ⟨j,r,c,o⟩ next
   cases q:n-j with
   |zero=>rw[q]at c;cases c
   |succ m=>
    rw[q,Yp,XH,Xy]at c;simp![Yy]at c;obtain⟨rfl,f⟩:=c;show⟨trivial,e j σ st rest (by lia) o λk b t=>next k b ⟨j+1,by lia,?_,t⟩⟩;let:n-(j+1)=m:=by lia
    rw[this,f];show Xz λi _=>?_;change D.int (((j+(i+1):Nat):Int))=D.int (((j+1+i:Nat):Int));congr 2;lia
section
variable {X:Cx}
def yn(r:RelV x v)(h:Q (.bool (!(v== .bool b))) s):wpAny M A (compareOp .IsNot v (.bool b)) Q E s:=by
 cases x
 case bl c=>
  cases r;cases c<;>cases b<;>show W5 h
 all_goals first
  |(cases r;show W5 h)
  |(obtain⟨t,rfl⟩:=r;show W5 h)
def Bz:cV:=λx y st K=>match y with| .aD=>live st x=true/\K (.bl (!Nm x)) st| .bl b=>live st x=true/\K (.bl (!DX x b)) st|_=>False
def Ll:bW X (compareOp .IsNot) (LR Bz):=λa s σ H x y v u Q I c g ⟨α,d,e,st,K,G,j,P,h,f,S,q,k⟩=>by
 cases e<;>try show q.elim
 . show Pp a s σ H x y v u Q I c g ⟨α,d,.aD,st,K,G,j,P,h,f,S,⟨q.1,?_⟩,k⟩;let i:=q.2;cases d<;>show i
 . rename_i b;unfold Rep at f;subst f;cases g;show yn c ?_;rw[Ei S q.1 h c];show⟨.bl (!DX d b),H,I,rfl,k.here P q.2 S (by unfold Rep;rfl)⟩
@[irreducible] def iW:cV:=Bz
def pQ:bW X (compareOp .IsNot) (LR iW):=by unfold iW;show Ll
end
section
variable {st:af}{K:DK}{d:D}{b:Bool}
def IV(h:live st d=true)(k:K (.bl (!Nm d)) st):iW d .aD st K:=by unfold iW;show⟨h,k⟩
def FG(h:live st d=true)(k:K (.bl (!DX d b)) st):iW d (.bl b) st K:=by unfold iW;show⟨h,k⟩
end
end L3
namespace L3
open PySem L2
open PySem.Spec hiding items?
open PyProof.Rows hiding St
open AutoSeq1 (wpAny_loadPart')
def NN{A:Around}(m:A.handled=none)(k:SK)(t a:Addr)(c:a≠t)(us:Array Value):Draws P w A t [t,a] us.size (λi v=>us[i]?=some v) (λn g=>kX k t a n g/\gv k g a us) where
 live:=λi h z=>((h_ (P:=P) (w:=w) k t a c us).lv i h z).1
 frame:=λi h r z l=>(h_ (P:=P) (w:=w) k t a c us).fr i h r z λb p o e=>l b (by rcases p with rfl|rfl<;>simp) o e
 item:=λi s Q E d z q=>(h_ (P:=P) (w:=w) k t a c us).nx i A s Q E us[i] z (by simp[d]) λg j f=>q _ g s.toks (by simp[d]) j f
 done:=λs Q E z q=>(h_ (P:=P) (w:=w) k t a c us).en us.size A s Q E m z (by simp) q
def qw(l:Addr)(items:Array Value)(n:Nat)(e:Option Addr)(j:Array (Option Value)):
 Meets (Builtin.«enumerate.__new__» ⟨[.type "enumerate",.ref l],[]⟩) (λ_ R s=>s.heap.get? l=some {cls:= .type "tuple",dict:=e,data:= .seq items n,slots:=j}/\
  R (.ok (.ret (.ref (s.heap.push {cls:= .type "tuple_iterator",data:= .fields #[.ref l,.int 0 0]}).objs.size)))
   {s with heap:=(s.heap.push {cls:= .type "tuple_iterator",data:= .fields #[.ref l,.int 0 0]}).push {cls:= .type "enumerate",data:= .fields #[.none,.bool false,.ref s.heap.objs.size,rawInt 0,.none,.none]}}):=
 .of_wp λf w A R s h=>by
  obtain⟨m,g,d,tk,k⟩:=s;obtain⟨a,h⟩:=h;let i:=sub_enumerate;let b:Heap.IsTuple (Shared.heap ⟨m,g,d,tk,k⟩) l items:=⟨_,a,rfl,n,rfl⟩
  wp_walk using wpAny_loadPart' a
  show wpAny_stack_any λst=>W5 ?_;split
  . rename_i c _ _ _ _ _;cases (c==Value.type "enumerate")
    . wp_walk using wpAny_loadPart' a,Zj b
      show⟨_,rfl,h⟩
    . wp_walk using wpAny_loadPart' a,Zj b
      show⟨_,rfl,h⟩
  . wp_walk using wpAny_loadPart' a,Zj b
    show⟨_,rfl,h⟩
def JL{s:Shared}{k:SK}(c:gv k s.heap a us)
 (q:∀g,IsEnum g (s.heap.objs.size+1) s.heap.objs.size 0 .none->kX k s.heap.objs.size a 0 g->(∀b o,s.heap.get? b=some o->g.get? b=some o)->Q (.ref (s.heap.objs.size+1)) {s with heap:=g}):
 wpAny (model P w) A (call (.type "enumerate") [.ref a]) Q E s:=by
 cases k
 . show call_enumerate_list c λg t r _ p=>q g t r p
 . obtain⟨⟨c,h,u,l⟩,m,f,n,e⟩:=c;replace f:c= .type "tuple":=f;replace e:u= .seq us n:=e;subst f e
   show callType_new F.called_enumerate (by decide) (F.typeCall_enumerate_1 _) (F.newCall_enumerate_1 _) (λd=>F.args_object_init_2 d _) F.entry_enumerate_new
    (qw a us n h l) ⟨m,?_⟩
   let i:(s.heap.push {cls:= .type "tuple_iterator",data:= .fields #[.ref a,.int 0 0]}).objs.size=s.heap.objs.size+1:=XJ ..;change _/\_;rw[i]
   let j:IsEnum ((s.heap.push {cls:= .type "tuple_iterator",data:= .fields #[.ref a,.int 0 0]}).push
    {cls:= .type "enumerate",data:= .fields #[.none,.bool false,.ref s.heap.objs.size,rawInt 0,.none,.none]}) (s.heap.objs.size+1) s.heap.objs.size 0 .none:=by
    let:=Xe (s.heap.push {cls:= .type "tuple_iterator",data:= .fields #[.ref a,.int 0 0]})
     (o:={cls:= .type "enumerate",data:= .fields #[.none,.bool false,.ref s.heap.objs.size,rawInt 0,.none,.none]}) rfl
    rw[i]at this;show this
   show⟨⟨_,j,rfl⟩,q _ j ⟨_,WU _ (Xe _ rfl),rfl,rfl⟩ λb o x=>WU _ (WU _ x)⟩
def Vm(K:PySem.W.Frag)(k:SK)(a:Addr):It:=
 ⟨λi H=>∃b x,jv k K H a b/\b[i]?=some x,
  λi H v c=>∃T x,H T=none/\v= .ref T/\c=upd H T (.tup [.int (i:Int),x])/\∀b,jv k K H a b->b[i]?=some x,
  λi H=>∃b,jv k K H a b/\b.length<=i⟩
def Vz(e t a:Addr)(k:SK)(i:Nat)(h:Heap):Prop:=(∃b,IsEnum h e t i b)/\kX k t a i h
def IK{P:Program}{w:World}{K:PySem.W.Frag}{p:List Expr}{kx:Nat}{pos:Pos}{e t a:Addr}(k:SK)(G:e≠t)(n2:a≠e)(n3:a≠t):
 Turn P w K (.Tuple p kx pos) (Vm K k a) [e,t] e (Vz e t a k) where
 mem:=by simp
 obj:=λi h st b c=>by
  obtain⟨⟨f,d⟩,j⟩:=st;simp![Xh,Xi,YY]at c;rcases c with rfl|rfl
  . show⟨_,d,λv z=>by cases z⟩
  . show f7 j
 keep:=λi h h' st B=>by
  obtain⟨⟨f,d⟩,j⟩:=st;show⟨⟨f,B e (by simp) _ d⟩,iq j (B t (by simp))⟩
 item:=by
  intro X W M Y U i n s σ H E I C st Q;subst W M Y;obtain⟨⟨f,d⟩,j⟩:=st;obtain⟨xs,x,r,ex⟩:=Q;obtain⟨l,D,J⟩:=eF I r;obtain⟨u,eu,ru⟩:=D.get ex
  let O:i<l.toArray.size:=by
   let:=(WV.mp eu).1;simpa using this
  show wpAny_pyNext_enum_itemD (NN (A:=X.A.in1) (show X.A.in1.handled=none from I.ok.hd U) k t a n3 l.toArray) d ⟨j,J⟩ O G (by simp![Xh,Xi,YY,ZY];show⟨G,W4 n2⟩) λy h' tk py N hs hT ao B=>⟨_,rfl,?_⟩
  let hy:y=u:=by
   let:l[i]?=some y:=by simpa using py
   rw[eu]at this;cases this;rfl
  subst hy;show wpAny_letOwnedTupleGo_enum (s:={s with heap:=h',toks:=tk+1}) N λk' R m=>?_;let V:s.heap.objs.size≠e:=YZ (W8 d)
  let L:∀b o,b∉[e,t]->s.heap.get? b=some o->k'.get? b=some o:=λb o c q=>by
   simp![Xh,ZY,Xi,Yj,Zt]at c;show m.extBut _ _ c.1 (B b o c.1 c.2 q)
  show⟨.ref s.heap.objs.size,upd H s.heap.objs.size (.tup [.int (i:Int),x]),Fd (s:=s) (tk:=tk+1) I C L (WX _) ?_,rfl,⟨s.heap.objs.size,x,I.aI.fresh (WX _),rfl,rfl,?_⟩,?_,?_⟩
  . show⟨Xb rfl,[.int (i:Int) tk,y],.cons ⟨tk,rfl⟩ (.cons ru .nil),?_⟩;show⟨_,m.extBut _ _ V hT,rfl,_,rfl⟩
  . intro ah q';rw[nu I q' r];show ex
  . show⟨⟨_,by simpa using R⟩,iq hs.1 λo Z=>m.extBut _ _ (W4 G) Z⟩
  . intro b c
    let:b≠s.heap.objs.size:=by
     obtain⟨o,q⟩:∃o,s.heap.get? b=some o:=by
      simp![Xh,Xi,YY]at c;rcases c with rfl|rfl
      . show⟨_,d⟩
      . obtain⟨o,Z,_⟩:=f7 j;show⟨o,Z⟩
     show Xn (W8 q)
    rw[aB this];show(C b c).1
 done:=by
  intro X W M Y U i n s σ H E I C st Q;subst W M Y;obtain⟨⟨f,d⟩,j⟩:=st;obtain⟨xs,r,ar⟩:=Q;obtain⟨l,D,J⟩:=eF I r;let e1:=D.length;let tz:s.TypeIs (.ref e) "enumerate":=⟨_,d,rfl⟩
  unfold pyNext;show WT (ZL (Ym (name:=Str.ofString "__next__") tz F.slot_enumerate_next (YR F.slot_enumerate_next tz F.entry_enumerate_next ?_ (F.args_enumerate_next_1 _))));change wpAny _ _ (field (.ref e) 2 >>= _) _ _ _;show WT (XS d rfl (x:= .ref t) rfl ?_);show WT ((h_ k t a n3 l.toArray).en i _ s _ _ (I.ok.hd U) ⟨j,J⟩ (by simp;lia) λg x m hx=>?_);obtain⟨o,N,S⟩:=hx;show WT (ZF (T:="StopIteration") (b:=true) ⟨o,N,S⟩ abT ?_);show W5 ⟨rfl,E9 (s:=s) (tk:=s.toks) I C λb o c q=>?_⟩;simp![Xh,ZY,Xi,Yj,Zt]at c;show m b o c.2 q
 self:=λ_ _ _ _ _ st h=>wpAny_pyIter_enum st.1.choose_spec h
def jM:Nat->List D->List D
 |_,[]=>[]
 |i,x::xs=> .tup [.int (i:Int),x]::jM (i+1) xs
def yZ:∀ {xs:List D} {i:Nat},(jM i xs).length=xs.length
 | [],_=>rfl
 |_::xs,i=>by unfold jM;rw[Xw,Xw,yZ]
def tF:∀ {xs:List D} {i n:Nat} {d:D},(jM i xs)[n]?=some d->∃x,xs[n]?=some x/\d= .tup [.int ((i+n:Nat):Int),x]
 | [],_,_,_,e=>by unfold jM at e;cases e
 |x::xs,i,0,d,e=>by
  unfold jM at e;rw[abF]at e;cases e;show⟨x,rfl,rfl⟩
 |x::xs,i,n+1,d,e=>by
  unfold jM at e;rw[YG]at e;obtain⟨y,b,a⟩:=tF e;show⟨y,by rw[YG];show b,?_⟩;rw[a,show i+1+n=i+(n+1) by lia]
def NY{K:PySem.W.Frag}{k:SK}{a:Addr}{α:List (Option Addr)}{G:Hp}{ok:af->Prop}{xs:List D}
 (h:∀f e b,Step α G f e->aY f b e->ok b->∃vs,yU k e a vs/\aG f e xs vs):sW (Vm K k a) α G ok (jM 0 xs) where
 stop:=λn f e q p b s P S o i=>by
  obtain⟨vs,j,g⟩:=h f e b s S o;rw[yZ]at i;show⟨vs,dS P j,?_⟩;let:=g.length;lia
 go:=λn d f e q p b s P S o i=>by
  obtain⟨vs,j,g⟩:=h f e b s S o;obtain⟨x,u,rfl⟩:=tF i;obtain⟨v,ev,_⟩:=g.get u;show⟨vs,v,dS P j,ev⟩
 nQ:=λn d f e q p b x z s P S o i y=>by
  obtain⟨vs,j,g⟩:=h f e b s S o;obtain⟨c,w,rfl⟩:=tF i;obtain⟨T,v,m,rfl,rfl,r⟩:=y;obtain⟨A,ev,t⟩:=g.get w;rw[r vs (dS P j)]at ev;cases ev;let l:=(P.none m).1;show⟨upd e T (.tup [.int (n:Int),v]),Step.laid l,P.laid m,S.laid l,?_⟩;unfold Rep;show⟨T,[.int (n:Int),v],rfl,S.jW l,a9,?_⟩;unfold aG;show⟨.int (n:Int),[v],rfl,?_,?_⟩
  . unfold Rep;rw[ZZ]
  unfold aG;show⟨v,[],rfl,t.step (Step.laid l),by unfold aG;rfl⟩
def FR(d:List D)(a:af)(K:List D->(af->Prop)->af->Prop):Prop:=match d with
 | [x]=>(match items? a x with
   |some c=>K (jM 0 c) (λb=>items? b x=some c) a
   |_=>False)
 |_=>False
@[irreducible] def rO:List D->af->(List D->(af->Prop)->af->Prop)->Prop:=FR
def FK(t:DA):DI:=λσ st K=>t σ st λb a=>rO b a K
def G_:bootBuiltins "enumerate"=some (.type "enumerate"):=by decide+kernel
def O0{X:Cx}(hg:Gl X "enumerate")(hm:X.mg "enumerate"=none)(ha:PA X [a] (LA t))(hs:starEach [a] X.env=[(false,eval a X.env)]):
 PI X (.Tuple n Z i) (.Call (.Name "enumerate" p) [a] [] pos) (LI (FK t)):=by
 intro j s σ H R I h;obtain⟨α,N,st,K,G,F,P,RS,S,t,k⟩:=h;show Call_ (jL I hg hm G_ (Yv (bQ (ha pos j s σ H (λz H1=>∃r f e c,Step α G f e/\cu e F H1/\aY f c e/\aG f e r z/\rO r c K) I ⟨α,N,st,_,G,F,P,RS,S,t,λr c q f e H1 z d v u B=>⟨r,f,e,c,d,v,u,B,q⟩⟩) λus d ⟨z,H1,w,V,r,f,e,c,O,v,u,B,q⟩=>?_) (by rw[hs];rfl) (by rfl)));unfold rO FR at q;split at q
 . rename_i x;split at q
   . rename_i xs ex;obtain⟨v1,rfl,D⟩:=gI B rfl;obtain⟨Y,Q,rfl,g1,c1⟩:=gd u D ex;obtain⟨u1,rfl,A⟩:=vals1 V;cases A;obtain⟨J,_,E⟩:=eF w (dS v c1);show JL E λg L i1 kp=>?_;obtain⟨o1,C⟩:=E.some;let l:Y<d.heap.objs.size:=W8 C;show wpAny_pyIter_enum (s:={d with heap:=g}) L ?_;show⟨d.heap.objs.size+1,[d.heap.objs.size+1,d.heap.objs.size],_,_,H1,rfl,w.kept (t':=d.toks) kp,IK (Ct x) (YZ (XC _)) (Xn (XF l)) (Xn l),⟨⟨_,L⟩,i1⟩,λb M=>?_,?_⟩
     . have m:d.heap.objs.size<=b:=by
        simp![Xh,Xi,YY]at M;rcases M with rfl|rfl
        . show aaD _
        . show WX _
       show w.sv m (w.aI.fresh m)
     . show k _ _ c q _ f e H1 O v u (NY λα' G' T U S' o=>?_);obtain⟨W,y,e1,f1,d1⟩:=gd S' (D.step U) o;cases e1;show⟨y,d1,f1⟩
   . show q.elim
 . show q.elim
def Oo{st:af}{x:D}{xs:List D}{K:List D->(af->Prop)->af->Prop}(ex:items? st x=some xs)(k:∀ok:af->Prop,(∀a,items? a x=some xs->ok a)->K (jM 0 xs) ok st):rO [x] st K:=by
 unfold rO FR;simp![ex];show k _ λa b=>b
def IG{X:Cx}{e:DA}(i:Gl X "enumerate")(h:X.mg "enumerate"=none)(d:JA X [a] e)(g:notStar a=true:=by rfl):JI X (.Tuple c f b) (.Call (.Name "enumerate" p) [a] [] pos) (FK e):=by
 unfold JI;unfold JA at d;show O0 i h d (cz g)
end L3
namespace L3
open PySem L2
open PySem.Spec hiding items?
open PyProof.Rows hiding St
section
variable {X:Cx}
def MQ:cV:=λx y st K=>match x,y with
 | .lst b,.lst a=>b.length+a.length<=sizeLine/\K (.ref st.length) (st++[.lst (b++a)])
 |_,_=>False
def Su:bW X (binaryOp .Add) (LR MQ):=λc s σ H x y v u Q I n m ⟨α,d,e,st,K,G,z,P,i,h,S,q,k⟩=>by
 cases d<;>cases e<;>try show q.elim
 unfold Rep at i h;obtain⟨a,l,rfl,na,t,g⟩:=i;obtain⟨b,j,rfl,w,r,f⟩:=h;show x9 c s σ H _ _ v u Q I n m ⟨a,b,l,j,rfl,rfl,fi P t,fi P r,by rw[<-g.length,<-f.length];show q.1,λp o=>?_⟩;show k.new P q.2 S (aV.mpr (dJ (aV.mp g) (aV.mp f))) o
@[irreducible] def qj:cV:=MQ
def BQ:bW X (binaryOp .Add) (LR qj):=by unfold qj;show Su
end
def yi{st:af}{K:DK}{xs ys:List D}(h:xs.length+ys.length<=sizeLine)(k:K (.ref st.length) (st++[.lst (xs++ys)])):qj (.lst xs) (.lst ys) st K:=by unfold qj;show⟨h,k⟩
end L3
namespace L3
open PySem L2
open PySem.Spec hiding items?
open PyProof.Rows hiding St
open PySem PySem.Spec L2 PySem.SeqAt
end L3
namespace L3
open PySem L2
open PySem.Spec hiding items?
open PyProof.Rows hiding St
section
variable {X:Cx}
def Ao:d8:=λc st K=>match c with| [.lst b]=>(match lY b with|some a=>a≠ []/\∀m∈a,(∀x∈a,x<=m)->K (.int m) st|none=>False)|_=>False
def Oc{ns:List Int}(hi:i<ns.length):ns.getD i 0∈ns:=by rw[Xa,W7 hi];show XX _
def mem_getD{ns:List Int}(h:x∈ns):∃i,i<ns.length/\ns.getD i 0=x:=by
 obtain⟨i,a,rfl⟩:=Xp.mp h;show⟨i,a,by rw[Xa,W7 a];rfl⟩
def QI(hc:X.calm=true):bH X (.builtin "max") (fy Ao):=λL s σ H xs us Q I T ⟨α,ds,st,K,G,F',P,r,S,q,k⟩=>by
 unfold Ao at q;split at q
 . rename_i ys;split at q
   . rename_i c e;obtain⟨m,q⟩:=q;obtain⟨v,rfl,J⟩:=gI r rfl;unfold Rep at J;obtain⟨a,vs,rfl,na,h1,h2⟩:=J;obtain⟨u,rfl,R⟩:=vals1 T;cases R;let E:=rE h2 e;subst E;obtain⟨z,h,n,O,Z,C⟩:=Inv.rY I (fi P h1);let D:s.heap.IsList a h.toArray:=⟨_,C,rfl,n,rfl⟩
     let p:h.length=c.length:=by rw[<-Z,W2]
     let M:0<c.length:=List.length_pos_iff.mpr m;show call_max_walkS (Zw D ?_);let F:a≠s.heap.objs.size:=Xn (W8 C);let f:∀(i:Nat) (w:Value),h.toArray[i]?=some w->∃t,w=Value.int (c.getD i 0) t:=λi w W=>l9 O i w (by simpa using W);show⟨s.heap.objs.size,_,_,_,_,_,_,_,rfl,(Walks.list (A:=X.A.in1) (I.ok.hd hc) _ a F h.toArray).toS,⟨⟨_,Xe _ rfl,rfl,rfl⟩,⟨_,WU _ C,rfl,n,rfl⟩⟩,?_,by rw[W6];lia,CmpOf.ints_gt (λi=>c.getD i 0) f,?_⟩
     . intro b B;rw[XJ];simp![Xh,Xi,YY]at B;rcases B with rfl|rfl
       . show XC _
       . show XF (W8 C)
     . intro v' l E y
       let U:∀b o,s.heap.get? b=some o->l.heap.get? b=some o:=λb o q=>y.heap b o (by
        intro B;let:b=s.heap.objs.size:=by simpa using B
        show absurd (W8 q) (by rw[this];show XU _)) (WU _ q)
       let es:l= {s with heap:=l.heap,toks:=l.toks}:=by
        let g:=y.gens;let d:=y.drawn;let o:=y.os;cases l;cases s
        simp_all
       let Y:h.toArray.size-1=c.length-1:=by rw[W6,p]
       obtain⟨t,rfl⟩:=f _ _ E;obtain⟨b1,N⟩:=argBest_gt (λi=>c.getD i 0) (h.toArray.size-1);generalize argBest (λi j=>decide (c.getD i 0>c.getD j 0)) (h.toArray.size-1)=j at b1 N⊢;let hj:j<c.length:=by lia
       rw[es];show⟨.int (c.getD j 0),H,I.kept (t':=l.toks) U,⟨t,rfl⟩,k.here P (q _ (Oc hj) λx V=>?_) S (by unfold Rep;rfl)⟩;obtain⟨i,hi,rfl⟩:=mem_getD V;show N i (by lia)
   . show q.elim
 . show q.elim
@[irreducible] def tS:d8:=Ao
def P0(a:X.calm=true):bH X (.builtin "max") (fy tS):=by unfold tS;show QI a
end
def OV{st:af}{K:DK}{xs:List D}{ns:List Int}(h:lY xs=some ns)(a:ns≠ [])(k:∀m∈ns,(∀x∈ns,x<=m)->K (.int m) st):tS [.lst xs] st K:=by unfold tS Ao;simp![h];show⟨a,k⟩
abbrev e7(h:Heap)(T:Addr)(a b c:Value):Prop:=h.get? T=some {cls:= .type "tuple",data:= .seq #[a,b,c]}
section
variable {P:Program}{w:World}
def d_{s:Shared}{k:Nat}(d:e7 s.heap T a b c)
 (h:∀h',h'.get? T=some {cls:= .type "tuple",data:= .seq ((#[a,b,c]:Array Value).setIfInBounds k x)}->Heap.SameBut T s.heap h'->Q () {s with heap:=h'}):
 wpAny (model P w) A (updateSeq T (·.setIfInBounds k x)) Q E s:=by
 show abH d rfl (h _ ?_ (YM ..));rw[Zp _ d rfl];simp[Obj.mapSeq]
structure Na(z ti to t1 t2 t3 a1 a2 a3:Nat):Prop where
 f:(ti≠z/\to≠z/\t1≠z/\t2≠z/\t3≠z)/\(ti≠to/\ti≠t1/\ti≠t2/\ti≠t3)/\(to≠t1/\to≠t2/\to≠t3)/\(t1≠t2/\t1≠t3/\t2≠t3)
 a1:a1≠z/\a1≠to/\a1≠t1/\a1≠t2/\a1≠t3
 a2:a2≠z/\a2≠to/\a2≠t1/\a2≠t2/\a2≠t3
 a3:a3≠z/\a3≠to/\a3≠t1/\a3≠t2/\a3≠t3
section
variable {z ti to t1 t2 t3 a1 a2 a3:Addr}
def Hx{A:Around}{s:Shared}{E:Value->Shared->Prop}{J1 J2 J3:Nat->Heap->Prop}{us vs ws:Array Value}{n:Nat}{x y u a b c:Value}{Q:Value->Shared->Prop}(D:Na z ti to t1 t2 t3 a1 a2 a3)(p:Src P w t1 a1 J1 us)(m:Src P w t2 a2 J2 vs)(l:Src P w t3 a3 J3 ws)
 (Z:IsZip s.heap z ti to .none) (pI:e7 s.heap ti (.ref t1) (.ref t2) (.ref t3)) (pO:e7 s.heap to a b c) (j1:J1 n s.heap) (j2:J2 n s.heap) (j3:J3 n s.heap) (ex:us[n]?=some x) (ey:vs[n]?=some y) (ez:ws[n]?=some u)
 (q:∀k,IsZip k z ti to (rawInt s.heap.objs.size)->e7 k to x y u->J1 (n+1) k->J2 (n+1) k->J3 (n+1) k->e7 k s.heap.objs.size x y u->k.objs.size=s.heap.objs.size+1->
   (∀c o,c≠z->c≠to->c≠t1->c≠t2->c≠t3->s.heap.get? c=some o->k.get? c=some o)->Q (.ref s.heap.objs.size) {s with heap:=k}):
 wpAny (model P w) A (Builtin.«zip.__next__» ⟨[.ref z],[]⟩) (λa5 s'=>∃v,a5= .done (.ret v)/\Q v s') E s:=by
 obtain⟨⟨n1,T,n3,n4,B⟩,⟨n5,n6,n7,bl⟩,⟨n8,n9,h⟩,W,V,U⟩:=D.f;obtain⟨p1,p2,p3,p4,p5⟩:=D.a1;obtain⟨q1,q2,q3,q4,q5⟩:=D.a2;obtain⟨r1,r2,r3,r4,r5⟩:=D.a3;change wpAny _ _ (field (.ref z) 2 >>= _) _ _ _;show WT (XS Z rfl (x:= .bool false) rfl ?_);change wpAny _ _ (field (.ref z) 3 >>= _) _ _ _;show WT (XS Z rfl (x:= .ref ti) rfl ?_);show WT (X9 pI rfl ?_);change wpAny _ _ (Builtin.SmallTypes.ownedTupleIsFree (.ref z) >>= _) _ _ _;show WT ?_;unfold Builtin.SmallTypes.ownedTupleIsFree;show WT (XS Z rfl (x:= .none) rfl (W5 ?_));simp![Zo];show WT (aab ?_);show WT (XS Z rfl (x:= .ref to) rfl ?_);show WT (Yd Z (by simp) λk1 Z1 M=>?_);replace Z1:IsZip k1 z ti to .ellipsis:=Z1;show WT ?_;simp![aaK,aaY,ZQ,ZX];show WT (WT (Y3 ?_));change wpAny _ _ (Builtin.SmallTypes.nextOf (.ref t1) >>= _) _ _ _;show WT (p.nx n _ _ _ _ x (p.ext j1 M.extBut (W4 n3) (W4 p1)) ex λk2 a4 L=>W5 ?_);let S:e7 k2 to a b c:=L.extBut _ _ n8 (M.extBut _ _ T pO);show WT (X9 S rfl ?_);show WT (d_ S λk3 t K=>?_);replace t:e7 k3 to x b c:=t;show WT (Zg (W5 ?_));show WT (WT (Y3 ?_));change wpAny _ _ (Builtin.SmallTypes.nextOf (.ref t2) >>= _) _ _ _;let aS:J2 n k3:=m.ext (m.ext (m.ext j2 M.extBut (W4 n4) (W4 q1)) L.extBut W (W4 q3)) K.extBut n9 (W4 q2);show WT (m.nx n _ _ _ _ y aS ey λk4 aI J=>W5 ?_);let R:e7 k4 to x b c:=J.extBut _ _ n9 t;show WT (X9 R rfl ?_);show WT (d_ R λk5 r I=>?_);replace r:e7 k5 to x y c:=r;show WT (Zg (W5 ?_));show WT (WT (Y3 ?_));change wpAny _ _ (Builtin.SmallTypes.nextOf (.ref t3) >>= _) _ _ _;let au:J3 n k5:=l.ext (l.ext (l.ext (l.ext (l.ext j3 M.extBut (W4 B) (W4 r1)) L.extBut V (W4 r3)) K.extBut h (W4 r2)) J.extBut U (W4 r4)) I.extBut h (W4 r2);show WT (l.nx n _ _ _ _ u au ez λk6 ar H=>W5 ?_);let O:e7 k6 to x y c:=H.extBut _ _ h r;show WT (X9 O rfl ?_);show WT (d_ O λd g G=>?_);replace g:e7 d to x y u:=g;show WT (Zg (W5 (W5 ?_)));show WT (X9 g rfl ?_);show WT (abS ?_);let sz:d.objs.size=s.heap.objs.size:=by rw[G.1,H.1,I.1,J.1,K.1,L.1,M.1]
 let ah:∀c o,c≠z->c≠to->c≠t1->c≠t2->c≠t3->s.heap.get? c=some o->d.get? c=some o:=λc o C c2 c3 c4 c5 e=>G.extBut _ _ c2 (H.extBut _ _ c5 (I.extBut _ _ c2 (J.extBut _ _ c4 (K.extBut _ _ c2 (L.extBut _ _ c3 (M.extBut _ _ C e))))));let Z7:IsZip d z ti to .ellipsis:=G.extBut _ _ (W4 T) (H.extBut _ _ (W4 B) (I.extBut _ _ (W4 T) (J.extBut _ _ (W4 n4) (K.extBut _ _ (W4 T) (L.extBut _ _ (W4 n3) Z1)))));let a0:J1 (n+1) d:=p.ext (p.ext (p.ext (p.ext (p.ext a4 K.extBut n8 (W4 p2)) J.extBut (W4 W) (W4 p4)) I.extBut n8 (W4 p2)) H.extBut (W4 V) (W4 p5)) G.extBut n8 (W4 p2);let aD:J2 (n+1) d:=m.ext (m.ext (m.ext aI I.extBut n9 (W4 q2)) H.extBut (W4 U) (W4 q5)) G.extBut n9 (W4 q2);let ao:J3 (n+1) d:=l.ext ar G.extBut h (W4 r2);let X:z<d.objs.size:=W8 Z7;change wpAny _ _ (Builtin.SmallTypes.ownedTupleHandOut (.ref z) (.ref d.objs.size) >>= _) _ _ _;show WT ?_;unfold Builtin.SmallTypes.ownedTupleHandOut;let Z8:IsZip (d.push {cls:= .type "tuple",data:= .seq #[x,y,u]}) z ti to .ellipsis:=WU _ Z7;show WT (Yd Z8 (by simp) λk9 Z9 b9=>?_);replace Z9:IsZip k9 z ti to (rawInt d.objs.size):=Z9;show Yd Z9 (by simp) λf i F=>?_;replace i:IsZip f z ti to (rawInt d.objs.size):=i;let N:∀c o,c≠z->d.get? c=some o->f.get? c=some o:=λc o C e=>F.extBut _ _ C (b9.extBut _ _ C (WU _ e));let pT:e7 f d.objs.size x y u:=F.extBut _ _ (YZ X) (b9.extBut _ _ (YZ X) (Xe _ rfl));let j:f.objs.size=d.objs.size+1:=by rw[F.1,b9.1,XJ]
 rw[sz]at i pT j;show W5 ⟨_,rfl,?_⟩;change Q (.ref d.objs.size) _;rw[sz];show q f i (N _ _ T g) (p.fr _ _ _ a0 λb Y o e=>N b o ?_ e) (m.fr _ _ _ aD λb Y o e=>N b o ?_ e) (l.fr _ _ _ ao λb Y o e=>N b o ?_ e) pT j λc o C c2 c3 c4 c5 e=>N c o C (ah c o C c2 c3 c4 c5 e)
 . rcases Y with rfl|rfl
   . show n3
   . show p1
 . rcases Y with rfl|rfl
   . show n4
   . show q1
 . rcases Y with rfl|rfl
   . show B
   . show r1
def Lq{A:Around}{s:Shared}(hh:A.handled=none)(D:Na z ti to t1 t2 t3 a1 a2 a3)(S1:Src P w t1 a1 J1 us)(N:Src P w t2 a2 J2 vs)(v:Src P w t3 a3 J3 U)
 (Z:IsZip s.heap z ti to .none) (pI:e7 s.heap ti (.ref t1) (.ref t2) (.ref t3)) (pO:e7 s.heap to a b c) (j1:J1 n s.heap) (j2:J2 n s.heap) (j3:J3 n s.heap) (he:us[n]?=none\/vs[n]?=none\/U[n]?=none)
 (q:∀k e,(∀c o,c≠z->c≠to->c≠t1->c≠t2->c≠t3->s.heap.get? c=some o->k.get? c=some o)->(∃o,k.get? e=some o/\o.cls= .type "StopIteration")->E (.ref e) {s with heap:=k}):
 wpAny (model P w) A (Builtin.«zip.__next__» ⟨[.ref z],[]⟩) Q E s:=by
 obtain⟨⟨n1,R,O,V,H⟩,⟨n5,n6,n7,ar⟩,⟨n8,n9,G⟩,Y,X,W⟩:=D.f;obtain⟨p1,p2,p3,p4,p5⟩:=D.a1;obtain⟨q1,q2,q3,q4,q5⟩:=D.a2;obtain⟨r1,r2,r3,r4,r5⟩:=D.a3;change wpAny _ _ (field (.ref z) 2 >>= _) _ _ _;show WT (XS Z rfl (x:= .bool false) rfl ?_);change wpAny _ _ (field (.ref z) 3 >>= _) _ _ _;show WT (XS Z rfl (x:= .ref ti) rfl ?_);show WT (X9 pI rfl ?_);change wpAny _ _ (Builtin.SmallTypes.ownedTupleIsFree (.ref z) >>= _) _ _ _;show WT ?_;unfold Builtin.SmallTypes.ownedTupleIsFree;show WT (XS Z rfl (x:= .none) rfl (W5 ?_));simp![Zo];show WT (aab ?_);show WT (XS Z rfl (x:= .ref to) rfl ?_);show WT (Yd Z (by simp) λk1 M t=>?_);replace M:IsZip k1 z ti to .ellipsis:=M;show WT ?_;simp![aaK,aaY,ZQ,ZX];show WT (WT (Y3 ?_));change wpAny _ _ (Builtin.SmallTypes.nextOf (.ref t1) >>= _) _ _ _;let J:J1 n k1:=S1.ext j1 t.extBut (W4 O) (W4 p1);cases ex:us[n]? with
 |none=>
  show WT (S1.en n _ _ _ _ hh J ex λk2 e j K=>?_);obtain⟨F,d,g⟩:=K;let Z2:IsZip k2 z ti to .ellipsis:=j _ _ (W4 O) M;let i:e≠z:=λc=>by subst c;rw[Z2]at d;cases d;simp at g
  show Yd Z2 (by simp) λS _ l=>q S e (λc o m _ L _ _ f=>l.extBut _ _ m (j _ _ L (t.extBut _ _ m f))) ⟨F,l.extBut _ _ i d,g⟩
 |some x=>
  show WT (S1.nx n _ _ _ _ x J ex λk2 aD j=>W5 ?_);let C:e7 k2 to a b c:=j.extBut _ _ n8 (t.extBut _ _ R pO);show WT (X9 C rfl ?_);show WT (d_ C λS p l=>?_);replace p:e7 S to x b c:=p;show WT (Zg (W5 ?_));show WT (WT (Y3 ?_));change wpAny _ _ (Builtin.SmallTypes.nextOf (.ref t2) >>= _) _ _ _;let I:J2 n S:=N.ext (N.ext (N.ext j2 t.extBut (W4 V) (W4 q1)) j.extBut Y (W4 q3)) l.extBut n9 (W4 q2);cases ey:vs[n]? with
  |none=>
   show WT (N.en n _ _ _ _ hh I ey λk4 e r K=>?_);obtain⟨F,d,g⟩:=K;let Z4:IsZip k4 z ti to .ellipsis:=r _ _ (W4 V) (l.extBut _ _ (W4 R) (j.extBut _ _ (W4 O) M));let i:e≠z:=λc=>by subst c;rw[Z4]at d;cases d;simp at g
   show Yd Z4 (by simp) λk5 _ u=>q k5 e (λc o m T L c4 _ f=>u.extBut _ _ m (r _ _ c4 (l.extBut _ _ T (j.extBut _ _ L (t.extBut _ _ m f))))) ⟨F,u.extBut _ _ i d,g⟩
  |some y=>
   have ez:U[n]?=none:=by
    rcases he with h|h|h
    . rw[ex]at h;cases h
    . rw[ey]at h;cases h
    . show h
   show WT (N.nx n _ _ _ _ y I ey λk4 au r=>W5 ?_);let B:e7 k4 to x b c:=r.extBut _ _ n9 p;show WT (X9 B rfl ?_);show WT (d_ B λk5 ao u=>?_);show WT (Zg (W5 ?_));show WT (WT (Y3 ?_));change wpAny _ _ (Builtin.SmallTypes.nextOf (.ref t3) >>= _) _ _ _;let ah:J3 n k5:=v.ext (v.ext (v.ext (v.ext (v.ext j3 t.extBut (W4 H) (W4 r1)) j.extBut X (W4 r3)) l.extBut G (W4 r2)) r.extBut W (W4 r4)) u.extBut G (W4 r2);show WT (v.en n _ _ _ _ hh ah ez λk6 e b6 K=>?_);obtain⟨F,d,g⟩:=K;let Z6:IsZip k6 z ti to .ellipsis:=b6 _ _ (W4 H) (u.extBut _ _ (W4 R) (r.extBut _ _ (W4 V) (l.extBut _ _ (W4 R) (j.extBut _ _ (W4 O) M))));let i:e≠z:=λc=>by subst c;rw[Z6]at d;cases d;simp at g
   show Yd Z6 (by simp) λk7 _ b7=>q k7 e (λc o m T L c4 c5 f=>b7.extBut _ _ m (b6 _ _ c5 (u.extBut _ _ T (r.extBut _ _ c4 (l.extBut _ _ T (j.extBut _ _ L (t.extBut _ _ m f))))))) ⟨F,b7.extBut _ _ i d,g⟩
end
end
def Qs(K:PySem.W.Frag)(f e d:SK)(j h g:Addr):It:=
 ⟨λi H=>∃c b a x y z,jv f K H j c/\jv e K H h b/\jv d K H g a/\c[i]?=some x/\b[i]?=some y/\a[i]?=some z,
  λi H v k=>∃T x y z,H T=none/\v= .ref T/\k=upd H T (.tup [x,y,z])/\(∀c,jv f K H j c->c[i]?=some x)/\(∀b,jv e K H h b->b[i]?=some y)/\∀a,jv d K H g a->a[i]?=some z,
  λi H=>∃c b a,jv f K H j c/\jv e K H h b/\jv d K H g a/\(c.length<=i\/b.length<=i\/a.length<=i)⟩
def QW(z e d j g f p o n:Addr)(m l k:SK)(i:Nat)(h:Heap):Prop:=IsZip h z e d .none/\e7 h e (.ref j) (.ref g) (.ref f)/\(∃a b c,e7 h d a b c)/\kX m j p i h/\kX l g o i h/\kX k f n i h
def Hy{P:Program}{w:World}{K:PySem.W.Frag}{F:List Expr}{kx:Nat}{pos:Pos}{z A t p n m L J G:Addr}(U S R:SK)(D:Na z A t p n m L J G):
 Turn P w K (.Tuple F kx pos) (Qs K U S R L J G) [z,A,t,p,n,m] z (QW z A t p n m L J G U S R) where
 mem:=by simp
 obj:=λi h st b c=>by
  obtain⟨Z,d,⟨a,Y,W,f⟩,l,j,g⟩:=st;simp![Xh,Xi,YY]at c;rcases c with rfl|rfl|rfl|rfl|rfl|rfl
  . show⟨_,Z,λv e=>by cases e⟩
  . show⟨_,d,λv e=>by cases e⟩
  . show⟨_,f,λv e=>by cases e⟩
  . show f7 l
  . show f7 j
  . show f7 g
 keep:=λi h h' st k=>by
  obtain⟨Z,d,⟨a,Y,W,f⟩,l,j,g⟩:=st;show⟨k z (by simp) _ Z,k A (by simp) _ d,⟨a,Y,W,k t (by simp) _ f⟩,iq l (k p (by simp)),iq j (k n (by simp)),iq g (k m (by simp))⟩
 item:=by
  intro X hP hw hK hc i C s σ H E I V st hg;subst hP hw hK;obtain⟨Z,d,⟨a,Y,W,f⟩,l,j,g⟩:=st;obtain⟨xs,ys,zs,x,y,zz,O,N,M,ex,ey,ez⟩:=hg;obtain⟨us,r1,l1⟩:=eF I O;obtain⟨vs,r2,l2⟩:=eF I N;obtain⟨ws,r3,l3⟩:=eF I M;obtain⟨u,eu,ru⟩:=r1.get ex;obtain⟨v,ev,rv⟩:=r2.get ey;obtain⟨wv,ew,ah⟩:=r3.get ez;obtain⟨⟨n1,n2,n3,n4,au⟩,⟨n5,n6,n7,ar⟩,⟨n8,n9,bl⟩,br,bq,bp⟩:=D.f;let r:s.TypeIs (.ref z) "zip":=⟨_,Z,rfl⟩
  unfold pyNext;show WT (ZL (Ym (name:=Str.ofString "__next__") r Y9 (YR Y9 r aaL (Hx D (h_ U p L D.a1.2.2.1 us.toArray) (h_ S n J D.a2.2.2.2.1 vs.toArray) (h_ R m G D.a3.2.2.2.2 ws.toArray) Z d f ⟨l,l1⟩ ⟨j,l2⟩ ⟨g,l3⟩ (x:=u) (y:=v) (u:=wv) (by simpa using eu) (by simpa using ev) (by simpa using ew) λk Z2 ao j1 j2 j3 pT a5 Q=>W5 ⟨_,rfl,?_⟩) (aaA _))));show abt (s:={s with heap:=k}) Z2 λk' Z3 q=>?_;let hT:s.heap.objs.size≠z:=YZ (W8 Z)
  let aD:∀b o,b∉[z,A,t,p,n,m]->s.heap.get? b=some o->k'.get? b=some o:=λb o c e=>by
   simp![Xh,ZY,Xi,Yj,Zt]at c;show q.extBut _ _ c.1 (Q b o c.1 c.2.2.1 c.2.2.2.1 c.2.2.2.2.1 c.2.2.2.2.2 e)
  show⟨.ref s.heap.objs.size,upd H s.heap.objs.size (.tup [x,y,zz]),Fd (s:=s) (tk:=s.toks) I V aD (WX _) ?_,rfl,⟨s.heap.objs.size,x,y,zz,I.aI.fresh (WX _),rfl,rfl,?_,?_,?_⟩,?_,?_⟩
  . show⟨Xb rfl,[u,v,wv],.cons ru (.cons rv (.cons ah .nil)),?_⟩;show⟨_,q.extBut _ _ hT pT,rfl,_,rfl⟩
  . intro a4 B;rw[nu I B O];show ex
  . intro a0 B;rw[nu I B N];show ey
  . intro aS B;rw[nu I B M];show ez
  . show⟨Z3,q.extBut _ _ n1 (Q _ _ n1 n5 n6 n7 ar d),⟨_,_,_,q.extBut _ _ n2 ao⟩,iq j1.1 λo e=>q.extBut _ _ n3 e,iq j2.1 λo e=>q.extBut _ _ n4 e,iq j3.1 λo e=>q.extBut _ _ au e⟩
  . intro b c
    let:b≠s.heap.objs.size:=by
     obtain⟨o,e,_⟩:∃o,s.heap.get? b=some o/\True:=by
      simp![Xh,Xi,YY]at c;rcases c with rfl|rfl|rfl|rfl|rfl|rfl
      . show⟨_,Z,trivial⟩
      . show⟨_,d,trivial⟩
      . show⟨_,f,trivial⟩
      . obtain⟨o,e,_⟩:=f7 l;show⟨o,e,trivial⟩
      . obtain⟨o,e,_⟩:=f7 j;show⟨o,e,trivial⟩
      . obtain⟨o,e,_⟩:=f7 g;show⟨o,e,trivial⟩
     show Xn (W8 e)
    rw[L2.aB this];show(V b c).1
 done:=by
  intro X hP hw hK hc i C s σ H E I V st hg;subst hP hw hK;obtain⟨Z,d,⟨a,Y,W,f⟩,l,j,g⟩:=st;obtain⟨xs,ys,zs,O,N,M,he⟩:=hg;obtain⟨us,r1,l1⟩:=eF I O;obtain⟨vs,r2,l2⟩:=eF I N;obtain⟨ws,r3,l3⟩:=eF I M;let e1:=r1.length;let e2:=r2.length;let e3:=r3.length;let r:s.TypeIs (.ref z) "zip":=⟨_,Z,rfl⟩
  unfold pyNext;show WT (ZL (Ym (name:=Str.ofString "__next__") r Y9 (YR Y9 r aaL (Lq (I.ok.hd hc) D (h_ U p L D.a1.2.2.1 us.toArray) (h_ S n J D.a2.2.2.2.1 vs.toArray) (h_ R m G D.a3.2.2.2.2 ws.toArray) Z d f ⟨l,l1⟩ ⟨j,l2⟩ ⟨g,l3⟩ ?_ λk e Q hx=>?_) (aaA _))))
  . rcases he with h|h|h
    . left;simp;lia
    . right;left;simp;lia
    . right;right;simp;lia
  . obtain⟨o,ho,aI⟩:=hx;show WT (ZF (T:="StopIteration") (b:=true) ⟨o,ho,aI⟩ abT ?_);show W5 ⟨rfl,E9 (s:=s) (tk:=s.toks) I V λb o c e=>?_⟩;simp![Xh,ZY,Xi,Yj,Zt]at c;show Q b o c.1 c.2.2.1 c.2.2.2.1 c.2.2.2.2.1 c.2.2.2.2.2 e
 self:=λ_ _ _ _ _ st h=>aaM st.1 h
def yv(a b c:Value):checkTypeCall "zip" ⟨[a,b,c],[]⟩=pure ():=by kernel_rfl
def z_(a b c:Value):checkBuiltinCall "zip.__new__" ⟨[.type "zip",a,b,c],[]⟩=pure ():=by kernel_rfl
def rp(a b c d:Value):argsOk "object.__init__" ⟨[a,b,c,d],[]⟩:=by
 unfold argsOk;rw[signature?_of (id:="object.__init__") (n:=['_','_','t','i','n','i','_','_']) (o:=['t','c','e','j','b','o']) (by kernel_rfl) F.owner_object];kernel_rfl
abbrev M1(h:Heap)(k1 k2 k3:SK)(a1 a2 a3:Addr):Heap:=(zJ h k1 k2 a1 a2).push (oM k3 a3)
abbrev Nv(h:Heap)(k1 k2 k3:SK)(a1 a2 a3:Addr):Heap:=(M1 h k1 k2 k3 a1 a2 a3).push {cls:= .type "tuple",data:= .seq #[.ref h.objs.size,.ref (Ba h k1 a1).objs.size,.ref (zJ h k1 k2 a1 a2).objs.size]}
abbrev MJ(h:Heap)(k1 k2 k3:SK)(a1 a2 a3:Addr):Heap:=(Nv h k1 k2 k3 a1 a2 a3).push {cls:= .type "tuple",data:= .seq #[.none,.none,.none]}
abbrev BY(h:Heap)(k1 k2 k3:SK)(a1 a2 a3:Addr):Heap:=(MJ h k1 k2 k3 a1 a2 a3).push {cls:= .type "zip",data:= .fields #[.none,.bool false,.bool false,.ref (M1 h k1 k2 k3 a1 a2 a3).objs.size,.ref (Nv h k1 k2 k3 a1 a2 a3).objs.size]}
def Ge(b e i:SK)(a c f:Addr)(us vs l:Array Value):Meets (Builtin.«zip.__new__» ⟨[.type "zip",.ref a,.ref c,.ref f],[]⟩) (λ_ R s=>gv b s.heap a us/\gv e s.heap c vs/\gv i s.heap f l/\
 R (.ok (.ret (.ref (MJ s.heap b e i a c f).objs.size))) {s with heap:=BY s.heap b e i a c f}):=
 .of_wp λP w A R s h=>by
  obtain⟨k,g,d,tk,j⟩:=s;obtain⟨p,o,n,h⟩:=h;let m:=sub_zip;let q:gv b (Shared.heap ⟨k,g,d,tk,j⟩) a us:=p;let L2:gv e (Shared.heap ⟨k.push (oM b a),g,d,tk,j⟩) c vs:=gv.push o _;let L3:gv i (Shared.heap ⟨(k.push (oM b a)).push (oM e c),g,d,tk,j⟩) f l:=gv.push (gv.push n _) _
  wp_walk using rM q,rM L2,rM L3
  show⟨_,rfl,h⟩
def Jm{s:Shared}{b e i:Addr}(H:gv a s.heap b us)(G:gv d s.heap e vs)(D:gv f s.heap i t)
 (q:∀g n,n=s.heap.objs.size->IsZip g (n+5) (n+3) (n+4) .none->e7 g (n+3) (.ref n) (.ref (n+1)) (.ref (n+2))->e7 g (n+4) .none .none .none->kX a n b 0 g->kX d (n+1) e 0 g->kX f (n+2) i 0 g->(∀c o,s.heap.get? c=some o->g.get? c=some o)->Q (.ref (n+5)) {s with heap:=g}):
 wpAny (model P w) A (call (.type "zip") [.ref b,.ref e,.ref i]) Q E s:=by
 show callType_new F.called_zip (by decide) (yv _ _ _) (z_ _ _ _) (λB=>rp B _ _ _) F.entry_zip_new (Ge a d f b e i us vs t) ⟨H,G,D,?_⟩;let m:(Ba s.heap a b).objs.size=s.heap.objs.size+1:=XJ ..;let l:(zJ s.heap a d b e).objs.size=s.heap.objs.size+2:=by rw[XJ,m]
 let k:(M1 s.heap a d f b e i).objs.size=s.heap.objs.size+3:=by rw[XJ,l]
 let j:(Nv s.heap a d f b e i).objs.size=s.heap.objs.size+4:=by rw[XJ,k]
 let r:(MJ s.heap a d f b e i).objs.size=s.heap.objs.size+5:=by rw[XJ,j]
 let p:(BY s.heap a d f b e i).get? (MJ s.heap a d f b e i).objs.size=some _:=Xe _ rfl;let u:(BY s.heap a d f b e i).get? (Nv s.heap a d f b e i).objs.size=some _:=WU _ (Xe _ rfl);let v:(BY s.heap a d f b e i).get? (M1 s.heap a d f b e i).objs.size=some _:=WU _ (WU _ (Xe _ rfl));let y:(BY s.heap a d f b e i).get? (zJ s.heap a d b e).objs.size=some (oM f i):=WU _ (WU _ (WU _ (Xe _ (by cases f<;>rfl))));let z:(BY s.heap a d f b e i).get? (Ba s.heap a b).objs.size=some (oM d e):=WU _ (WU _ (WU _ (WU _ (Xe _ (by cases d<;>rfl)))));let C:(BY s.heap a d f b e i).get? s.heap.objs.size=some (oM a b):=WU _ (WU _ (WU _ (WU _ (WU _ (Xe _ (by cases a<;>rfl))))));change _/\_;rw[k,j,r]at p;rw[m,l,k]at v;rw[j]at u;rw[l]at y;rw[m]at z;rw[r];show⟨⟨_,p,rfl⟩,q _ _ rfl p v u (qb (h:=s.heap) C) (qb (h:=s.heap) z) (qb (h:=s.heap) y) λc o x=>WU _ (WU _ (WU _ (WU _ (WU _ (WU _ x)))))⟩
def fE:List D->List D->List D->List D
 |x::xs,y::ys,z::zs=> .tup [x,y,z]::fE xs ys zs
 |_,_,_=>[]
def yW:∀ {xs ys a:List D},(fE xs ys a).length=min xs.length (min ys.length a.length)
 | [],_,_=>by unfold fE;simp
 |_::_,[],_=>by unfold fE;simp
 |_::_,_::_,[]=>by unfold fE;simp
 |x::xs,y::ys,z::a=>by unfold fE;rw[Xw,yW];simp![Xw];lia
def r9:∀ {xs ys f:List D} {n:Nat} {d:D},(fE xs ys f)[n]?=some d->∃x y z,xs[n]?=some x/\ys[n]?=some y/\f[n]?=some z/\d= .tup [x,y,z]
 | [],_,_,_,_,e=>by unfold fE at e;cases e
 |_::_,[],_,_,_,e=>by unfold fE at e;cases e
 |_::_,_::_,[],_,_,e=>by unfold fE at e;cases e
 |x::xs,y::ys,z::f,0,d,e=>by
  unfold fE at e;rw[abF]at e;cases e;show⟨x,y,z,rfl,rfl,rfl,rfl⟩
 |x::xs,y::ys,z::f,n+1,d,e=>by
  unfold fE at e;rw[YG]at e;obtain⟨a,b,c,j,i,h,g⟩:=r9 e;show⟨a,b,c,by rw[YG];show j,by rw[YG];show i,by rw[YG];show h,g⟩
def N5{K:PySem.W.Frag}{H F E:SK}{M L J:Addr}{α:List (Option Addr)}{G:Hp}{ok:af->Prop}{xs ys C:List D}
 (h:∀g b a,Step α G g b->aY g a b->ok a->∃vs i us,yU H b M vs/\yU F b L i/\yU E b J us/\aG g b xs vs/\aG g b ys i/\aG g b C us):sW (Qs K H F E M L J) α G ok (fE xs ys C) where
 stop:=λn g b O N a s P S o p=>by
  obtain⟨vs,i,us,w,r,q,m,l,k⟩:=h g b a s S o;rw[yW]at p;show⟨vs,i,us,dS P w,dS P r,dS P q,?_⟩;let:=m.length;let:=l.length;let:=k.length;lia
 go:=λn d g b O N a s P S o p=>by
  obtain⟨vs,i,us,w,r,q,m,l,k⟩:=h g b a s S o;obtain⟨x,y,z,ex,Z,Y,rfl⟩:=r9 p;obtain⟨v,ev,_⟩:=m.get ex;obtain⟨u,A,_⟩:=l.get Z;obtain⟨t,B,_⟩:=k.get Y;show⟨vs,i,us,v,u,t,dS P w,dS P r,dS P q,ev,A,B⟩
 nQ:=λn d g b O N a x ah s P S o p y=>by
  obtain⟨vs,i,us,w,r,q,m,l,k⟩:=h g b a s S o;obtain⟨c,e,f,ec,ee,ef,rfl⟩:=r9 p;obtain⟨T,v,u,t,I,rfl,rfl,U,R,Q⟩:=y;obtain⟨v',ev,V⟩:=m.get ec;obtain⟨u',A,W⟩:=l.get ee;obtain⟨t',B,X⟩:=k.get ef;rw[U vs (dS P w)]at ev;rw[R i (dS P r)]at A;rw[Q us (dS P q)]at B;cases ev;cases A;cases B;let j:=(P.none I).1;show⟨L2.upd b T (.tup [v,u,t]),Step.laid j,P.laid I,S.laid j,?_⟩;unfold Rep;show⟨T,[v,u,t],rfl,S.jW j,a9,?_⟩;unfold aG;show⟨v,[u,t],rfl,V.step (Step.laid j),?_⟩;unfold aG;show⟨u,[t],rfl,W.step (Step.laid j),?_⟩;unfold aG;show⟨t,[],rfl,X.step (Step.laid j),by unfold aG;rfl⟩
def GD(f:List D)(a:af)(K:List D->(af->Prop)->af->Prop):Prop:=match f with
 | [x,y,z]=>(match items? a x,items? a y,items? a z with
   |some e,some d,some c=>K (fE e d c) (λb=>items? b x=some e/\items? b y=some d/\items? b z=some c) a
   |_,_,_=>False)
 |_=>False
@[irreducible] def sj:List D->af->(List D->(af->Prop)->af->Prop)->Prop:=GD
def Fp(t:DA):DI:=λσ st K=>t σ st λb a=>sj b a K
def Nz(f:c<n)(e:b<n)(d:a<n):Na (n+5) (n+3) (n+4) n (n+1) (n+2) c b a:=⟨by lia,by lia,by lia,by lia⟩
def vals3(h:Vals vs us)(e:vs=[a,b,c]):∃u v w,us=[u,v,w]/\RelV a u/\RelV b v/\RelV c w:=by
 subst e;cases h with
 |cons p q=>
  cases q with
  |cons i g=>
   cases g with
   |cons f d=>
    cases d;show⟨_,_,_,rfl,p,i,f⟩
def Pa{X:Cx}(hg:Gl X "zip")(hm:X.mg "zip"=none)(ha:PA X [a,b,c] (LA t))(hs:starEach [a,b,c] X.env=(false,eval a X.env)::starEach [b,c] X.env)(T:starEach [b,c] X.env=[(false,eval b X.env),(false,eval c X.env)]):
 PI X (.Tuple w kx m) (.Call (.Name "zip" p) [a,b,c] [] pos) (LI (Fp t)):=by
 intro u s σ H R I h;obtain⟨α,σd,st,K,G,F,P,RS,S,t,k⟩:=h;show Call_ (jL I hg hm boot_zip (Yv (bQ (ha pos u s σ H (λJ H1=>∃A f e d,Step α G f e/\cu e F H1/\aY f d e/\aG f e A J/\sj A d K) I ⟨α,σd,st,_,G,F,P,RS,S,t,λA d q f e H1 J r j i Q=>⟨A,f,e,d,r,j,i,Q,q⟩⟩) λus r ⟨J,H1,l,rv,A,f,e,d,w1,j,i,Q,q⟩=>?_) hs (by rw[T];rfl)));unfold sj GD at q;split at q
 . rename_i x y z;split at q
   . rename_i xs ys zs ex ey ez;obtain⟨v1,v2,v3,rfl,q1,q2,q3⟩:=Gy Q rfl;obtain⟨p1,aI,rfl,g1,c1⟩:=gd i q1 ex;obtain⟨p2,aD,rfl,g2,c2⟩:=gd i q2 ey;obtain⟨p3,au,rfl,g3,c3⟩:=gd i q3 ez;obtain⟨u1,u2,u3,rfl,O,N,M⟩:=vals3 rv rfl;cases O;cases N;cases M;obtain⟨ar,_,l1⟩:=eF l (dS j c1);obtain⟨ao,_,l2⟩:=eF l (dS j c2);obtain⟨ah,_,l3⟩:=eF l (dS j c3);show Jm l1 l2 l3 λg n B Z pI pO i1 i2 i3 kp=>?_;obtain⟨o1,W⟩:=l1.some;obtain⟨o2,V⟩:=l2.some;obtain⟨o3,U⟩:=l3.some;show aaM (s:={r with heap:=g}) Z ?_;show⟨n+5,[n+5,n+3,n+4,n,n+1,n+2],_,_,H1,rfl,l.kept (t':=r.toks) kp,Hy (Ct x) (Ct y) (Ct z) (Nz (by rw[B];show W8 W) (by rw[B];show W8 V) (by rw[B];show W8 U)),⟨Z,pI,⟨_,_,_,pO⟩,i1,i2,i3⟩,λb hb=>?_,?_⟩
     . have v:r.heap.objs.size<=b:=by
        simp![Xh,Xi,YY]at hb;rcases hb with rfl|rfl|rfl|rfl|rfl|rfl<;>(rw[<-B];first|show WX _|show abA _ _)
       show l.sv v (l.aI.fresh v)
     . show k _ _ d q _ f e H1 w1 j i (N5 λα' G' aS L Y o=>?_);obtain⟨a4,E,e1,f1,d1⟩:=gd Y (q1.step L) o.1;obtain⟨a3,D,e2,f2,d2⟩:=gd Y (q2.step L) o.2.1;obtain⟨a0,C,e3,f3,d3⟩:=gd Y (q3.step L) o.2.2;cases e1;cases e2;cases e3;show⟨E,D,C,d1,d2,d3,f1,f2,f3⟩
   . show q.elim
 . show q.elim
def OF{st:af}{x y z:D}{xs ys b:List D}{K:List D->(af->Prop)->af->Prop}(ex:items? st x=some xs)(g:items? st y=some ys)(f:items? st z=some b)(k:∀ok:af->Prop,(∀a,items? a x=some xs->items? a y=some ys->items? a z=some b->ok a)->K (fE xs ys b) ok st):sj [x,y,z] st K:=by
 unfold sj GD;simp![ex,g,f];show k _ λa e d c=>⟨e,d,c⟩
def Qf{X:Cx}{a b c:Expr}{e:List Expr}{j:Nat}{d p pos:Pos}{i:DA}(m:Gl X "zip")(l:X.mg "zip"=none)(h:JA X [a,b,c] i)(k:notStar a=true:=by rfl)(g:notStar b=true:=by rfl)(f:notStar c=true:=by rfl):JI X (.Tuple e j d) (.Call (.Name "zip" p) [a,b,c] [] pos) (Fp i):=by
 unfold JI;unfold JA at h;show Pa m l h (cz k) (by rw[cz g,cz f];rfl)
def BU:DS:=λ_ _ _=>False
def Kj:JS X s BU:=by
 unfold JS;intro a s σ H D I h;obtain⟨α,b,st,c,G,F,P,R,S,q,k⟩:=h;show q.elim
section
variable {X:Cx}
def AN:cV:=λx y st K=>match x,y with
 | .ref n,.lst a=>(match st[n]? with|some (.lst b)=>b.length+a.length<=sizeLine/\K (.lst (b++a)) st|_=>False)
 |_,_=>False
def So:bW X (binaryOp .Add) (LR AN):=λc s σ H x y v u Q I o m ⟨α,d,e,st,K,G,E,P,r,h,S,q,k⟩=>by
 cases d<;>cases e<;>try show q.elim
 rename_i n B;unfold AN at q;simp only at q;split at q
 . rename_i C e;obtain⟨a,A,l,z,i⟩:=S.ie e;let f:=cZ A r;subst f;unfold Rep at h;obtain⟨b,j,rfl,D,w,g⟩:=h;show x9 c s σ H _ _ v u Q I o m ⟨a,b,l,j,rfl,rfl,.of (P.get z),fi P w,by rw[<-i.length,<-g.length];show q.1,λp t=>?_⟩;show k.lst P q.2 S (aV.mpr (dJ (aV.mp i) (aV.mp g))) t
 . show q.elim
@[irreducible] def uo:cV:=AN
def IL:bW X (binaryOp .Add) (LR uo):=by unfold uo;show So
end
def N8{st:af}{K:DK}{n:Nat}{xs ys:List D}(e:st[n]?=some (.lst xs))(h:xs.length+ys.length<=sizeLine)(k:K (.lst (xs++ys)) st):uo (.ref n) (.lst ys) st K:=by unfold uo AN;simp![e];show⟨h,k⟩
end L3
namespace L3
open PySem L2
open PySem.Spec hiding items?
open PyProof.Rows hiding St
open Sem (wp)
section
variable {prog:Program}{w:World}{A:Around}{s:Shared}{E:Value->Shared->Prop}
def NZ{xs ys:List Value}(j:s.heap.IsTuple T xs.toArray)(i:s.heap.IsTuple b ys.toArray)(y:xs.length+ys.length<=sizeLine)
 (q:∀r h',h'.IsTuple r (xs++ys).toArray->(∀c o,s.heap.get? c=some o->h'.get? c=some o)->((xs=[]/\r=b)\/(ys=[]/\r=T)\/r=s.heap.objs.size)->Q (.ref r) {s with heap:=h'}):
 wpAny (model prog w) A (binaryOp .Add (.ref T) (.ref b)) Q E s:=by
 by_cases g:xs=[]
 . obtain⟨⟨C,B,t,v⟩,l,p,n,m⟩:=id j;obtain⟨⟨u,k,data2,h⟩,a,f,x,d⟩:=id i;simp only at p m f d;subst p m f d
   show aby ⟨_,l,rfl⟩ ⟨_,a,rfl⟩ aaI abc ZV ZK (ZD _ _)
    (tuple_addW0 T b xs.toArray ys.toArray n x B k v h (by simp[g])) ⟨l,a,q b s.heap (by rw[g];show i) (λ_ _ e=>e) (.inl ⟨g,rfl⟩)⟩
 . show HT.EE j i g (λz=>?_) (λz=>?_) y
   . show q T s.heap (by rw[z,YD];show j) (λ_ _ e=>e) (.inr (.inl ⟨z,rfl⟩))
   . show q s.heap.objs.size _ (IsTup.new _ _) (λc o e=>WU _ e) (.inr (.inr rfl))
end
section
variable {prog:Program}{w:World}{A:Around}{R:Result->Shared->Prop}{I:Addr}{fp wr:List Addr}{G:Array GenState->Array GenState->Prop}{n:Nat}{P:Nat->Value->Prop}{Sx:Nat->Shared->Prop}
def Iw(P:Nat->Value->Prop)(ao:List (List Value))(e sz:Addr)(i:Nat)(T:Addr):Prop:=(T=e/\(ao.take i).flatten=[])\/(∃j,j<i/\P j (.ref T)/\(ao.take i).flatten=ao.getD j [])\/sz<=T
def Jw{ao:List (List Value)}(h:i<ao.length):(ao.take (i+1)).flatten=(ao.take i).flatten++ao.getD i []:=by
 rw[aaN h,List.flatten_append,Xa,W7 h];simp
def Kc{h:Heap}{T S:Addr}{o:Obj}(f:h.IsTuple T xs)(d:h.get? S=some o)(b:o.cls= .type "list"):T≠S:=by
 intro c;subst c;obtain⟨g,e,a,_⟩:=f;rw[d]at e;cases e;rw[b]at a;show absurd a (by decide)
def xh(W:WalksS prog w A.in1 I fp wr G n P Sx)(ao:List (List Value))(hl:ao.length=n)(hz:ao.flatten.length<=sizeLine)(S e sz:Addr)(h0:Heap)(E:S∉fp)(Z:sz<=S)
 (hI:∀i s T xs,Sx i s->s.heap.IsTuple T xs->T∉wr) (hP:∀j v,j<n->P j v->∃a,v= .ref a/\a∉S::wr/\h0.IsTuple a (ao.getD j []).toArray):
 ∀(k i:Nat) (s:Shared) (T:Addr) (c:Nat),n-i=k->i<=n->Sx i s->s.heap.get? S=some {cls:= .type "list",dict:=none,data:= .seq #[.ref T] c,slots:= #[]}->
 (∀b o,b∉S::wr->h0.get? b=some o->s.heap.get? b=some o)->s.heap.IsTuple T (ao.take i).flatten.toArray->Iw P ao e sz i T->
 (∀s' r,Moved (S::wr) G s s'->s'.heap.IsTuple r ao.flatten.toArray->Iw P ao e sz n r->R (.ok (.ret (.ref r))) s')->codeAny (model prog w) A (.builtin "sum.loop" ⟨[.ref I,.ref S,rawInt 2,rawInt 0],[]⟩) R s:=by
 let aD:S∉wr:=λh=>E (W.sub _ h);let f:∀b∈wr,b∈S::wr:=λb l=>Xg _ l;intro k;induction k with
 |zero=>
  intro i s T c hk hi m K V x Y hR;let ar:i=n:=by lia
  subst ar;show codeAny_builtin F.entry_sum_loop ?_;rw[Around.under_plainId aaO _];change wpAny _ A.in1 (seqItems? (.ref S) >>= _) _ _ s;show WT (X9 K rfl ?_);change wpAny _ A.in1 (tryCatch (pyNext (.ref I)) _ >>= _) _ _ s;show WT (wpAny_tryCatch (W.done s _ _ m λs' q=>?_));rw[Y2 (by lia)]at x;show W5 (hR s' T (q.mono f) (x.at λo e=>q.heap T o (hI _ _ _ _ m x) e) Y)
 |succ k ih=>
  intro i s T c hk hi m K V x Y hR;let t:i<n:=by lia
  show codeAny_builtin F.entry_sum_loop ?_;rw[Around.under_plainId aaO _];change wpAny _ A.in1 (seqItems? (.ref S) >>= _) _ _ s;show WT (X9 K rfl ?_);change wpAny _ A.in1 (tryCatch (pyNext (.ref I)) _ >>= _) _ _ s;show WT (wpAny_tryCatch (W.item i s _ _ t m λv s' J y q=>?_));let H:=q.heap S _ aD K;obtain⟨a,rfl,ha,ia⟩:=hP i v t J;let au:s'.heap.IsTuple T (ao.take i).flatten.toArray:=x.at λo e=>q.heap T o (hI _ _ _ _ m x) e;let Q:s'.heap.IsTuple a (ao.getD i []).toArray:=ia.at λo e=>q.heap a o (λh=>ha (f _ h)) (V a o ha e);let d:=Jw (ao:=ao) (i:=i) (by lia)
  let C:(ao.take i).flatten.length+(ao.getD i []).length<=sizeLine:=by
   let h1:ao.flatten=(ao.take (i+1)).flatten++(ao.drop (i+1)).flatten:=by rw[<-List.flatten_append,abU]
   let h2:=Ye List.length h1;rw[d,X8,X8]at h2;lia
  change wpAny _ A.in1 ((holding [Value.ref a] (binaryOp .Add (.ref T) (.ref a))).attempt >>= _) _ _ _;show WT (ZL (Zq (NZ au Q C λr L ir g X=>?_)));let u:L.get? S=_:=g _ _ H;change wpAny _ A.in1 (updateSeq S (λ_=> #[.ref r]) >>= _) _ _ _;show WT (abH (s:={s' with heap:=L}) u rfl ?_);let D:=Zp (Obj.mapSeq λ_=> #[Value.ref r]) u rfl;let ah:r≠S:=Kc ir u rfl;show WT (Zg ?_);let p:∀b o,b≠S->L.get? b=some o->((L.update S (Obj.mapSeq λ_=> #[Value.ref r])).update S (Obj.mapSeq λ_=> #[Value.ref r])).get? b=some o:=λb o l e=>(ZW _ _ (λh:S=b=>l h.symm)).trans ((ZW _ _ (λh:S=b=>l h.symm)).trans e);show WT (abH D rfl (W5 ⟨plainId_quiet aaO _,ih (i+1) _ r _ (by lia) t (W.frame _ s' _ _ y (WX _) λb l o e=>?_) (Zp _ D rfl) (λb o l e=>?_) ?_ ?_ λN O B U M=>?_⟩))
  . show p b o (λh=>E (by rw[<-h];show l)) (g _ _ e)
  . show p b o (λh=>l (by rw[h];show Xk)) (g _ _ (q.heap b o (λh=>l (f _ h)) (V b o l e)))
  . rw[d];show ir.at λo e=>p r o ah e
  . unfold Iw;rw[d];rcases X with⟨z,rfl⟩|⟨z,rfl⟩|rfl
    . show .inr (.inl ⟨i,by lia,J,by rw[z];rfl⟩)
    . rw[z,YD];rcases Y with h|⟨j,hj,h⟩|h
      . show .inl h
      . show .inr (.inl ⟨j,by lia,h⟩)
      . show .inr (.inr h)
    . show .inr (.inr (WZ Z (YQ (W8 H))))
  . show hR N O (Moved.trans W.gtrans ((q.mono f).then_heap (WX _) λb o l e=>?_) B) U M;show p b o (λh=>l (by rw[h];show Xk)) (g _ _ e)
end
section
variable {prog:Program}{w:World}{A:Around}{E:Value->Shared->Prop}{s:Shared}
def Hw(a b:Value):argsOk "sum" ⟨[a,b],[]⟩:=by unfold argsOk;kernel_rfl
def BS(L:A.in1.handled=none){t e:Addr}{us:List Value}{ao:List (List Value)}(l:s.heap.IsTuple t us.toArray)(D:s.heap.IsTuple e #[])(K:ao.length=us.length)(I:ao.flatten.length<=sizeLine)
 (O:∀(j:Nat) (v:Value),us[j]?=some v->∃a,v= .ref a/\s.heap.IsTuple a (ao.getD j []).toArray)
 (q:∀s' r,s'= {s with heap:=s'.heap,toks:=s'.toks}->(∀b o,s.heap.get? b=some o->s'.heap.get? b=some o)->s'.heap.IsTuple r ao.flatten.toArray->Iw (λi v=>us[i]?=some v) ao e s.heap.objs.size us.length r->Q (.ref r) s'):
 wpAny (model prog w) A (call (.builtin "sum") [.ref t,.ref e]) Q E s:=by
 show call_function_tree F.kind_sum F.plain_sum F.entry_sum (Hw _ _) ?_;unfold Builtin.«sum»;simp![Xw,aaq];rw[WW (by decide)];show WT (wpAny_of_eq (show Builtin.Builtins.bindParams "sum" ["start"] 0 ⟨[.ref e],[]⟩=pure [some (.ref e)]from rfl) ?_);show WT (Zj l ?_);let n:({s with heap:=s.heap.push {cls:= .type "tuple_iterator",data:= .fields #[.ref t,.int 0 0]}}:Shared).TypeIs (.ref e) "tuple":=(D.at λo x=>WU _ x).typeIs;show WT (W5 ?_);simp![ZQ,ZX];show WT (WT (WT (ZF (T:="tuple") (b:=false) n F.sub_tuple_str ?_)));simp![YS,Zr];show W5 (WT (WT (ZF (T:="tuple") (b:=false) n F.sub_tuple_bytes ?_)));simp![YS,Zr];show W5 (WT (WT (ZF (T:="tuple") (b:=false) n F.sub_tuple_bytearray ?_)));simp![YS,Zr];show W5 (W5 ?_);show WT (YW ?_);let u:t≠s.heap.objs.size:=Xn (by obtain⟨o,x,_⟩:=l;show W8 x);let W:=(Walks.tuple (prog:=prog) (w:=w) (A:=A.in1) L s.heap.objs.size t u us.toArray).toS;let c:(s.heap.push {cls:= .type "tuple_iterator",data:= .fields #[.ref t,.int 0 0]}).objs.size=s.heap.objs.size+1:=XJ _ _
 let N:(s.heap.push {cls:= .type "tuple_iterator",data:= .fields #[.ref t,.int 0 0]}).objs.size∉[s.heap.objs.size,t]:=by
  rw[c];intro h;simp![Xh,Xi,YY]at h;let f:t<s.heap.objs.size:=by obtain⟨o,x,_⟩:=l;show W8 x
  rcases h with h|h
  . show absurd h (Nat.succ_ne_self _)
  . rw[<-h]at f;show absurd f (ab3.mpr (aaD _))
 let k:∀b o,s.heap.get? b=some o->(s.heap.push {cls:= .type "tuple_iterator",data:= .fields #[.ref t,.int 0 0]}).get? b=some o:=λb o x=>WU _ x
 let d:∀b o,s.heap.get? b=some o->b∉[(s.heap.push {cls:= .type "tuple_iterator",data:= .fields #[.ref t,.int 0 0]}).objs.size,s.heap.objs.size]:=λb o x h=>by
  let G:=W8 x;rw[c]at h;simp![Xh,Xi,YY]at h;rcases h with rfl|rfl
  . show absurd G (ab3.mpr (aaD _))
  . show XU _ G
 show W5 ⟨plainId_quiet aaO _,xh W ao (by rw[W6];show K) I _ e s.heap.objs.size _ N (by rw[c];show aaD _) ?_ ?_ us.toArray.size 0 _ e 0 (by lia) (Xq _)
  (W.frame 0 {s with heap:=s.heap.push {cls:= .type "tuple_iterator",data:= .fields #[.ref t,.int 0 0]}} _ _ ⟨⟨_,Xe _ rfl,rfl,rfl⟩,l.at λo x=>k _ _ x⟩ (WX _) λb _ o x=>WU _ x) (Xe _ rfl) (λb o _ x=>WU _ x) (D.at λo x=>WU _ (k _ _ x)) (.inl ⟨rfl,rfl⟩) ?_⟩
 . rintro i U T S ⟨R,_⟩ P m;let:T=s.heap.objs.size:=by simpa using m
   subst this;obtain⟨o,x,M,_⟩:=R;obtain⟨V,y,g,_⟩:=P;rw[x]at y;cases y;rw[M]at g;show absurd g (by decide)
 . intro j v X J;obtain⟨a,rfl,C⟩:=O j v (by simpa using J);let p:=C;obtain⟨o,x,_⟩:=p;show⟨a,rfl,d a o x,C.at λo x=>k _ _ x⟩
 . intro s' r m H B;show q s' r ?_ (λb o x=>m.heap b o (d b o x) (WU _ (k _ _ x))) H ?_
   . have z:=Moved.eq_with m;show z
   . unfold Iw at B⊢;simpa using B
end
def oR:List D->Option (List (List D))
 | []=>some []
 | .tup a::r=>(oR r).map (a:: ·)
 |_=>none
def AE:d8:=λc st K=>match c with
 | [.tup b,.tup []]=>(match oR b with|some a=>a.flatten.length<=sizeLine/\K (.tup a.flatten) st|none=>False)
 |_=>False
section
variable {X:Cx}{pins:List (Addr×Obj)}{σ:L2.St}{H:Hp}{s:Shared}{α:List (Option Addr)}
def l7(α:List (Option Addr))(H:Hp)(h:Heap):List (List D)->List Value->List (List V)->List (List Value)->Prop
 | [],[],[],[]=>True
 |b::yss,u::us,c::wss,is::iss=>(∃a,u= .ref a/\Rep α H (.tup b) (.ref a)/\aG α H b c/\Vals c is/\h.IsTuple a is.toArray)/\l7 α H h yss us wss iss
 |_,_,_,_=>False
def PD(I:Inv X pins σ H s)(P:cu G y H):∀ {xs:List D} {yss:List (List D)} {vs:List V} {us:List Value},aG α G xs vs->oR xs=some yss->Vals vs us->∃a c,l7 α G s.heap yss us a c:=by
 intro xs;induction xs with
 |nil=>
  intro yss vs us r e d;cases e;unfold aG at r;subst r;cases d;show⟨[],[],trivial⟩
 |cons x xs u=>
  intro yss vs us r e d;unfold aG at r;obtain⟨v,l,rfl,i,n⟩:=r;cases d with
  |cons h t=>
   cases x with
   |tup z=>
    unfold oR at e;cases f:oR xs with
    |none=>rw[f]at e;cases e
    |some j=>
     rw[f]at e;cases e;let g:=i;unfold Rep at g;obtain⟨b,k,rfl,A,w,m⟩:=g;obtain⟨is,p,o,_⟩:=I.tuple (iC.of (P.get w));cases h;obtain⟨a,c,q⟩:=u n f t;show⟨k::a,is::c,⟨b,rfl,i,m,p,o⟩,q⟩
   |_=>cases e
def l7.get{h:Heap}:∀ {b:List (List D)} {us:List Value} {wss:List (List V)} {iss:List (List Value)} {j:Nat} {v:Value},l7 α H h b us wss iss->us[j]?=some v->∃a,v= .ref a/\Rep α H (.tup (b.getD j [])) (.ref a)/\h.IsTuple a (iss.getD j []).toArray
 | [],[],[],[],j,v,_,e=>by simp at e
 |c::b,u::us,d::wss,is::iss,0,v,t,e=>by
  obtain⟨⟨a,rfl,r,_,_,i⟩,_⟩:=t;cases e;show⟨a,rfl,r,i⟩
 |c::b,u::us,d::wss,is::iss,j+1,v,t,e=>by
  obtain⟨a,k,g,f⟩:=l7.get (j:=j) t.2 (by simpa using e);show⟨a,k,by simpa using g,by simpa using f⟩
def l7.len:∀ {b:List (List D)} {us:List Value} {wss:List (List V)} {iss:List (List Value)},l7 α H h b us wss iss->iss.length=us.length/\iss.flatten.length=b.flatten.length/\aG α H b.flatten wss.flatten/\Vals wss.flatten iss.flatten/\(∀j,(iss.getD j []).length=(b.getD j []).length)/\b.length=us.length
 | [],[],[],[],_=>⟨rfl,rfl,by unfold aG;trivial,.nil,λ_=>rfl,rfl⟩
 |e::b,u::us,n::wss,is::iss,t=>by
  obtain⟨⟨a,rfl,r,d,c,i⟩,t⟩:=t;obtain⟨m,o,l,k,g,f⟩:=l7.len t;let z:is.length=e.length:=by rw[<-c.length,<-d.length]
  show⟨by simp[m],by simp![XE,X8];lia,?_,?_,λj=>?_,by simp[f]⟩
  . rw[XE,XE];show aV.mpr (dJ (aV.mp d) (aV.mp l))
  . rw[XE,XE];show c.append k
  . cases j with
    |zero=>show z
    |succ j=>simpa using g j
def CF{α:Type}:∀ {a:List (List α)} {j:Nat},a.flatten.length=(a.getD j []).length->a.flatten=a.getD j []
 | [],_,_=>rfl
 |b::a,0,h=>by
  rw[XE,X8]at h;let:a.flatten=[]:=Yh.mp (by simp at h⊢;show h);rw[XE,this,YD];rfl
 |b::a,j+1,h=>by
  rw[XE,X8]at h;let d:b.length+a.flatten.length=(a.getD j []).length:=by simpa using h
  let f:(a.getD j []).length<=a.flatten.length:=by
   by_cases c:j<a.length
   . rw[Xa,W7 c];show(List.sublist_flatten_of_mem (XX c)).length_le
   . rw[Xa,Yw (by lia)];simp
  let e:b=[]:=Yh.mp (by lia);subst e;rw[XE,abG,CF (j:=j) (by simpa using d)];simp
def Q_(hc:X.calm=true):bH X (.builtin "sum") (fy AE):=λpins s σ H xs N Q I R ⟨α,ds,st,K,G,F',P,r,S,q,k⟩=>by
 unfold AE at q;split at q
 . rename_i ys;split at q
   . rename_i c e;obtain⟨v,u,rfl,U,w⟩:=mX r rfl;obtain⟨v',u',rfl,O,g⟩:=vals2 R;let i:=U;unfold Rep at i;obtain⟨t,vs,rfl,nt,ht,Y⟩:=i;cases O;obtain⟨N,W,V,_⟩:=I.tuple (iC.of (P.get ht));obtain⟨e',M,p,rfl,A,y,x⟩:=tup_is I (w.mono P.same) g;let e0:p=[]:=Yh.mp (by rw[<-y.length,<-A.length];rfl);subst e0;obtain⟨d,ah,T⟩:=PD I P Y e W;obtain⟨l1,m,l3,F,Z,l6⟩:=T.len;show BS (I.ok.hd hc) V x l1 (by rw[m];show q.1) (λj v hv=>by obtain⟨a,D,_,J⟩:=T.get hv;show⟨a,D,J⟩) λl f es B ir L=>?_;rw[es];rcases L with⟨rfl,z⟩|⟨j,hj,C,z⟩|h
     . have n:c.flatten=[]:=Yh.mp (by rw[<-m];rw[Y2 (by lia)]at z;rw[z];rfl);rw[n]at q
       let hu:u= .ref f:=by
        let E:=w;unfold Rep at E;obtain⟨b,_,rfl,_⟩:=E;cases g;rfl
       subst hu;show⟨.ref f,H,I.kept (t':=l.toks) B,rfl,k.here P q.2 S w⟩
     . obtain⟨a,D,h2,J⟩:=T.get C;cases D;rw[Y2 (by lia)]at z;let n:c.flatten=c.getD j []:=CF (by rw[<-m,<-Z,z]);rw[n]at q;show⟨.ref f,H,I.kept (t':=l.toks) B,rfl,k.here P q.2 S h2⟩
     . have hR:L2.di X.prog X.w (upd H f (.tup d.flatten)) l.heap f (.tup d.flatten):=⟨by rw[F.length,m];show q.1,_,F,ir⟩
       show⟨.ref f,_,I.laid (t':=l.toks) (o:= .tup d.flatten) B h hR,rfl,k.tup P q.2 S l3 (I.aI.fresh h)⟩
   . show q.elim
 . show q.elim
@[irreducible] def uu:d8:=AE
def QU(a:X.calm=true):bH X (.builtin "sum") (fy uu):=by unfold uu;show Q_ a
end
def OQ{st:af}{K:DK}{xs:List D}{a:List (List D)}(h:oR xs=some a)(b:a.flatten.length<=sizeLine)(k:K (.tup a.flatten) st):uu [.tup xs,.tup []] st K:=by unfold uu AE;simp![h];show⟨b,k⟩
end L3
namespace L3
open PySem L2
open PySem.Spec hiding items?
open PyProof.Rows hiding St
section
variable {X:Cx}
def Al:d8:=λb st K=>match b with| [.lst a]=>(match gQ a with|some bs=>K (.bl (bs.any id)) st|none=>False)|_=>False
def range_any{α:Type}(l:List α)(f:α->Bool)(tr:Nat->Bool)(h:∀i x,l[i]?=some x->tr i=f x):(List.range l.length).any tr=l.any f:=by
 induction l generalizing tr with
 |nil=>rfl
 |cons a l b=>
  rw[Xw,Yp,abd,abd,List.any_map,h 0 a rfl];congr 1;show b (tr∘Nat.succ) λi x e=>h (i+1) x (by simpa using e)
def Ue(F:X.calm=true):bH X (.builtin "any") (fy Al):=λm s σ H T V Q I B ⟨α,Z,st,K,G,F',P,r,S,q,k⟩=>by
 unfold Al at q;split at q
 . rename_i R;split at q
   . rename_i bs e;obtain⟨v,rfl,l⟩:=gI r rfl;unfold Rep at l;obtain⟨a,U,rfl,na,M,L⟩:=l;obtain⟨u,rfl,y⟩:=vals1 B;cases y;let D:=qz L e;subst D;obtain⟨z,ao,n,t,Y,j⟩:=Inv.rY I (fi P M);let c:=qf t;subst c;let g:s.heap.IsList a (bs.map Value.bool).toArray:=⟨_,j,rfl,n,rfl⟩
     show call_any_walk (Zw g ?_);let h:a≠s.heap.objs.size:=Xn (W8 j);show⟨s.heap.objs.size,_,_,_,_,_,λi=>(bs[i]?).getD true,rfl,Walks.list (A:=X.A.in1) (I.ok.hd F) _ a h (bs.map Value.bool).toArray,⟨⟨_,Xe _ rfl,rfl,rfl⟩,⟨_,WU _ j,rfl,n,rfl⟩⟩,?_,?_⟩
     . intro i w W Q' E' d p;rw[abQ,W_]at d;cases f:bs[i]? with
       |none=>rw[f]at d;cases d
       |some b=>
        rw[f]at d;cases d;simp![f]at p;show Zd p
     . intro N tk E
       let C:∀b o,s.heap.get? b=some o->N.get? b=some o:=λb o q=>E b o (by
        intro J;let:b=s.heap.objs.size:=by simpa using J
        show absurd (W8 q) (by rw[this];show XU _)) (WU _ q)
       let O:(List.range (bs.map Value.bool).toArray.size).any (λi=>(bs[i]?).getD true)=bs.any id:=by
        rw[W6,W2];show range_any bs id _ λi x e=>by rw[e];rfl
       rw[O];show⟨.bl (bs.any id),H,I.kept (t':=tk) C,rfl,k.here P q S (by unfold Rep;rfl)⟩
   . show q.elim
 . show q.elim
@[irreducible] def CV:d8:=Al
def Nh(a:X.calm=true):bH X (.builtin "any") (fy CV):=by unfold CV;show Ue a
end
def SM{st:af}{K:DK}{xs:List D}{bs:List Bool}(h:gQ xs=some bs)(k:K (.bl (bs.any id)) st):CV [.lst xs] st K:=by unfold CV Al;simp![h];show k
def putD(f:Str)(v:D):List (Str×D)->List (Str×D)
 | []=>[(f,v)]
 |(g,x)::r=>if g=f then(g,v)::r else(g,x)::putD f v r
def j7.look:∀ {fs:List (Str×D)} {vs:List (Str×V)},j7 α H fs vs->fs.lookup f=some v->∃u,vs.lookup f=some u/\Rep α H v u
 | [],_,_,e=>by cases e
 |(g,x)::fs,_,.cons (b:=q) h t,e=>by
  obtain⟨i,y⟩:=q;obtain⟨d,c⟩:=h;simp only at d c;subst d;rw[XN]at e⊢;cases a:f==g with
  |true=>rw[a]at e;cases e;show⟨y,rfl,c⟩
  |false=>rw[a]at e;show j7.look t e
def j7.none:∀ {fs:List (Str×D)} {vs:List (Str×V)},j7 α H fs vs->fs.lookup f=Option.none->vs.lookup f=Option.none
 | [],_,.nil,_=>rfl
 |(g,x)::fs,_,.cons (b:=q) h t,e=>by
  obtain⟨i,y⟩:=q;obtain⟨c,d⟩:=h;simp only at c d;subst c;rw[XN]at e⊢;cases a:f==g with
  |true=>rw[a]at e;cases e
  |false=>rw[a]at e;show j7.none t e
def j7.put(r:Rep α H d v):∀ {fs:List (Str×D)} {vs:List (Str×V)},j7 α H fs vs->j7 α H (putD f d fs) (gS f v vs)
 | [],_,.nil=> .cons ⟨rfl,r⟩ .nil
 |(g,x)::fs,_,.cons (b:=q) h t=>by
  obtain⟨i,y⟩:=q;obtain⟨e,c⟩:=h;simp only at e c;subst e;unfold putD gS;by_cases a:g=f
  . rw[WY a,WY a];show .cons ⟨rfl,r⟩ t
  . rw[WW a,WW a];show .cons ⟨rfl,c⟩ (j7.put r t)
def LW(C:Addr)(f:Str)(d:D)(st:af)(K:DK):Prop:=match d with
 | .ref n=>(match st[n]? with|some (.ins a fs)=>a=C/\∃v,fs.lookup f=some v/\K v st|_=>False)
 |_=>False
@[irreducible] def Gw(C:Addr)(f:Str):D->af->DK->Prop:=LW C f
def cv(C:Addr)(f:Str)(b:DE):DE:=λσ st K=>b σ st λd a=>Gw C f d a K
def bg{C:Addr}{f:Str}{n:Nat}{st:af}{K:DK}{fs:List (Str×D)}{v:D}(e:st[n]?=some (.ins C fs))(h:fs.lookup f=some v)(k:K v st):Gw C f (.ref n) st K:=by
 unfold Gw LW;simp![e];show⟨trivial,v,h,k⟩
def Gz(C:Addr)(f:Str)(x d:D)(st:af)(K:af->Prop):Prop:=match x with
 | .ref n=>(match st[n]? with|some (.ins a fs)=>a=C/\fs.length<1000/\K (st.set n (.ins C (putD f d fs)))|_=>False)
 |_=>False
@[irreducible] def An(C:Addr)(f:Str):D->D->af->(af->Prop)->Prop:=Gz C f
def lV(C:Addr)(f:Str)(e g:DE):DS:=λD σ st=>g σ st λd c=>e σ c λx b=>An C f x d b λa=>D.nx σ a
def kh{C:Addr}{f:Str}{n:Nat}{d:D}{st:af}{K:af->Prop}{fs:List (Str×D)}(e:st[n]?=some (.ins C fs))(h:fs.length<1000)(k:K (st.set n (.ins C (putD f d fs)))):An C f (.ref n) d st K:=by
 unfold An Gz;simp![e];show⟨trivial,h,k⟩
def Ar(C:Addr)(m:Str)(x:D)(st:af)(k:Prop):Prop:=match x with
 | .ref n=>(match st[n]? with|some (.ins a fs)=>a=C/\fs.lookup m=none/\k|_=>False)
 |_=>False
@[irreducible] def wj(C:Addr)(m:Str):D->af->Prop->Prop:=Ar C m
def cX{C:Addr}{m:Str}{n:Nat}{st:af}{k:Prop}{fs:List (Str×D)}(e:st[n]?=some (.ins C fs))(h:fs.lookup m=none)(q:k):wj C m (.ref n) st k:=by
 unfold wj Ar;simp![e];show⟨trivial,h,q⟩
def de(C:Addr)(m:Str)(S:bN)(c:DE)(t:DA):DE:=λσ st K=>c σ st λx a=>wj C m x a (t σ a λd b=>S (x::d) b K)
def wQ(C:Addr)(S:bN)(t:DA):DE:=λσ st K=>t σ st λc a=>S (.ref a.length::c) (a++[.ins C []]) λr b=>r= .aD/\K (.ref a.length) b
section
variable {X:Cx}{C f g:Addr}{fd:FuncData}{k:Nat}{x m fl:Str}{e o value:Expr}{es:List Expr}{p pos pos' apos:Pos}{te to:DE}{t:DA}{S:bN}{ps:List Str}
def UK(c:mv X.K C)(na:fB X.K C fl)(B:PE X e (LE te))(D:attributeBase e fl X.env (eval e X.env)=eval e X.env):PE X (.Attribute e fl pos) (LE (cv C fl te)):=PE.imp (Rv B D) λσ H Q ⟨α,j,st,K,G,F,P,R,S,t,k⟩=>by
 show⟨α,j,st,_,G,F,P,R,S,t,λd n q N O H1 v r i h y=>?_⟩;unfold Gw LW at q;cases d<;>try show q.elim
 simp only at q;split at q
 . rename_i T fs L;obtain⟨rfl,w,z,q⟩:=q;obtain⟨a,J,M,l,I,E⟩:=h.xq L;let b:=cZ J y;subst b;obtain⟨u,A,s⟩:=E.look z;show⟨a,_,M,l,u,rfl,i.get I,c,na,A,(k.at r).here i q h s⟩
 . show q.elim
def Rk(c:mv X.K C)(na:fB X.K C fl)(Q:PE X o (LE to))(N:PE X value (LE te))(O:swapsWith value (some (.Attribute o fl pos')) pos.line X.env=pure false):PS X (.Assign [.Attribute o fl pos'] value pos) (LS (lV C fl to te)):=PS.imp (Qg Q N O) λD σ H ⟨α,i,st,DD,G,F,P,R,S,t,k⟩=>by
 show⟨α,i,st,_,G,F,P,R,S,t,λd j q I Z H1 v n W V L=>?_⟩;show⟨I,i,j,_,Z,F,W,R.step n,V,q,λx J b y Y H2 v2 l E B K=>?_⟩;unfold An Gz at b;cases x<;>try show b.elim
 simp only at b;split at b
 . rename_i C' fs U;obtain⟨rfl,T,b⟩:=b;obtain⟨a,u,w,h,A,z⟩:=B.xq U;let r:=cZ u K;subst r;let s:some a∈y:=Xu u;let M:h.length<1000:=by rw[<-z.length];show T
   show⟨a,_,w,h,rfl,E.get A,c,na,M,?_⟩;show((k.nx.at n).at l) i _ b y (upd Y a (.ins _ w (gS fl v h))) _ σ (Step.write s) (E.write A) (((R.step n).step l).step (Step.write s)) ?_;show B.write u ⟨w,gS fl v h,a9,(z.put (L.step l)).step (Step.write s)⟩
 . show b.elim
def LE.Ts(h:LE (de C m S to t) σ H Q):Fx C m (gF S) [] E0 (LE to) (LA t) σ H Q:=by
 obtain⟨α,j,st,K,G,F,P,R,T,B,k⟩:=h;show⟨α,j,st,_,G,F,P,R,T,B,λd c q z Y H1 v r w u s=>?_⟩;unfold wj Ar at q;cases d<;>try show q.elim
 simp only at q;split at q
 . rename_i n C' fs N;obtain⟨rfl,I,q⟩:=q;obtain⟨a,M,O,A,L,J⟩:=u.xq N;let i:=cZ M s;subst i;show⟨a,O,A,rfl,w.get L,J.none I,?_⟩;show⟨z,j,c,_,Y,F,w,R.step r,u,q,λds b E y W H2 Z l V U D=>?_⟩;try dsimp only
   rw[YD];show⟨y,_,b,K,W,F,V,by unfold aG;show⟨_,_,rfl,s.step l,D⟩,U,E,(k.at r).at l⟩
 . show q.elim
def LE.make(h:LE (wQ C S t) σ H Q):M6 C (gF S) [] E0 (LA t) σ H Q:=by
 obtain⟨α,M,st,K,G,F,P,R,Y,O,k⟩:=h;show⟨α,M,st,_,G,F,P,R,Y,O,λW b q i s H1 us T L z U=>?_⟩;intro x a V r y;let l:=(L.none r).1;let J:=L.laid (o:= .own x) r;let S2:=z.laid (o:= .own x) l;let j:upd H1 a (.own x) x=none:=by rw[aB (W4 y)];show V
 let n:=(J.none j).1;let P3:=J.laid (o:= .ins C a []) j;let Z:=S2.cell (o:= .ins C a []) (c:= .ins C []) n ⟨a,[],a9,.nil⟩;let B:Step i s i (upd s a (.own x)):=Step.laid l;let A:Step i (upd s a (.own x)) (i++[some x]) (upd (upd s a (.own x)) x (.ins C a [])):=Step.cell n
 let E:Rep (i++[some x]) (upd (upd s a (.own x)) x (.ins C a [])) (.ref b.length) (.ref x):=by
  unfold Rep;show .inr ⟨x,?_,rfl⟩;rw[Xr (by rw[z.len];show WX _),z.len,Y0];rfl
 rw[YD];show⟨i++[some x],.ref b.length::W,b++[.ins C []],_,_,F,P3,by unfold aG;show⟨_,_,rfl,E,(U.step B).step A⟩,Z,q,λd u w N G' H' v D P' S' I=>?_⟩;obtain⟨rfl,w⟩:=w;unfold Rep at I;show⟨I,(((k.at T).at B).at A) _ u w N G' H' _ D P' S' (E.step D)⟩
end
def Qe(a:Int)(n:Nat):It:=⟨λi _=>i<n,λi H x b=>b=H/\x= .int (a+(i:Nat)*(-1)),λi _=>n<=i⟩
def H_{P:Program}{w:World}{K:PySem.W.Frag}{D:Expr}(it:Addr)(a:Int)(n:Nat):Turn P w K D (Qe a n) [it] it (λi h=>IsRangeIter h it (a+(i:Nat)*(-1)) ((n:Int)-(i:Nat)) (-1)) where
 mem:=by simp
 obj:=λi h st b d=>by
  let e:b=it:=by simpa using d
  subst e
  show⟨_,st,λv z=>by
   let C:Data.fields _=Data.cell v:=z;cases C⟩
 keep:=λi h j st k=>k it (by simp) _ st
 item:=by
  intro X q l r p i c s σ H E I g st m;subst q l r;obtain⟨B,A,J,y,x,u⟩:=g it (by simp);let W:=Walks.range (prog:=X.prog) (w:=X.w) (I.ok.hd p) it a (-1) n;show W.item i s _ _ m st λv j tk G f F=>?_;obtain⟨t,rfl⟩:=G;let M:Inv X c σ H {s with heap:=j,toks:=tk}:=I.turned (λb o d e=>F b o (by simpa using d) e) B A y x u;show⟨_,rfl,Ah (s:={s with heap:=j,toks:=tk}) (n:="range_iterator") f rfl rfl (by decide) ⟨.int (a+(i:Nat)*(-1)),H,M,⟨t,rfl⟩,⟨rfl,rfl⟩,f,λb d=>(g b d).1⟩⟩
 done:=by
  intro X q l r p i c s σ H E I g st m;subst q l r;obtain⟨B,A,J,y,x,u⟩:=g it (by simp);show wpAny_pyNext_range_end (I.ok.hd p) st (by let:n<=i:=m;lia) λj L=>⟨rfl,I.turned (t':=s.toks) (λb o d e=>L b o d e) B A y x u⟩
 self:=λ_ _ _ _ _ st h=>wpAny_pyIter_rangeiter st h
def zN(a b:Int):Builtin.Range.rangeSize a b (-1)=((a-b).toNat:Int):=by
 unfold Builtin.Range.rangeSize;rw[WW (by decide)];let e:(a-b-1)/(- -1:Int)=a-b-1:=by simp
 rw[e];split<;>lia
def small_down(f: -(2^62)<=a)(d:a<2^62)(e: -(2^62)<=b)(c:b<2^62):Builtin.Range.small a b (-1)=true:=by
 unfold Builtin.Range.small;rw[zN];simp![Builtin.Range.rangeFitsLong,Yc,aao,decide_eq_true_eq,Y7,show¬((-1:Int)>0) by decide,Zr];lia
def MU(b:TA):TI:=λσ H R=>b σ H λa H1=>∃i j:Int,a=[.int i,.int j,.int (-1)]/\(-(2^62)<=i/\i<2^62/\ -(2^62)<=j/\j<2^62)/\R (Qe i (i-j).toNat) H1
section
variable {X:Cx}{tg:Expr}
def I_{a b c:Expr}{w:TA}{p pos:Pos}(E:Gl X "range")(D:X.mg "range"=none)(G:PA X [a,b,c] w)(C:notStar a=true:=by rfl)(v:notStar b=true:=by rfl)(u:notStar c=true:=by rfl):
 PI X tg (.Call (.Name "range" p) [a,b,c] [] pos) (MU w):=by
 intro d s σ H R I h;show Call_ (jL I E D boot_range (Yv (bQ (G pos d s σ H _ I h) λN f ⟨M,H1,L,x,n⟩=>?_) (cz C) (jY (by simp[f9,v,u]))));obtain⟨i,j,e,⟨n,B,A,z⟩,q⟩:=n;subst e;cases x with
 |cons r k=>
  cases k with
  |cons y k=>
   cases k with
   |cons m k=>
    cases k;obtain⟨t,rfl⟩:=r;obtain⟨t',rfl⟩:=y;obtain⟨g,rfl⟩:=m;show call_range_3 (by decide) ?_ (Or.inl (abz (by decide+kernel)));show wpAny_pyIter_range (IsRange.new ..) (small_down n B A z) ?_;let l:Inv X d σ H1 {f with heap:=f.heap.push {cls:= .type "range",data:= .fields #[.int i t,.int j t',.int (-1) g]},toks:=f.toks}:=L.kept λb o e=>WU _ e;generalize({f with heap:=f.heap.push {cls:= .type "range",data:= .fields #[.int i t,.int j t',.int (-1) g]},toks:=f.toks}:Shared)=s2 at l⊢;show⟨s2.heap.objs.size,[s2.heap.objs.size],_,_,H1,rfl,l.kept (t':=s2.toks) λb o e=>WU _ e,H_ _ i (i-j).toNat,?_,λb F=>?_,q⟩
    . change IsRangeIter _ _ (i+((0:Nat):Int)*(-1)) ((((i-j).toNat:Nat):Int)-((0:Nat):Int)) (-1);let K:i+((0:Nat):Int)*(-1)=i:=by lia
      let J:(((i-j).toNat:Nat):Int)-((0:Nat):Int)=Builtin.Range.rangeSize i j (-1):=by rw[zN];lia
      rw[K,J];show Xe _ rfl
    . have e:b=s2.heap.objs.size:=by simpa using F
      subst e;show l.sv (WX _) (l.aI.fresh (WX _))
end
def jP(a:Int)(n:Nat):List D:=(List.range n).map λ(k:Nat)=>D.int (a+(k:Nat)*(-1))
def sY{n k:Nat}:(jP a n)[k]?=if k<n then some (.int (a+(k:Nat)*(-1)))else none:=by
 unfold jP;rw[W_];by_cases h:k<n
 . rw[Yb h,WY h];rfl
 . rw[Yw (by simpa using h),WW h];rfl
def oC:(jP a n).length=n:=by unfold jP;simp
def Pw:sW (Qe a n) α G (λ_=>True) (jP a n) where
 stop:=λm f e h g c s P S o b=>by rw[oC]at b;show b
 go:=λm d f e h g c s P S o b=>by
  rw[sY]at b;split at b
  . assumption
  . cases b
 nQ:=λm d f e h g c x i s P S o b y=>by
  obtain⟨rfl,rfl⟩:=y;rw[sY]at b;split at b
  . cases b;show⟨e,Step.refl,P,S,by unfold Rep;rfl⟩
  . cases b
def TB(b:List D)(a:af)(K:List D->(af->Prop)->af->Prop):Prop:=match b with
 | [.int i,.int j,.int c]=>(c= -1/\ -(2^62)<=i/\i<2^62/\ -(2^62)<=j/\j<2^62)/\K (jP i (i-j).toNat) (λ_=>True) a
 |_=>False
@[irreducible] def AB:List D->af->(List D->(af->Prop)->af->Prop)->Prop:=TB
def yp(t:DA):DI:=λσ st K=>t σ st λb a=>AB b a K
def Hc{e a:Expr}(h:PI X e a (MU (LA t))):PI X e a (LI (yp t)):=PI.imp h λσ H R ⟨α,m,st,K,G,F,P,y,S,t,k⟩=>by
 show⟨α,m,st,_,G,F,P,y,S,t,λs b q n A H1 B o z x d=>?_⟩;unfold AB at q;match s,q,d with
 | [.int i,.int j,.int c],q,d=>
   obtain⟨v,u,w,rfl,l,g,f⟩:=Gy d rfl;unfold Rep at l g f;subst l g f;obtain⟨⟨rfl,r⟩,p⟩:=q;show⟨i,j,rfl,r,k _ _ b p _ n A H1 o z x Pw⟩
def NK{st:af}{i j:Int}{K:List D->(af->Prop)->af->Prop}(h: -(2^62)<=i/\i<2^62/\ -(2^62)<=j/\j<2^62)(k:K (jP i (i-j).toNat) (λ_=>True) st):AB [.int i,.int j,.int (-1)] st K:=by unfold AB;show⟨⟨rfl,h⟩,k⟩
def Kd{X:Cx}{h a b c:Expr}{p pos:Pos}{g:DA}(k:Gl X "range")(j:X.mg "range"=none)(f:JA X [a,b,c] g)(i:notStar a=true:=by rfl)(e:notStar b=true:=by rfl)(d:notStar c=true:=by rfl):JI X h (.Call (.Name "range" p) [a,b,c] [] pos) (yp g):=by
 unfold JI;unfold JA at f;show Hc (I_ k j f i e d)
section
variable {X:Cx}
def Tu:V->V->Hp->VK->Prop:=λo i H Q=>∃p a k j v,o= .ref p/\i= .int k/\H p=some (.lst a)/\0<=k/\km a.length k=some j/\a[j]?=some v/\Q v H
def Jd:Ri X Tu:=by
 intro c s σ H o i D E Q I f g h;obtain⟨p,C,k,j,v,rfl,rfl,m,e,y,l,q⟩:=h;cases f;obtain⟨t,rfl⟩:=g;obtain⟨B,n,r,u,F⟩:=I.lst m;obtain⟨d,L,K,z⟩:=x8 y;let J:=r.length;let G:=pU
 let x:k.toNat=j:=by
  rw[abL e z]at d;show XZ d
 obtain⟨w,A,a⟩:=r.get l;let b:s.heap.IsList p B.toArray:=⟨_,u,rfl,n,rfl⟩
 show wpAny_getItem_list b e (by lia) (by rw[x];simpa using A) ⟨v,H,I,a,q⟩
end
def FW(x y:D)(st:af)(K:DK):Prop:=match x,y with
 | .ref n,.int k=>(match st[n]? with|some (.lst a)=>0<=k/\(match dw a k with|some (.int u)=>K (.int u) st|_=>False)|_=>False)
 |_,_=>False
@[irreducible] def Am:D->D->af->DK->Prop:=FW
def Gr(f:Int->Int->Int)(x y a d:D)(st:af)(K:af->Prop):Prop:=match a,d with
 | .int u,.int v=>vK x y (.int (f u v)) st K
 |_,_=>False
@[irreducible] def AG(f:Int->Int->Int):D->D->D->D->af->(af->Prop)->Prop:=Gr f
def CT(f:Int->Int->Int)(h i j:DE):DS:=λD σ st=>h σ st λx g=>i σ g λy e=>Am x y e λu c=>j σ c λd b=>AG f x y u d b λa=>D.nx σ a
def ND{n:Nat}{k u:Int}{xs:List D}{st:af}{K:DK}(e:st[n]?=some (.lst xs))(b:0<=k)(a:dw xs k=some (.int u))(q:K (.int u) st):Am (.ref n) (.int k) st K:=by
 unfold Am FW;simp![e,a];show⟨b,q⟩
def O3{f:Int->Int->Int}{n j:Nat}{k u v:Int}{xs:List D}{st:af}{K:af->Prop}(e:st[n]?=some (.lst xs))(a:km xs.length k=some j)(q:K (st.set n (.lst (xs.set j (.int (f u v)))))):AG f (.ref n) (.int k) (.int u) (.int v) st K:=by
 unfold AG Gr vK;simp![e,a];show q
section
variable {X:Cx}{e o i value:Expr}{es:List Expr}{te to ti:DE}{t:DA}{pos pos' tpos apos p:Pos}{C f:Addr}{fl m x:Str}{S:bN}{k:Nat}{fd:FuncData}{ps:List Str}
def Ki{g:Int->Int->Int}(ho:PE X o (LE to))(hi:PE X i (LE ti))(he:PE X e (LE te))(hp:Cc X op (DY g))
 (ha:∀J K new,augStore i J K new=(do holding [new,J,K] (setItem J K new);release [new,J,K] [];pure .next)):PS X (.AugAssign (.Subscript o i tpos) op e pos) (LS (CT g to ti te)):=PS.imp (PJ ho hi Jd he hp set_list ha) λD σ H ⟨α,E,st,DD,G,F,P,R,S,t,k⟩=>by
 show⟨α,E,st,_,G,F,P,R,S,t,λx N q α1 G1 H1 v1 I P1 S1 r1=>?_⟩;show⟨α1,E,N,_,G1,F,P1,R.step I,S1,q,λy M b α2 G2 H2 v2 r P2 S2 Q=>?_⟩;unfold Am FW at b;cases x<;>cases y<;>try show b.elim
 rename_i n U;simp only at b;split at b
 . rename_i xs ex;obtain⟨h0,b⟩:=b;split at b
   . rename_i u B;obtain⟨a,ea,vs,hv,rv⟩:=S2.ie ex;let T:=cZ ea (r1.step r);subst T;unfold Rep at Q;unfold dw at B;cases ej:km xs.length U with
     |none=>rw[ej]at B;cases B
     |some j=>
      rw[ej]at B;let W:xs[j]?=some (.int u):=B;obtain⟨w,hw,s⟩:=rv.get W;unfold Rep at s;subst s;show⟨a,vs,U,j,.int u,rfl,Q,P2.get hv,h0,by rw[<-rv.length];show ej,hw,?_⟩;show⟨α2,E,M,_,G2,F,P2,(R.step I).step r,S2,b,λd ao c L G3 H3 v3 O P3 S3 r3=>?_⟩;unfold AG Gr at c;cases d<;>try show c.elim
      rename_i v;unfold Rep at r3;show⟨u,v,rfl,r3,?_⟩;unfold vK at c;simp only at c;split at c
      . rename_i ah e3;split at c
        . rename_i V Z;obtain⟨a',h,l,A,z⟩:=S3.ie e3;let ra:=cZ h ((r1.step r).step O);cases ra;let Y:some a∈L:=Xu h;show⟨a,l,U,V,rfl,Q,P3.get A,by rw[<-z.length];show Z,?_⟩;show(((k.nx.at I).at r).at O) E _ c L (upd G3 a (.lst (l.set V (.int (g u v))))) _ σ (Step.write Y) (P3.write A) ((((R.step I).step r).step O).step (Step.write Y)) ?_;show S3.write h ⟨_,a9,(aV.mpr (qH (show Rep L G3 (.int (g u v)) (.int (g u v)) by unfold Rep;rfl) V (aV.mp z))).step (Step.write Y)⟩
        . show c.elim
      . show c.elim
   . show b.elim
 . show b.elim
def Hm{value o:Expr}{fl:Str}{pos':Pos}:swapsWith value (some (.Attribute o fl pos')) n env=pure false:=by cases value<;>rfl
def bJ(c:mv X.K C)(na:fB X.K C fl)(a:JE X e te)(b:attributeBase e fl X.env (eval e X.env)=eval e X.env:=by rfl):JE X (.Attribute e fl pos) (cv C fl te):=by unfold JE at*;show UK c na a b
def kg(c:mv X.K C)(na:fB X.K C fl)(b:JE X o to)(a:JE X value te):JS X (.Assign [.Attribute o fl pos'] value pos) (lV C fl to te):=by unfold JS;unfold JE at*;show Rk c na b a Hm
def Lx{g:Int->Int->Int}(d:JE X o to)(hi:JE X i ti)(h:JE X e te)(c:Cc X op (DY g))
 (j:∀a b new,augStore i a b new=(do holding [new,a,b] (setItem a b new);release [new,a,b] [];pure .next):=by intros;rfl):JS X (.AugAssign (.Subscript o i tpos) op e pos) (CT g to ti te):=by unfold JS;unfold JE at*;show Ki d hi h c j
def dP{pl:Sem Bool}(n:JE X o to)(c:mv X.K C)(l:Meth X.K C m f)(F:cY X.prog X.w X.K X.mg X.base fR k f fd ps (gF S))(j:cK k X.A)(q:Binds X.K fd ps [])(b:JA X (e::es) t)
 (g:notStar e=true:=by rfl) (a:f9 es=true:=by rfl)
 (d:eval (.Call (.Attribute o m apos) (e::es) [] pos) X.env=(do
   let ov <-eval o X.env
   standAt apos.atName
   let(f,first) <-holding [ov] (getMethod ov m pl)
   callWith pos f first (backTo pos (starEach (e::es) X.env)) (backToKw pos (keywordEach [] X.env))):=by rfl):
 JE X (.Call (.Attribute o m apos) (e::es) [] pos) (de C m S to t):=by
 unfold JE at*;unfold JA at b;show PE.imp (N7 n c l F j q .nil Aw b (cz g) (jY a) d) λ_ _ _ h=>LE.Ts h
def OZ{pl:Sem Bool}(I:JE X o to)(c:mv X.K C)(D:Meth X.K C m f)(F:cY X.prog X.w X.K X.mg X.base fR k f fd ps (gF S))(B:cK k X.A)(J:Binds X.K fd ps [])
 (A:eval (.Call (.Attribute o m apos) [] [] pos) X.env=(do
   let ov <-eval o X.env
   standAt apos.atName
   let(f,first) <-holding [ov] (getMethod ov m pl)
   callWith pos f first (backTo pos (starEach [] X.env)) (backToKw pos (keywordEach [] X.env))):=by rfl):
 JE X (.Call (.Attribute o m apos) [] [] pos) (de C m S to ag):=by
 unfold JE at*;show PE.imp (Kp I c D F B J .nil Aw A) λσ H Q h=>?_;obtain⟨α,s,st,K,G,F,P,R,U,y,k⟩:=h;show⟨α,s,st,_,G,F,P,R,U,y,λd b q u V H1 v z r l j=>?_⟩;unfold wj Ar at q;cases d<;>try show q.elim
 simp only at q;split at q
 . rename_i n W fs O;obtain⟨rfl,E,q⟩:=q;obtain⟨a,N,T,w,M,L⟩:=l.xq O;let g:=cZ N j;subst g;show⟨a,T,w,rfl,r.get M,L.none E,u,_,b,K,V,F,r,by unfold aG;show⟨_,_,rfl,j,by unfold aG;rfl⟩,l,q,k.at z⟩
 . show q.elim
def A_(M:Mk X.K C f)(F:cY X.prog X.w X.K X.mg X.base fR k f fd ps (gF S))(j:cK (k+1) X.A)(l:Gl X x)(b:X.mg x=some (.ref C))(n:Binds X.K fd ps [])(d:JA X (e::es) t)(c:(x==("__debug__":Str))=false)
 (g:notStar e=true:=by rfl) (a:f9 es=true:=by rfl):JE X (.Call (.Name x p) (e::es) [] pos) (wQ C S t):=by
 unfold JE;unfold JA at d;show PE.imp (Ow M F j l b n .nil Aw d c (cz g) (jY a)) λ_ _ _ h=>LE.make h
end
end L3
namespace L2
open PySem PySem.Spec PyProof.Rows
structure Entry(K:PySem.W.Frag)(ts:List (Addr×Addr))(a:Addr)(ns:List Int)(H:Hp):Prop where
 lst:mi K H a (ns.map V.int)
 tab:∀q∈ts,H q.2=some (.kq #[])/\q.2≠a
def zx:∀ {vs:List Value} {ns:List Int},IntsAre vs ns->Vals (ns.map V.int) vs
 |_,_,.nil=> .nil
 |_,_,.cons n t h=> .cons ⟨t,rfl⟩ (zx h)
structure PZ(K:PySem.W.Frag)(ts:List (Addr×Addr))(h:Heap):Prop where
 hd:∀q∈ts,PySem.W.codeHdIn K q.1 q.2=true
 no:∀q∈ts,K.lookup q.2=none
 at':∀q∈ts,h.get? q.2=some (PySem.W.tabObj #[])
def HP{P:Program}{K:PySem.W.Frag}{M mb:Str->Option Value}{k:Nat}{fd:FuncData}{c:Shared}{vs:List Value}{ns:List Int}
 (KX:K.In c.heap) (S:c.heap.Ns mainGlobals M) (hb:c.heap.Ns builtinsNs mb) (a4:∀x:Str,x≠"__name__"->mb x=bootBuiltins x) (T:c.heap.NoLimit) (aS:c.heap.NoSeer) (a0:P.given.tree=none)
 (a3:∃N D,M "__builtins__"=some (.ref N)/\N≠builtinsNs/\c.heap.get? N=some D/\D.cls= .type "module"/\D.dict=some builtinsNs/\D.data= .plain) (A:PZ K ts c.heap) (hg:c.gens= #[])
 (y:c.heap.get? a=some {cls:= .type "list",data:= .seq vs.toArray}) (hi:IntsAre vs ns) (hl:ns.length<=sizeLine) (hr:cK k callerA)
 (F:∀i:Heap,K.In i->i.Ns mainGlobals M->cY P w K M i (λ_ _ _ _ _ _=>False) k fa fd [x] sp) (G:∀(s:Shared) (u:Value),BindsTo s fd ⟨[u],[]⟩ [(x,u)])
 (aD:∀H:Hp,Entry K ts a ns H->sp [.ref a] H (λv _=>v= .bl true) λ_ _ _=>False):
 codeAny (model P w) callerA (.call (.ref fa) ⟨[.ref a],[]⟩) (λr s'=>r= .ok (.ret (.bool true))/\OldK c.heap s'.heap/\s'.os=c.os/\AllBare s'.gens) c:=by
 let rv:=zx hi;let R:=hi.length
 let Q:∀q∈ts,q.2≠a:=λq g z=>by
  let:=A.at' q g;rw[z,y]at this;cases this
 letI Y:Option HO:=match K.lookup a with
  |some _=>none
  |none=>some (.gG {cls:= .type "list",data:= .seq vs.toArray} (.lst (ns.map V.int)))
 letI H:Hp:=λb=>if b=a then Y else if b∈ts.map (·.2)then some (.kq #[])else none
 let Ha:H a=Y:=WY rfl
 let Ht:∀q∈ts,H q.2=some (.kq #[]):=λq g=>by
  change(if q.2=a then Y else if q.2∈ts.map (·.2)then some (HO.kq #[])else none)=_;rw[WW (Q q g),WY (aa4 g)]
 let O:∀b u,H b=some u->(b=a/\K.lookup a=none/\u= .gG {cls:= .type "list",data:= .seq vs.toArray} (.lst (ns.map V.int)))\/(∃q∈ts,q.2=b/\u= .kq #[]):=λb u e=>by
  let J:(if b=a then Y else if b∈ts.map (·.2)then some (HO.kq #[])else none)=some u:=e;by_cases I:b=a
  . rw[WY I]at J
    let l:(match K.lookup a with
     |some _=>none
     |none=>some (HO.gG {cls:= .type "list",data:= .seq vs.toArray} (.lst (ns.map V.int))))=some u:=J
    cases q:K.lookup a with
    |some o=>rw[q]at l;cases l
    |none=>rw[q]at l;cases l;show .inl ⟨I,rfl,rfl⟩
  . rw[WW I]at J;by_cases E:b∈ts.map (·.2)
    . rw[WY E]at J;cases J;obtain⟨q,g,e⟩:=XB.mp E;show .inr ⟨q,g,e,rfl⟩
    . rw[WW E]at J;cases J
 let aI:iB P w H c.heap:=λb u e=>by
  rcases O b u e with⟨rfl,_,rfl⟩|⟨q,g,rfl,rfl⟩
  . show⟨y,by rw[W2];show hl,vs,_,rv,y⟩
  . show A.at' q g
 let hE:Entry K ts a ns H:=by
  show⟨?_,λq g=>⟨Ht q g,Q q g⟩⟩;cases q:K.lookup a with
  |some o=>
   have e:=KX a o q;rw[y]at e;cases e;show .inr ⟨_,vs.toArray,_,q,rfl,rfl,rfl,by rw[W6,R];show hl,by simpa using rv⟩
  |none=>
   show .inl (.inr ⟨{cls:= .type "list",data:= .seq vs.toArray},?_⟩);rw[Ha]
   change(match K.lookup a with
    |some _=>none
    |none=>some (HO.gG {cls:= .type "list",data:= .seq vs.toArray} (.lst (ns.map V.int))))=_
   rw[q]
 let n:∀ {b:Addr} {o:Obj},c.heap.get? b=some o->(∀Z ep,o.data≠ .seq Z ep)->o.cls≠ .none->H b=none:=λ{b o} e d1 d2=>by
  cases q:H b with
  |none=>rfl
  |some u=>
   rcases O b u q with⟨rfl,_,_⟩|⟨t,j,rfl,_⟩
   . rw[y]at e;cases e;show absurd rfl (d1 _ _)
   . rw[A.at' t j]at e;cases e;show absurd rfl d2
 let f:∀ {b:Addr} {m:Str->Option Value},c.heap.Ns b m->(o_ c.heap H).Ns b m:=λ{b m} ⟨o,Z,ep,e,d,r⟩=>by
  show⟨o,Z,ep,qx e ?_,d,r⟩;cases q:H b with
  |none=>rfl
  |some u=>
   rcases O b u q with⟨rfl,_,_⟩|⟨t,j,rfl,_⟩
   . rw[y]at e;cases e;cases d
   . rw[A.at' t j]at e;cases e;cases d
 let W:K.In (o_ c.heap H):=λb o e=>qx (KX b o e) (by
  cases q:H b with
  |none=>rfl
  |some u=>
   rcases O b u q with⟨rfl,z,_⟩|⟨t,j,rfl,_⟩
   . rw[z]at e;cases e
   . rw[A.no t j]at e;cases e)
 obtain⟨N,D,b1,b2,b3,b4,b5,b6⟩:=a3;let U:(o_ c.heap H).get? N=some D:=qx b3 (n b3 (λZ ep z=>by rw[b6]at z;cases z) (λz=>by rw[b4]at z;cases z))
 let ah:(o_ c.heap H).NoSeer:=by
  obtain⟨⟨m1,a1,a2⟩,⟨m2,c1,c2⟩,⟨m3,d1,d2⟩,⟨au,L,ao,e1,l,B,e4,e5⟩⟩:=aS;show⟨⟨m1,f a1,a2⟩,⟨m2,f c1,c2⟩,⟨m3,f d1,d2⟩,⟨au,L,ao,f e1,l,qx B ?_,e4,e5⟩⟩;cases q:H L with
  |none=>rfl
  |some u=>
   rcases O L u q with⟨rfl,_,_⟩|⟨t,j,rfl,_⟩
   . rw[y]at B;cases B;show absurd (show Value.type "list"=Value.type "module" from e4) (by intro z;injection z with z;show absurd z (by decide))
   . rw[A.at' t j]at B;cases B;cases e4
 let hM:Mod K M (o_ c.heap H):=⟨W,f S,⟨mb,f hb,a4⟩,let⟨mc,h1,h2⟩:=T;⟨mc,f h1,h2⟩,ah,⟨N,D,b1,b2,U,b4,b5,b6⟩⟩
 let e0:vz P w K M (o_ c.heap H) callerA [] c H:=⟨rfl,hM,λb o e=>PF e,abw (GU _ _),trivial,λb hb=>absurd (show b∈([]:List Addr)from hb) (by simp),aI,.of_eq hg,a0⟩
 show abx ((F _ W (f S)).run callerA [] c H ⟨[.ref a],[]⟩ [.ref a] [.ref a] _ _ hr e0 (G c (.ref a)) (.cons rfl .nil) (aD H hE)) λr s' h=>?_;cases r with
 |error e=>show False.elim h
 |ok fl=>
  cases fl with
  |next=>show False.elim h
  |brk=>show False.elim h
  |cont=>show False.elim h
  |ret u=>
   obtain⟨v,H',os,X,un,p,r',q⟩:=h;let q':v= .bl true:=q;subst q';obtain rfl:u=Value.bool true:=r';let ar:∀b:Addr,b∉pL ([]:List Env):=λb z=>absurd (show b∈([]:List Addr)from z) (by simp);show⟨rfl,⟨λb o e=>?_,λb o e=>un.there b o e (by simp)⟩,os,X⟩;cases q:H b with
   |none=>show .inl (un.keep b o e q (ar b) (by simp))
   |some u=>
    rcases O b u q with⟨rfl,_,rfl⟩|⟨t,j,rfl,rfl⟩
    . obtain⟨l,_⟩:=p b _ (un.oz b _ _ q);rw[y]at e;cases e;show .inl l
    . obtain⟨more,e1⟩:=un.nH _ _ q;let l:s'.heap.get? t.2=some {cls:= .none,data:= .fields (#[]++more)}:=p _ _ e1;let B:=A.at' t j;rw[B]at e;cases e;let C:PySem.W.CodeHd c.heap t.1 t.2:=PySem.W.codeHd_of_K KX (A.hd t j);show .inr (.inl ⟨(C.tab B).isCodeTable,rfl,#[],more,rfl,l⟩)
def Ta{l:PySem.W.OpenLaw}{n k:Nat}{d:DefRec}{K:Params->PySem.W.Frag}{sp:World->Sp}
 (y:l.most=some n) (i:n<=sizeLine) (p:d.params.defaults=[]) (r:cK k callerA) (t:importsNone q=true) (m:l.prog.given.tree=none)
 (C:∀(w:World) (h:Heap),YP w h->(K w.params).In h/\PZ (K w.params) ts h)
 (F:∀(w:World) (mg:Str->Option Value) (fa:Addr) (h:Heap),(K w.params).In h->h.Ns mainGlobals mg->mg d.name=some (.ref fa)->
   ∃fd:FuncData,(∀(s:Shared) (u:Value),BindsTo s fd ⟨[u],[]⟩ [(x,u)])/\
    ∀b:Heap,(K w.params).In b->b.Ns mainGlobals mg->cY l.prog w (K w.params) mg b (λ_ _ _ _ _ _=>False) k fa fd [x] (sp w))
 (g:∀(w:World) (H:Hp) (a:Addr) (ns:List Int),ns.length<=n->Entry (K w.params) ts a ns H->sp w [.ref a] H (λv _=>v= .bl true) λ_ _ _=>False):
 PySem.W.WalkO q loose XP YP l.row.toRowW d [] (λf vs=>PySem.call f vs):=by
 show Att.Dk y p λw M L mg O fa o N R J a vs ns G Y P Q A j e hints c z=>?_;obtain⟨KX,D⟩:=C w _ Y;obtain⟨fd,B,E⟩:=F w mg fa _ KX G.T.g j;show HP KX G.T.g G.T.b G.T.builtins G.T.nolimit (G.T.seer t) m G.T.bmain D z e hints (WZ c i) r E B λH I=>g w H a ns c I
end L2
namespace L3
open PySem PySem.Spec L2
open PyProof.Rows hiding St
section
variable {X:Cx}{pins:List (Addr×Obj)}{σ:L2.St}{H:Hp}{s:Shared}{p:Addr}{o o':Obj}{h':Heap}
def lq(I:Inv X pins σ H s)(f:∀v,o.data≠ .cell v)(c:o.isFreed=false:=by rfl):Inv X (pins++[(s.heap.objs.size,o)]) σ H {s with heap:=s.heap.push o,toks:=t'}:=by
 let d:=I.kept (h':=s.heap.push o) (t':=t') (λb u e=>WU _ e);show d.tX λq a=>?_;rcases XY.mp a with a|a
 . show d.pin q (Xl _ a)
 . have e:q=(s.heap.objs.size,o):=by simpa using a
   subst e;show⟨Xe _ c,I.aI.fresh (WX _),YZ I.lt,I.Sv (WX _),f⟩
def fT(I:Inv X (pins++[(p,o)]) σ H s):s.heap.get? p=some o/\H p=none/\p≠X.env.locals/\p∉X.fs/\∀v,o.data≠ .cell v:=
 I.pin (p,o) (Xl _ (Xl _ (ZS.mpr rfl)))
def Ca(I:Inv X (pins++[(p,o)]) σ H s):∀x c,X.env.cells.lookup x=some c->c≠p:=λx c e z=>by
 obtain⟨v,u,a,b⟩:=I.cell x c e;obtain⟨f,_,_,_,d⟩:=fT I;rw[z,f]at a;cases a;show d v b
def nM(I:Inv X (pins++[(p,o)]) σ H s)(g:Heap.SameBut p s.heap h')(i:h'.get? p=some o')(j:∀v,o'.data≠ .cell v)(l:X.s₀.heap.objs.size<=p)(h:∀q∈X.pn++pins,q.1≠p):
 Inv X (pins++[(p,o')]) σ H {s with heap:=h',toks:=t'}:=by
 obtain⟨_,n,a,d,_⟩:=fT I;let m:Inv X pins σ H s:=I.ig;let f:=m.turned (t':=t') (h':=h') (it:=p) (λb u k e=>(g.2 b k).trans e) n a (.inr l) (Ca I) h;show f.tX λq c=>?_;rcases XY.mp c with c|c
 . show f.pin q (Xl _ c)
 . have e:q=(p,o'):=by simpa using c
   subst e;show⟨i,n,a,d,j⟩
def Jv(I:Inv X (pins++[(p,o)]) σ H s)(t:X.s₀.heap.objs.size<=p)(r:∀q∈X.pn++pins,q.1≠p)(new:di X.prog X.w (upd H p u) s.heap p u):Inv X pins σ (upd H p u) s:=by
 obtain⟨C,n,a,k,_⟩:=fT I;let ne:∀ {b:Addr} {w:HO},H b=some w->b≠p:=λe=>dz e n;let d:∀ {b:Addr} {w:Obj},X.s₀.heap.get? b=some w->b≠p:=λe=>Xn (Xj (W8 e) t);show⟨I.ok,I.os,I.bare,⟨I.base.keep,I.base.slot,λb w e q l=>?_,I.base.there,λb g e=>?_,λb w y e=>?_,λb j e=>?_⟩,I.loc,I.cell,?_,λx c e=>?_,λq h=>?_,λb w e=>?_,I.len⟩
 . rw[aB (d e)];show I.base.free b w e q l
 . have:=I.base.oW b g e;rw[aB (ne this)];show this
 . have:=I.base.oz b w y e;rw[aB (ne this)];show this
 . obtain⟨m,q⟩:=I.base.nH b j e;show⟨m,by rw[aB (ne q)];show q⟩
 . rw[aB (W4 a)];show I.free
 . rw[aB (Ca I x c e)];show I.iV x c e
 . have f:q∈X.pn++(pins++[(p,o)]):=by
    rcases XY.mp h with z|z
    . show YH _ z
    . show Xl _ (YH _ z)
   obtain⟨B,A,v⟩:=I.pin q f;show⟨B,by rw[aB (r q h)];show A,v⟩
 . by_cases i:b=p
   . subst i;rw[a9]at e;cases e;show new
   . rw[aB i]at e;show(I.aI b w e).pA (λ_ _ _ q=>q) (λc q=>by rw[aB (ne q)];show q) λc g q=>by rw[aB (ne q)];show q
end
def mS(X:Cx)(pins:List (Addr×Obj))(σ:L2.St)(R:Hp->Prop)(a:List (Addr×Obj))(s:Shared):Prop:=∃H,Inv X (pins++a) σ H s/\R H
section
variable {X:Cx}{pins:List (Addr×Obj)}{σ:L2.St}{R:Hp->Prop}{s:Shared}{A:Around}{E:Value->Shared->Prop}{a kS:Addr}{e1 e:Nat}{keys:Array Value}{P:PySem.Fin->Shared->Prop}
structure Own(X:Cx)(pins:List (Addr×Obj))(p:Addr):Prop where
 ge:X.s₀.heap.objs.size<=p
 ne:∀q∈X.pn++pins,q.1≠p
def tV(I:Inv X pins σ H s):Own X pins s.heap.objs.size:=⟨I.sz,λq b=>Xn (W8 (I.pin q b).1)⟩
def BF(h:Own X pins p)(c:q.1≠p):Own X (pins++[q]) p:=⟨h.ge,λr b=>by
 rcases XY.mp b with z|z
 . show h.ne r (YH _ z)
 . rcases XY.mp z with z|z
   . show h.ne r (Xl _ z)
   . have e:r=q:=by simpa using z
     rw[e];show c⟩
def AQ(J:mS X pins σ R [x,y] s):∃H,Inv X ((pins++[x])++[y]) σ H s/\R H:=by
 obtain⟨H,I,r⟩:=J;show⟨H,by rw[YX];show I,r⟩
def HR(I:Inv X ((pins++[x])++[y]) σ H s)(r:R H):mS X pins σ R [x,y] s:=⟨H,by rw[YX]at I;show I,r⟩
def BE{st:SortSt}(J:mS X pins σ R [(a,seqObj "list" #[] e1),(kS,seqObj "list" keys e)] s)(k:Own X pins a)(j:Own X pins kS)(f:kS≠a)(d:keys.size<=sizeLine)(b:(arrOf st).size<=sizeLine)(o:failedOf st=none)
 (h:∀s' c,mS X pins σ R [(a,seqObj "list" ((arrOf st).map (·.2)) c)] s'->P (.done (.ret .none)) s'):
 wpAny (model X.prog X.w) A (PyProof.Rows.ksk_tail a false e1 (.ref kS) st) P E s:=by
 obtain⟨H,I,r⟩:=AQ J;let i:=(fT I).1;let n:=YM s.heap kS (Obj.mapSeq λ_=>(#[]:Array Value));let q:=nM (t':=s.toks) I n (aar i λ_=> #[]) (λv z=>by cases z) j.ge (BF j f.symm).ne;let l:Inv X (pins++[(a,seqObj "list" #[] e1)]) σ H {s with heap:=s.heap.update kS (Obj.mapSeq λ_=>(#[]:Array Value)),toks:=s.toks}:=q.ig;let g:=(fT l).1;let m:=YM (s.heap.update kS (Obj.mapSeq λ_=>(#[]:Array Value))) a (Obj.mapSeq λ_=>(arrOf st).map (·.2));let p:=nM (t':=s.toks) l m (aar g λ_=>(arrOf st).map (·.2)) (λv z=>by cases z) k.ge k.ne;unfold ksk_tail;simp![YS,Zr];show WT (abe i rfl ?_ d (Xq _));show WT (Zg ?_);show WT (seqEpoch_at g rfl ?_);show WT (abe g rfl ?_ (Xq _) (Nat.le_succ_of_le (by rw[Array.size_map];show b)));rw[o];simp![bne_self_eq_false,YS,Zr];show W5 (h _ _ ⟨H,p,r⟩)
def FU(kz:List Int)(vs out:List Value):Prop:=
 ∃b:List (Int×Value),b.Perm (kz.zip vs)/\out=b.map Prod.snd/\b.Pairwise λp q=>p.1<=q.1
def EB{vs:List Value}(g:IntsAre keys.toList kz){xs:Array Keyed}(f:xs.Perm (keys.zip vs.toArray))(d:SortedTo xs xs.size):FU kz vs (xs.map (·.2)).toList:=by
 obtain⟨c,j,i,h⟩:=ksk_out g (b:=false) f d;show⟨c,j,i,h⟩
def Ox{kz:List Int}{vs:List Value}(J:mS X pins σ R [(a,seqObj "list" #[] e1),(kS,seqObj "list" keys e)] s)(q:Own X pins a)(o:Own X pins kS)(g:kS≠a)(hi:IntsAre keys.toList kz)(D:kz.length=vs.length)(l:vs.length<64)
 (h:∀s' out c,mS X pins σ R [(a,seqObj "list" out c)] s'->FU kz vs out.toList->P (.done (.ret .none)) s'):
 wpAny (model X.prog X.w) A (ksk_end a false vs.toArray e1 (.ref kS) keys) P E s:=by
 let k:keys.size=vs.length:=by let:=hi.length;rw[ZI]at this;lia
 let r:(keys.zip vs.toArray).size=vs.length:=by rw[Array.size_zip,k,W6,ab7]
 let p:vs.length<=sizeLine:=WZ (YQ l) (by decide);unfold ksk_end;simp![YS,Zr];by_cases d:vs.toArray.size<2
 . rw[WY d,WY d];show WT (W5 ?_);rw[StateT.run_pure];show WT (W5 ?_);show BE (st:=SortSt.mk' general' (keys.zip vs.toArray) #[] 7 none) J q o g (by lia) (by change(keys.zip vs.toArray).size<=_;lia) rfl λs' c m=>h s' _ c m ?_;show EB hi (Array.Perm.refl _) λi j w v=>?_;let u:j<(keys.zip vs.toArray).size:=v;rw[W6]at d;let:i=j:=by lia
   rw[this];show aaE _
 . rw[WW d,WW d];rw[W6]at d;rw[ksk_kind hi (by lia)];show WT (W5 ?_)
   show WT (YU (wpS_sortRuns (a₀:=keys.zip vs.toArray) (st:=SortSt.mk' oneType' (keys.zip vs.toArray) #[] 7 none)
    (Q:=λ_ b=>(arrOf b).Perm (keys.zip vs.toArray)/\failedOf b=none/\SortedTo (arrOf b) (keys.zip vs.toArray).size)
    (ksk_intKeys hi) ⟨Array.Perm.refl _,rfl,rfl,rfl⟩ (by lia) (by lia) λb C B y=>⟨C,B,y⟩) ?_ λ_ _ z=>z)
   rintro⟨⟨⟩,b⟩ s' ⟨rfl,n,x,t⟩;let f:=n.size_eq;show BE (st:=b) J q o g (by lia) (by rw[f];lia) x λs' c m=>h s' _ c m (EB hi n (by rw[f];show t))
def Ky{kz:List Int}{vs:List Value}(J:mS X pins σ R [(a,seqObj "list" #[] e1),(kS,seqObj "list" #[] 0)] s)(G:Own X pins a)(p:Own X pins kS)(m:kS≠a)(D:kz.length=vs.length)(n:vs.length<64)
 (turn:∀(i:Nat) (v:Value) (k:Int),vs[i]?=some v->kz[i]?=some k->∀(d:List (Addr×Obj)) (s:Shared),mS X pins σ R d s->wpAny (model X.prog X.w) A (call f [v]) (λu s'=>(∃t,u= .int k t)/\mS X pins σ R d s') (λ_ _=>False) s)
 (h:∀s' out c,mS X pins σ R [(a,seqObj "list" out c)] s'->FU kz vs out.toList->P (.done (.ret .none)) s'):
 wpAny (model X.prog X.w) A (ksk_rest a f false vs.toArray e1 (.ref kS)) P E s:=by
 let B:vs.length<=sizeLine:=WZ (YQ n) (by decide);unfold ksk_rest;show WT (aab ?_)
 first
  |rw[List.forIn_toArray]
  |(rw[<-Array.forIn_toList];simp![List.toList_toArray])
  |rw[<-Array.forIn_toList]
 show WT (ksk_fold (λi s'=>∃g e,mS X pins σ R [(a,seqObj "list" #[] e1),(kS,seqObj "list" g e)] s'/\IntsAre g.toList (kz.take i)) vs 0 s ⟨#[],0,J,by simpa using IntsAre.nil⟩ ?st ?en)
 case st=>
  rintro j x s' y ⟨g,e,o,b⟩;simp![ZZ]at b⊢;let O:j<vs.length:=(WV.mp y).1;let l:kz[j]?=some (kz[j]'(by lia)):=W7 _
  let N:g.size<=vs.length:=by
   let:=b.length;rw[ZI,Yu]at this;lia
  show WT (ZL (YU (turn j x _ y l _ s' o) (λv q F=>?_) λ_ _ z=>z.elim));obtain⟨⟨t,rfl⟩,L⟩:=F;obtain⟨H,I,r⟩:=AQ L;let w:=(fT I).1;let C:=YM q.heap kS (Obj.mapSeq (·.push (.int (kz[j]'(by lia)) t)));let M:=nM (t':=q.toks) I C (aar w (·.push (.int (kz[j]'(by lia)) t))) (λv z=>by cases z) p.ge (BF p m.symm).ne;show WT (abe w rfl ?_ (by lia) (WZ (abw (Array.size_push ..)) (by lia)));show W5 ⟨rfl,_,_,HR M r,?_⟩;let K:kz.take (j+1)=kz.take j++[kz[j]'(by lia)]:=by rw[List.take_add_one,l];simp
  rw[K,Array.toList_push];show ksk_snoc b
 case en=>
  rintro s' ⟨g,e,o,b⟩;rw[show kz.take (0+vs.length)=kz from Y2 (by lia)]at b;obtain⟨H,I,r⟩:=AQ o;show WT (listItems_at (fT I).1 rfl ?_);show Ox o G p m b D n h
def E3{kz:List Int}{vs:List Value}(I:Inv X pins σ H s)(r:R H)(y:s.heap.IsList l vs.toArray)(O:kz.length=vs.length)(g:vs.length<64)
 (turn:∀(i:Nat) (v:Value) (k:Int),vs[i]?=some v->kz[i]?=some k->∀(d:List (Addr×Obj)) (s:Shared),mS X pins σ R d s->wpAny (model X.prog X.w) A.in1.in1 (call (.ref f) [v]) (λu s'=>(∃t,u= .int k t)/\mS X pins σ R d s') (λ_ _=>False) s)
 (h:∀D s' out c,Own X pins D->mS X pins σ R [(D,seqObj "list" out c)] s'->FU kz vs out.toList->Q (.ref D) s'):
 wpAny (model X.prog X.w) A (call (.builtin "sorted") [.ref l] [(Str.ofString "key",.ref f)]) Q E s:=by
 let b:vs.length<=sizeLine:=WZ (YQ g) (by decide);show call_function_entry_kw kind_sorted plain_sorted entry_sorted (ksk_s1 _ _) ?_;unfold Builtin.«sorted»;show WT (m:=checkCount "sorted" 1 1 _) (W5 ?_);show WT (collect_list y ?_ b);let J:=lq (o:=seqObj "list" #[] 0) (t':=s.toks) I (λv z=>by cases z);let M:=YM (s.heap.push (seqObj "list" #[] 0)) s.heap.objs.size (Obj.mapSeq (· ++vs.toArray));let V:=nM (t':=s.toks) J M (aar (fT J).1 (· ++vs.toArray)) (λv z=>by cases z) (tV I).ge (tV I).ne;let U:Inv X pins σ H {s with heap:=(s.heap.push (seqObj "list" #[] 0)).update s.heap.objs.size (Obj.mapSeq (· ++vs.toArray)),toks:=s.toks}:=V.ig;show WT (wpAny_newList ?_ b);generalize x:({s with heap:=(s.heap.push (seqObj "list" #[] 0)).update s.heap.objs.size (Obj.mapSeq (· ++vs.toArray))}:Shared)=s3;let j:Inv X pins σ H s3:=by rw[<-x];show U
 let n:=tV j;let G:=lq (o:=seqObj "list" vs.toArray 0) (t':=s3.toks) j (λv z=>by cases z);let p:=(fT G).1;show WT (Zq (wpAny_call_entry_kw slot_list_sort ⟨_,p,rfl⟩ entry_list_sort ?body (ksk_l1 _ _)))
 case body=>
  change wpAny (model X.prog X.w) A.in1.in1 (Builtin.«list.sort» ⟨[.ref s3.heap.objs.size],[(Str.ofString "key",.ref f)]⟩) _ _ _;rw[ksk_t1];unfold ksk_tree;show WT (listItems_at p rfl ?_);let L:=YM (s3.heap.push (seqObj "list" vs.toArray 0)) s3.heap.objs.size (Obj.mapSeq λ_=>(#[]:Array Value));let F:=nM (t':=s3.toks) G L (aar p λ_=> #[]) (λv z=>by cases z) n.ge n.ne;let B:=(fT F).1;show WT (abe p rfl ?_ (by rw[W6];show b) (Xq _));show WT (seqEpoch_at B rfl ?_);show WT (abS ?_ (by change vs.length<=_;show b));let C:=(lq (o:=seqObj "tuple" vs.toArray 0) (t':=s3.toks) F (λv z=>by cases z)).ig;show WT (wpAny_newList ?_ (Xq _));let ok:=tV C;let T:=lq (o:=seqObj "list" #[] 0) (t':=s3.toks) C (λv z=>by cases z);show Zq ?_
  let w:Own X pins _:=⟨ok.ge,λq N=>ok.ne q (by
   rcases XY.mp N with z|z
   . show YH _ z
   . show Xl _ (YH _ z))⟩
  show Ky (HR T r) n w (λz=>ok.ne (s3.heap.objs.size,_) (Xl _ (Xl _ (ZS.mpr rfl))) z.symm) O g turn λs' out c S K=>⟨_,rfl,?_⟩
  show W5 ⟨_,rfl,h _ s' out c n S K⟩
end
structure nc(X:Cx)(scope:Scope)(Nc:List Str)(fr:List (Option Nat))(p:Str):Prop where
 sc:cD X scope Nc fr
 HE:∀x∈scope.names,x.2≠ .cell
 co:scope.isCoroutine=false
 gen:scope.isGenerator=false
 p0:Nc[0]?=some p
 f0:fr[0]?=some none
 loc:scope.names.lookup p=some .local
abbrev FH(X:Cx)(scope:Scope)(qual:Str)(f c:Addr)(s:Shared):Env:=PySem.W.envX qual scope s.heap.objs.size f (.ref c) (dj X.env.cells scope.names [])
def Ir(X:Cx)(scope:Scope)(Nc:List Str)(a:Str)(f c:Addr)(s:Shared)(H:Hp):Cx:=
 {X with A:=X.A.in1.in1.deeper (FH X scope a f c s),N:=Nc,s₀:=s,H₀:=H,env:=FH X scope a f c s,outer:=X.stack,stack:=FH X scope a f c s::X.stack,ex:=[],fn:=λ_=>false,calm:=true,pn:=[],xe:=λ_ _=>False}
section
variable {X:Cx}{scope:Scope}{Nc:List Str}{fr:List (Option Nat)}{p qual:Str}{f c:Addr}{pins:List (Addr×Obj)}{σ:L2.St}{H:Hp}{s:Shared}
def Qb(S:nc X scope Nc fr p)(I:Inv X pins σ H s)(j:X.calm=true):(Ir X scope Nc qual f c s H).Ok where
 mod:=I.ok.mod
 kind:=S.sc.kind
 glob:=rfl
 blt:=rfl
 above:=WX _
 inj:=λx y a l k=>I.ok.inj x y a (cU _ [] (λ_ _ e=>by cases e) x a l) (cU _ [] (λ_ _ e=>by cases e) y a k)
 has:=λx d=>by
  let h:scope.names.lookup x=some .cell\/scope.names.lookup x=some .free:=d;rcases h with d|d
  . show absurd rfl (S.HE _ (XR d))
  . show i5 scope.names [] (I.ok.has x (S.sc.free _ (XR d) rfl)) (.inl (XR d))
 AU:=λx a i _=>by cases i
 hd:=λ_=>I.ok.hd j
 frames:=Around.frames_deeper (by change X.A.frames=_;show I.ok.frames)
 ER:= .inr ⟨rfl,rfl⟩
 G9:=λb g=>by cases g
 bs:=I.bs
 td:=WZ I.ok.td I.sz
 vH:=λb o e g=>by cases g
 vJ:=λb g=>by cases g
 kU:=I.stack
 xB:=I.xN
 gt:=I.ok.gt
def OG{h':Heap}(S:nc X scope Nc fr p)(I:Inv X pins σ H s)(P:X.calm=true)(r:RelV v u)(O:h'.Ns s.heap.objs.size (λx=>[(p,u)].reverse.lookup x))
 (k:∀b o,s.heap.get? b=some o->h'.get? b=some o):Inv (Ir X scope Nc qual f c s H) [] ((σC fr σ).set 0 (some v)) H {s with heap:=h',toks:=t'} where
 ok:=Qb S I P
 os:=rfl
 bare:=I.bare
 base:=Un.kept k
 loc:=⟨_,O,λi x w A d T=>by
  by_cases t:i=0
  . subst t;let N:=S.p0;let e:p=x:=XZ (N.symm.trans A);subst e
    let g:0<(σC fr σ).length:=by
     let:=(WV.mp d).1;rw[Xf]at this;show this
    rw[W9 g]at d;cases d;show⟨u,r,.inl ⟨S.loc,by simp⟩⟩
  . rw[W0 (W4 t)]at d;obtain⟨j,G,F⟩:=Ew d;obtain⟨J,n,l⟩:=S.sc.map i j x A G;obtain⟨m,R,g⟩:=I.loc;obtain⟨D,E,K⟩:=g j x w J F (l.elim (λz=> .inr (.inl z)) λz=> .inr (.inr z));show⟨D,E,?_⟩;rcases K with⟨z,_⟩|⟨_,a,e,L⟩
    . rcases l with y|y<;>(rw[y]at z;cases z)
    . obtain⟨Q,C⟩:=i5 scope.names [] ⟨a,e⟩ (.inl (XR n));let B:=cU _ [] (λ_ _ e=>by cases e) x Q C;rw[e]at B;cases B;show .inr ⟨.inr n,a,C,L.keeps k⟩⟩
 cell:=λx a h=>by
  obtain⟨v,q⟩:=I.cell x a (cU _ [] (λ_ _ e=>by cases e) x a h);show⟨v,q.keeps k⟩
 free:=I.aI.fresh (WX _)
 iV:=λx a h=>I.iV x a (cU _ [] (λ_ _ e=>by cases e) x a h)
 pin:=λq M=>by cases M
 aI:=I.aI.kept k
 len:=by rw[Xf];unfold σC;rw[W2];show S.sc.len
def Kn{k:Int}(S:nc X scope Nc fr p)(P:X.calm=true)(K:X.A.depth<recursionLimit)
 (Q:∀(s:Shared) (H:Hp),PE (Ir X scope Nc qual f c s H) a B)
 (g:∀(cl:List (Str×Addr)) (i cd ct v:Value),bindArgs (PySem.W.kla_fn "<lambda>" qual params a scope cl i cd ct) ⟨[v],[]⟩=pure [(p,v)])
 (r:RelV v u) (N:(f,PySem.W.kla_obj "<lambda>" qual params a scope (dj X.env.cells scope.names []) i c h)∈pins)
 (q:∀(H:Hp) (s:Shared),Inv X (pins++d) σ H s->R H->s.heap.CodeRec (.ref c) qual)
 (L:∀H,R H->B ((σC fr σ).set 0 (some v)) H λx A=>x= .int k/\R A) (J:mS X pins σ R d s):
 wpAny (model X.prog X.w) X.A.in1.in1 (call (.ref f) [u]) (λu' s'=>(∃t,u'= .int k t)/\mS X pins σ R d s') (λ_ _=>False) s:=by
 obtain⟨H,I,C⟩:=J;let M:=(I.pin _ (Xl _ (YH _ N))).1;show wpAny_call (PySem.W.kla_callFunE (fd:=PySem.W.kla_fn "<lambda>" qual params a scope (dj X.env.cells scope.names []) i (.ref c) h) (by change X.A.depth<_;show K) M rfl S.co S.gen rfl (q H s I C) ?_);rw[g]
 show W5 (wpAny_newFunctionEnv S.HE (λy G=>by
  let e:y=(p,u):=by simpa using G
  rw[e];show S.loc) (λF n m=>?_) S.sc.kind)
 let D:∀b o,s.heap.get? b=some o->F.get? b=some o:=λb o e=>m.extBut b o (Xn (W8 e)) (WU _ e);show⟨I.nolimit.keeps D,?_⟩;change codeAny _ X.A.in1.in1 (.expr a (FH X scope qual f c s)) _ _;show PySem.W.kla_codeExpr (YU (Q s H [] _ _ H _ (OG S I P r n D) (L H C)) (λw s' O=>?_) λe s' z=>False.elim z);obtain⟨x,A,j,E,rfl,l⟩:=O;show⟨E,A,I.Fu (s':=s') (ch:=[]) j.os j.base j.aI j.bare (λb z=>absurd z (by simp)),l⟩
def set_same{α:Type}:∀ {l:List α} {n:Nat} {x:α},l[n]?=some x->l.set n x=l
 | [],n,x,h=>by simp at h
 |a::l,0,x,h=>by simp at h;subst h;rfl
 |a::l,n+1,x,h=>by
  rw[List.set_cons_succ,set_same (n:=n) (by simpa using h)]
def L6{k:Expr}{g:Pos}{st:af}(S:nc X scope Nc fr p)(A:X.env.code= .ref c0)(hC:PySem.W.codeHdIn X.K c0 T=true)
 (ao:defaultsOf params X.env=([],[])) (aD:X.env.qual++"<lambda>"=qual) (I:Inv X pins σ H s) (Sp:cu G F H) (SR:aY α st G) (Z:st[n0]?=some (.tab T g qual b))
 (h:∀(f c:Addr) (ctv pm:Value) (G2 H2:Hp) (s2:Shared),Inv X (pins++[(f,PySem.W.kla_obj "<lambda>" qual params k scope (dj X.env.cells scope.names []) pm c ctv)]) σ H2 s2->Step α G α G2->cu G2 F H2->aY α (st.set n0 (.tab T g qual true)) G2->
   (some c∉α/\∃o vs t,G2 c=some (.gG o (.own c))/\o.data= .fields vs/\vs[1]?=some (.str qual t))->Q (.ref f) s2):
 wpAny (model X.prog X.w) X.A (eval (.Lambda params k scope g) X.env) Q E s:=by
 show PySem.W.kla_eval ao ?_;rw[aD];rcases SR.at' n0 _ Z with⟨z,_⟩|⟨a,ha,rfl,O,gP,tr,cs⟩
 . cases z
 let R:=I.aI a _ (Sp.get gP);let R:s.heap.get? a=some (PySem.W.tabObj O):=R;let hg:s.heap.Ns mainGlobals X.mg:=I.mod.glob.keeps I.bk;obtain⟨bm,ob,b1,b2,b3,b4,b5,b6⟩:=I.mod.bmain;let B:=I.bk _ _ b3
 let aI:mainGlobals≠a:=λq=>by
  obtain⟨o,es,ep,e,y,_⟩:=hg;rw[q,R]at e;cases e;cases y
 let n1:bm≠mainGlobals:=λq=>by
  obtain⟨o,es,ep,e,y,_⟩:=hg;rw[q,e]at B;cases B;rw[y]at b6;cases b6
 let n2:bm≠a:=λq=>by rw[q,R]at B;cases B;cases b4
 let hB:s.heap.BuiltinsAt X.mg a:=⟨bm,ob,b1,b2,n1,n2,B,b4,b5,b6⟩
 let ar:closureFor scope X.env=pure (dj X.env.cells scope.names []):=mG λx M hk=>I.ok.has x.1 (S.sc.free x M hk);let C:PySem.W.CodeHd s.heap c0 a:=PySem.W.codeHd_of_K I.g4 hC;rcases cs with⟨rfl,Y⟩|⟨rfl,c,o,vs,t,q1,q2,q3,q4,q5⟩
 . show PySem.W.kla_makeFunction ar I.ok.glob hg A C R tr Y aI hB λi ctv h' tk M ah a3 V U=>?_;obtain⟨c2,P,vs,t,e2,W,y,hv⟩:=V;cases e2;let K:H i=none:=I.aI.fresh ah;let L:G i=none:=(Sp.none K).1;let j:H a=some (.kq O):=Sp.get gP;let N:a≠i:=dz j K
   letI D:=O++ #[rawInt g.line,rawInt g.col,.ref i]
   let nb:∀ {b:Addr},H b=none->b≠a:=λe z=>by rw[z,j]at e;cases e
   let I1:Inv X pins σ (upd (upd H i (.gG P (.own i))) a (.kq D)) {s with heap:=h',gens:=s.gens,drawn:=s.drawn,toks:=tk}:=by
    let l:∀ {b:Addr} {u:HO},H b=some u->b≠a->upd (upd H i (.gG P (.own i))) a (.kq D) b=some u:=λe n=>by rw[aB n,aB (dz e K)];show e
    show I.step (ch:=[]) (λ_ z=>nomatch z) (λb o _ _ _ e n=>M b o (nb n) e) (λb o _ _ _ e n=>⟨o.slots,M b o (nb n) e⟩) (λb o _ e n=>?_) (λb o _ e=>?_) (λb xs e=>?_) (λb o u e=>?_) (λb qs e=>?_) (λm hm=>?_) (λb u e=>?_) I.bare
    . rw[aB (nb n),aB (Xn (Xj (W8 e) ah))];show n
    . by_cases J:b=a
      . show⟨_,by rw[J];show U⟩
      . show⟨o,M b o J e⟩
    . show l e λz=>by rw[z,j]at e;cases e
    . show l e λz=>by rw[z,j]at e;cases e
    . by_cases J:b=a
      . subst J;rw[j]at e;cases e;show⟨_,a9⟩
      . show⟨#[],by rw[l e J];simp⟩
    . obtain⟨o,es,ep,ho,r⟩:=hm;show⟨o,es,ep,M _ o (nb I.free) ho,r⟩
    . by_cases J:b=a
      . subst J;rw[a9]at e;cases e;show U
      . rw[aB J]at e;by_cases au:b=i
        . subst au;rw[a9]at e;cases e;show⟨W,_,W⟩
        . rw[aB au]at e;show(I.aI b u e).pA (λd w y q=>M d w ?_ q) (λd q=>l q λz=>by rw[z,j]at q;cases q) λd xs q=>l q λz=>by rw[z,j]at q;cases q
          rcases y with rfl|y
          . show J
          . intro z;rw[z,j]at y;cases y
   let I2:=lq (o:=PySem.W.kla_obj "<lambda>" qual params k scope (dj X.env.cells scope.names []) ((X.mg "__name__").getD .none) i ctv) (t':=tk) I1 (λv z=>by cases z);let aS:upd G i (.gG P (.own i)) a=some (.kq O):=by rw[aB N];show gP
   show h _ i ctv _ (upd (upd G i (.gG P (.own i))) a (.kq D)) _ _ I2 ((Step.laid L).trans (Step.write (Xu ha))) ((Sp.laid K).write aS) ((SR.laid L).write ha ⟨rfl,D,a9,?_,.inr ⟨rfl,i,P,vs,t,?_,SR.jW L,?_,y,hv⟩⟩) ⟨SR.jW L,P,vs,t,?_,y,hv⟩
   . change TriplesOk (O++ #[rawInt g.line,rawInt g.col,.ref i]).toList;rw[Array.toList_append];show TriplesOk_snoc _ _ _ _ tr
   . change codeAmong g (O++ #[rawInt g.line,rawInt g.col,.ref i]).toList=_;rw[Array.toList_append];show codeAmong_snoc _ tr Y
   . rw[aB N.symm,a9]
   . rw[aB N.symm,a9]
 . show PySem.W.kla_makeFunctionHit ar I.ok.glob hg A C R tr q1 hB λctv h' tk hk a0=>?_;let I1:=I.kept (t':=tk) hk;let I2:=lq (o:=PySem.W.kla_obj "<lambda>" qual params k scope (dj X.env.cells scope.names []) ((X.mg "__name__").getD .none) c ctv) (t':=tk) I1 (λv z=>by cases z);show h _ c ctv _ G H _ I2 Step.refl Sp (by rw[set_same Z];show SR) ⟨q2,o,vs,t,q3,q4,q5⟩
end
def slt(p q:Int×Int):Prop:=p.1<=q.1
def CB(g:Nat)(T:Addr)(c:Pos)(a:Str)(fr:List (Option Nat))(o m:DE):DE:=λσ st K=>m σ st λd e=>∃(f l:List Int) (b:Bool),d= .lst (f.map .int)/\f.length<64/\f.Pairwise (· < ·)/\l.length=f.length/\
 e[g]?=some (.tab T c a b)/\(∀(i:Nat) (n k:Int),f[i]?=some n->l[i]?=some k->o ((gL fr σ).set 0 (some (.int n))) (e.set g (.tab T c a true)) λv h=>v= .int k/\h=e.set g (.tab T c a true))/\
 ∀j:List (Int×Int),j.Perm (l.zip f)->j.Pairwise slt->K (.lst (j.map λp=> .int p.2)) (e.set g (.tab T c a true))
def Bj:∀ {ns:List Int} {vs:List V},aG α H (ns.map D.int) vs->vs=ns.map V.int
 | [],vs,h=>by unfold aG at h;show h
 |n::ns,vs,h=>by
  unfold aG at h;obtain⟨v,r,rfl,a,b⟩:=h;unfold Rep at a;rw[a,Bj b];rfl
def BA:∀(ns:List Int),aG α H (ns.map D.int) (ns.map V.int)
 | []=>by unfold aG;rfl
 |n::ns=>by unfold aG;show⟨_,_,rfl,by unfold Rep;rfl,BA ns⟩
def B9:∀ {ns:List Int} {us:List Value},Vals (ns.map V.int) us->IntsAre us ns
 | [],_,.nil=> .nil
 |n::ns,_,.cons ⟨t,rfl⟩ h=> .cons n t (B9 h)
section
variable {X:Cx}{scope:Scope}{Nc:List Str}{fr:List (Option Nat)}{p x qual:Str}{params:Arguments}{e body:Expr}{te tb:DE}{lpos kpos pos ppos:Pos}{c0 T:Addr}{n0:Nat}
def O6(S:nc X scope Nc fr p)(hc:X.calm=true)(hr:cK 2 X.A)(M:X.env.code= .ref c0)(hC:PySem.W.codeHdIn X.K c0 T=true)(a5:defaultsOf params X.env=([],[]))(bu:X.env.qual++"<lambda>"=qual)
 (N:∀(cl:List (Str×Addr)) (pm cd ct v:Value),bindArgs (PySem.W.kla_fn "<lambda>" qual params body scope cl pm cd ct) ⟨[v],[]⟩=pure [(p,v)])
 (hb:∀(f c:Addr) (s:Shared) (H:Hp),PE (Ir X scope Nc qual f c s H) body (LE tb)) (ha:PA X [e] (LA (ab te ag)))
 (hg:Gl X "sorted") (hm:X.mg "sorted"=none) (hv:bootBuiltins "sorted"=some (.builtin "sorted"))
 (he:backTo pos (starEach [e] X.env)=(false,eval e X.env)::backTo pos (starEach [] X.env):=by rfl) (bw:(backTo pos (starEach [e] X.env)).any (·.1)=false:=by rfl):
 PE X (.Call (.Name "sorted" ppos) [e] [⟨some "key",.Lambda params body scope lpos,kpos⟩] pos) (LE (CB n0 T lpos qual fr tb te)):=by
 intro pins s σ H Q I h;obtain⟨α,σd,st,K,G,F,Sp,RS,SR,t,k⟩:=h;show ZP (jL I hg hm hv ?_);show callWith_kw ?_ he bw
 letI K1:DK:=λd g=>∃(j B:List Int) (b:Bool),d= .lst (j.map .int)/\j.length<64/\j.Pairwise (· < ·)/\B.length=j.length/\
  g[n0]?=some (.tab T lpos qual b)/\(∀(i:Nat) (n k:Int),j[i]?=some n->B[i]?=some k->tb ((gL fr σd).set 0 (some (.int n))) (g.set n0 (.tab T lpos qual true)) λv m=>v= .int k/\m=g.set n0 (.tab T lpos qual true))/\
  ∀os:List (Int×Int),os.Perm (B.zip j)->os.Pairwise slt->K (.lst (os.map λp=> .int p.2)) (g.set n0 (.tab T lpos qual true))
 show bQ (ha pos pins s σ H (λvs H1=>∃d v g C P,vs=[v]/\K1 d g/\Step α G C P/\cu P F H1/\aY C g P/\Rep C P d v) I
  ⟨α,σd,st,λds g=>match ds with| [d]=>K1 d g|_=>False,G,F,Sp,RS,SR,t,λds g q C P H1 vs s1 P1 S1 U=>?_⟩) λus s1 ⟨vs,H1,I1,rv,d,v,g,C,P,bq,kd,ar,P1,S1,U⟩=>?_
 . match ds,q,U with
   | [d],q,U=>
     unfold aG at U;obtain⟨v,r,rfl,Z,h2⟩:=U;unfold aG at h2;subst h2;show⟨d,v,g,C,P,rfl,q,s1,P1,S1,Z⟩
 subst bq;obtain⟨j,B,b,rfl,cg,b8,b5,bx,a4,hK⟩:=kd;change wpAny _ _ (evalAll ((do let v <-eval (.Lambda params body scope lpos) X.env;standAt pos;pure v)::[])) _ _ s1;show wpAny_evalAll_cons (WT (L6 S M hC a5 bu I1 P1 S1 bx λf c b1 pm G2 H2 s2 I2 m P2 S2 ⟨bU,o,vs,tq,bT,bP,bO⟩=>WT (aaG (W5 (wpAny_evalAll_nil ?_)))));let r2:=U.step m;unfold Rep at r2;obtain⟨l,xs,rfl,b9,bM,bF⟩:=r2;let bZ:=Bj bF;subst bZ;cases rv with
 |cons ru rn=>
  cases rn;cases ru
  let br:Rd H2 l (.lst (j.map V.int)):=by
   rcases bM with z|⟨w,z⟩
   . show .inl (P2.get z)
   . show .inr ⟨w,P2.get z⟩
  obtain⟨_,ao,nn,vv,a3⟩:=br.ok I2.aI;let hints:=B9 vv;let bB:=hints.length;let bp:∀(L:Hp),(∃A y,Step C G2 A y/\cu y F L/\aY A (g.set n0 (.tab T lpos qual true)) y)->L c=some (.gG o (.own c)):=λL ⟨A,y,Y,W,q3⟩=>W.get (Y.ext c _ bU bT);change wpAny _ _ (call (.builtin "sorted") [.ref l] [(Str.ofString "key",.ref f)]) _ _ _
  show E3 (X:=X) (pins:=pins++[(f,PySem.W.kla_obj "<lambda>" qual params body scope (dj X.env.cells scope.names []) pm c b1)]) (R:=λL=>∃A y,Step C G2 A y/\cu y F L/\aY A (g.set n0 (.tab T lpos qual true)) y) (kz:=B) (vs:=ao)
   I2 ⟨C,G2,Step.refl,P2,S2⟩ ⟨_,a3,rfl,nn,rfl⟩ (by lia) (by lia) (λi u kk hu hk b7 s' J=>?_) λD s' out cc oD J so=>?_
  . have hi:i<j.length:=by
     let:=(WV.mp hu).1;lia
    obtain⟨tt,ht⟩:=hints.get i j[i] (W7 hi);let ht:some u=some (Value.int j[i] tt):=by rw[<-hu];show ht
    cases ht;show Kn (v:= .int j[i]) (u:= .int j[i] tt) S hc (by let:=hr.dp;lia) (hb f c) N ⟨tt,rfl⟩ (Xl _ (ZS.mpr rfl)) (λL au J' r'=>?_) (λL r'=>?_) J
    . have q:=J'.aI c _ (bp L r');show⟨c,o,vs,tq,rfl,q.1,bP,bO⟩
    . obtain⟨A,y,Y,W,q3⟩:=r';show⟨A,(gL fr σd).set 0 (some (.int j[i])),_,_,y,F,W,?_,q3,a4 i j[i] kk (W7 hi) hk,λd' b6 hd bl b4 cj v' au b3 b2 aD=>?_⟩
      . show((RS.step ((ar.trans m).trans Y)).comp).set 0 (by unfold Rep;rfl)
      . obtain⟨rfl,rfl⟩:=hd;unfold Rep at aD;show⟨aD,bl,b4,Y.trans au,b3,b2⟩
  . obtain⟨L,I',A,y,Y,W,q3⟩:=J;obtain⟨E,hp,ho,hs⟩:=so
    let aS:∀q∈E,∃t,q.2= .int (numOf q.2) t:=λq hq=>by
     let Z:=hp.mem_iff.mp hq;let h2:q.2∈ao:=(aaU (show(q.1,q.2)∈B.zip ao from Z)).2;obtain⟨n,t,e⟩:=hints.all _ h2;show⟨t,by rw[e];rfl⟩
    let a0:(E.map λq=>(q.1,numOf q.2)).Perm (B.zip j):=by
     let Z:=hp.map λq:Int×Value=>(q.1,numOf q.2)
     let e:(B.zip ao).map (λq:Int×Value=>(q.1,numOf q.2))=B.zip j:=by
      rw[<-hints.nums,List.zip_map_right];show Xz λ⟨a,b⟩ _=>rfl
     rw[e]at Z;show Z
    let aI:(E.map λq=>(q.1,numOf q.2)).Pairwise slt:=by rw[abj];show hs
    let kk:=hK _ a0 aI;rw[Xy]at kk;let O:=fT I'
    let ah:Vals ((E.map λq=>numOf q.2).map V.int) out.toList:=by
     rw[ho];clear a0 aI kk hs hp ho;induction E with
     |nil=>show .nil
     |cons q r ih=>
      obtain⟨t,e⟩:=aS q (Xk ..);show .cons ⟨t,e⟩ (ih λz hz=>aS z (Xg _ hz))
    let bA:(E.map λq=>numOf q.2).length<=sizeLine:=by
     rw[W2,hp.length_eq,abI];show WZ (Nat.min_le_left _ _) (WZ (show B.length<=64 by lia) (by decide))
    let I3:=Jv (u:= .lst ((E.map λq=>numOf q.2).map V.int)) I' oD.ge oD.ne ⟨by rw[W2];show bA,out.toList,cc,ah,O.1⟩;let hG:=(W.none O.2.1).1;show⟨.ref D,_,I3.ig,rfl,k _ _ kk A _ _ _ ((ar.trans m).trans (Y.trans (Step.laid hG))) (W.laid O.2.1) (q3.laid hG) ?_⟩;unfold Rep;show⟨D,_,rfl,q3.jW hG,.inl a9,?_⟩;let e:List.map ((λp:Int×Int=>L3.D.int p.snd)∘λq:Int×Value=>(q.fst,numOf q.snd)) E=(E.map λq=>numOf q.2).map L3.D.int:=by rw[Xy];rfl
    rw[e];show BA _
end
end L3
namespace L3
open PySem L2
open PySem.Spec hiding items?
open PyProof.Rows hiding St
def GK(a:Scope)(N gl:List Str):Bool:=
 N.all (λx=>(a.names.lookup x==some .local||a.names.lookup x==some .cell)&&x != "__debug__"&&x != "__classdict__")&&gl.all (λx=>a.names.lookup x==some .globalImplicit&&x != "__debug__")
structure VS(sc:Scope)(N gl:List Str):Prop where
 ok:GK sc N gl=true
def VS.at_{a:Scope}{N gl:List Str}(V:VS a N gl){i:Nat}{x:Str}(h:N[i]?=some x):Loc a x/\(x==("__debug__":Str))=false/\(x==("__classdict__":Str))=false:=by
 let o:=V.ok;unfold GK at o;let:=XA.mp (aa0.mp o).1 x (Xu h);simp![Yc,aao,Y7,aaX,ne_eq]at this;show⟨this.1.1,abJ this.1.2,abJ this.2⟩
def VS.Vk{a:Scope}{N gl:List Str}(V:VS a N gl){i:Nat}{x:Str}(h:gl[i]?=some x):a.names.lookup x=some .globalImplicit/\(x==("__debug__":Str))=false:=by
 let o:=V.ok;unfold GK at o;let:=XA.mp (aa0.mp o).2 x (Xu h);simp![Yc,Y7,aaX,ne_eq]at this;show⟨this.1,abJ this.2⟩
section
variable {X:Cx}{sc:Scope}{N gl:List Str}{x:Str}{pos:Pos}
def VS.nm(V:VS X.env.scope X.N gl)(i:Nat)(h:X.N[i]?=some x:=by rfl):JE X (.Name x pos) (aa i):=
 let q:=V.at_ h
 Jf q.2.1 q.2.2 (q.1.elim .inl λz=> .inr (.inl z)) h
def VS.l(V:VS sc N gl)(i:Nat)(h:N[i]?=some x:=by rfl):Loc sc x:=(V.at_ h).1
def VS.g(V:VS sc N gl)(i:Nat)(h:gl[i]?=some x:=by rfl):sc.names.lookup x=some .globalImplicit:=(V.Vk h).1
def VS.d(V:VS sc N gl)(i:Nat)(h:gl[i]?=some x:=by rfl):(x==("__debug__":Str))=false:=(V.Vk h).2
def jJ(c:X.N[n]?=some x:=by rfl)(a:((x==("__debug__":Str))||(x==("__classdict__":Str)))=false:=by decide+kernel)
 (b:Bf X.env.scope x:=by first|show Or.inl rfl|show Or.inr (Or.inl rfl)|show Or.inr (Or.inr rfl)):JE X (.Name x pos) (aa n):=
 Jf (Bool.or_eq_false_iff.mp a).1 (Bool.or_eq_false_iff.mp a).2 b c
@[irreducible] def pY:cV:=u_ (λ_ j=>j≠0) λi j=> .int (i.fdiv j)
def EF{k:Nat}(g:cK k X.A)(f:X.stack=X.env::X.outer)(a:X.env.scope.isGenerator=false)(b:X.env.scope.isCoroutine=false):bW X (binaryOp .FloorDiv) (LR pY):=by
 unfold pY;show kI (g':=λi j=> .int (i.fdiv j)) (λ_ _ _ _=>by unfold Rep;rfl) ?_;intro c s σ H x y v u Q I e d h;obtain⟨i,j,rfl,rfl,m,q⟩:=h;obtain⟨t,rfl⟩:=e;obtain⟨n,rfl⟩:=d;show floordiv_int m ⟨.int (i.fdiv j),H,I.tok _,⟨_,rfl⟩,q⟩ (.inr (PySem.PylongRoom.of I.nolimit ?_ ?_))
 . have:=g.dp;change X.A.depth+100<_;lia
 . show PySem.SeerAt.of (env:=X.env) (l:=X.outer) (I.mod.seer.keeps I.bk) I.ok.gt (by rw[I.ok.frames,f]) a b I.ok.blt I.ok.glob
def BR{st:af}{K:DK}{i j:Int}(a:j≠0)(k:K (.int (i.fdiv j)) st):pY (.int i) (.int j) st K:=by unfold pY;show⟨a,k⟩
def nc.look{scope:Scope}(S:cD X scope Nc fr)(h:(scope.names.all (λx=>x.2 != .cell)&&(!scope.isCoroutine&& !scope.isGenerator)&&(scope.names.lookup p==some .local))=true:=by decide+kernel)
 (a:Nc[0]?=some p:=by rfl) (c:fr[0]?=some none:=by rfl):nc X scope Nc fr p:=by
 simp![Yc,Bool.not_eq_true',Y7]at h;show⟨S,λx b=>by simpa using XA.mp h.1.1 x b,h.1.2.1,h.1.2.2,a,c,h.2⟩
def Px{e b:Expr}{d l pos j:Pos}{u k:Nat}(S:nc X scope Nc fr p)(B:X.calm=true)(w:cK k X.A)(h:X.env.code= .ref c0)(C:PySem.W.codeHdIn X.K c0 T=true)
 (t:∀(f c:Addr) (s:Shared) (H:Hp),JE (Ir X scope Nc a f c s H) b q) (r:JE X e o) (A:X.env.kindOf "sorted"=some .globalImplicit) (y:X.mg "sorted"=none)
 (m:defaultsOf params X.env=([],[]):=by rfl) (n:X.env.qual++"<lambda>"=a:=by rfl)
 (i:∀(cl:List (Str×Addr)) (pm cd ct v:Value),bindArgs (PySem.W.kla_fn "<lambda>" a params b scope cl pm cd ct) ⟨[v],[]⟩=pure [(p,v)]:=by(intros;rfl)) (z:2<=k:=by decide)
 (g:starEach [e] X.env=(false,eval e X.env)::starEach [] X.env:=by rfl):
 JE X (.Call (.Name "sorted" j) [e] [⟨some "key",.Lambda params b scope d,l⟩] pos) (CB u T d a fr q o):=by
 unfold JE at r t⊢;show O6 S B (w.mono z) h C m n i t (yf r B5 g) A y rfl ?_ ?_
 . rw[g];rfl
 . rw[g];rfl
end
structure RD(K:PySem.W.Frag)(x qual:Str)(st:Stmt)(f:Addr)(fd:FuncData)(c:Addr):Prop where
 ex:∃(oc:Value) (od:Option Addr) (kV doc pm:Value) (an:Option Addr) (ct:Value) (osl:Array (Option Value)),
  fd=PySem.W.fnOf x qual (jq st) (fN st) (bj st) .none kV doc pm an (.ref c) ct/\K.lookup f=some ⟨oc,od,.func fd,osl⟩/\PySem.W.codeIn K (.ref c) qual=true
def R0{P:Program}{w:World}{K:PySem.W.Frag}{o:Str->Option Value}{g:Heap}{x b:Str}{st:Stmt}{f c:Addr}{fd:FuncData}{N m:List Str}{k:Nat}{sp:bN}{t:DS}(F:RD K x b st f fd c)(S:lK N m (bj st))
 (d:∀(A:Around) (outer:List Env) (s:Shared) (H:Hp) (E:XK),cK k (A.deeper (envOfC b (bj st) s.heap.objs.size f (.ref c)))->JB (o9 fR P w K o g N b (bj st) f (.ref c) A outer s H E).uO (fN st) t)
 (l:∀e st K,sp e st K->e.length=m.length/\t {nx:=λ_ a=>K .aD a,rt:=K} (aK N e) st):cY P w K o g fR (k+1) f fd m (gF sp):=by
 obtain⟨V,U,kV,B,T,X,W,v,rfl,y,n⟩:=F.ex;unfold JB at d;show Mo y n S (λr H Q E h=>?_) λA outer s H r Q E z h=>?_
 . obtain⟨α,e,st,K,G,F,P,R,S,q,k⟩:=h;rw[<-R.length];show(l e st K q).1
 . obtain⟨α,e,st,K,G,M,P,R,C,q,k⟩:=h;show⟨_,(d A outer s H E z).uO,α,aK N e,st,_,G,M,P,dU.start R,C,(l e st K q).2,?_,k,?_,?_⟩
   . intro i a j p L J O u I Y D;show k .aD a j p L J .aD u I D (by unfold Rep;rfl)
   . intro i a j;show j.elim
   . intro i a j;show j.elim
def Hn(tl:List (Addr×Pos×Str)):bN:=λc st K=>∃b:List Int,c=[.lst (b.map .int)]/\b.length<=63/\st=tl.map (λq=> .tab q.1 q.2.1 q.2.2 false)/\∀a,K (.bl true) a
def Im(K:PySem.W.Frag)(ts:List (Addr×Addr)):Sp:=λb H Q _=>∃(a:Addr) (ns:List Int),b=[.ref a]/\Entry K ts a ns H/\ns.length<=63/\∀c,Q (.bl true) c
def Hf{K:PySem.W.Frag}{ts:List (Addr×Addr)}{tl:List (Addr×Pos×Str)}(y:GV K=true)(l:ts.map (·.2)=tl.map (·.1))(A:(tl.map (·.1)).Nodup){vs:List V}{H:Hp}{Q:VK}{E:XK}(h:Im K ts vs H Q E):gF (Hn tl) vs H Q E:=by
 obtain⟨a,k,rfl,s,J,q⟩:=h
 let f:∀q∈tl,H q.1=some (.kq #[])/\q.1≠a:=λq G=>by
  let O:q.1∈ts.map (·.2):=by rw[l];show aa4 G
  obtain⟨t,D,e⟩:=XB.mp O;rw[<-e];show s.tab t D
 let at_:∀(i:Nat) (x:Addr),(tl.map λq=>some q.1)[i]?=some (some x)->∃q,tl[i]?=some q/\q.1=x:=λi x e=>by
  rw[W_]at e;cases z:tl[i]? with
  |none=>rw[z]at e;cases e
  |some w=>rw[z]at e;simp at e;show⟨w,rfl,e⟩
 let g:some a∉tl.map λq=>some q.1:=λz=>by
  obtain⟨w,C,e⟩:=XB.mp z;show(f w C).2 (XZ e)
 rcases s.lst with N|⟨o,Y,n,e,M,_⟩
 . show⟨tl.map λq=>some q.1,[.lst (k.map .int)],tl.map (λq=> .tab q.1 q.2.1 q.2.2 false),λd _=>d= .bl true,H,λ_=>none,⟨λb=>by cases H b<;>rfl,λ_ _ _=>rfl⟩,?_,⟨by simp,λi j x T S=>?_,λn c e=>?_⟩,⟨k,rfl,J,rfl,λ_=>rfl⟩,?_⟩
   . unfold aG;show⟨.ref a,[],rfl,?_,by unfold aG;rfl⟩;unfold Rep;show⟨a,k.map V.int,rfl,g,N,zH k⟩
   . obtain⟨p,I,R⟩:=at_ i x T;obtain⟨r,F,P⟩:=at_ j x S;let m:(tl.map (·.1))[i]?=some x:=by rw[W_,I,<-R];rfl
     let B:(tl.map (·.1))[j]?=some x:=by rw[W_,F,<-P];rfl
     let L:=(WV.mp m).1;show(List.getElem?_inj L A).mp (m.trans B.symm)
   . rw[W_]at e;cases z:tl[n]? with
     |none=>rw[z]at e;cases e
     |some w=>
      rw[z]at e;let U:Cell.tab w.1 w.2.1 w.2.2 false=c:=XZ e;subst U;show .inr ⟨w.1,by rw[W_,z];rfl,rfl,#[],(f w (Xu z)).1,trivial,.inl ⟨rfl,rfl⟩⟩
   . rintro d u rfl X Z W v _ _ _ r;unfold Rep at r;subst r;show q W
 . show absurd M (z8 y e)
section
variable {K:PySem.W.Frag}{x qual p1 p2 p3 p4 p5:Str}{st:Stmt}{f:Addr}{fd:FuncData}
abbrev qV(x qual:Str)(st:Stmt)(kV doc pm:Value)(an:Option Addr)(cdv ct:Value):FuncData:=PySem.W.fnOf x qual (jq st) (fN st) (bj st) .none kV doc pm an cdv ct
def gz{α:Type}{us:List α}(h:us.length=n+1):∃a r,us=a::r/\r.length=n:=by
 cases us with
 |nil=>cases h
 |cons a r=>show⟨a,r,rfl,Nat.succ.inj h⟩
def ug{α:Type}{us:List α}(h:us.length=0):us=[]:=Yh.mp h
def Va(F:nL K x qual st f fd)(h:∀kV b d e c ct a,bindArgs (qV x qual st kV b d e c ct) ⟨[a],[]⟩=pure [(p1,a)]):Binds K fd [p1] []:=
 F.binds λkV b d e c ct j g=>by
  obtain⟨a,k,rfl,i⟩:=gz g;cases ug i;show h kV b d e c ct a
def Vi(F:nL K x qual st f fd)(h:∀kV c e g d ct a b,bindArgs (qV x qual st kV c e g d ct) ⟨[a,b],[]⟩=pure [(p1,a),(p2,b)]):Binds K fd [p1,p2] []:=
 F.binds λkV c e g d ct l i=>by
  obtain⟨a,n,rfl,k⟩:=gz i;obtain⟨b,m,rfl,j⟩:=gz k;cases ug j;show h kV c e g d ct a b
def Vt(F:nL K x qual st f fd)(h:∀kV d g i e ct a b c,bindArgs (qV x qual st kV d g i e ct) ⟨[a,b,c],[]⟩=pure [(p1,a),(p2,b),(p3,c)]):Binds K fd [p1,p2,p3] []:=
 F.binds λkV d g i e ct n j=>by
  obtain⟨a,q,rfl,m⟩:=gz j;obtain⟨b,p,rfl,l⟩:=gz m;obtain⟨c,o,rfl,k⟩:=gz l;cases ug k;show h kV d g i e ct a b c
def Vl(F:nL K x qual st f fd)(h:∀kV e i j g ct a b c d,bindArgs (qV x qual st kV e i j g ct) ⟨[a,b,c,d],[]⟩=pure [(p1,a),(p2,b),(p3,c),(p4,d)]):Binds K fd [p1,p2,p3,p4] []:=
 F.binds λkV e i j g ct p k=>by
  obtain⟨a,t,rfl,o⟩:=gz k;obtain⟨b,s,rfl,n⟩:=gz o;obtain⟨c,r,rfl,m⟩:=gz n;obtain⟨d,q,rfl,l⟩:=gz m;cases ug l;show h kV e i j g ct a b c d
end
section
variable {X:Cx}
def uO(X:Cx):Cx:={X with xe:=λ_ _=>False}
end
variable {st:af}{K:D->af->Prop}{i j:Int}
end L3
namespace L3
open PySem L2
structure ClsAt(K:PySem.W.Frag)(mg:Str->Option Value)(x:Str)(C:Addr):Prop where
 cl:mv K C
 mg:mg x=some (.ref C)
 QB:PySem.W.makesIn K C=true
 kp:PySem.W.keepIn K (.ref C)=true
structure MethAt(K:PySem.W.Frag)(C:Addr)(m qual:Str)(st:Stmt)(ps:List Str)(f:Addr)(fd:FuncData):Prop where
 fn:nL K m qual st f fd
 me:Meth K C m f
 bd:Binds K fd ps []
end L3
namespace Hd
open PySem PySem.W L2 L3
open PySem.Spec hiding items?
open PyProof.Rows hiding St
section
variable {K:Frag}{mg:Str->Option Value}{h:Heap}{x q:Str}{st:Stmt}{f c C:Addr}{pm:Value}{p1 p2 p3 p4 p5 p6:Str}
abbrev Ed(K:Frag)(x:Str)(st:Stmt)(f:Addr)(pm:Value)(c:Addr):Prop:=(nsIn K mainGlobals x,K.lookup f,codeIn K (.ref c) x,keepIn K (.ref f))=(some (some (.ref f)),some (fq st x x pm c),true,true)
abbrev Em(K:Frag)(C:Addr)(x q:Str)(st:Stmt)(f:Addr)(pm:Value)(c:Addr):Prop:=(findIn K (.ref C) x,isFn K (.ref f),K.lookup f,codeIn K (.ref c) q,keepIn K (.ref f))=(some (some (.ref f)),true,some (fq st x q pm c),true,true)
def Ed.fn(e:Ed K x st f pm c):nL K x x st f (fd st x x pm c)/\nsIn K mainGlobals x=some (some (.ref f)):=by
 obtain⟨g,d,b,a⟩:_/\_/\_/\_:=by simpa only[ab4]using e
 show⟨Jo (st:=st) d b a,g⟩
def Em.fn(e:Em K C x q st f pm c):nL K x q st f (fd st x q pm c)/\Meth K C x f:=by
 obtain⟨i,g,d,b,a⟩:_/\_/\_/\_/\_:=by simpa only[ab4]using e
 show⟨Jo (st:=st) d b a,i,g,a⟩
def WJ(X:K.In h)(G:h.Ns mainGlobals mg)(e:Ed K x st f pm c)(b:∀kV d pm i g ct a,bindArgs (qV x x st kV d pm i g ct) ⟨[a],[]⟩=pure [(p1,a)]):m6 K mg x x st [p1] f (fd st x x pm c):=⟨e.fn.1,mg_of X G e.fn.2,Va e.fn.1 b⟩
def Wq(X:K.In h)(G:h.Ns mainGlobals mg)(e:Ed K x st f pm c)(b:∀kV a pm j d ct i g,bindArgs (qV x x st kV a pm j d ct) ⟨[i,g],[]⟩=pure [(p1,i),(p2,g)]):m6 K mg x x st [p1,p2] f (fd st x x pm c):=⟨e.fn.1,mg_of X G e.fn.2,Vi e.fn.1 b⟩
def Ws(X:K.In h)(G:h.Ns mainGlobals mg)(e:Ed K x st f pm c)(b:∀kV a pm k d ct j i g,bindArgs (qV x x st kV a pm k d ct) ⟨[j,i,g],[]⟩=pure [(p1,j),(p2,i),(p3,g)]):m6 K mg x x st [p1,p2,p3] f (fd st x x pm c):=⟨e.fn.1,mg_of X G e.fn.2,Vt e.fn.1 b⟩
def WL(X:K.In h)(G:h.Ns mainGlobals mg)(e:Ed K x st f pm c)(b:∀kV a pm l d ct k j i g,bindArgs (qV x x st kV a pm l d ct) ⟨[k,j,i,g],[]⟩=pure [(p1,k),(p2,j),(p3,i),(p4,g)]):m6 K mg x x st [p1,p2,p3,p4] f (fd st x x pm c):=⟨e.fn.1,mg_of X G e.fn.2,Vl e.fn.1 b⟩
def Wu(e:Em K C x q st f pm c)(b:∀kV d pm i g ct a,bindArgs (qV x q st kV d pm i g ct) ⟨[a],[]⟩=pure [(p1,a)]):MethAt K C x q st [p1] f (fd st x q pm c):=⟨e.fn.1,e.fn.2,Va e.fn.1 b⟩
def Ef(e:Em K C x q st f pm c)(b:∀kV a pm j d ct i g,bindArgs (qV x q st kV a pm j d ct) ⟨[i,g],[]⟩=pure [(p1,i),(p2,g)]):MethAt K C x q st [p1,p2] f (fd st x q pm c):=⟨e.fn.1,e.fn.2,Vi e.fn.1 b⟩
def IH(e:Em K C x q st f pm c)(b:∀kV a pm k d ct j i g,bindArgs (qV x q st kV a pm k d ct) ⟨[j,i,g],[]⟩=pure [(p1,j),(p2,i),(p3,g)]):MethAt K C x q st [p1,p2,p3] f (fd st x q pm c):=⟨e.fn.1,e.fn.2,Vt e.fn.1 b⟩
def WH(e:Em K C x q st f pm c)(b:∀kV a pm l d ct k j i g,bindArgs (qV x q st kV a pm l d ct) ⟨[k,j,i,g],[]⟩=pure [(p1,k),(p2,j),(p3,i),(p4,g)]):MethAt K C x q st [p1,p2,p3,p4] f (fd st x q pm c):=⟨e.fn.1,e.fn.2,Vl e.fn.1 b⟩
def fc(e:(K.lookup f,codeIn K (.ref c) q)=(some (fq st x q pm c),true)):RD K x q st f (fd st x q pm c) c:=by
 obtain⟨b,a⟩:_/\_:=by simpa only[ab4]using e
 show⟨_,_,_,_,_,_,_,_,rfl,b,a⟩
def na(e:findIn K (.ref C) a=some none):fB K C a:=e
end
end Hd
namespace L3
open PySem L2
open PySem.Spec hiding items?
open PyProof.Rows hiding St
end L3
namespace L3
open PySem L2
open PySem.Spec hiding items?
end L3
namespace L3
open PySem PySem.Spec L2
open PyProof.Rows hiding St
end L3
namespace L3
open PySem L2
open PySem.Spec hiding items?
open PyProof.Rows hiding St
namespace RF
end RF
section
variable {X:Cx}{sc:Scope}{N gl:List Str}{x:Str}{pos:Pos}
def VS.lM(V:VS sc N gl)(h:N.contains x=true:=by decide+kernel):Loc sc x:=by
 obtain⟨i,a,e⟩:=Xp.mp (abV.mp h);show V.l i (by rw[W7 a,e])
def VS.gM(V:VS sc N gl)(h:gl.contains x=true:=by decide+kernel):sc.names.lookup x=some .globalImplicit:=by
 obtain⟨i,a,e⟩:=Xp.mp (abV.mp h);show V.g i (by rw[W7 a,e])
def Ru(N P:List Str)(sc:Scope):Bool:=(sc.kind== .function)&& !sc.isCoroutine&& !sc.isGenerator&&decide N.Nodup&&(N.take P.length==P)&&P.all (λx=>sc.names.lookup x==some .local||sc.names.lookup x==some .cell)&&sc.names.all λy=>y.2 != .free
structure VF(s:Stmt)(N P gl:List Str):Prop where
 v:VS (bj s) N gl
 sc:lK N P (bj s)
def VF.of{N P gl:List Str}(h:(GK (bj s) N gl&&Ru N P (bj s))=true):VF s N P gl:=by
 obtain⟨j,i⟩:=aa0.mp h;unfold Ru at i;simp![Yc,Y7,Bool.not_eq_true',decide_eq_true_eq,XA,aao,aaX,ne_eq]at i;obtain⟨⟨⟨⟨⟨⟨a,b⟩,c⟩,d⟩,e⟩,f⟩,g⟩:=i;show⟨⟨j⟩,a,b,c,d,e,f,g⟩
def VI:Expr->List Str
 | .Name x _=>[x]
 | .Tuple [.Name x _,.Name y _] _ _=>[x,y]
 | .Tuple [.Name x _,.Name y _,.Name z _] _ _=>[x,y,z]
 | .Tuple [.Tuple [.Name x _,.Name y _] _ _,.Name z _] _ _=>[x,y,z]
 |_=>[]
def mL(a:Expr)(fr:List (Option Nat))(N:List Str):List Str:=VI a++(fr.filterMap id).map λk=>N.getD k ""
variable {scope:Scope}{elt tg iter:Expr}{ifs:List Expr}{src:DI}{fr:List (Option Nat)}{dtg:fu}{t:DT}{te:DE}{pos' p:Pos}
def N1(V:VS sc N gl)(h:oh sc N scope (mL tg fr N) fr=true)(hi:JI X tg iter src)(f:∀C s H ex,JG (cB X scope (mL tg fr N) C s H ex) tg dtg)(d:∀C s H ex,JC (cB X scope (mL tg fr N) C s H ex) ifs t)(g:∀C s H ex,JE (cB X scope (mL tg fr N) C s H ex) elt te)(b:pN fr dtg)(a:X.env.scope=sc:=by rfl)(j:X.N=N:=by rfl)
 (c:X.xe=λ_ _=>False:=by rfl) (i:X.calm=true:=by rfl) (e:∀x,foldedSetIterable iter X.env x=pure x:=by intro _;rfl):JE X (.ListComp elt [⟨tg,iter,ifs,0⟩] scope pos) (cp src fr dtg t te):=pR (cD.look sc N h a j) hi f d g b c i e
def Kw{k:Nat}(V:VS sc N gl)(i:X.N.Nodup)(j:Loc X.env.scope x)(h:oh sc N scope (mL tg fr N) fr=true)(hi:JI X tg iter src)(l:∀C s H ex,JG (cB X scope (mL tg fr N) C s H ex) tg dtg)(f:∀C s H ex,JC (cB X scope (mL tg fr N) C s H ex) ifs t)(n:∀C s H ex,JE (cB X scope (mL tg fr N) C s H ex) elt te)(d:pN fr dtg)(b:X.env.scope=sc:=by rfl)(q:X.N=N:=by rfl)
 (m:X.fn x=true\/X.env.scope.names.lookup x=some .local:=by first|show .inl rfl|show .inr rfl) (a:swapsWith (.ListComp elt [⟨tg,iter,ifs,0⟩] scope p) (some (.Name x pos')) pos.line X.env=pure true:=by rfl) (c:X.N[k]?=some x:=by rfl) (e:X.xe=λ_ _=>False:=by rfl) (o:X.calm=true:=by rfl) (g:∀x,foldedSetIterable iter X.env x=pure x:=by intro _;rfl):
 JS X (.Assign [.Name x pos'] (.ListComp elt [⟨tg,iter,ifs,0⟩] scope p) pos) (aM k (cp src fr dtg t te)):=yJ i j (cD.look sc N h b q) hi l f n d m a c e o g
variable {X0:Cx}{scope0:Scope}{Nc:List Str}{C:Addr}{s:Shared}{H:Hp}{ex:List Addr}
def OY(h:oh scope0 Nc scope (mL tg fr Nc) fr=true)(hi:JI (cB X0 scope0 Nc C s H ex) tg iter src)(i:∀c s' b a,JG (cB (cB X0 scope0 Nc C s H ex) scope (mL tg fr Nc) c s' b a) tg dtg)(f:∀c s' b a,JC (cB (cB X0 scope0 Nc C s H ex) scope (mL tg fr Nc) c s' b a) ifs t)(j:∀c s' b a,JE (cB (cB X0 scope0 Nc C s H ex) scope (mL tg fr Nc) c s' b a) elt te)(d:pN fr dtg)
 (e:(cB X0 scope0 Nc C s H ex).xe=λ_ _=>False:=by rfl) (k:(cB X0 scope0 Nc C s H ex).calm=true:=by rfl) (g:∀x,foldedSetIterable iter (cB X0 scope0 Nc C s H ex).env x=pure x:=by intro _;rfl):JE (cB X0 scope0 Nc C s H ex) (.ListComp elt [⟨tg,iter,ifs,0⟩] scope pos) (cp src fr dtg t te):=pR (cD.Nu h) hi i f j d e k g
def UM{k:Nat}(b:Nc.Nodup:=by decide+kernel)(a:Loc (cB X0 scope0 Nc C s H ex).env.scope x:=by first|show Or.inl rfl|show Or.inr rfl)(c:(cB X0 scope0 Nc C s H ex).fn x=true\/(cB X0 scope0 Nc C s H ex).env.scope.names.lookup x=some .local:=by first|show .inl rfl|show .inr rfl)(hi:Nc[k]?=some x:=by rfl):JG (cB X0 scope0 Nc C s H ex) (.Name x pos) (bf k):=kb b a c hi
def SD{k j n:Nat}{y:Str}{b a:Pos}(e:Nc.Nodup:=by decide+kernel)(d:Loc (cB X0 scope0 Nc C s H ex).env.scope x:=by first|show Or.inl rfl|show Or.inr rfl)(h:(cB X0 scope0 Nc C s H ex).fn x=true\/(cB X0 scope0 Nc C s H ex).env.scope.names.lookup x=some .local:=by first|show .inl rfl|show .inr rfl)(c:Loc (cB X0 scope0 Nc C s H ex).env.scope y:=by first|show Or.inl rfl|show Or.inr rfl)(g:(cB X0 scope0 Nc C s H ex).fn y=true\/(cB X0 scope0 Nc C s H ex).env.scope.names.lookup y=some .local:=by first|show .inl rfl|show .inr rfl)(hi:Nc[k]?=some x:=by rfl)(f:Nc[j]?=some y:=by rfl)(i:(cB X0 scope0 Nc C s H ex).calm=true:=by rfl):JG (cB X0 scope0 Nc C s H ex) (.Tuple [.Name x b,.Name y a] n pos) (dN k j):=uj i e d h c g hi f
def VS.loc(V:VS sc N gl)(h:sc.names.lookup x=some .local:=by decide+kernel):sc.names.lookup x=some .local:=h
end
def Ny{X:Cx}(h:JS X b t)(c:X.xe=λ_ _=>False:=by rfl):JS X (.Try [b] (h₀::d) [] [] pos) t:=by
 unfold JS at*;intro a s σ H D I q;show wpAny_Try_except (abv (YU (h a s σ H D I q) (λf e z=>?_) λ_ _ z=>?_))
 . cases f with
   |next=>show ZO (ZO z)
   |brk=>show z
   |cont=>show z
   |ret u=>show z
 . rw[c]at z;show z.elim
end L3
namespace Mx
def S:Nat->(Nat->Int)->Int
 |0,_=>0
 |n+1,f=>S n f+f n
def aw{f g:Nat->Int}(h:∀i,i<n->f i=g i):S n f=S n g:=by
 induction n with
 |zero=>rfl
 |succ n a=>unfold S;rw[a λi b=>h i (by lia),h n (by lia)]
def mm{f:Nat->Int}(h:∀i,i<n->f i=0):S n f=0:=by
 induction n with
 |zero=>rfl
 |succ n a=>unfold S;rw[a λi b=>h i (by lia),h n (by lia)];rfl
def iR(n:Nat)(f g:Nat->Int):S n (λi=>f i+g i)=S n f+S n g:=by
 induction n with
 |zero=>rfl
 |succ n a=>unfold S;rw[a];dsimp only;lia
def cT(n:Nat)(c:Int)(f:Nat->Int):S n (λi=>c*f i)=c*S n f:=by
 induction n with
 |zero=>unfold S;rw[XT]
 |succ n a=>unfold S;rw[a,abN]
def kD(n:Nat)(c:Int)(f:Nat->Int):S n (λi=>f i*c)=S n f*c:=by
 induction n with
 |zero=>unfold S;rw[ZG]
 |succ n a=>unfold S;rw[a,Int.add_mul]
def xt(n:Nat)(f:Nat->Int):S n (λi=> -f i)= -S n f:=by
 induction n with
 |zero=>rfl
 |succ n a=>unfold S;rw[a];dsimp only;lia
def i6(m n:Nat)(f:Nat->Nat->Int):S m (λi=>S n λj=>f i j)=S n λj=>S m λi=>f i j:=by
 induction m with
 |zero=>show(mm (n:=n) (λi _=>rfl)).symm
 |succ m a=>
  have:S n (λj=>S (m+1) λi=>f i j)=S n λj=>(S m λi=>f i j)+f m j:=aw λj _=>rfl;rw[this,iR,<-a];rfl
def lT{k:Nat}(d:k<n){f:Nat->Int}(h:∀i,i<n->i≠k->f i=0):S n f=f k:=by
 induction n with
 |zero=>lia
 |succ n a=>
  unfold S;by_cases e:k=n
  . subst e;rw[mm λi c=>h i (by lia) (by lia),aau]
  . rw[a (by lia) λi c b=>h i (by lia) b,h n (by lia) (by lia),Y_]
def CN(n:Nat)(f:Nat->Int):S (n+1) f=f 0+S n λi=>f (i+1):=by
 induction n with
 |zero=>unfold S S;lia
 |succ n a=>
  have:S (n+1+1) f=S (n+1) f+f (n+1):=rfl;rw[this,a];let:S (n+1) (λi=>f (i+1))=S n (λi=>f (i+1))+f (n+1):=rfl;rw[this];lia
def dl(i j:Nat):Int:=if i=j then 1 else 0
def dh(i:Nat):dl i i=1:=WY rfl
def dD(h:i≠j):dl i j=0:=WW h
def gO{n k:Nat}(a:k<n)(f:Nat->Int):S n (λi=>dl k i*f i)=f k:=by
 rw[lT a (λi _ h=>by rw[dD (W4 h),ZG]),dh,Yg]
def rm{n k:Nat}(a:k<n)(f:Nat->Int):S n (λi=>f i*dl i k)=f k:=by
 rw[lT a (λi _ h=>by rw[dD h,XT]),dh,Int.mul_one]
abbrev Row:=List Int
abbrev Rows:=List (List Int)
def g(A:Rows)(i j:Nat):Int:=(A.getD i []).getD j 0
structure aX(m n:Nat)(A:Rows):Prop where
 len:A.length=m
 fZ:∀r∈A,r.length=n
def aJ{α:Type}{l:List α}{d:α}(h:i<l.length):l.getD i d=l[i]:=by
 rw[Xa,W7 h];rfl
def lp{α:Type}{l:List α}{d:α}(h:l.length<=i):l.getD i d=d:=by
 rw[Xa,Yw h];rfl
def tU{a b:Row}(f:a.length=n)(e:b.length=n)(h:∀j,j<n->a.getD j 0=b.getD j 0):a=b:=by
 show aaf (by lia) λi d c=>?_;let:=h i (by lia);rwa [aJ d,aJ c]at this
def aX.row{A:Rows}(h:aX m n A)(hi:i<m):(A.getD i []).length=n:=by
 let a:=h.len;rw[aJ (by lia)];show h.fZ _ (XX _)
def aX.ext(c:aX m n A)(b:aX m n B)(h:∀i j,i<m->j<n->g A i j=g B i j):A=B:=by
 let l:=c.len;let k:=b.len;show aaf (by lia) λi d a=>?_;let f:=c.row (i:=i) (by lia);let e:=b.row (i:=i) (by lia);let:=tU f e λj a=>h i j (by lia) a;rwa [aJ d,aJ a]at this
def fS(r:Row)(t:Int)(s:Row):Row:=List.zipWith (λa b=>a+t*b) r s
def ka{r s:Row}(h:r.length=s.length):(fS r t s).length=r.length:=by unfold fS;simp[h]
def nj{r s:Row}(h:r.length=s.length)(j:Nat):(fS r t s).getD j 0=r.getD j 0+t*s.getD j 0:=by
 unfold fS;by_cases a:j<r.length
 . rw[aJ (by simp;lia),aJ a,aJ (by lia)];simp
 . rw[lp (by simp;lia),lp (by lia),lp (by lia)];simp
def dR:Row->Rows->Row->Row
 |w::ws,r::rs,a=>dR ws rs (fS a w r)
 |_,_,a=>a
def tm:∀ {c:Row} {a:Rows} {acc:Row},acc.length=n->(∀r∈a,r.length=n)->(dR c a acc).length=n
 | [],_,acc,h,_=>by unfold dR;show h
 |_::_,[],acc,h,_=>by unfold dR;show h
 |w::c,r::a,acc,h,d=>by
  unfold dR;show tm ?_ λr b=>d r (Xg _ b);rw[ka (by rw[h,d r Xk]),h]
def vU:∀ {b:Row} {a:Rows} {acc:Row} (j:Nat),acc.length=n->(∀r∈a,r.length=n)->b.length=a.length->(dR b a acc).getD j 0=acc.getD j 0+S a.length λk=>b.getD k 0*g a k j
 | [],[],acc,j,h,_,_=>by unfold dR;change _=_+(0:Int);rw[Y_]
 | [],_::_,acc,j,h,_,c=>by cases c
 |_::_,[],acc,j,h,_,c=>by cases c
 |w::b,r::a,acc,j,h,e,c=>by
  let f:acc.length=r.length:=by rw[h,e r Xk]
  unfold dR;rw[vU j (by rw[ka f,h]) (λr d=>e r (Xg _ d)) (by simpa using c),nj f,Xw,CN]
  let:(λk=>(w::b).getD (k+1) 0*g (r::a) (k+1) j)=λk=>b.getD k 0*g a k j:=by
   funext k;unfold g;simp
  rw[this];unfold g;simp;lia
def mulM(A B:Rows)(n:Nat):Rows:=A.map λw=>dR w B (List.replicate n 0)
def cZ(n j:Nat):(List.replicate n (0:Int)).getD j 0=0:=by
 by_cases h:j<n
 . rw[aJ (by simpa using h)];simp
 . rw[lp (by simp;lia)]
def OD(c:aX m p A)(b:aX p n B):aX m n (mulM A B n):=by
 show⟨by unfold mulM;rw[W2];show c.len,λr a=>?_⟩;unfold mulM at a;obtain⟨w,_,rfl⟩:=XB.mp a;show tm (by simp) b.fZ
def map_getD{α:Type}{f:Row->List α}{A:Rows}(h:i<A.length):(A.map f).getD i []=f (A.getD i []):=by
 rw[aJ (by simpa using h),aJ h];simp
def N4(b:aX m p A)(a:aX p n B)(hi:i<m)(j:Nat):g (mulM A B n) i j=S p λk=>g A i k*g B k j:=by
 let c:=b.len;change((mulM A B n).getD i []).getD j 0=_;unfold mulM;rw[map_getD (by lia),vU (n:=n) j (by simp) a.fZ (by rw[b.row hi,a.len]),cZ,aau,a.len];rfl
def fK(n i:Nat):Row:=(List.range n).map λk=>dl k i
def units(n:Nat):Rows:=(List.range n).map λi=>fK n i
def range_getD{α:Type}{f:Nat->α}{d:α}(h:i<n):((List.range n).map f).getD i d=f i:=by
 rw[aJ (by simpa using h)];simp
def fW(n:Nat):aX n n (units n):=⟨by simp[units],λr a=>by unfold units at a;obtain⟨i,_,rfl⟩:=XB.mp a;simp[fK]⟩
def i7(hi:i<n)(a:j<n):g (units n) i j=dl i j:=by
 unfold g units fK;rw[range_getD hi,range_getD a];unfold dl;by_cases h:i=j
 . subst h;rfl
 . rw[WW (W4 h),WW h]
def uV(b:aX m n A):mulM (units m) A n=A:=
 (OD (fW m) b).ext b λi j a d=>by
   rw[N4 (fW m) b a];let:S m (λk=>g (units m) i k*g A k j)=S m λk=>dl i k*g A k j:=aw λk c=>by rw[i7 a c]
   rw[this,gO a]
def xM(A:Rows)(j:Nat):Row:=A.map λr=>r.getD j 0
def HH(A:Rows)(n:Nat):Rows:=(List.range n).map λj=>xM A j
def gY:Row->Row->Int
 |a::as,b::bs=>a*b+gY as bs
 |_,_=>0
def my:∀ {a b:Row},a.length=b.length->gY a b=S b.length λk=>a.getD k 0*b.getD k 0
 | [],[],_=>rfl
 | [],_::_,h=>by cases h
 |_::_,[],h=>by cases h
 |x::a,y::b,h=>by
  unfold gY;rw[my (by simpa using h),Xw,CN];simp
def ni(i j:Nat):dl i j=dl j i:=by
 unfold dl;by_cases h:i=j
 . rw[WY h,WY h.symm]
 . rw[WW h,WW (W4 h)]
def sw(i j k:Nat):Nat:=if k=i then j else if k=j then i else k
def QL(hi:i<n)(d:j<n)(a:i≠j)(f:Nat->Int):S n (λk=>f (sw i j k))=S n f:=by
 let:S n (λk=>f (sw i j k))=S n λk=>f k+(f j-f i)*dl k i+(f i-f j)*dl k j:=aw λk _=>by
  unfold sw;by_cases c:k=i
  . subst c;rw[WY rfl,dh,dD a];lia
  . rw[WW c,dD c];by_cases b:k=j
    . subst b;rw[WY rfl,dh];lia
    . rw[WW b,dD b];lia
 rw[this,iR,iR,rm (f:=λ_=>f j-f i) hi,rm (f:=λ_=>f i-f j) d];lia
def mB{A:Rows}{r:Row}(hi:i<A.length)(a k:Nat):g (A.set i r) a k=if a=i then r.getD k 0 else g A a k:=by
 let e:(A.set i r).getD a []=if a=i then r else A.getD a []:=by
  rw[Xa,Xa];by_cases h:a=i
  . subst h;rw[WY rfl,W9 hi];rfl
  . rw[WW h,W0 (W4 h)]
 unfold g;rw[e];by_cases h:a=i
 . rw[WY h,WY h]
 . rw[WW h,WW h]
abbrev Fn:=Nat->Nat->Int
def sk(j c:Nat):Nat:=if c<j then c else c+1
def sg(j:Nat):Int:=if j%2=0 then 1 else-1
def xR(j:Nat):sg (j+1)= -sg j:=by unfold sg;split<;>split<;>lia
def t_:sg 0=1:=rfl
def jQ(h:c<n):sk j c<n+1:=by unfold sk;split<;>lia
def Ut{j k c:Nat}(h:k<j):sk j (sk k c)=sk k (sk (j-1) c):=by unfold sk;grind
def D:Nat->Fn->Int
 |0,_=>1
 |n+1,M=>S (n+1) λj=>sg j*M 0 j*D n λr c=>M (r+1) (sk j c)
def gW(M:Fn):D 0 M=1:=rfl
def c_(n:Nat)(M:Fn):D (n+1) M=S (n+1) λj=>sg j*M 0 j*D n λr c=>M (r+1) (sk j c):=rfl
def a8:∀ {n:Nat} {M M':Fn},(∀r c,r<n->c<n->M r c=M' r c)->D n M=D n M'
 |0,_,_,_=>rfl
 |n+1,M,M',h=>by
  rw[c_,c_];show aw λj a=>?_;let e:D n (λr c=>M (r+1) (sk j c))=D n (λr c=>M' (r+1) (sk j c)):=a8 λr c d b=>h (r+1) (sk j c) (by lia) (jQ b);rw[h 0 j (by lia) a,e]
def E6:∀ {n:Nat} {M P Q:Fn} {a b:Int} {i:Nat},i<n->(∀c,c<n->M i c=a*P i c+b*Q i c)->(∀r c,r<n->c<n->r≠i->M r c=P r c/\M r c=Q r c)->D n M=a*D n P+b*D n Q
 |0,_,_,_,_,_,_,h,_,_=>by lia
 |n+1,M,P,Q,a,b,0,_,g,h=>by
  rw[c_,c_,c_,<-cT,<-cT,<-iR];show aw λj f=>?_;let o:D n (λr c=>M (r+1) (sk j c))=D n (λr c=>P (r+1) (sk j c)):=a8 λr c k d=>(h (r+1) (sk j c) (by lia) (jQ d) (by lia)).1;let m:D n (λr c=>M (r+1) (sk j c))=D n (λr c=>Q (r+1) (sk j c)):=a8 λr c k d=>(h (r+1) (sk j c) (by lia) (jQ d) (by lia)).2;rw[g j f,<-o,<-m];grind
 |n+1,M,P,Q,a,b,i+1,q,g,h=>by
  rw[c_,c_,c_,<-cT,<-cT,<-iR];show aw λj f=>?_;let e:=E6 (n:=n) (M:=λr c=>M (r+1) (sk j c)) (P:=λr c=>P (r+1) (sk j c)) (Q:=λr c=>Q (r+1) (sk j c)) (a:=a) (b:=b) (i:=i) (by lia) (λc d=>g (sk j c) (jQ d)) λr c k d l=>h (r+1) (sk j c) (by lia) (jQ d) (by lia);let p:=h 0 j (by lia) f (by lia);rw[e,<-p.1,<-p.2];grind
def VM(h:∀c,c<n+2->M 0 c=M 1 c):D (n+2) M=0:=by
 letI T:Nat->Nat->Int:=λj k=>sg j*M 0 j*(sg k*M 1 (sk j k)*D n λr c=>M (r+2) (sk j (sk k c)))
 let p:∀j,j<n+2->sg j*M 0 j*D (n+1) (λr c=>M (r+1) (sk j c))=S (n+1) λk=>T j k:=λj e=>by
  rw[c_,<-cT]
 rw[c_,aw p]
 let o:∀j,j<n+2->S (n+1) (λk=>T j k)=S (n+1) (λk=>if k<j then T j k else 0)+S (n+1) (λk=>if k<j then 0 else T j k):=λj _=>by
  rw[<-iR];show aw λk _=>?_;split<;>lia
 rw[aw o,iR]
 let m:∀j k,j<n+2->k<n+1->¬k<j->T j k= -T (k+1) j:=λj k e b d=>by
  let i:sk (k+1) j=j:=by unfold sk;rw[WY (by lia)]
  let g:sk j k=k+1:=by unfold sk;rw[WW d]
  let f:(λr c=>M (r+2) (sk (k+1) (sk j c)))=λr c=>M (r+2) (sk j (sk k c)):=by
   funext r c;rw[Ut (show j<k+1 by lia)];rfl
  change sg j*M 0 j*(sg k*M 1 (sk j k)*D n λr c=>M (r+2) (sk j (sk k c)))= -(sg (k+1)*M 0 (k+1)*(sg j*M 1 (sk (k+1) j)*D n λr c=>M (r+2) (sk (k+1) (sk j c))));rw[i,g,f,xR,<-h j e,<-h (k+1) (by lia)];grind
 let l:S (n+2) (λj=>S (n+1) λk=>if k<j then 0 else T j k)= -S (n+2) (λj=>S (n+1) λk=>if k<j then T j k else 0):=by
  rw[i6,CN (n+1) (λj=>S (n+1) λk=>if k<j then T j k else 0)];let z:S (n+1) (λk=>if k<0 then T 0 k else 0)=0:=mm λk _=>WW (by lia);rw[z,aau,<-xt];show aw λk b=>?_;let:S (n+2) (λj=>if k<j then 0 else T j k)=S (n+1) (λj=>if k<j then 0 else T j k)+(if k<n+1 then 0 else T (n+1) k):=rfl;rw[this,WY b,Y_,<-xt];show aw λj e=>?_;by_cases a:k<j
  . rw[WY a,WW (by lia)];rfl
  . rw[WW a,WY (by lia)];show m j k (by lia) b a
 rw[l];lia
def MR:∀ {n:Nat} {M:Fn} {i:Nat},i+1<n->(∀c,c<n->M i c=M (i+1) c)->D n M=0
 |0,_,_,h,_=>by lia
 |1,_,_,h,_=>by lia
 |n+2,M,0,_,h=>VM h
 |n+2,M,i+1,d,h=>by
  rw[c_];show mm λj b=>?_;rw[MR (n:=n+1) (M:=λr c=>M (r+1) (sk j c)) (i:=i) (by lia) λc a=>h (sk j c) (jQ a),XT]
structure Alt(n:Nat)(φ:Fn->Int):Prop where
 cg:∀M M':Fn,(∀r c,r<n->c<n->M r c=M' r c)->φ M=φ M'
 pP:∀(i:Nat) (M P Q:Fn) (a b:Int),i<n->(∀c,c<n->M i c=a*P i c+b*Q i c)->(∀r c,r<n->c<n->r≠i->M r c=P r c/\M r c=Q r c)->φ M=a*φ P+b*φ Q
 alt:∀(i j:Nat) (M:Fn),i<n->j<n->i≠j->(∀c,c<n->M i c=M j c)->φ M=0
def upd(M:Fn)(i:Nat)(x:Nat->Int):Fn:=λr c=>if r=i then x c else M r c
def bR(M:Fn)(i:Nat)(x:Nat->Int)(c:Nat):upd M i x i c=x c:=WY rfl
def aB{x:Nat->Int}(h:r≠i)(c:Nat):upd M i x r c=M r c:=WW h
def Vf{φ:Fn->Int}(o:∀M M':Fn,(∀r c,r<n->c<n->M r c=M' r c)->φ M=φ M')
 (l:∀(i:Nat) (M P Q:Fn) (a b:Int),i<n->(∀c,c<n->M i c=a*P i c+b*Q i c)->(∀r c,r<n->c<n->r≠i->M r c=P r c/\M r c=Q r c)->φ M=a*φ P+b*φ Q)
 (hi:i<n) (z:j<n) (d:i≠j) (f:∀N:Fn,(∀c,c<n->N i c=N j c)->φ N=0) (M:Fn):φ (λr=>M (sw i j r))= -φ M:=by
 let y:φ (upd (upd M i λc=>M i c+M j c) j λc=>M i c+M j c)=1*φ (upd (upd M i (M i)) j λc=>M i c+M j c)+1*φ (upd (upd M i (M j)) j λc=>M i c+M j c):=
  l i _ _ _ 1 1 hi (λc _=>by rw[aB d,aB d,aB d,bR,bR,bR];lia) λr c _ _ h=>by
   unfold upd;grind
 let m:∀x:Nat->Int,φ (upd (upd M i x) j λc=>M i c+M j c)=1*φ (upd (upd M i x) j (M i))+1*φ (upd (upd M i x) j (M j)):=λx=>
  l j _ _ _ 1 1 z (λc _=>by rw[bR,bR,bR];lia) λr c _ _ h=>by
   rw[aB h,aB h,aB h];show⟨rfl,rfl⟩
 let u:φ (upd (upd M i λc=>M i c+M j c) j λc=>M i c+M j c)=0:=f _ λc _=>by rw[aB d,bR,bR]
 let t:φ (upd (upd M i (M i)) j (M i))=0:=f _ λc _=>by rw[aB d,bR,bR]
 let s:φ (upd (upd M i (M j)) j (M j))=0:=f _ λc _=>by rw[aB d,bR,bR]
 let w:φ (upd (upd M i (M i)) j (M j))=φ M:=o _ _ λr c _ _=>by
  unfold upd;split
  . rename_i e;rw[e]
  . split
    . rename_i e;rw[e]
    . rfl
 let v:φ (upd (upd M i (M j)) j (M i))=φ (λr=>M (sw i j r)):=o _ _ λr c _ _=>by
  unfold upd sw;by_cases k:r=j
  . rw[WY k];by_cases g:r=i
    . lia
    . rw[WW g,WY k]
  . rw[WW k];by_cases g:r=i
    . rw[WY g,WY g]
    . rw[WW g,WW g,WW k]
 let q:=m (M i);let p:=m (M j);rw[t,w]at q;rw[s,v]at p;rw[u,q,p]at y;lia
def Alt.swap{φ:Fn->Int}(A:Alt n φ)(hi:i<n)(b:j<n)(a:i≠j)(M:Fn):φ (λr=>M (sw i j r))= -φ M:=
 Vf A.cg A.pP hi b a (λN h=>A.alt i j N hi b a h) M
def xH{φ:Fn->Int}(o:∀M M':Fn,(∀r c,r<n->c<n->M r c=M' r c)->φ M=φ M')
 (l:∀(i:Nat) (M P Q:Fn) (a b:Int),i<n->(∀c,c<n->M i c=a*P i c+b*Q i c)->(∀r c,r<n->c<n->r≠i->M r c=P r c/\M r c=Q r c)->φ M=a*φ P+b*φ Q)
 (f:∀(i:Nat) (M:Fn),i+1<n->(∀c,c<n->M i c=M (i+1) c)->φ M=0):Alt n φ:=by
 let e:∀(d i:Nat) (M:Fn),i+d+1<n->(∀c,c<n->M i c=M (i+d+1) c)->φ M=0:=by
  intro d;induction d with
  |zero=>show λi M m k=>f i M m k
  |succ d p=>
   intro i M m k;let x:=Vf o l (i:=i+d+1) (j:=i+d+1+1) (by lia) (by lia) (by lia) (λN h=>f (i+d+1) N (by lia) h) M
   let:φ (λr=>M (sw (i+d+1) (i+d+1+1) r))=0:=p i _ (by lia) λc g=>by
    let w:sw (i+d+1) (i+d+1+1) i=i:=by unfold sw;rw[WW (by lia),WW (by lia)]
    let v:sw (i+d+1) (i+d+1+1) (i+d+1)=i+d+1+1:=by unfold sw;rw[WY rfl]
    rw[w,v];show k c g
   lia
 show⟨o,l,λi j M u s t h=>?_⟩;by_cases q:i<j
 . obtain⟨d,rfl⟩:∃d,j=i+d+1:=⟨j-i-1,by lia⟩
   show e d i M s h
 . obtain⟨d,rfl⟩:∃d,i=j+d+1:=⟨i-j-1,by lia⟩
   show e d j M u λc g=>(h c g).symm
def jN(n:Nat):Alt n (D n):=xH (λ_ _ h=>a8 h) (λ_ _ _ _ _ _ a d h=>E6 a d h) λ_ _ c b=>MR c b
def Alt.Ro{φ:Fn->Int}(A:Alt n φ)(hi:i<n)(h:∀c,c<n->M i c=0):φ M=0:=by
 let:=A.pP i M M M 0 0 hi (λc a=>by rw[h c a];rfl) λ_ _ _ _ _=>⟨rfl,rfl⟩
 lia
def Alt.lZ{φ:Fn->Int}(A:Alt n φ)(hi:i<n)(M:Fn)(t:Int)(x:Nat->Int):φ (upd M i λc=>t*x c)=t*φ (upd M i x):=by
 let:=A.pP i (upd M i λc=>t*x c) (upd M i x) (upd M i x) t 0 hi (λc b=>by rw[bR,bR];lia) λr c _ _ a=>by rw[aB a,aB a];show⟨rfl,rfl⟩
 lia
def Alt.se{φ:Fn->Int}(A:Alt n φ)(hi:i<n)(M:Fn)(x y:Nat->Int):φ (upd M i λc=>x c+y c)=φ (upd M i x)+φ (upd M i y):=by
 let:=A.pP i (upd M i λc=>x c+y c) (upd M i x) (upd M i y) 1 1 hi (λc b=>by rw[bR,bR,bR];lia) λr c _ _ a=>by rw[aB a,aB a,aB a];show⟨rfl,rfl⟩
 lia
def Alt.pJ{φ:Fn->Int}(A:Alt n φ)(hi:i<n)(M:Fn)(a:Nat->Int)(x:Nat->Nat->Int):∀m,φ (upd M i λc=>S m λj=>a j*x j c)=S m λj=>a j*φ (upd M i (x j))
 |0=>A.Ro hi λc _=>by rw[bR];rfl
 |m+1=>by
  let:(λc=>S (m+1) λj=>a j*x j c)=λc=>(S m λj=>a j*x j c)+a m*x m c:=rfl;rw[this,A.se hi,A.pJ hi M a x m,A.lZ hi];rfl
def Alt.more{φ:Fn->Int}(A:Alt n φ)(hi:i<n)(M:Fn)(x:Nat->Int)(a:Nat->Int)(m:Nat)(d:m<=n)(b:m<=i):φ (upd M i λc=>x c+S m λj=>a j*M j c)=φ (upd M i x):=by
 rw[A.se hi,A.pJ hi M a (λj=>M j) m,mm λj e=>?_,Y_];rw[A.alt i j _ hi (by lia) (by lia) λc _=>by rw[bR,aB (by lia)],XT]
def un(j c:Nat):Nat:=if c<j then c else c-1
def grow(j:Nat)(B:Fn):Fn:=λr c=>if r=0 then dl j c else if c=j then 0 else B (r-1) (un j c)
def xy(a:j<n+1)(b:c<n+1)(h:c≠j):un j c<n:=by unfold un;split<;>lia
def Ff(h:c≠j):sk j (un j c)=c:=by unfold sk un;grind
def Alt.grow{φ:Fn->Int}(A:Alt (n+1) φ)(f:j<n+1):Alt n λB=>φ (Mx.grow j B) where
 cg:=λM t h=>A.cg _ _ λr c g d=>by
  let:=h (r-1) (un j c);let:=xy (c:=c) f d;unfold Mx.grow;grind
 pP:=λi M P Q a b o p h=>A.pP (i+1) _ _ _ a b (by lia) (λc d=>by
  let:=p (un j c);let:=xy (c:=c) f d;let e:i+1-1=i:=by lia
  unfold Mx.grow;rw[e];grind) λr c g d l=>by
  let:=h (r-1) (un j c);let:=xy (c:=c) f d;unfold Mx.grow;grind
 alt:=λi k M o s m h=>A.alt (i+1) (k+1) _ (by lia) (by lia) (by lia) λc d=>by
  let:=h (un j c);let:=xy (c:=c) f d;let e:i+1-1=i:=by lia
  let q:k+1-1=k:=by lia
  unfold Mx.grow;rw[e,q];grind
def Alt.units{φ:Fn->Int}(A:Alt (n+1) φ):∀j,j<n+1->φ (Mx.grow j dl)=sg j*φ dl
 |0,_=>by
  rw[t_,Yg];show A.cg _ _ λr c b e=>?_;unfold Mx.grow un dl;grind
 |j+1,d=>by
  let a:=A.units j (by lia);let s:=A.swap (i:=0) (j:=j+1) (by lia) d (by lia) (Mx.grow j dl);rw[xR,Zh,<-a,<-s];show A.cg _ _ λr c b e=>?_;unfold Mx.grow un dl sw;grind
def Alt.Rh{n i k:Nat}{φ:Fn->Int}(A:Alt n φ)(hi:i<n)(b:k<n)(a:i≠k)(M:Fn)(x:Nat->Int)(t:Int):φ (upd M i λc=>x c+t*M k c)=φ (upd M i x):=by
 rw[A.se hi,A.lZ hi M t (M k),A.alt i k (upd M i (M k)) hi b a λc _=>by rw[bR,aB (W4 a)],XT,Y_]
def zr(j m:Nat)(M:Fn):Fn:=λr c=>if r=0 then dl j c else if r<=m/\c=j then 0 else M r c
def Alt.zr{φ:Fn->Int}(A:Alt (n+1) φ)(M:Fn):∀m,m<=n->φ (Mx.zr j m M)=φ (upd M 0 (dl j))
 |0,_=>A.cg _ _ λr c b d=>by unfold Mx.zr upd;grind
 |m+1,l=>by
  rw[<-A.zr M m (by lia)];let e:=A.Rh (i:=m+1) (k:=0) (by lia) (by lia) (by lia) (Mx.zr j m M) (M (m+1)) (-M (m+1) j)
  let h:φ (Mx.zr j (m+1) M)=φ (upd (Mx.zr j m M) (m+1) λc=>M (m+1) c+ -M (m+1) j*Mx.zr j m M 0 c):=A.cg _ _ λr c b d=>by
   unfold upd Mx.zr dl;by_cases f:r=m+1
   . subst f;by_cases a:c=j
     . subst a;simp;lia
     . have:¬j=c:=λz=>a z.symm;simp[a,this]
   . rw[WW f];grind
  let g:φ (upd (Mx.zr j m M) (m+1) (M (m+1)))=φ (Mx.zr j m M):=A.cg _ _ λr c b d=>by
   unfold upd Mx.zr;grind
  rw[h,e,g]
def E8:∀ {n:Nat} {φ:Fn->Int},Alt n φ->∀M,φ M=φ dl*D n M
 |0,φ,A,M=>by rw[gW,Int.mul_one];show A.cg _ _ λr c e=>by lia
 |n+1,φ,A,M=>by
  let k:φ M=S (n+1) λj=>M 0 j*φ (upd M 0 (dl j)):=by
   rw[<-A.pJ (by lia) M (M 0) dl (n+1)];show A.cg _ _ λr c e f=>?_;by_cases a:r=0
   . subst a;rw[bR,rm f]
   . rw[aB a]
  let i:∀j,j<n+1->φ (upd M 0 (dl j))=φ (Mx.grow j λr c=>M (r+1) (sk j c)):=λj d=>by
   rw[<-A.zr M n (WX _)];show A.cg _ _ λr c e f=>?_;unfold Mx.grow Mx.zr;by_cases a:r=0
   . rw[WY a,WY a]
   . rw[WW a,WW a];by_cases b:c=j
     . rw[WY ⟨by lia,b⟩,WY b]
     . rw[WW (by lia),WW b];dsimp only;rw[Ff b,show r-1+1=r by lia]
  rw[k,c_,<-cT];show aw λj d=>?_;let b:=E8 (A.grow d) λr c=>M (r+1) (sk j c);let h:=A.units j d;let g:φ (Mx.grow j λr c=>M (r+1) (sk j c))=φ (Mx.grow j dl)*D n λr c=>M (r+1) (sk j c):=b;rw[i j d,g,h];grind
def tZ:∀n,D n dl=1
 |0=>rfl
 |n+1=>by
  rw[c_,lT (k:=0) (by lia) λj b a=>by rw[dD (W4 a),XT,ZG]]
  let:D n (λr c=>dl (r+1) (sk 0 c))=D n dl:=a8 λr c _ _=>by
   unfold dl sk;grind
  rw[this,tZ n,dh];rfl
def xa(n:Nat)(A B:Fn):D n (λr c=>S n λk=>A r k*B k c)=D n A*D n B:=by
 let s:Alt n λA=>D n (λr c=>S n λk=>A r k*B k c):=by
  show⟨λM t h=>a8 λr c f l=>aw λk d=>by rw[h r k f d],λi M P Q a b o q h=>(jN n).pP i _ _ _ a b o (λc l=>?_) λr c f l g=>⟨aw λk d=>by rw[(h r k f d g).1],aw λk d=>by rw[(h r k f d g).2]⟩,λi j M o p m h=>(jN n).alt i j _ o p m λc l=>aw λk d=>by rw[h k d]⟩;change(S n λk=>M i k*B k c)=a*(S n λk=>P i k*B k c)+b*S n λk=>Q i k*B k c;rw[<-cT,<-cT,<-iR];show aw λk d=>?_;rw[q k d];grind
 let h:=E8 s A;let e:D n (λr c=>S n λk=>dl r k*B k c)=D n B:=a8 λr c f l=>gO f λk=>B k c;rw[h,e,Yz]
def Hz:∀ {n:Nat} {M P Q:Fn} {a b:Int} {i:Nat},i<n->(∀r,r<n->M r i=a*P r i+b*Q r i)->(∀r c,r<n->c<n->c≠i->M r c=P r c/\M r c=Q r c)->D n M=a*D n P+b*D n Q
 |0,_,_,_,_,_,_,h,_,_=>by lia
 |n+1,M,P,Q,a,b,i,t,q,h=>by
  rw[c_,c_,c_,<-cT,<-cT,<-iR];show aw λj o=>?_;by_cases d:j=i
  . subst d;let g:∀c,sk j c≠j:=λc=>by unfold sk;split<;>lia
    let v:D n (λr c=>M (r+1) (sk j c))=D n (λr c=>P (r+1) (sk j c)):=a8 λr c k f=>(h (r+1) (sk j c) (by lia) (jQ f) (g c)).1;let u:D n (λr c=>M (r+1) (sk j c))=D n (λr c=>Q (r+1) (sk j c)):=a8 λr c k f=>(h (r+1) (sk j c) (by lia) (jQ f) (g c)).2;rw[q 0 (by lia),<-v,<-u];grind
  . have p:=h 0 j (by lia) o d;let s:sk j (un j i)=i:=Ff (W4 d);let g:∀c,c≠un j i->sk j c≠i:=λc f=>by unfold sk;unfold un at f;grind
    let m:un j i<n:=xy o t (W4 d)
    let e:=Hz (n:=n) (M:=λr c=>M (r+1) (sk j c)) (P:=λr c=>P (r+1) (sk j c)) (Q:=λr c=>Q (r+1) (sk j c)) (a:=a) (b:=b) (i:=un j i) m (λr k=>by
     rw[s];show q (r+1) (by lia)) λr c k f l=>h (r+1) (sk j c) (by lia) (jQ f) (g c l)
    rw[e,<-p.1,<-p.2];grind
def HG:∀ {n:Nat} {M:Fn} {i:Nat},i+1<n->(∀r,r<n->M r i=M r (i+1))->D n M=0
 |0,_,_,h,_=>by lia
 |n+1,M,i,v,h=>by
  rw[c_]
  let l:∀j,j<n+1->j≠i->j≠i+1->D n (λr c=>M (r+1) (sk j c))=0:=λj d b g=>by
   show HG (i:=un j i) (by unfold un;split<;>lia) λr u=>?_;let x:sk j (un j i)=i:=Ff (W4 b);let w:sk j (un j i+1)=i+1:=by unfold sk un;grind
   rw[x,w];show h (r+1) (by lia)
  let e:D n (λr c=>M (r+1) (sk i c))=D n (λr c=>M (r+1) (sk (i+1) c)):=a8 λr c u A=>by
   by_cases q:c=i
   . subst q;let s:sk c c=c+1:=by unfold sk;rw[WW (by lia)]
     let y:sk (c+1) c=c:=by unfold sk;rw[WY (by lia)]
     rw[s,y];show(h (r+1) (by lia)).symm
   . have s:sk i c=sk (i+1) c:=by unfold sk;grind
     rw[s]
  let two:∀(m:Nat) (f:Nat->Int),i+1<m->(∀j,j<m->j≠i->j≠i+1->f j=0)->S m f=f i+f (i+1):=λm=>by
   induction m with
   |zero=>intro f h;lia
   |succ m t=>
    intro f z p;change S m f+f m=_;by_cases a:m=i+1
    . subst a;rw[lT (k:=i) (by lia) λj d o=>p j (by lia) o (by lia)]
    . rw[t f (by lia) λj d b g=>p j (by lia) b g,p m (by lia) (by lia) a,Y_]
  rw[two (n+1) _ v λj d b g=>by rw[l j d b g,XT],e,xR,h 0 (by lia)];grind
def tr(M:Fn):Fn:=λr c=>M c r
def mM(n:Nat)(M:Fn):D n (tr M)=D n M:=by
 let m:Alt n λA=>D n (tr A):=xH (λM o h=>a8 λr c d j=>h c r j d)
  (λi M P Q a b g l h=>Hz g (λr d=>l r d) λr c d j f=>h c r j d f)
  λi M g h=>HG g λr d=>h r d
 let h:=E8 m M;let e:D n (tr dl)=D n dl:=a8 λr c _ _=>ni c r;let k:D n (tr M)=D n (tr dl)*D n M:=h;rw[k,e,tZ,Yg]
def Pr:Nat->(Nat->Int)->Int
 |0,_=>1
 |n+1,f=>Pr n f*f n
def EY:∀(n:Nat) (f:Nat->Int),Pr (n+1) f=f 0*Pr n λi=>f (i+1)
 |0,f=>by change 1*f 0=f 0*1;lia
 |n+1,f=>by
  let:Pr (n+1+1) f=Pr (n+1) f*f (n+1):=rfl;rw[this,EY n f];let:Pr (n+1) (λi=>f (i+1))=Pr n (λi=>f (i+1))*f (n+1):=rfl;rw[this,Yr]
def MA:∀ {n:Nat} {M:Fn},(∀r c,r<n->c<n->r<c->M r c=0)->D n M=Pr n λi=>M i i
 |0,_,_=>rfl
 |n+1,M,h=>by
  rw[c_,lT (k:=0) (by lia) λj b g=>by rw[h 0 j (by lia) b (by lia),XT,ZG],EY,t_,Yg];let s:∀c,sk 0 c=c+1:=λc=>by unfold sk;rw[WW (by lia)]
  let e:D n (λr c=>M (r+1) (sk 0 c))=Pr n λi=>M (i+1) (i+1):=by
   rw[MA λr c d f a=>by rw[s];show h (r+1) (c+1) (by lia) (by lia) (by lia)];simp![s]
  rw[e]
def VC(h:∀r c,r<n->c<n->c<r->M r c=0):D n M=Pr n λi=>M i i:=by
 rw[<-mM n M,MA (M:=tr M) λr c b d a=>h c r d b a];rfl
def rS:∀ {n:Nat} {M:Fn},(∀c,c<n+1->M n c=dl n c)->D (n+1) M=D n M
 |0,M,h=>by
  rw[c_];change 0+sg 0*M 0 0*D 0 _=1;rw[h 0 (by lia),dh,t_,gW];lia
 |n+1,M,h=>by
  let f:∀j,j<n+1->D (n+1) (λr c=>M (r+1) (sk j c))=D n (λr c=>M (r+1) (sk j c)):=λj a=>rS λc b=>by
   rw[h (sk j c) (jQ b)];unfold dl sk;grind
  let e:D (n+1) (λr c=>M (r+1) (sk (n+1) c))=0:=(jN (n+1)).Ro (i:=n) (by lia) λc b=>by
   let s:sk (n+1) c=c:=by unfold sk;rw[WY (by lia)]
   rw[s,h c (by lia),dD (by lia)]
  let d:D (n+1+1) M=(S (n+1) λj=>sg j*M 0 j*D (n+1) λr c=>M (r+1) (sk j c))+sg (n+1)*M 0 (n+1)*D (n+1) (λr c=>M (r+1) (sk (n+1) c)):=c_ (n+1) M;rw[d,e,XT,Y_,c_];show aw λj a=>by rw[f j a]
def nC{x y:Nat->Int}(h:i≠j):upd (upd M i x) j y=upd (upd M j y) i x:=by
 funext r c;unfold upd;grind
def gx(R:Fn)(p:Nat)(x:Nat->Int)(j:Nat):Int:=D (p+1) λr c=>if r<p then R r (if c<p then c else j)else x (if c<p then c else j)
def Cm{x:Nat->Int}(h:j<p):gx R p x j=0:=by
 unfold gx;rw[<-mM];show(jN (p+1)).alt j p _ (by lia) (by lia) (by lia) λc a=>?_;unfold tr;dsimp only;rw[WY h,WW (XU p)]
def bt(R:Fn)(p:Nat)(x:Nat->Int)(k:Nat):Int:=D (p+1) (upd (λc r=>if r<p then R r c else x c) p (dl k))
def FN(R:Fn)(p:Nat)(x:Nat->Int)(j:Nat):gx R p x j=D p R*x j+S p λk=>bt R p x k*R k j:=by
 let g:gx R p x j=D (p+1) (upd (λc r=>if r<p then R r c else x c) p λr=>S (p+1) λk=>(if k<p then R k j else x j)*dl k r):=by
  unfold gx;rw[<-mM];show a8 λc r d a=>?_;unfold tr upd;by_cases h:c=p
  . subst h;rw[WY rfl];dsimp only;rw[rm a,WW (XU _)]
  . rw[WW h];dsimp only;rw[WY (show c<p by lia)]
 rw[g,(jN (p+1)).pJ (by lia)]
 let f:D (p+1) (upd (λc r=>if r<p then R r c else x c) p (dl p))=D p R:=by
  rw[rS λc _=>bR _ _ _ _];rw[<-mM];show a8 λr c a d=>?_;unfold tr;rw[aB (by lia),WY (by lia)]
 let e:(S (p+1) λk=>(if k<p then R k j else x j)*D (p+1) (upd (λc r=>if r<p then R r c else x c) p (dl k)))=(S p λk=>(if k<p then R k j else x j)*D (p+1) (upd (λc r=>if r<p then R r c else x c) p (dl k)))+(if p<p then R p j else x j)*D (p+1) (upd (λc r=>if r<p then R r c else x c) p (dl p)):=rfl;rw[e,f,WW (XU p),Int.add_comm,Yz];congr 1;show aw λk b=>?_;rw[WY b,Yz];rfl
def cl(p b a c:Nat):Nat:=if c<p then c else if c=p then b else a
def gy(R:Fn)(p:Nat)(x y:Nat->Int)(b a:Nat):Int:=D (p+2) (upd (upd (λr c=>R r (cl p b a c)) p λc=>x (cl p b a c)) (p+1) λc=>y (cl p b a c))
def S0{x y:Nat->Int}(H:D p R≠0):gx R p x f*gx R p y d-gx R p y f*gx R p x d=D p R*gy R p x y f d:=by
 let A:=jN (p+2)
 letI B:Fn:=λr c=>R r (cl p f d c)
 letI g:(Nat->Int)->(Nat->Int)->Int:=λu v=>D (p+2) (upd (upd B p u) (p+1) v)
 let F:∀u,g u (λc=>gx R p y (cl p f d c))=D p R*g u λc=>y (cl p f d c):=λu=>by
  let e:(λc=>gx R p y (cl p f d c))=λc=>(λc=>D p R*y (cl p f d c)) c+S p λk=>bt R p y k*upd B p u k c:=by
   funext c;rw[FN];congr 1;show aw λk G=>?_;rw[aB (by lia)]
  change D (p+2) (upd (upd B p u) (p+1) λc=>gx R p y (cl p f d c))=_;rw[e,A.more (i:=p+1) (by lia) (upd B p u) (λc=>D p R*y (cl p f d c)) (bt R p y) p (by lia) (by lia),A.lZ (by lia)]
 let E:∀v,g (λc=>gx R p x (cl p f d c)) v=D p R*g (λc=>x (cl p f d c)) v:=λv=>by
  let e:(λc=>gx R p x (cl p f d c))=λc=>(λc=>D p R*x (cl p f d c)) c+S p λk=>bt R p x k*upd B (p+1) v k c:=by
   funext c;rw[FN];congr 1;show aw λk G=>?_;rw[aB (by lia)]
  change D (p+2) (upd (upd B p λc=>gx R p x (cl p f d c)) (p+1) v)=D p R*D (p+2) (upd (upd B p λc=>x (cl p f d c)) (p+1) v);rw[nC (by lia),e,A.more (i:=p) (by lia) (upd B (p+1) v) (λc=>D p R*x (cl p f d c)) (bt R p x) p (by lia) (by lia),A.lZ (by lia),nC (by lia)]
 let lhs:g (λc=>gx R p x (cl p f d c)) (λc=>gx R p y (cl p f d c))=D p R*(D p R*gy R p x y f d):=by
  rw[F,E];rfl
 let two:∀z:Nat->Int,∀c,c<p+2->gx R p z (cl p f d c)=gx R p z f*dl p c+gx R p z d*dl (p+1) c:=λz c o=>by
  unfold cl;by_cases n:c<p
  . rw[WY n,Cm n,dD (by lia),dD (by lia)];lia
  . rw[WW n];by_cases m:c=p
    . rw[WY m,m,dh,dD (by lia)];lia
    . rw[WW m,show c=p+1 by lia,dh,dD (by lia)];lia
 let l:∀u a b,g u (λc=>a*dl p c+b*dl (p+1) c)=a*g u (dl p)+b*g u (dl (p+1)):=λu a b=>by
  change D (p+2) (upd (upd B p u) (p+1) λc=>a*dl p c+b*dl (p+1) c)=_;rw[A.se (by lia),A.lZ (by lia),A.lZ (by lia)]
 let q:∀v a b,g (λc=>a*dl p c+b*dl (p+1) c) v=a*g (dl p) v+b*g (dl (p+1)) v:=λv a b=>by
  change D (p+2) (upd (upd B p λc=>a*dl p c+b*dl (p+1) c) (p+1) v)=a*D (p+2) (upd (upd B p (dl p)) (p+1) v)+b*D (p+2) (upd (upd B p (dl (p+1))) (p+1) v);rw[nC (by lia),A.se (by lia),A.lZ (by lia),A.lZ (by lia),nC (by lia),nC (show p+1≠p by lia)]
 let t:∀u,g u u=0:=λu=>A.alt p (p+1) _ (by lia) (by lia) (by lia) λc _=>by rw[aB (by lia),bR,bR]
 let C:g (dl (p+1)) (dl p)= -g (dl p) (dl (p+1)):=by
  let h:=A.swap (i:=p) (j:=p+1) (by lia) (by lia) (by lia) (upd (upd B p (dl p)) (p+1) (dl (p+1)));rw[<-h];show a8 λr c s o=>?_;unfold upd sw;grind
 let w:g (dl p) (dl (p+1))=D p R:=by
  change D (p+2) (upd (upd B p (dl p)) (p+1) (dl (p+1)))=_;rw[rS λc _=>bR _ _ _ _];let e:D (p+1) (upd (upd B p (dl p)) (p+1) (dl (p+1)))=D (p+1) (upd B p (dl p)):=a8 λr c s o=>aB (by lia) c;rw[e,rS λc _=>bR _ _ _ _];show a8 λr c s o=>?_;rw[aB (by lia)];change R r (cl p f d c)=R r c;unfold cl;rw[WY o]
 let rhs:g (λc=>gx R p x (cl p f d c)) (λc=>gx R p y (cl p f d c))=D p R*(gx R p x f*gx R p y d-gx R p y f*gx R p x d):=by
  let e:g (λc=>gx R p x (cl p f d c)) (λc=>gx R p y (cl p f d c))=g (λc=>gx R p x f*dl p c+gx R p x d*dl (p+1) c) (λc=>gx R p y f*dl p c+gx R p y d*dl (p+1) c):=a8 λr c s o=>by
   unfold upd;by_cases n:r=p+1
   . rw[WY n,WY n];show two y c o
   . rw[WW n,WW n];by_cases m:r=p
     . rw[WY m,WY m];show two x c o
     . rw[WW m,WW m]
  rw[e,q,l,l,t,t,C,w];grind
 let:=lhs.symm.trans rhs;show(Zx H this).symm
def FZ{f:Nat->Int}(h:∀i,i<n->(f i).natAbs<=m):(S n f).natAbs<=n*m:=by
 induction n with
 |zero=>simp[S]
 |succ n a=>
  have d:=a λi b=>h i (by lia);let c:=h n (by lia);change(S n f+f n).natAbs<=_;rw[ab6];lia
def qd:∀ {n:Nat} {M:Fn},n<=8->(∀r c,r<n->c<n->(M r c).natAbs<=m)->(D n M).natAbs<=(8*m)^n
 |0,_,_,_=>by simp[D]
 |n+1,M,f,h=>by
  rw[c_]
  let d:∀j,j<n+1->(sg j*M 0 j*D n λr c=>M (r+1) (sk j c)).natAbs<=m*(8*m)^n:=λj g=>by
   let a:=qd (n:=n) (M:=λr c=>M (r+1) (sk j c)) (by lia) λr c k i=>h (r+1) (sk j c) (by lia) (jQ i);let b:=h 0 j (by lia) g;let s:(sg j).natAbs=1:=by unfold sg;split<;>rfl
   rw[Xo,Xo,s,Y6];show XM b a
  let e:=FZ d;show WZ e ?_;rw[Za,Y8 ((8*m)^n),ZM];let:(n+1)*(m*(8*m)^n)<=8*(m*(8*m)^n):=XW _ f;show this
def iG(R:Fn)(x:Nat->Int)(j:Nat):gx R 0 x j=x j:=by
 unfold gx;rw[c_];change 0+sg 0*_*D 0 _=_;rw[t_,gW,WW (by lia),WW (by lia)];lia
def kl(R:Fn)(p:Nat):gx R p (R p) p=D (p+1) R:=a8 λr c b d=>by
 let a:(if c<p then c else p)=c:=by split<;>lia
 rw[a];split
 . rfl
 . have:r=p:=by lia
   rw[this]
def Ti(R:Fn)(p:Nat)(y:Nat->Int)(j:Nat):gy R p (R p) y p j=gx R (p+1) y j:=by
 unfold gy gx;show a8 λr c e f=>?_;let d:cl p p j c=if c<p+1 then c else j:=by unfold cl;grind
 unfold upd;dsimp only;rw[d];by_cases b:r=p+1
 . rw[WY b,WW (show¬r<p+1 by lia)]
 . rw[WW b,WY (show r<p+1 by lia)];by_cases a:r=p
   . rw[WY a,a]
   . rw[WW a]
def iD(a:D p R≠0)(y:Nat->Int)(j:Nat):D (p+1) R*gx R p y j-gx R p y p*gx R p (R p) j=D p R*gx R (p+1) y j:=by
 rw[<-Ti,<-S0 a,kl]
def mw(a:∀i j,G i j=G j i)(p k j:Nat):gx G p (G k) j=gx G p (G j) k:=by
 unfold gx;rw[<-mM];show a8 λr c e f=>?_;unfold tr;by_cases d:c<p
 . by_cases b:r<p
   . simp![WY d,WY b];show a _ _
   . simp![WY d,WW b];show a _ _
 . by_cases b:r<p
   . simp![WW d,WY b];show a _ _
   . simp![WW d,WW b];show a _ _
def Bp(e:n<=8)(a:∀r c,r<n->c<n->(G r c).natAbs<=m)(d:p<n)(hi:i<n)(f:j<n):(gx G p (G i) j).natAbs<=(8*m)^(p+1):=
 qd (by lia) λr c b g=>by
  split
  . show a _ _ (by lia) (by split<;>lia)
  . show a _ _ hi (by split<;>lia)
def lam(G:Fn)(i j:Nat):Int:=gx G j (G i) j
def cH(G:Fn)(i:Nat):lam G i i=D (i+1) G:=kl G i
def B0(a:∀i j,G i j=G j i){k:Nat}(b:D k G≠0)(i j:Nat):(D (k+1) G*gx G k (G i) j-lam G i k*lam G j k).fdiv (D k G)=gx G (k+1) (G i) j:=by
 let h:=iD b (G i) j;rw[mw a k k j]at h;unfold lam;rw[h,YT _ b]
def ae(A:Rows):Fn:=λi j=>gY (A.getD i []) (A.getD j [])
def AX:∀a b:Row,gY a b=gY b a
 | [],[]=>rfl
 | [],_::_=>rfl
 |_::_,[]=>rfl
 |a::as,b::bs=>by
  unfold gY;rw[AX as bs,Yz]
def jf(A:Rows)(i j:Nat):ae A i j=ae A j i:=AX _ _
def aW(G:Fn)(i:Nat):Row:=(List.range (i+1)).map λj=>lam G i j
def pD(G:Fn)(n:Nat):Rows:=(List.range n).map (aW G)
def dk(G:Fn)(i:Nat):(aW G i).length=i+1:=by unfold aW;simp
def ij(G:Fn)(h:j<=i):(aW G i).getD j 0=lam G i j:=by
 unfold aW;rw[aJ (by simp;lia),Xx,XG]
def BX(G:Fn)(n:Nat):(pD G n).length=n:=by unfold pD;simp
def El(G:Fn)(h:i<n):(pD G n).getD i []=aW G i:=by
 unfold pD;rw[aJ (by simpa using h),Xx,XG]
def RA(A:Rows)(N:Nat):Fn:=λi j=>if j<N then ae A i j else(A.getD i []).getD (j-N) 0
def ev(A:Rows)(N i k c:Nat):Int:=gx (RA A N) k (RA A N i) (N+c)
def LD{N k:Nat}(b:k<=N):D k (RA A N)=D k (ae A):=a8 λr c a d=>WY (by lia)
def TH{N k i j:Nat}(b:k<=N)(d:j<N):gx (RA A N) k (RA A N i) j=gx (ae A) k (ae A i) j:=a8 λr c a e=>by
 let h:(if c<k then c else j)<N:=by split<;>lia
 unfold RA;rw[WY h,WY h]
def yH(A:Rows)(N i c:Nat):ev A N i 0 c=(A.getD i []).getD c 0:=by
 unfold ev;rw[iG];unfold RA;rw[WW (by lia)];congr 1;lia
def xS{N k:Nat}(a:k<N)(b:D k (ae A)≠0)(i c:Nat):D k (ae A)*ev A N i (k+1) c=D (k+1) (ae A)*ev A N i k c-lam (ae A) i k*ev A N k k c:=by
 let h:=iD (R:=RA A N) (p:=k) (by rw[LD (by lia)];show b) (RA A N i) (N+c);rw[LD (by lia),LD (by lia),TH (by lia) a]at h;unfold ev lam;lia
def jR(n:Nat)(a b:Int)(f g:Nat->Int):S n (λc=>a*f c-b*g c)=a*S n f-b*S n g:=by
 induction n with
 |zero=>change(0:Int)=a*0-b*0;lia
 |succ n d=>
  change S n (λc=>a*f c-b*g c)+(a*f n-b*g n)=a*(S n f+f n)-b*(S n g+g n);rw[d,abN,abN];lia
def cancel{a x y:Int}(b:a≠0)(h:a*x=a*y):x=y:=Zx b h
section
variable {A:Rows}{N w:Nat}
def sN(a:aX N w A)(d:∀k,k<=N->D k (ae A)≠0)(f:m<N):∀(k i:Nat),k<=N->i<N->S w (λc=>ev A N i k c*(A.getD m []).getD c 0)=gx (ae A) k (ae A i) m
 |0,i,_,g=>by
  rw[iG];let n:=a.len;let l:(A.getD i []).length=w:=a.fZ _ (by rw[aJ (by lia)];show XX _);let h:(A.getD m []).length=w:=a.fZ _ (by rw[aJ (by lia)];show XX _);unfold ae;rw[my (by rw[l,h]),h];show aw λc j=>?_;rw[yH]
 |k+1,i,o,g=>by
  let b:=d k (by lia);show cancel b ?_;rw[<-cT,<-iD b (ae A i) m]
  let e:S w (λc=>D k (ae A)*(ev A N i (k+1) c*(A.getD m []).getD c 0))=S w λc=>D (k+1) (ae A)*(ev A N i k c*(A.getD m []).getD c 0)-lam (ae A) i k*(ev A N k k c*(A.getD m []).getD c 0):=aw λc j=>by
   rw[<-Yr,xS (by lia) b,Int.sub_mul,Yr,Yr]
  rw[e,jR,sN a d f k i (by lia) g,sN a d f k k (by lia) (by lia)];rfl
def yE(d:aX N w A)(a:∀k,k<=N->D k (ae A)≠0)(hi:i<N):∀(k j:Nat),k<=j->j<i->S w (λc=>ev A N i i c*ev A N j k c)=0
 |0,j,_,b=>by
  let:=sN d a (m:=j) (by lia) i i (by lia) hi;rw[Cm b]at this;rw[<-this];show aw λc g=>by rw[yH]
 |k+1,j,h,b=>by
  let f:=a k (by lia);show cancel f ?_;rw[<-cT]
  let e:S w (λc=>D k (ae A)*(ev A N i i c*ev A N j (k+1) c))=S w λc=>D (k+1) (ae A)*(ev A N i i c*ev A N j k c)-lam (ae A) j k*(ev A N i i c*ev A N k k c):=aw λc g=>by
   rw[YK,xS (by lia) f,Int.mul_sub,YK,YK (ev A N i i c)]
  rw[e,jR,yE d a hi k j (by lia) b,yE d a hi k k (WX _) (by lia)];simp
def tH(b:aX N w A)(a:∀k,k<=N->D k (ae A)≠0)(hi:i<N):∀k,k<=i->S w (λc=>ev A N i i c*ev A N i k c)=D k (ae A)*D (i+1) (ae A)
 |0,_=>by
  let:=sN b a (m:=i) hi i i (by lia) hi;rw[kl]at this;rw[gW,Yg,<-this];show aw λc f=>by rw[yH]
 |k+1,g=>by
  let d:=a k (by lia);show cancel d ?_;rw[<-cT]
  let e:S w (λc=>D k (ae A)*(ev A N i i c*ev A N i (k+1) c))=S w λc=>D (k+1) (ae A)*(ev A N i i c*ev A N i k c)-lam (ae A) i k*(ev A N i i c*ev A N k k c):=aw λc f=>by
   rw[YK,xS (by lia) d,Int.mul_sub,YK,YK (ev A N i i c)]
  rw[e,jR,tH b a hi k (by lia),yE b a hi k k (WX _) (by lia),XT,Zb,YK]
end
def nN{f:Nat->Int}(h:∀i,i<n->0<=f i):0<=S n f:=by
 induction n with
 |zero=>show aaE _
 |succ n a=>show abW (a λi b=>h i (by lia)) (h n (by lia))
def sq_nonneg(x:Int):0<=x*x:=by
 rcases Int.le_total 0 x with h|h
 . show Z0 h h
 . show aaB h h
def jU(b:aX N w A)(a:∀k,k<=N->D k (ae A)≠0):∀k,k<=N->0<D k (ae A)
 |0,_=>by rw[gW];decide
 |k+1,d=>by
  let c:=jU b a k (by lia);let h:=tH b a (i:=k) (by lia) k (WX _);let e:0<=D k (ae A)*D (k+1) (ae A):=by rw[<-h];show nN λi _=>sq_nonneg _
  let g:=Int.nonneg_of_mul_nonneg_right e c;let f:=a (k+1) d;lia
structure Sh(G:Fn)(N:Nat):Prop where
 half:∀i j,j<i->i<N->2*(((lam G i j).natAbs:Nat):Int)<=D (j+1) G
 Fz:∀i,0<i->i<N->¬4*D (i+1) G*D (i-1) G<3*D i G*D i G-4*lam G i (i-1)*lam G i (i-1)
def zy(c:0<b):(Rat.divInt a b).num*b=a*(((Rat.divInt a b).den:Nat):Int):=by
 let h:=Rat.num_divInt_den (Rat.divInt a b);show(Rat.divInt_eq_divInt_iff (by let:=(Rat.divInt a b).den_pos;lia) (by lia)).mp h
def G0(f:0<b)(e:0<d):Rat.divInt a b<Rat.divInt c d↔a*d<c*b:=by
 let n:=zy (a:=a) f;let m:=zy (a:=c) e;let l:(0:Int)<(((Rat.divInt a b).den:Nat):Int):=by let:=(Rat.divInt a b).den_pos;lia
 let p2:(0:Int)<(((Rat.divInt c d).den:Nat):Int):=by let:=(Rat.divInt c d).den_pos;lia
 rw[Rat.lt_iff];generalize(((Rat.divInt a b).den:Nat):Int)=x at*;generalize(((Rat.divInt c d).den:Nat):Int)=y at*;generalize(Rat.divInt a b).num=u at*;generalize(Rat.divInt c d).num=v at*
 let i:b*d*(u*y)=x*y*(a*d):=by
  calc b*d*(u*y)=(u*b)*(y*d):=by grind
   _=x*y*(a*d):=by rw[n];grind
 let g:b*d*(v*x)=x*y*(c*b):=by
  calc b*d*(v*x)=(v*d)*(x*b):=by grind
   _=x*y*(c*b):=by rw[m];grind
 let k:=YE f e;let j:=YE l p2;constructor
 . intro h;let:=Zu h k;rw[i,g]at this;show Y5 this (by lia)
 . intro h;let:=Zu h j;rw[<-i,<-g]at this;show Y5 this (by lia)
def JK(e:0<b)(f:0<c):Rat.divInt a b<(Rat.divInt 3 4-Rat.divInt l b*Rat.divInt l b)*Rat.divInt b c↔4*a*c<3*b*b-4*l*l:=by
 let d:=YE e e;rw[aaR,abX _ _ (by decide) (by lia),aaR,G0 e (YE (YE (by decide) d) f)];let i:a*(4*(b*b)*c)=b*b*(4*a*c):=by grind
 let g:(3*(b*b)-l*l*4)*b*b=b*b*(3*b*b-4*l*l):=by grind
 rw[i,g];show⟨λh=>Y5 h (by lia),λh=>Zu h d⟩
def LN{t b d c:Int}(g:0<b)(k:0<c)(h:d*b=t*c):2*((d.natAbs:Nat):Int)<=c↔2*((t.natAbs:Nat):Int)<=b:=by
 let e:((d.natAbs:Nat):Int)*b=((t.natAbs:Nat):Int)*c:=by
  let:=Ye Int.natAbs h;rw[Xo,Xo]at this;let j:((b.natAbs:Nat):Int)=b:=aag (by lia);let i:((c.natAbs:Nat):Int)=c:=aag (by lia)
  calc((d.natAbs:Nat):Int)*b=((d.natAbs*b.natAbs:Nat):Int):=by rw[Zc,j]
   _=((t.natAbs*c.natAbs:Nat):Int):=by rw[this]
   _=((t.natAbs:Nat):Int)*c:=by rw[Zc,i]
 constructor
 . intro q;show Zy (a:=c) ?_ k;let:=XD q (show 0<=b by lia);let f:2*((d.natAbs:Nat):Int)*b=c*(2*((t.natAbs:Nat):Int)):=by rw[Yr,e];grind
   rw[f]at this;show this
 . intro q;show Zy (a:=b) ?_ g;let:=XD q (show 0<=c by lia);let f:2*((t.natAbs:Nat):Int)*c=b*(2*((d.natAbs:Nat):Int)):=by rw[Yr,<-e];grind
   rw[f]at this;show this
def p8(M:Fn)(k j:Nat)(q:Int):Fn:=λa b=>if a=k then M a b-q*M j b else M a b
def sR(M:Fn)(k j:Nat)(q:Int):Fn:=λa b=>if b=k then M a b-q*M a j else M a b
def tk(G:Fn)(k j:Nat)(q:Int):Fn:=sR (p8 G k j q) k j q
def Ml{n k j:Nat}(M:Fn)(q:Int)(b:k<n)(d:j<n)(h:k≠j):D n (p8 M k j q)=D n M:=by
 let e:=(jN n).Rh b d h M (M k) (-q)
 let g:D n (upd M k λc=>M k c+ -q*M j c)=D n (p8 M k j q):=a8 λr c _ _=>by
  unfold upd p8;by_cases a:r=k
  . rw[WY a,WY a,a];dsimp only;rw[Zh];lia
  . rw[WW a,WW a]
 let f:D n (upd M k (M k))=D n M:=a8 λr c _ _=>by
  unfold upd;by_cases a:r=k
  . rw[WY a,a]
  . rw[WW a]
 rw[<-g,e,f]
def Nw{n k j:Nat}(M:Fn)(q:Int)(a:k<n)(b:j<n)(h:k≠j):D n (sR M k j q)=D n M:=by
 rw[<-mM n M,<-Ml (tr M) q a b h,<-mM n (sR M k j q)];show a8 λr c _ _=>rfl
def fL(G:Fn)(i p:Nat):lam G i p=D (p+1) λr c=>G (if r<p then r else i) c:=a8 λr c a b=>by
 let e:(if c<p then c else p)=c:=by split<;>lia
 rw[e];split<;>rfl
def QR(h:j<p):gx G p (G j) c=0:=by
 unfold gx;show(jN (p+1)).alt j p _ (by lia) (by lia) (by lia) λb a=>?_;rw[WY h,WW (XU p)]
def wb(h:j<p):lam G j p=0:=QR h
def Rl{k j i p:Nat}(B:j<k)(A:p<=i):lam (tk G k j q) i p=lam G i p-if i=k then q*lam G j p else 0:=by
 by_cases D:p<k
 . by_cases o:i=k
   . rw[WY o,fL,fL,fL]
     let e:=E6 (n:=p+1) (M:=λr c=>tk G k j q (if r<p then r else i) c) (P:=λr c=>G (if r<p then r else i) c) (Q:=λr c=>G (if r<p then r else j) c) (a:=1) (b:= -q) (i:=p) (by lia) (λc s=>by
      try dsimp only
      rw[WW (XU p)];rw[WW (XU p)];unfold tk sR p8;rw[WW (by lia),WY o,o,Zh];lia) (λr c l s d=>by
      try dsimp only
      let h:r<p:=by lia
      rw[WY h,WY h];unfold tk sR p8;rw[WW (by lia),WW (by lia)];show⟨rfl,rfl⟩)
     rw[e,Yg,Zh];lia
   . rw[WW o,Zb,fL,fL];show a8 λr c l s=>?_;unfold tk sR p8;rw[WW (by lia),WW (by split<;>lia)]
 . have y:(if i=k then q*lam G j p else 0)=0:=by
    split
    . rw[wb (by lia),XT]
    . rfl
   rw[y,Zb,fL,fL];by_cases C:k<p\/i=k
   ·
    let t:∀r,r<p+1->((if r<p then r else i)=k↔r=if k<p then k else p):=λr l=>by
     by_cases m:k<p
     . rw[WY m];split<;>lia
     . rw[WW m];split<;>lia
    let u:(if k<p then k else p)=k:=by split<;>lia
    rw[<-Ml (λr c=>G (if r<p then r else i) c) q (show k<p+1 by lia) (show j<p+1 by lia) (by lia),<-Nw (p8 (λr c=>G (if r<p then r else i) c) k j q) q (show k<p+1 by lia) (show j<p+1 by lia) (by lia)];show a8 λr c l s=>?_;let f:=t r l;rw[u]at f;let v:(if j<p then j else i)=j:=WY (by lia);unfold tk sR p8;by_cases g:r=k
    . subst g;let:=f.mpr rfl;simp![this,Zo,v]
    . have d:¬(if r<p then r else i)=k:=λz=>g (f.mp z);simp![WW d,WW g]
   . have w:p=k:=by lia
     let x:i≠k:=by lia
     rw[<-Nw (λr c=>G (if r<p then r else i) c) q (show k<p+1 by lia) (show j<p+1 by lia) (by lia)];show a8 λr c l s=>?_;let d:¬(if r<p then r else i)=k:=by split<;>lia
     unfold tk sR p8;simp![WW d]
def b_(G:Fn)(t:Nat):Fn:=λa b=>G (sw t (t+1) a) (sw t (t+1) b)
def Bb(t:Nat):sw t (t+1) t=t+1:=WY rfl
def Fg(t:Nat):sw t (t+1) (t+1)=t:=by unfold sw;rw[WW (by lia),WY rfl]
def jc(c:a≠t)(b:a≠t+1):sw t (t+1) a=a:=by unfold sw;rw[WW c,WW b]
def MM(hi:i<n)(a:j<n)(h:i≠j)(M:Fn):D n (λr c=>M (sw i j r) c)= -D n M:=(jN n).swap hi a h M
def Tp(hi:i<n)(a:j<n)(h:i≠j)(M:Fn):D n (λr c=>M r (sw i j c))= -D n M:=by
 rw[<-mM n M,<-MM hi a h (tr M),<-mM];show a8 λr c _ _=>rfl
def Sq(h:t+1<n)(M:Fn):D n (λr c=>M (sw t (t+1) r) (sw t (t+1) c))=D n M:=by
 let b:=MM (n:=n) (i:=t) (j:=t+1) (by lia) h (by lia) λr c=>M r (sw t (t+1) c);let a:=Tp (n:=n) (i:=t) (j:=t+1) (by lia) h (by lia) M;rw[b,a];lia
def m4(h:p≠t+1):D p (b_ G t)=D p G:=by
 by_cases d:p<=t
 . show a8 λr c a b=>?_;unfold b_;rw[jc (by lia) (by lia),jc (by lia) (by lia)]
 . show Sq (by lia) G
def k_(h:p<t):lam (b_ G t) i p=lam G (sw t (t+1) i) p:=by
 rw[fL,fL];show a8 λr c d e=>?_;unfold b_;rw[jc (a:=c) (by lia) (by lia)];by_cases b:r<p
 . rw[WY b,WY b,jc (by lia) (by lia)]
 . rw[WW b,WW b]
def Kv(h:t+1<p)(hi:p<=i):lam (b_ G t) i p=lam G i p:=by
 rw[fL,fL,<-Sq (n:=p+1) (t:=t) (by lia) (λr c=>G (if r<p then r else i) c)];show a8 λr c g j=>?_;unfold b_;by_cases b:r<p
 . have:sw t (t+1) r<p:=by
    unfold sw;by_cases f:r=t
    . rw[WY f];lia
    . rw[WW f];by_cases d:r=t+1
      . rw[WY d];lia
      . rw[WW d];show b
   rw[WY b,WY this]
 . have e:r=p:=by lia
   rw[WW b,e,jc (a:=p) (by lia) (by lia),WW (XU p),jc (a:=i) (by lia) (by lia)]
def vQ:lam (b_ G t) i t=gx G t (G (sw t (t+1) i)) (t+1):=by
 unfold lam gx;show a8 λr c d e=>?_
 let b:sw t (t+1) (if c<t then c else t)=if c<t then c else t+1:=by
  by_cases h:c<t
  . rw[WY h,WY h,jc (by lia) (by lia)]
  . rw[WW h,WW h,Bb]
 unfold b_;rw[b];by_cases a:r<t
 . rw[WY a,WY a,jc (by lia) (by lia)]
 . rw[WW a,WW a]
section
variable {G:Fn}{t:Nat}(sym:∀i j,G i j=G j i)
include sym
theorem O7:∀i j,b_ G t i j=b_ G t j i:=λi j=>sym _ _
theorem Cj:lam (b_ G t) (t+1) t=lam G (t+1) t:=by
 rw[vQ,Fg,mw sym];rfl
theorem pG(a:D t G≠0):D (t+1) G*lam (b_ G t) t t=D t G*D (t+2) G+lam G (t+1) t*lam G (t+1) t:=by
 let h:=iD a (G (t+1)) (t+1);rw[kl,mw sym t t (t+1)]at h;rw[vQ,Bb];unfold lam;rw[show t+1+1=t+2 from rfl]at h;lia
theorem Sw:lam (b_ G t) (t+1) (t+1)=lam G (t+1) (t+1):=by
 rw[cH,cH];show m4 (by lia)
theorem Ja(a:D t G≠0)(hi:t+1<i):D (t+1) G*lam (b_ G t) i t=D t G*lam G i (t+1)+lam G (t+1) t*lam G i t:=by
 let h:=iD a (G i) (t+1);rw[mw sym t t (t+1)]at h;rw[vQ,jc (by lia) (by lia)];unfold lam;let e:gx G t (G i) t*gx G t (G (t+1)) t=gx G t (G (t+1)) t*gx G t (G i) t:=Yz _ _;lia
theorem Nb(b:D t G≠0)(e:D (t+1) G≠0)(hi:t+1<i):D (t+1) G*lam (b_ G t) i (t+1)=D (t+2) G*lam G i t-lam G (t+1) t*lam G i (t+1):=by
 let d:D t (b_ G t)≠0:=by rw[m4 (by lia)];show b
 let h:=iD d (b_ G t i) (t+1)
 let p:gx (b_ G t) t (b_ G t i) (t+1)=lam G i t:=by
  unfold lam gx;show a8 λr c q s=>?_
  let f:sw t (t+1) (if c<t then c else t+1)=if c<t then c else t:=by
   by_cases h:c<t
   . rw[WY h,WY h,jc (by lia) (by lia)]
   . rw[WW h,WW h,Fg]
  unfold b_;rw[f];by_cases a:r<t
  . rw[WY a,WY a,jc (by lia) (by lia)]
  . rw[WW a,WW a,jc (by lia) (by lia)]
 let o:gx (b_ G t) t (b_ G t i) t=lam (b_ G t) i t:=rfl
 let n:gx (b_ G t) t (b_ G t t) (t+1)=lam G (t+1) t:=by
  rw[mw (O7 sym)];show Cj sym
 let k:gx (b_ G t) (t+1) (b_ G t i) (t+1)=lam (b_ G t) i (t+1):=rfl;let g:D (t+1) (b_ G t)=lam (b_ G t) t t:=(cH _ _).symm;rw[p,o,n,k,g,m4 (by lia)]at h;let m:=pG (t:=t) sym b;let l:=Ja sym b hi;show cancel b ?_;grind
theorem Pk(b:D t G≠0)(a:D (t+1) G≠0)(hi:t+1<i):D (t+2) G*lam (b_ G t) i t=lam (b_ G t) t t*lam G i (t+1)+lam G (t+1) t*lam (b_ G t) i (t+1):=by
 let m:=pG (t:=t) sym b;let l:=Ja sym b hi;let u:=Nb sym b a hi;show cancel a ?_;grind
end
def NR{a b c x y:Int}(m:0<=a)(i:0<=b)(h:c*c<=a*b):2*(c*(x*y))<=a*(y*y)+b*(x*x):=by
 by_cases j:a=0
 . subst j
   let g:c=0:=by
    let e:=sq_nonneg c;let d:c*c=0:=by omega
    rcases Int.mul_eq_zero.mp d with h|h<;>show h
   subst g;let:=Z0 i (sq_nonneg x);lia
 . have f:0<a:=by lia
   let e:=sq_nonneg (a*y-c*x);let d:=XD h (sq_nonneg x);show Zy (a:=a) ?_ f;let l:(a*y-c*x)*(a*y-c*x)=a*(a*(y*y))-a*(2*(c*(x*y)))+c*c*(x*x):=by grind
   let k:a*(a*(y*y)+b*(x*x))=a*(a*(y*y))+a*b*(x*x):=by grind
   rw[l]at e;rw[k];lia
def Ip(n:Nat)(f g:Nat->Int):S n (λi=>f i*g i)*S n (λi=>f i*g i)<=S n (λi=>f i*f i)*S n (λi=>g i*g i):=by
 induction n with
 |zero=>show aaE _
 |succ n d=>
  change(S n (λi=>f i*g i)+f n*g n)*(S n (λi=>f i*g i)+f n*g n)<=(S n (λi=>f i*f i)+f n*f n)*(S n (λi=>g i*g i)+g n*g n);let j:0<=S n λi=>f i*f i:=nN λi _=>sq_nonneg _;let e:0<=S n λi=>g i*g i:=nN λi _=>sq_nonneg _;generalize S n (λi=>f i*f i)=a at*;generalize S n (λi=>g i*g i)=b at*;generalize S n (λi=>f i*g i)=c at*;let h:=NR (x:=f n) (y:=g n) j e d;let l:(c+f n*g n)*(c+f n*g n)=c*c+2*(c*(f n*g n))+(f n*f n)*(g n*g n):=by grind
  let k:(a+f n*f n)*(b+g n*g n)=a*b+(a*(g n*g n)+b*(f n*f n))+(f n*f n)*(g n*g n):=by grind
  rw[l,k];lia
section
variable {A:Rows}{N w:Nat}
def ba(a:aX N w A)(hi:i<N):(A.getD i []).length=w:=a.fZ _ (by let:=a.len;rw[aJ (by lia)];show XX _)
def fv(a:aX N w A)(hi:i<N)(b:j<N):ae A i j=S w λc=>(A.getD i []).getD c 0*(A.getD j []).getD c 0:=by
 unfold ae;rw[my (by rw[ba a hi,ba a b]),ba a b]
def eS(a:aX N w A)(hi:i<N):0<=ae A i i:=by
 rw[fv a hi hi];show nN λc _=>sq_nonneg _
def Se(b:aX N w A)(f:∀k,k<=N->D k (ae A)≠0){k j:Nat}(a:k<N)(e:j<N):lam (ae A) k j*lam (ae A) k j<=D j (ae A)*D (j+1) (ae A)*ae A k k:=by
 let g:=sN b f (m:=k) a j j (by lia) e;rw[mw (jf A)]at g;let d:=Ip w (λc=>ev A N j j c) (λc=>(A.getD k []).getD c 0);rw[tH b f e j (WX _),<-fv b a a]at d;let h:S w (λc=>ev A N j j c*(A.getD k []).getD c 0)=lam (ae A) k j:=g;rw[h]at d;show d
def Ql(q:aX N w A)(o:∀k,k<=N->D k (ae A)≠0)(g:∀k,k<=N->D k (ae A)<=m)(hi:i<N)(n:∀j,j<i->2*(((lam (ae A) i j).natAbs:Nat):Int)<=D (j+1) (ae A)):
 ∀d,d<=i->gx (ae A) (i-d) (ae A i) i<=D (i-d) (ae A)*((d+1:Nat)*m):=by
 let c:=jU q o;intro d;induction d with
 |zero=>
  intro _;rw[abB,kl];let E:=g (i+1) (by lia);let C:=c i (by lia);let B:=c (i+1) (by lia);let:(((0+1:Nat):Int)*m)=m:=by simp
  rw[this]
  calc D (i+1) (ae A)<=1*m:=by lia
   _<=D i (ae A)*m:=XD (by lia) (by lia)
 |succ d b=>
  intro x;obtain⟨p,r⟩:∃p,i-d=p+1:=⟨i-d-1,by lia⟩
  let f:i-(d+1)=p:=by lia
  rw[f];let b:=b (by lia);rw[r]at b;let u:=c p (by lia);let h:=c (p+1) (by lia);let t:=g (p+1) (by lia);let v:=n p (by lia);let l:=iD (R:=ae A) (p:=p) (by lia) (ae A i) i;rw[mw (jf A) p p i]at l
  let e:lam (ae A) i p*lam (ae A) i p<=D (p+1) (ae A)*D (p+1) (ae A):=by
   let:lam (ae A) i p*lam (ae A) i p=(((lam (ae A) i p).natAbs:Nat):Int)*(((lam (ae A) i p).natAbs:Nat):Int):=(aah _).symm;rw[this];show YV (by lia) (by lia) (by lia) (by lia)
  show Zy (a:=D (p+1) (ae A)) ?_ h;let z:=Yo b (show 0<=D p (ae A) by lia)
  let y:D (p+1) (ae A)*D (p+1) (ae A)<=D (p+1) (ae A)*(D p (ae A)*m):=by
   show Yo ?_ (by lia)
   calc D (p+1) (ae A)<=1*m:=by lia
    _<=D p (ae A)*m:=XD (by lia) (by lia)
  let s:D (p+1) (ae A)*(D p (ae A)*(((d+1+1:Nat):Int)*m))=D p (ae A)*(D (p+1) (ae A)*(((d+1:Nat):Int)*m))+D (p+1) (ae A)*(D p (ae A)*m):=by
   push_cast
   grind
  rw[s];unfold lam at e;lia
def O4(d:aX N w A)(c:∀k,k<=N->D k (ae A)≠0)(a:∀k,k<=N->D k (ae A)<=m)(hi:i<N)(b:∀j,j<i->2*(((lam (ae A) i j).natAbs:Nat):Int)<=D (j+1) (ae A)):ae A i i<=((i+1:Nat):Int)*m:=by
 let h:=Ql d c a hi b i (WX _);rw[Y0,iG,gW,Yg]at h;show h
end
def Co{t d:Int}(g:0<d):2*((t-((2*t+d).fdiv (2*d))*d).natAbs:Int)<=d/\(((2*t+d).fdiv (2*d)).natAbs:Int)<=(t.natAbs:Int):=by
 let f:=abY (2*t+d) (2*d);let i:=Yq (2*t+d) (show 0<2*d by lia);let h:=YF (2*t+d) (show 0<2*d by lia);generalize(2*t+d).fmod (2*d)=r at*;generalize(2*t+d).fdiv (2*d)=q at*;let e:2*d*q=2*(q*d):=by grind
 rw[e]at f;constructor
 . generalize q*d=u at*;lia
 ·
  rcases Int.lt_trichotomy q 0 with a|a|a
  . have b:=Z0 (show 0<= -q-1 by lia) (show 0<=d-1 by lia);let c:(-q-1)*(d-1)= -(q*d)+q-d+1:=by grind
    rw[c]at b;generalize q*d=u at*;lia
  . subst a;simp
  . have b:=Z0 (show 0<=q-1 by lia) (show 0<=d-1 by lia);let c:(q-1)*(d-1)=q*d-q-d+1:=by grind
    rw[c]at b;generalize q*d=u at*;lia
def R9{u x:Nat->Int}(b:j<N)(e:∀c,c<N->x c=S N λk=>u k*G k c):D N (upd G j x)=u j*D N G:=by
 let i:D N (upd G j x)=D N (upd G j λc=>S N λk=>u k*G k c):=a8 λr c f d=>by
  unfold upd;by_cases h:r=j
  . rw[WY h,WY h];show e c d
  . rw[WW h,WW h]
 rw[i,(jN N).pJ b G u G N,lT b λk g a=>?_]
 . congr 1;show a8 λr c f d=>?_;unfold upd;by_cases h:r=j
   . rw[WY h,h]
   . rw[WW h]
 . have:D N (upd G j (G k))=0:=(jN N).alt j k _ b g (W4 a) λc _=>by rw[bR,aB a]
   rw[this,XT]
def wC{u x:Nat->Int}(i:N<=8)(g:j<N)(e:∀c,c<N->x c=S N λk=>u k*G k c)(o:D N G≠0)(l:∀r c,r<N->c<N->(G r c).natAbs<=m)(b:∀c,c<N->(x c).natAbs<=m):(u j).natAbs<=(8*m)^N:=by
 let h:=R9 g e
 let n:(D N (upd G j x)).natAbs<=(8*m)^N:=qd i λr c f d=>by
  unfold upd;by_cases a:r=j
  . rw[WY a];show b c d
  . rw[WW a];show l r c f d
 rw[h,Xo]at n;let p:(u j).natAbs*1<=(u j).natAbs*(D N G).natAbs:=ZJ _ (by lia);lia
def aQ(A:Rows)(k:Nat)(q:Int)(j:Nat):Rows:=A.set k (fS (A.getD k []) (-q) (A.getD j []))
def aR(A:Rows)(k o:Nat):Rows:=(A.set k (A.getD o [])).set o (A.getD k [])
def ik{A:Rows}{k i:Nat}{r:Row}(a:k<A.length):(A.set k r).getD i []=if i=k then r else A.getD i []:=by
 rw[Xa,abk];by_cases h:k=i
 . rw[WY h,WY (by lia),WY h.symm];rfl
 . rw[WW h,WW (W4 h),Xa]
def vI{A:Rows}(c:t+1<A.length):(aR A (t+1) t).getD i []=A.getD (sw t (t+1) i) []:=by
 unfold aR;rw[ik (by rw[Xf];lia),ik c];unfold sw;by_cases b:i=t
 . rw[WY b,WY b]
 . rw[WW b,WW b];by_cases a:i=t+1
   . rw[WY a,WY a]
   . rw[WW a,WW a]
def ma{A:Rows}(c:t+1<A.length):ae (aR A (t+1) t)=b_ (ae A) t:=by
 funext a b;unfold ae b_;rw[vI c,vI c]
def Il{A:Rows}{k j:Nat}:(aQ A k q j).length=A.length:=by unfold aQ;rw[Xf]
def nV{N w k j:Nat}(a:aX N w A)(c:k<N)(d:j<N):aX N w (aQ A k q j):=by
 show⟨Il.trans a.len,λr b=>?_⟩;unfold aQ at b;rcases YN b with h|rfl
 . show a.fZ r h
 . rw[ka (by rw[ba a c,ba a d]),ba a c]
def vW(a:aX N w A)(c:t+1<N):aX N w (aR A (t+1) t):=by
 show⟨by unfold aR;rw[Xf,Xf];show a.len,λr b=>?_⟩;unfold aR at b;rcases YN b with h|rfl
 . rcases YN h with h|rfl
   . show a.fZ r h
   . show ba a (by lia)
 . show ba a c
def si{N w k j:Nat}(l:aX N w A)(p:k<N)(m:j<N)(t:j≠k)(o:a<N)(n:b<N):ae (aQ A k q j) a b=tk (ae A) k j q a b:=by
 let u:=l.len;let r:=ba l p;let s:=ba l m
 let d:∀i c,(((aQ A k q j).getD i []).getD c 0)=if i=k then(A.getD k []).getD c 0-q*(A.getD j []).getD c 0 else(A.getD i []).getD c 0:=λi c=>by
  unfold aQ;rw[ik (by lia)];by_cases h:i=k
  . rw[WY h,WY h,nj (by rw[r,s]),Zh];lia
  . rw[WW h,WW h]
 let v:=jR;rw[fv (nV l p m) o n];unfold tk sR p8;rw[fv l o n,fv l o m,fv l m n,fv l m m];by_cases g:b=k
 . by_cases f:a=k
   . rw[WY g,WY f,WY f]
     let e:S w (λc=>((aQ A k q j).getD a []).getD c 0*((aQ A k q j).getD b []).getD c 0)=S w λc=>1*(1*((A.getD a []).getD c 0*(A.getD b []).getD c 0)-q*((A.getD j []).getD c 0*(A.getD b []).getD c 0))-q*(1*((A.getD a []).getD c 0*(A.getD j []).getD c 0)-q*((A.getD j []).getD c 0*(A.getD j []).getD c 0)):=aw λc _=>by
      rw[d,d,WY g,WY f,g,f];grind
     rw[e,jR,jR,jR];simp![Yg]
   . rw[WY g,WW f,WW f]
     let e:S w (λc=>((aQ A k q j).getD a []).getD c 0*((aQ A k q j).getD b []).getD c 0)=S w λc=>1*((A.getD a []).getD c 0*(A.getD b []).getD c 0)-q*((A.getD a []).getD c 0*(A.getD j []).getD c 0):=aw λc _=>by
      rw[d,d,WY g,WW f,g];grind
     rw[e,jR];lia
 . rw[WW g];by_cases f:a=k
   . rw[WY f]
     let e:S w (λc=>((aQ A k q j).getD a []).getD c 0*((aQ A k q j).getD b []).getD c 0)=S w λc=>1*((A.getD a []).getD c 0*(A.getD b []).getD c 0)-q*((A.getD j []).getD c 0*(A.getD b []).getD c 0):=aw λc _=>by
      rw[d,d,WW g,WY f,f];grind
     rw[e,jR];lia
   . rw[WW f];show aw λc _=>by rw[d,d,WW g,WW f]
def Pd(h:∀a b,a<N->b<N->ae A a b=G a b)(e:p<=i)(hi:i<N):lam (ae A) i p=lam G i p:=by
 rw[fL,fL];show a8 λr c d f=>h _ _ (by split<;>lia) (by lia)
def la{N w k j i p:Nat}(h:aX N w A)(e:j<k)(d:k<N)(hi:i<N)(c:p<=i):lam (ae (aQ A k q j)) i p=lam (ae A) i p-if i=k then q*lam (ae A) j p else 0:=by
 rw[Pd (λa b g f=>si h d (by lia) (by lia) g f) c hi,Rl e c]
def wq{N w k j p:Nat}(c:aX N w A)(a:j<k)(b:k<N)(d:p<=N):D p (ae (aQ A k q j))=D p (ae A):=by
 cases p with
 |zero=>rw[gW,gW]
 |succ p=>
  have:=la (q:=q) c a b (i:=p) (p:=p) (by lia) (WX _);rw[cH,cH]at this;rw[this];split
  . rename_i h;subst h;rw[wb a,XT,Zb]
  . lia
def Hk{N w k j:Nat}(e:aX N w A)(a:k<N)(d:j<N)(c:j≠k):ae (aQ A k q j) k k<=2*(ae A k k+q*q*ae A j j):=by
 let b:=eS (nV (q:= -q) e a d) a;rw[si e a d c a a]at b⊢;unfold tk sR p8 at b⊢;simp![Zo]at b⊢;let f:=jf A k j;rw[f]at b⊢;grind
structure Tn(A0 A U C:Rows)(N w:Nat):Prop where
 isA:aX N w A
 dn:aX N N U
 dX:aX N N C
 ua:∀i c,i<N->c<w->g A i c=S N λk=>g U i k*g A0 k c
 ub:∀i j,i<N->j<N->S N (λk=>g U i k*g C j k)=dl i j
 bu:∀i j,i<N->j<N->S N (λk=>g C k i*g U k j)=dl i j
def fC{N w k j:Nat}(a:aX N w A)(b:k<N)(d:j<N)(i c:Nat):g (aQ A k q j) i c=if i=k then g A k c-q*g A j c else g A i c:=by
 unfold g aQ;let e:=a.len;rw[ik (by lia)];by_cases h:i=k
 . rw[WY h,WY h,nj (by rw[ba a b,ba a d]),Zh];lia
 . rw[WW h,WW h]
def qc(a:aX N w A)(b:t+1<N)(i c:Nat):g (aR A (t+1) t) i c=g A (sw t (t+1) i) c:=by
 unfold g;rw[vI (by let:=a.len;lia)]
def wH(n:Nat)(a b:Int)(f h:Nat->Int):S n (λc=>a*f c+b*h c)=a*S n f+b*S n h:=by
 rw[iR,cT,cT]
def Tn.take{N w k j:Nat}(T:Tn o A U C N w)(a:k<N)(b:j<N)(r:j≠k):Tn o (aQ A k q j) (aQ U k q j) (aQ C j (-q) k) N w where
 isA:=nV T.isA a b
 dn:=nV T.dn a b
 dX:=nV T.dX b a
 ua:=λi c n u=>by
  rw[fC T.isA a b];let e:S N (λm=>g (aQ U k q j) i m*g o m c)=S N λm=>(if i=k then g U k m-q*g U j m else g U i m)*g o m c:=aw λm _=>by rw[fC T.dn a b]
  rw[e];by_cases h:i=k
  . simp![WY h];rw[T.ua k c a u,T.ua j c b u];let f:S N (λm=>(g U k m-q*g U j m)*g o m c)=S N λm=>1*(g U k m*g o m c)-q*(g U j m*g o m c):=aw λm _=>by grind
    rw[f,jR];lia
  . simp![WW h];show T.ua i c n u
 ub:=λi l n p=>by
  let e:S N (λm=>g (aQ U k q j) i m*g (aQ C j (-q) k) l m)=S N λm=>(if i=k then g U k m-q*g U j m else g U i m)*(if l=j then g C j m- -q*g C k m else g C l m):=aw λm _=>by rw[fC T.dn a b,fC T.dX b a]
  rw[e];let s:dl j k=0:=dD r;by_cases h:i=k
  . by_cases d:l=j
    . simp![WY h,WY d];let f:S N (λm=>(g U k m-q*g U j m)*(g C j m- -q*g C k m))=S N λm=>1*(1*(g U k m*g C j m)+q*(g U k m*g C k m))-q*(1*(g U j m*g C j m)+q*(g U j m*g C k m)):=aw λm _=>by grind
      rw[f,jR,wH,wH,T.ub k j a b,T.ub k k a a,T.ub j j b b,T.ub j k b a,h,d,dh,dh,s,ni k j,s];lia
    . simp![WY h,WW d];let f:S N (λm=>(g U k m-q*g U j m)*g C l m)=S N λm=>1*(g U k m*g C l m)-q*(g U j m*g C l m):=aw λm _=>by grind
      rw[f,jR,T.ub k l a p,T.ub j l b p,h,dD (W4 d)];lia
  . by_cases d:l=j
    . simp![WW h,WY d];let f:S N (λm=>g U i m*(g C j m- -q*g C k m))=S N λm=>1*(g U i m*g C j m)+q*(g U i m*g C k m):=aw λm _=>by grind
      rw[f,wH,T.ub i j n b,T.ub i k n a,d,dD h];lia
    . simp![WW h,WW d];show T.ub i l n p
 bu:=λi l n p=>by
  let e:S N (λm=>g (aQ C j (-q) k) m i*g (aQ U k q j) m l)=S N λm=>g C m i*g U m l+((q*(g C k i*g U j l))*dl m j+(-(q*(g C k i*g U j l)))*dl m k):=aw λm _=>by
   rw[fC T.dn a b,fC T.dX b a];by_cases t:m=j
   . have d:m≠k:=by lia
     rw[WY t,WW d,t,dh,dD r];grind
   . rw[WW t,dD t];by_cases d:m=k
     . rw[WY d,d,dh];grind
     . rw[WW d,dD d];grind
  rw[e,iR,wH,T.bu i l n p]
  let v:S N (λc=>dl c j)=1:=by
   rw[lT b λi _ h=>dD h,dh]
  let f:S N (λc=>dl c k)=1:=by
   rw[lT a λi _ h=>dD h,dh]
  rw[v,f];lia
def Ob:dl (sw t (t+1) a) (sw t (t+1) b)=dl a b:=by
 by_cases h:a=b
 . rw[h,dh,dh]
 . rw[dD h,dD];intro z;apply h;let:∀x,sw t (t+1) (sw t (t+1) x)=x:=λx=>by unfold sw;grind
   rw[<-this a,<-this b,z]
def sM(a:t+1<N)(hi:i<N):sw t (t+1) i<N:=by unfold sw;grind
def Tn.swap{e A U C:Rows}(T:Tn e A U C N w)(a:t+1<N):Tn e (aR A (t+1) t) (aR U (t+1) t) (aR C (t+1) t) N w where
 isA:=vW T.isA a
 dn:=vW T.dn a
 dX:=vW T.dX a
 ua:=λi c b f=>by
  rw[qc T.isA a,T.ua _ c (sM a b) f];show aw λm _=>by rw[qc T.dn a]
 ub:=λi j b d=>by
  rw[<-Ob (t:=t),<-T.ub _ _ (sM a b) (sM a d)];show aw λm _=>by rw[qc T.dn a,qc T.dX a]
 bu:=λi j b d=>by
  rw[<-T.bu i j b d,<-QL (i:=t) (j:=t+1) (by lia) a (by lia) λk=>g C k i*g U k j];show aw λm _=>by rw[qc T.dn a,qc T.dX a]
def AV{a b:Row}(h:a.length=b.length):gY a b*gY a b<=gY a a*gY b b:=by
 rw[my h,my (a:=a) rfl,my (a:=b) rfl,h];show Ip _ _ _
def oF{x:Int}{m:Nat}{a b:Int}(h:x*x<=a*b)(f:0<=a)(c:0<=b)(e:a<=m)(d:b<=m):x.natAbs<=m:=by
 let j:a*b<=(m:Int)*m:=YV e d c (by lia)
 let i:((x.natAbs*x.natAbs:Nat):Int)<=((m*m:Nat):Int):=by
  rw[Zc,Zc,aah];lia
 let g:x.natAbs*x.natAbs<=m*m:=by lia
 show aad λh=>by
  let:=Nat.mul_lt_mul'' h h;lia
def Tn.abs{f A U C:Rows}{N w m:Nat}(T:Tn f A U C N w)(n:aX N w f)(G:N<=8)(E:D N (ae f)≠0)(L:D N (ae A)≠0)(J:∀i,i<N->ae f i i<=m)(I:∀i,i<N->ae A i i<=m){i j:Nat}(hi:i<N)(o:j<N):
 (g U i j).natAbs<=(8*m)^N/\(g C i j).natAbs<=(8*m)^N:=by
 let H:∀ {B:Rows},aX N w B->(∀i,i<N->ae B i i<=m)->∀r c,r<N->c<N->(ae B r c).natAbs<=m:=λ{B} v p r c y h=>by
  let:=AV (a:=B.getD r []) (b:=B.getD c []) (by rw[ba v y,ba v h]);show oF this (eS v y) (eS v h) (p r y) (p c h)
 let F:∀a b,a<N->b<N->(gY (A.getD a []) (f.getD b [])).natAbs<=m:=λa b z p=>
  oF (AV (by rw[ba T.isA z,ba n p])) (eS T.isA z) (eS n p) (I a z) (J b p)
 constructor
 . show wC (u:=λk=>g U i k) (x:=λc=>gY (A.getD i []) (f.getD c [])) G o (λc h=>?_) E (H n J) λc h=>F i c hi h;rw[my (by rw[ba T.isA hi,ba n h]),ba n h]
   let e:S w (λd=>(A.getD i []).getD d 0*(f.getD c []).getD d 0)=S w λd=>S N λk=>g U i k*(g f k d*g f c d):=aw λd s=>by
    let:=T.ua i d hi s;change g A i d*g f c d=_;rw[this,<-kD];show aw λk _=>by grind
   rw[e,i6];show aw λk q=>?_;rw[cT,fv n q h];rfl
 . show wC (u:=λk=>g C k j) (x:=λc=>gY (A.getD c []) (f.getD j [])) G hi (λc h=>?_) L (H T.isA I) λc h=>F c j h o;rw[my (by rw[ba T.isA h,ba n o]),ba n o]
   let t:∀d,d<w->g f j d=S N λk=>g C k j*g A k d:=λd s=>by
    let e:S N (λk=>g C k j*g A k d)=S N λk=>S N λl=>(g C k j*g U k l)*g f l d:=aw λk q=>by
     rw[T.ua k d q s,<-cT];show aw λl _=>by grind
    rw[e,i6];let M:S N (λl=>S N λk=>(g C k j*g U k l)*g f l d)=S N λl=>dl j l*g f l d:=aw λl K=>by rw[kD,T.bu j l o K]
    rw[M,gO o]
   let e:S w (λd=>(A.getD c []).getD d 0*(f.getD j []).getD d 0)=S w λd=>S N λk=>g C k j*(g A k d*g A c d):=aw λd s=>by
    change g A c d*g f j d=_;rw[t d s,<-cT];show aw λk _=>by grind
   rw[e,i6];show aw λk q=>?_;rw[cT,fv T.isA q h];rfl
def AZ{A:Rows}{k o i:Nat}(d:k<A.length)(c:o<A.length):(aR A k o).getD i []=A.getD (sw k o i) []:=by
 unfold aR;rw[ik (by rw[Xf];show c),ik d];unfold sw;by_cases b:i=k
 . rw[WY b,WY b];by_cases a:i=o
   . rw[WY a,<-b,<-a]
   . rw[WW a]
 . rw[WW b,WW b];by_cases a:i=o
   . rw[WY a,WY a]
   . rw[WW a,WW a]
def vS{N w k o:Nat}(a:aX N w A)(d:k<N)(c:o<N):aX N w (aR A k o):=by
 show⟨by unfold aR;rw[Xf,Xf];show a.len,λr b=>?_⟩;unfold aR at b;rcases YN b with h|rfl
 . rcases YN h with h|rfl
   . show a.fZ r h
   . show ba a c
 . show ba a d
def ki{N w k o:Nat}(a:aX N w A)(d:k<N)(b:o<N)(i c:Nat):g (aR A k o) i c=g A (sw k o i) c:=by
 unfold g;rw[AZ (by let:=a.len;lia) (by let:=a.len;lia)]
def sD{k o N i:Nat}(b:k<N)(a:o<N)(hi:i<N):sw k o i<N:=by unfold sw;split<;>(try split)<;>assumption
def HZ(k o x:Nat):sw k o (sw k o x)=x:=by
 unfold sw;by_cases b:x=k
 . subst b;rw[WY rfl];by_cases a:o=x
   . rw[WY a];show a
   . rw[WW a,WY rfl]
 . rw[WW b];by_cases a:x=o
   . subst a;rw[WY rfl,WY rfl]
   . rw[WW a,WW b,WW a]
def Ui{k o a b:Nat}:dl (sw k o a) (sw k o b)=dl a b:=by
 by_cases h:a=b
 . rw[h,dh,dh]
 . rw[dD h,dD λz=>h (by rw[<-HZ k o a,<-HZ k o b,z])]
def Pb(k x:Nat):sw k k x=x:=by
 unfold sw;by_cases h:x=k
 . rw[WY h,h]
 . rw[WW h,WW h]
def UJ(hi:i<n)(a:j<n)(f:Nat->Int):S n (λk=>f (sw i j k))=S n f:=by
 by_cases h:i=j
 . subst h;show aw λk _=>by rw[Pb]
 . show QL hi a h f
def Tn.M9{N w k o:Nat}(T:Tn f A U C N w)(b:k<N)(a:o<N):Tn f (aR A k o) (aR U k o) (aR C k o) N w where
 isA:=vS T.isA b a
 dn:=vS T.dn b a
 dX:=vS T.dX b a
 ua:=λi c d h=>by
  rw[ki T.isA b a,T.ua _ c (sD b a d) h];show aw λm _=>by rw[ki T.dn b a]
 ub:=λi j d e=>by
  rw[<-Ui (k:=k) (o:=o),<-T.ub _ _ (sD b a d) (sD b a e)];show aw λm _=>by rw[ki T.dn b a,ki T.dX b a]
 bu:=λi j d e=>by
  rw[<-T.bu i j d e,<-UJ b a λm=>g C m i*g U m j];show aw λm _=>by rw[ki T.dn b a,ki T.dX b a]
def gZ(A:Rows)(k:Nat):Rows:=A.set k ((A.getD k []).map λx=> -x)
def CD{N w k:Nat}(a:aX N w A)(c:k<N):aX N w (gZ A k):=by
 show⟨by unfold gZ;rw[Xf];show a.len,λr b=>?_⟩;unfold gZ at b;rcases YN b with h|rfl
 . show a.fZ r h
 . rw[W2];show ba a c
def J9(r:Row)(c:Nat):(r.map λx=> -x).getD c 0= -r.getD c 0:=by
 rw[Xa,Xa,W_];cases r[c]?<;>rfl
def kH{N w k:Nat}(a:aX N w A)(b:k<N)(i c:Nat):g (gZ A k) i c=if i=k then-g A k c else g A i c:=by
 unfold g gZ;rw[ik (by let:=a.len;lia)];by_cases h:i=k
 . rw[WY h,WY h,J9]
 . rw[WW h,WW h]
def Tn.neg{N w k:Nat}(T:Tn o A U C N w)(a:k<N):Tn o (gZ A k) (gZ U k) (gZ C k) N w where
 isA:=CD T.isA a
 dn:=CD T.dn a
 dX:=CD T.dX a
 ua:=λi c b n=>by
  rw[kH T.isA a];by_cases h:i=k
  . rw[WY h,T.ua k c a n,<-xt];show aw λm _=>by rw[kH T.dn a,WY h,Zh]
  . rw[WW h,T.ua i c b n];show aw λm _=>by rw[kH T.dn a,WW h]
 ub:=λi j b l=>by
  let e:S N (λm=>g (gZ U k) i m*g (gZ C k) j m)=S N λm=>(if i=k then-1 else 1)*(if j=k then-1 else 1)*(g U i m*g C j m):=aw λm _=>by
   rw[kH T.dn a,kH T.dX a];by_cases f:i=k<;>by_cases d:j=k<;>simp![f,d,Zo,Zr]<;>grind
  rw[e,cT,T.ub i j b l];by_cases f:i=k
  . by_cases d:j=k
    . simp[f,d]
    . rw[dD (by lia)];simp
  . by_cases d:j=k
    . rw[dD (by lia)];simp
    . simp[f,d]
 bu:=λi j b l=>by
  rw[<-T.bu i j b l]
  show aw λm _=>by
   rw[kH T.dn a,kH T.dX a];by_cases h:m=k
   . subst h;rw[WY rfl,WY rfl];grind
   . rw[WW h,WW h]
structure mE(A:Rows)(N top p:Nat)(L:List Nat):Prop where
 mem:∀k,k∈L↔top<=k/\k<N/\g A k p≠0
 ord:L.Pairwise λi j=>(g A i p).natAbs<=(g A j p).natAbs
 nd:L.Nodup
structure B3 where
 A:Rows
 U:Rows
 C:Rows
def qn(x y:Int):Int:=(2*x+y).fdiv (2*y)
def kG(b:B3)(p k j:Nat):B3:=⟨aQ b.A k (qn (g b.A k p) (g b.A j p)) j,aQ b.U k (qn (g b.A k p) (g b.A j p)) j,aQ b.C j (-(qn (g b.A k p) (g b.A j p))) k⟩
def Nj(N top p:Nat)(b c:B3):Prop:=∃(L:List Nat) (k j:Nat),mE b.A N top p (L++[j,k])/\c=kG b p k j
inductive jI(N top p:Nat):B3->B3->Prop
 |refl (b:B3):jI N top p b b
 |head {b c d:B3} (h:Nj N top p b c) (t:jI N top p c d):jI N top p b d
def jI.tail{N top p:Nat}(h:jI N top p b c)(t:Nj N top p c d):jI N top p b d:=by
 induction h with
 |refl b=>show .head t (.refl _)
 |head x _ a=>show .head x (a t)
def g6(X:Rows)(N top m:Nat):Prop:=∀i c,top<=i->i<N->(g X i c).natAbs<=m
def PR(f:Nat->Nat):Nat->Nat
 |0=>1
 |n+1=>PR f n*f n
def Js{f:Nat->Nat}(h:∀i,1<=f i):∀n,1<=PR f n
 |0=>WX _
 |n+1=>XM (Js h n) (h n)
def A6{f f':Nat->Nat}:∀ {n:Nat},(∀i,i<n->f i=f' i)->PR f n=PR f' n
 |0,_=>rfl
 |n+1,h=>by
  change PR f n*f n=PR f' n*f' n;rw[A6 λi a=>h i (XF a),h n (XC n)]
def HX{f f':Nat->Nat}{k:Nat}:∀ {n:Nat},k<n->(∀i,i≠k->f i=f' i)->PR f n*f' k=PR f' n*f k
 |0,a,_=>absurd a (Ys _)
 |n+1,a,h=>by
  change PR f n*f n*f' k=PR f' n*f' n*f k;by_cases e:k=n
  . subst e;rw[A6 (n:=k) λi b=>h i (Xn b),ZM,Y8 (f k),ZM]
  . have:=HX (n:=n) (by lia) h;rw[h n (W4 e),Nat.mul_right_comm,this,Nat.mul_right_comm]
def MT{f:Nat->Nat}{m top:Nat}(g:1<=m):∀ {n:Nat},(∀i,i<n->i<top->f i<=1)->(∀i,i<n->f i<=m)->PR f n<=m^(n-top)
 |0,_,_=>by simp[PR]
 |n+1,d,c=>by
  let b:=MT g (n:=n) (λi a=>d i (XF a)) λi a=>c i (XF a);change PR f n*f n<=_;by_cases e:n<top
  . have z:n+1-top=n-top:=by lia
    rw[z];show WZ (XM b (d n (XC n) e)) (by rw[aaF];show WX _)
  . have z:n+1-top=(n-top)+1:=by lia
    rw[z,Za];show XM b (c n (XC n))
def wt(A:Rows)(top p i:Nat):Nat:=if top<=i/\g A i p≠0 then 2*(g A i p).natAbs else 1
def HV(A:Rows)(top p i:Nat):1<=wt A top p i:=by
 unfold wt;split<;>lia
def Eg{x y:Int}(a:y≠0):2*(x-qn x y*y).natAbs<=y.natAbs:=by
 unfold qn;let f:=abZ (2*x+y) (2*y);let b:(2*x+y).fmod (2*y)=2*x+y-2*y*(2*x+y).fdiv (2*y):=by lia
 generalize(2*x+y).fdiv (2*y)=q at*;let e:2*(x-q*y)=(2*x+y).fmod (2*y)-y:=by rw[b];grind
 rcases Int.lt_or_gt_of_ne a with h|h
 . have g:=Int.neg_fmod_neg (2*x+y) (2*y);let d:=Yq (-(2*x+y)) (show 0< -(2*y) by lia);let c:=YF (-(2*x+y)) (show 0< -(2*y) by lia);lia
 . have d:=Yq (2*x+y) (show 0<2*y by lia);let c:=YF (2*x+y) (show 0<2*y by lia);lia
def Ou{x y:Int}(m:y≠0)(b:y.natAbs<=x.natAbs):(1+(qn x y).natAbs)*(if x-qn x y*y≠0 then 2*(x-qn x y*y).natAbs else 1)<=2*x.natAbs:=by
 let j:=Eg (x:=x) m;generalize qn x y=q at*;generalize s:x-q*y=r at*;let d:x=q*y+r:=by lia
 let i:(q*y).natAbs=q.natAbs*y.natAbs:=Xo ..;by_cases g:r=0
 . rw[WW (λz=>z g),aaF];subst g;let c:x.natAbs=q.natAbs*y.natAbs:=by rw[<-i,d];simp
   let a:1<=y.natAbs:=by lia
   let o:1<=q.natAbs:=by
    rcases Nat.eq_zero_or_pos q.natAbs with z|z
    . rw[z,ab8]at c;lia
    . show z
   let:q.natAbs<=q.natAbs*y.natAbs:=aax _ a;lia
 . rw[WY g];let n:1<=r.natAbs:=by lia
   let l:(1+q.natAbs)*r.natAbs<=x.natAbs:=by
    rcases Z_ q.natAbs 2 with e|f
    . rcases Z_ q.natAbs 1 with h|h
      . have k:q=0:=Int.natAbs_eq_zero.mp (Nat.le_zero.mp (abl h));subst k;simp at d;subst d;simp
      . have z:q.natAbs=1:=abK (abl e) h;rw[z];show WZ j b
    . have p:(q*y).natAbs<=x.natAbs+r.natAbs:=by lia
      rw[i]at p;let v:q.natAbs*(2*r.natAbs)<=q.natAbs*y.natAbs:=ZJ _ j;let u:2*r.natAbs<=q.natAbs*r.natAbs:=XW _ f;let t:q.natAbs*(2*r.natAbs)=q.natAbs*r.natAbs+q.natAbs*r.natAbs:=by rw[abm];lia
      rw[aaj,Y6];lia
   let:(1+q.natAbs)*(2*r.natAbs)=2*((1+q.natAbs)*r.natAbs):=by rw[abm]
   lia
structure uL(A0:Rows)(N w top p m:Nat)(b0 b:B3)(gr:Nat):Prop where
 tn:Tn A0 b.A b.U b.C N w
 up:∀i,i<top->b.A.getD i []=b0.A.getD i []/\b.U.getD i []=b0.U.getD i []/\b.C.getD i []=b0.C.getD i []
 lA:g6 b.A N top (m*gr)
 lU:g6 b.U N top (m*gr)
 lC:g6 b.C N top (m*gr)
 zs:∀i c,top<=i->i<N->c<p->g b.A i c=0
 UZ:gr*PR (wt b.A top p) N<=PR (wt b0.A top p) N
 pos:1<=gr
 TM:b=b0\/∃j,top<=j/\j<N/\g b.A j p≠0
def vx{N w top k j m a:Nat}{q:Int}(p:aX N w X)(l:k<N)(n:j<N)(d:top<=k)(f:top<=j)(h:g6 X N top (m*a)):g6 (aQ X k q j) N top (m*(a*(1+q.natAbs))):=λi c o r=>by
 rw[fC p l n];let e:m*(a*(1+q.natAbs))=m*a+q.natAbs*(m*a):=by rw[<-ZM,Nat.mul_add,aaF,Y8 (m*a) q.natAbs]
 rw[e];by_cases b:i=k
 . rw[WY b];let u:=h k c d l;let t:=h j c f n;let s:(q*g X j c).natAbs<=q.natAbs*(m*a):=by rw[Xo];show ZJ _ t
   show WZ (Int.natAbs_sub_le _ _) (Nat.add_le_add u s)
 . rw[WW b];show WZ (h i c o r) (abA _ _)
def kr{X:Rows}{k j i:Nat}(a:k<X.length)(h:i≠k):(aQ X k q j).getD i []=X.getD i []:=by
 unfold aQ;rw[ik a,WW h]
def half_lt(h:2*r<=y)(b:y<=x)(a:0<x):r<x:=by lia
def uL.step{N w top p m E:Nat}{b0 b:B3}{k j:Nat}(G:uL J N w top p m b0 b E)(U:p<w)(C:mE b.A N top p (L++[j,k])):
 uL J N w top p m b0 (kG b p k j) (E*(1+(qn (g b.A k p) (g b.A j p)).natAbs))/\(g (kG b p k j).A k p).natAbs<(g b.A k p).natAbs/\(∀i,i≠k->g (kG b p k j).A i p=g b.A i p)/\top<=k/\k<N/\top<=j/\j<N/\j≠k/\g b.A j p≠0:=by
 obtain⟨n,a,B⟩:=(C.mem k).mp (by simp);obtain⟨o,d,r⟩:=(C.mem j).mp (by simp);let s:=C.ord;rw[List.pairwise_append]at s;let A:=(aba.mp s.2.1).1 k (by simp);let y:=C.nd;rw[List.nodup_append]at y;let u:j≠k:=λz=>(Zn.mp y.2.1).1 (by rw[z];show ZS.mpr rfl)
 let I:g (kG b p k j).A k p=g b.A k p-qn (g b.A k p) (g b.A j p)*g b.A j p:=by
  change g (aQ b.A k _ j) k p=_;rw[fC G.tn.isA a d,WY rfl]
 let H:∀i,i≠k->g (kG b p k j).A i p=g b.A i p:=λi v=>by
  change g (aQ b.A k _ j) i p=_;rw[fC G.tn.isA a d,WW v]
 let t:=Eg (x:=g b.A k p) r;let l:=Ou (x:=g b.A k p) r A;show⟨⟨G.tn.take a d u,λi v=>?_,vx G.tn.isA a d n o G.lA,vx G.tn.dn a d n o G.lU,?_,λi c v Q F=>?_,?_,?_,.inr ⟨j,o,d,by rw[H j u];show r⟩⟩,?_,H,n,a,o,d,u,r⟩
 . obtain⟨T,S,R⟩:=G.up i v;show⟨(kr (by rw[G.tn.isA.len];show a) (by lia)).trans T,(kr (by rw[G.tn.dn.len];show a) (by lia)).trans S,(kr (by rw[G.tn.dX.len];show d) (by lia)).trans R⟩
 . have:=vx (q:= -(qn (g b.A k p) (g b.A j p))) G.tn.dX d a o n G.lC;rw[YI]at this;show this
 . change g (aQ b.A k _ j) i c=0;rw[fC G.tn.isA a d];by_cases h:i=k
   . rw[WY h,G.zs k c n a F,G.zs j c o d F,XT];rfl
   . rw[WW h];show G.zs i c v Q F
 . have e:=HX (f:=wt (kG b p k j).A top p) (f':=wt b.A top p) (k:=k) a λi v=>by unfold wt;rw[H i v]
   let M:wt b.A top p k=2*(g b.A k p).natAbs:=by unfold wt;rw[WY ⟨n,B⟩]
   let K:(1+(qn (g b.A k p) (g b.A j p)).natAbs)*wt (kG b p k j).A top p k<=wt b.A top p k:=by
    rw[M];unfold wt;rw[I];by_cases D:g b.A k p-qn (g b.A k p) (g b.A j p)*g b.A j p=0
    . rw[WW (λz=>z.2 D)];rw[WW (λz=>z D)]at l;show l
    . rw[WY ⟨n,D⟩];rw[WY D]at l;show l
   let P:0<wt b.A top p k:=HV _ _ _ _;show Nat.le_of_mul_le_mul_right (c:=wt b.A top p k) ?_ P
   let O:E*(1+(qn (g b.A k p) (g b.A j p)).natAbs)*PR (wt (kG b p k j).A top p) N*wt b.A top p k=E*PR (wt b.A top p) N*((1+(qn (g b.A k p) (g b.A j p)).natAbs)*wt (kG b p k j).A top p k):=by
    rw[ZM _ (PR _ N),e];simp![ZM,abm]
   rw[O];show XM G.UZ K
 . show Nat.mul_pos G.pos (by lia)
 . rw[I];show half_lt t A (Int.natAbs_pos.mpr B)
def uL.low{k:Rows}{N w top p e a:Nat}{b0 b:B3}(G:uL k N w top p (2^e) b0 b a)(g:g6 b0.A N top (2^e)):2^e*a<=2^((N-top+1)*(e+1)):=by
 let f:a<=PR (wt b0.A top p) N:=WZ (aax _ (Js (HV _ _ _) N)) G.UZ
 let d:PR (wt b0.A top p) N<=(2^(e+1))^(N-top):=MT Zk (λi _ l=>by unfold wt;rw[WW (by lia)];show WX _) λi c=>by
  unfold wt;split
  . rename_i h;let:=g i p h.1 c;rw[Za];lia
  . show Zk
 show WZ (ZJ _ (WZ f d)) ?_;rw[<-aak,<-YJ];show Xd (by decide) ?_;let j:(N-top+1)*(e+1)=(e+1)*(N-top)+(e+1):=by rw[aaj,Y6,Y8]
 rw[j];lia
structure wu(A0:Rows)(N w:Nat)(b:B3)(top p:Nat)(ld:Nat->Nat)(e u:Nat):Prop where
 tn:Tn A0 b.A b.U b.C N w
 le:top<=N
 lo:g6 b.A N top (2^e)/\g6 b.U N top (2^e)/\g6 b.C N top (2^e)
 hi:∀i c,i<top->(g b.A i c).natAbs<=2^u/\(g b.U i c).natAbs<=2^u/\(g b.C i c).natAbs<=2^u
 zs:∀i c,top<=i->i<N->c<p->g b.A i c=0
 lead:∀i,i<top->ld i<p/\0<g b.A i (ld i)/\∀c,c<ld i->g b.A i c=0
 mono:∀i j,i<j->j<top->ld i<ld j
 red:∀i j,i<j->j<top->0<=g b.A i (ld j)/\g b.A i (ld j)<g b.A j (ld j)
def setB(b:B3)(p top r:Nat):B3:=
 if g (aR b.A top r) top p<0 then⟨gZ (aR b.A top r) top,gZ (aR b.U top r) top,gZ (aR b.C top r) top⟩else⟨aR b.A top r,aR b.U top r,aR b.C top r⟩
def vw{N w top r m:Nat}(f:aX N w X)(b:top<N)(d:r<N)(a:top<=r)(h:g6 X N top m):g6 (aR X top r) N top m:=λi c e g=>by
 rw[ki f b d];show h _ c ?_ (sD b d g);unfold sw;split
 . show a
 . split
   . show WX _
   . show e
def Cr{N w top m:Nat}(d:aX N w X)(a:top<N)(h:g6 X N top m):g6 (gZ X top) N top m:=λi c b e=>by
 rw[kH d a];split
 . rw[YI];show h top c (WX _) a
 . show h i c b e
def vq{X:Rows}{N w top r i:Nat}(a:aX N w X)(c:top<N)(d:r<N)(b:top<=r)(hi:i<top):(aR X top r).getD i []=X.getD i []:=by
 rw[AZ (by let:=a.len;lia) (by let:=a.len;lia)];unfold sw;rw[WW (by lia),WW (by lia)]
def CG{X:Rows}{N w top i:Nat}(a:aX N w X)(b:top<N)(hi:i<top):(gZ X top).getD i []=X.getD i []:=by
 unfold gZ;rw[ik (by let:=a.len;lia),WW (by lia)]
structure yC(A0:Rows)(N w top p m:Nat)(b0 b:B3):Prop where
 tn:Tn A0 b.A b.U b.C N w
 up:∀i,i<top->b.A.getD i []=b0.A.getD i []/\b.U.getD i []=b0.U.getD i []/\b.C.getD i []=b0.C.getD i []
 lo:g6 b.A N top m/\g6 b.U N top m/\g6 b.C N top m
 zs:∀i c,top<=i->i<N->c<p->g b.A i c=0
 tp:0<g b.A top p
 z1:∀i,top<i->i<N->g b.A i p=0
def uL.set{N w top p m D r:Nat}{b0 b:B3}(G:uL E N w top p m b0 b D)(C:mE b.A N top p [r]):yC E N w top p (m*D) b0 (setB b p top r)/\top<=r/\r<N:=by
 obtain⟨e,d,F⟩:=(C.mem r).mp (by simp);let a:top<N:=by lia
 let z:∀i,top<=i->i<N->i≠r->g b.A i p=0:=λi l k o=>Zz λy=>o (by simpa using(C.mem i).mpr ⟨l,k,y⟩);let n:∀i c,g (aR b.A top r) i c=g b.A (sw top r i) c:=λi c=>ki G.tn.isA a d i c;let H:g (aR b.A top r) top p=g b.A r p:=by rw[n];unfold sw;rw[WY rfl]
 let f:=G.tn.M9 a d
 let A:∀i,top<i->i<N->g (aR b.A top r) i p=0:=λi l k=>by
  rw[n];unfold sw;rw[WW (by lia)];by_cases h:i=r
  . rw[WY h];show z top (WX _) a (by lia)
  . rw[WW h];show z i (by lia) k h
 let s:∀i c,top<=i->i<N->c<p->g (aR b.A top r) i c=0:=λi c l k o=>by
  rw[n];show G.zs _ c ?_ (sD a d k) o;unfold sw;split
  . show e
  . split
    . show WX _
    . show l
 let B:∀i,i<top->(aR b.A top r).getD i []=b0.A.getD i []/\(aR b.U top r).getD i []=b0.U.getD i []/\(aR b.C top r).getD i []=b0.C.getD i []:=λi j=>by
  obtain⟨x,v,u⟩:=G.up i j;show⟨(vq G.tn.isA a d e j).trans x,(vq G.tn.dn a d e j).trans v,(vq G.tn.dX a d e j).trans u⟩
 let q:=And.intro (vw G.tn.isA a d e G.lA) (And.intro (vw G.tn.dn a d e G.lU) (vw G.tn.dX a d e G.lC));show⟨?_,e,d⟩;unfold setB;by_cases t:g (aR b.A top r) top p<0
 . rw[WY t];show⟨f.neg a,λi j=>?_,⟨Cr f.isA a q.1,Cr f.dn a q.2.1,Cr f.dX a q.2.2⟩,λi c l k o=>?_,?_,λi l k=>?_⟩
   . obtain⟨x,v,u⟩:=B i j;show⟨(CG f.isA a j).trans x,(CG f.dn a j).trans v,(CG f.dX a j).trans u⟩
   . change g (gZ (aR b.A top r) top) i c=0;rw[kH f.isA a];split
     . rw[s top c (WX _) a o];rfl
     . show s i c l k o
   . change 0<g (gZ (aR b.A top r) top) top p;rw[kH f.isA a,WY rfl];lia
   . change g (gZ (aR b.A top r) top) i p=0;rw[kH f.isA a,WW (by lia)];show A i l k
 . rw[WW t];show⟨f,B,q,s,by change 0<g (aR b.A top r) top p;rw[H]at t⊢;lia,A⟩
def dF(p top:Nat):Nat->B3->B3
 |0,b=>b
 |k+1,b=>
  let c:=dF p top k b
  ⟨aQ c.A k ((g c.A k p).fdiv (g c.A top p)) top,aQ c.U k ((g c.A k p).fdiv (g c.A top p)) top,aQ c.C top (-((g c.A k p).fdiv (g c.A top p))) k⟩
def nP(a:Int)(c:0<b):(a.fdiv b).natAbs<=a.natAbs:=by
 rw[Zv _ (Yn c)];show abu a b
def Tn.start(e:aX N w A):Tn A A (units N) (units N) N w where
 isA:=e
 dn:=fW N
 dX:=fW N
 ua:=λi c a f=>by
  rw[<-gO a λk=>g A k c];show aw λm b=>by rw[i7 a b]
 ub:=λi j a d=>by
  rw[ni i j,<-gO a λk=>dl j k]
  . show aw λm b=>by rw[i7 a b,i7 d b]
 bu:=λi j a d=>by
  rw[<-rm a λk=>dl k j];show aw λm b=>by rw[i7 b a,i7 b d,Yz]
def wu.start{N w e:Nat}(f:aX N w A)(h:g6 A N 0 (2^e)):wu A N w ⟨A,units N,units N⟩ 0 0 (λ_=>0) e 0:=by
 let a:g6 (units N) N 0 (2^e):=λi c _ b=>by
  by_cases d:c<N
  . rw[i7 b d];unfold dl;split
    . show Zk
    . show Xq _
  . unfold g;rw[lp (l:=(units N).getD i []) (by rw[ba (fW N) b];lia)];show Xq _
 show⟨Tn.start f,Xq _,⟨h,a,a⟩,λ_ _ h=>absurd h (Ys _),λ_ _ _ _ h=>absurd h (Ys _),λ_ h=>absurd h (Ys _),λ_ _ _ h=>absurd h (Ys _),λ_ _ _ h=>absurd h (Ys _)⟩
def SU(f:Nat->Nat):Nat->Nat
 |0=>0
 |n+1=>SU f n+f n
def Nk{f f':Nat->Nat}:∀ {n:Nat},(∀i,i<n->f' i<=f i)->SU f' n<=SU f n
 |0,_=>WX _
 |n+1,h=>Nat.add_le_add (Nk λi a=>h i (XF a)) (h n (XC n))
def M0{f f':Nat->Nat}{k:Nat}(a:f' k<f k):∀ {n:Nat},k<n->(∀i,i<n->f' i<=f i)->SU f' n<SU f n
 |0,c,_=>absurd c (Ys _)
 |n+1,c,h=>by
  by_cases e:k=n
  . subst e;show Nat.add_lt_add_of_le_of_lt (Nk λi b=>h i (XF b)) a
  . show Nat.add_lt_add_of_lt_of_le (M0 a (by lia) λi b=>h i (XF b)) (h n (XC n))
def mu(A:Rows)(N p:Nat):Nat:=SU (λi=>(g A i p).natAbs) N
inductive RJ(N p:Nat):Nat->B3->Nat->B3->Prop
 |none {top:Nat} {b:B3} (h:mE b.A N top p []):RJ N p top b top b
 |one {top r:Nat} {b c:B3} (h:jI N top p b c) (l:mE c.A N top p [r]):RJ N p top b (top+1) (dF p top top (setB c p top r))
inductive yB(A:Rows)(N:Nat):Nat->Nat->B3->Prop
 |start:yB A N 0 0 ⟨A,units N,units N⟩
 |next {p t t':Nat} {b b':B3} (h:yB A N p t b) (c:RJ N p t b t' b'):yB A N (p+1) t' b'
def Ez(N a:Nat):Nat->Nat
 |0=>a
 |t+1=>(N-t+1)*(Ez N a t+1)
def dW(X:Rows)(n w:Nat)(v:Nat->Int):Prop:=∃z:Nat->Int,∀c,c<w->v c=S n λk=>z k*g X k c
def dW.row{n w k:Nat}(a:k<n):dW X n w (g X k):=⟨λi=>dl k i,λc _=>(gO a λi=>g X i c).symm⟩
def dW.sub{u v:Nat->Int}(f:dW X n w u)(e:dW X n w v):dW X n w λc=>u c-v c:=by
 obtain⟨y,d⟩:=f;obtain⟨z,b⟩:=e;show⟨λk=>y k-z k,λc a=>?_⟩;change u c-v c=S n λk=>(y k-z k)*g X k c;rw[d c a,b c a,ZT,<-xt,<-iR];show aw λk _=>by rw[Int.sub_mul,ZT]
def dW.trans{v:Nat->Int}(h:∀k,k<m->dW Y n w (g X k))(j:dW X m w v):dW Y n w v:=by
 obtain⟨z,e⟩:=j
 let b:∀k,∃y:Nat->Int,k<m->∀c,c<w->g X k c=S n λi=>y i*g Y i c:=λk=>by
  by_cases a:k<m
  . obtain⟨y,f⟩:=h k a;show⟨y,λ_=>f⟩
  . show⟨λ_=>0,λh=>absurd h a⟩
 show⟨λi=>S m λk=>z k*Classical.choose (b k) i,λc d=>?_⟩;rw[e c d]
 let l:S m (λk=>z k*g X k c)=S m λk=>S n λi=>z k*Classical.choose (b k) i*g Y i c:=aw λk a=>by
  rw[aaS (b k) a c d,<-cT];show aw λi _=>(Yr _ _ _).symm
 rw[l,i6];show aw λi _=>kD _ _ _
structure eV(X:Rows)(n w:Nat)(ld:Nat->Nat):Prop where
 lead:∀i,i<n->ld i<w/\0<g X i (ld i)/\∀c,c<ld i->g X i c=0
 mono:∀i j,i<j->j<n->ld i<ld j
def eV.inj{a:Nat->Nat}(s:eV X n w a)(hi:i<n)(b:j<n)(h:a i=a j):i=j:=by
 rcases Nat.lt_trichotomy i j with q|q|q
 . show absurd h (Xn (s.mono i j q b))
 . show q
 . show absurd h.symm (Xn (s.mono j i q hi))
def eV.gone{a:Nat->Nat}{v z:Nat->Int}(s:eV X n w a)(j:∀c,c<w->v c=S n λk=>z k*g X k c)(p:∀c,c<q->v c=0)(k:Nat):k<n->a k<q->z k=0:=by
 induction k using Nat.strongRecOn with
 |ind k h=>
  intro b f;obtain⟨o,m,r⟩:=s.lead k b;let e:=j (a k) o;rw[p _ f,lT b λi d ne=>?_]at e
  . show(Int.mul_eq_zero.mp e.symm).resolve_right (abC m)
  . rcases Nat.lt_or_gt_of_ne ne with l|l
    . rw[h i l d (aa1 (s.mono i k l b) f),ZG]
    . rw[(s.lead i d).2.2 _ (s.mono k i l d),XT]
def eV.at{b:Nat->Nat}{v:Nat->Int}(s:eV X n w b)(o:dW X n w v)(j:q<w)(p:∀c,c<q->v c=0):(∃i,i<n/\b i=q/\g X i q∣v q)\/v q=0:=by
 obtain⟨z,d⟩:=o
 let m:∀k,k<n->b k≠q->z k*g X k q=0:=λk a ne=>by
  rcases Nat.lt_or_gt_of_ne ne with l|l
  . rw[s.gone d p k a l,ZG]
  . rw[(s.lead k a).2.2 _ l,XT]
 by_cases h:∃i,i<n/\b i=q
 . obtain⟨i,f,e⟩:=h;show .inl ⟨i,f,e,z i,?_⟩;rw[d q j,lT f λk a ne=>m k a λz=>ne (s.inj a f (z.trans e.symm)),Yz]
 . show .inr ?_;rw[d q j];show mm λk a=>m k a λe=>h ⟨k,a,e⟩
def QD(X:Rows)(n:Nat)(a:Nat->Nat):Prop:=∀i j,i<j->j<n->0<=g X i (a j)/\g X i (a j)<g X j (a j)
def Sm(b:B3)(N m:Nat):Prop:=∀i c,i<N->(g b.A i c).natAbs<=m/\(g b.U i c).natAbs<=m/\(g b.C i c).natAbs<=m
def Ni{f:Nat->Int}:∀ {N:Nat},n<=N->(∀i,n<=i->i<N->f i=0)->S N f=S n f
 |0,h,_=>by rw[Nat.le_zero.mp h]
 |N+1,h,z=>by
  by_cases e:n=N+1
  . rw[e]
  . have a:n<=N:=by lia
    change S N f+f N=_;rw[z N a (XC N),Y_];show Ni a λi c b=>z i c (XF b)
def wu.in{N w top e u:Nat}{c:B3}{a:Nat->Nat}(s:wu A N w c top w a e u)(k:Nat)(d:k<top):dW A N w (g c.A k):=
 ⟨g c.U k,λq b=>s.tn.ua k q (Xj d s.le) b⟩
def wu.out{N w top e u:Nat}{c:B3}{d:Nat->Nat}(s:wu A N w c top w d e u)(k:Nat)(b:k<N):dW c.A top w (g A k):=by
 show⟨λi=>g c.C i k,λq a=>?_⟩
 let o:S N (λi=>g c.C i k*g c.A i q)=g A k q:=by
  let:S N (λi=>g c.C i k*g c.A i q)=S N λi=>S N λj=>g c.C i k*g c.U i j*g A j q:=aw λi h=>by
   rw[s.tn.ua i q h a,<-cT];show aw λj _=>(Yr _ _ _).symm
  rw[this,i6]
  let n:S N (λj=>S N λi=>g c.C i k*g c.U i j*g A j q)=S N λj=>dl k j*g A j q:=aw λj f=>by
   rw[kD,s.tn.bu k j b f]
  rw[n,gO b λj=>g A j q]
 rw[<-o];show Ni s.le λi m l=>by rw[s.zs i q m l a,XT]
def kj{X:Rows}(h:i<n):g (X.take n) i q=g X i q:=by
 unfold g;rw[Xa (l:=X.take n),Xa (l:=X),aat h]
def dW.V3{u v:Nat->Int}(x:Int)(f:dW X n w u)(e:dW X n w v):dW X n w λc=>u c+x*v c:=by
 obtain⟨y,d⟩:=f;obtain⟨z,b⟩:=e;show⟨λk=>y k+x*z k,λc a=>?_⟩;change u c+x*v c=S n λk=>(y k+x*z k)*g X k c;rw[d c a,b c a,<-cT,<-iR];show aw λk _=>by rw[Int.add_mul,Yr]
def dW.eq{u v:Nat->Int}(d:dW X n w u)(h:∀c,c<w->v c=u c):dW X n w v:=by
 obtain⟨y,b⟩:=d;show⟨y,λc a=>(h c a).trans (b c a)⟩
structure um(X:Rows)(n:Nat)(Y:Rows)(m w:Nat):Prop where
 to:∀k,k<n->dW Y m w (g X k)
 of:∀k,k<m->dW X n w (g Y k)
def um.symm(h:um X n Y m w):um Y m X n w:=⟨h.of,h.to⟩
def dW.zero{v:Nat->Int}(h:∀c,c<w->v c=0):dW X n w v:=
 ⟨λ_=>0,λc a=>by rw[h c a,mm λk _=>ZG _]⟩
def pX{X:Rows}{r:Row}{k:Nat}(b:k<=X.length)(i:Nat):(X.take k++r::X.drop k).getD i []=if i<k then X.getD i []else if i=k then r else X.getD (i-1) []:=by
 let lt:(X.take k).length=k:=by rw[Yu];lia
 rw[Xa,Xa,Xa];by_cases h:i<k
 . rw[WY h,W3 (by rw[lt];show h),aat h]
 . rw[WW h,Xr (by rw[lt];lia),lt];by_cases a:i=k
   . rw[WY a,a,Y0];rfl
   . rw[WW a];let:i-k=(i-1-k)+1:=by lia
     rw[this,YG,List.getElem?_drop];congr 2;lia
structure pN(F:Rows)(w:Nat)(ld:Nat->Nat)(row:Nat->Int)(i:Nat)(o:Int)(L:Nat->Int):Prop where
 pos:0<o
 sum:dW F i w λc=>o*row c-L c
 off:∀k,k<i->L (ld k)=0
 least:∀(m:Int) (v:Nat->Int),dW F i w v->(∀k,k<i->m*row (ld k)=v (ld k))->o∣m
def eV.Ur{a:Nat->Nat}{v:Nat->Int}(s:eV F n w a)(i:dW F n w v)(h:∀k,k<n->0<=v (a k)/\v (a k)<g F k (a k))(c:Nat):c<w->v c=0:=by
 induction c using Nat.strongRecOn with
 |ind c f=>
  intro e;rcases s.at i e λd b=>f d b (aa1 b e)with⟨k,hk,rfl,d⟩|q
  . have:=h k hk;show Int.eq_zero_of_dvd_of_natAbs_lt_natAbs d (by lia)
  . show q
structure wZ(F:Rows)(n w:Nat)(ld:Nat->Nat)(row:Nat->Int)(i:Nat)(L:Nat->Int):Prop where
 sum:dW F n w λc=>row c-L c
 red:∀k,k<i->0<=L (ld k)/\L (ld k)<g F k (ld k)
def wZ.start{a:Nat->Nat}{row:Nat->Int}:wZ F n w a row 0 row:=⟨dW.zero λc _=>Int.sub_self _,λ_ h=>absurd h (Ys _)⟩
def wZ.step{d:Nat->Nat}{row L:Nat->Int}(s:eV F n w d)(hi:i<n)(f:wZ F n w d row i L):wZ F n w d row (i+1) λc=>L c-(L (d i)).fdiv (g F i (d i))*g F i c:=by
 obtain⟨o,j,l⟩:=s.lead i hi;show⟨(f.sum.V3 ((L (d i)).fdiv (g F i (d i))) (dW.row hi)).eq λc _=>by lia,λk m=>?_⟩;change 0<=L (d k)-_*g F i (d k)/\L (d k)-_*g F i (d k)<_;rcases Z_ k i with h|h
 . rw[l _ (s.mono k i h hi),XT,Zb];show f.red k h
 . have:k=i:=abK (abl m) h;subst this;let e:=abY (L (d k)) (g F k (d k));let a:=Yq (L (d k)) j;let b:=YF (L (d k)) j;rw[Yz]at e;lia
def wZ.zero{a:Nat->Nat}{row L:Nat->Int}(s:eV F n w a)(f:wZ F n w a row n L):(∀c,c<w->L c=0)↔dW F n w row:=by
 constructor
 . show λh=>f.sum.eq λc b=>by rw[h c b,Zb]
 . show λh=>s.Ur ((h.sub f.sum).eq λc _=>by lia) f.red
def Bi:∀ {n:Nat} {M:Fn},n<=K->(∀r c,r<n->c<n->(M r c).natAbs<=m)->(D n M).natAbs<=(K*m)^n
 |0,_,_,_=>by simp[D]
 |n+1,M,e,h=>by
  rw[c_]
  let d:∀j,j<n+1->(sg j*M 0 j*D n λr c=>M (r+1) (sk j c)).natAbs<=m*(K*m)^n:=λj f=>by
   let a:=Bi (K:=K) (m:=m) (n:=n) (M:=λr c=>M (r+1) (sk j c)) (by lia) λr c i g=>h (r+1) (sk j c) (by lia) (jQ g);let b:=h 0 j (by lia) f;let s:(sg j).natAbs=1:=by unfold sg;split<;>rfl
   rw[Xo,Xo,s,Y6];show XM b a
  show WZ (FZ d) ?_;rw[Za,Y8 ((K*m)^n),ZM];show XW _ e
def pick{t N:Nat}{U B:Fn}(h:∀k l,k<t->l<t->S N (λi=>U k i*B i l)=dl k l):∃I:Nat->Nat,(∀k,k<t->I k<N)/\D t (λk l=>B (I k) l)≠0:=by
 apply Zz;intro no
 let q:∀s,s<=t->∀I:Nat->Nat,(∀k,k<t->s<=k->I k<N)->D t (λk l=>if k<s then dl k l else B (I k) l)=0:=by
  intro s;induction s with
  |zero=>
   intro _ I f;show Zz λz=>no ⟨I,λk b=>f k b (Xq _),z⟩
  |succ s m=>
   intro w I f
   let e:D t (λk l=>if k<s+1 then dl k l else B (I k) l)=D t (upd (λk l=>if k<s then dl k l else B (I k) l) s λl=>S N λj=>U s j*B j l):=a8 λk l b g=>by
    unfold upd;by_cases a:k=s
    . subst a;rw[WY rfl,WY (XC _)];show(h k l b g).symm
    . rw[WW a];change _=if k<s then dl k l else B (I k) l
      by_cases d:k<s
      . rw[WY (by lia),WY d]
      . rw[WW (by lia),WW d]
   rw[e,(jN t).pJ (by lia)];show mm λj p=>?_
   let v:=m (by lia) (λk=>if k=s then j else I k) λk b n=>by
    by_cases a:k=s
    . rw[WY a];show p
    . rw[WW a];show f k b (by lia)
   let u:D t (upd (λk l=>if k<s then dl k l else B (I k) l) s (B j))=D t (λk l=>if k<s then dl k l else B (if k=s then j else I k) l):=a8 λk l b g=>by
    unfold upd;by_cases a:k=s
    . subst a;rw[WY rfl,WW (XU _),WY rfl]
    . rw[WW a,WW a]
   rw[u,v,XT]
 let z:=q t (WX _) (λ_=>0) λk a d=>absurd a (ab3.mpr d);rw[a8 (M':=dl) λr c o x=>WY o,tZ]at z;show absurd z (by decide)
def Ck:∀ {n:Nat} {f:Nat->Int},(∀i,i<n->0<f i)->0<Pr n f
 |0,_,_=>show(0:Int)<1 by decide
 |n+1,f,h=>YE (Ck λi a=>h i (XF a)) (h n (XC n))
def MX:∀ {n:Nat} {f:Nat->Int},(∀i,i<n->0<f i)->∀k,k<n->f k<=Pr n f
 |n+1,f,h,k,hk=>by
  let p:=Ck λi b=>h i (XF b);let q:=h n (XC n);change f k<=Pr n f*f n;by_cases e:k=n
  . subst e;let:=XD (show(1:Int)<=Pr k f from p) (Yn q);lia
  . have a:=MX (λi b=>h i (XF b)) k (by lia);let:=Yo (show(1:Int)<=f n from q) (Yn p);lia
def xj{w x:Int}(a:w≠0)(h:(w*x).natAbs<=m):x.natAbs<=m:=by
 rw[Xo]at h;show WZ (Nat.le_mul_of_pos_left _ (by lia)) h
def iw(F:Rows)(i:Nat):Nat:=(F.getD i []).findIdx (λx=>x != 0)
def xf:∀ {r:Row} {l:Nat},(∀c,c<l->r.getD c 0=0)->r.getD l 0≠0->r.findIdx (λx=>x != 0)=l
 | [],l,_,h=>(h rfl).elim
 |x::r,0,_,h=>by
  let e:(x != 0)=true:=aaX.mpr h;rw[List.findIdx_cons,e];rfl
 |x::r,l+1,a,h=>by
  let b:(x != 0)=false:=bne_eq_false_iff_eq.mpr (a 0 (Nat.zero_lt_succ _));rw[List.findIdx_cons,b,xf (r:=r) (l:=l) (λc d=>a (c+1) (abD d)) h];rfl
def eV.iw{a:Nat->Nat}(s:eV F n w a)(hi:i<n):Mx.iw F i=a i:=by
 obtain⟨_,c,b⟩:=s.lead i hi;show xf b (abC c)
def eV.WN{c:Nat->Nat}(s:eV F n w c):eV F n w (Mx.iw F):=
 ⟨λi b=>by rw[s.iw b];show s.lead i b,λi j h a=>by rw[s.iw a,s.iw (aa1 h a)];show s.mono i j h a⟩
def xI(F:Rows)(L:Row)(i:Nat):Int:=(L.getD (iw F i) 0).fdiv (g F i (iw F i))
def eQ(F:Rows)(r:Row):Nat->Row
 |0=>r
 |i+1=>fS (eQ F r i) (-(xI F (eQ F r i) i)) (F.getD i [])
def qT(F:Rows)(r:Row)(n:Nat):Row:=(List.range n).map λi=>xI F (eQ F r i) i
section
variable {F:Rows}{r:Row}{m w:Nat}(isF:aX m w F)(lr:r.length=w)
include isF lr
theorem pV:∀ {i:Nat},i<=m->(eQ F r i).length=w
 |0,_=>lr
 |i+1,h=>by
  unfold eQ;rw[ka (by rw[pV (by lia),isF.row (by lia)])];show pV (by lia)
theorem Bx(hi:i<m)(c:Nat):(eQ F r (i+1)).getD c 0=(eQ F r i).getD c 0-xI F (eQ F r i) i*g F i c:=by
 conv=>lhs;unfold eQ
 rw[nj (by rw[pV isF lr (by lia),isF.row hi]),Zh];rfl
theorem D_:∀ {i:Nat},i<=m->∀c,r.getD c 0=(eQ F r i).getD c 0+S i λj=>xI F (eQ F r j) j*g F j c
 |0,_,c=>(Y_ _).symm
 |i+1,h,c=>by
  let e:=D_ (i:=i) (by lia) c;rw[Bx isF lr (by lia)];change _=_+(S i _+xI F (eQ F r i) i*g F i c);lia
theorem ET(s:eV F m w (iw F)):∀ {i:Nat},i<=m->wZ F m w (iw F) (λc=>r.getD c 0) i (λc=>(eQ F r i).getD c 0)
 |0,_=>wZ.start
 |i+1,h=>by
  let:=(ET s (i:=i) (by lia)).step s h
  let e:(λc=>(eQ F r (i+1)).getD c 0)=λc=>(eQ F r i).getD c 0-((eQ F r i).getD (iw F i) 0).fdiv (g F i (iw F i))*g F i c:=by
   funext c;rw[Bx isF lr h];rfl
  rw[e];show this
theorem yl{f e:Nat}(s:eV F m w (iw F))(l:∀k c,k<m->c<w->(g F k c).natAbs<=2^f)(j:∀c,c<w->(r.getD c 0).natAbs<=2^e):∀ {i:Nat},i<=m->∀c,c<w->((eQ F r i).getD c 0).natAbs<=2^(e+i*(f+1))
 |0,_,c,a=>by rw[ab8];show j c a
 |i+1,h,c,a=>by
  let d:=yl s l j (i:=i) (by lia);obtain⟨o,n,_⟩:=s.lead i h;let q:=WZ (nP ((eQ F r i).getD (iw F i) 0) n) (d _ o);rw[Bx isF lr h]
  let p:(xI F (eQ F r i) i*g F i c).natAbs<=2^(e+i*(f+1))*2^f:=by
   rw[Xo];show XM q (l i c h a)
  let b:=d c a
  let t:2^(e+(i+1)*(f+1))=2^(e+i*(f+1))*2^f*2:=by
   rw[show e+(i+1)*(f+1)=e+i*(f+1)+f+1 by rw[ab6];lia,Za,YJ]
  let u:2^(e+i*(f+1))<=2^(e+i*(f+1))*2^f:=aax _ (Nat.pow_pos (by decide));rw[t];lia
end
def Ko{N w top e u:Nat}{c:B3}{k:Nat->Nat}(H:wu b N w c top w k e u){r a:Row}(i:a.length=top)(m:∀q,q<w->r.getD q 0=S top λj=>a.getD j 0*g c.A j q)(d:q<w):(S N λn=>(dR a (c.U.take top) (List.replicate N 0)).getD n 0*g b n q)=r.getD q 0:=by
 let T:=H.tn;let f:(c.U.take top).length=top:=by rw[Yu,T.dn.len];show ZU H.le
 let s:∀n,(dR a (c.U.take top) (List.replicate N 0)).getD n 0=S top λj=>a.getD j 0*g c.U j n:=λn=>by
  rw[vU (n:=N) n (by simp) (λr o=>T.dn.fZ r (aai o)) (by rw[f,i]),cZ,aau,f];show aw λj h=>?_;unfold g;rw[aJ (l:=c.U.take top) (by lia),List.getElem_take,aJ (l:=c.U) (by let:=T.dn.len;let:=H.le;lia)]
 let p:(S N λn=>(dR a (c.U.take top) (List.replicate N 0)).getD n 0*g b n q)=S N λn=>S top λj=>a.getD j 0*(g c.U j n*g b n q):=aw λn _=>by
  rw[s,<-kD];show aw λj _=>Yr _ _ _
 rw[p,i6,m q d];show aw λj h=>?_;rw[cT,<-T.ua j q (Xj h H.le) d]
structure g9(A0:Rows)(N w:Nat)(b:B3)(top p:Nat)(ld:Nat->Nat)(e u v:Nat):Prop where
 tn:Tn A0 b.A b.U b.C N w
 le:top<=N
 lo:g6 b.A N top (2^e)/\g6 b.U N top (2^e)/\g6 b.C N top (2^e)
 hi:∀i c,i<top->(g b.A i c).natAbs<=2^u/\(g b.U i c).natAbs<=2^u/\(g b.C i c).natAbs<=2^v
 zs:∀i c,top<=i->i<N->c<p->g b.A i c=0
 lead:∀i,i<top->ld i<p/\0<g b.A i (ld i)/\∀c,c<ld i->g b.A i c=0
 mono:∀i j,i<j->j<top->ld i<ld j
 red:∀i j,i<j->j<top->0<=g b.A i (ld j)/\g b.A i (ld j)<g b.A j (ld j)
def g9.WE{N w top p e u v:Nat}{c:Nat->Nat}(S:g9 a N w b top p c e u v):uL a N w top p (2^e) b b 1:=
 ⟨S.tn,λ_ _=>⟨rfl,rfl,rfl⟩,by rw[aaF];show S.lo.1,by rw[aaF];show S.lo.2.1,by rw[aaF];show S.lo.2.2,S.zs,by rw[Y6];show WX _,WX _,.inl rfl⟩
def g9.skip{N w top p e u v:Nat}{b:B3}{a:Nat->Nat}(S:g9 j N w b top p a e u v)(h:mE b.A N top p []):g9 j N w b top (p+1) a e u v:=
 ⟨S.tn,S.le,S.lo,S.hi,λi c g f l=>by
  by_cases k:c=p
  . subst k;show Zz λz=>absurd ((h.mem i).mpr ⟨g,f,z⟩) (by simp)
  . show S.zs i c g f (by lia),λi d=>⟨XF (S.lead i d).1,(S.lead i d).2⟩,S.mono,S.red⟩
structure mY(A0:Rows)(N w top p e u v:Nat)(b:B3)(k:Nat)(c:B3):Prop where
 tn:Tn A0 c.A c.U c.C N w
 rA:∀i,k<=i->c.A.getD i []=b.A.getD i []/\c.U.getD i []=b.U.getD i []
 rC:∀i,i≠top->c.C.getD i []=b.C.getD i []
 ah:∀i q,i<k->q<p->g c.A i q=g b.A i q
 rd:∀i,i<k->0<=g c.A i p/\g c.A i p<g c.A top p
 sz:∀i q,i<k->(g c.A i q).natAbs<=2^(u+e+1)/\(g c.U i q).natAbs<=2^(u+e+1)
 sC:∀q,(g c.C top q).natAbs<=2^e+k*2^(u+v)
def mY.step{N w top p e u v k:Nat}{b c:B3}(I:mY A N w top p e u v b k c)(s:k<top)(l:top<N)(J:p<w)(n:0<g b.A top p)(C:∀q,q<p->g b.A top q=0)
 (r:∀q,(g b.A top q).natAbs<=2^e/\(g b.U top q).natAbs<=2^e) (f:∀i q,i<top->(g b.A i q).natAbs<=2^u/\(g b.U i q).natAbs<=2^u/\(g b.C i q).natAbs<=2^v):
 mY A N w top p e u v b (k+1) ⟨aQ c.A k ((g c.A k p).fdiv (g c.A top p)) top,aQ c.U k ((g c.A k p).fdiv (g c.A top p)) top,aQ c.C top (-((g c.A k p).fdiv (g c.A top p))) k⟩:=by
 let a:k<N:=by lia
 let m:∀i q,k<=i->g c.A i q=g b.A i q:=λi q d=>by unfold g;rw[(I.rA i d).1]
 let z:∀i q,k<=i->g c.U i q=g b.U i q:=λi q d=>by unfold g;rw[(I.rA i d).2]
 let F:∀i q,i≠top->g c.C i q=g b.C i q:=λi q d=>by unfold g;rw[I.rC i d]
 let t:((g c.A k p).fdiv (g c.A top p)).natAbs<=2^u:=by
  rw[m k p (WX _),m top p (by lia)];show WZ (nP _ n) (f k p s).1
 let y:∀x:Int,x.natAbs<=2^e->((g c.A k p).fdiv (g c.A top p)*x).natAbs<=2^(u+e):=λx D=>by
  rw[Xo,YJ];show XM t D
 let B:2^u<=2^(u+e):=Xd (by decide) (by lia);show⟨I.tn.take a l (by lia),λi d=>?_,λi d=>?_,λi q d o=>?_,λi d=>?_,λi q d=>?_,λq=>?_⟩
 . show⟨(kr (by rw[I.tn.isA.len];show a) (by lia)).trans (I.rA i (by lia)).1,(kr (by rw[I.tn.dn.len];show a) (by lia)).trans (I.rA i (by lia)).2⟩
 . show(kr (by rw[I.tn.dX.len];show l) d).trans (I.rC i d)
 . change g (aQ c.A k _ top) i q=_;rw[fC I.tn.isA a l];split
   . rename_i h;rw[m top q (by lia),C q o,XT,m k q (WX _),h];lia
   . show I.ah i q (by lia) o
 . change 0<=g (aQ c.A k _ top) i p/\g (aQ c.A k _ top) i p<g (aQ c.A k _ top) top p;rw[fC I.tn.isA a l,fC I.tn.isA a l,WW (show¬top=k by lia)];split
   . have E:=abZ (g c.A k p) (g c.A top p);let j:0<g c.A top p:=by rw[m top p (by lia)];show n
     let L:=Yq (g c.A k p) j;let K:=YF (g c.A k p) j;rw[Yz]at E;lia
   . show I.rd i (by lia)
 . change(g (aQ c.A k _ top) i q).natAbs<=_/\(g (aQ c.U k _ top) i q).natAbs<=_;rw[fC I.tn.isA a l,fC I.tn.dn a l];split
   . have H:=y (g c.A top q) (by rw[m top q (by lia)];show(r q).1);let G:=y (g c.U top q) (by rw[z top q (by lia)];show(r q).2);rw[m k q (WX _),z k q (WX _)];let O:=(f k q s).1;let M:=(f k q s).2.1;rw[Za];lia
   . show I.sz i q (by lia)
 . change(g (aQ c.C top _ k) top q).natAbs<=_;rw[fC I.tn.dX l a,WY rfl,F k q (by lia),Zh];let H:=I.sC q
   let G:((g c.A k p).fdiv (g c.A top p)*g b.C k q).natAbs<=2^(u+v):=by
    rw[Xo,YJ];show XM t (f k q s).2.2
   rw[aaj,Y6];lia
def mY.start{N w top p e u v:Nat}{b:B3}(T:Tn a b.A b.U b.C N w)(h:∀q,(g b.C top q).natAbs<=2^e):mY a N w top p e u v b 0 b:=
 ⟨T,λ_ _=>⟨rfl,rfl⟩,λ_ _=>rfl,λ_ _ h=>absurd h (Ys _),λ_ h=>absurd h (Ys _),λ_ _ h=>absurd h (Ys _),λq=>by rw[ab8];show h q⟩
def yC.UQ{N w top p e u v e' u' v':Nat}{b0 b c:B3}{B:Nat->Nat}(S:g9 z N w b0 top p B e u v)(s:yC z N w top p (2^e') b0 b)(y:top<N)(I:mY z N w top p e' u v b top c)(n:N<=8)
 (F:u+e'+1<=u') (K:u+v+4<=v') (J:e'+1<=v'):g9 z N w c (top+1) (p+1) (λi=>if i=top then p else B i) e' u' v':=by
 let k:∀i q,i<top->g b.A i q=g b0.A i q:=λi q f=>by unfold g;rw[(s.up i f).1]
 let r:∀i q,top<=i->g c.A i q=g b.A i q:=λi q f=>by unfold g;rw[(I.rA i f).1]
 let D:∀i q,top<=i->g c.U i q=g b.U i q:=λi q f=>by unfold g;rw[(I.rA i f).2]
 let E:∀i q,i≠top->g c.C i q=g b.C i q:=λi q f=>by unfold g;rw[I.rC i f]
 let t:∀ {a x:Nat},a<=2^x->x<=u'->a<=2^u':=λh G=>WZ h (Xd (by decide) G);show⟨I.tn,y,⟨λi q f n=>?_,λi q f n=>?_,λi q f n=>?_⟩,λi q f=>?_,λi q f n o=>?_,λi f=>?_,λi j m H=>?_,λi j m H=>?_⟩
 . rw[r i q (by lia)];show s.lo.1 i q (by lia) n
 . rw[D i q (by lia)];show s.lo.2.1 i q (by lia) n
 . rw[E i q (by lia)];show s.lo.2.2 i q (by lia) n
 . by_cases h:i=top
   . subst h;show⟨?_,?_,?_⟩
     . rw[r i q (WX _)];show t (s.lo.1 i q (WX _) y) (by lia)
     . rw[D i q (WX _)];show t (s.lo.2.1 i q (WX _) y) (by lia)
     . have R:=I.sC q;let Q:i*2^(u+v)<=2^(u+v+3):=by rw[YJ _ _ 3,Y8];show ZJ _ (by lia)
       let P:2^(u+v+3)*2<=2^v':=by rw[<-Za];show Xd (by decide) K
       let O:2^e'*2<=2^v':=by rw[<-Za];show Xd (by decide) J
       lia
   . have d:i<top:=by lia
     show⟨t (I.sz i q d).1 F,t (I.sz i q d).2 F,?_⟩;rw[E i q h];let:g b.C i q=g b0.C i q:=by unfold g;rw[(s.up i d).2.2]
     rw[this];show WZ (S.hi i q d).2.2 (Xd (by decide) (by lia))
 . rw[r i q (by lia)];by_cases h:q=p
   . rw[h];show s.z1 i (by lia) n
   . show s.zs i q (by lia) n (by lia)
 . by_cases h:i=top
   . subst h;rw[WY rfl];show⟨XC p,?_,λq o=>?_⟩
     . rw[r i p (WX _)];show s.tp
     . rw[r i q (WX _)];show s.zs i q (WX _) y o
   . have d:i<top:=by lia
     rw[WW h];obtain⟨A,M,L⟩:=S.lead i d;show⟨XF A,?_,λq o=>?_⟩
     . rw[I.ah i _ d A,k i _ d];show M
     . rw[I.ah i _ d (aa1 o A),k i _ d];show L q o
 . by_cases h:j=top
   . rw[WY h,WW (by lia)];show(S.lead i (by lia)).1
   . rw[WW h,WW (by lia)];show S.mono i j m (by lia)
 . by_cases h:j=top
   . subst h;rw[WY rfl];show I.rd i m
   . have l:j<top:=by lia
     rw[WW h];let:=S.red i j m l;let C:=(S.lead j l).1;rw[I.ah i _ (by lia) C,I.ah j _ l C,k i _ (by lia),k j _ l];show this
def g9.start{N w e:Nat}(a:aX N w A)(h:g6 A N 0 (2^e)):g9 A N w ⟨A,units N,units N⟩ 0 0 (λ_=>0) e 0 0:=by
 let S:=wu.start a h;show⟨S.tn,S.le,S.lo,S.hi,S.zs,S.lead,S.mono,S.red⟩
def g9.Ve{N w top p e u v:Nat}{d:Nat->Nat}(S:g9 f N w b top p d e u v):wu f N w b top p d e (u+v):=
 ⟨S.tn,S.le,S.lo,λi c a=>⟨WZ (S.hi i c a).1 (Xd (by decide) (by lia)),WZ (S.hi i c a).2.1 (Xd (by decide) (by lia)),WZ (S.hi i c a).2.2 (Xd (by decide) (by lia))⟩,S.zs,S.lead,S.mono,S.red⟩
def g9.Cp{N w top p e u v:Nat}{a:Nat->Nat}(S:g9 f N w b top p a e u v):top<=p:=by
 let d:∀i,i<top->i<=a i:=λi=>by
  induction i with
  |zero=>intro _;show Xq _
  |succ i c=>
   intro h;let:=c (by lia);let:=S.mono i (i+1) (by lia) h;lia
 rcases Nat.eq_zero_or_pos top with z|z
 . lia
 . have j:=d (top-1) (by lia);let g:=(S.lead (top-1) (by lia)).1;lia
def Uz(N a:Nat):Nat->Nat
 |0=>0
 |t+1=>Uz N a t+Ez N a (t+1)+1
def Cz(N a:Nat):Nat->Nat
 |0=>0
 |t+1=>Uz N a t+Cz N a t+Ez N a (t+1)+4
def Rm(N w a:Nat):Prop:=∀t,t<N->t<w->Ez N a (t+1)<60000000/\Uz N a t+Ez N a (t+1)<=120000000/\Uz N a t+Cz N a t<=120000000
def Hg{A F U B:Fn}{N w t b:Nat}{a:Nat->Nat}(Q:t<=8)(b1:1<=b)(J:∀i c,i<N->c<w->(A i c).natAbs<=b)(o:∀i c,i<N->c<w->A i c=S t λk=>B i k*F k c)(H:∀k l,k<t->l<t->S N (λi=>U k i*B i l)=dl k l)(lead:∀i,i<t->a i<w/\0<F i (a i)/\∀c,c<a i->F i c=0)(mono:∀i j,i<j->j<t->a i<a j)(C:∀i j,i<j->j<t->0<=F i (a j)/\F i (a j)<F j (a j)):
 Pr t (λi=>F i (a i))<=((9*b)^t:Nat)/\∀k c,k<t->c<w->(F k c).natAbs<=8*((9*b)^(t+1)*(9*b)^t):=by
 obtain⟨I,u,L⟩:=pick H;let M:D t (λk l=>F k (a l))=Pr t λi=>F i (a i):=VC λr c m s h=>(lead r m).2.2 _ (mono c r h m);let E:0<Pr t λi=>F i (a i):=Ck λi y=>(lead i y).2.1
 let X:D t (λk l=>A (I k) (a l))=D t (λk l=>B (I k) l)*D t λk l=>F k (a l):=by
  rw[<-xa];show a8 λk l n g=>o _ _ (u k n) (lead l g).1
 let P:(D t (λk l=>A (I k) (a l))).natAbs<=(9*b)^t:=Bi (K:=9) (by lia) λr c m s=>J _ _ (u r m) (lead c s).1;rw[X,M]at P;let bP:(Pr t λi=>F i (a i)).natAbs<=(9*b)^t:=xj L P;show⟨by lia,λk c n s=>?_⟩
 let bF:∀l,l<t->(F k (a l)).natAbs<=(9*b)^t:=λl g=>by
  let p:=MX (f:=λi=>F i (a i)) (λi y=>(lead i y).2.1) l g;rcases Nat.lt_trichotomy k l with h|h|h
  . have:=C k l h g;let R:F l (a l)<=Pr t λi=>F i (a i):=p;lia
  . subst h;let q:=(lead k n).2.1;let R:F k (a k)<=Pr t λi=>F i (a i):=p;lia
  . rw[(lead k n).2.2 _ (mono l k h n)];show Xq _
 let O:=FN (λl k=>F k (a l)) t (λk=>F k c) k;rw[Cm n]at O;let W:D t (λl k=>F k (a l))=Pr t λi=>F i (a i):=by rw[<-M];show mM t λk l=>F k (a l)
 rw[W]at O
 let bB:∀l,l<t->(D t (λk l=>B (I k) l)*bt (λl k=>F k (a l)) t (λk=>F k c) l).natAbs<=(9*b)^(t+1):=λl g=>by
  let V:D (t+1) (λi k=>if i=t then dl t k else if k=t then 0 else B (I i) k)=D t λk l=>B (I k) l:=by
   rw[rS λc _=>WY rfl];show a8 λr c m s=>by rw[WW (by lia),WW (by lia)]
  let T:D (t+1) (upd (λi r=>if r<t then A (I i) (a r)else A (I i) c) t (dl l))=D t (λk l=>B (I k) l)*bt (λl k=>F k (a l)) t (λk=>F k c) l:=by
   unfold bt;rw[<-V,<-xa];show a8 λi r y m=>?_;by_cases h:i=t
   . subst h;rw[bR];let:(S (i+1) λk=>(if i=i then dl i k else if k=i then 0 else B (I i) k)*upd (λd r=>if r<i then F d (a r)else F d c) i (dl l) k r)=S (i+1) λk=>dl i k*upd (λd r=>if r<i then F d (a r)else F d c) i (dl l) k r:=aw λk _=>by rw[WY rfl]
     rw[this,gO (XC i),bR]
   . have x:i<t:=by lia
     rw[aB h];change _=(S t λk=>(if i=t then dl t k else if k=t then 0 else B (I i) k)*upd (λd r=>if r<t then F d (a r)else F d c) t (dl l) k r)+(if i=t then dl t t else if t=t then 0 else B (I i) t)*upd (λd r=>if r<t then F d (a r)else F d c) t (dl l) t r;let z:(if i=t then dl t t else if t=t then 0 else B (I i) t)*upd (λd r=>if r<t then F d (a r)else F d c) t (dl l) t r=0:=by rw[WW h,WY rfl,ZG]
     rw[z,Y_]
     let Y:∀k,k<t->(if i=t then dl t k else if k=t then 0 else B (I i) k)*upd (λd r=>if r<t then F d (a r)else F d c) t (dl l) k r=B (I i) k*(if r<t then F k (a r)else F k c):=λk n=>by
      rw[WW h,WW (by lia),aB (by lia)]
     rw[aw Y];by_cases e:r<t
     . rw[WY e,o _ _ (u i x) (lead r e).1];show aw λk _=>by rw[WY e]
     . rw[WW e,o _ _ (u i x) s];show aw λk _=>by rw[WW e]
  rw[<-T];show Bi (K:=9) (by lia) λr q m hq=>?_;by_cases h:r=t
  . subst h;rw[bR];unfold dl;split<;>lia
  . rw[aB h];let v:r<t:=by lia
    split
    . rename_i G;show J _ _ (u r v) (lead q G).1
    . show J _ _ (u r v) s
 let Z:D t (λk l=>B (I k) l)*(Pr t λi=>F i (a i))*F k c= -S t λl=>(D t (λk l=>B (I k) l)*bt (λl k=>F k (a l)) t (λk=>F k c) l)*F k (a l):=by
  let:(S t λl=>(D t (λk l=>B (I k) l)*bt (λl k=>F k (a l)) t (λk=>F k c) l)*F k (a l))=D t (λk l=>B (I k) l)*S t λl=>bt (λl k=>F k (a l)) t (λk=>F k c) l*F k (a l):=by
   rw[<-cT];show aw λl _=>Yr _ _ _
  rw[this,Yr,<-Int.mul_neg];congr 1;lia
 show xj (w:=D t (λk l=>B (I k) l)*(Pr t λi=>F i (a i))) (YO L (abC E)) ?_;rw[Z,YI];show WZ (FZ λl g=>?_) (XW _ Q);rw[Xo];show XM (bB l g) (bF l g)
def PX{j:Nat->Nat}(t:m<=8)(G:1<=b)(u:∀i c,i<N->c<w->(g A i c).natAbs<=b)(st:eV F m w j)(d:QD F m j)(same:um A N F m w):∀k c,k<m->c<w->(g F k c).natAbs<=8*((9*b)^(m+1)*(9*b)^m):=by
 let r:∀i,∃z:Nat->Int,i<N->∀c,c<w->g A i c=S m λk=>z k*g F k c:=λi=>by
  by_cases h:i<N
  . obtain⟨z,e⟩:=same.to i h;show⟨z,λ_=>e⟩
  . show⟨λ_=>0,λz=>absurd z h⟩
 let p:∀k,∃z:Nat->Int,k<m->∀c,c<w->g F k c=S N λi=>z i*g A i c:=λk=>by
  by_cases h:k<m
  . obtain⟨z,e⟩:=same.of k h;show⟨z,λ_=>e⟩
  . show⟨λ_=>0,λz=>absurd z h⟩
 letI B:Fn:=λi=>Classical.choose (r i)
 letI U:Fn:=λk=>Classical.choose (p k)
 let s:∀i,i<N->∀c,c<w->g A i c=S m λk=>B i k*g F k c:=λi=>aaS (r i);let y:∀k,k<m->∀c,c<w->g F k c=S N λi=>U k i*g A i c:=λk=>aaS (p k);show(Hg (A:=g A) (F:=g F) (U:=U) (B:=B) t G u (λi c f a=>s i f c a) (λk l o n=>?_) st.lead st.mono d).2
 let E:∀c,c<w->S m (λl=>(S N λi=>U k i*B i l)*g F l c)=g F k c:=λc a=>by
  rw[y k o c a]
  let:(S N λi=>U k i*g A i c)=S N λi=>S m λl=>U k i*B i l*g F l c:=aw λi f=>by
   rw[s i f c a,<-cT];show aw λl _=>(Yr _ _ _).symm
  rw[this,i6];show aw λl _=>(kD _ _ _).symm
 let D:∀c,c<w->(0:Int)=S m λl=>((S N λi=>U k i*B i l)-dl k l)*g F l c:=λc a=>by
  let x:(S m λl=>((S N λi=>U k i*B i l)-dl k l)*g F l c)=S m (λl=>(S N λi=>U k i*B i l)*g F l c)-S m λl=>dl k l*g F l c:=by
   rw[ZT,<-xt,<-iR];show aw λl _=>by rw[Int.sub_mul,ZT]
  rw[x,E c a,gO o,Int.sub_self]
 let C:=st.gone (v:=λ_=>0) (z:=λl=>(S N λi=>U k i*B i l)-dl k l) (q:=w) D (λ_ _=>rfl) l n (st.lead l n).1;let H:(S N λi=>U k i*B i l)-dl k l=0:=C;lia
end Mx
set_option exponentiation.threshold 100
namespace Mx
def p2(h:a<=b):(2:Int)^a<=2^b:=by
 let:=Xd (n:=2) (by decide) h;let c:((2^a:Nat):Int)<=((2^b:Nat):Int):=aaa.mpr this;rw[Yt,Yt]at c;show c
def oS(a:Nat):(0:Int)<2^a:=aal (by decide)
structure Lg(A0 A U C:Rows)(N w:Nat)(m:Nat->Nat):Prop where
 T:Tn A0 A U C N w
 D:∀p,p<=N->0<D p (ae A)/\D p (ae A)<=2^744
 len:∀i,i<N->ae A i i<=2^m i
variable {A0 A U C:Rows}{N w:Nat}{m:Nat->Nat}
def Lg.ne(L:Lg A0 A U C N w m):∀k,k<=N->Mx.D k (ae A)≠0:=λk a=>by let:=(L.D k a).1;lia
def Lg.mono(L:Lg A0 A U C N w m){a:Nat->Nat}(h:∀i,i<N->m i<=a i):Lg A0 A U C N w a:=⟨L.T,L.D,λi b=>Xs (L.len i b) (p2 (h i b))⟩
def Lg.Vb(L:Lg A0 A U C N w m)(hi:i<N)(b:p<N):lam (ae A) i p*lam (ae A) i p<=2^(1488+m i):=by
 let h:=Se L.T.isA L.ne hi b;let j:=L.D p (by lia);let g:=L.D (p+1) (by lia);let f:=L.len i hi;let d:=eS L.T.isA hi;let c:Mx.D p (ae A)*Mx.D (p+1) (ae A)<=2^744*2^744:=YV j.2 g.2 (by lia) (Yn (oS _));let a:Mx.D p (ae A)*Mx.D (p+1) (ae A)*ae A i i<=2^744*2^744*2^m i:=YV c f d (Yn (YE (oS _) (oS _)));let e:(2:Int)^744*2^744*2^m i=2^(1488+m i):=by rw[<-ZA,<-ZA]
 rw[e]at a;show Xs h a
def GW{x:Int}(h:x*x<=2^(b+b)):x.natAbs<=2^b:=by
 show oF (m:=2^b) (a:=2^b) (b:=2^b) (by rw[<-ZA];show h) (Yn (oS _)) (Yn (oS _)) ?_ ?_<;>(rw[Yt];show aaE _)
def Lg.SI(L:Lg A0 A U C N w m)(hi:i<N)(a:p<N)(h:m i<=37000):(lam (ae A) i p).natAbs<=2^40000:=GW (Xs (L.Vb hi a) (p2 (by lia)))
def Lg.ent(L:Lg A0 A U C N w m)(h:∀i,i<N->m i<=37000):∀r∈A,∀x∈r,x.natAbs<=2^400000:=λr j x o=>by
 obtain⟨i,p,e⟩:=Xp.mp j;let v:=L.T.isA.len;let a:i<N:=by lia
 let u:A.getD i []=r:=by rw[aJ p,e]
 let k:=L.len i a;obtain⟨c,q,t⟩:=Xp.mp o;let d:c<w:=by let:=L.T.isA.fZ r j;lia
 rw[fv L.T.isA a a,u]at k
 let s:x*x<=S w λc=>r.getD c 0*r.getD c 0:=by
  let b:∀n,c<n->x*x<=S n λc=>r.getD c 0*r.getD c 0:=λn=>by
   induction n with
   |zero=>intro h;lia
   |succ n l=>
    intro h;change x*x<=S n (λc=>r.getD c 0*r.getD c 0)+r.getD n 0*r.getD n 0;by_cases g:c=n
    . subst g;rw[aJ q,t];let:=nN (n:=c) (f:=λc=>r.getD c 0*r.getD c 0) λi _=>sq_nonneg _;lia
    . have:=l (by lia);let y:=sq_nonneg (r.getD n 0);lia
  show b w d
 show GW (Xs s (Xs k (p2 (by let:=h i a;lia))))
def Lg.turn(L:Lg A0 A U C N w m)(u:aX N w A0)(t:N<=8)(l:Mx.D N (ae A0)≠0)(v:∀i,i<N->ae A0 i i<=2^37000)(h:∀i,i<N->m i<=37000):(∀r∈U,∀x∈r,x.natAbs<=2^400000)/\∀r∈C,∀x∈r,x.natAbs<=2^400000:=by
 let b:(8*2^37000)^N<=2^400000:=by
  let e:8*2^37000=2^37003:=by rw[show 37003=3+37000 from rfl,YJ]
  rw[e,<-aak];show Xd (by decide) (by lia)
 let d:∀i j,i<N->j<N->(g U i j).natAbs<=2^400000/\(g C i j).natAbs<=2^400000:=λi j a f=>by
  let:=L.T.abs (m:=2^37000) u t l (L.ne N (WX _)) (λi a=>by rw[Yt];show v i a) (λi a=>by rw[Yt];show Xs (L.len i a) (p2 (h i a))) a f;show⟨WZ this.1 b,WZ this.2 b⟩
 let k:∀ {B:Rows},aX N N B->(∀i j,i<N->j<N->(g B i j).natAbs<=2^400000)->∀r∈B,∀x∈r,x.natAbs<=2^400000:=λ{B} o s r n x p=>by
  obtain⟨i,a,e⟩:=Xp.mp n;obtain⟨c,q,y⟩:=Xp.mp p;let D:=o.len;let z:=o.fZ r n;let:=s i c (by lia) (by lia);unfold g at this;rw[aJ a,e,aJ q,y]at this;show this
 show⟨k L.T.dn λi j a f=>(d i j a f).1,k L.T.dX λi j a f=>(d i j a f).2⟩
def Lg.take(L:Lg A0 A U C N w m){k j:Nat}(g:j<k)(c:k<N)(f:q*q<=2^(1488+m k))(b:m j<=748):Lg A0 (aQ A k q j) (aQ U k q j) (aQ C j (-q) k) N w λi=>if i=k then m k+2240 else m i where
 T:=L.T.take c (by lia) (by lia)
 D:=λp d=>by rw[wq L.T.isA g c d];show L.D p d
 len:=λi a=>by
  by_cases h:i=k
  . subst h;rw[WY rfl];let x:=Hk (q:=q) L.T.isA a (show j<N by lia) (by lia);let v:=L.len i a;let s:=Xs (L.len j (by lia)) (p2 b);let r:=eS L.T.isA (i:=j) (by lia);let o:q*q*ae A j j<=2^(1488+m i)*2^748:=YV f s r (Yn (oS _));rw[<-ZA]at o;let u:=p2 (show m i<=1488+m i+748 by lia);let n:(2:Int)^(m i+2240)=2^(1488+m i+748)*2^4:=by rw[<-ZA];congr 1;lia
    let l:(2:Int)^4=16:=by decide
    rw[n,l];let t:=oS (1488+m i+748);lia
  . rw[WW h]
    let e:ae (aQ A k q j) i i=ae A i i:=by
     rw[si L.T.isA c (by lia) (by lia) a a];unfold tk sR p8;rw[WW h,WW h]
    rw[e];show L.len i a
def Lg.swap(L:Lg A0 A U C N w m)(a:t+1<N)(c:0<lam (b_ (ae A) t) t t/\lam (b_ (ae A) t) t t<=2^744):Lg A0 (aR A (t+1) t) (aR U (t+1) t) (aR C (t+1) t) N w λi=>m (sw t (t+1) i) where
 T:=L.T.swap a
 D:=λp b=>by
  rw[ma (by let:=L.T.isA.len;lia)];by_cases h:p=t+1
  . subst h;rw[<-cH];show c
  . rw[m4 h];show L.D p b
 len:=λi d=>by
  rw[ma (by let:=L.T.isA.len;lia)];show L.len _ (sM a d)
end Mx
set_option exponentiation.threshold 100
namespace Mx
def yA{f:Nat->Int}:∀n,(∀i,i<n->0<f i)->0<Pr n f
 |0,_=>by change(0:Int)<1;decide
 |n+1,h=>YE (yA n λi a=>h i (by lia)) (h n (by lia))
def Ng{f h:Nat->Int}:∀n,t<n->(∀i,i<n->0<f i)->(∀i,i<n->0<h i)->(∀i,i<n->i≠t->h i=f i)->h t<f t->Pr n h<Pr n f
 |0,l,_,_,_,_=>by lia
 |n+1,l,d,o,g,j=>by
  change Pr n h*h n<Pr n f*f n;by_cases b:t=n
  . subst b
    let e:Pr t h=Pr t f:=by
     let a:∀m,m<=t->Pr m h=Pr m f:=λm=>by
      induction m with
      |zero=>intro _;rfl
      |succ m k=>intro p;change Pr m h*h m=Pr m f*f m;rw[k (by lia),g m (by lia) (by lia)]
     show a t (WX _)
    rw[e];show Zu j (yA t λi c=>d i (by lia))
  . rw[g n (by lia) (by lia)];show Int.mul_lt_mul_of_pos_right (Ng n (by lia) (λi c=>d i (by lia)) (λi c=>o i (by lia)) (λi c=>g i (by lia)) j) (d n (by lia))
def Nn{f h:Nat->Int}:∀n,(∀i,i<n->h i=f i)->Pr n h=Pr n f
 |0,_=>rfl
 |n+1,a=>by change Pr n h*h n=Pr n f*f n;rw[Nn n λi b=>a i (by lia),a n (by lia)]
def jo(A:Rows)(t:Nat):Prop:=4*(D (t+2) (ae A)*D t (ae A)+lam (ae A) (t+1) t*lam (ae A) (t+1) t)<3*D (t+1) (ae A)*D (t+1) (ae A)
variable {A0 A U C:Rows}{N w:Nat}{m:Nat->Nat}
def w9(L:Lg A0 A U C N w m)(f:t+1<N)(h:jo A t):0<lam (b_ (ae A) t) t t/\lam (b_ (ae A) t) t t<D (t+1) (ae A):=by
 let c:=(L.D t (by lia)).1;let b:=(L.D (t+1) (by lia)).1;let p2:=(L.D (t+2) (by lia)).1;let e:=pG (t:=t) (jf A) (by lia);let j:=YE c p2;let i:=sq_nonneg (lam (ae A) (t+1) t);unfold jo at h;rw[Yz (D (t+2) (ae A))]at h;constructor
 . have:0<D (t+1) (ae A)*lam (b_ (ae A) t) t t:=by rw[e];lia
   show Int.pos_of_mul_pos_left (by rw[Yz];show this) b
 . show Y5 (a:=D (t+1) (ae A)) ?_ (by lia);rw[e];let g:=YE b b;let d:3*D (t+1) (ae A)*D (t+1) (ae A)=3*(D (t+1) (ae A)*D (t+1) (ae A)):=by grind
   rw[d]at h;lia
def mk(N k:Nat):Nat->Nat:=λi=>if i=k then 748+2240*(N-k)else 748
structure Lk(A0 A U C:Rows)(N w k:Nat):Prop where
 L:Lg A0 A U C N w (mk N k)
 red:∀i,i<k->i<N->∀j,j<i->2*(((lam (ae A) i j).natAbs:Nat):Int)<=D (j+1) (ae A)
 flat:∀t,t+1<k->t+1<N->¬jo A t
def qU(A:Rows)(N:Nat):Int:=Pr N λp=>D (p+1) (ae A)
def Cw{k j:Nat}(c:aX N w A)(b:j<k)(a:k<N):qU (aQ A k q j) N=qU A N:=Nn N λp d=>wq c b a (by lia)
def J_(L:Lg A0 A U C N w m)(d:t+1<N)(h:jo A t):qU (aR A (t+1) t) N<qU A N:=by
 let g:=L.T.isA.len;let b:=w9 L d h
 let e:∀p,D p (ae (aR A (t+1) t))=if p=t+1 then lam (b_ (ae A) t) t t else D p (ae A):=λp=>by
  rw[ma (by lia)];by_cases a:p=t+1
  . rw[WY a,a,cH]
  . rw[WW a,m4 a]
 show Ng (t:=t) N (by lia) (λi c=>(L.D (i+1) (by lia)).1) (λi c=>?_) (λi c f=>?_) ?_
 . rw[e];split
   . show b.1
   . show(L.D (i+1) (by lia)).1
 . rw[e,WW (by lia)]
 . rw[e,WY rfl];show b.2
def OK(L:Lg A0 A U C N w m):0<qU A N:=yA N λi a=>(L.D (i+1) (by lia)).1
def CH(c:aX N w A){k j:Nat}(b:j<k)(a:k<N):lam (ae (aQ A k q j)) k j=lam (ae A) k j-q*D (j+1) (ae A):=by
 rw[la c b a a (by lia),WY rfl,cH]
def Ey(e:aX N w A){k j p:Nat}(d:j<k)(b:k<N)(c:j<p)(a:p<=k):lam (ae (aQ A k q j)) k p=lam (ae A) k p:=by
 rw[la e d b b a,WY rfl,wb c,XT,Zb]
def CJ(e:aX N w A){k j i p:Nat}(d:j<k)(c:k<N)(hi:i<N)(a:i≠k)(b:p<=i):lam (ae (aQ A k q j)) i p=lam (ae A) i p:=by
 rw[la e d c hi b,WW a,Zb]
def Qa(L:Lg A0 A U C N w m){k j:Nat}(c:k<N)(d:j<N):((2*lam (ae A) k j+D (j+1) (ae A)).fdiv (2*D (j+1) (ae A)))*((2*lam (ae A) k j+D (j+1) (ae A)).fdiv (2*D (j+1) (ae A)))<=2^(1488+m k):=by
 let b:=(Co (t:=lam (ae A) k j) (L.D (j+1) (by lia)).1).2;let a:=L.Vb c d;generalize(2*lam (ae A) k j+D (j+1) (ae A)).fdiv (2*D (j+1) (ae A))=q at*;let f:q*q=((q.natAbs:Nat):Int)*((q.natAbs:Nat):Int):=(aah _).symm;let e:lam (ae A) k j*lam (ae A) k j=(((lam (ae A) k j).natAbs:Nat):Int)*(((lam (ae A) k j).natAbs:Nat):Int):=(aah _).symm;rw[f];rw[e]at a;show Xs (YV b b (by lia) (by lia)) a
end Mx
set_option exponentiation.threshold 100
namespace Mx
def pS(hi:i<n)(a:j<n):g (units n) i j=dl i j:=by
 unfold g units fK;rw[aJ (l:=(List.range n).map _) (by simpa using hi),Xx,XG,aJ (by simpa using a),Xx,XG];show ni _ _
def Tn.refl(f:aX N w A):Tn A A (units N) (units N) N w where
 isA:=f
 dn:=fW N
 dX:=fW N
 ua:=λi c a h=>by
  let e:S N (λk=>g (units N) i k*g A k c)=S N λk=>dl i k*g A k c:=aw λk b=>by rw[pS a b]
  rw[e,gO a]
 ub:=λi j a d=>by
  let e:S N (λk=>g (units N) i k*g (units N) j k)=S N λk=>dl i k*dl j k:=aw λk b=>by rw[pS a b,pS d b]
  rw[e,gO a];show ni _ _
 bu:=λi j a d=>by
  let e:S N (λk=>g (units N) k i*g (units N) k j)=S N λk=>dl i k*dl k j:=aw λk b=>by rw[pS b a,pS b d,ni k i]
  rw[e,gO a]
def Lk.start(c:aX N w A)(f:∀k,k<=N->D k (ae A)≠0)(e:∀k,k<=N->D k (ae A)<=2^744)(d:∀i,i<N->ae A i i<=2^748):Lk A A (units N) (units N) N w 1 where
 L:=⟨Tn.refl c,λp a=>⟨jU c f p a,e p a⟩,λi b=>Xs (d i b) (p2 (by unfold Mx.mk;split<;>lia))⟩
 red:=λi b _ j h=>by lia
 flat:=λt g=>by lia
end Mx
set_option exponentiation.threshold 100
namespace Mx
section
variable {A:Rows}{N w:Nat}
def Sh.two(h:Sh (ae A) N)(f:0<i)(hi:i<N):D i (ae A)*D i (ae A)<=2*D (i+1) (ae A)*D (i-1) (ae A):=by
 let a:=h.half i (i-1) (by lia) hi;let b:=h.Fz i f hi;rw[show i-1+1=i by lia]at a;generalize lam (ae A) i (i-1)=l at*;generalize D i (ae A)=d at*;generalize D (i+1) (ae A)=p at*;generalize D (i-1) (ae A)=q at*
 let c:4*l*l<=d*d:=by
  let j:2*(l.natAbs:Int)*(2*(l.natAbs:Int))<=d*d:=YV a a (by lia) (by lia);let g:(l.natAbs:Int)*(l.natAbs:Int)=l*l:=by rw[<-Zc,aa5]
  grind
 let e:3*d*d=3*(d*d):=by grind
 let k:4*p*q=2*(2*p*q):=by grind
 lia
variable (hA:aX N w A)(hD:∀k,k<=N->D k (ae A)≠0)(h2:∀i,0<i->i<N->D i (ae A)*D i (ae A)<=2*D (i+1) (ae A)*D (i-1) (ae A))
include hA hD h2
end
section
variable {A B U C:Rows}{N w:Nat}
def Tn.unit(T:Tn A B U C N w):D N (g U)*D N (g U)=1:=by
 let a:D N (λr c=>S N λk=>g U r k*(tr (g C)) k c)=D N dl:=a8 λr c d e=>T.ub r c d e;rw[xa,tZ,mM]at a;generalize D N (g U)=x at*;generalize D N (g C)=y at*;let:x.natAbs*y.natAbs=1:=by rw[<-Xo,a];rfl
 let b:x.natAbs=1:=Nat.eq_one_of_mul_eq_one_right this;rcases Int.natAbs_eq x with h|h<;>rw[b]at h<;>subst h<;>rfl
def Tn.same(T:Tn A B U C N w)(i:aX N w A):D N (ae B)=D N (ae A):=by
 let e:D N (ae B)=D N λr c=>S N λk=>g U r k*(λk c=>S N λl=>ae A k l*tr (g U) l c) k c:=a8 λr c b d=>by
  rw[fv T.isA b d]
  let j:S w (λx=>(B.getD r []).getD x 0*(B.getD c []).getD x 0)=S w λx=>S N λk=>S N λl=>g U r k*(g A k x*g A l x)*g U c l:=aw λx a=>by
   change g B r x*g B c x=_;rw[T.ua r x b a,T.ua c x d a,<-kD];show aw λk _=>?_;rw[<-cT];show aw λl _=>by grind
  rw[j,i6];show aw λk h=>?_;rw[i6,<-cT];show aw λl f=>?_;rw[fv i h f,kD,cT,Yr];rfl
 rw[e,xa,xa,mM];let u:=T.unit;generalize D N (g U)=x at*;generalize D N (ae A)=y at*;let:x*(y*x)=(x*x)*y:=by grind
 rw[this,u,Yg]
end
end Mx
set_option exponentiation.threshold 100
namespace Mx
section
variable {A:Rows}{N w:Nat}
def C6(c:aX N w A)(b:∀k,k<=N->D k (ae A)≠0)(h:Sh (ae A) N):∀j t,t+j+1=N->D (t+1) (ae A)<=2^j*D N (ae A)*D t (ae A)
 |0,t,e=>by
  let p:=jU c b t (by lia);let q:=jU c b N (WX N);rw[e,Int.pow_zero,Yg];let:=Yo (show(1:Int)<=D t (ae A)from p) (Yn q);lia
 |j+1,t,e=>by
  let l:=C6 c b h j (t+1) (by lia);let a:=h.two (i:=t+1) (by lia) (by lia);rw[show t+1-1=t by lia]at a;let n:=jU c b t (by lia);let g:=jU c b (t+1) (by lia);rw[ZH];generalize D (t+1+1) (ae A)=d2 at*;generalize D (t+1) (ae A)=d1 at*;generalize D t (ae A)=d0 at*;let f:2*d2<=2*(2^j*D N (ae A)*d1):=Yo l (by decide);let m:2*d2*d0<=2*(2^j*D N (ae A)*d1)*d0:=XD f (by lia)
  let d:d1*d1<=(2^j*2*D N (ae A)*d0)*d1:=by
   let:2*(2^j*D N (ae A)*d1)*d0=(2^j*2*D N (ae A)*d0)*d1:=by grind
   lia
  show abf d g
def Ec(d:aX N w A)(a:∀k,k<=N->D k (ae A)≠0)(h:Sh (ae A) N)(c:∀t,t<N->D (t+1) (ae A)<=b*D t (ae A))(hi:i<N):∀j p,p+j=i->gx (ae A) p (ae A i) i<=D p (ae A)*(((j+1:Nat):Int)*b)
 |0,p,e=>by
  let s:p=i:=by lia
  subst s;rw[kl];let:=c p hi
  let E:D p (ae A)*(((0+1:Nat):Int)*b)=b*D p (ae A):=by
   rw[show((0+1:Nat):Int)=1 from rfl,Yg,Yz]
  lia
 |j+1,p,e=>by
  let o:=Ec d a h c hi j (p+1) (by lia);let n:=iD (R:=ae A) (p:=p) (a p (by lia)) (ae A i) i;let f:=mw (jf A) p p i;let q:=h.half i p (by lia) hi;let x:=jU d a p (by lia);let m:=jU d a (p+1) (by lia);let r:=c p (by lia);rw[f]at n;unfold lam at q;generalize gx (ae A) p (ae A i) p=l at*;generalize gx (ae A) (p+1) (ae A i) i=g1 at*;generalize gx (ae A) p (ae A i) i=g0 at*;generalize D (p+1) (ae A)=d1 at*;generalize D p (ae A)=d0 at*
  let y:l*l<=d1*d1:=by
   let B:(l.natAbs:Int)*(l.natAbs:Int)<=d1*d1:=YV (by lia) (by lia) (by lia) (by lia);let z:(l.natAbs:Int)*(l.natAbs:Int)=l*l:=by rw[<-Zc,aa5]
   lia
  let v:d0*g1<=d0*(d1*(((j+1:Nat):Int)*b)):=Yo o (by lia)
  let g:g0*d1<=(d0*(((j+1:Nat):Int)*b)+d1)*d1:=by
   let:(d0*(((j+1:Nat):Int)*b)+d1)*d1=d0*(d1*(((j+1:Nat):Int)*b))+d1*d1:=by grind
   let:d1*g0=g0*d1:=Yz _ _;lia
  let u:=abf g m
  let C:d0*(((j+1+1:Nat):Int)*b)=d0*(((j+1:Nat):Int)*b)+b*d0:=by
   rw[show((j+1+1:Nat):Int)=((j+1:Nat):Int)+1 from rfl,Int.add_mul,abN,Yg,Yz d0 b]
  lia
def qK(b:aX N w A)(a:∀k,k<=N->D k (ae A)≠0)(h:Sh (ae A) N)(n:N<=8){e:Nat}(d:D N (ae A)<=2^e)(hi:i<N):ae A i i<=2^(N+2+e):=by
 let q:=jU b a N (WX N)
 let f:∀t,t<N->D (t+1) (ae A)<=(2^(N-1)*2^e)*D t (ae A):=λt m=>by
  let r:=C6 b a h (N-1-t) t (by lia);let p:=jU b a t (by lia);let l:(2:Int)^(N-1-t)<=2^(N-1):=p2 (by lia);let j:(2:Int)^(N-1-t)*D N (ae A)<=2^(N-1)*2^e:=YV l d (by lia) (Yn (aal (by decide)));show Xs r (XD j (by lia))
 let s:=Ec b a h f hi i 0 (by lia);rw[iG,gW,Yg]at s;let c:((i+1:Nat):Int)*(2^(N-1)*2^e)<=2^3*(2^(N-1)*2^e):=XD (by lia) (Yn (YE (aal (by decide)) (aal (by decide))));let g:(2:Int)^3*(2^(N-1)*2^e)=2^(N+2+e):=by rw[<-ZA,<-ZA,show 3+(N-1+e)=N+2+e by lia]
 rw[g]at c;show Xs s c
end
structure u9(G G':Fn)(N:Nat)(u:Nat->Int)(c:Int):Prop where
 u1:∀i,i<N->u i*u i=1
 c0:0<c
 e:∀i j,i<N->j<N->G' i j=u i*u j*c*G i j
def u9.both{u:Nat->Int}(h:u9 G a N u c)(g:∀k,k<=N->D k G≠0):∀q,q<N->D q a=c^q*D q G/\∀i j,i<N->j<N->gx a q (a i) j=u i*u j*c^(q+1)*gx G q (G i) j
 |0,_=>⟨by simp[gW],λi j f e=>by rw[iG,iG,h.e i j f e];change _=u i*u j*c^1*_;rw[ZH,Int.pow_zero,Yg]⟩
 |q+1,v=>by
  obtain⟨d,b⟩:=h.both g q (by lia);let r:=h.u1 q (by lia);let o:c^q≠0:=Int.pow_ne_zero (by let:=h.c0;lia)
  let n:D (q+1) a=c^(q+1)*D (q+1) G:=by
   let m:=b q q (by lia) (by lia);rw[kl,kl,r,Yg]at m;show m
  show⟨n,λi j f e=>?_⟩;let t:=iD (R:=G) (p:=q) (g q (by lia)) (G i) j;let l:=iD (R:=a) (p:=q) (by rw[d];show YO o (g q (by lia))) (a i) j;rw[n,d,b i j f e,b i q f (by lia),b q j (by lia) e]at l;show Zx (YO o (g q (by lia))) ?_;let s:c^(q+1)=c^q*c:=ZH ..;let p2:c^(q+1+1)=c^q*c*c:=by rw[ZH,ZH]
  rw[<-l,p2,s];generalize c^q=C at*;generalize gx G q (G i) j=x1 at*;generalize gx G q (G i) q=x2 at*;generalize gx G q (G q) j=x3 at*;generalize gx G (q+1) (G i) j=x4 at*;generalize D (q+1) G=x5 at*;generalize D q G=x6 at*;let:C*x6*(u i*u j*(C*c*c)*x4)=C*C*c*c*u i*u j*(x6*x4):=by grind
  rw[this,<-t];grind
def u9.lam{u:Nat->Int}(h:u9 G b N u c)(d:∀k,k<=N->D k G≠0)(hi:i<N)(a:j<N):lam b i j=u i*u j*c^(j+1)*lam G i j:=(h.both d j a).2 i j hi a
def u9.D{u:Nat->Int}(h:u9 G a N u c)(b:∀k,k<=N->D k G≠0){k:Nat}(d:k<=N):D k a=c^k*D k G:=by
 cases k with
 |zero=>simp[gW]
 |succ k=>
  have:=h.lam b (i:=k) (j:=k) (by lia) (by lia);rw[cH,cH,h.u1 k (by lia),Yg]at this;show this
def u9.sh{u:Nat->Int}(h:u9 G q N u c)(f:∀k,k<=N->Mx.D k G≠0)(s:Sh G N):Sh q N:=by
 let g:∀k,0<c^k:=λk=>aal h.c0;show⟨λi j m e=>?_,λi y e z=>?_⟩
 . have x:=s.half i j m e;rw[h.lam f e (by lia),h.D f (by lia),Xo,Xo,Xo]
   let p:∀k,k<N->(u k).natAbs=1:=λk r=>by
    let:=Ye Int.natAbs (h.u1 k r);rw[Xo]at this;show Nat.eq_one_of_mul_eq_one_left this
   rw[p i e,p j (by lia),Y6,Zc,aag (Yn (g _))];let:=Yo x (Yn (g (j+1)));grind
 . show s.Fz i y e ?_;obtain⟨t,rfl⟩:∃t,i=t+1:=⟨i-1,by lia⟩
   rw[h.lam f e (by lia),h.D f (by lia),h.D f (by lia),h.D f (by lia)]at z;simp![Nat.add_sub_cancel]at z⊢;let E:=h.u1 (t+1) e;let D:=h.u1 t (by lia);let n:=g t;let o:=h.c0;rw[ZH,ZH]at z;generalize c^t=C at*;generalize Mx.lam G (t+1) t=l at*;generalize Mx.D (t+1+1) G=a at*;generalize Mx.D (t+1) G=b at*;generalize Mx.D t G=d at*;generalize u (t+1)=v at*;generalize u t=w at*;let B:4*(C*c*c*a)*(C*d)=(C*C*(c*c))*(4*a*d):=by grind
   let A:3*(C*c*b)*(C*c*b)-4*(v*w*(C*c)*l)*(v*w*(C*c)*l)=(C*C*(c*c))*(3*b*b-4*l*l):=by grind
   rw[B,A]at z;show Y5 z (Yn (YE (YE n n) (YE o o)))
end Mx
namespace Prog
open PySem L2 L3
open PySem.Spec hiding items?
open PyProof.Rows hiding St
def fJ(b: -(2^64)<i)(a:i<2^64):IntMulOk i j:= .of_left (intBits_le_64 b a)
def nA(b: -(2^64)<j)(a:j<2^64):IntMulOk i j:= .of_right (intBits_le_64 b a)
def Jb{a b:Nat}(h:a<=b)(d:b.log2<9000)(e:a≠0):a.log2<9000:=by
 let c:b≠0:=by lia
 show(Zi e).mpr (X_ h ((Zi c).mp d))
def Any(st:af)(d:D):Prop:=∃t,fF st d=some t
def isInt:D->Bool
 | .int _=>true
 |_=>false
def Kf{st:af}{d:D}{t:String}(h:fF st d=some t):(t=="int")=isInt d:=by
 cases d<;>unfold fF at h<;>first|(cases h;done)|(cases h;rfl)|(simp only at h;split at h<;>first|(cases h;rfl)|cases h)
def JP{st:af}{d:D}{t:String}(h:fF st d=some t):(t=="list"||t=="tuple")=(items? st d).isSome:=by
 cases d<;>unfold fF at h<;>first|(cases h;done)|(cases h;rfl)|(simp only at h;split at h<;>first|(cases h;rename_i q;rw[ax q];rfl)|cases h)
def yT{f:D->Bool}:∀xs:List D,gQ (xs.map λx=>D.bl (f x))=some (xs.map f)
 | []=>rfl
 |x::xs=>by simp[gQ,yT xs]
abbrev aq(r:List Int):List D:=r.map D.int
abbrev cm(r:List Int):D:= .tup (aq r)
abbrev bD(r:List Int):D:= .lst (aq r)
abbrev cy(A:List (List Int)):D:= .tup (A.map cm)
def bL(st:af):List D->List (List Int)->Prop
 | [],[]=>True
 |d::ds,r::rs=>items? st d=some (aq r)/\bL st ds rs
 |_,_=>False
structure dM(st:af)(d:D)(A:List (List Int)):Prop where
 ex:∃ds,items? st d=some ds/\bL st ds A
def bL.len{st:af}:∀ {a:List D} {A:List (List Int)},bL st a A->a.length=A.length
 | [],[],_=>rfl
 |_::_,_::_,h=>by simp[bL.len h.2]
def bL.tup{st:af}:∀ {A:List (List Int)},bL st (A.map cm) A
 | []=>trivial
 |_::_=>⟨rfl,bL.tup⟩
def bL.lst{st:af}:∀ {A:List (List Int)},bL st (A.map bD) A
 | []=>trivial
 |_::_=>⟨rfl,bL.lst⟩
def bL.get{st:af}:∀ {a:List D} {A:List (List Int)} {i:Nat} {d:D},bL st a A->a[i]?=some d->∃r,A[i]?=some r/\items? st d=some (aq r)
 |_::_,r::_,0,_,h,e=>by simp at e;subst e;show⟨r,rfl,h.1⟩
 |_::_,_::_,i+1,d,h,e=>by
  obtain⟨r,c,b⟩:=bL.get (i:=i) (d:=d) h.2 (by simpa using e);show⟨r,by simpa using c,b⟩
def fh{st:af}{A:List (List Int)}:dM st (cy A) A:=⟨_,rfl,bL.tup⟩
structure Ext(st st':af):Prop where
 len:st.length<=st'.length
 same:∀m,m<st.length->st'[m]?=st[m]?
def Ext.trans{st d c:af}(a:Ext st d)(b:Ext d c):Ext st c:=⟨WZ a.len b.len,λm h=>(b.same m (Xj h a.len)).trans (a.same m h)⟩
def Ext.push{st:af}{c:List Cell}:Ext st (st++c):=⟨by simp,λm h=>W3 h⟩
def Ext.set{st:af}{b:af}(a:Ext b st)(h:b.length<=n):Ext b (st.set n c):=⟨by rw[Xf];show a.len,λm d=>by rw[W0 (by lia)];show a.same m d⟩
def Ext.items{st a:af}{d:D}{xs:List D}(x:Ext st a)(e:items? st d=some xs):items? a d=some xs:=by
 cases d with
 |ref n=>
  unfold items? at e⊢;simp only at e⊢;cases q:st[n]? with
  |none=>rw[q]at e;cases e
  |some c=>
   have b:=(WV.mp q).1;rw[x.same n b];show e
 |_=>show e
def Ext.wX{st a:af}(x:Ext st a):∀ {b:List D} {A:List (List Int)},bL st b A->bL a b A
 | [],[],_=>trivial
 |_::_,_::_,h=>⟨x.items h.1,x.wX h.2⟩
def Ext.AK{st a:af}(x:Ext st a){d:D}{A:List (List Int)}(h:dM st d A):dM a d A:=by
 obtain⟨b,e,r⟩:=h.ex;show⟨b,x.items e,x.wX r⟩
def jj{r:List Int}{k:Nat}(h:k<r.length):dw (aq r) (k:Int)=some (.int (r.getD k 0)):=by
 show eP ?_;rw[W_,W7 h,Mx.aJ h];rfl
def getD_mem{r:List Int}{k:Nat}(h:k<r.length):r.getD k 0∈r:=by rw[Mx.aJ h];show XX _
def ints_app:aq r++[D.int x]=aq (r++[x]):=by simp[aq]
def Kx{A:List (List Int)}:A.map cm++[cm r]=(A++[r]).map cm:=by simp
def CA(h:d∈eJ (aq r) (aq s)):∃a b,a∈r/\b∈s/\d= .tup [.int a,.int b]:=by
 obtain⟨n,j,e⟩:=Xp.mp h;let k:(eJ (aq r) (aq s))[n]?=some d:=by rw[W7 j,e]
 obtain⟨x,y,f,c,rfl⟩:=vo k;rw[W_]at f c;cases i:r[n]? with
 |none=>rw[i]at f;cases f
 |some a=>
  cases g:s[n]? with
  |none=>rw[g]at c;cases c
  |some b=>
   rw[i]at f;rw[g]at c;cases f;cases c;show⟨a,b,Xu i,Xu g,rfl⟩
def Ka(n:Nat):(List.replicate n [D.int 0]).flatten=aq (List.replicate n 0):=by
 induction n with
 |zero=>rfl
 |succ n a=>rw[YL,XE,a];rfl
def zC:∀r:List Int,(aq r).map (λx=>match x with| .int i=>i|_=>0)=r
 | []=>rfl
 |a::r=>by rw[aq,XH,XH,zC r]
def vj{d:D}{a:List D}:dw (d::a) 0=some d:=eP (j:=0) rfl
def intsOf(st:af)(d:D):List Int:=match items? st d with
 |some a=>a.map λx=>match x with| .int i=>i|_=>0
 |none=>[]
def yL{st:af}{d:D}{r:List Int}(h:items? st d=some (aq r)):intsOf st d=r:=by
 unfold intsOf;rw[h];show zC r
def Ie:eJ (x::xs) (y::ys)= .tup [x,y]::eJ xs ys:=rfl
def aC:Addr:=311
def aO:Addr:=400
abbrev f6(b:Bool):Cell:=Cell.tab 291 ⟨152,32,152,66⟩ "Bench.live_rows.<locals>.<lambda>" b
abbrev pD:List (Addr×Pos×Str):=[(291,⟨152,32,152,66⟩,"Bench.live_rows.<locals>.<lambda>")]
def pw:bN:=λa st K=>∃d,a=[d]/\Any st d/\K (.bl (isInt d)) st
def uZ:List Str:=["thing"]
def Dj:DS:=(a6 (tR (bz qo (ab (aa 0) (ab (dC (.ty "int")) ag))) (AJ (a_ (bz qo (ab (aa 0) (ab (dC (.ty "bool")) ag)))))))
abbrev WS(S:bN)(n:Nat)(P:DS)(N:List Str):Prop:=∀ds st K,S ds st K->ds.length=n/\P {nx:=λ_ st'=>K .aD st',rt:=K} (aK N ds) st
def CQ:WS pw 1 Dj uZ:=by
 rintro c st K ⟨d,rfl,⟨t,a⟩,k⟩;show⟨rfl,?_⟩;rw[<-Kf a]at k;let b:=qA a;show CP a (by decide) ?_;simp![nh,Xh,Xi,YY]at b;rcases b with rfl|rfl|rfl|rfl|rfl|rfl
 . show k
 . show eN (CP a (by decide) ?_);show k
 . show eN (CP a (by decide) ?_);show k
 . show k
 . show k
 . show k
def jK:bN:=λa st K=>∃d,a=[d]/\Any st d/\K (.bl (items? st d).isSome) st
def uW:List Str:=["thing"]
def Df:DS:=(a6 (bz qo (ab (aa 0) (ab (jb (ab (dC (.ty "list")) (ab (dC (.ty "tuple")) ag))) ag))))
def CZ:WS jK 1 Df uW:=by
 rintro c st K ⟨d,rfl,⟨t,a⟩,k⟩;show⟨rfl,?_⟩;rw[<-JP a]at k;let b:=qA a;show⟨Xb rfl,NB a rfl (by decide) ?_⟩;simp![nh,Xh,Xi,YY]at b;rcases b with rfl|rfl|rfl|rfl|rfl|rfl<;>show k
def ji:bN:=λb st K=>∃d m,b=[d,.int m]/\Any st d/\K (.bl (match items? st d with|some a=>decide ((a.length:Int)=m)|none=>false)) st
def pZ:List Str:=["thing","many"]
def yG:DS:=(a6 (tR (ay jK (ab (aa 0) ag)) (ai gN (bz dB (ab (aa 0) ag)) (aa 1))))
def xJ:WS ji 2 yG pZ:=by
 rintro c st K ⟨d,m,rfl,a,k⟩;show⟨rfl,?_⟩;cases e:items? st d with
 |none=>
  rw[e]at k;show⟨d,rfl,a,by rw[e];show k⟩
 |some b=>
  rw[e]at k;show⟨d,rfl,a,?_⟩;rw[e];show eN (cP e (AS ?_));show k
def mK:bN:=λa st K=>∃(r:List Int) (w:Nat),a=[cm r,.int w]/\r.length=w/\w<=8/\K (.bl true) st
def qS:List Str:=["thing","many"]
def zZ:DS:=(a6 (tR (ay ji (ab (aa 0) (ab (aa 1) ag))) (bz pj (ab (cp (dy (aa 0)) [none] (bf 0) bI (ay pw (ab (aa 0) ag))) ag))))
def xU:∀l:List D,gQ (l.map λ_=>D.bl true)=some (l.map λ_=>true)
 | []=>rfl
 |_::l=>by simp[gQ,xU l]
def Ms(l:List D):(l.map λ_=>true).all id=true:=by simp
def yD:WS mK 2 zZ qS:=by
 rintro h st K ⟨r,w,rfl,f,c,k⟩;show⟨rfl,cm r,w,rfl,⟨_,rfl⟩,?_⟩
 let e:(match items? st (cm r)with|some a=>decide ((a.length:Int)=(w:Int))|none=>false)=true:=by
  change decide (((aq r).length:Int)=(w:Int))=true;show Y4 (by rw[W2];lia)
 rw[e];show eN (fj ⟨cx (by rw[W2];lia),comp_map (g:=λ_=> .bl true) trivial _ (λd b j q=>?_) ?_⟩)
 . obtain⟨i,_,rfl⟩:=XB.mp b;show⟨_,rfl,_,rfl,⟨_,rfl⟩,q⟩
 . show tw (xU (aq r)) ?_;rw[Ms];show k
def vn:bN:=λc st K=>∃a b,c=[.int a,.int b]/\K (.int ((Nat.gcd a.natAbs b.natAbs:Nat):Int)) st
def C1:List Str:=["one","other","great","small","rest"]
def Kr:DS:=(av (aM 2 (bz mF (ab (aa 0) ag)))
 (av (aM 3 (bz mF (ab (aa 1) ag)))
 (av (rW (a_ (ai pM (aa 3) (dC (.int 0)))) (av (aM 4 (ai i9 (aa 2) (aa 3)))
 (av (aM 2 (aa 3))
 (aM 3 (aa 4)))))
 (a6 (aa 2)))))
def CY{a:Int}(h:a.natAbs<2^m):Builtin.Int.intBits a<=m:=by
 unfold Builtin.Int.intBits;by_cases b:a.natAbs=0
 . have:a=0:=by lia
   subst this;simp
 . have:=(Zi b).mpr h;split<;>lia
def gc{a b:Int}(d:a.natAbs<=2^m)(c:b.natAbs<=2^n)(h:m+n<=130000000):IntMulOk a b:=by
 let q:∀ {x:Int} {k:Nat},x.natAbs<=2^k->Builtin.Int.intBits x<=k+1:=λ{x k} h=>CY (X_ h (YA (by decide) (XC k)));let g:=q d;let f:=q c;let e:(2:Nat)^27=134217728:=by decide
 let z:Builtin.Int.intTooBig (Builtin.Int.intBits a+Builtin.Int.intBits b)=false:=by
  unfold Builtin.Int.intTooBig bitsLine;show XO (by lia)
 unfold IntMulOk;rw[z];simp
def Kz(a b:Nat):(a:Int).fmod (b:Int)=((a%b:Nat):Int):=by
 rw[Int.fmod_eq_emod_of_nonneg _ (aav b)];show(Int.natCast_emod a b).symm
def GX:WS vn 2 Kr C1:=by
 rintro i st K ⟨a,b,rfl,k⟩;show⟨rfl,?_⟩;show nR (nR ?_);show⟨λm σ d=>∃(g s:Nat) (r:Option D),σ=[some (.int a),some (.int b),some (.int g),some (.int s),r]/\d=st/\Nat.gcd g s=Nat.gcd a.natAbs b.natAbs/\s=m,⟨b.natAbs,a.natAbs,b.natAbs,none,?_,rfl,rfl,rfl⟩,?_⟩
 . rfl
 . rintro m σ d ⟨g,s,r,rfl,rfl,e,rfl⟩;by_cases f:(s:Int)=0
   . have c:s=0:=by lia
     subst c;rw[Nat.gcd_zero_right]at e;subst e;show AM k
   . have c:0<s:=by lia
     let h:(!decide ((s:Int)=0))=true:=by simp;lia
     show AM ?_;change if(!decide ((s:Int)=0))=true then _ else _
     rw[WY h];show kM f ⟨g%s,Nat.mod_lt _ c,s,g%s,some (.int ((g%s:Nat):Int)),?_,rfl,?_,rfl⟩
     . simp[Kz]
     . rw[ab9,<-Nat.gcd_rec,ab9];show e
def iP(t b:Int):Int:=((if b<0 then-1 else 1)*t).fdiv ((Nat.gcd t.natAbs b.natAbs:Nat):Int)
def dF(t b:Int):Int:=((if b<0 then-1 else 1)*b).fdiv ((Nat.gcd t.natAbs b.natAbs:Nat):Int)
def iK(t b:Int):D:= .tup [.int (iP t b),.int (dF t b)]
def nZ:bN:=λa st K=>∃(t b:Int),a=[.int t,.int b]/\b≠0/\b.natAbs.log2<9000/\K (iK t b) st
def JH:List Str:=["top","bottom","shrink"]
def R8:DS:=(av (aM 2 (ay vn (ab (aa 0) (ab (aa 1) ag))))
 (av (cS (a_ (ai pW (aa 1) (dC (.int 0)))) (aM 2 (iU ff (aa 2))) cA)
 (a6 (jb (ab (ai ip (aa 0) (aa 2)) (ab (ai ip (aa 1) (aa 2)) ag))))))
def tL{g t:Int}(a:g≠0)(h:g∣t):t.fdiv (-g)=(-1*t).fdiv g:=by
 obtain⟨c,rfl⟩:=h
 let d:(g*c).fdiv (-g)= -c:=by
  let:g*c=(-g)*(-c):=by rw[Int.neg_mul_neg]
  rw[this,YT _ (by lia)]
 let b:(-1*(g*c)).fdiv g= -c:=by
  let: -1*(g*c)=g*(-c):=by rw[Zh,Yg,Int.mul_neg]
  rw[this,YT _ a]
 rw[d,b]
def zB(t b:Int):((Nat.gcd t.natAbs b.natAbs:Nat):Int)∣t:=Int.ofNat_dvd_left.mpr (Nat.gcd_dvd_left _ _)
def zo(t b:Int):((Nat.gcd t.natAbs b.natAbs:Nat):Int)∣b:=Int.ofNat_dvd_left.mpr (Nat.gcd_dvd_right _ _)
def OM:WS nZ 2 R8 JH:=by
 rintro i st K ⟨t,b,rfl,g,d,k⟩;show⟨rfl,?_⟩;show⟨t,b,rfl,?_⟩
 let f:Nat.gcd t.natAbs b.natAbs≠0:=λz=>by
  let:=aaP z;lia
 let e:Nat.gcd t.natAbs b.natAbs<=b.natAbs:=Nat.le_of_dvd (by lia) (Nat.gcd_dvd_right _ _);let a:((Nat.gcd t.natAbs b.natAbs:Nat):Int)≠0:=by lia
 let c:=Jb e d f;unfold iK iP dF at k;show M5 (λh=>eN ?_) λh=>?_
 . rw[WY h,<-tL a (zB t b),<-tL a (zo t b)]at k;show dY (gT (by lia) (by rw[YI,Zl];show c) (gT (by lia) (by rw[YI,Zl];show c) ?_));show⟨Xb rfl,k⟩
 . rw[WW (by lia),Yg,Yg]at k;show gT a (by rw[Zl];show c) (gT a (by rw[Zl];show c) ?_);show⟨Xb rfl,k⟩
abbrev zA(q:Rat):D:= .tup [.int q.num,.int ((q.den:Nat):Int)]
def jh(d:b≠0):iK t b=zA (Rat.divInt t b):=by
 unfold iK zA iP dF;let c:(b.gcd t:Nat)=Nat.gcd t.natAbs b.natAbs:=by unfold Int.gcd;rw[ab9]
 let a:(if b<0 then(-1:Int)else 1)=b.sign:=by
  rcases Int.lt_trichotomy b 0 with h|h|h
  . rw[WY h,Int.sign_eq_neg_one_of_neg h]
  . show absurd h d
  . rw[WW (by lia),Int.sign_eq_one_of_pos h]
 let f:(Rat.divInt t b).num=((if b<0 then(-1:Int)else 1)*t).fdiv ((Nat.gcd t.natAbs b.natAbs:Nat):Int):=by
  rw[Rat.num_divInt,a,c,Zv _ (aav _)]
 let e:(((Rat.divInt t b).den:Nat):Int)=((if b<0 then(-1:Int)else 1)*b).fdiv ((Nat.gcd t.natAbs b.natAbs:Nat):Int):=by
  rw[Rat.den_divInt,WW d,a,c,Zv _ (aav _),Int.natCast_ediv];congr 1;rw[Int.sign_mul_self]
 rw[f,e]
structure Sz(q:Rat)(m:Nat):Prop where
 num:q.num.natAbs<2^m
 den:q.den<2^m
def Sz.mono(h:Sz q m)(a:m<=n):Sz q n:=⟨Xj h.num (Xd (by decide) a),Xj h.den (Xd (by decide) a)⟩
def Sz.of{t b:Int}(a:b≠0)(f:t.natAbs<2^m)(c:b.natAbs<2^m):Sz (Rat.divInt t b) m:=by
 let d:1<=b.gcd t:=by
  let:b.gcd t≠0:=λz=>a (Int.gcd_eq_zero_iff.mp z).1;lia
 constructor
 . rw[Rat.num_divInt];let:((b.sign*t)/((b.gcd t:Nat):Int)).natAbs<=(b.sign*t).natAbs:=abu _ _
   let e:(b.sign*t).natAbs<=t.natAbs:=by
    rw[Xo];let:b.sign.natAbs<=1:=by rw[Int.natAbs_sign];split<;>lia
    calc b.sign.natAbs*t.natAbs<=1*t.natAbs:=XW _ this
     _=t.natAbs:=Y6 _
   lia
 . rw[Rat.den_divInt,WW a];show X_ (Nat.div_le_self _ _) c
def Hu(a b:Nat):2^a*2^b=2^(a+b):=(YJ 2 a b).symm
def hV{x y:Int}(d:x.natAbs<2^a)(c:y.natAbs<2^b):(x*y).natAbs<2^(a+b):=by
 rw[Xo,<-Hu];show Nat.mul_lt_mul'' d c
def den_nz(q:Rat):((q.den:Nat):Int)≠0:=by let:=q.den_nz;lia
def wB(q:Rat):q=Rat.divInt q.num ((q.den:Nat):Int):=(Rat.num_divInt_den q).symm
def sub_eq(p q:Rat):p-q=Rat.divInt (p.num*((q.den:Nat):Int)-q.num*((p.den:Nat):Int)) (((p.den:Nat):Int)*((q.den:Nat):Int)):=by
 conv=>lhs;rw[wB p,wB q]
 rw[abX _ _ (den_nz p) (den_nz q)]
def mul_eq(p q:Rat):p*q=Rat.divInt (p.num*q.num) (((p.den:Nat):Int)*((q.den:Nat):Int)):=by
 conv=>lhs;rw[wB p,wB q]
 rw[aaR]
def lh(q:Rat):(((q.den:Nat):Int)).natAbs=q.den:=Zl _
def F6{x y:Int}(c:x.natAbs<2^a)(b:y.natAbs<2^a):(x-y).natAbs<2^(a+1):=by
 rw[Za];lia
def Sz.sub(d:Sz p a)(c:Sz q b):Sz (p-q) (a+b+1):=by
 rw[sub_eq];let g:=hV d.num (show(((q.den:Nat):Int)).natAbs<2^b by rw[lh];show c.den);let e:=hV c.num (show(((p.den:Nat):Int)).natAbs<2^a by rw[lh];show d.den);rw[Nat.add_comm b a]at e;let f:=hV (show(((p.den:Nat):Int)).natAbs<2^a by rw[lh];show d.den) (show(((q.den:Nat):Int)).natAbs<2^b by rw[lh];show c.den);show Sz.of (YO (den_nz p) (den_nz q)) (F6 g e) (Xj f (Xd (by decide) (by lia)))
def Sz.mul(d:Sz p a)(c:Sz q b):Sz (p*q) (a+b):=by
 rw[mul_eq];let e:=hV (show(((p.den:Nat):Int)).natAbs<2^a by rw[lh];show d.den) (show(((q.den:Nat):Int)).natAbs<2^b by rw[lh];show c.den);show Sz.of (YO (den_nz p) (den_nz q)) (hV d.num c.num) e
def EV{a:Int}(h:a.natAbs<2^m):Builtin.Int.intBits a<=m:=by
 unfold Builtin.Int.intBits;by_cases b:a.natAbs=0
 . have:a=0:=by lia
   subst this;simp
 . have:=(Zi b).mpr h;split<;>lia
def lQ{a b:Int}(f:a.natAbs<2^m)(e:b.natAbs<2^n)(d:m<=4000)(c:n<=4000):IntMulOk a b:=by
 let l:4000<=2^20:=by decide
 show .of_bits (WZ (EV f) (WZ d l)) (WZ (EV e) (WZ c l))
def MV{a:Int}(b:a.natAbs<2^m)(c:m<=8999)(d:a≠0):a.natAbs.log2<9000:=by
 let:=(Zi (show a.natAbs≠0 by lia)).mpr b;lia
structure Fq(st:af)(d:D)(q:Rat):Prop where
 ao:items? st d=some [.int q.num,.int ((q.den:Nat):Int)]
 sz:Sz q 2000
def Fq.a{st:af}{d:D}{q:Rat}(h:Fq st d q):q.num.natAbs<2^2000:=h.sz.num
def Fq.b{st:af}{d:D}{q:Rat}(h:Fq st d q):(((q.den:Nat):Int)).natAbs<2^2000:=by rw[lh];show h.sz.den
def Fq.tup{st:af}{q:Rat}{m:Nat}(h:Sz q m)(a:m<=2000):Fq st (zA q) q:=⟨rfl,h.mono a⟩
def yk:bN:=λa st K=>∃x y p q,a=[x,y]/\Fq st x p/\Fq st y q/\K (zA (p-q)) st
def Et:List Str:=["one","other"]
def OE:DS:=(a6 (ay nZ (ab (ai df (ai bo (ai aN (aa 0) (dC (.int 0))) (ai aN (aa 1) (dC (.int 1)))) (ai bo (ai aN (aa 1) (dC (.int 0))) (ai aN (aa 0) (dC (.int 1))))) (ab (ai bo (ai aN (aa 0) (dC (.int 1))) (ai aN (aa 1) (dC (.int 1)))) ag))))
def Km:WS yk 2 OE Et:=by
 rintro b st K ⟨x,y,p,q,rfl,X,Y,k⟩;show⟨rfl,?_⟩;let a:=YO (den_nz p) (den_nz q);show aA X.ao rfl (aA Y.ao rfl (bC (lQ X.a Y.b (by decide) (by decide)) (aA Y.ao rfl (aA X.ao rfl (bC (lQ Y.a X.b (by decide) (by decide)) (cM ?_))))));show aA X.ao rfl (aA Y.ao rfl (bC (lQ X.b Y.b (by decide) (by decide)) ?_));show⟨_,_,rfl,a,MV (hV X.b Y.b) (by decide) a,?_⟩;rw[jh a,<-sub_eq];show k
def tT:bN:=λa st K=>∃x y p q,a=[x,y]/\Fq st x p/\Fq st y q/\K (zA (p*q)) st
def Ej:List Str:=["one","other"]
def Ol:DS:=(a6 (ay nZ (ab (ai bo (ai aN (aa 0) (dC (.int 0))) (ai aN (aa 1) (dC (.int 0)))) (ab (ai bo (ai aN (aa 0) (dC (.int 1))) (ai aN (aa 1) (dC (.int 1)))) ag))))
def K_:WS tT 2 Ol Ej:=by
 rintro b st K ⟨x,y,p,q,rfl,X,Y,k⟩;show⟨rfl,?_⟩;let a:=YO (den_nz p) (den_nz q);show aA X.ao rfl (aA Y.ao rfl (bC (lQ X.a Y.a (by decide) (by decide)) ?_));show aA X.ao rfl (aA Y.ao rfl (bC (lQ X.b Y.b (by decide) (by decide)) ?_));show⟨_,_,rfl,a,MV (hV X.b Y.b) (by decide) a,?_⟩;rw[jh a,<-mul_eq];show k
def vY:bN:=λa st K=>∃x y p q,a=[x,y]/\Fq st x p/\Fq st y q/\K (.bl (decide (p<q))) st
def BD:List Str:=["one","other"]
def Lu:DS:=(a6 (ai pW (ai bo (ai aN (aa 0) (dC (.int 0))) (ai aN (aa 1) (dC (.int 1)))) (ai bo (ai aN (aa 1) (dC (.int 0))) (ai aN (aa 0) (dC (.int 1))))))
def Ho:WS vY 2 Lu BD:=by
 rintro a st K ⟨x,y,p,q,rfl,X,Y,k⟩;show⟨rfl,?_⟩;show aA X.ao rfl (aA Y.ao rfl (bC (lQ X.a Y.b (by decide) (by decide)) (aA Y.ao rfl (aA X.ao rfl (bC (lQ Y.a X.b (by decide) (by decide)) (AL ?_))))));let e:decide (p.num*((q.den:Nat):Int)<q.num*((p.den:Nat):Int))=decide (p<q):=ZE.mpr (Rat.lt_iff p q).symm;rw[e];show k
def i0:bN:=λa st K=>∃(d:D) (A:List (List Int)),a=[d]/\dM st d A/\A.length<=1000/\K (cy A) st
def yO:List Str:=["rows"]
def HK:DS:=(a6 (bz cN (ab (cp (dy (aa 0)) [none] (bf 0) bI (bz cN (ab (aa 0) ag))) ag)))
def m_{l:fu}{m:DE}{ok:af->Prop}{j:bX}{st:af}{K:List D->af->Prop}{o:List D}{A:List (List Int)}(f:List Int->D)(p:ok st)(u:bL st o A)(t:∀d r,r∈A->items? st d=some (aq r)->∀s,s (f r) st->∃i,l d j=some i/\m i st s)(k:K (A.map f) st):dc l bI m ok j o [] st K:=by
 show gD (λrest c b=>∃(e a:List (List Int)),st=b/\e++a=A/\bL st rest a/\c=e.map f) ?_ ?_ _ _ _ ⟨[],A,rfl,rfl,u,rfl⟩
 . rintro c b ⟨e,a,rfl,g,h,rfl⟩;match a,h with
   | [],_=>
     rw[YD]at g;subst g;show⟨p,k⟩
 . rintro d rest c b ⟨e,a,rfl,g,h,rfl⟩ next
   match a,h with
   |r::a,h=>
    obtain⟨i,v,q⟩:=t d r (by rw[<-g];simp) h.1 (λy n=>dc l bI m ok j rest (e.map f++[y]) n K) (next _ _ ⟨e++[r],a,rfl,by rw[<-g];simp,h.2,by simp⟩);show⟨p,i,v,q⟩
def Fy:WS i0 1 HK yO:=by
 rintro i st K ⟨d,A,rfl,⟨j,f,a⟩,b,k⟩;show⟨rfl,?_⟩;show tE f λok g=>⟨cx (by rw[a.len];show b),?_⟩
 show m_ cm g a (λe r h c l q=>⟨_,rfl,cJ c q⟩) ?_;show cJ rfl k
def lz:bN:=λa st K=>∃x y t r s,a=[x,.int t,y]/\items? st x=some (aq r)/\items? st y=some (aq s)/\r.length<=1000/\(∀b∈s,IntMulOk t b)/\K (bD (Mx.fS r t s)) st
def D6:List Str:=["row","times","other"]
def NH:DS:=(a6 (cp (kc (ab (aa 0) (ab (aa 2) ag))) [none,none,some 1] (dN 0 1) bI (ai cE (aa 0) (ai bo (aa 2) (aa 1)))))
def zm:∀(r s:List Int),(eJ (aq r) (aq s)).map (λd=>match d with| .tup [.int a,.int b]=> .int (a+t*b)|_=> .aD)=aq (Mx.fS r t s)
 | [],_=>rfl
 |_::_,[]=>rfl
 |a::r,b::s=>by
  let:=zm (t:=t) r s;unfold eJ Mx.fS at this⊢;simp![aq,XH,List.zip_cons_cons,List.zipWith_cons_cons]at this⊢;rw[this]
def KG:WS lz 3 NH D6:=by
 rintro n st K ⟨x,y,t,r,s,rfl,e,c,l,f,k⟩;show⟨rfl,?_⟩;show jG e c λok j=>⟨cx (by rw[jd];simp;lia),?_⟩
 show comp_map (g:=λd=>match d with| .tup [.int a,.int b]=> .int (a+t*b)|_=> .aD) (j st e c) _ (λd h o q=>?_) ?_
 . obtain⟨a,b,m,i,rfl⟩:=CA h;show⟨_,rfl,bC (f b i) (cW q)⟩
 . rw[zm];show k
def qt:bN:=λc st K=>∃(x y:D) (n:Nat) (a:List Int) (A:List (List Int)),c=[x,y,.int n]/\items? st x=some (aq a)/\dM st y A/\(∀r∈A,r.length=n)/\n<=1000/\(∀w∈a,∀r∈A,∀b∈r,IntMulOk w b)/\K (cm (Mx.dR a A (List.replicate n 0))) st
def C4:List Str:=["weights","rows","wide","total","weight","row"]
def L0:DS:=(av (aM 3 (ai bo (mP (ab (dC (.int 0)) ag)) (aa 2)))
 (av (fm (kc (ab (aa 0) (ab (aa 1) ag))) (dN 4 5) (aM 3 (ay lz (ab (aa 3) (ab (aa 4) (ab (aa 5) ag))))))
 (a6 (bz cN (ab (aa 3) ag)))))
def Jy:WS qt 3 L0 C4:=by
 rintro O st K ⟨x,y,n,o,A,rfl,z,⟨M,v,I⟩,G,N,J,k⟩;show⟨rfl,?_⟩;show UY (Xb rfl) (Pc ⟨by lia,by lia,cx (by simp;lia)⟩ ?_);rw[Xv,Ka];show jG z v λok F=>?_
 show fg (λrest σ u=>∃(s p:Option D) (a:List Int) (f:List D) (j:List (List Int)) (c:List Int),st=u/\rest=eJ (aq a) f/\bL st f j/\σ=[some x,some y,some (.int n),some (bD c),s,p]/\c.length=n/\(∀r∈j,r∈A)/\(∀w∈a,w∈o)/\Mx.dR a j c=Mx.dR o A (List.replicate n 0)) ?_ ?_ _ _ _
  ⟨none,none,o,M,A,List.replicate n 0,rfl,rfl,I,rfl,by simp,λ_ h=>h,λ_ h=>h,rfl⟩
 . rintro σ t ⟨s,p,a,f,j,c,rfl,i,g,rfl,E,_,_,m⟩;show⟨F _ z v,cJ rfl ?_⟩
   let:Mx.dR a j c=c:=by
    match a,f,j,g,i with
    | [],_,_,_,_=>unfold Mx.dR;rfl
    |_::_,[],[],_,_=>unfold Mx.dR;rfl
    |_::_,_::_,_::_,_,i=>cases i
   rw[this]at m;rw[m];show k
 . rintro d rest σ t ⟨s,p,a,f,j,c,rfl,i,g,rfl,E,C,l,m⟩ next
   match a,f,j,g,i with
   |w::a,e::f,r::j,g,i=>
    simp![aq,XH,Ie,Yy]at i;obtain⟨rfl,rfl⟩:=i;show⟨F _ z v,_,rfl,?_⟩;let H:=G r (C r Xk);show⟨_,_,_,c,r,rfl,rfl,g.1,by lia,λb L=>J w (l w Xk) r (C r Xk) b L,?_⟩;show next _ _ ⟨_,_,a,f,j,Mx.fS c w r,rfl,rfl,g.2,rfl,by rw[Mx.ka (by lia)];show E,λq B=>C q (Xg _ B),λq B=>l q (Xg _ B),?_⟩
    rw[<-m];rfl
   | [],_,_,_,i=>cases i
   |_::_,[],[],_,i=>cases i
def oU:bN:=λa st K=>∃(x y:D) (n:Nat) (A B:List (List Int)),a=[x,y]/\dM st x A/\dM st y B/\B≠ []/\(∀r∈B,r.length=n)/\n<=1000/\A.length<=1000/\(∀w∈A,∀c∈w,∀r∈B,∀b∈r,IntMulOk c b)/\K (cy (Mx.mulM A B n)) st
def yQ:List Str:=["one","other","wide"]
def GR:DS:=(av (aM 2 (bz dB (ab (ai aN (aa 1) (dC (.int 0))) ag)))
 (a6 (bz cN (ab (cp (dy (aa 0)) [none,some 1,some 2] (bf 0) bI (ay qt (ab (aa 0) (ab (aa 1) (ab (aa 2) ag))))) ag))))
def BK{st:af}{n:Nat}{B:List (List Int)}{f:D->D}:∀ {a:List D} {A:List (List Int)},bL st a A->(∀d r,items? st d=some (aq r)->f d=cm (Mx.dR r B (List.replicate n 0)))->a.map f=(Mx.mulM A B n).map cm
 | [],[],_,_=>rfl
 |d::a,r::A,h,b=>by
  rw[XH,b d r h.1,BK h.2 b];rfl
def Gk:WS oU 2 GR yQ:=by
 rintro I st K ⟨x,y,n,A,B,rfl,⟨G,s,j⟩,e,C,f,t,u,l,k⟩;show⟨rfl,?_⟩;obtain⟨p,m,a⟩:=e.ex;match B,p,a,C,f,l,e,k,m with
 |b::B,J::p,a,_,f,l,e,k,m=>
  have D:b.length=n:=f b Xk;show aA m vj (cP a.1 ?_);rw[W2,D];show tE s λok H=>⟨cx (by rw[j.len];show u),?_⟩
  show comp_map (g:=λd=>cm (Mx.dR (intsOf st d) (b::B) (List.replicate n 0))) H G (λd w L q=>?_) ?_
  . obtain⟨i,v,F⟩:=Xp.mp w;obtain⟨r,E,o⟩:=j.get (i:=i) (d:=d) (by rw[W7 v,F]);show⟨_,rfl,d,y,n,r,b::B,rfl,o,e,f,t,λc z=>l r (Xu E) c z,?_⟩;rw[yL o]at q;show q
  . show cJ rfl ?_;rw[BK j (n:=n) (B:=b::B) λd r h=>by rw[yL h]];show k
 |_::_,[],a,_,_,_,_,_,_=>show a.elim
def vB:bN:=λa st K=>∃(d:D) (A:List (List Int)) (j:Nat),a=[d,.int j]/\dM st d A/\(∀r∈A,j<r.length)/\A.length<=1000/\K (cm (Mx.xM A j)) st
def AO:List Str:=["rows","place"]
def K5:DS:=(a6 (bz cN (ab (cp (dy (aa 0)) [none,some 1] (bf 0) bI (ai aN (aa 0) (aa 1))) ag)))
def Ik{l:fu}{m:DE}{ok:af->Prop}{j:bX}{st:af}{K:List D->af->Prop}{o:List D}{A:List (List Int)}(f:List Int->D)(p:ok st)(u:bL st o A)(t:∀d r,r∈A->items? st d=some (aq r)->∀s,s (f r) st->∃i,l d j=some i/\m i st s)(k:K (A.map f) st):dc l bI m ok j o [] st K:=by
 show gD (λrest c b=>∃(e a:List (List Int)),st=b/\e++a=A/\bL st rest a/\c=e.map f) ?_ ?_ _ _ _ ⟨[],A,rfl,rfl,u,rfl⟩
 . rintro c b ⟨e,a,rfl,g,h,rfl⟩;match a,h with
   | [],_=>
     rw[YD]at g;subst g;show⟨p,k⟩
 . rintro d rest c b ⟨e,a,rfl,g,h,rfl⟩ next
   match a,h with
   |r::a,h=>
    obtain⟨i,v,q⟩:=t d r (by rw[<-g];simp) h.1 (λy n=>dc l bI m ok j rest (e.map f++[y]) n K) (next _ _ ⟨e++[r],a,rfl,by rw[<-g];simp,h.2,by simp⟩);show⟨p,i,v,q⟩
def IJ(A:List (List Int))(j:Nat):A.map (λr=>D.int (r.getD j 0))=aq (Mx.xM A j):=by unfold Mx.xM aq;rw[Xy];rfl
def JX:WS vB 2 K5 AO:=by
 rintro l st K ⟨d,A,j,rfl,⟨m,h,a⟩,f,c,k⟩;show⟨rfl,?_⟩;show tE h λok i=>⟨cx (by rw[a.len];show c),?_⟩
 show Ik (λr=> .int (r.getD j 0)) i a (λe r b g n q=>⟨_,rfl,aA g (jj (f r b)) q⟩) ?_;rw[IJ];show cJ rfl k
def jT:bN:=λa st K=>∃(d:D) (A:List (List Int)) (n:Nat),a=[d,.int n]/\dM st d A/\(∀r∈A,r.length=n)/\A.length<=1000/\n<=1000/\K (cy (Mx.HH A n)) st
def qQ:List Str:=["rows","wide"]
def Ad:DS:=(a6 (bz cN (ab (cp (dg (ab (aa 1) ag)) [none,some 0] (bf 0) bI (ay vB (ab (aa 1) (ab (aa 0) ag)))) ag)))
def Me(A:List (List Int))(n:Nat):(List.range n).map (λj=>cm (Mx.xM A j))=(Mx.HH A n).map cm:=by unfold Mx.HH;rw[Xy];rfl
def yu:WS jT 2 Ad qQ:=by
 rintro h st K ⟨d,A,n,rfl,f,a,c,g,k⟩;show⟨rfl,?_⟩;show fI ⟨by lia,by lia⟩ ⟨cx (by rw[dZ];lia),?_⟩;rw[Xv];show kR (λj=>cm (Mx.xM A j)) n (λi e l q=>⟨_,rfl,d,A,i,rfl,f,λr b=>by rw[a r b];show e,c,q⟩) ?_;rw[Me];show cJ rfl k
def qv:bN:=λa st K=>∃(n i:Nat),a=[.int n,.int i]/\n<=1000/\K (cm (Mx.fK n i)) st
def wV:List Str:=["n","place"]
def GA:DS:=(a6 (bz cN (ab (cp (dg (ab (aa 0) ag)) [none,some 1] (bf 0) bI (MK (a_ (ai gN (aa 0) (aa 1))) (dC (.int 1)) (dC (.int 0)))) ag)))
def De:WS qv 2 GA wV:=by
 rintro c st K ⟨n,i,rfl,a,k⟩;show⟨rfl,?_⟩;show fI ⟨by lia,by lia⟩ ⟨cx (by rw[dZ];lia),?_⟩;rw[Xv];show kR (λj=> .int (Mx.dl j i)) n (λj b d q=>⟨_,rfl,?_⟩) ?_
 . show eq2 (λh=>eN ?_) λh=>?_
   . have:j=i:=by lia
     subst this;rw[Mx.dh]at q;show q
   . rw[Mx.dD (by lia)]at q;show q
 . have:(List.range n).map (λj=>D.int (Mx.dl j i))=aq (Mx.fK n i):=by unfold Mx.fK aq;rw[Xy];rfl
   rw[this];show cJ rfl k
def jH:bN:=λa st K=>∃(n:Nat),a=[.int n]/\n<=1000/\K (cy (Mx.units n)) st
def uS:List Str:=["n"]
def DB:DS:=(a6 (bz cN (ab (cp (dg (ab (aa 0) ag)) [none,some 0] (bf 0) bI (ay qv (ab (aa 1) (ab (aa 0) ag)))) ag)))
def Cf:WS jH 1 DB uS:=by
 rintro c st K ⟨n,rfl,a,k⟩;show⟨rfl,?_⟩;show fI ⟨by lia,by lia⟩ ⟨cx (by rw[dZ];lia),?_⟩;rw[Xv];show kR (λi=>cm (Mx.fK n i)) n (λi b d q=>⟨_,rfl,n,i,rfl,a,q⟩) ?_;let:(List.range n).map (λi=>cm (Mx.fK n i))=(Mx.units n).map cm:=by unfold Mx.units;rw[Xy];rfl
 rw[this];show cJ rfl k
def xD:bN:=λc st K=>∃(x y:D) (r s:List Int),c=[x,y]/\items? st x=some (aq r)/\items? st y=some (aq s)/\r.length<=1000/\(∀a∈r,∀b∈s,IntMulOk a b)/\K (.int (Mx.gY r s)) st
def Nr:List Str:=["one","other"]
def S_:DS:=(a6 (bz xY (ab (cp (kc (ab (aa 0) (ab (aa 1) ag))) [none,none] (dN 0 1) bI (ai bo (aa 0) (aa 1))) ag)))
def Ee:∀(r s:List Int),∃ns:List Int,(eJ (aq r) (aq s)).map (λd=>match d with| .tup [.int a,.int b]=> .int (a*b)|_=> .aD)=aq ns/\ns.sum=Mx.gY r s
 | [],_=>⟨[],rfl,rfl⟩
 |_::_,[]=>⟨[],rfl,rfl⟩
 |a::r,b::s=>by
  obtain⟨ns,f,c⟩:=Ee r s;show⟨a*b::ns,?_,?_⟩
  . have e:eJ (aq (a::r)) (aq (b::s))= .tup [.int a,.int b]::eJ (aq r) (aq s):=rfl;rw[e,XH,f];rfl
  . rw[List.sum_cons,c];rfl
def Jt:WS xD 2 S_ Nr:=by
 rintro t st K ⟨x,y,r,s,rfl,e,c,p,f,k⟩;show⟨rfl,?_⟩;show jG e c λok n=>⟨cx (by rw[jd];simp;lia),?_⟩
 obtain⟨o,m,l⟩:=Ee r s;show comp_map (g:=λd=>match d with| .tup [.int a,.int b]=> .int (a*b)|_=> .aD) (n st e c) _ (λd h u q=>?_) ?_
 . obtain⟨a,b,j,i,rfl⟩:=CA h;show⟨_,rfl,bC (f a j b i) q⟩
 . rw[m];show P8 (ints_map _) ?_;rw[l];show k
def ko:bN:=λa st K=>∃(A:List (List Int)) (N w:Nat),a=[cy A,.int N,.int w]/\Mx.aX N w A/\N<=8/\w<=8/\K (.bl true) st
def yK:List Str:=["thing","many","wide"]
def GY:DS:=(av (cS (gp (a_ (ay jK (ab (aa 0) ag)))) (a6 (dC (.bl false))) cA)
 (av (cS (ue (a_ (ai iW (aa 1) (dC .aD))) (a_ (ai pM (bz dB (ab (aa 0) ag)) (aa 1)))) (a6 (dC (.bl false))) cA)
 (a6 (bz pj (ab (cp (dy (aa 0)) [none,some 2] (bf 0) bI (ay mK (ab (aa 0) (ab (aa 1) ag)))) ag)))))
def FF:WS ko 3 GY yK:=by
 rintro i st K ⟨A,N,w,rfl,a,h,b,k⟩;show⟨rfl,cy A,rfl,⟨_,rfl⟩,?_⟩;let c:=a.len;show IV rfl (cP rfl (QA (by rw[W2,c]) ?_));show fj ⟨cx (by rw[W2];lia),comp_map (g:=λ_=> .bl true) trivial _ (λd f j q=>?_) ?_⟩
 . obtain⟨r,e,rfl⟩:=XB.mp f;show⟨_,rfl,r,w,rfl,a.fZ r e,b,q⟩
 . show tw (xU (A.map cm)) ?_;rw[Ms];show k
def O5:∀(n:Nat) (r:List Int),((aq r).all λd=>pl n d)=true:=λn r=>XA.mpr λd a=>by
 obtain⟨i,_,rfl⟩:=XB.mp a;cases n<;>(unfold pl;rfl)
def Nx:pl (n+1) (cm r)=true:=by
 unfold pl;show O5 n r
def B7:pl (n+2) (cy A)=true:=by
 unfold pl;show XA.mpr λd a=>?_;obtain⟨r,_,rfl⟩:=XB.mp a;show Nx
def D9{d:D}{st:af}{K:DK}(h:pl 40 d=true)(k:K (.bl true) st):gN d d st K:=FA h h (by rw[n_ 40 d h];show k)
def qF:bN:=λa st K=>∃(A B:List (List Int)) (n:Nat),a=[cy A,cy B]/\Mx.aX n n A/\Mx.aX n n B/\1<=n/\n<=8/\Mx.mulM A B n=Mx.units n/\(∀r∈A,∀x∈r,x.natAbs<=2^400000)/\(∀r∈B,∀x∈r,x.natAbs<=2^400000)/\K (.bl true) st
def xg:List Str:=["turn","back","many"]
def Gq:DS:=(av (cS (gp (a_ (ay jK (ab (aa 0) ag)))) (a6 (dC (.bl false))) cA)
 (av (aM 2 (bz dB (ab (aa 0) ag)))
 (av (cS (mN (gp (a_ (ay ko (ab (aa 0) (ab (aa 2) (ab (aa 2) ag)))))) (gp (a_ (ay ko (ab (aa 1) (ab (aa 2) (ab (aa 2) ag))))))) (a6 (dC (.bl false))) cA)
 (a6 (Lm (ai gN (aa 2) (dC (.int 0))) (ai gN (ay oU (ab (aa 0) (ab (aa 1) ag))) (ay jH (ab (aa 2) ag))))))))
def DJ:WS qF 2 Gq xg:=by
 rintro t st K ⟨A,B,n,rfl,g,d,q,a,e,i,h,k⟩;show⟨rfl,cy A,rfl,⟨_,rfl⟩,cP rfl ?_⟩;let j:=g.len;let f:=d.len;rw[W2,j];show⟨A,n,n,rfl,g,a,a,B,n,n,rfl,d,a,a,Nq (by lia) ?_⟩;show⟨_,_,n,A,B,rfl,fh,fh,λz=>by rw[z]at f;simp at f;lia,d.fZ,by lia,by lia,λr m c o s l b p=>?_,?_⟩
 . show gc (i r m c o) (h s l b p) (by decide)
 show⟨n,rfl,by lia,?_⟩;rw[e];show D9 B7 k
def nW:bN:=λa st K=>∃(A B:List (List Int)) (n:Nat),a=[cy A,cy B,.int n]/\Mx.aX n n A/\Mx.aX n n B/\1<=n/\n<=8/\Mx.mulM A B n=Mx.units n/\(∀r∈A,∀x∈r,x.natAbs<=2^400000)/\(∀r∈B,∀x∈r,x.natAbs<=2^400000)/\K (.bl true) st
def rJ:List Str:=["turn","back","many"]
def AR:DS:=(a6 (tR (ay ko (ab (aa 0) (ab (aa 2) (ab (aa 2) ag)))) (ay qF (ab (aa 0) (ab (aa 1) ag)))))
def zP:WS nW 3 AR rJ:=by
 rintro h st K ⟨A,B,n,rfl,c,g,f,a,b,e,d,k⟩;show⟨rfl,A,n,n,rfl,c,a,a,eN ⟨A,B,n,rfl,c,g,f,a,b,e,d,k⟩⟩
def nI:bN:=λb st K=>∃(A a U B:List (List Int)) (N w:Nat),b=[cy A,cy a,cy U,cy B]/\Mx.aX N w A/\Mx.aX N w a/\Mx.aX N N U/\Mx.aX N N B/\1<=N/\N<=8/\w<=8/\Mx.mulM U B N=Mx.units N/\Mx.mulM U A w=a/\(∀r∈U,∀x∈r,x.natAbs<=2^400000)/\(∀r∈B,∀x∈r,x.natAbs<=2^400000)/\(∀r∈A,∀x∈r,x.natAbs<=2^400000)/\K (.bl true) st
def su:List Str:=["rows","made","turn","back","many"]
def Bd:DS:=(av (aM 4 (bz dB (ab (aa 0) ag)))
 (av (cS (mN (gp (a_ (ay ko (ab (aa 1) (ab (aa 4) (ab (bz dB (ab (ai aN (aa 0) (dC (.int 0))) ag)) ag)))))) (gp (a_ (ay nW (ab (aa 2) (ab (aa 3) (ab (aa 4) ag))))))) (a6 (dC (.bl false))) cA)
 (a6 (ai gN (ay i0 (ab (aa 1) ag)) (ay oU (ab (aa 2) (ab (aa 0) ag)))))))
def Ae:WS nI 4 Bd su:=by
 rintro G st K ⟨A,o,U,B,N,w,rfl,i,d,m,C,q,j,p,g,h,n,D,E,k⟩;let l:=i.len;let F:=m.len
 obtain⟨a,f,rfl⟩:∃a f,A=a::f:=by
  cases A with
  |nil=>simp at l;lia
  |cons a f=>show⟨a,f,rfl⟩
 let t:a.length=w:=i.fZ a Xk;show⟨rfl,cP rfl ?_⟩;rw[W2,l];show aA (e:=cm a) rfl (by change dw _ ((0:Nat):Int)=_;show eP rfl) (cP rfl ?_);rw[W2,t];show⟨o,N,w,rfl,d,j,p,⟨U,B,N,rfl,m,C,q,j,g,n,D,?_⟩⟩;show⟨_,o,rfl,fh,by rw[d.len];lia,?_⟩;show⟨_,_,w,U,a::f,rfl,fh,fh,λz=>(by cases z),i.fZ,by lia,by lia,λr v c x s u b y=>gc (n r v c x) (E s u b y) (by decide),?_⟩;rw[h];show D9 B7 k
def bits_le{a:Int}(h:a.natAbs<2^m):Builtin.Int.intBits a<=m:=by
 unfold Builtin.Int.intBits;by_cases b:a.natAbs=0
 . have:a=0:=by lia
   subst this;simp
 . have:=(Zi b).mpr h;split<;>lia
def EN{a b:Int}(e:a.natAbs<=2^744)(d:b.natAbs<=2^744):IntMulOk a b:=by
 let l:(2:Nat)^744<2^745:=YA (by decide) (by decide);let c:745<=2^20:=by decide
 show .of_bits (WZ (bits_le (X_ e l)) c) (WZ (bits_le (X_ d l)) c)
def Gv{a:Int}(b:a.natAbs<=2^744)(c:a≠0):a.natAbs.log2<9000:=by
 let l:(2:Nat)^744<2^745:=YA (by decide) (by decide);let:=(Zi (show a.natAbs≠0 by lia)).mpr (X_ b l);lia
structure Gm(G:Mx.Fn)(n:Nat):Prop where
 le:n<=8
 ex:∃b,(∀r c,r<n->c<n->(G r c).natAbs<=b)/\(8*b)^n<=2^744/\(8*b)^(n-1)<=2^651/\1<=b
 sym:∀i j,G i j=G j i
def Gm.gx(h:Gm G n)(a:p<n)(hi:i<n)(c:j<n):(Mx.gx G p (G i) j).natAbs<=2^744:=by
 obtain⟨b,d,e,_,f⟩:=h.ex;show WZ (Mx.Bp h.le d a hi c) (WZ (Xd (by lia) (by lia)) e)
def Gm.D(h:Gm G n)(a:p<=n):(Mx.D p G).natAbs<=2^744:=by
 obtain⟨b,d,e,_,i⟩:=h.ex;show WZ (Mx.qd (by let:=h.le;lia) λr c f g=>d r c (by lia) (by lia)) (WZ (Xd (by lia) a) e)
def Gm.big(h:Gm G n)(hi:i<n)(a:j<n):(G i j).natAbs<=2^744:=by
 obtain⟨b,c,f,_,g⟩:=h.ex;let d:(8*b)^1<=(8*b)^n:=Xd (by lia) (by lia);let e:=c i j hi a;rw[Nat.pow_one]at d;lia
def oB:bN:=λa st K=>∃(G:Mx.Fn) (n i j:Nat) (m:Nat) (o1 o2:List Int) (dt d1 d2:D) (ts:List D),a=[.int (G i j),dt,d1,d2]/\items? st dt=some ts/\bL st ts (Mx.pD G m)/\items? st d1=some (aq o1)/\items? st d2=some (aq o2)/\o1.length=j/\j<=o2.length/\j<=m/\(∀k,k<j->o1.getD k 0=Mx.lam G i k/\o2.getD k 0=Mx.lam G j k)/\(∀k,k<j->Mx.D k G≠0)/\Gm G n/\i<n/\j<n/\K (.int (Mx.gx G j (G i) j)) st
def zt:List Str:=["together","table","one","other","divisor","line","left","right"]
def II:DS:=(av (aM 4 (dC (.int 1)))
 (av (fm (Fp (ab (aa 1) (ab (aa 2) (ab (aa 3) ag)))) (tP 5 6 7) (av (aM 0 (ai ip (ai df (ai bo (ai aN (aa 5) (iU ff (dC (.int 1)))) (aa 0)) (ai bo (aa 6) (aa 7))) (aa 4)))
 (aM 4 (ai aN (aa 5) (iU ff (dC (.int 1)))))))
 (a6 (aa 0))))
def lJ{r:List Int}(h:r.length=n+1):dw (aq r) (-1)=some (.int (r.getD n 0)):=by
 let e:r=r.take n++[r.getD n 0]:=by
  rw[Mx.aJ (by lia),<-aaN (by lia),Y2 (by lia)]
 let a:aq r=aq (r.take n)++[.int (r.getD n 0)]:=by
  conv=>lhs;rw[e]
  simp[aq]
 rw[a];show Kk _ _
def wG{ts:List D}{b a:List Int}{k:Nat}(e:k<ts.length)(d:k<b.length)(c:k<a.length):fE (ts.drop k) (aq (b.drop k)) (aq (a.drop k))= .tup [ts[k],.int (b.getD k 0),.int (a.getD k 0)]::fE (ts.drop (k+1)) (aq (b.drop (k+1))) (aq (a.drop (k+1))):=by
 rw[Xm e,Xm d,Xm c,Mx.aJ d,Mx.aJ c];rfl
def oO{st:af}{ts:List D}{A:List (List Int)}{q:Nat}(h:bL st ts A)(b:q<ts.length):items? st ts[q]=some (aq (A.getD q [])):=by
 obtain⟨r,a,c⟩:=h.get (W7 b);let d:=h.len;rw[W7 (by lia)]at a;cases a;rw[Mx.aJ (by lia)];show c
def GF:WS oB 4 II zt:=by
 rintro V st K ⟨G,n,i,j,m,z,y,I,L,J,o,rfl,s,w,v,u,T,S,R,A,t,g,C,B,k⟩;show⟨rfl,?_⟩;let U:=g.le;let lt:=w.len;rw[Mx.BX]at lt;show OF s v u λok F=>?_;show fg (λrest σ c=>c=st/\∃(q:Nat) (l f d:Option D),q<=j/\σ=[some (.int (Mx.gx G q (G i) j)),some I,some L,some J,some (.int (Mx.D q G)),l,f,d]/\rest=fE (o.drop q) (aq (z.drop q)) (aq (y.drop q))) ?_ ?_ _ _ _ ⟨rfl,0,none,none,none,Xq _,by rw[Mx.iG];rfl,rfl⟩
 . rintro σ c ⟨rfl,q,l,f,d,H,rfl,b⟩;show⟨F _ s v u,?_⟩
   let:q=j:=by
    by_cases h:q<j
    . rw[wG (by lia) (by lia) (by lia)]at b;cases b
    . lia
   subst this;show k
 . rintro x rest σ c ⟨rfl,q,l,f,d,H,rfl,b⟩ next
   let a:q<j:=by
    by_cases h:q<j
    . show h
    . have:z.drop q=[]:=Y1 (by lia);rw[this]at b
      let e:fE (o.drop q) (aq []) (aq (y.drop q))=[]:=by
       cases (o.drop q)<;>rfl
      rw[e]at b;cases b
   rw[wG (by lia) (by lia) (by lia),Yy]at b;obtain⟨rfl,rfl⟩:=b;show⟨F _ s v u,_,rfl,?_⟩;let r:=oO w (q:=q) (by lia);rw[Mx.El G (show q<m by lia)]at r;rw[(A q a).1,(A q a).2];let E:(Mx.aW G q).getD q 0=Mx.D (q+1) G:=by rw[Mx.ij G (WX _),Mx.cH]
   let Q:=g.D (p:=q+1) (by lia);let P:=g.gx (p:=q) (i:=i) (j:=j) (by lia) C B;let O:(Mx.lam G i q).natAbs<=2^744:=g.gx (by lia) C (by lia);let N:(Mx.lam G j q).natAbs<=2^744:=g.gx (by lia) B (by lia);let M:=g.D (p:=q) (by lia);show dY (aA r (lJ (Mx.dk G q)) ?_);rw[E];show bC (EN Q P) (bC (EN O N) (cM (gT (t q a) (Gv M (t q a)) ?_)));rw[Mx.B0 g.sym (t q a)];show dY (aA r (lJ (Mx.dk G q)) ?_);rw[E];show next _ _ ⟨rfl,q+1,_,_,_,a,rfl,rfl⟩
structure St(A:List (List Int))(N w:Nat):Prop where
 is:Mx.aX N w A
 wd:w<=1000
 sm:∀r∈A,∀x∈r,x.natAbs<=2^100
 gm:Gm (Mx.ae A) N
def St.mem{A:List (List Int)}(h:St A N w)(hi:i<N):A.getD i []∈A:=by
 let:=h.is.len;rw[Mx.aJ (by lia)];show XX _
def sO:bN:=λb st K=>∃(A:List (List Int)) (N w i:Nat) (dt dA dr:D) (ts:List D),b=[dt,dA,dr]/\items? st dt=some ts/\bL st ts (Mx.pD (Mx.ae A) i)/\dM st dA A/\St A N w/\i<N/\items? st dr=some (aq (A.getD i []))/\(∀k,k<=i->Mx.D k (Mx.ae A)≠0)/\∀a,Ext st a->a.length=st.length+1->a[st.length]?=some (.lst (aq (Mx.aW (Mx.ae A) i)))->K (.ref st.length) a
def y6:List Str:=["table","steps","row","made","line","step"]
def Hb:DS:=(av (aM 3 (mO ag))
 (av (fm (kc (ab (aa 0) (ab (aa 1) ag))) (dN 4 5) (d6 (fM (aa 3) (ay oB (ab (ay xD (ab (aa 2) (ab (aa 5) ag))) (ab (aa 0) (ab (aa 3) (ab (aa 4) ag))))))))
 (av (d6 (fM (aa 3) (ay oB (ab (ay xD (ab (aa 2) (ab (aa 2) ag))) (ab (aa 0) (ab (aa 3) (ab (aa 3) ag)))))))
 (a6 (aa 3)))))
def y_{ts a:List D}(c:q<ts.length)(b:q<a.length):eJ (ts.drop q) (a.drop q)= .tup [ts[q],a[q]]::eJ (ts.drop (q+1)) (a.drop (q+1)):=by
 rw[Xm c,Xm b];rfl
def HD{A:List (List Int)}(h:St A N w)(hi:i<N)(c:j<N):∀a∈A.getD i [],∀b∈A.getD j [],IntMulOk a b:=λa e b d=>gc (h.sm _ (h.mem hi) a e) (h.sm _ (h.mem c) b d) (by decide)
def vp(G:Mx.Fn)(i q:Nat):aq ((List.range q).map λj=>Mx.lam G i j)++[.int (Mx.lam G i q)]=aq ((List.range (q+1)).map λj=>Mx.lam G i j):=by rw[YB,Yi];simp[aq]
def p9(G:Mx.Fn){i q k:Nat}(h:k<q):((List.range q).map λj=>Mx.lam G i j).getD k 0=Mx.lam G i k:=by rw[Mx.aJ (by simpa using h),Xx,XG]
def Fe:WS sO 3 Hb y6:=by
 rintro U st K ⟨A,N,w,i,B,P,M,o,rfl,s,t,⟨O,m,E⟩,c,l,z,F,k⟩;show⟨rfl,?_⟩;let S:=c.is.len;let I:=E.len;let lt:=t.len;rw[Mx.BX]at lt;let T:=c.gm.le;let Q:=c.is.fZ _ (c.mem l);let R:=c.wd;show⟨Xb rfl,?_⟩;let C:Ext st (st++[.lst []]):=Ext.push;let L:(st++[Cell.lst []])[st.length]?=some (.lst (aq ((List.range 0).map λj=>Mx.lam (Mx.ae A) i j))):=by simp
 show jG (C.items s) (C.items m) λok G=>?_;show fg (λrest σ d=>∃(q:Nat) (v u:Option D),q<=i/\σ=[some B,some P,some M,some (.ref st.length),v,u]/\rest=eJ (o.drop q) (O.drop q)/\Ext st d/\d.length=st.length+1/\d[st.length]?=some (.lst (aq ((List.range q).map λj=>Mx.lam (Mx.ae A) i j)))) ?_ ?_ _ _ _ ⟨0,none,none,Xq _,rfl,rfl,C,by simp,L⟩
 . rintro σ p ⟨q,v,u,H,rfl,a,X,f,e⟩;show⟨G _ (X.items s) (X.items m),?_⟩
   let b:q=i:=by
    by_cases h:q<i
    . rw[y_ (by lia) (by lia)]at a;cases a
    . lia
   subst b;show mz (by rfl) e ?_;show⟨_,_,A.getD q [],A.getD q [],rfl,X.items z,X.items z,by lia,HD c l l,?_⟩;show⟨Mx.ae A,N,q,q,q,(List.range q).map λj=>Mx.lam (Mx.ae A) q j,(List.range q).map λj=>Mx.lam (Mx.ae A) q j,B,.ref st.length,.ref st.length,o,rfl,X.items s,X.wX t,ax e,ax e,by simp,by simp,WX _,λk n=>⟨p9 _ n,p9 _ n⟩,λk n=>F k (by lia),c.gm,l,l,?_⟩;show ke e (by rw[Yl];simp;lia) ?_;let g:=(WV.mp e).1
   let J:(p.set st.length (.lst (aq ((List.range q).map λj=>Mx.lam (Mx.ae A) q j)++[.int (Mx.gx (Mx.ae A) q (Mx.ae A q) q)])))[st.length]?=some (.lst (aq (Mx.aW (Mx.ae A) q))):=by
    rw[W9 g];let:=vp (Mx.ae A) q q;unfold Mx.lam at this⊢;unfold Mx.aW Mx.lam;rw[this]
   show k _ (X.set (WX _)) (by rw[Xf];show f) J
 . rintro x rest σ p ⟨q,v,u,H,rfl,a,X,f,e⟩ next
   let b:q<i:=by
    by_cases h:q<i
    . show h
    . have:o.drop q=[]:=Y1 (by lia);rw[this]at a;cases a
   rw[y_ (by lia) (by lia),Yy]at a;obtain⟨rfl,rfl⟩:=a;show⟨G _ (X.items s) (X.items m),_,rfl,?_⟩;let y:=oO E (q:=q) (by lia);let r:=oO t (q:=q) (by lia);rw[Mx.El _ b]at r;show mz (by rfl) e ?_;show⟨_,_,A.getD i [],A.getD q [],rfl,X.items z,X.items y,by lia,HD c l (by lia),?_⟩;show⟨Mx.ae A,N,i,q,i,(List.range q).map λj=>Mx.lam (Mx.ae A) i j,Mx.aW (Mx.ae A) q,B,.ref st.length,o[q],o,rfl,X.items s,X.wX t,ax e,X.items r,by simp,by rw[Mx.dk];lia,by lia,λk n=>⟨p9 _ n,Mx.ij _ (by lia)⟩,λk n=>F k (by lia),c.gm,l,by lia,?_⟩;show ke e (by rw[Yl];simp;lia) ?_;let g:=(WV.mp e).1;show next _ _ ⟨q+1,_,_,b,rfl,rfl,X.set (WX _),by rw[Xf];show f,?_⟩
   rw[W9 g];let:=vp (Mx.ae A) i q;unfold Mx.lam at this⊢;rw[this]
structure Tb(st:af)(tb:Nat)(rs:List Nat)(G:Mx.Fn)(N:Nat):Prop where
 et:st[tb]?=some (Cell.lst (rs.map D.ref))
 lr:rs.length=N
 nd:∀(i j c:Nat),rs[i]?=some c->rs[j]?=some c->i=j
 nt:∀(i c:Nat),rs[i]?=some c->c≠tb
 row:∀(i c:Nat),rs[i]?=some c->st[c]?=some (Cell.lst (aq (Mx.aW G i)))
def Tb.rows{st:af}{f:Nat}{a:List Nat}{G:Mx.Fn}{N:Nat}(T:Tb st f a G N):bL st (a.map D.ref) (Mx.pD G N):=by
 let b:∀(l:List Nat) (n:Nat),(∀(i c:Nat),l[i]?=some c->st[c]?=some (Cell.lst (aq (Mx.aW G (n+i)))))->bL st (l.map D.ref) ((List.range l.length).map λi=>Mx.aW G (n+i)):=by
  intro l;induction l with
  |nil=>intro n h;trivial
  |cons c l g=>
   intro n h;rw[Xw,Yp,XH,XH,Xy];show⟨ax (by let:=h 0 c rfl;show this),?_⟩
   let:=g (n+1) λi d j=>by
    let:=h (i+1) d (by simpa using j);rw[show n+1+i=n+(i+1) by lia];show this
   let e:((λi=>Mx.aW G (n+i))∘Nat.succ)=λi=>Mx.aW G (n+1+i):=by
    funext i;change Mx.aW G (n+(i+1))=_;rw[show n+1+i=n+(i+1) by lia]
   rw[e];show this
 let h:=b a 0 λi c k=>by rw[ZZ];show T.row i c k
 rw[T.lr]at h;unfold Mx.pD;let e:(λi=>Mx.aW G (0+i))=Mx.aW G:=by funext i;rw[ZZ]
 rw[e]at h;show h
def Tb.ext{st a:af}{b:Nat}{d:List Nat}{G:Mx.Fn}{N:Nat}(T:Tb st b d G N)(f:a[b]?=st[b]?)(e:∀(i c:Nat),d[i]?=some c->a[c]?=st[c]?):Tb a b d G N:=⟨f.trans T.et,T.lr,T.nd,T.nt,λi c h=>(e i c h).trans (T.row i c h)⟩
def ng:bN:=λd st K=>∃(A:List (List Int)) (N w:Nat) (dA:D),d=[dA]/\dM st dA A/\St A N w/\(∀k,k<=N->Mx.D k (Mx.ae A)≠0)/\∀a b,Ext st a->Tb a st.length b (Mx.ae A) N->(∀(i c:Nat),b[i]?=some c->st.length<c)->K (.ref st.length) a
def xG:List Str:=["steps","table","step","line"]
def Fc:DS:=(av (aM 1 (mO ag))
 (av (fm (dy (aa 0)) (bf 2) (av (aM 3 (ay sO (ab (aa 1) (ab (aa 0) (ab (aa 2) ag)))))
 (av (cS (a_ (ai gN (ai aN (aa 3) (iU ff (dC (.int 1)))) (dC (.int 0)))) BU cA)
 (d6 (fM (aa 1) (aa 3))))))
 (a6 (aa 1))))
def rq{i:Nat}{σ:bX}{st:af}{K:DK}{d:D}(h:σ[i]?=some (some d))(k:K d st):aa i σ st K:=by
 unfold aa;simp![h];show k
def Dh:WS ng 1 Fc xG:=by
 rintro ds st K ⟨A,N,w,M,rfl,I,B,H,k⟩;show⟨rfl,?_⟩;obtain⟨L,o,G⟩:=I.ex;let Z:=B.is.len;let U:=G.len;let h8:=B.gm.le;show⟨Xb rfl,?_⟩;let P:Ext st (st++[.lst []]):=Ext.push;let T0:Tb (st++[Cell.lst []]) st.length [] (Mx.ae A) 0:=⟨by simp,rfl,λi j c h=>by simp at h,λi c h=>by simp at h,λi c h=>by simp at h⟩
 show xZ (P.items o) λok O=>?_;show fg (λrest σ n=>∃(q:Nat) (e:List Nat) (u t:Option D),q<=N/\σ=[some M,some (.ref st.length),u,t]/\rest=L.drop q/\Ext st n/\Tb n st.length e (Mx.ae A) q/\∀(i c:Nat),e[i]?=some c->st.length<c/\c<n.length) ?_ ?_ _ _ _ ⟨0,[],none,none,Xq _,rfl,rfl,P,T0,λi c h=>by simp at h⟩
 . rintro σ d ⟨q,e,u,t,S,rfl,a,X,T,p⟩;show⟨O _ (X.items o),?_⟩
   let g:q=N:=by
    let:=Ye List.length a;simp at this;lia
   subst g;show k _ e X T λi c h=>(p i c h).1
 . rintro x rest σ d ⟨q,e,u,t,S,rfl,a,X,T,p⟩ next
   let g:q<N:=by
    let:=Ye List.length a;simp at this;lia
   rw[Xm (show q<L.length by lia),Yy]at a;obtain⟨rfl,rfl⟩:=a;show⟨O _ (X.items o),_,rfl,?_⟩;let y:=oO G (q:=q) (by lia);show⟨A,N,w,q,.ref st.length,M,_,_,rfl,ax T.et,T.rows,X.AK I,B,g,X.items y,λk hk=>H k (by lia),λv F R J=>?_⟩;let Y:=X.trans F;let z:st.length<d.length:=(WV.mp T.et).1;let Q:=T.lr;show dY (aA (ax J) (lJ (Mx.dk _ q)) ?_);rw[Mx.ij _ (WX q),Mx.cH];show Nq (H (q+1) (by lia)) ?_;let s:v[st.length]?=some (.lst (e.map D.ref)):=(F.same _ z).trans T.et;show mz (by rfl) s (rq rfl (ke s (by rw[Yl,W2];lia) ?_))
   let f:∀(i c:Nat),(e++[d.length])[i]?=some c->(i<q/\e[i]?=some c)\/(i=q/\c=d.length):=λi c h=>by
    by_cases l:i<e.length
    . rw[W3 l]at h;show .inl ⟨by lia,h⟩
    . have r:=(WV.mp h).1;let:i=e.length:=by simp at r;lia
      rw[Xr (by lia),this,Y0]at h;simp at h;show .inr ⟨by lia,h.symm⟩
   show next _ _ ⟨q+1,e++[d.length],_,_,g,rfl,rfl,Y.set (WX _),⟨?_,by simp[Q],λi j c l V=>?_,λi c l=>?_,λi c l=>?_⟩,λi c l=>?_⟩
   . rw[W9 (by lia),Yi];rfl
   . rcases f i c l with⟨m,b⟩|⟨m,b⟩<;>rcases f j c V with⟨W,E⟩|⟨W,E⟩
     . show T.nd i j c b E
     . have:=(p i c b).2;lia
     . have:=(p j c E).2;lia
     . lia
   . rcases f i c l with⟨m,b⟩|⟨m,b⟩
     . show T.nt i c b
     . lia
   . rcases f i c l with⟨m,b⟩|⟨m,b⟩
     . have C:=p i c b;rw[W0 (by lia),F.same c C.2];show T.row i c b
     . rw[b,m,W0 (by lia)];show J
   . rcases f i c l with⟨m,b⟩|⟨m,b⟩
     . have C:=p i c b;show⟨C.1,by rw[Xf];lia⟩
     . show⟨by lia,by rw[Xf];lia⟩
abbrev w6(G:Mx.Fn)(N:Nat):List D:=(List.range N).map λk=>iK (Mx.D (k+1) G) (Mx.D k G)
abbrev CO(G:Mx.Fn)(i:Nat):List D:=(List.range i).map λj=>iK (Mx.lam G i j) (Mx.D (j+1) G)
abbrev CC(G:Mx.Fn)(N:Nat):List D:=(List.range N).map λi=> .tup (CO G i)
def Tb.at{st:af}{b:Nat}{a:List Nat}{G:Mx.Fn}{N k:Nat}(T:Tb st b a G N)(h:k<N):st[a.getD k 0]?=some (.lst (aq (Mx.aW G k))):=by
 let c:=T.lr;show T.row k _ ?_;rw[Xa,W7 (by lia)];rfl
def Tb.refs{st:af}{b:Nat}{a:List Nat}{G:Mx.Fn}{N:Nat}(T:Tb st b a G N):a.map D.ref=(List.range N).map λk=>D.ref (a.getD k 0):=by
 let c:=T.lr;show aaf (by simp[c]) λi d e=>?_;rw[Xx,Xx,XG,Xa,W7 (by simpa using d)];rfl
def oi:bN:=λa st K=>∃(G:Mx.Fn) (N tb:Nat) (rs:List Nat),a=[.ref tb]/\Tb st tb rs G N/\Gm G N/\(∀k,k<=N->Mx.D k G≠0)/\K (.tup (w6 G N)) st
def sQ:List Str:=["table","lasts"]
def Cd:DS:=(av (aM 1 (cp (dy (aa 0)) [none] (bf 0) bI (ai aN (aa 0) (iU ff (dC (.int 1))))))
 (a6 (bz cN (ab (cp (kc (ab (aa 1) (ab (ai cE (mP (ab (dC (.int 1)) ag)) (aa 1)) ag))) [none,none] (dN 0 1) bI (ay nZ (ab (aa 0) (ab (aa 1) ag)))) ag))))
def fG{f h:Nat->D}{N:Nat}{i:fu}{j:DE}{ok:af->Prop}{g:bX}{st:af}{K:List D->af->Prop}(m:ok st)(o:∀k,k<N->∀n,n (h k) st->∃e,i (f k) g=some e/\j e st n)(k:K ((List.range N).map h) st):dc i bI j ok g ((List.range N).map f) [] st K:=by
 show gD (λrest c a=>a=st/\∃q,q<=N/\rest=((List.range N).map f).drop q/\c=(List.range q).map h) ?_ ?_ _ _ _ ⟨rfl,0,Xq _,rfl,rfl⟩
 . rintro c a ⟨rfl,q,p,d,rfl⟩
   let:q=N:=by
    let:=Ye List.length d;simp at this;lia
   subst this;show⟨m,k⟩
 . rintro x rest c a ⟨rfl,q,p,d,rfl⟩ next
   let b:q<N:=by
    let:=Ye List.length d;simp at this;lia
   rw[Xm (by simpa using b),Yy,Xx,XG]at d;obtain⟨rfl,rfl⟩:=d;obtain⟨e,r,t⟩:=o q b (λy l=>dc i bI j ok g _ ((List.range q).map h++[y]) l K) (next _ _ ⟨rfl,q+1,b,rfl,by rw[YB,Yi];rfl⟩);show⟨m,e,r,t⟩
def om{a b:Nat->D}(h:N<=M):eJ ((List.range N).map a) ((List.range M).map b)=(List.range N).map λk=> .tup [a k,b k]:=by
 show abn λk=>?_;unfold eJ;rw[W_,W_];by_cases c:k<N
 . rw[Yb c]
   let e:(((List.range N).map a).zip ((List.range M).map b))[k]?=some (a k,b k):=by
    rw[aap];show⟨by rw[W_,Yb c];rfl,by rw[W_,Yb (by lia)];rfl⟩
   rw[e];rfl
 . have d:(((List.range N).map a).zip ((List.range M).map b))[k]?=none:=Yw (by rw[abI];simp;lia);rw[d,Yw (by simpa using c)];rfl
def zV:WS oi 1 Cd sQ:=by
 rintro m st K ⟨G,N,i,j,rfl,T,g,c,k⟩;show⟨rfl,?_⟩;let l:=g.le;show xZ (ax T.et) λok a=>⟨cx (by rw[W2,T.lr];lia),?_⟩
 let d:=a _ (ax T.et);rw[T.refs];show fG (h:=λk=> .int (Mx.D (k+1) G)) d (λq b f t=>⟨_,rfl,dY (aA (ax (T.at b)) (lJ (Mx.dk G q)) ?_)⟩) ?_
 . rw[Mx.ij G (WX q),Mx.cH];show t
 show UY (Xb rfl) (DW (by rw[Yl];simp;lia) ?_)
 let e: [D.int 1]++(List.range N).map (λk=>D.int (Mx.D (k+1) G))=(List.range (N+1)).map λk=>D.int (Mx.D k G):=by
  rw[Yp,XH,Xy];rfl
 rw[e];show jG rfl rfl λok a=>⟨cx (by rw[jd];simp;lia),?_⟩
 rw[om (by lia)];show fG (h:=λk=>iK (Mx.D (k+1) G) (Mx.D k G)) (a _ rfl rfl) (λq b f t=>⟨_,rfl,⟨_,_,rfl,c q (by lia),Gv (g.D (by lia)) (c q (by lia)),t⟩⟩) ?_;show cJ rfl k
def pf:bN:=λa st K=>∃(G:Mx.Fn) (N i tb:Nat) (rs:List Nat),a=[.ref tb,.ref (rs.getD i 0)]/\Tb st tb rs G N/\i<N/\Gm G N/\(∀k,k<=N->Mx.D k G≠0)/\K (.tup (CO G i)) st
def uR:List Str:=["table","line"]
def DF:DS:=(a6 (bz cN (ab (cp (kc (ab (gq (aa 1) fH (hZ (iU ff (dC (.int 1))))) (ab (aa 0) ag))) [none,none] (dN 0 1) bI (ay nZ (ab (aa 0) (ab (ai aN (aa 1) (iU ff (dC (.int 1)))) ag)))) ag)))
def Lc{r:List Int}(h:r.length=n+1):L3.cutD (aq r) none (some (-1))=aq (r.take n):=by
 unfold L3.cutD;rw[HT.qp]
 let e:HT.bY (aq r).length (aq r).length (some (-1))=n:=by
  change(if(-1:Int)<0 then((-1:Int)+((aq r).length:Int)).toNat else min (-1:Int).toNat (aq r).length)=n;rw[WY (by decide),W2];lia
 rw[e,ab0,abB];unfold aq;rw[ZN]
def Cu:WS pf 2 DF uR:=by
 rintro o st K ⟨G,N,i,f,l,rfl,T,c,g,a,k⟩;show⟨rfl,?_⟩;let n:=g.le;show dY (ku (T.at c) ?_);rw[Lc (Mx.dk G i)]
 let d:aq ((Mx.aW G i).take i)=(List.range i).map λj=> .int (Mx.lam G i j):=by
  unfold Mx.aW;rw[<-ZN,List.take_range,ZU (by lia)];unfold aq;rw[Xy];rfl
 rw[d];show jG rfl (ax T.et) λok e=>⟨cx (by rw[jd];simp;lia),?_⟩
 let b:=e _ rfl (ax T.et);rw[T.refs,om (by lia)];show fG (h:=λj=>iK (Mx.lam G i j) (Mx.D (j+1) G)) b (λq m p t=>⟨_,rfl,?_⟩) ?_
 . show dY (aA (ax (T.at (by lia))) (lJ (Mx.dk G q)) ?_);rw[Mx.ij G (WX q),Mx.cH];show⟨_,_,rfl,a (q+1) (by lia),Gv (g.D (by lia)) (a (q+1) (by lia)),t⟩
 show cJ rfl k
def j6:bN:=λb st K=>∃(A:List (List Int)) (N w:Nat) (dA:D),b=[dA]/\dM st dA A/\St A N w/\(∀k,k<=N->Mx.D k (Mx.ae A)≠0)/\∀a,Ext st a->K (.tup [.tup (w6 (Mx.ae A) N),.tup (CC (Mx.ae A) N)]) a
def CS:List Str:=["steps","table"]
def LJ:DS:=(av (aM 1 (ay ng (ab (aa 0) ag)))
 (a6 (jb (ab (ay oi (ab (aa 1) ag)) (ab (bz cN (ab (cp (dy (aa 1)) [none,some 1] (bf 0) bI (ay pf (ab (aa 1) (ab (aa 0) ag)))) ag)) ag)))))
def Iy:WS j6 1 LJ CS:=by
 rintro o st K ⟨A,N,w,j,rfl,g,a,c,k⟩;show⟨rfl,?_⟩;let n:=a.gm.le;show⟨A,N,w,j,rfl,g,a,c,λb d m T _=>?_⟩;show⟨_,N,_,d,rfl,T,a.gm,c,?_⟩;show xZ (ax T.et) λok l=>⟨cx (by rw[W2,T.lr];lia),?_⟩
 let f:=l _ (ax T.et);rw[T.refs];show fG (h:=λi=> .tup (CO (Mx.ae A) i)) f (λq e p t=>⟨_,rfl,⟨_,N,q,_,d,rfl,T,e,a.gm,c,t⟩⟩) ?_;show cJ rfl ⟨Xb rfl,k b m⟩
def ju:List Int->Nat->Option Nat
 | [],_=>none
 |x::xs,i=>if x=0 then ju xs (i+1)else some i
def mj(r:List Int):Option Nat:=ju r 0
def mZ(r:List Int):D:=match mj r with
 |some k=> .int (k:Int)
 |none=> .aD
def oP:bN:=λa st K=>∃(d:D) (r:List Int),a=[d]/\items? st d=some (aq r)/\K (mZ r) st
def zK:List Str:=["row","place","number"]
def JD:DS:=(av (fm (FK (ab (aa 0) ag)) (dN 1 2) (cS (a_ (ai pM (aa 2) (dC (.int 0)))) (a6 (aa 1)) cA))
 (a6 (dC .aD)))
def Fh:WS oP 1 JD zK:=by
 rintro l st K ⟨d,r,rfl,g,k⟩;show⟨rfl,?_⟩;show Oo g λok j=>?_;show fg (λrest σ b=>b=st/\∃(f e:Option D) (s:List Int) (i:Nat),σ=[some d,f,e]/\rest=jM i (aq s)/\ju r 0=ju s i) ?_ ?_ _ _ _ ⟨rfl,none,none,r,0,rfl,rfl,rfl⟩
 . rintro σ b ⟨rfl,f,e,s,i,rfl,a,c⟩;match s,a with
   | [],_=>
     show⟨j _ g,?_⟩;let:mZ r= .aD:=by unfold mZ mj;rw[c];rfl
     rw[this]at k;show k
 . rintro x rest σ b ⟨rfl,f,e,s,i,rfl,a,c⟩ next
   match s,a,c with
   |y::s,a,c=>
    simp![aq,XH,jM,Yy]at a;obtain⟨rfl,rfl⟩:=a;show⟨j _ g,_,rfl,?_⟩;show ne2 (λh=>eN ?_) λh=>?_
    . have:mZ r= .int (i:Int):=by unfold mZ mj;rw[c];unfold ju;rw[WW h]
      rw[this]at k;show k
    . show next _ _ ⟨rfl,_,_,s,i+1,rfl,rfl,?_⟩
      rw[c];unfold ju;rw[WY h];cases s<;>rfl
   | [],a,_=>cases a
def B6:∀(r:List Int) (i l:Nat),(∀c,c<l->r.getD c 0=0)->r.getD l 0≠0->ju r i=some (i+l)
 | [],_,_,_,h=>(h rfl).elim
 |x::r,i,0,_,h=>by
  unfold ju;rw[WW (show¬x=0 from h)];rfl
 |x::r,i,l+1,a,h=>by
  unfold ju;rw[WY (show x=0 from a 0 (Nat.zero_lt_succ _)),B6 r (i+1) l (λc b=>a (c+1) (abD b)) h,Nat.add_right_comm];rfl
def qi:∀(r:List Int) (i:Nat),ju r i=none->∀c,r.getD c 0=0
 | [],_,_,_=>rfl
 |x::r,i,h,c=>by
  unfold ju at h;split at h
  . cases c with
    |zero=>assumption
    |succ c=>show qi r (i+1) h c
  . cases h
def IS{r:List Int}(h:∀c,c<l->r.getD c 0=0)(h':r.getD l 0≠0):mj r=some l:=by
 let:=B6 r 0 l h h';rw[ZZ]at this;show this
def gh:bN:=λa st K=>∃(t d:Int),a=[.int t,.int d]/\d≠0/\K (.int (Mx.qn t d)) st
def mf:List Str:=["top","bottom"]
def tJ:DS:=(a6 (ai pY (ai cE (ai bo (dC (.int 2)) (aa 0)) (aa 1)) (ai bo (dC (.int 2)) (aa 1))))
def rV{a b:Int}(d:a.natAbs<=2^m)(c:b.natAbs<=2^n):(a*b).natAbs<=2^(m+n):=by
 rw[Xo,YJ];show XM d c
def d7{a b:Int}(f:a.natAbs<=2^m)(e:b.natAbs<=2^n)(d:m<1000000)(c:n<1000000):IntMulOk a b:=by
 let g:(1000000:Nat)<=2^20:=by decide
 let q:∀ {x:Int} {k:Nat},x.natAbs<=2^k->k<1000000->Builtin.Int.intBits x<=2^20:=λ{x k} h i=>WZ (CY (X_ h (YA (by decide) (XC k)))) (by lia);show .of_bits (q f d) (q e c)
def AA{a:Int}(b:a.natAbs<=2^m)(d:a≠0)(c:m+1<9000):a.natAbs.log2<9000:=by
 let l:(2:Nat)^m<2^(m+1):=YA (by decide) (XC m);let:=(Zi (show a.natAbs≠0 by lia)).mpr (X_ b l);lia
def qZ:WS gh 2 tJ mf:=by
 rintro b st K ⟨t,d,rfl,a,k⟩;show⟨rfl,bC (fJ (by decide) (by decide)) (cW (bC (fJ (by decide) (by decide)) (BR (by lia) k)))⟩
def jF:bN:=λa st K=>∃(n k o:Nat) (A:List (List Int)),a=[.ref n,.int k,.int o]/\st[n]?=some (.lst (A.map bD))/\k<A.length/\o<A.length/\K (.ref st.length) (st++[.lst ((Mx.aR A k o).map bD)])
def uU:List Str:=["rows","k","other","order"]
def Dy:DS:=(av (aM 3 (bz r8 (ab (aa 0) ag)))
 (av (fY (aa 3) (aa 1) (ai aN (aa 0) (aa 2)))
 (av (fY (aa 3) (aa 2) (ai aN (aa 0) (aa 1)))
 (a6 (aa 3)))))
def dG{A:List (List Int)}(h:j<A.length):dw (A.map bD) (j:Int)=some (bD (A.getD j [])):=by
 show eP ?_;rw[W_,W7 h,Mx.aJ h];rfl
def iA{m k:Nat}(h:k<m):km m (k:Int)=some k:=by
 let:=Rp (i:=(k:Int)) (m:=m) (by lia) (by lia);rw[Xv]at this;show this
def iF{A:List (List Int)}{k:Nat}:(A.map bD).set k (bD r)=(A.set k r).map bD:=by rw[aa2]
def C0:WS jF 3 Dy uU:=by
 rintro m st K ⟨n,k,o,A,rfl,e,d,b,f⟩;show⟨rfl,?_⟩;let c:n<st.length:=(WV.mp e).1;show Lh (ax e) ?_;let l:(st++[Cell.lst (A.map bD)])[n]?=some (.lst (A.map bD)):=by rw[W3 c];show e
 let j:(st++[Cell.lst (A.map bD)])[st.length]?=some (.lst (A.map bD)):=by simp
 show aA (ax l) (dG b) (iz j (by rw[W2];show iA d) ?_);rw[iF]
 let g:(st++[Cell.lst (A.map bD)]).set st.length (.lst ((A.set k (A.getD o [])).map bD))=st++[Cell.lst ((A.set k (A.getD o [])).map bD)]:=by
  rw[ab1 _ _ (WX _),Y0];rfl
 rw[g];let i:(st++[Cell.lst ((A.set k (A.getD o [])).map bD)])[n]?=some (.lst (A.map bD)):=by rw[W3 c];show e
 let h:(st++[Cell.lst ((A.set k (A.getD o [])).map bD)])[st.length]?=some (.lst ((A.set k (A.getD o [])).map bD)):=by simp
 show aA (ax i) (dG d) (iz h (by rw[W2,Xf];show iA b) ?_);rw[iF]
 let a:(st++[Cell.lst ((A.set k (A.getD o [])).map bD)]).set st.length (.lst (((A.set k (A.getD o [])).set o (A.getD k [])).map bD))=st++[Cell.lst ((Mx.aR A k o).map bD)]:=by
  rw[ab1 _ _ (WX _),Y0];rfl
 rw[a];show f
def mr:bN:=λa st K=>∃(d:D) (r:List Int),a=[d]/\items? st d=some (aq r)/\r.length<=1000/\K (bD (r.map λx=> -x)) st
def zh:List Str:=["row"]
def Jq:DS:=(a6 (cp (dy (aa 0)) [none] (bf 0) bI (iU ff (aa 0))))
def F9:WS mr 1 Jq zh:=by
 rintro i st K ⟨d,r,rfl,f,c,k⟩;show⟨rfl,?_⟩;show tE f λok h=>⟨cx (by unfold aq;rw[W2];show c),?_⟩
 show comp_map (g:=λx=>match x with| .int a=> .int (-a)|_=> .aD) h _ (λx b j q=>?_) ?_
 . unfold aq at b;obtain⟨a,_,rfl⟩:=XB.mp b;show⟨_,rfl,dY q⟩
 . have e:(aq r).map (λx=>match x with| .int a=> .int (-a)|_=> .aD)=aq (r.map λx=> -x):=by unfold aq;rw[Xy,Xy];rfl
   rw[e];show k
structure Bn(st:af)(b xb xu xc:Nat)(A U C:List (List Int)):Prop where
 eb:st[b]?=some (Cell.ins aC [("body",.ref xb),("turn",.ref xu),("back_columns",.ref xc)])
 e1:st[xb]?=some (Cell.lst (A.map bD))
 e2:st[xu]?=some (Cell.lst (U.map bD))
 e3:st[xc]?=some (Cell.lst (C.map bD))
 n1:xb≠xu
 n2:xb≠xc
 n3:xu≠xc
def gj{st:af}{b x:Nat}{C:Addr}{fs:List (Str×D)}{xs:List D}(a:st[b]?=some (Cell.ins C fs))(c:st[x]?=some (Cell.lst xs)):b≠x:=λz=>by rw[z,c]at a;cases a
def hJ:bN:=λc st K=>∃(b N:Nat) (d:D) (A:List (List Int)),c=[.ref b,d]/\st[b]?=some (.ins aC [])/\dM st d A/\A.length=N/\N<=8/\∀a,Bn a b st.length (st.length+1) (st.length+2) A (Mx.units N) (Mx.units N)->a.length=st.length+3->(∀m,m<st.length->m≠b->a[m]?=st[m]?)->K .aD a
def j5:List Str:=["self","rows"]
def vE:DS:=(av (lV aC "body" (aa 0) (sI (dy (aa 1)) [none] (bf 0) bI (bz oE (ab (aa 0) ag))))
 (av (lV aC "turn" (aa 0) (sI (dy (ay jH (ab (bz dB (ab (aa 1) ag)) ag))) [none] (bf 0) bI (bz oE (ab (aa 0) ag))))
 (lV aC "back_columns" (aa 0) (sI (dy (ay jH (ab (bz dB (ab (aa 1) ag)) ag))) [none] (bf 0) bI (bz oE (ab (aa 0) ag))))))
def qL(f:Str)(v:D):∀fs:List (Str×D),(putD f v fs).length<=fs.length+1
 | []=>by simp[putD]
 |(g,x)::r=>by
  unfold putD;split
  . simp
  . have:=qL f v r;simp![Xw];lia
def B8{st:af}{A:List (List Int)}:bL st (A.map cm) A:=bL.tup
def yY(n:Nat):(Mx.units n).length=n:=by unfold Mx.units;simp
def uD:WS hJ 2 vE j5:=by
 rintro Z st K ⟨b,N,d,A,rfl,y,R,W,X,k⟩;show⟨rfl,?_⟩;let Q:b<st.length:=(WV.mp y).1;obtain⟨I,g,E⟩:=R.ex;let P:=E.len;let lst:∀(e:D) (r:List Int),True:=λ_ _=>trivial;show tE g λok V=>⟨cx (by lia),?_⟩
 show m_ bD V E (λe r G s L q=>⟨_,rfl,ud s q⟩) ?_;let x:(st++[Cell.lst (A.map bD)])[b]?=some (.ins aC []):=by rw[W3 Q];show y
 show kh x (by decide) ?_;generalize i:(st++[Cell.lst (A.map bD)]).set b (.ins aC (putD "body" (.ref st.length) []))=st1;let F:st1.length=st.length+1:=by rw[<-i];simp
 let H:∀m,m<st.length->m≠b->st1[m]?=st[m]?:=λm p f=>by rw[<-i,W0 (W4 f),W3 p]
 let J:st1[b]?=some (.ins aC (putD "body" (.ref st.length) [])):=by rw[<-i,W9 (by simp;lia)]
 let M:st1[st.length]?=some (.lst (A.map bD)):=by rw[<-i,W0 (by lia)];simp
 clear i
 let u:∃t,items? st1 d=some t/\t.length=N:=by
  cases d with
  |ref n=>
   by_cases j:n=b
   . subst j;unfold items? at g;simp![y]at g;cases g
   . have v:n<st.length:=by
      unfold items? at g;simp only at g;cases q:st[n]? with
      |none=>rw[q]at g;cases g
      |some c=>show(WV.mp q).1
     show⟨I,?_,by lia⟩;unfold items? at g⊢;simp only at g⊢;rw[H n v j];show g
  |_=>show⟨I,g,by lia⟩
 obtain⟨z,a,l⟩:=u;show cP a ?_;rw[l];show⟨N,rfl,by lia,?_⟩;show fj ⟨cx (by rw[W2,yY];lia),?_⟩;show m_ bD trivial B8 (λe r G s L q=>⟨_,rfl,ud s q⟩) ?_;let U:(st1++[Cell.lst ((Mx.units N).map bD)])[b]?=some (.ins aC (putD "body" (.ref st.length) [])):=by rw[W3 (by lia)];show J
 show kh U (by let:=qL "body" (.ref st.length) [];simp![aaq]at this;lia) ?_;generalize h:(st1++[Cell.lst ((Mx.units N).map bD)]).set b (.ins aC (putD "turn" (.ref st1.length) (putD "body" (.ref st.length) [])))=st2;let O:st2.length=st.length+2:=by rw[<-h];simp;lia
 let w:∀m,m<st1.length->m≠b->st2[m]?=st1[m]?:=λm p f=>by rw[<-h,W0 (W4 f),W3 p]
 let B:st2[b]?=some (.ins aC (putD "turn" (.ref st1.length) (putD "body" (.ref st.length) []))):=by rw[<-h,W9 (by simp;lia)]
 let C:st2[st1.length]?=some (.lst ((Mx.units N).map bD)):=by rw[<-h,W0 (by lia)];simp
 clear h
 let o:items? st2 d=some z:=by
  cases d with
  |ref n=>
   by_cases j:n=b
   . subst j;unfold items? at a;simp![J]at a;cases a
   . have v:n<st1.length:=by
      unfold items? at a;simp only at a;cases q:st1[n]? with
      |none=>rw[q]at a;cases a
      |some c=>show(WV.mp q).1
     unfold items? at a⊢;simp only at a⊢;rw[w n v j];show a
  |_=>show a
 show cP o ?_;rw[l];show⟨N,rfl,by lia,?_⟩;show fj ⟨cx (by rw[W2,yY];lia),?_⟩;show m_ bD trivial B8 (λe r G s L q=>⟨_,rfl,ud s q⟩) ?_;let T:(st2++[Cell.lst ((Mx.units N).map bD)])[b]?=some (.ins aC (putD "turn" (.ref st1.length) (putD "body" (.ref st.length) []))):=by rw[W3 (by lia)];show B
 show kh T (by let S:=qL "body" (.ref st.length) [];let Y:=qL "turn" (.ref st1.length) (putD "body" (.ref st.length) []);simp![aaq]at S;lia) ?_;show k _ ⟨?_,?_,?_,?_,by lia,by lia,by lia⟩ (by simp;lia) λm p f=>?_
 . rw[W9 (by simp;lia),F,O];rfl
 . rw[W0 (by lia),W3 (by lia),w _ (by lia) (by lia)];show M
 . rw[W0 (by lia),W3 (by lia)];rw[F]at C;show C
 . rw[W0 (by lia)];rw[show st.length+2=st2.length by lia];simp
 . rw[W0 (W4 f),W3 (by lia),w m (by lia) f,H m p f]
def iZ:bN:=λf st K=>∃(b e c d N w k j:Nat) (A U C:List (List Int)) (q:Int),f=[.ref b,.int k,.int q,.int j]/\Bn st b e c d A U C/\Mx.aX N w A/\Mx.aX N N U/\Mx.aX N N C/\k<N/\j<N/\N<=8/\w<=9/\(∀x∈A.getD j [],IntMulOk (-q) x)/\(∀x∈U.getD j [],IntMulOk (-q) x)/\(∀x∈C.getD k [],IntMulOk q x)/\
 ∀a,Bn a b e c d (Mx.aQ A k q j) (Mx.aQ U k q j) (Mx.aQ C j (-q) k)->a.length=st.length->(∀m,m≠e->m≠c->m≠d->a[m]?=st[m]?)->K .aD a
def ow:List Str:=["self","k","times","other"]
def Cn:DS:=(av (fY (cv aC "body" (aa 0)) (aa 1) (ay lz (ab (ai aN (cv aC "body" (aa 0)) (aa 1)) (ab (iU ff (aa 2)) (ab (ai aN (cv aC "body" (aa 0)) (aa 3)) ag)))))
 (av (fY (cv aC "turn" (aa 0)) (aa 1) (ay lz (ab (ai aN (cv aC "turn" (aa 0)) (aa 1)) (ab (iU ff (aa 2)) (ab (ai aN (cv aC "turn" (aa 0)) (aa 3)) ag)))))
 (fY (cv aC "back_columns" (aa 0)) (aa 3) (ay lz (ab (ai aN (cv aC "back_columns" (aa 0)) (aa 3)) (ab (aa 2) (ab (ai aN (cv aC "back_columns" (aa 0)) (aa 1)) ag)))))))
def zY:WS iZ 4 Cn ow:=by
 rintro ds st K ⟨b,g,f,x,N,w,k,j,A,U,C,q,rfl,B,E,z,D,l,y,hN,Z,M,J,L,V⟩;show⟨rfl,?_⟩;let T:=E.len;let R:=z.len;let S:=D.len;let Y:=Mx.ba E l;let rU:=Mx.ba z l;let X:=Mx.ba D y;let v:=gj B.eb B.e1;let u:=gj B.eb B.e2;let t:=gj B.eb B.e3;let p:=B.n1;let o:=B.n2;let n:=B.n3;show bg B.eb rfl (aA (ax B.e1) (dG (by lia)) (dY (bg B.eb rfl (aA (ax B.e1) (dG (by lia)) ?_))));show⟨_,_,-q,A.getD k [],A.getD j [],rfl,rfl,rfl,by lia,M,?_⟩;show bg B.eb rfl (iz B.e1 (by rw[W2,T];show iA l) ?_);rw[iF];let i:∀m,m≠g->(st.set g (.lst ((A.set k (Mx.fS (A.getD k []) (-q) (A.getD j []))).map bD)))[m]?=st[m]?:=λm r=>W0 (W4 r);let G:(st.set g (.lst ((A.set k (Mx.fS (A.getD k []) (-q) (A.getD j []))).map bD)))[g]?=some (.lst ((Mx.aQ A k q j).map bD)):=W9 (WV.mp B.e1).1;let I:(st.set g (.lst ((A.set k (Mx.fS (A.getD k []) (-q) (A.getD j []))).map bD))).length=st.length:=Xf;generalize st.set g (.lst ((A.set k (Mx.fS (A.getD k []) (-q) (A.getD j []))).map bD))=st1 at i G I⊢;let c:=(i b v).trans B.eb;let e:=(i f (W4 p)).trans B.e2;let s:=(i x (W4 o)).trans B.e3;show bg c rfl (aA (ax e) (dG (by lia)) (dY (bg c rfl (aA (ax e) (dG (by lia)) ?_))));show⟨_,_,-q,U.getD k [],U.getD j [],rfl,rfl,rfl,by lia,J,?_⟩;show bg c rfl (iz e (by rw[W2,R];show iA l) ?_);rw[iF];let h:∀m,m≠f->(st1.set f (.lst ((U.set k (Mx.fS (U.getD k []) (-q) (U.getD j []))).map bD)))[m]?=st1[m]?:=λm r=>W0 (W4 r);let F:(st1.set f (.lst ((U.set k (Mx.fS (U.getD k []) (-q) (U.getD j []))).map bD)))[f]?=some (.lst ((Mx.aQ U k q j).map bD)):=W9 (WV.mp e).1;let H:(st1.set f (.lst ((U.set k (Mx.fS (U.getD k []) (-q) (U.getD j []))).map bD))).length=st1.length:=Xf;generalize st1.set f (.lst ((U.set k (Mx.fS (U.getD k []) (-q) (U.getD j []))).map bD))=st2 at h F H⊢;let a:=(h b u).trans c;let d:=(h x (W4 n)).trans s;show bg a rfl (aA (ax d) (dG (by lia)) (bg a rfl (aA (ax d) (dG (by lia)) ?_)));show⟨_,_,q,C.getD j [],C.getD k [],rfl,rfl,rfl,by lia,L,?_⟩;show bg a rfl (iz d (by rw[W2,S];show iA y) ?_);rw[iF];let W:C.set j (Mx.fS (C.getD j []) q (C.getD k []))=Mx.aQ C j (-q) k:=by unfold Mx.aQ;rw[Int.neg_neg]
 rw[W];show V _ ⟨?_,?_,?_,?_,p,o,n⟩ (by rw[Xf];lia) λm Q P O=>?_
 . rw[W0 (W4 t)];show a
 . rw[W0 (W4 o),h _ p];show G
 . rw[W0 (W4 n)];show F
 . show W9 (WV.mp d).1
 . rw[W0 (W4 O),h m P,i m Q]
def ib:bN:=λf st K=>∃(b e c d N w k o:Nat) (A U C:List (List Int)),f=[.ref b,.int k,.int o]/\Bn st b e c d A U C/\Mx.aX N w A/\Mx.aX N N U/\Mx.aX N N C/\k<N/\o<N/\
 ∀a,Bn a b st.length (st.length+1) (st.length+2) (Mx.aR A k o) (Mx.aR U k o) (Mx.aR C k o)->a.length=st.length+3->(∀m,m<st.length->m≠b->a[m]?=st[m]?)->K .aD a
def j9:List Str:=["self","k","other"]
def vN:DS:=(av (lV aC "body" (aa 0) (ay jF (ab (cv aC "body" (aa 0)) (ab (aa 1) (ab (aa 2) ag)))))
 (av (lV aC "turn" (aa 0) (ay jF (ab (cv aC "turn" (aa 0)) (ab (aa 1) (ab (aa 2) ag)))))
 (lV aC "back_columns" (aa 0) (ay jF (ab (cv aC "back_columns" (aa 0)) (ab (aa 1) (ab (aa 2) ag)))))))
def uC:WS ib 3 vN j9:=by
 rintro R st K ⟨b,l,g,a,N,w,k,o,A,U,C,rfl,B,I,G,H,Q,P,y⟩;show⟨rfl,?_⟩;let O:=I.len;let L:=G.len;let M:=H.len;let J:=gj B.eb B.e1;let q:=gj B.eb B.e2;let j:=gj B.eb B.e3;let F:b<st.length:=(WV.mp B.eb).1;let z:g<st.length:=(WV.mp B.e2).1;let E:a<st.length:=(WV.mp B.e3).1;show bg B.eb rfl ?_;show⟨l,k,o,A,rfl,B.e1,by lia,by lia,?_⟩;let d:(st++[Cell.lst ((Mx.aR A k o).map bD)])[b]?=some (.ins aC [("body",.ref l),("turn",.ref g),("back_columns",.ref a)]):=by rw[W3 F];show B.eb
 show kh d (by simp) ?_;let h:putD "body" (.ref st.length) [("body",.ref l),("turn",.ref g),("back_columns",.ref a)]=([("body",.ref st.length),("turn",.ref g),("back_columns",.ref a)]:List (Str×D)):=rfl;rw[h];generalize f:(st++[Cell.lst ((Mx.aR A k o).map bD)]).set b (.ins aC [("body",.ref st.length),("turn",.ref g),("back_columns",.ref a)])=st1;let s:st1.length=st.length+1:=by rw[<-f];simp
 let p:∀m,m<st.length->m≠b->st1[m]?=st[m]?:=λm i c=>by rw[<-f,W0 (W4 c),W3 i]
 let u:st1[b]?=some (.ins aC [("body",.ref st.length),("turn",.ref g),("back_columns",.ref a)]):=by rw[<-f,W9 (by simp;lia)]
 let v:st1[st.length]?=some (.lst ((Mx.aR A k o).map bD)):=by rw[<-f,W0 (by lia)];simp
 clear f d;show bg u rfl ?_;show⟨g,k,o,U,rfl,(p g z (W4 q)).trans B.e2,by lia,by lia,?_⟩;let d:(st1++[Cell.lst ((Mx.aR U k o).map bD)])[b]?=some (.ins aC [("body",.ref st.length),("turn",.ref g),("back_columns",.ref a)]):=by rw[W3 (by lia)];show u
 show kh d (by simp) ?_;let h:putD "turn" (.ref st1.length) [("body",.ref st.length),("turn",.ref g),("back_columns",.ref a)]=([("body",.ref st.length),("turn",.ref st1.length),("back_columns",.ref a)]:List (Str×D)):=rfl;rw[h];generalize e:(st1++[Cell.lst ((Mx.aR U k o).map bD)]).set b (.ins aC [("body",.ref st.length),("turn",.ref st1.length),("back_columns",.ref a)])=st2;let x:st2.length=st.length+2:=by rw[<-e];simp;lia
 let n:∀m,m<st1.length->m≠b->st2[m]?=st1[m]?:=λm i c=>by rw[<-e,W0 (W4 c),W3 i]
 let t:st2[b]?=some (.ins aC [("body",.ref st.length),("turn",.ref st1.length),("back_columns",.ref a)]):=by rw[<-e,W9 (by simp;lia)]
 let r:st2[st1.length]?=some (.lst ((Mx.aR U k o).map bD)):=by rw[<-e,W0 (by lia)];simp
 clear e d;show bg t rfl ?_;show⟨a,k,o,C,rfl,((n a (by lia) (W4 j)).trans (p a E (W4 j))).trans B.e3,by lia,by lia,?_⟩;let d:(st2++[Cell.lst ((Mx.aR C k o).map bD)])[b]?=some (.ins aC [("body",.ref st.length),("turn",.ref st1.length),("back_columns",.ref a)]):=by rw[W3 (by lia)];show t
 show kh d (by simp) ?_;let h:putD "back_columns" (.ref st2.length) [("body",.ref st.length),("turn",.ref st1.length),("back_columns",.ref a)]=([("body",.ref st.length),("turn",.ref st1.length),("back_columns",.ref st2.length)]:List (Str×D)):=rfl;rw[h];show y _ ⟨?_,?_,?_,?_,by lia,by lia,by lia⟩ (by simp;lia) λm i c=>?_
 . rw[W9 (by simp;lia),s,x]
 . rw[W0 (by lia),W3 (by lia),n _ (by lia) (by lia)];show v
 . rw[W0 (by lia),W3 (by lia)];rw[s]at r;show r
 . rw[W0 (by lia)];rw[show st.length+2=st2.length by lia];simp
 . rw[W0 (W4 c),W3 (by lia),n m (by lia) c,p m i c]
def iJ:bN:=λf st K=>∃(b e c d N w k:Nat) (A U C:List (List Int)),f=[.ref b,.int k]/\Bn st b e c d A U C/\Mx.aX N w A/\Mx.aX N N U/\Mx.aX N N C/\k<N/\N<=8/\w<=9/\
 ∀a,Bn a b e c d (Mx.gZ A k) (Mx.gZ U k) (Mx.gZ C k)->a.length=st.length->(∀m,m≠e->m≠c->m≠d->a[m]?=st[m]?)->K .aD a
def iO:List Str:=["self","k"]
def rh:DS:=(av (fY (cv aC "body" (aa 0)) (aa 1) (ay mr (ab (ai aN (cv aC "body" (aa 0)) (aa 1)) ag)))
 (av (fY (cv aC "turn" (aa 0)) (aa 1) (ay mr (ab (ai aN (cv aC "turn" (aa 0)) (aa 1)) ag)))
 (fY (cv aC "back_columns" (aa 0)) (aa 1) (ay mr (ab (ai aN (cv aC "back_columns" (aa 0)) (aa 1)) ag)))))
def qC:WS iJ 2 rh iO:=by
 rintro V st K ⟨b,g,a,u,N,w,k,A,U,C,rfl,B,z,v,y,h,T,S,P⟩;show⟨rfl,?_⟩;let O:=z.len;let L:=v.len;let M:=y.len;let R:=Mx.ba z h;let rU:=Mx.ba v h;let Q:=Mx.ba y h;let t:=gj B.eb B.e1;let s:=gj B.eb B.e2;let r:=gj B.eb B.e3;let o:=B.n1;let n:=B.n2;let l:=B.n3;show bg B.eb rfl (aA (ax B.e1) (dG (by lia)) ?_);show⟨_,A.getD k [],rfl,rfl,by lia,?_⟩;show bg B.eb rfl (iz B.e1 (by rw[W2,O];show iA h) ?_);rw[iF];let j:∀m,m≠g->(st.set g (.lst ((A.set k ((A.getD k []).map λx=> -x)).map bD)))[m]?=st[m]?:=λm p=>W0 (W4 p);let E:(st.set g (.lst ((A.set k ((A.getD k []).map λx=> -x)).map bD)))[g]?=some (.lst ((Mx.gZ A k).map bD)):=W9 (WV.mp B.e1).1;let G:(st.set g (.lst ((A.set k ((A.getD k []).map λx=> -x)).map bD))).length=st.length:=Xf;generalize st.set g (.lst ((A.set k ((A.getD k []).map λx=> -x)).map bD))=st1 at j E G⊢;let d:=(j b t).trans B.eb;let f:=(j a (W4 o)).trans B.e2;let q:=(j u (W4 n)).trans B.e3;show bg d rfl (aA (ax f) (dG (by lia)) ?_);show⟨_,U.getD k [],rfl,rfl,by lia,?_⟩;show bg d rfl (iz f (by rw[W2,L];show iA h) ?_);rw[iF];let i:∀m,m≠a->(st1.set a (.lst ((U.set k ((U.getD k []).map λx=> -x)).map bD)))[m]?=st1[m]?:=λm p=>W0 (W4 p);let D:(st1.set a (.lst ((U.set k ((U.getD k []).map λx=> -x)).map bD)))[a]?=some (.lst ((Mx.gZ U k).map bD)):=W9 (WV.mp f).1;let F:(st1.set a (.lst ((U.set k ((U.getD k []).map λx=> -x)).map bD))).length=st1.length:=Xf;generalize st1.set a (.lst ((U.set k ((U.getD k []).map λx=> -x)).map bD))=st2 at i D F⊢;let c:=(i b s).trans d;let e:=(i u (W4 l)).trans q;show bg c rfl (aA (ax e) (dG (by lia)) ?_);show⟨_,C.getD k [],rfl,rfl,by lia,?_⟩;show bg c rfl (iz e (by rw[W2,M];show iA h) ?_);rw[iF];show P _ ⟨?_,?_,?_,?_,o,n,l⟩ (by rw[Xf];lia) λm J I H=>?_
 . rw[W0 (W4 r)];show c
 . rw[W0 (W4 n),i _ o];show E
 . rw[W0 (W4 l)];show D
 . show W9 (WV.mp e).1
 . rw[W0 (W4 H),i m I,j m J]
def gK:bN:=λe st K=>∃(b d a c N w top p:Nat) (A U C:List (List Int)) (f:Bool),e=[.ref b,.int top,.int p]/\Bn st b d a c A U C/\Mx.aX N w A/\top<=N/\N<=8/\p<w/\w<=9/\st[0]?=some (f6 f)/\
 ∀L,Mx.mE A N top p L->K (.lst (L.map λ(k:Nat)=> .int (k:Int))) (st.set 0 (f6 true))
def jB:List Str:=["self","top","place","live"]
def uG:DS:=(av (aM 3 (cp (kZ (ab (aa 1) (ab (bz dB (ab (cv aC "body" (aa 0)) ag)) ag))) [none,some 0,some 2] (bf 0) (a_ (ai pM (ai aN (ai aN (cv aC "body" (aa 1)) (aa 0)) (aa 2)) (dC (.int 0)))) (aa 0)))
 (a6 (CB 0 291 ⟨152,32,152,66⟩ "Bench.live_rows.<locals>.<lambda>" [none,some 0,some 2] (bz mF (ab (ai aN (ai aN (cv aC "body" (aa 1)) (aa 0)) (aa 2)) ag)) (aa 3))))
def sV{a b:Prop}(h:b):if false=true then a else b:=h
def Pu{st:af}{b:Nat}{C:Addr}{fs:List (Str×D)}{f:Bool}(a:st[b]?=some (Cell.ins C fs))(c:st[0]?=some (f6 f)):b≠0:=λz=>by rw[z,c]at a;cases a
def tO{st:af}{b:Nat}{xs:List D}{f:Bool}(a:st[b]?=some (Cell.lst xs))(c:st[0]?=some (f6 f)):b≠0:=λz=>by rw[z,c]at a;cases a
def Bn.keep{st a:af}{b e c d:Nat}{A U C:List (List Int)}(B:Bn st b e c d A U C)(h:∀m,m=b\/m=e\/m=c\/m=d->a[m]?=st[m]?):Bn a b e c d A U C:=
 ⟨(h b (.inl rfl)).trans B.eb,(h e (.inr (.inl rfl))).trans B.e1,(h c (.inr (.inr (.inl rfl)))).trans B.e2,(h d (.inr (.inr (.inr rfl)))).trans B.e3,B.n1,B.n2,B.n3⟩
def Bn.tab{st:af}{b e a d:Nat}(B:Bn st b e a d A U C)(h:st[0]?=some (f6 f))(c:Cell):Bn (st.set 0 c) b e a d A U C:=
 B.keep λm g=>W0 λz=>by
  subst z;rcases g with rfl|rfl|rfl|rfl
  . show Pu B.eb h rfl
  . show tO B.e1 h rfl
  . show tO B.e2 h rfl
  . show tO B.e3 h rfl
def oy{r:List Int}{k:Nat}(h:k<r.length):dw (aq r) (k:Int)=some (.int (r.getD k 0)):=by
 show eP ?_;unfold aq;rw[W_,W7 h,Mx.aJ h];rfl
def fD(A:List (List Int))(N top p:Nat):List Nat:=(List.range (N-top)).filterMap λi=>if Mx.g A (top+i) p≠0 then some (top+i)else none
def yV{N top p k:Nat}:k∈fD A N top p↔top<=k/\k<N/\Mx.g A k p≠0:=by
 unfold fD;rw[aas];constructor
 . rintro⟨i,a,e⟩;rw[XI]at a;split at e
   . rename_i h;cases e;show⟨by lia,by lia,h⟩
   . cases e
 . rintro⟨d,c,b⟩;show⟨k-top,XI.mpr (by lia),?_⟩;rw[show top+(k-top)=k by lia,WY b]
def pw_filterMap{f:Nat->Option Nat}(h:∀i j a b,i<j->f i=some a->f j=some b->a<b):∀ {l:List Nat},l.Pairwise (· < ·)->(l.filterMap f).Pairwise (· < ·)
 | [],_=>by simp
 |x::l,d=>by
  obtain⟨m,c⟩:=aba.mp d;rw[aam];split
  . show pw_filterMap h c
  . rename_i a e;show aba.mpr ⟨λb k=>?_,pw_filterMap h c⟩;obtain⟨j,g,n⟩:=aas.mp k;show h x j a b (m j g) e n
def pw_liveR{N top p:Nat}:(fD A N top p).Pairwise (· < ·):=by
 unfold fD;show pw_filterMap (λi j a b e d c=>?_) List.pairwise_lt_range;split at d
 . split at c
   . cases d;cases c;lia
   . cases c
 . cases d
def zR{f:Nat->Option Nat}(l:List Nat):(l.filterMap f).length<=l.length:=List.length_filterMap_le ..
def NP{N top p:Nat}{b:List (Int×Int)}(c:b.Perm (((fD A N top p).map λ(k:Nat)=>(((Mx.g A k p).natAbs:Nat):Int)).zip ((fD A N top p).map λ(k:Nat)=>(k:Int))))(m:b.Pairwise slt):
 Mx.mE A N top p (b.map λq=>q.2.toNat)/\b.map (λq=>D.int q.2)=(b.map λq=>q.2.toNat).map λ(k:Nat)=>D.int (k:Int):=by
 let g:((fD A N top p).map λ(k:Nat)=>(((Mx.g A k p).natAbs:Nat):Int)).zip ((fD A N top p).map λ(k:Nat)=>(k:Int))=(fD A N top p).map λk=>((((Mx.g A k p).natAbs:Nat):Int),(k:Int)):=by
  show List.zip_map' ..
 rw[g]at c
 let d:∀q∈b,∃k,k∈fD A N top p/\q=((((Mx.g A k p).natAbs:Nat):Int),(k:Int)):=λq a=>by
  obtain⟨k,f,n⟩:=XB.mp (c.mem_iff.mp a);show⟨k,f,n.symm⟩
 show⟨⟨λk=>?_,?_,?_⟩,?_⟩
 . rw[<-yV];constructor
   . intro h;obtain⟨q,a,e⟩:=XB.mp h;obtain⟨j,f,rfl⟩:=d q a;simp![Xv]at e;rw[<-e];show f
   . intro h;show XB.mpr ⟨((((Mx.g A k p).natAbs:Nat):Int),(k:Int)),c.mem_iff.mpr (XB.mpr ⟨k,h,rfl⟩),by simp⟩
 . rw[abj];show m.imp_of_mem λ{x y} l i h=>?_;obtain⟨j,_,rfl⟩:=d x l;obtain⟨k,_,rfl⟩:=d y i;unfold slt at h;simp![Xv];lia
 . have e:((fD A N top p).map λk=>((((Mx.g A k p).natAbs:Nat):Int),(k:Int))).map (λq=>q.2.toNat)=fD A N top p:=by
    rw[Xy];show(Xz λk _=>Xv k).trans (List.map_id _)
   let a:=c.map λq=>q.2.toNat;rw[e]at a;show a.nodup_iff.mpr (pw_liveR.imp λh=>Xn h)
 . rw[Xy];show Xz λq a=>?_;obtain⟨j,_,rfl⟩:=d q a;simp
def s_:WS gK 3 uG jB:=by
 rintro Z st K ⟨b,R,P,Q,N,w,top,p,A,U,C,f,rfl,B,u,X,Y,t,W,v,k⟩;show⟨rfl,?_⟩;let F:=u.len;let a:∀i,i<N->(A.getD i []).length=w:=λi s=>Mx.ba u s;show bg B.eb rfl (cP (ax B.e1) ?_);rw[W2,F];show tW ⟨by lia,by lia,by lia,by lia⟩ ⟨cx (by unfold cQ;simp;lia),?_⟩;let M:((N:Int)-(top:Int)).toNat=N-top:=by lia
 rw[M];show gD (λrest g c=>∃i:Nat,i<=N-top/\c=st/\rest=(List.range (N-top-i)).map (λj=>D.int ((top+i+j:Nat):Int))/\g=((List.range i).filterMap λi=>if Mx.g A (top+i) p≠0 then some (top+i)else none).map λ(k:Nat)=>D.int (k:Int)) ?_ ?_ _ _ _ ⟨0,Xq _,rfl,by unfold cQ;simp,by simp⟩
 . rintro g c ⟨i,s,rfl,e,rfl⟩
   let r:i=N-top:=by
    rcases Z_ i (N-top)with z|z
    . rw[show N-top-i=(N-top-i-1)+1 by lia,Yp]at e;cases e
    . lia
   subst r;show⟨trivial,?_⟩;let O:((fD A N top p).map λ(k:Nat)=>D.int (k:Int))=((fD A N top p).map λ(k:Nat)=>(k:Int)).map D.int:=by rw[Xy];rfl
   show⟨(fD A N top p).map λ(k:Nat)=>(k:Int),(fD A N top p).map λ(k:Nat)=>(((Mx.g A k p).natAbs:Nat):Int),f,Ye D.lst O,?_,?_,by rw[W2,W2],v,λi n q l m=>?_,λS o H=>?_⟩
   . rw[W2];let:=zR (f:=λi=>if Mx.g A (top+i) p≠0 then some (top+i)else none) (List.range (N-top));rw[aaC]at this;change(fD A N top p).length<64;unfold fD;lia
   . rw[abj];show pw_liveR.imp λh=>by lia
   . rw[W_]at l m;cases z:(fD A N top p)[i]? with
     |none=>rw[z]at l;cases l
     |some j=>
      rw[z]at l m;cases l;cases m;obtain⟨V,G,T⟩:=yV.mp (Xu z);let E:=B.tab v (f6 true);show bg E.eb rfl (aA (ax E.e1) (dG (by lia)) (aA rfl (oy (by rw[a j G];show t)) (nR ⟨rfl,rfl⟩)))
   . obtain⟨L,J⟩:=NP o H;rw[J];show k _ L
 . rintro d rest g c ⟨i,s,rfl,e,rfl⟩ next
   let I:i<N-top:=by
    rcases Z_ i (N-top)with z|z
    . show z
    . rw[show N-top-i=0 by lia]at e;cases e
   rw[show N-top-i=(N-top-i-1)+1 by lia,Yp,XH,Xy]at e;obtain⟨rfl,rfl⟩:=List.cons.inj e;show⟨trivial,_,rfl,?_⟩;show bg B.eb rfl (aA (ax B.e1) (dG (j:=top+i+0) (by lia)) (aA rfl (oy (by rw[a _ (by lia)];show t)) ?_));let y:List.range (i+1)=List.range i++[i]:=YB
   let x:((List.range (N-top-i-1)).map ((λj=>D.int ((top+i+j:Nat):Int))∘Nat.succ))=(List.range (N-top-(i+1))).map λj=>D.int ((top+(i+1)+j:Nat):Int):=by
    rw[show N-top-i-1=N-top-(i+1) by lia];show Xz λj _=>?_;change D.int ((top+i+(j+1):Nat):Int)=_;rw[show top+i+(j+1)=top+(i+1)+j by lia]
   show ne2 (λh=>?_) λh=>?_
   . show(next _ _ ⟨i+1,by lia,rfl,x,?_⟩);rw[y,ab2,Yi];let:Mx.g A (top+i) p≠0:=h;simp[this]
   . show(next _ _ ⟨i+1,by lia,rfl,x,?_⟩);rw[y,ab2,Yi];let:Mx.g A (top+i) p=0:=h;simp[this]
structure Bo(n0:Nat)(st st':af)(b xb xu xc:Nat):Prop where
 lo:1<=n0/\n0<=b/\n0<=xb/\n0<=xu/\n0<=xc
 fr:∀m,m<n0->m≠0->st'[m]?=st[m]?
 tb:∃f,st'[0]?=some (f6 f)
def lI:bN:=λl st K=>∃(k b j h i N w top p e u v:Nat) (A0 A U C:List (List Int)) (ld:Nat->Nat),l=[.ref b,.int top,.int p]/\Bn st b j h i A U C/\Bo k st st b j h i/\Mx.g9 A0 N w ⟨A,U,C⟩ top p ld e u v/\N<=8/\w<=9/\p<w/\(N-top+1)*(e+1)<=60000000/\
 (∀a,Bn a b j h i A U C->Bo k st a b j h i->Mx.mE A N top p []->K (.bl false) a)/\
 ∀a g d f (c:Mx.B3) (r:Nat),Bn a b g d f (Mx.setB c p top r).A (Mx.setB c p top r).U (Mx.setB c p top r).C->Bo k st a b g d f->Mx.jI N top p ⟨A,U,C⟩ c->Mx.mE c.A N top p [r]->top<N->
  Mx.yC A0 N w top p (2^((N-top+1)*(e+1))) ⟨A,U,C⟩ (Mx.setB c p top r)->K (.bl true) a
def lH:List Str:=["self","top","place","live","great","small"]
def ya:DS:=(av (aM 3 (de aC "live_rows" gK (aa 0) (ab (aa 1) (ab (aa 2) ag))))
 (av (rW (a_ (ai u0 (bz dB (ab (aa 3) ag)) (dC (.int 1)))) (av (aM 4 (ai aN (aa 3) (iU ff (dC (.int 1)))))
 (av (aM 5 (ai aN (aa 3) (iU ff (dC (.int 2)))))
 (av (d6 (de aC "take" iZ (aa 0) (ab (aa 4) (ab (ay gh (ab (ai aN (ai aN (cv aC "body" (aa 0)) (aa 4)) (aa 2)) (ab (ai aN (ai aN (cv aC "body" (aa 0)) (aa 5)) (aa 2)) ag))) (ab (aa 5) ag)))))
 (aM 3 (de aC "live_rows" gK (aa 0) (ab (aa 1) (ab (aa 2) ag))))))))
 (av (cS (a_ (ai gN (bz dB (ab (aa 3) ag)) (dC (.int 0)))) (a6 (dC (.bl false))) cA)
 (av (d6 (de aC "exchange" ib (aa 0) (ab (aa 1) (ab (ai aN (aa 3) (dC (.int 0))) ag))))
 (av (cS (a_ (ai pW (ai aN (ai aN (cv aC "body" (aa 0)) (aa 1)) (aa 2)) (dC (.int 0)))) (d6 (de aC "change_sign" iJ (aa 0) (ab (aa 1) ag))) cA)
 (a6 (dC (.bl true))))))))
def Bo.P_{st a:af}{b g c d:Nat}(h:Bo i st a b g c d):Bo i st (a.set 0 (f6 true)) b g c d:=
 ⟨h.lo,λm k j=>by rw[W0 (W4 j)];show h.fr m k j,true,by
  obtain⟨f,e⟩:=h.tb;show W9 (WV.mp e).1⟩
def Bo.low{j:Nat}{st c a:af}{b i d g:Nat}(h:Bo j st c b i d g)(f:∀m,m≠i->m≠d->m≠g->a[m]?=c[m]?):Bo j st a b i d g:=by
 obtain⟨r,q,p,o,n⟩:=h.lo;show⟨h.lo,λm k l=>?_,?_⟩
 . rw[f m (by lia) (by lia) (by lia)];show h.fr m k l
 . obtain⟨z,e⟩:=h.tb;show⟨z,by rw[f 0 (by lia) (by lia) (by lia)];show e⟩
def x_{X:List (List Int)}{N w top m i:Nat}(e:Mx.aX N w X)(h:Mx.g6 X N top m)(hi:top<=i)(d:i<N):∀x∈X.getD i [],x.natAbs<=m:=λx a=>by
 obtain⟨c,b,rfl⟩:=Xp.mp a;let:=h i c hi d;unfold Mx.g at this;rwa [Mx.aJ b]at this
def By(h:1<=j)(a:j<=n):km n (-(j:Int))=some (n-j):=by
 unfold km;rw[WW (by lia),WY (by lia)];congr 1;lia
def S8{j k:Nat}:dw ((L++[j,k]).map λ(k:Nat)=>D.int (k:Int)) (-1)=some (.int (k:Int)):=by
 unfold dw;let:=By (n:=((L++[j,k]).map λ(k:Nat)=>D.int (k:Int)).length) (j:=1) (by decide) (by simp);rw[show(-((1:Nat):Int))= -1 from rfl]at this;rw[this];simp
def SW{j k:Nat}:dw ((L++[j,k]).map λ(k:Nat)=>D.int (k:Int)) (-2)=some (.int (j:Int)):=by
 unfold dw;let:=By (n:=((L++[j,k]).map λ(k:Nat)=>D.int (k:Int)).length) (j:=2) (by decide) (by simp);rw[show(-((2:Nat):Int))= -2 from rfl]at this;rw[this];simp
def KQ:∀ {L:List Nat},1<L.length->∃M j k,L=M++[j,k]:=λ{L} h=>by
 show⟨L.take (L.length-2),L[L.length-2]'(by lia),L[L.length-1]'(by lia),?_⟩;let b:L=L.take (L.length-2)++L.drop (L.length-2):=(abU _ _).symm
 let a:L.drop (L.length-2)=[L[L.length-2]'(by lia),L[L.length-1]'(by lia)]:=by
  rw[Xm (by lia),Xm (by lia),Y1 (by lia)];congr 2;congr 1;lia
 rw[<-a];show b
def wU:WS lI 3 ya lH:=by
 rintro ds st K ⟨n0,b,E,t,y,N,w,top,p,e,u,v,A0,A,U,C,ld,rfl,B,O,S,hN,hw,V,hz,kf,kt⟩;show⟨rfl,?_⟩;let ah:=S.le;obtain⟨f,h0⟩:=O.tb;show cX B.eb rfl ?_;show⟨b,E,t,y,N,w,top,p,A,U,C,f,rfl,B,S.tn.isA,ah,hN,V,hw,h0,λL d=>?_⟩;let B1:=B.tab h0 (f6 true);let O1:=O.P_;try dsimp only[ag]
 show yd (λσ n=>∃(L:List Nat) (Q P:Option D) (c:Mx.B3) (o:Nat),σ=[some (.ref b),some (.int top),some (.int p),some (.lst (L.map λ(k:Nat)=> .int (k:Int))),Q,P]/\L.length<=1/\Bn n b E t y c.A c.U c.C/\Bo n0 st n b E t y/\Mx.jI N top p ⟨A,U,C⟩ c/\Mx.uL A0 N w top p (2^e) ⟨A,U,C⟩ c o/\Mx.mE c.A N top p L) (λnx aD=>?_) ?_
 . show⟨λm σ n=>∃(L:List Nat) (Q P:Option D) (c:Mx.B3) (o:Nat),σ=[some (.ref b),some (.int top),some (.int p),some (.lst (L.map λ(k:Nat)=> .int (k:Int))),Q,P]/\Bn n b E t y c.A c.U c.C/\Bo n0 st n b E t y/\Mx.jI N top p ⟨A,U,C⟩ c/\Mx.uL A0 N w top p (2^e) ⟨A,U,C⟩ c o/\Mx.mE c.A N top p L/\m=Mx.mu c.A N p,⟨_,L,none,none,⟨A,U,C⟩,1,rfl,B1,O1,.refl _,S.WE,d,rfl⟩,?_⟩;rintro m σ g ⟨L,Q,P,c,o,rfl,B,O,hR,l,d,rfl⟩;show cP rfl ?_;rw[W2];show Qy (λh=>eN ?_) λh=>sV (aD _ _ ⟨L,Q,P,c,o,rfl,by lia,B,O,hR,l,d⟩);obtain⟨M,j,k,rfl⟩:=KQ (L:=L) (by lia);show dY (aA rfl S8 (dY (aA rfl SW ?_)));obtain⟨G2,Z,X,k1,k2,j1,j2,bl,aI⟩:=l.step V d;let T:=l.tn;let lA:=T.isA.len;let a:=G2.low S.lo.1;show cX B.eb rfl (bg B.eb rfl (aA (ax B.e1) (dG (by lia)) (aA rfl (oy (by rw[Mx.ba T.isA k2];show V)) (bg B.eb rfl (aA (ax B.e1) (dG (by lia)) (aA rfl (oy (by rw[Mx.ba T.isA j2];show V)) ?_))))));show⟨_,_,rfl,aI,?_⟩
   let hq:(Mx.qn (Mx.g c.A k p) (Mx.g c.A j p)).natAbs<=2^((N-top+1)*(e+1)):=by
    show WZ ?_ a;let a1:=l.pos;let a2:1<=2^e:=Zk;let a3:1*(Mx.qn (Mx.g c.A k p) (Mx.g c.A j p)).natAbs<=o*(1+(Mx.qn (Mx.g c.A k p) (Mx.g c.A j p)).natAbs):=XM a1 (by lia);let a4:=XM a2 a3;lia
   let G:2^e*o<=2^((N-top+1)*(e+1)):=l.low S.lo.1
   let Y:∀ {x:Int},x.natAbs<=2^e*o->IntMulOk (Mx.qn (Mx.g c.A k p) (Mx.g c.A j p)) x/\IntMulOk (-(Mx.qn (Mx.g c.A k p) (Mx.g c.A j p))) x:=λ{x} h=>
    ⟨gc hq (WZ h G) (by lia),gc (by rw[YI];show hq) (WZ h G) (by lia)⟩
   show⟨b,E,t,y,N,w,k,j,c.A,c.U,c.C,_,rfl,B,T.isA,T.dn,T.dX,k2,j2,hN,hw,λx G=>(Y (x_ T.isA l.lA j1 j2 x G)).2,λx G=>(Y (x_ T.dn l.lU j1 j2 x G)).2,λx G=>(Y (x_ T.dX l.lC k1 k2 x G)).1,λH s l2 f2=>?_⟩;let O2:=O.low f2;obtain⟨f',ao⟩:=O2.tb;show cX s.eb rfl ?_;show⟨b,E,t,y,N,w,top,p,_,_,_,f',rfl,s,G2.tn.isA,ah,hN,V,hw,ao,λL2 aS=>?_⟩;show⟨_,?_,L2,_,_,Mx.kG c p k j,_,rfl,s.tab ao (f6 true),O2.P_,hR.tail ⟨M,k,j,d,rfl⟩,G2,aS,rfl⟩;unfold Mx.mu;show Mx.M0 (k:=k) Z k2 λi hi=>?_;by_cases h:i=k
   . rw[h];show YQ Z
   . rw[X i h];show WX _
 . rintro σ g ⟨L,Q,P,c,o,rfl,hl,B,O,hR,l,d⟩;show cP rfl ?_;rw[W2];match L,hl,d with
   | [],_,d=>
     show eq2 (λh=>eN ?_) λh=>absurd rfl h
     let e0:c=⟨A,U,C⟩:=by
      rcases l.TM with z|⟨j,J,I,h3⟩
      . show z
      . show absurd ((d.mem j).mpr ⟨J,I,h3⟩) (by simp)
     subst e0;show kf g B O d
   | [r],_,d=>
     show eq2 (λh=>absurd h (by simp)) λh=>sV ?_;obtain⟨F,a5,W⟩:=l.set d;let R:top<N:=by lia
     let T:=l.tn
     let s2:Mx.yC A0 N w top p (2^((N-top+1)*(e+1))) ⟨A,U,C⟩ (Mx.setB c p top r):=by
      let a:=l.low S.lo.1;show⟨F.tn,F.up,⟨λi q J I=>WZ (F.lo.1 i q J I) a,λi q J I=>WZ (F.lo.2.1 i q J I) a,λi q J I=>WZ (F.lo.2.2 i q J I) a⟩,F.zs,F.tp,F.z1⟩
     show cX B.eb rfl (aA rfl (show dw ([r].map λ(k:Nat)=>D.int (k:Int)) 0=some (.int (r:Int))from rfl) ?_);show⟨b,E,t,y,N,w,top,r,c.A,c.U,c.C,rfl,B,T.isA,T.dn,T.dX,R,W,λH s l2 f2=>?_⟩;obtain⟨l1,au,l3,l4,l5⟩:=O.lo
     let a0:n0<=g.length:=by
      let:=(WV.mp B.eb).1;lia
     let O2:Bo n0 st H b g.length (g.length+1) (g.length+2):=by
      show⟨⟨l1,au,by lia,by lia,by lia⟩,λm Y h0=>?_,?_⟩
      . rw[f2 m (by lia) (by lia)];show O.fr m Y h0
      . obtain⟨z,e⟩:=O.tb;show⟨z,by rw[f2 0 (by lia) (by lia)];show e⟩
     let T1:=T.M9 R W;show bg s.eb rfl (aA (ax s.e1) (dG (by let:=T1.isA.len;lia)) (aA rfl (oy (by rw[Mx.ba T1.isA R];show V)) ?_));show M5 (λh=>eN ?_) λh=>sV ?_
     . have es:Mx.setB c p top r=⟨Mx.gZ (Mx.aR c.A top r) top,Mx.gZ (Mx.aR c.U top r) top,Mx.gZ (Mx.aR c.C top r) top⟩:=WY h;show cX s.eb rfl ?_;show⟨b,_,_,_,N,w,top,_,_,_,rfl,s,T1.isA,T1.dn,T1.dX,R,hN,hw,λar B3 l3 f3=>?_⟩;show kt ar _ _ _ c r (by rw[es];show B3) (O2.low f3) hR d R s2
     . have es:Mx.setB c p top r=⟨Mx.aR c.A top r,Mx.aR c.U top r,Mx.aR c.C top r⟩:=WW (λz=>by unfold Mx.g at z;lia);show kt H _ _ _ c r (by rw[es];show s) O2 hR d R s2
def iN:bN:=λg st K=>∃(b f c d N w top p e u v:Nat) (A0 A U C:List (List Int)),g=[.ref b,.int top,.int p]/\Bn st b f c d A U C/\Mx.Tn A0 A U C N w/\N<=8/\w<=9/\p<w/\top<N/\0<Mx.g A top p/\(∀q,q<p->Mx.g A top q=0)/\
 (∀q,(Mx.g A top q).natAbs<=2^e/\(Mx.g U top q).natAbs<=2^e/\(Mx.g C top q).natAbs<=2^e)/\(∀i q,i<top->(Mx.g A i q).natAbs<=2^u/\(Mx.g U i q).natAbs<=2^u/\(Mx.g C i q).natAbs<=2^v)/\u+e<=125000000/\u+v<=125000000/\
 ∀a,Bn a b f c d (Mx.dF p top top ⟨A,U,C⟩).A (Mx.dF p top top ⟨A,U,C⟩).U (Mx.dF p top top ⟨A,U,C⟩).C->(∀m,m≠f->m≠c->m≠d->a[m]?=st[m]?)->Mx.mY A0 N w top p e u v ⟨A,U,C⟩ top (Mx.dF p top top ⟨A,U,C⟩)->K .aD a
def iI:List Str:=["self","top","place","k"]
def rg:DS:=(fm (dg (ab (aa 1) ag)) (bf 3) (d6 (de aC "take" iZ (aa 0) (ab (aa 3) (ab (ai pY (ai aN (ai aN (cv aC "body" (aa 0)) (aa 3)) (aa 2)) (ai aN (ai aN (cv aC "body" (aa 0)) (aa 1)) (aa 2))) (ab (aa 1) ag))))))
def FQ{X:List (List Int)}(a:x∈X.getD i []):∃q,x=Mx.g X i q:=by
 obtain⟨c,b,rfl⟩:=Xp.mp a;show⟨c,by unfold Mx.g;rw[Mx.aJ b]⟩
def qG:WS iN 3 rg iI:=by
 rintro ds st K ⟨b,y,s,t,N,w,top,p,e,u,v,A0,A,U,C,rfl,B,T,Y,V,G,E,n,S,d,h,he,hu,R⟩;show⟨rfl,?_⟩;show fI ⟨by lia,by lia⟩ ?_;rw[Xv];show iY top (λk σ a=>∃z:Option D,σ=[some (.ref b),some (.int top),some (.int p),z]/\Bn a b y s t (Mx.dF p top k ⟨A,U,C⟩).A (Mx.dF p top k ⟨A,U,C⟩).U (Mx.dF p top k ⟨A,U,C⟩).C/\(∀m,m≠y->m≠s->m≠t->a[m]?=st[m]?)/\Mx.mY A0 N w top p e u v ⟨A,U,C⟩ k (Mx.dF p top k ⟨A,U,C⟩)) ?_ ?_ ⟨none,rfl,B,λ_ _ _ _=>rfl,Mx.mY.start T λq=>(d q).2.2⟩
 . rintro σ a ⟨z,rfl,g,f,I⟩;show R a g f I
 . rintro k σ a rest H ⟨z,rfl,g,f,I⟩ next
   show⟨_,rfl,?_⟩;let W:=I.step H E G n S (λq=>⟨(d q).1,(d q).2.1⟩) h;generalize X:Mx.dF p top k ⟨A,U,C⟩=c at*;let lA:=I.tn.isA.len;let J:k<N:=by lia
   let r:∀i q,k<=i->Mx.g c.A i q=Mx.g A i q:=λi q o=>by unfold Mx.g;rw[(I.rA i o).1]
   let Z:∀i q,k<=i->Mx.g c.U i q=Mx.g U i q:=λi q o=>by unfold Mx.g;rw[(I.rA i o).2]
   let gC:∀i q,i≠top->Mx.g c.C i q=Mx.g C i q:=λi q o=>by unfold Mx.g;rw[I.rC i o]
   let F:((Mx.g c.A k p).fdiv (Mx.g c.A top p)).natAbs<=2^u:=by
    rw[r k p (WX _),r top p (by lia)];show WZ (Mx.nP _ n) (h k p H).1
   let l:Mx.g c.A top p≠0:=by rw[r top p (by lia)];lia
   show cX g.eb rfl (bg g.eb rfl (aA (ax g.e1) (dG (by lia)) (aA rfl (oy (by rw[Mx.ba I.tn.isA J];show G)) (bg g.eb rfl (aA (ax g.e1) (dG (by lia)) (aA rfl (oy (by rw[Mx.ba I.tn.isA E];show G)) (BR l ?_)))))));show⟨b,y,s,t,N,w,k,top,c.A,c.U,c.C,_,rfl,g,I.tn.isA,I.tn.dn,I.tn.dX,J,E,Y,V,λx j=>?_,λx j=>?_,λx j=>?_,λQ B2 l2 f2=>?_⟩
   . obtain⟨q,rfl⟩:=FQ j;rw[r top q (by lia)];show gc (by rw[YI];show F) (d q).1 (by lia)
   . obtain⟨q,rfl⟩:=FQ j;rw[Z top q (by lia)];show gc (by rw[YI];show F) (d q).2.1 (by lia)
   . obtain⟨q,rfl⟩:=FQ j;rw[gC k q (by lia)];show gc F (h k q H).2.2 (by lia)
   . have P:Mx.dF p top (k+1) ⟨A,U,C⟩=⟨Mx.aQ c.A k ((Mx.g c.A k p).fdiv (Mx.g c.A top p)) top,Mx.aQ c.U k ((Mx.g c.A k p).fdiv (Mx.g c.A top p)) top,Mx.aQ c.C top (-((Mx.g c.A k p).fdiv (Mx.g c.A top p))) k⟩:=by rw[<-X];rfl
     show next _ _ ⟨_,rfl,?_,λm O M L=>(f2 m O M L).trans (f m O M L),?_⟩
     . rw[P];show B2
     . rw[P];show W
structure Bk(st st':af):Prop where
 le:st.length<=st'.length
 fr:∀m,m<st.length->m≠0->st'[m]?=st[m]?
 tb:∃f,st'[0]?=some (f6 f)
def qu:bN:=λb st K=>∃(d:D) (N w e0:Nat) (A:List (List Int)) (f:Bool),b=[d]/\dM st d A/\Mx.aX N w A/\1<=N/\N<=8/\w<=9/\Mx.g6 A N 0 (2^e0)/\e0<60000000/\Mx.Rm N w e0/\st[0]?=some (f6 f)/\
 ∀a (top:Nat) (c:Mx.B3) (ld:Nat->Nat),Mx.yB A N w top c->Mx.g9 A N w c top w ld (Mx.Ez N e0 top) (Mx.Uz N e0 top) (Mx.Cz N e0 top)->Bk st a->K (.tup [cy (c.A.take top),cy c.U,cy (Mx.HH c.C N)]) a
def wJ:List Str:=["rows","bench","top","place","back"]
def Gj:DS:=(av (aM 1 (wQ aC hJ (ab (aa 0) ag)))
 (av (aM 2 (dC (.int 0)))
 (av (fm (dg (ab (bz dB (ab (ai aN (aa 0) (dC (.int 0))) ag)) ag)) (bf 3) (cS (a_ (de aC "gather" lI (aa 1) (ab (aa 2) (ab (aa 3) ag)))) (av (d6 (de aC "lower_above" iN (aa 1) (ab (aa 2) (ab (aa 3) ag))))
 (Bw 2 (wR (λi j=>i+j)) (dC (.int 1)))) cA))
 (av (aM 4 (ay jT (ab (cv aC "back_columns" (aa 1)) (ab (bz dB (ab (aa 0) ag)) ag))))
 (a6 (jb (ab (ay i0 (ab (gq (cv aC "body" (aa 1)) fH (hZ (aa 2))) ag)) (ab (ay i0 (ab (cv aC "turn" (aa 1)) ag)) (ab (aa 4) ag)))))))))
def oQ{st a:af}(c:st[0]?=some (f6 f))(fr:∀m,m<st.length->m≠0->a[m]?=st[m]?)(h:items? st d=some xs):items? a d=some xs:=by
 cases d with
 |ref n=>
  have e:=sH h;let b:n≠0:=tO e c;rw[ax ((fr n (WV.mp e).1 b).trans e)]
 |_=>show h
def y8{st a:af}(b:st[0]?=some (f6 f))(fr:∀m,m<st.length->m≠0->a[m]?=st[m]?):∀ {c:List D} {A:List (List Int)},bL st c A->bL a c A
 | [],[],_=>trivial
 |_::_,_::_,h=>⟨oQ b fr h.1,y8 b fr h.2⟩
def xp{st a:af}(b:st[0]?=some (f6 f))(fr:∀m,m<st.length->m≠0->a[m]?=st[m]?)(h:dM st d A):dM a d A:=by
 obtain⟨g,e,c⟩:=h.ex;show⟨g,oQ b fr e,y8 b fr c⟩
def HS{xs:List D}{j:Nat}:L3.cutD xs none (some (j:Int))=xs.take j:=by
 unfold L3.cutD;rw[HT.ye,HT.qp,ab0,abB];by_cases h:j<=xs.length
 . rw[ZU h]
 . rw[Nat.min_eq_right (by lia),List.take_length,Y2 (by lia)]
def DR:WS qu 1 Gj wJ:=by
 rintro ds st K ⟨d,N,w,b,A,f,rfl,hd,hA,br,Z,hw,au,aS,v,h0,kk⟩;show⟨rfl,?_⟩;let lA:=hA.len;let W:0<st.length:=(WV.mp h0).1;let a4:dM (st++[Cell.ins aC []]) d A:=xp h0 (λm P _=>W3 P) hd;show⟨st.length,N,d,A,rfl,by simp,a4,lA,Z,λu B1 l1 f1=>⟨rfl,?_⟩⟩;let aD:(st++[Cell.ins aC []]).length=st.length+1:=by simp
 let X:∀m,m<st.length->u[m]?=st[m]?:=λm P=>by rw[f1 m (by lia) (by lia),W3 P]
 let O1:Bo st.length st u st.length (st.length+1) (st.length+1+1) (st.length+1+2):=⟨⟨W,by lia,by lia,by lia,by lia⟩,λm P _=>X m P,f,(X 0 W).trans h0⟩
 rw[aD]at B1;let Q:∀ {a:af},(∀m,m<st.length->m≠0->a[m]?=st[m]?)->dM a d A:=λh=>xp h0 h hd;obtain⟨da,a0,M⟩:=(Q O1.fr).ex;let bq:=M.len
 let F:∃d0,da[0]?=some d0/\items? u d0=some (aq (A.getD 0 [])):=by
  let G:0<da.length:=by lia
  obtain⟨r,e1,e2⟩:=bL.get M (W7 G);show⟨da[0],W7 G,?_⟩;let:A.getD 0 []=r:=by rw[Xa,e1];rfl
  rw[this];show e2
 obtain⟨d0,a5,aI⟩:=F;let er:(aq (A.getD 0 [])).length=w:=by unfold aq;rw[W2];show Mx.ba hA (by lia)
 try dsimp only[ag]
 show yd (A:=aM 2 _) (λσ a=>σ=[some d,some (.ref st.length),some (.int 0),none,none]/\a=u) (λnx h=>h _ _ ⟨rfl,rfl⟩) ?_;rintro _ _ ⟨rfl,rfl⟩;show yd (A:=fm _ _ _) (λσ a=>∃(top l g k:Nat) (E:Option D) (c:Mx.B3) (n:Nat->Nat),σ=[some d,some (.ref st.length),some (.int top),E,none]/\Bn a st.length l g k c.A c.U c.C/\Bo st.length st a st.length l g k/\Mx.yB A N w top c/\Mx.g9 A N w c top w n (Mx.Ez N b top) (Mx.Uz N b top) (Mx.Cz N b top)) (λnx ar=>?_) ?_
 . show aA a0 (show dw da 0=some d0 from eP (j:=0) a5) (cP aI ?_);rw[er];show fI ⟨by lia,by lia⟩ ?_;rw[Xv];show iY w (λp σ a=>∃(top l g k:Nat) (E:Option D) (c:Mx.B3) (n:Nat->Nat),σ=[some d,some (.ref st.length),some (.int top),E,none]/\Bn a st.length l g k c.A c.U c.C/\Bo st.length st a st.length l g k/\Mx.yB A N p top c/\Mx.g9 A N w c top p n (Mx.Ez N b top) (Mx.Uz N b top) (Mx.Cz N b top)) ?_ ?_ ⟨0,_,_,_,none,⟨A,Mx.units N,Mx.units N⟩,λ_=>0,rfl,B1,O1,.start,Mx.g9.start hA au⟩
   . rintro σ a ⟨top,l,g,k,E,c,n,rfl,B,O,J,S⟩;show ar _ _ ⟨top,l,g,k,E,c,n,rfl,B,O,J,S⟩
   . rintro p σ a rest Y ⟨top,l,g,k,E,c,n,rfl,B,O,J,S⟩ next
     show⟨_,rfl,?_⟩;let bp:=S.le
     let ah:(N-top+1)*(Mx.Ez N b top+1)<=60000000:=by
      let Cp:=S.Cp;by_cases o:top<N
      . show YQ (v top o (by lia)).1
      . have e:N-top=0:=by lia
        rw[e]
        let:Mx.Ez N b top<60000000:=by
         cases top with
         |zero=>show aS
         |succ t=>show(v t (by lia) (by lia)).1
        lia
     show cX B.eb rfl ?_;show⟨st.length,st.length,l,g,k,N,w,top,p,_,_,_,A,c.A,c.U,c.C,n,rfl,B,⟨O.lo,λ_ _ _=>rfl,O.tb⟩,S,Z,hw,Y,ah,λs B2 H hL=>?_,λs C y z c2 r B2 H hR hL o x=>?_⟩
     . show sV (next _ _ ⟨top,l,g,k,_,c,n,rfl,B2,⟨H.lo,λm V U=>(H.fr m V U).trans (O.fr m V U),H.tb⟩,.next J (.none hL),S.skip hL⟩)
     . show eN ?_;let O2':Bo st.length st s st.length C y z:=⟨H.lo,λm V U=>(H.fr m V U).trans (O.fr m V U),H.tb⟩
       let ao:∀i q,i<top->Mx.g (Mx.setB c2 p top r).A i q=Mx.g c.A i q/\Mx.g (Mx.setB c2 p top r).U i q=Mx.g c.U i q/\Mx.g (Mx.setB c2 p top r).C i q=Mx.g c.C i q:=λi q G=>by
        obtain⟨a1,a2,a3⟩:=x.up i G;unfold Mx.g;rw[a1,a2,a3];show⟨rfl,rfl,rfl⟩
       show cX B2.eb rfl ?_;show⟨st.length,C,y,z,N,w,top,p,Mx.Ez N b (top+1),Mx.Uz N b top,Mx.Cz N b top,A,_,_,_,rfl,B2,x.tn,Z,hw,Y,o,x.tp,λq hq=>x.zs top q (WX _) o hq,λq=>⟨x.lo.1 top q (WX _) o,x.lo.2.1 top q (WX _) o,x.lo.2.2 top q (WX _) o⟩,λi q G=>?_,WZ (v top o (X_ S.Cp Y)).2.1 (by decide),WZ (v top o (X_ S.Cp Y)).2.2 (by decide),λbl B3 f3 I=>?_⟩
       . obtain⟨a1,a2,a3⟩:=ao i q G;rw[a1,a2,a3];show S.hi i q G
       . have hS:=Mx.yC.UQ (e':=Mx.Ez N b (top+1)) (u':=Mx.Uz N b (top+1)) (v':=Mx.Cz N b (top+1)) S x o I Z (WX _) (by change _<=Mx.Uz N b top+Mx.Cz N b top+Mx.Ez N b (top+1)+4;lia) (by change _<=Mx.Uz N b top+Mx.Cz N b top+Mx.Ez N b (top+1)+4;lia);show next _ _ ⟨top+1,C,y,z,_,_,_,rfl,B3,O2'.low f3,.next J (.one hR hL),hS⟩
 . rintro σ s ⟨top,l,g,k,E,c,n,rfl,B,O,J,S⟩;let T:=S.tn;let lN:=T.isA.len;show bg B.eb rfl ?_;obtain⟨bu,R,L⟩:=(Q O.fr).ex;show cP R ?_;rw[L.len,lA];show⟨_,c.C,N,rfl,⟨_,ax B.e3,bL.lst⟩,T.dX.fZ,by rw[T.dX.len];lia,by lia,?_⟩;show bg B.eb rfl (ku B.e1 ?_);rw[HS,<-ZN];show⟨_,c.A.take top,rfl,⟨_,rfl,bL.lst⟩,by rw[Yu];lia,?_⟩;show bg B.eb rfl ?_;show⟨_,c.U,rfl,⟨_,ax B.e2,bL.lst⟩,by rw[T.dn.len];lia,?_⟩;show⟨by change 3<=sizeLine;decide,?_⟩;show kk s top c n J S ⟨?_,O.fr,O.tb⟩;let:=(WV.mp B.eb).1;lia
structure Wf(F:List (List Int))(m w:Nat):Prop where
 is:Mx.aX m w F
 st:Mx.eV F m w (Mx.iw F)
 m8:m<=8
 w8:w<=8
 sm:∀k c,k<m->c<w->(Mx.g F k c).natAbs<=2^5000
def Wf.lead{F:List (List Int)}(h:Wf F m w)(hi:i<m):Mx.iw F i<w/\0<Mx.g F i (Mx.iw F i)/\(F.getD i []).length=w/\mZ (F.getD i [])= .int ((Mx.iw F i:Nat):Int):=by
 obtain⟨c,a,b⟩:=h.st.lead i hi;show⟨c,a,h.is.row hi,?_⟩;unfold mZ;rw[IS b (abC a)]
def Wf.row{F:List (List Int)}(h:Wf F m w)(hi:i<m):∀x∈F.getD i [],x.natAbs<=2^5000:=λx a=>by
 obtain⟨c,b,rfl⟩:=Xp.mp a;let d:=h.is.row hi;let:=h.sm i c hi (by lia);unfold Mx.g at this;rwa [Mx.aJ b]at this
def Ks{x:Int}(h:x.natAbs<=2^5000)(a:x≠0):x.natAbs.log2<9000:=
 (Zi (by lia)).mpr (X_ h (YA (by decide) (by decide)))
def drop_cons{F:List (List Int)}{rest:List D}(a:d::rest=(F.map cm).drop i):i<F.length/\d=cm (F.getD i [])/\rest=(F.map cm).drop (i+1):=by
 let b:i<F.length:=by
  rcases Z_ i F.length with h|h
  . show h
  . rw[Y1 (by rw[W2];show h)]at a;cases a
 rw[Xm (by rw[W2];show b),Xx]at a;obtain⟨e,c⟩:=List.cons.inj a;show⟨b,by rw[Mx.aJ b];show e,c⟩
def drop_nil{F:List (List Int)}(a: []=(F.map cm).drop i):F.length<=i:=by
 let:=Ye List.length a;rw[aac,W2,aaq]at this;lia
def rZ:bN:=λd st K=>∃(b:D) (F:List (List Int)) (r:List Int) (m w e:Nat),d=[cy F,b]/\Wf F m w/\items? st b=some (aq r)/\r.length=w/\(∀c,c<w->(r.getD c 0).natAbs<=2^e)/\e<=10000/\∀a,Ext st a->K (.tup [cm (Mx.qT F r m),cm (Mx.eQ F r m)]) a
def ze:List Str:=["form","row","weights","left","each","lead","weight"]
def Jz:DS:=(av (aM 2 (mO ag))
 (av (aM 3 (bz oE (ab (aa 1) ag)))
 (av (fm (dy (aa 0)) (bf 4) (av (aM 5 (ay oP (ab (aa 4) ag)))
 (av (aM 6 (ai ip (ai aN (aa 3) (aa 5)) (ai aN (aa 4) (aa 5))))
 (av (d6 (fM (aa 2) (aa 6)))
 (aM 3 (ay lz (ab (aa 3) (ab (iU ff (aa 6)) (ab (aa 4) ag)))))))))
 (a6 (jb (ab (bz cN (ab (aa 2) ag)) (ab (bz cN (ab (aa 3) ag)) ag)))))))
def E_:WS rZ 2 Jz ze:=by
 rintro S st K ⟨I,F,r,m,w,e,rfl,f,C,t,L,R,k⟩;show⟨rfl,?_⟩;let u:=f.is.len;let P:=f.m8;let O:=f.w8;show⟨Xb rfl,?_⟩;let z:Ext st (st++[.lst []]):=Ext.push;let H:(st++[Cell.lst []])[st.length]?=some (.lst (aq [])):=by simp
 show ud (z.items C) (fj ?_);show fg (λrest σ d=>∃(i:Nat) (l j h:Option D),i<=m/\rest=(F.map cm).drop i/\σ=[some (cy F),some I,some (.ref st.length),some (bD (Mx.eQ F r i)),l,j,h]/\Ext st d/\d[st.length]?=some (.lst (aq (Mx.qT F r i)))) ?_ ?_ _ _ _ ⟨0,none,none,none,Xq _,rfl,rfl,z,H⟩
 . rintro σ d ⟨i,l,j,h,y,a,rfl,X,g⟩;let G:i=m:=abK y (by rw[<-u];show drop_nil a);subst G;show⟨trivial,cJ (ax g) (cJ rfl ⟨Xb rfl,k d X⟩)⟩
 . rintro x rest σ d ⟨i,l,j,h,y,a,rfl,X,g⟩ next
   obtain⟨o,rfl,rfl⟩:=drop_cons a;let c:i<m:=by rw[<-u];show o
   obtain⟨v,B,N,p⟩:=f.lead c;let Q:=Mx.pV f.is t (i:=i) (YQ c);show⟨trivial,_,rfl,_,F.getD i [],rfl,rfl,?_⟩;rw[p];let s:dw (aq (F.getD i [])) ((Mx.iw F i:Nat):Int)=some (.int (Mx.g F i (Mx.iw F i))):=jj (by lia);let q:dw (aq (Mx.eQ F r i)) ((Mx.iw F i:Nat):Int)=some (.int ((Mx.eQ F r i).getD (Mx.iw F i) 0)):=jj (by lia);show aA rfl q (aA rfl s (gT (by lia) (Ks (f.sm i _ c v) (by lia)) ?_));let J:=Mx.yl f.is t f.st f.sm L (YQ c) _ v;let M:(Mx.xI F (Mx.eQ F r i) i).natAbs<=2^(e+i*(5000+1)):=WZ (Mx.nP _ B) J;change av _ _ _ [_,_,_,_,_,_,some (.int (Mx.xI F (Mx.eQ F r i) i))] _;let A:(Mx.qT F r i).length=i:=by unfold Mx.qT;simp
   show mz (by rfl) g (rq rfl (ke g (by rw[Yl,W2,A];lia) ?_));let n:=(WV.mp g).1;show dY ?_;show⟨_,_,_,Mx.eQ F r i,F.getD i [],rfl,rfl,rfl,by lia,λb E=>gc (by rw[YI];show M) (f.row c b E) (by lia),?_⟩;show next _ _ ⟨i+1,_,_,_,c,rfl,rfl,X.set (WX _),?_⟩
   rw[W9 n,ints_app];congr 3;unfold Mx.qT;rw[YB,Yi];rfl
def pH{t b:Int}(m:b≠0):iP t b*b=t*dF t b/\(iP t b).natAbs<=t.natAbs/\(dF t b).natAbs<=b.natAbs:=by
 let h:Nat.gcd t.natAbs b.natAbs≠0:=λz=>by
  let:=aaP z;lia
 let a:((Nat.gcd t.natAbs b.natAbs:Nat):Int)≠0:=by lia
 let j:=zB t b;let i:=zo t b;unfold iP dF;generalize f:(if b<0 then(-1:Int)else 1)=s;let c:s= -1\/s=1:=by rw[<-f];split<;>simp
 generalize Nat.gcd t.natAbs b.natAbs=g at*;obtain⟨d,rfl⟩:=j;obtain⟨e,rfl⟩:=i;let l:(s*((g:Int)*d)).fdiv (g:Int)=s*d:=by rw[YK,YT _ a]
 let k:(s*((g:Int)*e)).fdiv (g:Int)=s*e:=by rw[YK,YT _ a]
 rw[l,k]
 let q:∀x:Int,(s*x).natAbs<=((g:Int)*x).natAbs:=λx=>by
  rw[Xo,Xo,Zl];let:s.natAbs=1:=by rcases c with rfl|rfl<;>rfl
  rw[this];show XW _ (by lia)
 show⟨by grind,q _,q _⟩
def O9(a:b≠0):0<dF t b:=by
 let h:=jh (t:=t) a;unfold iK zA at h
 let:dF t b=(((Rat.divInt t b).den:Nat):Int):=by
  injection h with h;injection h with _ h;injection h with h _;injection h
 rw[this];let:=(Rat.divInt t b).den_pos;lia
def jA:bN:=λa st K=>∃(t b:Int),a=[iK t b]/\0<b/\K (.bl (decide (2*((t.natAbs:Nat):Int)<=b))) st
def mT:List Str:=["share"]
def uE:DS:=(a6 (ai Jl (ai bo (dC (.int 2)) (bz mF (ab (ai aN (aa 0) (dC (.int 0))) ag))) (ai aN (aa 0) (dC (.int 1)))))
def sG:WS jA 1 uE mT:=by
 rintro f st K ⟨t,b,rfl,a,k⟩;show⟨rfl,?_⟩;let d:=O9 (t:=t) (b:=b) (by lia);let c:=(pH (t:=t) (b:=b) (by lia)).1;let e:decide (2*(((iP t b).natAbs:Nat):Int)<=dF t b)=decide (2*((t.natAbs:Nat):Int)<=b):=ZE.mpr (Mx.LN a d c);rw[<-e]at k;show aA rfl rfl (nR (bC (fJ (by decide) (by decide)) (aA rfl rfl (SY k))))
def kP:bN:=λd st K=>∃(a b c l:Int),d=[iK a b,iK l b,iK b c]/\0<b/\0<c/\a.natAbs<2^745/\b.natAbs<2^652/\c.natAbs<2^652/\l.natAbs<2^652/\K (.bl (decide (4*a*c<3*b*b-4*l*l))) st
def oG:List Str:=["square","share","ahead"]
def wc:DS:=(a6 (ay vY (ab (aa 0) (ab (ay tT (ab (ay yk (ab (ay nZ (ab (dC (.int 3)) (ab (dC (.int 4)) ag))) (ab (ay tT (ab (aa 1) (ab (aa 1) ag))) ag))) (ab (aa 2) ag))) ag))))
def vi:WS kP 3 wc oG:=by
 rintro v st K ⟨a,b,c,l,rfl,u,t,q,h,p,o,k⟩;show⟨rfl,?_⟩;let d:b≠0:=by lia
 let e:c≠0:=by lia
 let g:b.natAbs<2^745:=Xj h (Xd (by decide) (by decide));let s:=Sz.of d q g;let f:=Sz.of d o h;let n:=Sz.of e h p;let m:Sz (Rat.divInt 3 4) 3:=Sz.of (by decide) (by decide) (by decide);let j:=f.mul f;let i:=m.sub j;let r:=i.mul n;rw[jh d,jh d,jh e];rw[<-ZE.mpr (Mx.JK (a:=a) (l:=l) u t)]at k;show⟨3,4,rfl,by decide,by decide,?_⟩;rw[jh (by decide)];show⟨_,_,_,_,rfl,Fq.tup f (by decide),Fq.tup f (by decide),?_⟩;show⟨_,_,_,_,rfl,Fq.tup m (by decide),Fq.tup j (by decide),?_⟩;show⟨_,_,_,_,rfl,Fq.tup i (by decide),Fq.tup n (by decide),?_⟩;show⟨_,_,_,_,rfl,Fq.tup s (by decide),Fq.tup r (by decide),k⟩
def g_:bN:=λb st K=>∃(A:List (List Int)) (N w:Nat) (dA:D),b=[dA]/\dM st dA A/\St A N w/\(∀k,k<=N->Mx.D k (Mx.ae A)≠0)/\(Mx.Sh (Mx.ae A) N->∀a,Ext st a->K (.bl true) a)/\(¬Mx.Sh (Mx.ae A) N->∀a,Ext st a->K (.bl false) a)
def w4:List Str:=["steps","told","squares","own"]
def Gu:DS:=(av (aM 1 (ay j6 (ab (aa 0) ag)))
 (av (aM 2 (ai aN (aa 1) (dC (.int 0))))
 (av (fm (dy (ai aN (aa 1) (dC (.int 1)))) (bf 3) (cS (gp (a_ (bz pj (ab (cp (dy (aa 3)) [none] (bf 0) bI (ay jA (ab (aa 0) ag))) ag)))) (a6 (dC (.bl false))) cA))
 (a6 (AJ (a_ (bz CV (ab (cp (kZ (ab (dC (.int 1)) (ab (bz dB (ab (aa 2) ag)) ag))) [none,some 2,some 1] (bf 0) bI (ay kP (ab (ai aN (aa 1) (aa 0)) (ab (ai aN (ai aN (ai aN (aa 2) (dC (.int 1))) (aa 0)) (ai df (aa 0) (dC (.int 1)))) (ab (ai aN (aa 1) (ai df (aa 0) (dC (.int 1)))) ag))))) ag))))))))
def Gm.Db(h:Gm G n)(a:p<=n):(Mx.D p G).natAbs<2^745:=X_ (h.D a) (YA (by decide) (by decide))
def Gm.Dc(h:Gm G n)(f:p<n):(Mx.D p G).natAbs<2^652:=by
 obtain⟨b,a,_,d,i⟩:=h.ex;show X_ (WZ (Mx.qd (by let:=h.le;lia) λr c e g=>a r c (by lia) (by lia)) (WZ (Xd (by lia) (by lia)) d)) (YA (by decide) (by decide))
def Gm.lb(h:Gm G n)(hi:i<n)(d:p+1<n):(Mx.lam G i p).natAbs<2^652:=by
 obtain⟨b,a,_,c,e⟩:=h.ex;show X_ (WZ (Mx.Bp h.le a (by lia) hi (by lia)) (WZ (Xd (by lia) (by lia)) c)) (YA (by decide) (by decide))
def lX{f:Nat->Bool}(n:Nat):gQ ((List.range n).map λj=>D.bl (f j))=some ((List.range n).map f):=by
 let h:=yT (f:=λd=>match d with| .int j=>f j.toNat|_=>false) ((List.range n).map λ(j:Nat)=>D.int ((j:Nat):Int));rw[Xy,Xy]at h;show h
def Dw:WS g_ 1 Gu w4:=by
 rintro U st K ⟨A,N,w,H,rfl,M,y,F,I,C⟩;show⟨rfl,?_⟩;let n:=y.gm;let S:=n.le;let r:=Mx.jU y.is F;show⟨A,N,w,H,rfl,M,y,F,λp B=>?_⟩;show aA rfl rfl (aA rfl rfl (fj ?_));show fg (λrest σ k=>k=p/\∃(q:Nat) (o:Option D),q<=N/\rest=(CC (Mx.ae A) N).drop q/\σ=[some H,some (.tup [.tup (w6 (Mx.ae A) N),.tup (CC (Mx.ae A) N)]),some (.tup (w6 (Mx.ae A) N)),o]/\∀i j,j<i->i<q->2*(((Mx.lam (Mx.ae A) i j).natAbs:Nat):Int)<=Mx.D (j+1) (Mx.ae A)) ?_ ?_ _ _ _ ⟨rfl,0,none,Xq _,rfl,rfl,λi j _ h=>by lia⟩
 . rintro σ k ⟨rfl,q,o,J,a,rfl,u⟩
   let f:q=N:=by
    let:=Ye List.length a;simp at this;lia
   subst f;show⟨trivial,?_⟩;show cP rfl (tW ⟨by decide,by decide,by rw[W2,aaC];lia,by rw[W2,aaC];lia⟩ ⟨cx (by rw[dZ];simp;lia),?_⟩)
   let O:cQ 1 ((((w6 (Mx.ae A) q).length:Nat):Int)-1).toNat=(List.range (q-1)).map λm=>D.int ((m+1:Nat):Int):=by
    unfold cQ;let:((((w6 (Mx.ae A) q).length:Nat):Int)-1).toNat=q-1:=by rw[W2,aaC];lia
    rw[this];show Xz λm _=>?_;congr 1;lia
   rw[O];show fG (h:=λm=> .bl (decide (4*Mx.D (m+2) (Mx.ae A)*Mx.D m (Mx.ae A)<3*Mx.D (m+1) (Mx.ae A)*Mx.D (m+1) (Mx.ae A)-4*Mx.lam (Mx.ae A) (m+1) m*Mx.lam (Mx.ae A) (m+1) m))) trivial (λm l R t=>⟨_,rfl,?_⟩) ?_
   . have E:∀j,j<q->dw (w6 (Mx.ae A) q) (j:Int)=some (iK (Mx.D (j+1) (Mx.ae A)) (Mx.D j (Mx.ae A))):=λj g=>eP (by rw[W_,Yb g];rfl);show aA rfl (E (m+1) (by lia)) (aA rfl rfl (aA (e:= .tup (CO (Mx.ae A) (m+1))) rfl (eP (by rw[W_,Yb (by lia)];rfl)) (cM ?_)));let G:((m+1:Nat):Int)-1=(m:Int):=by lia
     rw[G];show aA (e:=iK (Mx.lam (Mx.ae A) (m+1) m) (Mx.D (m+1) (Mx.ae A))) rfl (eP (by rw[W_,Yb (by lia)];rfl)) (cM ?_);rw[G];show aA rfl (E m (by lia)) ?_;show⟨_,_,_,_,rfl,r _ (by lia),r _ (by lia),n.Db (by lia),n.Dc (by lia),n.Dc (by lia),n.lb (by lia) (by lia),t⟩
   show SM (lX _) ?_;by_cases d:Mx.Sh (Mx.ae A) q
   . have:((List.range (q-1)).map λm=>decide (4*Mx.D (m+2) (Mx.ae A)*Mx.D m (Mx.ae A)<3*Mx.D (m+1) (Mx.ae A)*Mx.D (m+1) (Mx.ae A)-4*Mx.lam (Mx.ae A) (m+1) m*Mx.lam (Mx.ae A) (m+1) m)).any id=false:=by
      rw[abg];intro b v;obtain⟨m,l,rfl⟩:=XB.mp v;rw[XI]at l;let:=d.Fz (m+1) (by lia) (by lia);simpa using this
     rw[this];show I d _ B
   . have:((List.range (q-1)).map λm=>decide (4*Mx.D (m+2) (Mx.ae A)*Mx.D m (Mx.ae A)<3*Mx.D (m+1) (Mx.ae A)*Mx.D (m+1) (Mx.ae A)-4*Mx.lam (Mx.ae A) (m+1) m*Mx.lam (Mx.ae A) (m+1) m)).any id=true:=by
      cases z:((List.range (q-1)).map λm=>decide (4*Mx.D (m+2) (Mx.ae A)*Mx.D m (Mx.ae A)<3*Mx.D (m+1) (Mx.ae A)*Mx.D (m+1) (Mx.ae A)-4*Mx.lam (Mx.ae A) (m+1) m*Mx.lam (Mx.ae A) (m+1) m)).any id with
      |true=>rfl
      |false=>
       rw[abg]at z;show absurd ⟨u,λi T L=>?_⟩ d;let:=z _ (XB.mpr ⟨i-1,XI.mpr (by lia),rfl⟩);let Q:i-1+1=i:=by lia
       let P:i-1+2=i+1:=by lia
       rw[Q,P]at this;simpa using this
     rw[this];show C d _ B
 . rintro x rest σ k ⟨rfl,q,o,J,a,rfl,u⟩ next
   let f:q<N:=by
    let:=Ye List.length a;simp at this;lia
   rw[Xm (by simpa using f),Yy,Xx,XG]at a;obtain⟨rfl,rfl⟩:=a;show⟨trivial,_,rfl,?_⟩;show fj ⟨cx (by simp;lia),?_⟩;show fG (h:=λj=> .bl (decide (2*(((Mx.lam (Mx.ae A) q j).natAbs:Nat):Int)<=Mx.D (j+1) (Mx.ae A)))) trivial (λj g R t=>⟨_,rfl,_,_,rfl,r _ (by lia),t⟩) ?_;show tw (lX _) ?_;by_cases c:∀j,j<q->2*(((Mx.lam (Mx.ae A) q j).natAbs:Nat):Int)<=Mx.D (j+1) (Mx.ae A)
   . have:((List.range q).map λj=>decide (2*(((Mx.lam (Mx.ae A) q j).natAbs:Nat):Int)<=Mx.D (j+1) (Mx.ae A))).all id=true:=by
      rw[XA];intro b v;obtain⟨m,l,rfl⟩:=XB.mp v;rw[XI]at l;simpa using c m l
     rw[this];show next _ _ ⟨rfl,q+1,_,f,rfl,rfl,λi j g L=>?_⟩
     by_cases s:i=q
     . subst s;show c j g
     . show u i j g (by lia)
   . have:((List.range q).map λj=>decide (2*(((Mx.lam (Mx.ae A) q j).natAbs:Nat):Int)<=Mx.D (j+1) (Mx.ae A))).all id=false:=by
      cases z:((List.range q).map λj=>decide (2*(((Mx.lam (Mx.ae A) q j).natAbs:Nat):Int)<=Mx.D (j+1) (Mx.ae A))).all id with
      |false=>rfl
      |true=>
       rw[XA]at z;show absurd (λj g=>?_) c;let:=z _ (XB.mpr ⟨j,XI.mpr g,rfl⟩);simpa using this
     rw[this];show C (λd=>c λj g=>d.half q j g f) _ B
structure Ss(n0:Nat)(st:af)(s b xb xu xc tb:Nat)(rs:List Nat)(A U C:List (List Int))(N:Nat):Prop where
 es:st[s]?=some (Cell.ins aO [("bench",.ref b),("table",.ref tb)])
 B:Bn st b xb xu xc A U C
 T:Tb st tb rs (Mx.ae A) N
 d1:tb≠xb/\tb≠xu/\tb≠xc
 d2:∀(i c:Nat),rs[i]?=some c->c≠xb/\c≠xu/\c≠xc
 lo:n0<=s/\n0<=b/\n0<=xb/\n0<=xu/\n0<=xc/\n0<=tb
 lr:∀(i c:Nat),rs[i]?=some c->n0<=c
def rR{st b:af}(f:∀(m:Nat) (xs:List D),st[m]?=some (Cell.lst xs)->b[m]?=some (Cell.lst xs)):∀ {c:List D} {A:List (List Int)},bL st c A->bL b c A
 | [],[],_=>trivial
 |d::_,_::_,h=>⟨by
  let a:=h.1;cases d with
  |ref n=>
   unfold items? at a⊢;simp only at a⊢;split at a
   . rename_i xs e;rw[f n xs e];show a
   . cases a
  |_=>show a,rR f h.2⟩
def Dz{st a:af}(f:∀(m:Nat) (xs:List D),st[m]?=some (Cell.lst xs)->a[m]?=some (Cell.lst xs)){d:D}{A:List (List Int)}(h:dM st d A):dM a d A:=by
 obtain⟨c,e,r⟩:=h.ex;show⟨c,?_,rR f r⟩;cases d with
 |ref n=>
  unfold items? at e⊢;simp only at e⊢;split at e
  . rename_i xs b;rw[f n xs b];show e
  . cases e
 |_=>show e
def jy:bN:=λi st K=>∃(s N w:Nat) (d:D) (A:List (List Int)),i=[.ref s,d]/\st[s]?=some (.ins aO [])/\dM st d A/\St A N w/\(∀k,k<=N->Mx.D k (Mx.ae A)≠0)/\∀a b f c e g h,Ss s a s b f c e g h A (Mx.units N) (Mx.units N) N->(∀m,m<s->a[m]?=st[m]?)->K .aD a
def jx:List Str:=["self","steps"]
def uB:DS:=(av (lV aO "bench" (aa 0) (wQ aC hJ (ab (aa 1) ag)))
 (lV aO "table" (aa 0) (ay ng (ab (aa 1) ag))))
def sf:WS jy 2 uB jx:=by
 rintro R st K ⟨s,N,w,d,A,rfl,x,y,p,L,k⟩;show⟨rfl,?_⟩;let J:s<st.length:=(WV.mp x).1;let G:Ext st (st++[.ins aC []]):=Ext.push;let M:(st++[Cell.ins aC []]).length=st.length+1:=by simp
 show⟨st.length,N,d,A,rfl,by simp,G.AK y,p.is.len,p.gm.le,λa B I E=>⟨rfl,?_⟩⟩;rw[M]at B I E;let r:∀m,m<st.length->a[m]?=st[m]?:=λm g=>by rw[E m (by lia) (by lia),G.same m g]
 let v:a[s]?=some (.ins aO []):=(r s J).trans x;show kh v (by decide) ?_;let o:putD "bench" (.ref st.length) []=([("bench",.ref st.length)]:List (Str×D)):=rfl;rw[o];generalize b:a.set s (.ins aO [("bench",.ref st.length)])=st2;let P:st2.length=st.length+4:=by rw[<-b,Xf];lia
 let C:∀m,m≠s->st2[m]?=a[m]?:=λm g=>by rw[<-b,W0 (W4 g)]
 let u:st2[s]?=some (.ins aO [("bench",.ref st.length)]):=by rw[<-b,W9 (by lia)]
 clear b
 let q:dM st2 d A:=Dz (λm O e=>by
  let g:m<st.length:=(WV.mp e).1;let f:m≠s:=λz=>by rw[z,x]at e;cases e
  rw[C m f,r m g];show e) y
 show⟨A,N,w,d,rfl,q,p,L,λj H F T l=>?_⟩;let t:j[s]?=some (.ins aO [("bench",.ref st.length)]):=(F.same s (by lia)).trans u;show kh t (by simp) ?_;let o:putD "table" (.ref st2.length) [("bench",.ref st.length)]=([("bench",.ref st.length),("table",.ref st2.length)]:List (Str×D)):=rfl;rw[o];let Q:st2.length<j.length:=(WV.mp T.et).1;let n:∀m,m<st2.length->m≠s->(j.set s (.ins aO [("bench",.ref st.length),("table",.ref st2.length)]))[m]?=a[m]?:=λm g f=>by rw[W0 (W4 f),F.same m g,C m f]
 let b0:=(WV.mp B.eb).1;show k _ st.length (st.length+1) (st.length+1+1) (st.length+1+2) st2.length H ⟨?_,⟨?_,?_,?_,?_,by lia,by lia,by lia⟩,?_,⟨by lia,by lia,by lia⟩,λi c h=>?_,⟨by lia,by lia,by lia,by lia,by lia,by lia⟩,λi c h=>?_⟩ λm g=>?_
 . rw[W9 (by lia)]
 . rw[n _ (by lia) (by lia)];show B.eb
 . rw[n _ (by lia) (by lia)];show B.e1
 . rw[n _ (by lia) (by lia)];show B.e2
 . rw[n _ (by lia) (by lia)];show B.e3
 . show T.ext (W0 (by lia)) λi c h=>W0 ?_;let:=l i c h;lia
 . have:=l i c h;show⟨by lia,by lia,by lia⟩
 . have:=l i c h;lia
 . rw[n m (by lia) (by lia),r m (by lia)]
def dq:bN:=λd st K=>∃(s b c N a:Nat) (rs:List Nat) (G:Mx.Fn) (k:Int),d=[.ref s,.int k]/\st[s]?=some (Cell.ins aO [("bench",.ref b),("table",.ref c)])/\Tb st c rs G N/\k=(a:Int)-1/\a<=N/\K (.int (Mx.D a G)) st
def j_:List Str:=["self","k"]
def vL:DS:=(a6 (MK (a_ (ai sF (aa 1) (dC (.int 0)))) (ai aN (ai aN (cv aO "table" (aa 0)) (aa 1)) (aa 1)) (dC (.int 1))))
def Tb.line{st:af}{b N:Nat}{a:List Nat}{G:Mx.Fn}(h:Tb st b a G N){i:Nat}(hi:i<N):∃c,a[i]?=some c/\dw (a.map D.ref) ((i:Nat):Int)=some (.ref c)/\st[c]?=some (Cell.lst (aq (Mx.aW G i))):=by
 let d:=h.lr;let e:a[i]?=some a[i]:=W7 (by lia);show⟨a[i],e,eP (by rw[W_,e];rfl),h.row i _ e⟩
def Ss.line{j s b f d e g N:Nat}{a:List Nat}{A U C:List (List Int)}{st:af}(h:Ss j st s b f d e g a A U C N){i:Nat}(hi:i<N):∃c,a[i]?=some c/\dw (a.map D.ref) ((i:Nat):Int)=some (.ref c)/\st[c]?=some (Cell.lst (aq (Mx.aW (Mx.ae A) i))):=h.T.line hi
def jt(h:p<=i):dw (aq (Mx.aW G i)) ((p:Nat):Int)=some (.int (Mx.lam G i p)):=by
 let:=jj (r:=Mx.aW G i) (k:=p) (by rw[Mx.dk];lia);rw[Mx.ij _ h]at this;show this
def uy:WS dq 2 vL j_:=by
 rintro o st K ⟨s,b,h,N,a,j,G,k,rfl,d,T,rfl,l,q⟩;show⟨rfl,?_⟩;cases a with
 |zero=>
  show Vv (by lia) ?_;rw[Mx.gW]at q;show q
 |succ m=>
  have e:((m+1:Nat):Int)-1=(m:Int):=by lia
  rw[e];obtain⟨c,n,g,f⟩:=T.line (i:=m) (by lia);show U7 (by lia) (eN (bg d rfl (aA (ax T.et) g (aA (ax f) (jt (WX m)) ?_))));rw[Mx.cH];show q
structure Eb(A U C:List (List Int))(N:Nat):Prop where
 lam:∀i p,p<=i->i<N->(Mx.lam (Mx.ae A) i p).natAbs<=2^40000
 D:∀p,p<=N->0<Mx.D p (Mx.ae A)/\(Mx.D p (Mx.ae A)).natAbs<=2^744
 eA:∀r∈A,∀x∈r,x.natAbs<=2^400000
 eU:∀r∈U,∀x∈r,x.natAbs<=2^400000
 eC:∀r∈C,∀x∈r,x.natAbs<=2^400000
abbrev nq(A:List (List Int))(k j:Nat):Int:=(2*Mx.lam (Mx.ae A) k j+Mx.D (j+1) (Mx.ae A)).fdiv (2*Mx.D (j+1) (Mx.ae A))
def iS:bN:=λh st K=>∃(c s b f d e g N w k j:Nat) (rs:List Nat) (A U C:List (List Int)),h=[.ref s,.int k,.int j]/\Ss c st s b f d e g rs A U C N/\Mx.aX N w A/\Mx.aX N N U/\Mx.aX N N C/\j<k/\k<N/\N<=8/\w<=9/\Eb A U C N/\
 ∀a,Ss c a s b f d e g rs (Mx.aQ A k (nq A k j) j) (Mx.aQ U k (nq A k j) j) (Mx.aQ C j (-nq A k j) k) N->(∀m,m<c->a[m]?=st[m]?)->K .aD a
def kO:List Str:=["self","k","j","quotient","i"]
def xn:DS:=(av (aM 3 (ay gh (ab (ai aN (ai aN (cv aO "table" (aa 0)) (aa 1)) (aa 2)) (ab (ai aN (ai aN (cv aO "table" (aa 0)) (aa 2)) (aa 2)) ag))))
 (av (cS (a_ (ai gN (aa 3) (dC (.int 0)))) E1 cA)
 (av (d6 (de aC "take" iZ (cv aO "bench" (aa 0)) (ab (aa 1) (ab (aa 3) (ab (aa 2) ag)))))
 (fm (dg (ab (ai cE (aa 2) (dC (.int 1))) ag)) (bf 4) (CT (λi j=>i-j) (ai aN (cv aO "table" (aa 0)) (aa 1)) (aa 4) (ai bo (aa 3) (ai aN (ai aN (cv aO "table" (aa 0)) (aa 2)) (aa 4))))))))
def Ju{r s:List Int}(h:r.length=s.length):Mx.fS r 0 s=r:=by
 show Mx.tU (n:=r.length) (Mx.ka h) rfl λc _=>?_;rw[Mx.nj h];lia
def qB{A:List (List Int)}{N w k j:Nat}(a:Mx.aX N w A)(b:k<N)(c:j<N):Mx.aQ A k 0 j=A:=by
 unfold Mx.aQ;let d:=a.len;rw[Int.neg_zero,Ju (by rw[Mx.ba a b,Mx.ba a c]),Mx.aJ (by lia)];show List.set_getElem_self _
def EC(h:∀p,p<=i->Mx.lam G i p=Mx.lam a i p):Mx.aW G i=Mx.aW a i:=by
 unfold Mx.aW;show Xz λp b=>h p (by rw[XI]at b;lia)
def kK(G:Mx.Fn)(k j:Nat)(q:Int)(m:Nat):List Int:=(List.range (k+1)).map λp=>if p<m then Mx.lam G k p-q*Mx.lam G j p else Mx.lam G k p
def yh{k j m p:Nat}(h:p<=k):(kK G k j q m).getD p 0=if p<m then Mx.lam G k p-q*Mx.lam G j p else Mx.lam G k p:=by
 unfold kK;rw[Mx.aJ (by simp;lia),Xx,XG]
def oq{k j m:Nat}:(kK G k j q m).length=k+1:=by unfold kK;simp
def LB{k j m:Nat}(h:m<=k):(kK G k j q m).set m (Mx.lam G k m-q*Mx.lam G j m)=kK G k j q (m+1):=by
 show Mx.tU (n:=k+1) (by rw[Xf,oq]) oq λc d=>?_;rw[yh (by lia),Xa,abk];by_cases a:m=c
 . subst a;rw[WY rfl,WY (by rw[oq];lia),WY (by lia)];rfl
 . rw[WW a,<-Xa,yh (by lia)];by_cases b:c<m
   . rw[WY b,WY (by lia)]
   . rw[WW b,WW (by lia)]
def Tb.take{st:af}{e N w k j:Nat}{f:List Nat}{A:List (List Int)}{q:Int}(T:Tb st e f (Mx.ae A) N)(o:Mx.aX N w A)(m:j<k)(l:k<N){a:af}(u:a[e]?=st[e]?)(t:∀(i c:Nat),i≠k->f[i]?=some c->a[c]?=st[c]?)(s:∀c,f[k]?=some c->a[c]?=some (.lst (aq (kK (Mx.ae A) k j q (j+1))))):Tb a e f (Mx.ae (Mx.aQ A k q j)) N:=by
 let r:=T.lr;show⟨u.trans T.et,r,T.nd,T.nt,λi c h=>?_⟩;let n:i<N:=by let:=(WV.mp h).1;lia
 by_cases b:i=k
 . subst b;rw[s c h];congr 3;unfold kK Mx.aW;show Xz λp g=>?_;rw[XI]at g;rw[Mx.la o m l n (by lia),WY rfl];by_cases d:p<j+1
   . rw[WY d]
   . have z:Mx.lam (Mx.ae A) j p=0:=Mx.wb (by lia);rw[WW d,z,XT,Zb]
 . rw[t i c b h,T.row i c h];congr 3;show EC λp g=>by rw[Mx.la o m l n g,WW b,Zb]
def yy{A:List (List Int)}(h:Mx.aX N w A)(hi:i<N):A.getD i []∈A:=by
 let:=h.len;rw[Mx.aJ (by lia)];show XX _
def vX:WS iS 3 xn kO:=by
 rintro ds st K ⟨n0,s,b,xb,xu,xc,F,N,w,k,j,rs,A,U,C,rfl,h,Z,hU,hC,hj,y,hN,hw,G,W⟩;show⟨rfl,?_⟩;obtain⟨d,a,P,B⟩:=h.line (i:=k) y;obtain⟨cj,S,R,Q⟩:=h.line (i:=j) (by lia);obtain⟨ao,aS⟩:=G.D (j+1) (by lia);show bg h.es rfl (aA (ax h.T.et) P (aA (ax B) (jt (by lia)) (bg h.es rfl (aA (ax h.T.et) R (aA (ax Q) (jt (WX j)) ?_)))));rw[Mx.cH];show⟨_,_,rfl,by lia,?_⟩;unfold Mx.qn
 let X:(nq A k j).natAbs<=2^40000:=by
  let:=(Mx.Co (t:=Mx.lam (Mx.ae A) k j) ao).2;let h2:=G.lam k j (by lia) y;show WZ (aaa.mp this) h2
 show eq2 (λh0=>eN ?_) λh0=>?_
 . have e0:nq A k j=0:=h0;rw[e0,Int.neg_zero,qB Z y (by lia),qB hU y (by lia),qB hC (by lia) y]at W;show W st h λm _=>rfl
 unfold nq at X W;generalize aI:(2*Mx.lam (Mx.ae A) k j+Mx.D (j+1) (Mx.ae A)).fdiv (2*Mx.D (j+1) (Mx.ae A))=q at*;let J:(-q).natAbs<=2^40000:=by rw[YI];show X
 show bg h.es rfl (cX h.B.eb rfl ?_);show⟨b,xb,xu,xc,N,w,k,j,A,U,C,q,rfl,h.B,Z,hU,hC,y,by lia,hN,hw,λx I=>d7 J (G.eA _ (yy Z (by lia)) x I) (by decide) (by decide),λx I=>d7 J (G.eU _ (yy hU (by lia)) x I) (by decide) (by decide),λx I=>d7 X (G.eC _ (yy hC y) x I) (by decide) (by decide),λl V l1 f1=>?_⟩;let lo:=h.lo;let sx:s≠xb/\s≠xu/\s≠xc:=⟨gj h.es h.B.e1,gj h.es h.B.e2,gj h.es h.B.e3⟩
 let v:l[s]?=_:=(f1 s sx.1 sx.2.1 sx.2.2).trans h.es;let M:l[F]?=_:=(f1 F h.d1.1 h.d1.2.1 h.d1.2.2).trans h.T.et;let fr:∀(i c:Nat),rs[i]?=some c->l[c]?=st[c]?:=λi c o=>f1 c (h.d2 i c o).1 (h.d2 i c o).2.1 (h.d2 i c o).2.2
 let aD:d≠cj:=λz=>by
  let:=h.T.nd k j d a (by rw[z];show S);lia
 let T:d≠F:=h.T.nt k d a
 let E:∀(m:Nat) (C':Addr) (fs:List (Str×D)),l[m]?=some (.ins C' fs)->m≠d:=λm C' fs Y z=>by
  rw[z,fr k d a,B]at Y;cases Y
 show cW ?_;let e1:((j:Nat):Int)+1=((j+1:Nat):Int):=rfl;rw[e1];show fI ⟨by lia,by lia⟩ ?_;rw[Xv];show iY (j+1) (λm σ H=>∃v4:Option D,σ=[some (.ref s),some (.int (k:Int)),some (.int (j:Int)),some (.int q),v4]/\(∀n,n≠d->H[n]?=l[n]?)/\H[d]?=some (.lst (aq (kK (Mx.ae A) k j q m)))) ?_ ?_ ⟨none,rfl,λ_ _=>rfl,?_⟩
 . rintro σ f ⟨v4,rfl,g,e⟩;show W f ⟨?_,⟨?_,?_,?_,?_,h.B.n1,h.B.n2,h.B.n3⟩,?_,h.d1,h.d2,lo,h.lr⟩ λm Y=>?_
   . rw[g s (E s _ _ v)];show v
   . rw[g b (E b _ _ V.eb)];show V.eb
   . rw[g xb (h.d2 k d a).1.symm];show V.e1
   . rw[g xu (h.d2 k d a).2.1.symm];show V.e2
   . rw[g xc (h.d2 k d a).2.2.symm];show V.e3
   . show h.T.take Z hj y ?_ (λi c hi o=>?_) λc o=>?_
     . rw[g F (W4 T),M,h.T.et]
     . have:c≠d:=λz=>hi (h.T.nd i k c o (by rw[z];show a));rw[g c this,fr i c o]
     . rw[a]at o;cases o;show e
   . have a1:=h.lr k d a;rw[g m (by lia),f1 m (by lia) (by lia) (by lia)]
 . rintro m σ f rest Y ⟨v4,rfl,g,e⟩ next
   show⟨_,rfl,?_⟩;let O:f[s]?=_:=(g s (E s _ _ v)).trans v;let L:f[F]?=_:=(g F (W4 T)).trans M;let au:f[cj]?=_:=((g cj (W4 aD)).trans (fr j cj S)).trans Q;show bg O rfl (aA (ax L) P ?_)
   show ND (u:=Mx.lam (Mx.ae A) k m) e (by lia) (by
    let:=jj (r:=kK (Mx.ae A) k j q m) (k:=m) (by rw[oq];lia);rw[yh (by lia),WW (XU m)]at this;show this) ?_
   show bg O rfl (aA (ax L) R (aA (ax au) (jt (by lia)) (bC (d7 X (G.lam j m (by lia) (by lia)) (by decide) (by decide)) ?_)));show O3 (j:=m) e (by rw[W2,oq];show iA (by lia)) ?_
   let ar:(aq (kK (Mx.ae A) k j q m)).set m (.int (Mx.lam (Mx.ae A) k m-q*Mx.lam (Mx.ae A) j m))=aq (kK (Mx.ae A) k j q (m+1)):=by
    rw[<-LB (by lia)];unfold aq;rw[aa2]
   rw[ar];let ah:=(WV.mp e).1;show next _ _ ⟨_,rfl,λn hn=>by rw[W0 (W4 hn)];show g n hn,W9 ah⟩
 . rw[fr k d a,B]
   let e9:kK (Mx.ae A) k j q 0=Mx.aW (Mx.ae A) k:=by
    unfold kK Mx.aW;show Xz λp _=>by rw[WW (by lia)]
   rw[e9]
def jw:bN:=λg st K=>∃(f s b d a c e N t:Nat) (rs:List Nat) (A U C:List (List Int)),g=[.ref s,.int ((t+1:Nat):Int)]/\Ss f st s b d a c e rs A U C N/\t+1<N/\Eb A U C N/\K (.bl (decide (4*(Mx.D (t+2) (Mx.ae A)*Mx.D t (Mx.ae A)+Mx.lam (Mx.ae A) (t+1) t*Mx.lam (Mx.ae A) (t+1) t)<3*Mx.D (t+1) (Mx.ae A)*Mx.D (t+1) (Mx.ae A)))) st
def jz:List Str:=["self","k","share","ahead"]
def uw:DS:=(av (aM 2 (ai aN (ai aN (cv aO "table" (aa 0)) (aa 1)) (ai df (aa 1) (dC (.int 1)))))
 (av (aM 3 (de aO "last_of" dq (aa 0) (ab (ai df (aa 1) (dC (.int 1))) ag)))
 (a6 (ai pW (ai bo (dC (.int 4)) (ai cE (ai bo (de aO "last_of" dq (aa 0) (ab (aa 1) ag)) (de aO "last_of" dq (aa 0) (ab (ai df (aa 1) (dC (.int 2))) ag))) (ai bo (aa 2) (aa 2)))) (ai bo (ai bo (dC (.int 3)) (aa 3)) (aa 3))))))
def tj:WS jw 2 uw jz:=by
 rintro w st K ⟨v,s,b,u,q,r,c,N,t,d,A,U,C,rfl,h,g,a,m⟩;show⟨rfl,?_⟩;obtain⟨x,o,f,e⟩:=h.line (i:=t+1) g;let n:((t+1:Nat):Int)-1=(t:Int):=by lia
 show bg h.es rfl (aA (ax h.T.et) f (cM ?_));rw[n];show aA (ax e) (jt (by lia)) ?_;let b0:=(a.D t (by lia)).2;let k:=(a.D (t+1) (by lia)).2;let p:=(a.D (t+2) (by lia)).2;let j:=a.lam (t+1) t (by lia) g;let l:(3:Int).natAbs<=2^2:=by decide
 show cX h.es rfl (cM ?_);show⟨s,b,c,N,t+1,d,_,_,rfl,h.es,h.T,by lia,by lia,?_⟩;show cX h.es rfl ?_;show⟨s,b,c,N,t+2,d,_,_,rfl,h.es,h.T,by lia,by lia,?_⟩;show cX h.es rfl (cM ?_);show⟨s,b,c,N,t,d,_,_,rfl,h.es,h.T,by lia,by lia,?_⟩;show bC (d7 p b0 (by decide) (by decide)) (bC (d7 j j (by decide) (by decide)) (cW (bC (fJ (by decide) (by decide)) (bC (fJ (by decide) (by decide)) (bC (d7 (rV l k) k (by decide) (by decide)) (AL m))))))
structure rl(st:af)(tb:Nat)(rs:List Nat)(L:Nat->List Int)(N:Nat):Prop where
 et:st[tb]?=some (Cell.lst (rs.map D.ref))
 lr:rs.length=N
 nd:∀(i j c:Nat),rs[i]?=some c->rs[j]?=some c->i=j
 nt:∀(i c:Nat),rs[i]?=some c->c≠tb
 row:∀(i c:Nat),rs[i]?=some c->st[c]?=some (Cell.lst (aq (L i)))
def Tb.toF{st:af}{a N:Nat}{b:List Nat}{G:Mx.Fn}(T:Tb st a b G N):rl st a b (Mx.aW G) N:=⟨T.et,T.lr,T.nd,T.nt,T.row⟩
def rl.toT{st:af}{a N:Nat}{b:List Nat}{G:Mx.Fn}{L:Nat->List Int}(T:rl st a b L N)(h:∀i,i<N->L i=Mx.aW G i):Tb st a b G N:=⟨T.et,T.lr,T.nd,T.nt,λi c d=>by
 let:=(WV.mp d).1;rw[<-h i (by let:=T.lr;lia)];show T.row i c d⟩
def rl.line{st:af}{b N:Nat}{a:List Nat}{L:Nat->List Int}(h:rl st b a L N){i:Nat}(hi:i<N):∃c,a[i]?=some c/\dw (a.map D.ref) ((i:Nat):Int)=some (.ref c)/\st[c]?=some (Cell.lst (aq (L i))):=by
 let d:=h.lr;let e:a[i]?=some a[i]:=W7 (by lia);show⟨a[i],e,eP (by rw[W_,e];rfl),h.row i _ e⟩
def rl.lt{st:af}{L:Nat->List Int}(h:rl st a b L N):a<st.length/\∀(i c:Nat),b[i]?=some c->c<st.length:=⟨(WV.mp h.et).1,λi c d=>(WV.mp (h.row i c d)).1⟩
def mB{a:List Nat}(hi:i<a.length)(h:(a.set i d)[m]?=some c):(m=i/\c=d)\/(m≠i/\a[m]?=some c):=by
 rw[abk]at h;by_cases z:i=m
 . rw[WY z,WY (by lia)]at h;cases h;show .inl ⟨z.symm,rfl⟩
 . rw[WW z]at h;show .inr ⟨W4 z,h⟩
def rl.put{st:af}{g N i:Nat}{h:List Nat}{L:Nat->List Int}(T:rl st g h L N)(hi:i<N)(r:List Int):rl ((st++[Cell.lst (aq r)]).set g (.lst ((h.set i st.length).map D.ref))) g (h.set i st.length) (λm=>if m=i then r else L m) N:=by
 let l:=T.lr;obtain⟨s,j⟩:=T.lt;show⟨W9 (by simp;lia),by rw[Xf];show l,λa b c f n=>?_,λa c f=>?_,λa c f=>?_⟩
 . rcases mB (by lia) f with⟨e,d⟩|⟨e,d⟩<;>rcases mB (by lia) n with⟨q,k⟩|⟨q,k⟩
   . lia
   . have:=j b c k;lia
   . have:=j a c d;lia
   . show T.nd a b c d k
 . rcases mB (by lia) f with⟨e,d⟩|⟨e,d⟩
   . lia
   . show T.nt a c d
 . rcases mB (by lia) f with⟨e,d⟩|⟨e,d⟩
   . rw[WY e,d,W0 (by lia)];simp
   . have p:=j a c d;let o:=T.nt a c d;rw[WW e,W0 (W4 o),W3 p];show T.row a c d
def mR:bN:=λl st K=>∃(g s b k i j h N w t:Nat) (rs:List Nat) (A U C:List (List Int)),l=[.ref s,.int ((t+1:Nat):Int)]/\Ss g st s b k i j h rs A U C N/\Mx.aX N w A/\Mx.aX N N U/\Mx.aX N N C/\t+1<N/\N<=8/\Eb A U C N/\
 ∀a e c d f,Ss g a s b e c d h f (Mx.aR A (t+1) t) (Mx.aR U (t+1) t) (Mx.aR C (t+1) t) N->(∀m,m<g->a[m]?=st[m]?)->K .aD a
def mJ:List Str:=["self","k","share","own","ahead","made","kept","i","line","upper","lower"]
def zO:DS:=(av (d6 (de aC "exchange" ib (cv aO "bench" (aa 0)) (ab (aa 1) (ab (ai df (aa 1) (dC (.int 1))) ag))))
 (av (aM 2 (ai aN (ai aN (cv aO "table" (aa 0)) (aa 1)) (ai df (aa 1) (dC (.int 1)))))
 (av (aM 3 (de aO "last_of" dq (aa 0) (ab (aa 1) ag)))
 (av (aM 4 (de aO "last_of" dq (aa 0) (ab (ai df (aa 1) (dC (.int 1))) ag)))
 (av (aM 5 (ai ip (ai cE (ai bo (de aO "last_of" dq (aa 0) (ab (ai df (aa 1) (dC (.int 2))) ag)) (aa 3)) (ai bo (aa 2) (aa 2))) (aa 4)))
 (av (aM 6 (gq (ai aN (cv aO "table" (aa 0)) (aa 1)) fH (hZ (ai df (aa 1) (dC (.int 1))))))
 (av (fY (cv aO "table" (aa 0)) (aa 1) (ai qj (gq (ai aN (cv aO "table" (aa 0)) (ai df (aa 1) (dC (.int 1)))) fH (hZ (ai df (aa 1) (dC (.int 1))))) (mP (ab (aa 2) (ab (aa 3) ag)))))
 (av (fY (cv aO "table" (aa 0)) (ai df (aa 1) (dC (.int 1))) (ai qj (aa 6) (mP (ab (aa 5) ag))))
 (fm (kZ (ab (ai cE (aa 1) (dC (.int 1))) (ab (bz dB (ab (cv aO "table" (aa 0)) ag)) ag))) (bf 7) (av (aM 8 (ai aN (cv aO "table" (aa 0)) (aa 7)))
 (av (aM 9 (ai ip (ai df (ai bo (aa 3) (ai aN (aa 8) (ai df (aa 1) (dC (.int 1))))) (ai bo (aa 2) (ai aN (aa 8) (aa 1)))) (aa 4)))
 (av (aM 10 (ai ip (ai cE (ai bo (aa 5) (ai aN (aa 8) (aa 1))) (ai bo (aa 2) (aa 9))) (aa 3)))
 (fY (cv aO "table" (aa 0)) (aa 7) (ai qj (ai cE (gq (aa 8) fH (hZ (ai df (aa 1) (dC (.int 1))))) (mP (ab (aa 10) (ab (aa 9) ag)))) (gq (aa 8) (hZ (ai cE (aa 1) (dC (.int 1)))) fH)))))))))))))))
def vO(h:t<=i):L3.cutD (aq (Mx.aW G i)) none (some ((t:Nat):Int))=aq ((List.range t).map λp=>Mx.lam G i p):=by
 let a:t<=(Mx.aW G i).length:=by rw[Mx.dk];lia
 let e:L3.cutD (aq (Mx.aW G i)) none (some ((t:Nat):Int))=aq ((Mx.aW G i).take t):=by
  unfold L3.cutD;rw[HT.qp,HT.ye,W2,ZU a,ab0,abB];unfold aq;rw[ZN]
 rw[e];unfold Mx.aW;rw[<-ZN,List.take_range,ZU (by lia)]
def Kh(h:t<=i+1):L3.cutD (aq (Mx.aW G i)) (some ((t:Nat):Int)) none=aq ((List.range (i+1-t)).map λp=>Mx.lam G i (t+p)):=by
 let b:t<=(Mx.aW G i).length:=by rw[Mx.dk];lia
 unfold L3.cutD;rw[HT.qp,HT.ye,W2,ZU b];show abn λm=>?_;rw[List.getElem?_take];by_cases a:m<i+1-t
 . rw[WY (by rw[Mx.dk];lia),List.getElem?_drop];unfold Mx.aW;rw[W_,W_,W_,W_,Yb (by lia),Yb a];rfl
 . rw[WW (by rw[Mx.dk];lia),Yw (by simpa using a)]
def sT{a b c:Int}(d:b≠0)(h:b*c=a):a.fdiv b=c:=by rw[<-h,YT _ d]
def BP(f:Nat->Int)(t:Nat)(x y:Int):aq ((List.range t).map f)++[.int x,.int y]=aq ((List.range t).map f++[x,y]):=by simp[aq]
def NS(a:∀i j,G i j=G j i)(t:Nat):(List.range t).map (λp=>Mx.lam G t p)++[Mx.lam G (t+1) t,Mx.D (t+2) G]=Mx.aW (Mx.b_ G t) (t+1):=by
 unfold Mx.aW;rw[YB,YB,Yi,Yi,YX];congr 1
 . show Xz λp b=>?_;rw[XI]at b;rw[Mx.k_ b,Mx.Fg]
 . show [_,_]=[Mx.lam (Mx.b_ G t) (t+1) t,Mx.lam (Mx.b_ G t) (t+1) (t+1)]
   rw[Mx.Cj a,Mx.Sw a,Mx.cH]
def Hq(t:Nat):(List.range t).map (λp=>Mx.lam G (t+1) p)++[Mx.lam (Mx.b_ G t) t t]=Mx.aW (Mx.b_ G t) t:=by
 unfold Mx.aW;rw[YB,Yi];congr 1;show Xz λp a=>?_;rw[XI]at a;rw[Mx.k_ a,Mx.Bb]
def KJ(hi:t+1<i):(List.range t).map (λp=>Mx.lam G i p)++[Mx.lam (Mx.b_ G t) i t,Mx.lam (Mx.b_ G t) i (t+1)]++(List.range (i+1-(t+2))).map (λp=>Mx.lam G i (t+2+p))=Mx.aW (Mx.b_ G t) i:=by
 unfold Mx.aW
 let e:List.range (i+1)=List.range t++[t,t+1]++(List.range (i+1-(t+2))).map (λp=>t+2+p):=by
  let b:i+1=t+2+(i+1-(t+2)):=by lia
  conv=>lhs;rw[b]
  rw[List.range_add,YB,YB,YX (List.range t)];rfl
 rw[e,Yi,Yi,Xy];congr 1
 . congr 1;show Xz λp a=>?_;rw[XI]at a;rw[Mx.k_ a,Mx.jc (by lia) (by lia)]
 . show Xz λp a=>?_;rw[XI]at a;change _=Mx.lam (Mx.b_ G t) i (t+2+p);rw[Mx.Kv (by lia) (by lia)]
def abs_dvd{d x y:Int}(a:0<d)(h:d*x=y):x.natAbs<=y.natAbs:=by
 rw[<-h,Xo];let:1*x.natAbs<=d.natAbs*x.natAbs:=XW _ (by lia);lia
def uf{a:Int}(h:a.natAbs<=2^m)(b:m<=n):a.natAbs<=2^n:=WZ h (Xd (by decide) b)
def Iq{a b:Int}(d:a.natAbs<=2^m)(c:b.natAbs<=2^m):(a+b).natAbs<=2^(m+1):=by
 let:=abo a b;rw[Za];lia
def R_{a b:Int}(d:a.natAbs<=2^m)(c:b.natAbs<=2^m):(a-b).natAbs<=2^(m+1):=by
 let:=Iq d (b:= -b) (by rw[YI];show c);rw[<-ZT]at this;show this
def yb:WS mR 2 zO mJ:=by
 rintro ds st K ⟨n0,s,b,xb,xu,xc,f,N,w,t,l,A,U,C,rfl,h,hA,hU,hC,X,hN,W,kk⟩;show⟨rfl,?_⟩;let J:((t+1:Nat):Int)-1=(t:Int):=by lia
 let lo:=h.lo;let bq:s<st.length:=(WV.mp h.es).1;let P:=h.T.toF.lt;let lA:=hA.len;let v:=Mx.jf A;let br:Mx.ae (Mx.aR A (t+1) t)=Mx.b_ (Mx.ae A) t:=Mx.ma (by lia);obtain⟨p0,b0⟩:=W.D t (by lia);obtain⟨p1,b1⟩:=W.D (t+1) (by lia);obtain⟨p2,b2⟩:=W.D (t+2) (by lia);let V:=W.lam (t+1) t (by lia) X;show bg h.es rfl (cX h.B.eb rfl (cM ?_));rw[J];show⟨b,xb,xu,xc,N,w,t+1,t,A,U,C,rfl,h.B,hA,hU,hC,X,by lia,λa L l1 Z=>?_⟩
 let sb:s≠b:=λz=>by
  let y:=h.es;rw[z,h.B.eb]at y;let G:=Cell.ins.inj (XZ y);show absurd G.1 (by decide)
 let lb:∀m xs,st[m]?=some (Cell.lst xs)->m≠b:=λm xs u z=>by rw[z,h.B.eb]at u;cases u
 let d:a[s]?=_:=(Z s bq sb).trans h.es;let B:Tb a f l (Mx.ae A) N:=h.T.ext (Z f P.1 (lb _ _ h.T.et)) λi c o=>Z c (P.2 i c o) (lb _ _ (h.T.row i c o));obtain⟨ck,b4,a4,a3⟩:=B.line (i:=t+1) X;show bg d rfl (aA (ax B.et) a4 (cM ?_));rw[J];show aA (ax a3) (jt (by lia)) ?_;show cX d rfl ?_;show⟨s,b,f,N,t+2,l,_,_,rfl,d,B,by lia,by lia,?_⟩;show cX d rfl (cM ?_);show⟨s,b,f,N,t+1,l,_,_,rfl,d,B,by lia,by lia,?_⟩;show cX d rfl (cM ?_);show⟨s,b,f,N,t,l,_,_,rfl,d,B,by lia,by lia,?_⟩;show bC (d7 b0 b2 (by decide) (by decide)) (bC (d7 V V (by decide) (by decide)) (cW (gT (by lia) (AA b1 (by lia) (by decide)) ?_)));rw[sT (by lia) (Mx.pG v (by lia))];show bg d rfl (aA (ax B.et) a4 (cM ?_));rw[J];show ku a3 ?_;rw[vO (by lia)];obtain⟨cj,b5,bM,bF⟩:=B.line (i:=t) (by lia);show bg d rfl (cM ?_);rw[J];show aA (ax B.et) bM (cM ?_);rw[J];show ku bF ?_;rw[vO (by lia)];show⟨Xb rfl,yi (by rw[Yl];simp;lia) ?_⟩;rw[BP,NS v];let F1:=B.toF;let bp:=F1.lt;let a0:(a++[Cell.lst (aq (Mx.aW (Mx.b_ (Mx.ae A) t) (t+1)))])[s]?=_:=(W3 (by lia)).trans d;let ar:(a++[Cell.lst (aq (Mx.aW (Mx.b_ (Mx.ae A) t) (t+1)))])[f]?=_:=(W3 bp.1).trans F1.et;show bg a0 rfl (iz ar (by rw[W2,F1.lr];show iA X) ?_);let bB:(l.map D.ref).set (t+1) (.ref a.length)=(l.set (t+1) a.length).map D.ref:=by rw[aa2]
 rw[bB];let F2:=F1.put X (Mx.aW (Mx.b_ (Mx.ae A) t) (t+1));let g2:∀m,m<a.length->m≠f->((a++[Cell.lst (aq (Mx.aW (Mx.b_ (Mx.ae A) t) (t+1)))]).set f (.lst ((l.set (t+1) a.length).map D.ref)))[m]?=a[m]?:=λm u k=>by rw[W0 (W4 k),W3 u]
 let l2:((a++[Cell.lst (aq (Mx.aW (Mx.b_ (Mx.ae A) t) (t+1)))]).set f (.lst ((l.set (t+1) a.length).map D.ref))).length=a.length+1:=by simp
 let F:s≠f:=gj h.es h.T.et;generalize((a++[Cell.lst (aq (Mx.aW (Mx.b_ (Mx.ae A) t) (t+1)))]).set f (.lst ((l.set (t+1) a.length).map D.ref)))=st2 at F2 g2 l2⊢;let aS:st2[s]?=_:=(g2 s (by lia) F).trans d;show⟨Xb rfl,yi (by rw[Yl];simp;lia) ?_⟩;rw[ints_app,Hq];let bl:=F2.lt;let aI:(st2++[Cell.lst (aq (Mx.aW (Mx.b_ (Mx.ae A) t) t))])[s]?=_:=(W3 (by lia)).trans aS;let ao:(st2++[Cell.lst (aq (Mx.aW (Mx.b_ (Mx.ae A) t) t))])[f]?=_:=(W3 bl.1).trans F2.et;show bg aI rfl (cM ?_);rw[J];show iz ao (by rw[W2,F2.lr];show iA (by lia)) ?_;let bA:((l.set (t+1) a.length).map D.ref).set t (.ref st2.length)=((l.set (t+1) a.length).set t st2.length).map D.ref:=by simp![aa2]
 rw[bA];let E:=F2.put (i:=t) (by lia) (Mx.aW (Mx.b_ (Mx.ae A) t) t);let g3:∀m,m<st2.length->m≠f->((st2++[Cell.lst (aq (Mx.aW (Mx.b_ (Mx.ae A) t) t))]).set f (.lst (((l.set (t+1) a.length).set t st2.length).map D.ref)))[m]?=st2[m]?:=λm u k=>by rw[W0 (W4 k),W3 u]
 let l3:((st2++[Cell.lst (aq (Mx.aW (Mx.b_ (Mx.ae A) t) t))]).set f (.lst (((l.set (t+1) a.length).set t st2.length).map D.ref))).length=st2.length+1:=by simp
 let r3:∀(i c:Nat),((l.set (t+1) a.length).set t st2.length)[i]?=some c->(n0<=c/\(c<st.length->∃i',l[i']?=some c))/\(st.length<=c->a.length<=c):=λi c o=>by
  let lr:=B.lr;rcases mB (by rw[Xf];lia) o with⟨_,rfl⟩|⟨_,T⟩
  . show⟨⟨by lia,λz=>by lia⟩,λ_=>by lia⟩
  . rcases mB (by lia) T with⟨_,rfl⟩|⟨_,S⟩
    . show⟨⟨by lia,λz=>by lia⟩,λ_=>by lia⟩
    . have:=P.2 i c S;show⟨⟨h.lr i c S,λ_=>⟨i,S⟩⟩,λz=>by lia⟩
 generalize((st2++[Cell.lst (aq (Mx.aW (Mx.b_ (Mx.ae A) t) t))]).set f (.lst (((l.set (t+1) a.length).set t st2.length).map D.ref)))=st3 at E g3 l3⊢;generalize((l.set (t+1) a.length).set t st2.length)=rs3 at E r3⊢;let bw:st3[s]?=_:=(g3 s (by lia) F).trans aS;let bZ:b<st.length:=(WV.mp h.B.eb).1;let bP:b≠f:=gj h.B.eb h.T.et;let Y:∀m,m<a.length->m≠f->st3[m]?=a[m]?:=λm u k=>(g3 m (by lia) k).trans (g2 m u k);show cW ?_;show bg bw rfl (cP (ax E.et) ?_);rw[W2,E.lr];let e5:((t+1:Nat):Int)+1=((t+2:Nat):Int):=rfl;rw[e5];show tW ⟨by lia,by lia,by lia,by lia⟩ ?_
 let er:cQ ((t+2:Nat):Int) (((N:Nat):Int)-((t+2:Nat):Int)).toNat=(List.range (N-(t+2))).map λm=>D.int ((t+2+m:Nat):Int):=by
  unfold cQ;let:(((N:Nat):Int)-((t+2:Nat):Int)).toNat=N-(t+2):=by lia
  rw[this];show Xz λm _=>?_;congr 1
 rw[er];let bU:∀m,m<n0->st3[m]?=st[m]?:=λm u=>by rw[Y m (by lia) (by lia),Z m (by lia) (by lia)]
 show fg (λrest σ O=>∃(q:Nat) (j:List Nat) (v7 v8 v9 M:Option D),q<=N-(t+2)/\rest=((List.range (N-(t+2))).map λm=>D.int ((t+2+m:Nat):Int)).drop q/\σ=[some (.ref s),some (.int ((t+1:Nat):Int)),some (.int (Mx.lam (Mx.ae A) (t+1) t)),some (.int (Mx.D (t+2) (Mx.ae A))),some (.int (Mx.D (t+1) (Mx.ae A))),some (.int (Mx.lam (Mx.b_ (Mx.ae A) t) t t)),some (.lst (aq ((List.range t).map λp=>Mx.lam (Mx.ae A) (t+1) p))),v7,v8,v9,M]/\a.length<=O.length/\(∀m,m<a.length->m≠f->O[m]?=a[m]?)/\rl O f j (λi=>if i<t+2+q then Mx.aW (Mx.b_ (Mx.ae A) t) i else Mx.aW (Mx.ae A) i) N/\∀(i c:Nat),j[i]?=some c->(n0<=c/\(c<st.length->∃i',l[i']?=some c))/\(st.length<=c->a.length<=c)) ?_ ?_ _ _ _ ⟨0,rs3,none,none,none,none,Xq _,rfl,rfl,by lia,Y,?_,r3⟩
 . rintro σ g ⟨q,j,v7,v8,v9,M,hq,e,rfl,l4,H,I,r4⟩;show⟨trivial,?_⟩
   let Q:q=N-(t+2):=by
    let:=Ye List.length e;simp at this;lia
   let T4:Tb g f j (Mx.ae (Mx.aR A (t+1) t)) N:=I.toT λi R=>by rw[WY (by lia),br]
   let nb:=L.n1;show kk g st.length (st.length+1) (st.length+2) j ⟨?_,⟨?_,?_,?_,?_,L.n1,L.n2,L.n3⟩,T4,⟨by lia,by lia,by lia⟩,λi c o=>?_,⟨by lia,by lia,by lia,by lia,by lia,by lia⟩,λi c o=>(r4 i c o).1.1⟩ λm u=>?_
   . rw[H s (by lia) F];show d
   . rw[H b (by lia) bP];show L.eb
   . rw[H _ (by lia) (by lia)];show L.e1
   . rw[H _ (by lia) (by lia)];show L.e2
   . rw[H _ (by lia) (by lia)];show L.e3
   . obtain⟨⟨_,G⟩,h3⟩:=r4 i c o;by_cases bT:c<st.length
     . show⟨by lia,by lia,by lia⟩
     . have:=h3 (by lia);show⟨by lia,by lia,by lia⟩
   . rw[H m (by lia) (by lia),Z m (by lia) (by lia)]
 . rintro x rest σ g ⟨q,j,v7,v8,v9,M,hq,e,rfl,l4,H,I,r4⟩ next
   let Q:q<N-(t+2):=by
    let:=Ye List.length e;simp at this;lia
   rw[Xm (by simpa using Q),Yy,Xx,XG]at e;obtain⟨rfl,rfl⟩:=e;show⟨trivial,_,rfl,?_⟩;let R:t+2+q<N:=by lia
   obtain⟨ci,b6,bO,r⟩:=I.line R;rw[WW (XU _)]at r;let aD:g[s]?=_:=(H s (by lia) F).trans d;let c1:=W.lam (t+2+q) t (by lia) R;let c2:=W.lam (t+2+q) (t+1) (by lia) R;let up:=Mx.Nb v (t:=t) (by lia) (by lia) (i:=t+2+q) (by lia);let lw:=Mx.Pk v (t:=t) (by lia) (by lia) (i:=t+2+q) (by lia);let md:=Mx.pG v (t:=t) (by lia);let bm:(Mx.lam (Mx.b_ (Mx.ae A) t) t t).natAbs<=2^90000:=uf (m:=80000+1) (WZ (abs_dvd p1 md) (Iq (m:=80000) (uf (n:=80000) (rV b0 b2) (by decide)) (uf (n:=80000) (rV V V) (by decide)))) (by decide);let bu:(Mx.lam (Mx.b_ (Mx.ae A) t) (t+2+q) (t+1)).natAbs<=2^90000:=uf (m:=80000+1) (WZ (abs_dvd p1 up) (R_ (m:=80000) (uf (n:=80000) (rV b2 c1) (by decide)) (uf (n:=80000) (rV V c2) (by decide)))) (by decide);show bg aD rfl (aA (ax I.et) bO ?_);show cM ?_;rw[J];show aA (ax r) (jt (by lia)) (bC (d7 b2 c1 (by decide) (by decide)) (aA (ax r) (jt (by lia)) (bC (d7 V c2 (by decide) (by decide)) (cM (gT (by lia) (AA b1 (by lia) (by decide)) ?_)))));rw[sT (by lia) up];show aA (ax r) (jt (by lia)) (bC (d7 bm c2 (by decide) (by decide)) (bC (d7 V bu (by decide) (by decide)) (cW (gT (by lia) (AA b2 (by lia) (by decide)) ?_))));rw[sT (by lia) lw];show cM ?_;rw[J];show ku r ?_;rw[vO (by lia)];show⟨Xb rfl,DW (by rw[Yl];simp;lia) ?_⟩;rw[BP];show cW ?_;rw[e5];show ku r ?_;rw[Kh (by lia)];show yi (by rw[Yl];simp;lia) ?_
   let ea:aq ((List.range t).map (λp=>Mx.lam (Mx.ae A) (t+2+q) p)++[Mx.lam (Mx.b_ (Mx.ae A) t) (t+2+q) t,Mx.lam (Mx.b_ (Mx.ae A) t) (t+2+q) (t+1)])++aq ((List.range (t+2+q+1-(t+2))).map λp=>Mx.lam (Mx.ae A) (t+2+q) (t+2+p))=aq (Mx.aW (Mx.b_ (Mx.ae A) t) (t+2+q)):=by
    rw[<-KJ (by lia)];simp[aq]
   rw[ea];let a5:=I.lt;let au:(g++[Cell.lst (aq (Mx.aW (Mx.b_ (Mx.ae A) t) (t+2+q)))])[s]?=_:=(W3 (by lia)).trans aD;let ah:(g++[Cell.lst (aq (Mx.aW (Mx.b_ (Mx.ae A) t) (t+2+q)))])[f]?=_:=(W3 a5.1).trans I.et;show bg au rfl (iz ah (by rw[W2,I.lr];show iA R) ?_);let bx:(j.map D.ref).set (t+2+q) (.ref g.length)=(j.set (t+2+q) g.length).map D.ref:=by rw[aa2]
   rw[bx];let F5:=I.put R (Mx.aW (Mx.b_ (Mx.ae A) t) (t+2+q));show next _ _ ⟨q+1,j.set (t+2+q) g.length,_,_,_,_,Q,rfl,rfl,by simp;lia,λm u k=>?_,⟨F5.et,F5.lr,F5.nd,F5.nt,λi c o=>?_⟩,λi c o=>?_⟩
   . rw[W0 (W4 k),W3 (by lia)];show H m u k
   . rw[F5.row i c o];congr 3;by_cases y:i=t+2+q
     . rw[WY y,WY (by lia),y]
     . rw[WW y];by_cases G:i<t+2+q
       . rw[WY G,WY (by lia)]
       . rw[WW G,WW (by lia)]
   . have lr:=I.lr;rcases mB (by lia) o with⟨_,rfl⟩|⟨_,T⟩
     . show⟨⟨by lia,λz=>by lia⟩,λ_=>by lia⟩
     . show r4 i c T
 . show⟨E.et,E.lr,E.nd,E.nt,λi c o=>?_⟩;let R:i<N:=by let:=(WV.mp o).1;let:=E.lr;lia
   rw[E.row i c o];congr 3;by_cases y:i=t
   . rw[WY y,WY (by lia),y]
   . rw[WW y];by_cases G:i=t+1
     . rw[WY G,WY (by lia),G]
     . rw[WW G];by_cases h3:i<t
       . rw[WY (by lia)];show EC λp hp=>by rw[Mx.k_ (by lia),Mx.jc (by lia) (by lia)]
       . rw[WW (by lia)]
def AF{c A U C:List (List Int)}{N w:Nat}{m:Nat->Nat}(L:Mx.Lg c A U C N w m)(g:Mx.aX N w c)(f:N<=8)(a:Mx.D N (Mx.ae c)≠0)(j:∀i,i<N->Mx.ae c i i<=2^37000)(b:∀i,i<N->m i<=37000):Eb A U C N where
 lam:=λi p d e=>L.SI e (by lia) (b i e)
 D:=λp d=>⟨(L.D p d).1,by
  let h:=L.D p d;let l:(((2:Nat)^744:Nat):Int)=(2:Int)^744:=Yt 2 744;let k:(((Mx.D p (Mx.ae A)).natAbs:Nat):Int)=Mx.D p (Mx.ae A):=aag (by lia);show aaa.mp (by rw[k,l];show h.2)⟩
 eA:=L.ent b
 eU:=(L.turn g f a j b).1
 eC:=(L.turn g f a j b).2
def j4:bN:=λq st K=>∃(h s b p n o l N w:Nat) (rs:List Nat) (A0 A U C:List (List Int)),q=[.ref s]/\Ss h st s b p n o l rs A U C N/\Mx.aX N w A0/\N<=8/\w<=9/\Mx.D N (Mx.ae A0)≠0/\(∀i,i<N->Mx.ae A0 i i<=2^37000)/\Mx.Lk A0 A U C N w 1/\
 ∀a f d e g c j k,Ss h a s b f d e l g c j k N->Mx.Tn A0 c j k N w->Eb c j k N->Mx.Sh (Mx.ae c) N->(∀m,m<h->a[m]?=st[m]?)->K .aD a
def j0:List Str:=["self","k","j"]
def vd:DS:=(av (aM 1 (dC (.int 1)))
 (rW (a_ (ai pW (aa 1) (bz dB (ab (cv aO "table" (aa 0)) ag)))) (av (d6 (de aO "lessen" iS (aa 0) (ab (aa 1) (ab (ai df (aa 1) (dC (.int 1))) ag))))
 (cS (a_ (de aO "is_steep" jw (aa 0) (ab (aa 1) ag))) (av (d6 (de aO "swap" mR (aa 0) (ab (aa 1) ag)))
 (aM 1 (bz yj (ab (dC (.int 1)) (ab (ai df (aa 1) (dC (.int 1))) ag))))) (av (fm (yp (ab (ai df (aa 1) (dC (.int 2))) (ab (iU ff (dC (.int 1))) (ab (iU ff (dC (.int 1))) ag)))) (bf 2) (d6 (de aO "lessen" iS (aa 0) (ab (aa 1) (ab (aa 2) ag)))))
 (Bw 1 (wR (λi j=>i+j)) (dC (.int 1))))))))
def mk_le{N k i:Nat}(a:N<=8):Mx.mk N k i<=37000:=by unfold Mx.mk;split<;>lia
def xC(A:List (List Int)){k j:Nat}(h:0<Mx.D (j+1) (Mx.ae A)):2*(((Mx.lam (Mx.ae A) k j-nq A k j*Mx.D (j+1) (Mx.ae A)).natAbs:Nat):Int)<=Mx.D (j+1) (Mx.ae A):=(Mx.Co h).1
def T6{d A U C:List (List Int)}{N w k:Nat}(h:Mx.Lk d A U C N w k)(f:N<=k):Mx.Sh (Mx.ae A) N where
 half:=λi j b a=>h.red i (by lia) a j b
 Fz:=λi g a z=>by
  obtain⟨t,rfl⟩:∃t,i=t+1:=⟨i-1,by lia⟩
  show h.flat t (by lia) a ?_;unfold Mx.jo;rw[Nat.add_sub_cancel]at z;let e:4*Mx.D (t+1+1) (Mx.ae A)*Mx.D t (Mx.ae A)=4*(Mx.D (t+2) (Mx.ae A)*Mx.D t (Mx.ae A)):=by grind
  let c:4*Mx.lam (Mx.ae A) (t+1) t*Mx.lam (Mx.ae A) (t+1) t=4*(Mx.lam (Mx.ae A) (t+1) t*Mx.lam (Mx.ae A) (t+1) t):=by grind
  rw[e,c]at z;lia
def NW{p A U C:List (List Int)}{N w t:Nat}{m:Nat->Nat}(L:Mx.Lg p A U C N w m)(r:∀i,i<N->m i<=if i=t+1 then 748+2240*(N-t)else 748)(g:t+1<N)(h:Mx.jo A t)(f:∀i,i<t+1->∀j,j<i->2*(((Mx.lam (Mx.ae A) i j).natAbs:Nat):Int)<=Mx.D (j+1) (Mx.ae A))(d:∀u,u+1<t+1->¬Mx.jo A u):Mx.Lk p (Mx.aR A (t+1) t) (Mx.aR U (t+1) t) (Mx.aR C (t+1) t) N w (max 1 t):=by
 let o:=Mx.w9 L g h;let L3:=L.swap g ⟨o.1,Xs (Yn o.2) (L.D (t+1) (by lia)).2⟩;let a:Mx.ae (Mx.aR A (t+1) t)=Mx.b_ (Mx.ae A) t:=Mx.ma (by let:=L.T.isA.len;lia);show⟨⟨L3.T,L3.D,λi k=>?_⟩,λi v k j s=>?_,λu y q=>?_⟩
 . by_cases x:t=0/\i=0
   . have c:=(L3.D 1 (by lia)).2
     let e:Mx.D 1 (Mx.ae (Mx.aR A (t+1) t))=Mx.ae (Mx.aR A (t+1) t) 0 0:=by
      let b:=Mx.cH (Mx.ae (Mx.aR A (t+1) t)) 0;unfold Mx.lam at b;rw[Mx.iG]at b;show b.symm
     rw[x.2,<-e];show Xs c (Mx.p2 (by unfold Mx.mk;split<;>lia))
   . show Xs (L3.len i k) (Mx.p2 ?_);let c:=r (Mx.sw t (t+1) i) (Mx.sM g k);by_cases n:i=t
     . rw[n,Mx.Bb,WY rfl]at c;rw[n,Mx.Bb];unfold Mx.mk;rw[WY (by lia),show max 1 t=t by lia];show c
     . have b:Mx.sw t (t+1) i≠t+1:=by
        intro z;by_cases l:i=t+1
        . rw[l,Mx.Fg]at z;lia
        . rw[Mx.jc n l]at z;show l z
       rw[WW b]at c;unfold Mx.mk;split<;>lia
 . rw[a,Mx.m4 (by lia),Mx.k_ (by lia),Mx.jc (by lia) (by lia)];show f i (by lia) j s
 . intro z;show d u (by lia) ?_;unfold Mx.jo at z⊢;rw[a,Mx.m4 (by lia),Mx.m4 (by lia),Mx.m4 (by lia),Mx.k_ (by lia),Mx.jc (by lia) (by lia)]at z;show z
def uv:WS j4 1 vd j0:=by
 rintro ds st K ⟨P,s,b,E,y,B,tb,N,w,G,A0,A,U,C,rfl,h,h0,O,hw,Q,g0,v,kk⟩;show⟨rfl,?_⟩;show⟨λm σ F=>∃(k E y B:Nat) (G:List Nat) (A U C:List (List Int)) (v2:Option D),σ=[some (.ref s),some (.int ((k:Nat):Int)),v2]/\1<=k/\Ss P F s b E y B tb G A U C N/\Mx.Lk A0 A U C N w k/\(∀m,m<P->F[m]?=st[m]?)/\m=(Mx.qU A N).toNat*(N+2)+(N+1-k),⟨_,1,E,y,B,G,A,U,C,none,rfl,WX _,h,v,λ_ _=>rfl,rfl⟩,?_⟩;rintro m σ a4 ⟨k,E,y,B,G,A,U,C,v2,rfl,bO,h,v,fr,rfl⟩;show bg h.es rfl (cP (ax h.T.et) ?_);rw[W2,h.T.lr];show M5 (λbM=>eN ?_) λbP=>?_;rotate_left
 . show kk a4 E y B G A U C h v.L.T (AF v.L h0 O Q g0 λi _=>mk_le O) (T6 v (by lia)) fr
 obtain⟨t,rfl⟩:∃t,k=t+1:=⟨k-1,by lia⟩
 let d:t+1<N:=by lia
 let em:((t+1:Nat):Int)-1=(t:Int):=by lia
 let sm:=AF v.L h0 O Q g0 λi _=>mk_le O;let T:=v.L.T;show cX h.es rfl (cM ?_);rw[em];show⟨P,s,b,E,y,B,tb,N,w,t+1,t,G,A,U,C,rfl,h,T.isA,T.dn,T.dX,by lia,d,O,hw,sm,λa3 h2 f2=>?_⟩;let L2:=v.L.take (k:=t+1) (j:=t) (q:=nq A (t+1) t) (by lia) d (Mx.Qa v.L d (by lia)) (by unfold Mx.mk;rw[WW (by lia)];lia)
 let r2:2*(((Mx.lam (Mx.ae (Mx.aQ A (t+1) (nq A (t+1) t) t)) (t+1) t).natAbs:Nat):Int)<=Mx.D (t+1) (Mx.ae A):=by
  rw[Mx.CH T.isA (by lia) d];show xC A (v.L.D (t+1) (by lia)).1
 let o:∀i p,i<t+1->p<=i->Mx.lam (Mx.ae (Mx.aQ A (t+1) (nq A (t+1) t) t)) i p=Mx.lam (Mx.ae A) i p:=λi p r L=>Mx.CJ T.isA (by lia) d (by lia) (by lia) L;let S:∀p,p<=N->Mx.D p (Mx.ae (Mx.aQ A (t+1) (nq A (t+1) t) t))=Mx.D p (Mx.ae A):=λp L=>Mx.wq T.isA (by lia) d L;let ar:Mx.qU (Mx.aQ A (t+1) (nq A (t+1) t) t) N=Mx.qU A N:=Mx.Cw T.isA (by lia) d;generalize bT:Mx.aQ A (t+1) (nq A (t+1) t) t=A2 at*;generalize Mx.aQ U (t+1) (nq A (t+1) t) t=U2 at*;generalize Mx.aQ C t (-nq A (t+1) t) (t+1)=C2 at*
 let bw:∀i,i<N->(if i=t+1 then Mx.mk N (t+1) (t+1)+2240 else Mx.mk N (t+1) i)<=37000:=λi r=>by
  by_cases a:i=t+1
  . rw[WY a];unfold Mx.mk;rw[WY rfl];lia
  . rw[WW a];show mk_le O
 let ao:=AF L2 h0 O Q g0 bw;show cX h2.es rfl ?_;show⟨P,s,b,E,y,B,tb,N,t,G,A2,U2,C2,rfl,h2,d,ao,?_⟩;let aD:∀m,m<P->a3[m]?=st[m]?:=λm W=>(f2 m W).trans (fr m W);by_cases I:Mx.jo A2 t
 . have f:=I;unfold Mx.jo at f;rw[Y4 f];show eN ?_;show cX h2.es rfl ?_;show⟨P,s,b,E,y,B,tb,N,w,t,G,A2,U2,C2,rfl,h2,L2.T.isA,L2.T.dn,L2.T.dX,d,O,ao,λah a0 aI aS bl h3 f3=>?_⟩;show cM ?_;rw[em];show HW ?_;let ek:(if((t:Nat):Int)>1 then((t:Nat):Int)else 1)=((max 1 t:Nat):Int):=by split<;>lia
   rw[ek]
   let L3:=NW L2 (λi r=>by
    by_cases a:i=t+1
    . rw[WY a,WY a];unfold Mx.mk;rw[WY rfl];lia
    . rw[WW a,WW a];unfold Mx.mk;rw[WW a];lia) d I (λi r j Y=>by rw[o i j r (by lia),S (j+1) (by lia)];show v.red i r (by lia) j Y) (λu hu z=>v.flat u hu (by lia) (by
    unfold Mx.jo at z⊢;rw[o (u+1) u hu (by lia),S _ (by lia),S _ (by lia),S _ (by lia)]at z;show z))
   let br:=Mx.J_ L2 d I;let bF:=Mx.OK L3.L;rw[ar]at br;show⟨_,?_,max 1 t,a0,aI,aS,bl,_,_,_,_,rfl,by lia,h3,L3,λm W=>(f3 m W).trans (aD m W),rfl⟩;let h9:((Mx.qU (Mx.aR A2 (t+1) t) N).toNat+1)*(N+2)<=(Mx.qU A N).toNat*(N+2):=XW _ (by lia);rw[aaj,Y6]at h9;lia
 . have f:=I;unfold Mx.jo at f;rw[XO f];show sV ?_;show cM (dY (dY ?_));let e2:((t+1:Nat):Int)-2=(t:Int)-1:=by lia
   rw[e2];show NK ⟨by lia,by lia,by lia,by lia⟩ ?_;let e3:((t:Int)-1- -1).toNat=t:=by lia
   rw[e3];show fg (λrest σ F=>∃(q:Nat) (g U' C':List (List Int)) (v2:Option D),q<=t/\rest=(jP ((t:Int)-1) t).drop q/\σ=[some (.ref s),some (.int ((t+1:Nat):Int)),v2]/\Ss P F s b E y B tb G g U' C' N/\Mx.Lg A0 g U' C' N w (λi=>if i=t+1 then 748+2240*(N-(t+1))+2240*(q+1)else 748)/\(∀i p,i<t+1->p<=i->Mx.lam (Mx.ae g) i p=Mx.lam (Mx.ae A2) i p)/\(∀p,p<=N->Mx.D p (Mx.ae g)=Mx.D p (Mx.ae A2))/\(∀p,t<=p+q->p<=t->2*(((Mx.lam (Mx.ae g) (t+1) p).natAbs:Nat):Int)<=Mx.D (p+1) (Mx.ae A2))/\Mx.lam (Mx.ae g) (t+1) t=Mx.lam (Mx.ae A2) (t+1) t/\Mx.qU g N=Mx.qU A2 N/\∀m,m<P->F[m]?=st[m]?) ?_ ?_ _ _ _ ⟨0,A2,U2,C2,v2,Xq _,rfl,rfl,h2,L2.mono λi r=>?_,λ_ _ _ _=>rfl,λ_ _=>rfl,λp L au=>?_,rfl,rfl,aD⟩
   . rintro σ ah ⟨q,g,U',C',v3,hq,c,rfl,h3,L3,n,M,H,l,X,Z⟩;show⟨trivial,?_⟩
     let J:q=t:=by
      let:=Ye List.length c;simp[oC]at this;lia
     subst J;let V:∀j,j<q+1->2*(((Mx.lam (Mx.ae g) (q+1) j).natAbs:Nat):Int)<=Mx.D (j+1) (Mx.ae g):=λj Y=>by rw[M (j+1) (by lia)];show H j (by lia) (by lia)
     let L4:Mx.Lk A0 g U' C' N w (q+2):=by
      show⟨⟨L3.T,L3.D,λi r=>?_⟩,λi r bx j Y=>?_,λu hu bB=>?_⟩
      . by_cases a:i=q+1
        . subst a;let h5:=Mx.O4 L3.T.isA L3.ne (λk hk=>(L3.D k hk).2) r V;let bU:(2:Int)^4=16:=by decide
          let h6:((q+1+1:Nat):Int)*2^744<=2^4*2^744:=XD (by lia) (Yn (Mx.oS _));rw[<-ZA]at h6;show Xs h5 (Xs h6 (Mx.p2 (by unfold Mx.mk;split<;>lia)))
        . have h5:=L3.len i r;rw[WW a]at h5;show Xs h5 (Mx.p2 (by unfold Mx.mk;split<;>lia))
      . by_cases a:i=q+1
        . subst a;show V j Y
        . rw[n i j (by lia) (by lia),M (j+1) (by lia),o i j (by lia) (by lia),S (j+1) (by lia)];show v.red i (by lia) bx j Y
      . intro z;unfold Mx.jo at z;by_cases bp:u=q
        . subst bp;rw[l,M _ (by lia),M _ (by lia),M _ (by lia)]at z;show I z
        . rw[n (u+1) u (by lia) (by lia),M _ (by lia),M _ (by lia),M _ (by lia),o (u+1) u (by lia) (by lia),S _ (by lia),S _ (by lia),S _ (by lia)]at z;show v.flat u (by lia) (by lia) z
     show⟨_,?_,q+2,E,y,B,G,g,U',C',_,rfl,by lia,h3,L4,Z,rfl⟩;rw[X,ar];lia
   . rintro x rest σ ah ⟨q,g,U',C',v3,hq,c,rfl,h3,L3,n,M,H,l,X,Z⟩ next
     let J:q<t:=by
      let:=Ye List.length c;simp[oC]at this;lia
     let ex:(t:Int)-1+((q:Nat):Int)* -1=((t-1-q:Nat):Int):=by lia
     let hx:(jP ((t:Int)-1) t).drop q=D.int ((t-1-q:Nat):Int)::(jP ((t:Int)-1) t).drop (q+1):=by
      let hl:q<(jP ((t:Int)-1) t).length:=by rw[oC];show J
      let eg:(jP ((t:Int)-1) t)[q]=D.int ((t-1-q:Nat):Int):=by
       let e:=W7 hl;rw[sY,WY J,ex]at e;show(XZ e).symm
      rw[Xm hl,eg]
     rw[hx,Yy]at c;obtain⟨rfl,rfl⟩:=c;show⟨trivial,_,rfl,?_⟩;let bu:∀i,i<N->(if i=t+1 then 748+2240*(N-(t+1))+2240*(q+1)else 748)<=37000:=λi r=>by split<;>lia
     let a5:=AF L3 h0 O Q g0 bu;let R:=L3.T;obtain⟨j,Y⟩:∃j,j=t-1-q:=⟨_,rfl⟩
     rw[<-Y];show cX h3.es rfl ?_;show⟨P,s,b,E,y,B,tb,N,w,t+1,j,G,g,U',C',rfl,h3,R.isA,R.dn,R.dX,by lia,d,O,hw,a5,λbA h4 f4=>?_⟩;let L4:=L3.take (k:=t+1) (j:=j) (q:=nq g (t+1) j) (by lia) d (Mx.Qa L3 d (by lia)) (by rw[WW (by lia)];lia);show next _ _ ⟨q+1,_,_,_,_,J,rfl,rfl,h4,L4.mono λi r=>?_,λi p r L=>?_,λp L=>?_,λp L au=>?_,?_,?_,λm W=>(f4 m W).trans (Z m W)⟩
     . by_cases a:i=t+1
       . rw[WY a,WY a,WY rfl];lia
       . rw[WW a,WW a,WW a];lia
     . rw[Mx.CJ R.isA (by lia) d (by lia) (by lia) L];show n i p r L
     . rw[Mx.wq R.isA (by lia) d L];show M p L
     . by_cases bq:p=j
       . subst bq;rw[Mx.CH R.isA (by lia) d,<-M (p+1) (by lia)];show xC g (L3.D (p+1) (by lia)).1
       . rw[Mx.Ey R.isA (by lia) d (by lia) (by lia)];show H p (by lia) au
     . rw[Mx.Ey R.isA (by lia) d (by lia) (by lia)];show l
     . rw[Mx.Cw R.isA (by lia) d];show X
   . by_cases a:i=t+1
     . rw[WY a,WY a];unfold Mx.mk;rw[WY rfl];lia
     . rw[WW a,WW a];unfold Mx.mk;rw[WW a];lia
   . have:p=t:=by lia
     subst this;rw[S (p+1) (by lia)];show r2
def nv:bN:=λf st K=>∃(e:D) (A:List (List Int)) (N w:Nat),f=[e]/\dM st e A/\St A N w/\w<=9/\(∀k,k<=N->Mx.D k (Mx.ae A)≠0)/\∀a b c d,Ext st a->Mx.Tn A b c d N w->Eb b c d N->Mx.Sh (Mx.ae b) N->K (.tup [cy b,cy c,cy (Mx.HH d N)]) a
def ES:List Str:=["steps","stairs","bench"]
def NV:DS:=(av (aM 1 (wQ aO jy (ab (aa 0) ag)))
 (av (d6 (de aO "shorten" j4 (aa 1) ag))
 (av (aM 2 (cv aO "bench" (aa 1)))
 (a6 (jb (ab (ay i0 (ab (cv aC "body" (aa 2)) ag)) (ab (ay i0 (ab (cv aC "turn" (aa 2)) ag)) (ab (ay jT (ab (cv aC "back_columns" (aa 2)) (ab (bz dB (ab (aa 0) ag)) ag))) ag))))))))
def LQ:WS nv 1 NV ES:=by
 rintro ds st K ⟨Y,A,N,w,rfl,x,e,Q,s,P⟩;show⟨rfl,?_⟩;let v:=e.gm;let U:=v.le;let S:=e.is.len;let B:Ext st (st++[.ins aO []]):=Ext.push;show⟨st.length,N,w,Y,A,rfl,by simp,B.AK x,e,s,λJ b H F G I M y X=>⟨rfl,?_⟩⟩
 let d:∀i,i<N->Mx.ae A i i<=2^748:=λi f=>by
  let a:=v.big f f;let u:(((2:Nat)^744:Nat):Int)=(2:Int)^744:=Yt 2 744;let t:Mx.ae A i i<=(((Mx.ae A i i).natAbs:Nat):Int):=by lia
  show Xs (Xs t (by rw[<-u];show aaa.mpr a)) (Mx.p2 (by decide))
 let q:∀k,k<=N->Mx.D k (Mx.ae A)<=2^744:=λk T=>by
  let a:=v.D (p:=k) T;let u:(((2:Nat)^744:Nat):Int)=(2:Int)^744:=Yt 2 744;let t:Mx.D k (Mx.ae A)<=(((Mx.D k (Mx.ae A)).natAbs:Nat):Int):=by lia
  show Xs t (by rw[<-u];show aaa.mpr a)
 let V:=Mx.Lk.start e.is s q d;show cX y.es rfl ?_;show⟨st.length,st.length,b,H,F,G,I,N,w,M,A,A,_,_,rfl,y,e.is,U,Q,s N (WX _),λi f=>Xs (d i f) (Mx.p2 (by decide)),V,λc j g h L E C D a T2 r l W=>?_⟩;let R:=(WV.mp a.es).1;let z:Ext st c:=⟨by lia,λm n=>by rw[W m n,X m n,B.same m n]⟩
 show bg a.es rfl ?_;let lA:=T2.isA.len;let Z:=T2.dn.len;let lC:=T2.dX.len;show bg a.B.eb rfl ?_;show⟨.ref j,E,rfl,⟨_,ax a.B.e1,bL.lst⟩,by lia,?_⟩;show bg a.B.eb rfl ?_;show⟨.ref g,C,rfl,⟨_,ax a.B.e2,bL.lst⟩,by lia,?_⟩;show bg a.B.eb rfl ?_;obtain⟨da,o,O⟩:=(z.AK x).ex;show cP o ?_;rw[O.len,S];show⟨.ref h,D,N,rfl,⟨_,ax a.B.e3,bL.lst⟩,T2.dX.fZ,by lia,by lia,?_⟩;show⟨Xb rfl,P c E C D z T2 r l⟩
def jS:bN:=λc st K=>∃(A b U B:List (List Int)) (N w:Nat),c=[cy A,.tup [cy b,cy U,cy B]]/\Mx.aX N w A/\Mx.aX N N U/\Mx.aX N N B/\1<=N/\N<=8/\w<=8/\Mx.mulM U B N=Mx.units N/\Mx.mulM U A w=b/\(∀r∈U,∀x∈r,x.natAbs<=2^400000)/\(∀r∈B,∀x∈r,x.natAbs<=2^400000)/\(∀r∈A,∀x∈r,x.natAbs<=2^400000)/\St b N w/\(∀k,k<=N->Mx.D k (Mx.ae b)≠0)/\Mx.Sh (Mx.ae b) N/\∀a,Ext st a->K (.bl true) a
def qY:List Str:=["steps","told"]
def Aa:DS:=(av (cS (mN (gp (a_ (ay ji (ab (aa 1) (ab (dC (.int 3)) ag))))) (gp (a_ (ay nI (ab (aa 0) (ab (ai aN (aa 1) (dC (.int 0))) (ab (ai aN (aa 1) (dC (.int 1))) (ab (ai aN (aa 1) (dC (.int 2))) ag)))))))) (a6 (dC (.bl false))) cA)
 (a6 (ay g_ (ab (ai aN (aa 1) (dC (.int 0))) ag))))
def xO:WS jS 2 Aa qY:=by
 rintro r st K ⟨A,f,U,B,N,w,rfl,n,j,m,i,h,g,c,d,o,p,q,e,l,b,k⟩;show⟨rfl,_,3,rfl,⟨_,rfl⟩,?_⟩;show aA rfl rfl (aA rfl rfl (aA rfl rfl ?_));show⟨A,f,U,B,N,w,rfl,n,e.is,j,m,i,h,g,c,d,o,p,q,?_⟩;show aA rfl rfl ?_;show⟨f,N,w,_,rfl,fh,e,l,λ_ a X=>k a X,λz=>absurd b z⟩
def zE:∀(r:List Int) (i l:Nat),ju r i=some l->∃k,l=i+k/\k<r.length/\r.getD k 0≠0/\∀c,c<k->r.getD c 0=0
 | [],_,_,h=>by cases h
 |x::r,i,l,h=>by
  unfold ju at h;split at h
  . rename_i d;obtain⟨k,e,g,f,b⟩:=zE r (i+1) l h;show⟨k+1,by lia,abD g,f,λc a=>?_⟩;cases c with
    |zero=>show d
    |succ c=>show b c (Nat.lt_of_succ_lt_succ a)
  . cases h;show⟨0,rfl,Nat.succ_pos _,by assumption,λc a=>absurd a (Ys _)⟩
def DP{r:List Int}(h:mj r=some l):l<r.length/\r.getD l 0≠0/\∀c,c<l->r.getD c 0=0:=by
 obtain⟨k,e,d,b,a⟩:=zE r 0 l h;rw[ZZ]at e;subst e;show⟨d,b,a⟩
def kj{A:List (List Int)}(h:i<t):Mx.g (A.take t) i c=Mx.g A i c:=by
 let e:(A.take t).getD i []=A.getD i []:=by rw[Xa,Xa,List.getElem?_take,WY h]
 unfold Mx.g;rw[e]
def Bk.ext{st b a:af}(B:Bk st b)(X:Ext b a):Bk st a:=by
 let h:=B.le;obtain⟨f,e⟩:=B.tb;let c:=(WV.mp e).1;show⟨by let:=X.len;lia,λm d g=>by rw[X.same m (by lia),B.fr m d g],f,by rw[X.same 0 c];show e⟩
structure Fo(A:List (List Int))(N w:Nat)(F:List (List Int))(m:Nat):Prop where
 is:Mx.aX m w F
 st:Mx.eV F m w (Mx.iw F)
 red:Mx.QD F m (Mx.iw F)
 same:Mx.um A N F m w
 m8:m<=8
def Ry{A:List (List Int)}{N w top e u v:Nat}{c:Mx.B3}{g:Nat->Nat}(x:Mx.g9 A N w c top w g e u v)(y:N<=8):Fo A N w (c.A.take top) top:=by
 let H:=x.Ve
 let s:Mx.eV (c.A.take top) top w g:=⟨λi b=>by
  obtain⟨t,p,o⟩:=H.lead i b;show⟨t,by rw[kj b];show p,λc n=>by rw[kj b];show o c n⟩,H.mono⟩
 let B:=H.le;show⟨⟨by rw[Yu,H.tn.isA.len];lia,λr l=>H.tn.isA.fZ r (aai l)⟩,s.WN,λi j a f=>?_,⟨λk d=>?_,λk d=>?_⟩,by lia⟩
 . rw[s.iw f,kj (aa1 a f),kj f];show H.red i j a f
 . obtain⟨z,h⟩:=H.out k d;show⟨z,λq m=>(h q m).trans (Mx.aw λi b=>by rw[kj b])⟩
 . show(H.in k d).eq λq _=>kj d
def Fo.wf(f:Fo A N w F m)(a:w<=8)(j:1<=b)(g:∀i c,i<N->c<w->(Mx.g A i c).natAbs<=b)(h:8*((9*b)^(m+1)*(9*b)^m)<=2^5000):Wf F m w:=
 ⟨f.is,f.st,f.m8,a,λk c d e=>WZ (Mx.PX f.m8 j g f.st f.red f.same k c d e) h⟩
def EI{X:List (List Int)}{q:List Int}(b:X.length=n)(h:q∈X):Mx.dW X n w λc=>q.getD c 0:=by
 obtain⟨i,a,rfl⟩:=Xp.mp h;show(Mx.dW.row (k:=i) (by lia)).eq λc _=>?_;unfold Mx.g;rw[Mx.aJ a]
def BI{r:List Int}(a:Wf F m w)(b:r.length=w):(Mx.eQ F r m=List.replicate w 0↔Mx.dW F m w λc=>r.getD c 0)/\(mj (Mx.eQ F r m)=none↔Mx.eQ F r m=List.replicate w 0):=by
 let d:=Mx.pV a.is b (WX m);let i:=(Mx.ET a.is b a.st (WX m)).zero a.st;let z:Mx.eQ F r m=List.replicate w 0↔∀c,c<w->(Mx.eQ F r m).getD c 0=0:=⟨λh c _=>by rw[h];show Mx.cZ _ _,λh=>Mx.tU d (by simp) λj f=>by rw[h j f,Mx.cZ]⟩
 show⟨z.trans i,⟨λh=>z.mpr λc _=>qi _ 0 h c,λh=>?_⟩⟩;cases e:mj (Mx.eQ F r m)with
 |none=>rfl
 |some l=>
  obtain⟨k,g,_⟩:=DP e;show absurd (z.mp h l (by lia)) g
def UI(h:Mx.Rm N w a)(c:t<=N)(b:t<=w):Mx.Uz N a t<=120000001:=by
 cases t with
 |zero=>show Xq _
 |succ t=>
  have:=(h t (by lia) (by lia)).2.1;change Mx.Uz N a t+Mx.Ez N a (t+1)+1<=_;lia
def vh:bN:=λe st K=>∃(d b:D) (A:List (List Int)) (r:List Int) (N w e0:Nat) (f:Bool),e=[d,b]/\dM st d A/\items? st b=some (aq r)/\Mx.aX N w A/\1<=N/\N<=8/\w<=8/\Mx.g6 A N 0 (2^e0)/\e0<60000000/\Mx.Rm N w e0/\(∀F m,Fo A N w F m->Wf F m w)/\r.length=w/\(∀x∈r,x.natAbs<=2^5000)/\Mx.dW A N w (λc=>r.getD c 0)/\st[0]?=some (f6 f)/\∀a (W:List Int),Bk st a->W.length=N->(∀x∈W,x.natAbs<=2^120100000)->(∀c,c<w->(Mx.S N λn=>W.getD n 0*Mx.g A n c)=r.getD c 0)->K (.tup [.str "told",cm W]) a
def Bv:List Str:=["rows","row","told","form","fallen"]
def Mb:DS:=(av (aM 2 (ay qu (ab (aa 0) ag)))
 (av (aM 3 (ai aN (aa 2) (dC (.int 0))))
 (av (aM 4 (ay rZ (ab (aa 3) (ab (aa 1) ag))))
 (av (cS (a_ (ai iW (ay oP (ab (ai aN (aa 4) (dC (.int 1))) ag)) (dC .aD))) BU cA)
 (a6 (jb (ab (dC (.str "told")) (ab (ay qt (ab (ai aN (aa 4) (dC (.int 0))) (ab (gq (ai aN (aa 2) (dC (.int 1))) fH (hZ (bz dB (ab (aa 3) ag)))) (ab (bz dB (ab (aa 0) ag)) ag)))) ag))))))))
def zp:∀(d:List Int) (A:List (List Int)) (acc:List Int) (t c:Nat),acc.length=n->(∀r∈A,r.length=n)->(∀w∈d,w.natAbs<=2^a)->(∀r∈A,∀x∈r,x.natAbs<=2^b)->(acc.getD c 0).natAbs<=t*2^(a+b)->((Mx.dR d A acc).getD c 0).natAbs<=(t+d.length)*2^(a+b)
 | [],_,acc,t,c,_,_,_,_,h=>by unfold Mx.dR;rw[aaq,Nat.add_zero];show h
 |_::_,[],acc,t,c,_,_,_,_,h=>by
  unfold Mx.dR;show WZ h (XW _ (by lia))
 |w::d,r::A,acc,t,c,j,g,f,i,h=>by
  let e:=g r Xk;unfold Mx.dR
  let l:((Mx.fS acc w r).getD c 0).natAbs<=(t+1)*2^(a+b):=by
   rw[Mx.nj (by lia)]
   let m:(w*r.getD c 0).natAbs<=2^(a+b):=by
    rw[Xo,YJ];show XM (f w Xk) ?_;by_cases k:c<r.length
    . show i r Xk _ (getD_mem k)
    . rw[Mx.lp (by lia)];show Xq _
   let:=abo (acc.getD c 0) (w*r.getD c 0);rw[aaj,Y6];lia
  let:=zp d A (Mx.fS acc w r) (t+1) c (by rw[Mx.ka (by lia)];show j) (λq e=>g q (Xg _ e)) (λq e=>f q (Xg _ e)) (λq e=>i q (Xg _ e)) l;rw[Xw];rw[show t+(d.length+1)=t+1+d.length by lia];show this
def J8:WS vh 2 Mb Bv:=by
 rintro ds st K ⟨d,dr,A,r,N,w,W,f,rfl,R,hr,T,n1,P,w8,E,J,o,M,l,br,hL,O,k⟩;show⟨rfl,d,N,w,W,A,f,rfl,R,T,n1,P,by lia,E,J,o,O,λah top c ld hC H B=>?_⟩;let fo:=Ry H P;let b:=M _ _ fo;let Q:=b.is.len;let n:∀i q,i<top->Mx.g (c.A.take top) i q=Mx.g c.A i q:=λi q u=>kj u;generalize hF:c.A.take top=F at b Q n fo;let s:∀c,c<w->(r.getD c 0).natAbs<=2^5000:=λc hc=>br _ (getD_mem (by lia));show aA rfl rfl ?_;show⟨dr,F,r,top,w,5000,rfl,b,oQ O B.fr hr,l,s,by decide,λv X=>?_⟩;let B2:=B.ext X;let sm:=Mx.D_ b.is l (WX top);let t8:=b.m8;show aA rfl rfl ⟨_,Mx.eQ F r top,rfl,rfl,?_⟩;let U:mj (Mx.eQ F r top)=none:=(BI b l).2.mpr ((BI b l).1.mpr (Mx.dW.trans fo.same.to hL));let eD:mZ (Mx.eQ F r top)= .aD:=by unfold mZ;rw[U]
 rw[eD];show IV rfl ?_;let lU:=H.tn.dn.len;let le:=H.le;let Cp:=H.Cp;show aA rfl rfl (aA rfl rfl (cP rfl (sr ?_)));rw[W2,Q,HS,<-ZN];obtain⟨da,L,ra⟩:=R;show cP (X.items (oQ O B.fr L)) ?_;let C:da.length=N:=by rw[ra.len];show T.len
 rw[C];let z:(Mx.qT F r top).length=top:=by unfold Mx.qT;simp
 let h:∀j,j<top->(Mx.qT F r top).getD j 0=Mx.xI F (Mx.eQ F r j) j:=λj e=>by
  unfold Mx.qT;rw[Mx.aJ (by simpa using e),Xx,XG]
 let uz:=UI o le Cp
 let Y:∀x∈Mx.qT F r top,x.natAbs<=2^45100:=λx m=>by
  obtain⟨j,e,rfl⟩:=Xp.mp m;rw[z]at e;let V:=h j e;rw[Mx.aJ (by lia)]at V;rw[V];obtain⟨l1,l2,_⟩:=b.lead e;show WZ (WZ (Mx.nP _ l2) (Mx.yl b.is l b.st b.sm s (YQ e) _ l1)) (Xd (by decide) (by lia))
 let Z:∀q∈c.U.take top,∀y∈q,y.natAbs<=2^Mx.Uz N W top:=λq g y t=>by
  obtain⟨i,u,rfl⟩:=Xp.mp g;let I:i<c.U.length:=by rw[Yu]at u;lia
  let G:i<top:=by rw[Yu]at u;lia
  rw[List.getElem_take]at t;obtain⟨p,D,rfl⟩:=Xp.mp t;let S:=(H.hi i p G).2.1
  let eU:Mx.g c.U i p=c.U[i][p]:=by
   unfold Mx.g;rw[Mx.aJ I,Mx.aJ D]
  rw[eU]at S;show S
 let a:∀q∈c.U.take top,q.length=N:=λq g=>H.tn.dn.fZ q (aai g);show⟨_,_,N,Mx.qT F r top,c.U.take top,rfl,rfl,fh,a,by lia,λx m q g y t=>gc (Y x m) (Z q g y t) (by lia),⟨Xb rfl,k v _ B2 (Mx.tm (by simp) a) (λx m=>?_) (λq g=>?_)⟩⟩
 . obtain⟨p,D,rfl⟩:=Xp.mp m;let:=zp (Mx.qT F r top) (c.U.take top) (List.replicate N 0) 0 p (by simp) a Y Z (by rw[Mx.cZ];show Xq _);rw[Mx.aJ D,z,ZZ]at this;show WZ this (WZ (XW _ (show top<=2^3 by lia)) ?_);rw[<-YJ];show Xd (by decide) (by lia)
 . show Mx.Ko H.Ve z (λq g=>?_) g;rw[sm q,qi _ 0 U q,aau];show Mx.aw λj e=>by rw[h j e,n j q e]
structure Upd(st:af)(n:Nat)(st':af):Prop where
 len:st'.length=st.length
 same:∀m,m≠n->st'[m]?=st[m]?
def Upd.refl{st:af}{n:Nat}:Upd st n st:=⟨rfl,λ_ _=>rfl⟩
def Upd.trans{st d c:af}{n:Nat}(a:Upd st n d)(b:Upd d n c):Upd st n c:=⟨b.len.trans a.len,λm h=>(b.same m h).trans (a.same m h)⟩
def Upd.set{st:af}:Upd st n (st.set n c):=⟨Xf,λm h=>W0 (W4 h)⟩
structure Lf(st:af)(n:Nat):Prop where
 ex:∃x,st[n]?=some (.lst [.int x])/\0<=x
def vA:bN:=λb st K=>∃(a:List Int) (k:Int),b=[.lst (a.map .int),.int k]/\0<=k/\∀c,K (.int c) st
def B4:List Str:=["_law_script","_law_k"]
def KW:DS:=(av (cS (a_ (ai pW (aa 1) (bz dB (ab (aa 0) ag)))) (a6 (ai aN (aa 0) (aa 1))) cA)
 (a6 (dC (.int 0))))
def Po{ns:List Int}{k:Int}(b:0<=k)(h:k<ns.length):∃c,dw (ns.map D.int) k=some (.int c):=by
 let a:k.toNat<ns.length:=by lia
 show⟨ns[k.toNat],?_⟩;let e:(ns.map D.int)[k.toNat]?=some (.int ns[k.toNat]):=by simp[a]
 let:=eP e;rw[aan b]at this;show this
def IQ:WS vA 2 KW B4:=by
 rintro d st K ⟨b,k,rfl,a,q⟩;show⟨rfl,?_⟩;show cP rfl ?_;rw[W2];show M5 (λh=>?_) λh=>q 0;obtain⟨c,e⟩:=Po a h;show eN (aA rfl e (q c))
def qk:bN:=λb st K=>∃(a:List Int) (k:Int),b=[.lst (a.map .int),.int k]/\0<=k/\k<=1000/\∀x:Int,0<=x->K (.ref st.length) (st++[.lst [.int x]])
def xk:List Str:=["_law_script","_law_k","_law_cell","_law_number_here","_law_wide","_law_j"]
def GN:DS:=(av (aM 2 (ay vA (ab (aa 0) (ab (aa 1) ag))))
 (av (cS (a_ (ai sF (bz mF (ab (aa 2) ag)) (ai qg (dC (.int 10)) (dC (.int 18))))) (a6 (mO (ab (bz mF (ab (aa 2) ag)) ag))) cA)
 (av (aM 3 (ai i9 (ai bo (ai cE (ai cE (ai i9 (aa 2) (dC (.int 2147483647))) (ai bo (dC (.int 7919)) (aa 1))) (dC (.int 11))) (dC (.int 48271))) (dC (.int 2147483629))))
 (av (aM 4 (dC (.int 0)))
 (av (fm (dg (ab (dC (.int 9)) ag)) (bf 5) (av (aM 3 (ai i9 (ai cE (ai cE (ai bo (aa 3) (aa 3)) (ai bo (dC (.int 69621)) (aa 5))) (dC (.int 7))) (dC (.int 1999999973))))
 (aM 4 (ai cE (ai bo (aa 4) (dC (.int 1999999973))) (aa 3)))))
 (a6 (mO (ab (aa 4) ag))))))))
def Li:DS:=(av (aM 4 (dC (.int 0)))
 (av (fm (dg (ab (dC (.int 9)) ag)) (bf 5) (av (aM 3 (ai i9 (ai cE (ai cE (ai bo (aa 3) (aa 3)) (ai bo (dC (.int 69621)) (aa 5))) (dC (.int 7))) (dC (.int 1999999973))))
 (aM 4 (ai cE (ai bo (aa 4) (dC (.int 1999999973))) (aa 3)))))
 (a6 (mO (ab (aa 4) ag)))))
def Jk{g f e:D}{st:af}{E:jl}(l:0<=u)(i:u<2^62)(k:∀x:Int,0<=x->E.rt (.ref st.length) (st++[.lst [.int x]])):Li E [some g,some f,some e,some (.int u),none,none] st:=by
 show fI ⟨by decide,by decide⟩ ?_;show iY 9 (λ_ σ a=>a=st/\∃(u w:Int) (v:Option D),0<=u/\u<2^62/\0<=w/\σ=[some g,some f,some e,some (.int u),some (.int w),v]) ?_ ?_ ⟨rfl,u,0,none,l,i,aaE _,rfl⟩
 . rintro σ a ⟨rfl,u,w,v,n,m,c,rfl⟩;show⟨Xb rfl,k w c⟩
 . rintro j σ a rest o ⟨rfl,u,w,v,n,m,c,rfl⟩ next
   show⟨_,rfl,?_⟩;show bC (fJ (by lia) (by lia)) (bC (fJ (by decide) (by decide)) (cW (cW (kM (by decide) ?_))));let b:=Yq (u*u+69621*(j:Int)+7) (show(0:Int)<1999999973 by decide);let h:=YF (u*u+69621*(j:Int)+7) (show(0:Int)<1999999973 by decide);generalize(u*u+69621*(j:Int)+7).fmod 1999999973=t at b h;show bC (nA (by decide) (by decide)) (cW ?_);let d:0<=w*1999999973+t:=abW (Z0 c (by decide)) b;generalize w*1999999973+t=w2 at d;show next _ _ ⟨rfl,t,w2,_,b,by lia,d,rfl⟩
def Ev(A:DE)(σ:bX)(st:af)(d:D):Prop:=∀K:DK,K d st->A σ st K
def uk{x:D->D->af->DK->Prop}{A B:DE}{σ:bX}{st:af}{a b d:D}(f:Ev A σ st a)(e:Ev B σ st b)(c:∀K:DK,K d st->x a b st K):Ev (ai x A B) σ st d:=λK k=>f _ (e _ (c K k))
def Bm{σ:bX}{st:af}{d:D}:Ev (dC d) σ st d:=λK k=>k
def Iz{i:Nat}{σ:bX}{st:af}{d:D}(h:σ[i]?=some (some d)):Ev (aa i) σ st d:=λK k=>rq h k
def IX{σ:bX}{st:af}{c k:Int}(a:σ[2]?=some (some (.int c)))(b:σ[1]?=some (some (.int k))):Ev (ai i9 (ai bo (ai cE (ai cE (ai i9 (aa 2) (dC (.int 2147483647))) (ai bo (dC (.int 7919)) (aa 1))) (dC (.int 11))) (dC (.int 48271))) (dC (.int 2147483629))) σ st (.int (((c.fmod 2147483647+7919*k+11)*48271).fmod 2147483629)):=by
 let i:Ev (ai i9 (aa 2) (dC (.int 2147483647))) σ st (.int (c.fmod 2147483647)):=uk (Iz a) Bm λK k=>kM (by decide) k;let h:Ev (ai bo (dC (.int 7919)) (aa 1)) σ st (.int (7919*k)):=uk Bm (Iz b) λK k=>bC (fJ (by decide) (by decide)) k;let g:=uk (d:= .int (c.fmod 2147483647+7919*k)) i h λK k=>cW k;let f:=uk (d:= .int (c.fmod 2147483647+7919*k+11)) g (Bm (d:= .int 11)) λK k=>cW k;let e:=uk (d:= .int ((c.fmod 2147483647+7919*k+11)*48271)) f (Bm (d:= .int 48271)) λK k=>bC (nA (by decide) (by decide)) k;show uk e (Bm (d:= .int 2147483629)) λK k=>kM (by decide) k
def Q6{i:Nat}{A:DE}{B:DS}{E:jl}{σ:bX}{st:af}{d:D}(h:Ev A σ st d)(k:B E (σ.set i (some d)) st):av (aM i A) B E σ st:=h _ k
def Dn:WS qk 2 GN xk:=by
 rintro i st K ⟨e,k,rfl,b,g,q⟩;show⟨rfl,?_⟩;show⟨e,k,rfl,b,λc=>?_⟩;show nR (wI ⟨by decide,by decide,by decide⟩ ?_);generalize(10:Int)^(18:Int).toNat=big;show U0 (λh=>eN (nR ⟨Xb rfl,q _ (by lia)⟩)) λh=>?_;show Q6 (σ:=[some (.lst (e.map .int)),some (.int k),some (.int c),none,none,none]) (IX (c:=c) (k:=k) rfl rfl) ?_;let d:=Yq ((c.fmod 2147483647+7919*k+11)*48271) (show(0:Int)<2147483629 by decide);let f:=YF ((c.fmod 2147483647+7919*k+11)*48271) (show(0:Int)<2147483629 by decide);generalize((c.fmod 2147483647+7919*k+11)*48271).fmod 2147483629=u at d f;show Jk (E:={nx:=λ_ a=>K .aD a,rt:=K}) d (by lia) q
def cG:bN:=λb st K=>∃(n:Nat) (m:Int),b=[.ref n,.int m]/\Lf st n/\0<m/\m<2^62/\∀r a,0<=r->r<m->Lf a n->Upd st n a->K (.int r) a
def uX:List Str:=["_law_left_here","_law_many","_law_digit_here"]
def Dl:DS:=(av (aM 2 (ai i9 (ai aN (aa 0) (dC (.int 0))) (aa 1)))
 (av (fY (aa 0) (dC (.int 0)) (ai ip (ai aN (aa 0) (dC (.int 0))) (aa 1)))
 (a6 (aa 2))))
def HC{m:Int}(a:0<m)(h:m<2^62):m.natAbs.log2<9000:=by
 let:m.natAbs.log2<62:=(Zi (by lia)).mpr (by lia);lia
def CL:WS cG 2 Dl uX:=by
 rintro g st K ⟨n,m,rfl,⟨x,e,d⟩,a,b,k⟩;show⟨rfl,?_⟩;let f:n<st.length:=(WV.mp e).1;let c:items? st (.ref n)=some [.int x]:=ax e;show aA c vj (kM (by lia) (aA c vj (gT (by lia) (HC a b) (iz e (by rfl) ?_))));show k _ _ (Yq _ a) (YF _ a) ⟨_,W9 f,?_⟩ Upd.set;rw[Zv _ (by lia)];show Int.ediv_nonneg d (by lia)
def Sm(x:Int):Prop:= -1000000000000<x/\x<1000000000000
def kW(kd:Int):Nat:=if kd=3 then 999999999999 else if kd=4 then 4 else 999
def kL:bN:=λb st K=>∃(n:Nat) (kd:Int),b=[.ref n,.int kd]/\Lf st n/\0<=kd/\kd<5/\∀r a,r.natAbs<=kW kd->Lf a n->Upd st n a->K (.int r) a
def rB:List Str:=["_law_left_here","_law_kind","_law_size"]
def A7:DS:=(av (cS (a_ (ai gN (aa 1) (dC (.int 3)))) (a6 (ai cE (ai df (ay cG (ab (aa 0) (ab (ai df (ai bo (dC (.int 2)) (ai qg (dC (.int 10)) (dC (.int 12)))) (dC (.int 1))) ag))) (ai qg (dC (.int 10)) (dC (.int 12)))) (dC (.int 1)))) cA)
 (av (cS (ue (a_ (ai gN (aa 1) (dC (.int 2)))) (a_ (ai gN (ay cG (ab (aa 0) (ab (dC (.int 2)) ag))) (dC (.int 0))))) (a6 (ai df (ay cG (ab (aa 0) (ab (dC (.int 1999)) ag))) (dC (.int 999)))) cA)
 (av (aM 2 (ai aN (mP (ab (dC (.int 3)) (ab (dC (.int 9)) (ab (dC (.int 1)) (ab (dC (.int 0)) (ab (dC (.int 4)) ag)))))) (aa 1)))
 (a6 (ai df (ay cG (ab (aa 0) (ab (ai cE (ai bo (dC (.int 2)) (aa 2)) (dC (.int 1))) ag))) (aa 2))))))
def EM{st c:af}{n:Nat}{kd:Int}{K:DK}(L:Lf c n)(U:Upd st n c)(l:0<=kd)(j:kd<5)(k:∀r a,r.natAbs<=kW kd->Lf a n->Upd st n a->K (.int r) a):(av (aM 2 (ai aN (mP (ab (dC (.int 3)) (ab (dC (.int 9)) (ab (dC (.int 1)) (ab (dC (.int 0)) (ab (dC (.int 4)) ag)))))) (aa 1)))
 (a6 (ai df (ay cG (ab (aa 0) (ab (ai cE (ai bo (dC (.int 2)) (aa 2)) (dC (.int 1))) ag))) (aa 2)))) {nx:=λ_ a=>K .aD a,rt:=K} [some (.ref n),some (.int kd),none] c:=by
 let e:kd=0\/kd=1\/kd=2\/kd=3\/kd=4:=by lia
 let b:∀s:Int,0<=s->s<=9->s<=kW kd->(a6 (ai df (ay cG (ab (aa 0) (ab (ai cE (ai bo (dC (.int 2)) (aa 2)) (dC (.int 1))) ag))) (aa 2))) {nx:=λ_ a=>K .aD a,rt:=K} [some (.ref n),some (.int kd),some (.int s)] c:=λs i h g=>by
  show bC (fJ (by decide) (by decide)) (cW ?_);show⟨n,_,rfl,L,by lia,by lia,λr d o m L2 f=>cM (k _ _ (by lia) L2 (U.trans f))⟩
 show⟨Xb rfl,?_⟩;rcases e with rfl|rfl|rfl|rfl|rfl
 . show aA rfl rfl (b 3 (by decide) (by decide) (by decide))
 . show aA rfl rfl (b 9 (by decide) (by decide) (by decide))
 . show aA rfl rfl (b 1 (by decide) (by decide) (by decide))
 . show aA rfl rfl (b 0 (by decide) (by decide) (by decide))
 . show aA rfl rfl (b 4 (by decide) (by decide) (by decide))
def zQ:WS kL 2 A7 rB:=by
 rintro q st K ⟨n,c,rfl,L,f,d,k⟩;show⟨rfl,?_⟩;show eq2 (λh=>eN ?_) λh=>?_
 . show wI ⟨by decide,by decide,by decide⟩ (bC (fJ (by decide) (by decide)) (cM ?_));show⟨n,_,rfl,L,by decide,by decide,λr b o g L2 a=>wI ⟨by decide,by decide,by decide⟩ (cM (cW ?_))⟩;let e:(10:Int)^(12:Int).toNat=1000000000000:=by decide
   rw[e]at g⊢;let j:kW c=999999999999:=by unfold kW;rw[WY h]
   show k _ _ (by lia) L2 a
 . show eq2 (λm=>eN ?_) λm=>EM L Upd.refl f d k;show⟨n,2,rfl,L,by decide,by decide,λr b o g L2 a=>?_⟩;show eq2 (λl=>eN ?_) λl=>EM L2 a f d k;let j:kW c=999:=by unfold kW;rw[WW h,WW (by lia)]
   show⟨n,1999,rfl,L2,by decide,by decide,λr i t s L3 p=>cM (k _ _ (by lia) L3 (a.trans p))⟩
def Wv(A:List (List Int)):Prop:=∀r∈A,∀x∈r,Sm x
def Vu(kd:Int)(A:List (List Int)):Prop:=∀r∈A,∀x∈r,x.natAbs<=kW kd
structure Dr(A:List (List Int))(N w:Nat):Prop where
 is:Mx.aX N w A
 le:N<=8
 wd:w<=9
 bd:Wv A
 n1:1<=N
 w8:w<=8
 VT:(N<=4/\(N<=2\/∀r∈A,∀x∈r,x.natAbs<=999))\/∀r∈A,∀x∈r,x.natAbs<=4
def kE:bN:=λb st K=>∃(n m w:Nat) (kd:Int),b=[.ref n,.int m,.int w,.int kd]/\Lf st n/\m<=8/\w<=8/\0<=kd/\kd<5/\∀A a,Mx.aX m w A->Vu kd A->Lf a n->Upd st n a->K (cy A) a
def wO:List Str:=["_law_left_here","_law_many","_law_wide","_law_kind"]
def EZ:DS:=(a6 (bz cN (ab (cp (dg (ab (aa 1) ag)) [none,some 2,some 0,some 3] (bf 0) bI (bz cN (ab (cp (dg (ab (aa 1) ag)) [none,some 2,some 3] (bf 0) bI (ay kL (ab (aa 1) (ab (aa 2) ag)))) ag))) ag)))
def La{n w:Nat}{kd:Int}{e:bX}{st:af}{i:DE}{K:List D->af->Prop}(s:∀(x:D) (b:af) (K':DK),kL [.ref n,.int kd] b K'->i (e.set 0 (some x)) b K')(L:Lf st n)(m:0<=kd)(l:kd<5)(p:(λ(x:D)=>bf 0 x e)=λx=>some (e.set 0 (some x)))
 (k:∀r b,r.length=w->(∀x∈r,x.natAbs<=kW kd)->Lf b n->Upd st n b->K (aq r) b):
 dc (bf 0) bI i (λ_=>True) e (cQ 0 w) [] st K:=by
 show gD (λrest c b=>∃r:List Int,c=aq r/\r.length+rest.length=w/\(∀x∈r,x.natAbs<=kW kd)/\Lf b n/\Upd st n b) ?_ ?_ _ _ _ ⟨[],rfl,by rw[dZ];simp,by simp,L,Upd.refl⟩
 . rintro c b ⟨r,rfl,d,f,g,U⟩;let d:r.length=w:=by simpa using d
   show⟨trivial,k r b d f g U⟩
 . rintro x rest c b ⟨r,rfl,d,f,g,U⟩ next
   let q:r.length<w:=by simp at d;lia
   show⟨trivial,_,congrFun p x,?_⟩;show s x b _ ⟨n,kd,rfl,g,m,l,λy j a u t=>?_⟩;change dc _ _ _ _ _ _ _ _ _;rw[ints_app];show next _ _ ⟨r++[y],rfl,by simp at d⊢;lia,λz o=>?_,u,U.trans t⟩
   rcases XY.mp o with h|h
   . show f z h
   . have:z=y:=by simpa using h
     subst this;show a
def Dv:WS kE 4 EZ wO:=by
 rintro z st K ⟨n,m,w,kd,rfl,B,y,v,p,o,k⟩;show⟨rfl,?_⟩;show fI ⟨by lia,by lia⟩ ⟨cx (by rw[dZ];lia),?_⟩;rw[Xv];show gD (λrest c a=>∃A:List (List Int),c=A.map cm/\A.length+rest.length=m/\(∀r∈A,r.length=w)/\Vu kd A/\Lf a n/\Upd st n a) ?_ ?_ _ _ _ ⟨[],rfl,by rw[dZ];simp,by simp,λ_ h=>by simp at h,B,Upd.refl⟩
 . rintro c a ⟨A,rfl,d,i,b,j,U⟩;let d:A.length=m:=by simpa using d
   show⟨trivial,cJ rfl (k A a ⟨d,i⟩ b j U)⟩
 . rintro x rest c a ⟨A,rfl,d,i,b,j,U⟩ next
   let s:A.length<m:=by simp at d;lia
   show⟨trivial,_,rfl,?_⟩;show fI ⟨by lia,by lia⟩ ⟨cx (by rw[dZ];lia),?_⟩;rw[Xv];show La (n:=n) (kd:=kd) (λx a C h=>h) j p o rfl λr l f e u t=>?_;show cJ rfl ?_;change dc _ _ _ _ _ _ _ _ _;rw[Kx];show next _ _ ⟨A++[r],rfl,by simp at d⊢;lia,λq g=>?_,λq g=>?_,u,U.trans t⟩
   . rcases XY.mp g with h|h
     . show i q h
     . have:q=r:=by simpa using h
       subst this;show f
   . rcases XY.mp g with h|h
     . show b q h
     . have:q=r:=by simpa using h
       subst this;show e
def pq:bN:=λb st K=>∃(n:Nat),b=[.ref n]/\Lf st n/\∀A N w a,Dr A N w->Lf a n->Upd st n a->K (cy A) a
def uQ:List Str:=["_law_left_here","_law_kind","_law_many","_law_wide"]
def Di:DS:=(av (aM 1 (ai aN (mP (ab (dC (.int 0)) (ab (dC (.int 0)) (ab (dC (.int 1)) (ab (dC (.int 1)) (ab (dC (.int 2)) (ab (dC (.int 2)) (ab (dC (.int 3)) (ab (dC (.int 4)) ag))))))))) (ay cG (ab (aa 0) (ab (dC (.int 8)) ag)))))
 (av (aM 2 (ai cE (dC (.int 1)) (ay cG (ab (aa 0) (ab (dC (.int 4)) ag)))))
 (av (aM 3 (ai cE (aa 2) (ay cG (ab (aa 0) (ab (dC (.int 3)) ag)))))
 (av (cS (a_ (ai gN (aa 1) (dC (.int 3)))) (Lz 2 3 (ab (ai cE (dC (.int 1)) (ai i9 (aa 2) (dC (.int 2)))) (ab (ai cE (dC (.int 2)) (ai i9 (aa 3) (dC (.int 2)))) ag))) cA)
 (av (cS (a_ (ai gN (aa 1) (dC (.int 4)))) (av (aM 2 (ai cE (dC (.int 7)) (ai i9 (aa 2) (dC (.int 2)))))
 (aM 3 (bz yj (ab (aa 2) (ab (ai cE (dC (.int 7)) (ai i9 (aa 3) (dC (.int 2)))) ag))))) cA)
 (a6 (ay kE (ab (aa 0) (ab (aa 2) (ab (aa 3) (ab (aa 1) ag)))))))))))
def Br:WS pq 1 Di uQ:=by
 rintro ds st K ⟨n,rfl,L,k⟩;show⟨rfl,?_⟩;show⟨Xb rfl,n,8,rfl,L,by decide,by decide,λr E Y X W T=>?_⟩
 let M:∃c:Int,0<=c/\c<5/\dw [D.int 0,.int 0,.int 1,.int 1,.int 2,.int 2,.int 3,.int 4] r=some (.int c):=by
  let e:r=0\/r=1\/r=2\/r=3\/r=4\/r=5\/r=6\/r=7:=by lia
  rcases e with rfl|rfl|rfl|rfl|rfl|rfl|rfl|rfl<;>show⟨_,by decide,by decide,rfl⟩
 obtain⟨c,J,I,P⟩:=M;show aA rfl P ?_;show⟨n,4,rfl,W,by decide,by decide,λa C a0 a1 L2 S=>cW ?_⟩;show⟨n,3,rfl,L2,by decide,by decide,λb g b0 b1 L3 R=>cW ?_⟩;let U:=(T.trans S).trans R
 let s:∀(N w:Nat),1<=N->N<=8->w<=8->(c≠4->N<=4)->(c=3->N<=2)->(a6 (ay kE (ab (aa 0) (ab (aa 2) (ab (aa 3) (ab (aa 1) ag)))))) {nx:=λ_ f=>K .aD f,rt:=K} [some (.ref n),some (.int c),some (.int N),some (.int w)] g:=λN w F B y u t=>
  ⟨n,N,w,c,rfl,L3,B,y,J,I,λA p O v V Q=>k A N w p ⟨O,B,by lia,λr j x i=>by
   let:=v r j x i;let Z:kW c<=999999999999:=by unfold kW;split;show WX _;split<;>decide
   unfold Sm;lia,F,y,by
   by_cases m:c=4
   . show .inr λr j x i=>?_;let:=v r j x i;unfold kW at this;rwa [WW (by lia),WY m]at this
   . show .inl ⟨u m,?_⟩;by_cases o:c=3
     . show .inl (t o)
     . show .inr λr j x i=>?_;let:=v r j x i;unfold kW at this;rwa [WW o,WW m]at this⟩ V (U.trans Q)⟩
 let d:∀(N w:Int),1<=N->N<=8->0<=w->w<=8->(c≠4->N<=4)->(c=3->N<=2)->(a6 (ay kE (ab (aa 0) (ab (aa 2) (ab (aa 3) (ab (aa 1) ag)))))) {nx:=λ_ f=>K .aD f,rt:=K} [some (.ref n),some (.int c),some (.int N),some (.int w)] g:=λN w h1 q o m u t=>by
  let:=s N.toNat w.toNat (by lia) (by lia) (by lia) (λz=>by let:=u z;lia) (λz=>by let:=t z;lia);rw[aan (show 0<=N by lia),aan o]at this;show this
 let l:∀x:Int,0<=x.fmod 2/\x.fmod 2<2:=λx=>⟨Yq _ (by decide),YF _ (by decide)⟩
 show eq2 (λh=>eN ?_) λh=>?_
 . show kM (by decide) (cW (kM (by decide) (cW ?_)));let H:=l (1+a);let G:=l (1+a+b);show Nq (by lia) ?_;show d _ _ (by lia) (by lia) (by lia) (by lia) (λ_=>by lia) (λ_=>by lia)
 . show eq2 (λq=>eN ?_) λq=>d _ _ (by lia) (by lia) (by lia) (by lia) (λ_=>by lia) (λz=>absurd z h);let H:=l (1+a);let G:=l (1+a+b);show kM (by decide) (cW (kM (by decide) (cW (HW ?_))));show d _ _ (by lia) (by lia) ?_ ?_ (λz=>absurd q z) (λz=>absurd z h)
   . split<;>lia
   . split<;>lia
def oK:bN:=xD
def zG:List Str:=["_law_one","_law_other"]
def GZ:DS:=(a6 (bz xY (ab (cp (kc (ab (aa 0) (ab (aa 1) ag))) [none,none] (dN 0 1) bI (ai bo (aa 0) (aa 1))) ag)))
def FL:WS oK 2 GZ zG:=Jt
def tN:∀ {a b:List Int},(∀x∈a,x.natAbs<=m)->(∀x∈b,x.natAbs<=m)->(Mx.gY a b).natAbs<=a.length*(m*m)
 | [],_,_,_=>by change(0:Int).natAbs<=_;simp
 |_::_,[],_,_=>by change(0:Int).natAbs<=_;simp
 |x::a,y::b,f,d=>by
  let g:=tN (a:=a) (b:=b) (λz c=>f z (Xg _ c)) λz c=>d z (Xg _ c);let e:Mx.gY (x::a) (y::b)=x*y+Mx.gY a b:=rfl
  let i:(x*y).natAbs<=m*m:=by
   rw[Xo];show XM (f x Xk) (d y Xk)
  let h:=abo (x*y) (Mx.gY a b);rw[e,Xw,aaj,Y6];lia
def Dr.mem{A:List (List Int)}(h:Dr A N w)(hi:i<N):A.getD i []∈A:=by
 let:=h.is.len;rw[Mx.aJ (by lia)];show XX _
def Wc(h:n<=8):(8*2^90)^n<=2^744:=by
 rw[show(8*2^90:Nat)=2^93 by decide,<-aak];show Xd (by decide) (by lia)
def UH(h:n<=8):(8*2^90)^(n-1)<=2^651:=by
 rw[show(8*2^90:Nat)=2^93 by decide,<-aak];show Xd (by decide) (by lia)
def Dr.st(h:Dr A N w):St A N w where
 is:=h.is
 wd:=by let:=h.wd;lia
 sm:=λr a x b=>WZ (show x.natAbs<=2^40 by let:=h.bd r a x b;unfold Sm at this;lia) (by decide)
 gm:={
  le:=h.le
  ex:=⟨2^90,λr c a f=>by
   let q:∀i,i<N->∀x∈A.getD i [],x.natAbs<=1000000000000:=λi e x b=>by let:=h.bd _ (h.mem e) x b;unfold Sm at this;lia
   let d:=tN (q r a) (q c f);let k:=h.is.fZ _ (h.mem a);let j:=h.wd;unfold Mx.ae;rw[k]at d;let g:w*(1000000000000*1000000000000)<=9*(1000000000000*1000000000000):=XW _ j;show WZ d (WZ g (by decide)),Wc h.le,UH h.le,by decide⟩
  sym:=Mx.jf A}
def QE(h:p<=8):(8*2^748)^p<=2^6100:=by
 let e:8*2^748=2^751:=by rw[show 751=3+748 from rfl,YJ]
 rw[e,<-aak];show Xd (by decide) (by lia)
structure DV(G:Mx.Fn)(n:Nat):Prop where
 le:n<=8
 bd:∀r c,r<n->c<n->(G r c).natAbs<=2^748
 sym:∀i j,G i j=G j i
def DV.gx(h:DV G n)(a:p<n)(hi:i<n)(b:j<n):(Mx.gx G p (G i) j).natAbs<=2^6100:=WZ (Mx.Bp h.le h.bd a hi b) (QE (by let:=h.le;lia))
def DV.D(h:DV G n)(b:p<=n):(Mx.D p G).natAbs<=2^6100:=WZ (Mx.qd (by let:=h.le;lia) λr c a d=>h.bd r c (by lia) (by lia)) (QE (by let:=h.le;lia))
structure EH(A:List (List Int))(N w:Nat):Prop where
 is:Mx.aX N w A
 wd:w<=1000
 sm:∀r∈A,∀x∈r,x.natAbs<=2^400000
 gm:DV (Mx.ae A) N
def EH.mem{A:List (List Int)}(h:EH A N w)(hi:i<N):A.getD i []∈A:=by
 let:=h.is.len;rw[Mx.aJ (by lia)];show XX _
def NA{A:List (List Int)}(h:EH A N w)(hi:i<N)(c:j<N):∀a∈A.getD i [],∀b∈A.getD j [],IntMulOk a b:=λa e b d=>d7 (h.sm _ (h.mem hi) a e) (h.sm _ (h.mem c) b d) (by decide) (by decide)
def St.Wx(h:St A N w):EH A N w where
 is:=h.is
 wd:=h.wd
 sm:=λr a x b=>WZ (h.sm r a x b) (Xd (by decide) (by decide))
 gm:=⟨h.gm.le,λr c a d=>WZ (h.gm.big a d) (Xd (by decide) (by decide)),h.gm.sym⟩
structure Own(G:Mx.Fn)(N:Nat)(st:af)(g kn:Nat)(cs:List Nat):Prop where
 eg:st[g]?=some (Cell.lst (aq ((List.range (N+1)).map λq=>Mx.D q G)))
 ek:st[kn]?=some (Cell.lst (cs.map D.ref))
 lc:cs.length=N
 row:∀j c,cs[j]?=some c->st[c]?=some (Cell.lst (aq (Mx.aW G j)))
def sq:bN:=λc st K=>∃(A:List (List Int)) (N w:Nat),c=[cy A]/\EH A N w/\(∀a,Ext st a->(∃k,k<=N/\Mx.D k (Mx.ae A)=0)->K .aD a)/\∀a g b d,Ext st a->(∀k,k<=N->Mx.D k (Mx.ae A)≠0)->Own (Mx.ae A) N a g b d->K (.tup [.ref g,.ref b]) a
def zd:List Str:=["_law_steps","_law_grown","_law_known","_law_step","_law_found","_law_j","_law_told","_law_other","_law_k","_law_less"]
def HQ:DS:=(av (aM 1 (mO (ab (dC (.int 1)) ag)))
 (av (aM 2 (mO ag))
 (av (fm (dy (aa 0)) (bf 3) (av (aM 4 (mO ag))
 (av (fm (dg (ab (ai cE (bz dB (ab (aa 2) ag)) (dC (.int 1))) ag)) (bf 5) (av (aM 6 (ay oK (ab (aa 3) (ab (ai aN (aa 0) (aa 5)) ag))))
 (av (aM 7 (ai aN (ai uo (aa 2) (mP (ab (aa 4) ag))) (aa 5)))
 (av (fm (dg (ab (aa 5) ag)) (bf 8) (av (aM 9 (ai bo (ai aN (aa 4) (aa 8)) (ai aN (aa 7) (aa 8))))
 (aM 6 (ai ip (ai df (ai bo (ai aN (aa 1) (ai cE (aa 8) (dC (.int 1)))) (aa 6)) (aa 9)) (ai aN (aa 1) (aa 8))))))
 (d6 (fM (aa 4) (aa 6)))))))
 (av (cS (a_ (ai gN (ai aN (aa 4) (iU ff (dC (.int 1)))) (dC (.int 0)))) (a6 (dC .aD)) cA)
 (av (d6 (fM (aa 1) (ai aN (aa 4) (iU ff (dC (.int 1))))))
 (d6 (fM (aa 2) (aa 4))))))))
 (a6 (jb (ab (aa 1) (ab (aa 2) ag)))))))
def QP{A:List (List Int)}(h:j<A.length):dw (A.map cm) (j:Int)=some (cm (A.getD j [])):=by
 show eP ?_;rw[W_,W7 h,Mx.aJ h];rfl
def PL{G:Mx.Fn}{n i j g f o:Nat}{gl m h:List Int}{v u t s:D}{st:af}{E:jl}{b a:Option D}(d:DV G n)(hi:i<n)(S:j<=i)(B:∀k,k<=i->Mx.D k G≠0)
 (F:st[g]?=some (.lst (aq gl))) (H:st[f]?=some (.lst (aq m))) (C:st[o]?=some (.lst (aq h))) (P:gl.length=i+1) (Q:m.length=j) (lo:j<=h.length)
 (x:∀k,k<=i->gl.getD k 0=Mx.D k G) (A:∀k,k<j->m.getD k 0=Mx.lam G i k) (z:∀k,k<j->h.getD k 0=Mx.lam G j k)
 (k:∀b a,E.nx [some v,some (.ref g),some u,some t,some (.ref f),some s,some (.int (Mx.lam G i j)),some (.ref o),b,a] st):
 fm (dg (ab (dC (.int j)) ag)) (bf 8) (av (aM 9 (ai bo (ai aN (aa 4) (aa 8)) (ai aN (aa 7) (aa 8))))
 (aM 6 (ai ip (ai df (ai bo (ai aN (aa 1) (ai cE (aa 8) (dC (.int 1)))) (aa 6)) (aa 9)) (ai aN (aa 1) (aa 8))))) E [some v,some (.ref g),some u,some t,some (.ref f),some s,some (.int (G i j)),some (.ref o),b,a] st:=by
 let R:=d.le;show fI ⟨by lia,by lia⟩ ?_;rw[Xv];show iY j (λq σ c=>c=st/\∃b a,σ=[some v,some (.ref g),some u,some t,some (.ref f),some s,some (.int (Mx.gx G q (G i) j)),some (.ref o),b,a]) ?_ ?_ ⟨rfl,b,a,by rw[Mx.iG]⟩
 . rintro σ c ⟨rfl,b,a,rfl⟩;show k b a
 . rintro q σ c rest w ⟨rfl,b,a,rfl⟩ next
   show⟨_,rfl,?_⟩;let O:=d.D (p:=q+1) (by lia);let N:=d.gx (p:=q) (i:=i) (j:=j) (by lia) hi (by lia);let M:(Mx.lam G i q).natAbs<=2^6100:=d.gx (by lia) hi (by lia);let L:(Mx.lam G j q).natAbs<=2^6100:=d.gx (by lia) (by lia) (by lia);let K:=d.D (p:=q) (by lia);let l:=B q (by lia);let J:=ax H;let I:=ax C;let y:=ax F;show aA J (jj (by lia)) (aA I (jj (by lia)) ?_);rw[A q w,z q w];show bC (d7 M L (by decide) (by decide)) (cW ?_);show aA y (e:= .int (Mx.D (q+1) G)) (by let:=jj (r:=gl) (k:=q+1) (by lia);rw[x (q+1) (by lia)]at this;show this) ?_;show bC (d7 O N (by decide) (by decide)) (cM (aA y (jj (by lia)) ?_));rw[x q (by lia)];show gT l (AA K l (by decide)) ?_;rw[Mx.B0 d.sym l];show next _ _ ⟨rfl,_,_,rfl⟩
def vV(G:Mx.Fn)(i q:Nat):((List.range q).map λj=>Mx.lam G i j).length=q:=by simp
def HJ(G:Mx.Fn)(i:Nat):((List.range (i+1)).map λj=>Mx.lam G i j)=Mx.aW G i:=rfl
def Oy{A:List (List Int)}{N w i g kn f:Nat}{gl:List Int}{cs:List Nat}{st:af}{E:jl}{m l h d b:Option D}(n:EH A N w)(hi:i<N)(P:∀k,k<=i->Mx.D k (Mx.ae A)≠0)
 (Q:st[g]?=some (.lst (aq gl))) (B:st[kn]?=some (.lst (cs.map D.ref))) (R:st[f]?=some (.lst [])) (J:gl.length=i+1) (z:cs.length=i) (v:g≠f) (u:kn≠f)
 (M:∀k,k<=i->gl.getD k 0=Mx.D k (Mx.ae A)) (O:∀j c,cs[j]?=some c->c≠f/\st[c]?=some (.lst (aq (Mx.aW (Mx.ae A) j))))
 (k:∀a m l h d b,Upd st f a->a[f]?=some (.lst (aq (Mx.aW (Mx.ae A) i)))->E.nx [some (cy A),some (.ref g),some (.ref kn),some (cm (A.getD i [])),some (.ref f),m,l,h,d,b] a):
 (fm (dg (ab (ai cE (bz dB (ab (aa 2) ag)) (dC (.int 1))) ag)) (bf 5) (av (aM 6 (ay oK (ab (aa 3) (ab (ai aN (aa 0) (aa 5)) ag))))
 (av (aM 7 (ai aN (ai uo (aa 2) (mP (ab (aa 4) ag))) (aa 5)))
 (av (fm (dg (ab (aa 5) ag)) (bf 8) (av (aM 9 (ai bo (ai aN (aa 4) (aa 8)) (ai aN (aa 7) (aa 8))))
 (aM 6 (ai ip (ai df (ai bo (ai aN (aa 1) (ai cE (aa 8) (dC (.int 1)))) (aa 6)) (aa 9)) (ai aN (aa 1) (aa 8))))))
 (d6 (fM (aa 4) (aa 6))))))) E [some (cy A),some (.ref g),some (.ref kn),some (cm (A.getD i [])),some (.ref f),m,l,h,d,b] st:=by
 let Z:=n.gm.le;let hl:=n.is.len;let X:=n.wd;show cP (ax B) (cW ?_);let S:(((cs.map D.ref).length:Nat):Int)+1=((i+1:Nat):Int):=by rw[W2,z];rfl
 rw[S];show fI ⟨by lia,by lia⟩ ?_;rw[Xv];show iY (i+1) (λq σ a=>Upd st f a/\a[f]?=some (.lst (aq ((List.range q).map λj=>Mx.lam (Mx.ae A) i j)))/\∃m l h d b,σ=[some (cy A),some (.ref g),some (.ref kn),some (cm (A.getD i [])),some (.ref f),m,l,h,d,b]) ?_ ?_ ⟨Upd.refl,R,_,_,_,_,_,rfl⟩
 . rintro σ a ⟨U,e,m,l,h,d,b,rfl⟩;rw[HJ]at e;show k a m l h d b U e
 . rintro q σ s rest Y ⟨U,e,m,l,h,d,b,rfl⟩ next
   show⟨_,rfl,?_⟩;show aA rfl (QP (by lia)) ?_;let W:=n.is.fZ _ (n.mem hi);show⟨_,_,A.getD i [],A.getD q [],rfl,rfl,rfl,by lia,NA n hi (by lia),?_⟩;let x:=(U.same kn u).trans B;let y:=(U.same g v).trans Q;show⟨Xb rfl,N8 x (by rw[Yl,W2];simp;lia) ?_⟩;let t:=(WV.mp e).1
   let L:∃(o:Nat) (p:List Int),(cs.map D.ref++[D.ref f])[q]?=some (.ref o)/\s[o]?=some (.lst (aq p))/\q<=p.length/\∀k,k<q->p.getD k 0=Mx.lam (Mx.ae A) q k:=by
    by_cases K:q<i
    . have C:cs[q]?=some cs[q]:=W7 (by lia);obtain⟨V,T⟩:=O q _ C;show⟨cs[q],Mx.aW (Mx.ae A) q,?_,(U.same _ V).trans T,by rw[Mx.dk];lia,λk r=>Mx.ij _ (by lia)⟩;rw[W3 (by rw[W2];lia),W_,C];rfl
    . have:q=i:=by lia
      subst this;show⟨f,_,?_,e,by rw[vV];lia,λk r=>p9 _ r⟩;rw[Xr (by rw[W2];lia),W2,z,Y0];rfl
   obtain⟨o,p,I,H,G,F⟩:=L;show aA rfl (eP I) ?_;show PL n.gm hi (by lia) P y e H J (vV _ _ _) G M (λk r=>p9 _ r) F λd b=>?_;show mz (by rfl) e (rq rfl (ke e (by rw[Yl,W2,vV];lia) ?_));show next _ _ ⟨U.trans Upd.set,?_,_,_,_,_,_,rfl⟩
   rw[W9 t,vp]
def VQ{n k:Nat}(h:k<n):((List.range n).map λq=>Mx.D q G).getD k 0=Mx.D k G:=by rw[Mx.aJ (by simpa using h),Xx,XG]
def UN(G:Mx.Fn)(q:Nat):aq ((List.range q).map λj=>Mx.D j G)++[.int (Mx.D q G)]=aq ((List.range (q+1)).map λj=>Mx.D j G):=by rw[YB,Yi];simp[aq]
def GL:WS sq 1 HQ zd:=by
 rintro ds st K ⟨A,N,w,rfl,S,k1,k2⟩;show⟨rfl,?_⟩;let hn:=S.gm.le;let hl:=S.is.len;show⟨Xb rfl,Xb rfl,?_⟩;let X0:Ext st (st++[.lst [.int 1]]++[.lst []]):=Ext.push.trans Ext.push
 let ah:(st++[Cell.lst [.int 1]]++[Cell.lst []])[st.length]?=some (.lst (aq ((List.range (0+1)).map λq=>Mx.D q (Mx.ae A)))):=by
  rw[YX,Xr (WX _),Y0];rfl
 let Z:(st++[Cell.lst [.int 1]]++[Cell.lst []])[st.length+1]?=some (.lst (([]:List Nat).map D.ref)):=by
  rw[YX,Xr (by lia)];let:st.length+1-st.length=1:=by lia
  rw[this];rfl
 let e:(st++[Cell.lst [.int 1]]++[Cell.lst []]).length=st.length+2:=by simp
 let T:∀k,k<=0->Mx.D k (Mx.ae A)≠0:=λk hk=>by
  let:k=0:=by lia
  rw[this,Mx.gW];decide
 let t:(st++[Cell.lst [.int 1]]).length=st.length+1:=by simp
 show fj ?_;show fg (λrest σ d=>∃(i:Nat) (cs:List Nat) (O M G F C B z:Option D),i<=N/\σ=[some (cy A),some (.ref st.length),some (.ref (st.length+1)),O,M,G,F,C,B,z]/\rest=(A.drop i).map cm/\Ext st d/\st.length+2<=d.length/\d[st.length]?=some (.lst (aq ((List.range (i+1)).map λq=>Mx.D q (Mx.ae A))))/\d[st.length+1]?=some (.lst (cs.map D.ref))/\cs.length=i/\(∀k,k<=i->Mx.D k (Mx.ae A)≠0)/\∀j c,cs[j]?=some c->st.length+2<=c/\c<d.length/\d[c]?=some (.lst (aq (Mx.aW (Mx.ae A) j)))) ?_ ?_ _ _ _ ⟨0,[],none,none,none,none,none,none,none,Xq _,by rw[t];rfl,rfl,X0,by rw[e];lia,ah,Z,rfl,T,λj c h=>by simp at h⟩
 . rintro σ a ⟨i,cs,O,M,G,F,C,B,z,hi,rfl,p,X,r,L,J,o,I,H⟩;show⟨trivial,?_⟩
   let:i=N:=by
    let:=Ye List.length p;simp at this;lia
   subst this;show⟨Xb rfl,k2 a _ _ cs X I ⟨L,J,o,λj c h=>(H j c h).2.2⟩⟩
 . rintro x rest σ a ⟨i,cs,O,M,G,F,C,B,z,hi,rfl,p,X,r,L,J,o,I,H⟩ next
   let s:i<N:=by
    let:=Ye List.length p;simp at this;lia
   rw[Xm (show i<A.length by lia),XH,Yy]at p;obtain⟨rfl,rfl⟩:=p;let er:A[i]=A.getD i []:=(Mx.aJ (by lia)).symm;rw[er];show⟨trivial,_,rfl,?_⟩;show⟨Xb rfl,?_⟩;let l:Ext a (a++[.lst []]):=Ext.push;let ef:(a++[Cell.lst []])[a.length]?=some (.lst []):=by simp
   show Oy (E:={nx:=_,rt:=K,ct:=_,bk:=_}) (i:=i) (g:=st.length) (kn:=st.length+1) (f:=a.length) (cs:=cs) (gl:=(List.range (i+1)).map λq=>Mx.D q (Mx.ae A)) S s I ((l.same _ (by lia)).trans L) ((l.same _ (by lia)).trans J) ef (by simp) o (by lia) (by lia) (λk hk=>VQ (by lia)) (λj c h=>by
    obtain⟨h1,W,V⟩:=H j c h;show⟨by lia,(l.same _ W).trans V⟩) λb G F C B z U y=>?_
   let l2:b.length=a.length+1:=by rw[U.len];simp
   let it:=ax y;let X2:Ext st b:=⟨by lia,λm hm=>by rw[U.same m (by lia),l.same m (by lia)];show X.same m hm⟩
   show dY (aA it (lJ (Mx.dk _ i)) ?_);rw[Mx.ij _ (WX i),Mx.cH];show eq2 (λh=>eN (k1 b X2 ⟨i+1,by lia,h⟩)) λh=>?_;let v:b[st.length]?=some (.lst (aq ((List.range (i+1)).map λq=>Mx.D q (Mx.ae A)))):=by rw[U.same _ (by lia),l.same _ (by lia)];show L
   let Y:b[st.length+1]?=some (.lst (cs.map D.ref)):=by rw[U.same _ (by lia),l.same _ (by lia)];show J
   show mz (by rfl) v (dY (aA it (lJ (Mx.dk _ i)) ?_));rw[Mx.ij _ (WX i),Mx.cH];show ke v (by rw[Yl];simp;lia) ?_;rw[UN];let u:(b.set st.length (.lst (aq ((List.range (i+1+1)).map λq=>Mx.D q (Mx.ae A)))))[st.length+1]?=some (.lst (cs.map D.ref)):=by rw[W0 (by lia)];show Y
   show mz (by rfl) u (rq rfl (ke u (by rw[Yl];simp;lia) ?_));show next _ _ ⟨i+1,cs++[a.length],_,_,_,_,_,_,_,s,rfl,rfl,?_,by simp;lia,?_,?_,by simp[o],λq hq=>?_,λj c n=>?_⟩
   . show(X2.set (WX _)).set (by lia)
   . rw[W0 (by lia),W9 (by lia)]
   . rw[W9 (by rw[Xf];lia),Yi];rfl
   . by_cases P:q=i+1
     . rw[P];show h
     . show I q (by lia)
   . by_cases R:j<cs.length
     . rw[W3 R]at n;obtain⟨h1,W,V⟩:=H j c n;show⟨h1,by simp;lia,?_⟩;rw[W0 (by lia),W0 (by lia),U.same _ (by lia),l.same _ W];show V
     . have Q:=(WV.mp n).1;let:j=i:=by simp at Q;lia
       subst this;rw[Xr (by lia),o,Y0]at n;simp at n;subst n;show⟨by lia,by simp;lia,?_⟩;rw[W0 (by lia),W0 (by lia)];show y
def m5:bN:=λa st K=>∃(n:Nat),a=[.int n]/\n<=1000/\K (cy (Mx.units n)) st
def wW:List Str:=["_law_n"]
def FP:DS:=(a6 (bz cN (ab (cp (dg (ab (aa 0) ag)) [none,some 0] (bf 0) bI (bz cN (ab (cp (dg (ab (aa 1) ag)) [none,some 0] (bf 0) bI (bz BL (ab (ai gN (aa 1) (aa 0)) ag))) ag))) ag)))
def DH:WS m5 1 FP wW:=by
 rintro e st K ⟨n,rfl,b,k⟩;show⟨rfl,?_⟩;show fI ⟨by lia,by lia⟩ ⟨cx (by rw[dZ];lia),?_⟩;rw[Xv];show kR (λi=>cm (Mx.fK n i)) n (λi d a q=>⟨_,rfl,?_⟩) ?_
 . show fI ⟨by lia,by lia⟩ ⟨cx (by rw[dZ];lia),?_⟩;rw[Xv];show kR (λj=> .int (Mx.dl j i)) n (λj c a q=>⟨_,rfl,?_⟩) ?_
   . show eq2 (λh=>D1 ?_) λh=>D1 ?_
     . have:j=i:=by lia
       subst this;rw[Mx.dh]at q;show q
     . rw[Mx.dD (by lia)]at q;show q
   . have:(List.range n).map (λj=>D.int (Mx.dl j i))=aq (Mx.fK n i):=by unfold Mx.fK aq;rw[Xy];rfl
     rw[this];show cJ rfl q
 let:(List.range n).map (λi=>cm (Mx.fK n i))=(Mx.units n).map cm:=by unfold Mx.units;rw[Xy];rfl
 rw[this];show cJ rfl k
def Q8{A:List (List Int)}{N w M:Nat}(a:Mx.aX N w A)(h:∀r∈A,∀x∈r,x.natAbs<=M):∀i c,i<N->c<w->(Mx.g A i c).natAbs<=M:=λi c b f=>by
 let e:=a.len;let d:=a.row b;unfold Mx.g;show h _ (by rw[Mx.aJ (by lia)];show XX _) _ (getD_mem (by lia))
def O_{A:List (List Int)}{N w M:Nat}(d:Mx.aX N w A)(h:∀i c,i<N->c<w->(Mx.g A i c).natAbs<=M):Mx.g6 A N 0 M:=λi c _ a=>by
 by_cases b:c<w
 . show h i c a b
 . have e:=d.row a;unfold Mx.g;rw[Mx.lp (by lia)];show Xq _
def eH:bN:=λb st K=>∃(A R:List (List Int)) (N w:Nat) (f:Bool),b=[cy A,.tup (R.map cm)]/\Mx.aX N w A/\1<=N/\N<=8/\w<=8/\(∀q∈A,∀x∈q,x.natAbs<=2^88)/\R.length<=8/\(∀r∈R,r.length=w/\(∀x∈r,x.natAbs<=2^5000)/\Mx.dW A N w (λc=>r.getD c 0))/\st[0]?=some (f6 f)/\∀a,Bk st a->K (.bl true) a
def ou:List Str:=["_law_rows_here","_law_others"]
def vf:DS:=(a6 (bz pj (ab (cp (dy (aa 1)) [none,some 0] (bf 0) bI (ai gN (ai aN (ay vh (ab (aa 1) (ab (aa 0) ag))) (dC (.int 0))) (dC (.str "told")))) ag)))
abbrev Rc(N e0 t:Nat):Prop:=Mx.Ez N e0 (t+1)<60000000/\Mx.Uz N e0 t+Mx.Ez N e0 (t+1)<=120000000/\Mx.Uz N e0 t+Mx.Cz N e0 t<=120000000
def Wk:∀N,N<9->∀t,t<N->Rc N 88 t:=by decide+kernel
def Wj:∀m,m<9->8*((9*2^88)^(m+1)*(9*2^88)^m)<=2^5000:=by decide+kernel
def Bk.trans{e d c:af}(a:Bk e d)(b:Bk d c):Bk e c:=⟨WZ a.le b.le,λm f g=>(b.fr m (Xj f a.le) g).trans (a.fr m f g),b.tb⟩
def ux:WS eH 2 vf ou:=by
 rintro G st K ⟨A,R,N,w,f,rfl,d,p,o,h,j,E,s,y,k⟩;show⟨rfl,?_⟩;let e:∀F m,Fo A N w F m->Wf F m w:=λF m fo=>fo.wf h (by decide) (Q8 d j) (Wj m (by let:=fo.m8;lia));let b0:Bk st st:=⟨WX _,λ_ _ _=>rfl,f,y⟩
 show fj ⟨cx (by rw[W2];lia),?_⟩;show gD (λrest b a=>∃q,q<=R.length/\rest=(R.map cm).drop q/\b=(List.range q).map (λ_=>D.bl true)/\Bk st a) ?_ ?_ _ _ _ ⟨0,Xq _,rfl,rfl,b0⟩
 . rintro b a ⟨q,r,i,rfl,B⟩;show⟨trivial,tw (lX (f:=λ_=>true) q) ?_⟩;rw[show((List.range q).map λ_=>true).all id=true by simp];show k a B
 . rintro x rest b a ⟨q,r,i,rfl,B⟩ next
   obtain⟨c,rfl,rfl⟩:=drop_cons i;obtain⟨g,v,u⟩:=s _ (show R.getD q []∈R by rw[Mx.aJ c];show XX _);obtain⟨z,l⟩:=B.tb;show⟨trivial,_,rfl,⟨_,_,A,R.getD q [],N,w,88,z,rfl,fh,rfl,d,p,o,h,O_ d (Q8 d j),by decide,λt g _=>Wk N (by lia) t g,e,g,v,u,l,λn W C _ _ _=>?_⟩⟩;show aA rfl rfl (FA rfl rfl ?_);rw[show cO (.str "told") (.str "told")=true from n_ 40 _ rfl];change dc _ _ _ _ _ _ _ _ _;show next _ _ ⟨q+1,c,rfl,by rw[YB,Yi];rfl,B.trans C⟩
abbrev SF(G:Mx.Fn)(N:Nat)(m:Int):List D:=(List.range N).map λk=> .tup [.int (iP (Mx.D (k+1) G) (Mx.D k G)*m*m),.int (dF (Mx.D (k+1) G) (Mx.D k G))]
abbrev Sa(G:Mx.Fn)(us:List Int)(i:Nat):List D:=(List.range i).map λj=> .tup [.int (us.getD i 0*us.getD j 0*iP (Mx.lam G i j) (Mx.D (j+1) G)),.int (dF (Mx.lam G i j) (Mx.D (j+1) G))]
abbrev RG(G:Mx.Fn)(N:Nat)(us:List Int):List D:=(List.range N).map λi=> .tup (Sa G us i)
def Eu(us:List Int):Prop:=∀u∈us,u=1\/u= -1
def Eu.at{us:List Int}(h:Eu us)(hi:i<us.length):us.getD i 0=1\/us.getD i 0= -1:=h _ (by rw[Mx.aJ hi];show XX _)
def rk(us:List Int):aq us=(List.range us.length).map λk=> .int (us.getD k 0):=by
 show aaf (by simp) λi a b=>?_;rw[Xx,Xx,XG,Mx.aJ (by simpa using a)]
def Io{a b:Nat->D}(h:M<=N):eJ ((List.range N).map a) ((List.range M).map b)=(List.range M).map λk=> .tup [a k,b k]:=by
 show abn λk=>?_;unfold eJ;rw[W_,W_];by_cases c:k<M
 . rw[Yb c]
   let e:(((List.range N).map a).zip ((List.range M).map b))[k]?=some (a k,b k):=by
    rw[aap];show⟨by rw[W_,Yb (by lia)];rfl,by rw[W_,Yb c];rfl⟩
   rw[e];rfl
 . have d:(((List.range N).map a).zip ((List.range M).map b))[k]?=none:=Yw (by rw[abI];simp;lia);rw[d,Yw (by simpa using c)];rfl
def oH:bN:=λb st K=>∃(G:Mx.Fn) (N:Nat) (us:List Int) (m:Int),b=[.tup (w6 G N),.tup (CC G N),.lst (aq us),.int m]/\us.length=N/\N<=8/\0<m/\m<=9/\Eu us/\∀a,Ext st a->K (.tup [.lst (SF G N m),.tup (RG G N us)]) a
def yP:List Str:=["_law_squares","_law_known","_law_signs","_law_many","_law_due_here","_law_found","_law_sign","_law_row"]
def Jc:DS:=(av (aM 4 (cp (dy (aa 0)) [none,none,some 3] (dN 0 1) bI (jb (ab (ai bo (ai bo (aa 0) (aa 2)) (aa 2)) (ab (aa 1) ag)))))
 (av (aM 5 (mO ag))
 (av (fm (kc (ab (aa 2) (ab (aa 1) ag))) (dN 6 7) (d6 (fM (aa 5) (bz cN (ab (cp (kc (ab (aa 2) (ab (aa 7) ag))) [none,none,some 6] (dN 0 1) bI (jb (ab (ai bo (ai bo (aa 2) (aa 0)) (ai aN (aa 1) (dC (.int 0)))) (ab (ai aN (aa 1) (dC (.int 1))) ag)))) ag)))))
 (a6 (jb (ab (aa 4) (ab (bz cN (ab (aa 5) ag)) ag)))))))
def Fi:WS oH 4 Jc yP:=by
 rintro O st K ⟨G,N,b,m,rfl,r,I,L,J,s,k⟩;show⟨rfl,?_⟩;show fj ⟨cx (by simp;lia),?_⟩;show fG (h:=λk=> .tup [.int (iP (Mx.D (k+1) G) (Mx.D k G)*m*m),.int (dF (Mx.D (k+1) G) (Mx.D k G))]) trivial (λq u H t=>⟨_,rfl,bC (nA (by lia) (by lia)) (bC (nA (by lia) (by lia)) ⟨Xb rfl,t⟩)⟩) ?_;show⟨Xb rfl,?_⟩;let F:Ext st (st++[.lst []]):=Ext.push;let E:(st++[Cell.lst []])[st.length]?=some (.lst ((List.range 0).map λi=>D.tup (Sa G b i))):=by simp
 let C:eJ (aq b) (CC G N)=(List.range N).map λi=> .tup [.int (b.getD i 0),.tup (CO G i)]:=by
  rw[rk,r,om (WX _)]
 show jG rfl rfl λok A=>?_;rw[C];show fg (λrest σ d=>∃(q:Nat) (l g:Option D),q<=N/\σ=[some (.tup (w6 G N)),some (.tup (CC G N)),some (.lst (aq b)),some (.int m),some (.lst (SF G N m)),some (.ref st.length),l,g]/\rest=((List.range N).map λi=>D.tup [.int (b.getD i 0),.tup (CO G i)]).drop q/\Ext st d/\d[st.length]?=some (.lst ((List.range q).map λi=>D.tup (Sa G b i)))) ?_ ?_ _ _ _ ⟨0,none,none,Xq _,rfl,rfl,F,E⟩
 . rintro σ n ⟨q,l,g,u,rfl,a,X,e⟩;show⟨A _ rfl rfl,?_⟩
   let c:q=N:=by
    let:=Ye List.length a;simp at this;lia
   subst c;show cJ (ax e) ⟨Xb rfl,k _ X⟩
 . rintro x rest σ n ⟨q,l,g,u,rfl,a,X,e⟩ next
   let c:q<N:=by
    let:=Ye List.length a;simp at this;lia
   rw[Xm (by simpa using c),Yy,Xx,XG]at a;obtain⟨rfl,rfl⟩:=a;show⟨A _ rfl rfl,_,rfl,?_⟩;show mz (by rfl) e ?_;show jG rfl rfl λB f=>⟨cx (by rw[jd];simp;lia),?_⟩
   let p:eJ (aq b) (CO G q)=(List.range q).map λj=> .tup [.int (b.getD j 0),iK (Mx.lam G q j) (Mx.D (j+1) G)]:=by
    rw[rk,r,Io (by lia)]
   rw[p];show fG (h:=λj=> .tup [.int (b.getD q 0*b.getD j 0*iP (Mx.lam G q j) (Mx.D (j+1) G)),.int (dF (Mx.lam G q j) (Mx.D (j+1) G))]) (f _ rfl rfl) (λj M H t=>⟨_,rfl,?_⟩) ?_
   . have w:=s.at (i:=q) (by lia);let v:=s.at (i:=j) (by lia);show bC (nA (by lia) (by lia)) (aA rfl rfl (bC (fJ ?_ ?_) (aA rfl rfl ⟨Xb rfl,t⟩)))
     . rcases w with z|z<;>rcases v with y|y<;>rw[z,y]<;>decide
     . rcases w with z|z<;>rcases v with y|y<;>rw[z,y]<;>decide
   show cJ rfl (ke e (by rw[Yl];simp;lia) ?_);let o:=(WV.mp e).1;show next _ _ ⟨q+1,_,_,c,rfl,rfl,X.set (WX _),?_⟩
   rw[W9 o,YB,Yi];rfl
abbrev Mt:bN:=Hn pD
def Nt:List Str:=["_law_script","_law_k","_law_left_here","_law_steps","_law_made","_law_unit_here","_law_many","_law_signs","_law_others","_law_squares","_law_known","_law_due_here","_law_turned","_law_found","_law_again"]
def SV:DS:=(av (fm (kZ (ab (dC (.int 1)) (ab (ai cE (dC (.int 2)) (bz dB (ab (gq (aa 0) (hZ (dC (.int 1))) (hZ (dC (.int 3)))) ag))) ag))) (bf 1) (av (aM 2 (ay qk (ab (aa 0) (ab (aa 1) ag))))
 (av (aM 3 (ay pq (ab (aa 2) ag)))
 (av (cS (a_ (ai JV (ay sq (ab (aa 3) ag)) (dC .aD))) tM cA)
 (av (cS (ue (a_ (ai u0 (bz dB (ab (aa 3) ag)) (dC (.int 4)))) (a_ (ai u0 (aa 1) (dC (.int 1))))) tM cA)
 (av (aM 4 (ai aN (ay nv (ab (aa 3) ag)) (dC (.int 0))))
 (av (aM 5 (ay m5 (ab (bz dB (ab (aa 4) ag)) ag)))
 (av (cS (mN (a_ (ai iW (ay g_ (ab (aa 4) ag)) (dC (.bl true)))) (a_ (ai iW (ay jS (ab (aa 4) (ab (jb (ab (aa 4) (ab (aa 5) (ab (aa 5) ag)))) ag))) (dC (.bl true))))) (a6 (dC (.bl false))) cA)
 (av (aM 6 (ai cE (dC (.int 1)) (ay cG (ab (aa 2) (ab (dC (.int 9)) ag)))))
 (av (aM 7 (cp (dy (aa 4)) [none,some 2] (bf 0) bI (ai df (dC (.int 1)) (ai bo (dC (.int 2)) (ay cG (ab (aa 1) (ab (dC (.int 2)) ag)))))))
 (av (aM 8 (bz cN (ab (cp (kc (ab (aa 7) (ab (aa 4) ag))) [none,none,some 6] (dN 0 1) bI (bz cN (ab (cp (dy (aa 1)) [none,some 0,some 2] (bf 0) bI (ai bo (ai bo (aa 1) (aa 2)) (aa 0))) ag))) ag)))
 (av (cS (a_ (ai sF (bz tS (ab (cp (dy (bz uu (ab (aa 8) (ab (jb ag) ag)))) [none] (bf 0) bI (bz mF (ab (aa 0) ag))) ag)) (ai qg (dC (.int 10)) (dC (.int 12))))) tM cA)
 (av (xX (dN 9 10) (ay j6 (ab (aa 4) ag)))
 (av (xX (dN 11 12) (ay oH (ab (aa 9) (ab (aa 10) (ab (aa 7) (ab (aa 6) ag))))))
 (av (aM 13 (ay j6 (ab (aa 8) ag)))
 (av (cS (mN (a_ (ai ve (ai aN (aa 13) (dC (.int 1))) (aa 12))) (a_ (ai pM (bz dB (ab (ai aN (aa 13) (dC (.int 0))) ag)) (bz dB (ab (aa 11) ag))))) (a6 (dC (.bl false))) cA)
 (av (cS (gp (a_ (bz pj (ab (cp (kc (ab (ai aN (aa 13) (dC (.int 0))) (ab (aa 11) ag))) [none,none] (dN 0 1) bI (ai gN (ai bo (ai aN (aa 0) (dC (.int 0))) (ai aN (aa 1) (dC (.int 1)))) (ai bo (ai aN (aa 1) (dC (.int 0))) (ai aN (aa 0) (dC (.int 1)))))) ag)))) (a6 (dC (.bl false))) cA)
 (av (aM 14 (ai aN (ay nv (ab (aa 8) ag)) (dC (.int 0))))
 (av (cS (mN (a_ (ai iW (ay g_ (ab (aa 8) ag)) (dC (.bl true)))) (gp (a_ (ay eH (ab (aa 14) (ab (gq (aa 8) (hZ (iU ff (dC (.int 2)))) fH) ag)))))) (a6 (dC (.bl false))) cA)
 (cS (gp (a_ (ay eH (ab (aa 8) (ab (gq (aa 14) (hZ (iU ff (dC (.int 2)))) fH) ag))))) (a6 (dC (.bl false))) cA))))))))))))))))))))
 (a6 (dC (.bl true))))
def N_{xs:List D}:(L3.cutD xs (some a) (some b)).length<=xs.length:=by
 unfold L3.cutD;rw[Yu,aac];lia
def OO{A c U C:List (List Int)}{N w:Nat}(T:Mx.Tn A c U C N w):Mx.um A N c N w:=by
 show⟨λk a=>⟨λi=>Mx.g C i k,λq b=>?_⟩,λk a=>⟨Mx.g U k,λq b=>T.ua k q a b⟩⟩
 let e:(Mx.S N λi=>Mx.g C i k*Mx.g c i q)=Mx.S N λi=>Mx.S N λj=>Mx.g C i k*Mx.g U i j*Mx.g A j q:=Mx.aw λi f=>by
  rw[T.ua i q f b,<-Mx.cT];show Mx.aw λj _=>(Yr _ _ _).symm
 rw[e,Mx.i6];let g:(Mx.S N λj=>Mx.S N λi=>Mx.g C i k*Mx.g U i j*Mx.g A j q)=Mx.S N λj=>Mx.dl k j*Mx.g A j q:=Mx.aw λj d=>by rw[Mx.kD,T.bu k j a d]
 rw[g];show(Mx.gO a λj=>Mx.g A j q).symm
def MB{x:Int}{e:Nat}(h:x*x<=2^(e+e)):x.natAbs<=2^e:=by
 let c:((x.natAbs*x.natAbs:Nat):Int)=x*x:=aa5;let b:((2^(e+e):Nat):Int)=2^(e+e):=Yt 2 _;rw[<-c,<-b]at h;let a:=aaa.mp h;rw[YJ]at a;show Nat.mul_self_le_mul_self_iff.mp a
def Jh{A:List (List Int)}{N w i c:Nat}(f:Mx.aX N w A)(hi:i<N)(a:c<w):Mx.g A i c*Mx.g A i c<=Mx.ae A i i:=by
 rw[Mx.fv f hi hi]
 let j:∀n,n<=w->(c<n->Mx.g A i c*Mx.g A i c<=Mx.S n λc=>(A.getD i []).getD c 0*(A.getD i []).getD c 0)/\0<=Mx.S n λc=>(A.getD i []).getD c 0*(A.getD i []).getD c 0:=λn=>by
  induction n with
  |zero=>show λ_=>⟨λz=>absurd z (Ys _),aaE _⟩
  |succ n e=>
   intro h;obtain⟨g,d⟩:=e (by lia)
   let b:0<=(A.getD i []).getD n 0*(A.getD i []).getD n 0:=by
    rcases Int.le_total 0 ((A.getD i []).getD n 0)with z|z
    . show Z0 z z
    . show aaB z z
   show⟨λa=>?_,?_⟩
   . rcases Z_ c n with z|z
     . show Xs (g z) (Int.le_add_of_nonneg_right b)
     . have:c=n:=by lia
       subst this;show Int.le_add_of_nonneg_left d
   . show abW d b
 show(j w (WX w)).1 a
def GH{A:List (List Int)}{N w b e:Nat}(f:Mx.aX N w A)(l:N<=8)(h:w<=8)(d:∀r∈A,∀x∈r,x.natAbs<=b)(j:(8*(8*(b*b)))^N<=2^e):Mx.D N (Mx.ae A)<=2^e:=by
 let mem:∀i,i<N->A.getD i []∈A:=λi n=>by let:=f.len;rw[Mx.aJ (by lia)];show XX _
 let:(Mx.D N (Mx.ae A)).natAbs<=2^e:=WZ (Mx.qd l λr c a k=>by
  let g:=tN (d _ (mem r a)) (d _ (mem c k));let m:=f.fZ _ (mem r a);unfold Mx.ae;rw[m]at g;show WZ g (XW _ h)) j
 let o:((2^e:Nat):Int)=2^e:=Yt 2 _;lia
def D7(b:1<=x)(a:N<=y):x^N<=x^y:=Xd b a
def Rw(a:Dr A N w):(N<=2/\Mx.D N (Mx.ae A)<=2^172)\/(N<=4/\Mx.D N (Mx.ae A)<=2^104)\/Mx.D N (Mx.ae A)<=2^80:=by
 let c:=a.le;rcases a.VT with⟨d,e|h⟩|h
 . show .inl ⟨e,GH (b:=1000000000000) a.is c a.w8 (λr g x f=>by let:=a.bd r g x f;unfold Sm at this;lia) (WZ (D7 (by decide) e) (by decide))⟩
 . show .inr (.inl ⟨d,GH (b:=999) a.is c a.w8 h (WZ (D7 (by decide) d) (by decide))⟩)
 . show .inr (.inr (GH (b:=4) a.is c a.w8 h (WZ (D7 (by decide) c) (by decide))))
def FV{A:List (List Int)}{N w:Nat}{r:List Int}{x:Int}(b:Mx.aX N w A)(a:r∈A)(d:x∈r):∃i c,i<N/\c<w/\x=Mx.g A i c:=by
 obtain⟨i,e,rfl⟩:=Xp.mp a;obtain⟨c,f,rfl⟩:=Xp.mp d;let h:=b.len;let g:=b.fZ _ a;show⟨i,c,by lia,by lia,?_⟩;unfold Mx.g;rw[Mx.aJ e,Mx.aJ f]
def AD{A:List (List Int)}{N w E:Nat}(a:Mx.aX N w A)(j:N<=8)(n:w<=8)(o:E<=200)(g:∀i,i<N->Mx.ae A i i<=2^E)(m:(E+3)*N<=744)(l:(E+3)*(N-1)<=651):St A N w:=by
 let h:(8*2^E:Nat)=2^(E+3):=by rw[YJ,Y8]
 let d:∀i,i<N->Mx.ae A i i<=((2^E:Nat):Int):=λi f=>by rw[Yt];show g i f
 show⟨a,by lia,λr b x k=>?_,j,⟨2^E,λr c b e=>Mx.oF (Mx.AV (by rw[Mx.ba a b,Mx.ba a e])) (Mx.eS a b) (Mx.eS a e) (d r b) (d c e),?_,?_,Zk⟩,Mx.jf A⟩
 . obtain⟨i,c,f,e,rfl⟩:=FV a b k;show MB (Xs (Jh a f e) (Xs (g i f) (Mx.p2 (by lia))))
 . rw[h,<-aak];show Xd (by decide) m
 . rw[h,<-aak];show Xd (by decide) l
def Af{A:List (List Int)}{N w e:Nat}(b:Mx.aX N w A)(f:N<=8)(a:∀k,k<=N->Mx.D k (Mx.ae A)≠0)(sh:Mx.Sh (Mx.ae A) N)(m:Mx.D N (Mx.ae A)<=2^e)(h:N+2+e<=176):∀r∈A,∀x∈r,x.natAbs<=2^88:=λr j x g=>by
 obtain⟨i,c,d,l,rfl⟩:=FV b j g;show MB (Xs (Jh b d l) (Xs (Mx.qK b a sh f m d) (Mx.p2 h)))
def Oz{A d U C:List (List Int)}{N w:Nat}(f:Dr A N w)(T:Mx.Tn A d U C N w)(a:∀k,k<=N->Mx.D k (Mx.ae d)≠0)(sh:Mx.Sh (Mx.ae d) N):St d N w/\∀r∈d,∀x∈r,x.natAbs<=2^88:=by
 let b:=f.le;let g:=f.w8;let e:=T.same f.is;rcases Rw f with⟨n,h⟩|⟨n,h⟩|h
 . rw[<-e]at h;show⟨AD (E:=176) T.isA b g (by decide) (λi c=>Xs (Mx.qK T.isA a sh b h c) (Mx.p2 (by lia))) (by lia) (by lia),Af T.isA b a sh h (by lia)⟩
 . rw[<-e]at h;show⟨AD (E:=110) T.isA b g (by decide) (λi c=>Xs (Mx.qK T.isA a sh b h c) (Mx.p2 (by lia))) (by lia) (by lia),Af T.isA b a sh h (by lia)⟩
 . rw[<-e]at h;show⟨AD (E:=90) T.isA b g (by decide) (λi c=>Xs (Mx.qK T.isA a sh b h c) (Mx.p2 (by lia))) (by lia) (by lia),Af T.isA b a sh h (by lia)⟩
def tx(us:List Int)(m:Int)(A:List (List Int))(i:Nat):List Int:=(A.getD i []).map λx=>us.getD i 0*m*x
def oo(us:List Int)(m:Int)(A:List (List Int))(N:Nat):List (List Int):=(List.range N).map (tx us m A)
def G8{us:List Int}{m:Int}{A:List (List Int)}{N w:Nat}(c:Mx.aX N w A):Mx.aX N w (oo us m A N):=⟨by simp[oo],λr a=>by
 unfold oo at a;obtain⟨i,b,rfl⟩:=XB.mp a;rw[XI]at b;unfold tx;rw[W2];show Mx.ba c b⟩
def MS{us:List Int}{m:Int}{A:List (List Int)}{N w i c:Nat}(a:Mx.aX N w A)(hi:i<N)(b:c<w):Mx.g (oo us m A N) i c=us.getD i 0*m*Mx.g A i c:=by
 let e:(oo us m A N).getD i []=tx us m A i:=by
  unfold oo;rw[Mx.aJ (by simpa using hi),Xx,XG]
 unfold Mx.g;rw[e];unfold tx;let:=Mx.ba a hi;rw[Mx.aJ (by rw[W2];lia),Mx.aJ (l:=A.getD i []) (by lia),Xx]
def NC{us:List Int}{m:Int}{A:List (List Int)}{N w:Nat}(b:Mx.aX N w A)(k:Eu us)(l:us.length=N)(e:0<m):Mx.u9 (Mx.ae A) (Mx.ae (oo us m A N)) N (λi=>us.getD i 0) (m*m):=by
 show⟨λi a=>?_,YE e e,λi j a d=>?_⟩
 . rcases k.at (i:=i) (by lia)with z|z<;>rw[z]<;>rfl
 . rw[Mx.fv (G8 b) a d,Mx.fv b a d,<-Mx.cT];show Mx.aw λc f=>?_;let h:=MS (us:=us) (m:=m) b a f;let g:=MS (us:=us) (m:=m) b d f;unfold Mx.g at h g;rw[h,g];grind
def QK(a:b≠0):iP t b=(Rat.divInt t b).num/\dF t b=(((Rat.divInt t b).den:Nat):Int):=by
 let h:=jh (t:=t) a;unfold iK zA at h;injection h with h;injection h with h1 h;injection h with h2 _;injection h1 with h1;injection h2 with h2;show⟨h1,h2⟩
def NI(e:u=1\/u= -1)(h:0<c)(i:0<b):iK (u*c*t) (c*b)= .tup [.int (u*iP t b),.int (dF t b)]:=by
 let d:b≠0:=by lia
 let a:c≠0:=by lia
 obtain⟨g,f⟩:=QK (t:=t) d;rw[jh (YO a d),g,f];rcases e with rfl|rfl
 . rw[Yg,Yg,Rat.divInt_mul_left a]
 . rw[show-1*c*t=c*(-t) by grind,Rat.divInt_mul_left a,<-Rat.neg_divInt];unfold zA;rw[Rat.neg_num,Rat.neg_den,Int.neg_one_mul]
def JU(n:0<d)(k:0<x)(l:0<m)(f:c=m*m):iP (c*x*a) (x*d)*dF a d=iP a d*m*m*dF (c*x*a) (x*d):=by
 let e:x*d≠0:=YO (by lia) (by lia);let h:=(pH (t:=c*x*a) e).1;let g:=(pH (t:=a) (b:=d) (by lia)).1;generalize iP (c*x*a) (x*d)=p at*;generalize dF (c*x*a) (x*d)=q at*;generalize iP a d=r at*;generalize dF a d=s at*;subst f;show Zx e ?_;let j:x*d*(p*s)=(p*(x*d))*s:=by grind
 let i:x*d*(r*m*m*q)=(r*d)*(x*m*m*q):=by grind
 rw[j,i,h,g];grind
def EO{α:Type}{f:α->D}{xs:List α}{lo hi:Option Int}:∃ys:List α,(∀y∈ys,y∈xs)/\ys.length<=xs.length/\L3.cutD (xs.map f) lo hi=ys.map f:=by
 show⟨(xs.drop (HT.bY (xs.map f).length 0 lo)).take (HT.bY (xs.map f).length (xs.map f).length hi-HT.bY (xs.map f).length 0 lo),λy a=>List.mem_of_mem_drop (aai a),?_,?_⟩
 . rw[Yu,aac];lia
 . unfold L3.cutD;rw[ZN,List.map_drop]
def zD:∀A:List (List Int),oR (A.map cm)=some (A.map aq)
 | []=>rfl
 |x::l=>by rw[XH,XH];unfold oR;rw[zD l];rfl
def Be:∀ {l:List (List Int)},(∀x∈l,x.length=w)->l.flatten.length=l.length*w
 | [],_=>by simp
 |x::l,h=>by
  let:=Be (l:=l) λy a=>h y (Xg _ a);let b:=h x Xk;rw[XE,X8,this,Xw,aaj,b];lia
def Ji(A:List (List Int)):A.map cm=(List.range A.length).map λk=>cm (A.getD k []):=by
 show aaf (by simp) λi a b=>?_;rw[Xx,Xx,XG,Mx.aJ (by simpa using a)]
def Mf{a b:Nat->Int}(l:List Nat):pl (n+2) (.tup (l.map λj=>D.tup [.int (a j),.int (b j)]))=true:=by
 unfold pl;show XA.mpr λd c=>?_;obtain⟨j,_,rfl⟩:=XB.mp c;cases n<;>(unfold pl;simp[pl])
def Q3:pl 40 (.tup (RG G N us))=true:=by
 unfold pl;show XA.mpr λd a=>?_;obtain⟨i,_,rfl⟩:=XB.mp a;show Mf (n:=37) (List.range i)
def UR{G e:Mx.Fn}{us:List Int}(S:Mx.u9 G e N (λi=>us.getD i 0) c)(a:Eu us)(m:us.length=N)(d:∀k,k<=N->Mx.D k G≠0)(f:∀k,k<=N->0<Mx.D k G):CC e N=RG G N us:=by
 show Xz λi b=>?_;rw[XI]at b;congr 1;show Xz λj g=>?_;rw[XI]at g;rw[S.lam d b (by lia),S.D d (by lia)];show NI ?_ (aal S.c0) (f _ (by lia));let l:=a.at (i:=i) (by lia);let h:=a.at (i:=j) (by lia);rcases l with z|z<;>rcases h with y|y<;>rw[z,y]<;>decide
def JF{t b:Int}(a:b≠0)(d:t.natAbs<=2^n)(c:b.natAbs<=2^n):(iP t b).natAbs<=2^n/\(dF t b).natAbs<=2^n:=⟨WZ (pH a).2.1 d,WZ (pH a).2.2 c⟩
def Um{t m:Int}(h:t.natAbs<=2^n)(c:0<m)(b:m<=9):(t*m*m).natAbs<=2^(n+8):=by
 rw[Xo,Xo,YJ];let a:m.natAbs<=16:=by lia
 let d:=XM (XM h a) a;lia
def QS:DS:=(av (aM 4 (ai aN (ay nv (ab (aa 3) ag)) (dC (.int 0))))
 (av (aM 5 (ay m5 (ab (bz dB (ab (aa 4) ag)) ag)))
 (av (cS (mN (a_ (ai iW (ay g_ (ab (aa 4) ag)) (dC (.bl true)))) (a_ (ai iW (ay jS (ab (aa 4) (ab (jb (ab (aa 4) (ab (aa 5) (ab (aa 5) ag)))) ag))) (dC (.bl true))))) (a6 (dC (.bl false))) cA)
 (av (aM 6 (ai cE (dC (.int 1)) (ay cG (ab (aa 2) (ab (dC (.int 9)) ag)))))
 (av (aM 7 (cp (dy (aa 4)) [none,some 2] (bf 0) bI (ai df (dC (.int 1)) (ai bo (dC (.int 2)) (ay cG (ab (aa 1) (ab (dC (.int 2)) ag)))))))
 (av (aM 8 (bz cN (ab (cp (kc (ab (aa 7) (ab (aa 4) ag))) [none,none,some 6] (dN 0 1) bI (bz cN (ab (cp (dy (aa 1)) [none,some 0,some 2] (bf 0) bI (ai bo (ai bo (aa 1) (aa 2)) (aa 0))) ag))) ag)))
 (av (cS (a_ (ai sF (bz tS (ab (cp (dy (bz uu (ab (aa 8) (ab (jb ag) ag)))) [none] (bf 0) bI (bz mF (ab (aa 0) ag))) ag)) (ai qg (dC (.int 10)) (dC (.int 12))))) tM cA)
 (av (xX (dN 9 10) (ay j6 (ab (aa 4) ag)))
 (av (xX (dN 11 12) (ay oH (ab (aa 9) (ab (aa 10) (ab (aa 7) (ab (aa 6) ag))))))
 (av (aM 13 (ay j6 (ab (aa 8) ag)))
 (av (cS (mN (a_ (ai ve (ai aN (aa 13) (dC (.int 1))) (aa 12))) (a_ (ai pM (bz dB (ab (ai aN (aa 13) (dC (.int 0))) ag)) (bz dB (ab (aa 11) ag))))) (a6 (dC (.bl false))) cA)
 (av (cS (gp (a_ (bz pj (ab (cp (kc (ab (ai aN (aa 13) (dC (.int 0))) (ab (aa 11) ag))) [none,none] (dN 0 1) bI (ai gN (ai bo (ai aN (aa 0) (dC (.int 0))) (ai aN (aa 1) (dC (.int 1)))) (ai bo (ai aN (aa 1) (dC (.int 0))) (ai aN (aa 0) (dC (.int 1)))))) ag)))) (a6 (dC (.bl false))) cA)
 (av (aM 14 (ai aN (ay nv (ab (aa 8) ag)) (dC (.int 0))))
 (av (cS (mN (a_ (ai iW (ay g_ (ab (aa 8) ag)) (dC (.bl true)))) (gp (a_ (ay eH (ab (aa 14) (ab (gq (aa 8) (hZ (iU ff (dC (.int 2)))) fH) ag)))))) (a6 (dC (.bl false))) cA)
 (cS (gp (a_ (ay eH (ab (aa 8) (ab (gq (aa 14) (hZ (iU ff (dC (.int 2)))) fH) ag))))) (a6 (dC (.bl false))) cA)))))))))))))))
def HA{m x:Int}{N k e:Nat}(n:0<m)(l:m<=9)(d:0<x)(h:x<=2^e)(f:81^N<=2^k):(m*m)^N*x<=2^(k+e):=by
 obtain⟨c,g⟩:∃c:Nat,m=(c:Int):=⟨m.toNat,by lia⟩
 let a:c*c<=9*9:=XM (by lia) (by lia);let j:(m*m)^N=(((c*c)^N:Nat):Int):=by rw[g,Yt,Zc]
 let i:(c*c)^N<=2^k:=WZ (Nat.pow_le_pow_left a N) f;let b:((2^k:Nat):Int)=2^k:=Yt 2 _;rw[j,ZA];show YV (by rw[<-b];show aaa.mpr i) h (Yn d) (by rw[<-b];show aav _)
def Sg(ns:List Int)(σ:bX):Prop:=∃n m l k j i h g f e d c b a:Option D,σ=[some (.lst (ns.map .int)),n,m,l,k,j,i,h,g,f,e,d,c,b,a]
def K4{E:jl}{ns:List Int}(Q:Dr A N w)(hD:∀k,k<=N->Mx.D k (Mx.ae A)≠0)(t4:U[0]?=some (f6 f1))(L4:Lf U n)(nz:n≠0)(I:∀σ C,(∃f,C[0]?=some (f6 f))->Sg ns σ->E.nx σ C/\E.ct σ C):
 QS E [some (.lst (ns.map .int)),some (.int q),some (.ref n),some (cy A),v4,v5,v6,v7,v8,v9,bq,bp,bl,a5,a4] U:=by
 let L:=Q.le;let S:=Q.w8;let n1:=Q.n1;show⟨_,A,N,w,rfl,fh,Q.st,Q.wd,hD,λct l U5 C5 X5 T5 ah K=>aA rfl rfl ?_⟩;let a:∀k,k<=N->Mx.D k (Mx.ae l)≠0:=λk I=>by let:=(ah.D k I).1;lia
 let Y:∀k,k<=N->0<Mx.D k (Mx.ae l):=λk I=>by let:=(ah.D k I).1;lia
 obtain⟨H,bM⟩:=Oz Q T5 a K;let B:=T5.isA;let l5:=B.len
 let w1:1<=w:=by
  show Nat.one_le_iff_ne_zero.mpr λz=>a 1 (by lia) ?_;subst z
  let e:Mx.D 1 (Mx.ae l)=Mx.ae l 0 0:=by
   rw[<-Mx.cH];show Mx.iG _ _ _
  rw[e,Mx.fv B (by lia) (by lia)];rfl
 let eD:Mx.D N (Mx.ae l)=Mx.D N (Mx.ae A):=T5.same Q.is;show cP rfl ?_;rw[W2,l5];show⟨N,rfl,by lia,?_⟩;show⟨l,N,w,_,rfl,fh,H,a,λ_ cq X6=>FG rfl ?_,λz=>absurd K z⟩
 let bU:∀r∈Mx.units N,∀x∈r,x.natAbs<=2^400000:=λr v x u=>by
  obtain⟨i,c,hi,hc,rfl⟩:=FV (Mx.fW N) v u;rw[Mx.i7 hi hc];unfold Mx.dl;split
  . show Zk
  . show Xq _
 show⟨Xb rfl,l,l,Mx.units N,Mx.units N,N,w,rfl,B,Mx.fW N,Mx.fW N,n1,L,S,Mx.uV (Mx.fW N),Mx.uV B,bU,bU,λr v x u=>WZ (bM r v x u) (Xd (by decide) (by decide)),H,a,K,λbx X7=>FG rfl ?_⟩;let X47:=(X5.trans X6).trans X7;let t7:=(X47.same 0 (WV.mp t4).1).trans t4
 let L7:Lf bx n:=by
  obtain⟨x,e,h⟩:=L4.ex;show⟨x,(X47.same n (WV.mp e).1).trans e,h⟩
 clear X47 X5 X6 X7 t4 L4 bU;show⟨n,9,rfl,L7,by decide,by decide,λd bw d0 d9 L8 U8=>cW ?_⟩;let t8:=(U8.same 0 (W4 nz)).trans t7;obtain⟨m,rfl,W,m9⟩:∃m:Int,m=1+d/\0<m/\m<=9:=⟨1+d,rfl,by lia,by lia⟩
 generalize 1+d=m at W m9⊢;clear t7 L7 U8 d0 d9;show fj ⟨cx (by rw[W2];lia),?_⟩;show gD (λrest Z C=>∃o:List Int,Z=aq o/\o.length+rest.length=N/\Eu o/\Lf C n/\Upd bw n C) ?_ ?_ _ _ _ ⟨[],rfl,(by rw[W2];simpa using l5),(λx u=>by cases u),L8,Upd.refl⟩;rotate_left 1
 . rintro d2 bP Z ck ⟨o,rfl,s,F,b4,U''⟩ V;show⟨trivial,_,rfl,⟨n,2,rfl,b4,by decide,by decide,λy cI y0 y2 L3 U3=>bC (fJ (by decide) (by decide)) (cM ?_)⟩⟩;change dc _ _ _ _ _ _ _ _ _;rw[ints_app];show V _ _ ⟨o++[1-2*y],rfl,by simp at s⊢;lia,λx u=>?_,L3,U''.trans U3⟩;rcases XY.mp u with z|z
   . show F x z
   . rw[ZS.mp z];lia
 rintro Z cn ⟨o,rfl,s,F,L9,U9⟩;show⟨trivial,?_⟩;let t9:=(U9.same 0 (W4 nz)).trans t8;let s:o.length=N:=by simpa using s
 clear t8 L8 L9 U9;show jG rfl rfl λok aI=>⟨cx (by rw[jd];simp;lia),?_⟩
 let ez:eJ (aq o) (l.map cm)=(List.range N).map λi=> .tup [.int (o.getD i 0),cm (l.getD i [])]:=by
  rw[rk,Ji,s,l5,om (WX _)]
 rw[ez];show fG (h:=λi=>cm (tx o m l i)) (aI _ rfl rfl) (λi hi K' t=>⟨_,rfl,fj ⟨cx (by let:=Mx.ba B hi;rw[W2];lia),?_⟩⟩) ?_
 . have P:=F.at (i:=i) (by lia);show comp_map (g:=λd=>match d with| .int x=> .int (o.getD i 0*m*x)|_=> .aD) trivial _ (λd hd K2 t2=>?_) ?_
   . obtain⟨x,_,rfl⟩:=XB.mp hd;show⟨_,rfl,bC (nA (by lia) (by lia)) (bC (fJ ?_ ?_) t2)⟩
     . rcases P with z|z<;>rw[z]<;>lia
     . rcases P with z|z<;>rw[z]<;>lia
   . show cJ rfl ?_
     let:(aq (l.getD i [])).map (λd=>match d with| .int x=>D.int (o.getD i 0*m*x)|_=> .aD)=aq (tx o m l i):=by
      unfold aq tx;rw[Xy,Xy];rfl
     rw[this];show t
 show cJ rfl ?_
 let eO:(List.range N).map (λi=>cm (tx o m l i))=(oo o m l N).map cm:=by
  unfold oo;rw[Xy];rfl
 rw[eO];let J:Mx.aX N w (oo o m l N):=G8 B;let j:=NC B F s W;generalize oo o m l N=O at J j⊢;let ef:(O.map aq).flatten=aq O.flatten:=by unfold aq;rw[List.map_flatten]
 let lf:O.flatten.length=N*w:=by rw[Be J.fZ,J.len]
 let lN:N*w<=64:=by let:=XM L S;lia
 show⟨Xb rfl,OQ (zD O) (by rw[ef,Yl];unfold aq;rw[W2,lf];lia) ?_⟩;rw[ef];show fj ⟨cx (by rw[W2,lf];lia),?_⟩;show comp_map (g:=λd=>match d with| .int x=> .int ((x.natAbs:Nat):Int)|_=> .aD) trivial _ (λd hd K2 t2=>?_) ?_
 . obtain⟨x,_,rfl⟩:=XB.mp hd;show⟨_,rfl,nR t2⟩
 let eg:(aq O.flatten).map (λd=>match d with| .int x=>D.int ((x.natAbs:Nat):Int)|_=> .aD)=(O.flatten.map λx=>((x.natAbs:Nat):Int)).map D.int:=by
  unfold aq;rw[Xy,Xy];rfl
 rw[eg];show OV (ints_map _) (λz=>?_) λmx _ aD=>wI ⟨by decide,by decide,by decide⟩ ?_
 . have P:=Ye List.length z;rw[W2,lf]at P;let h2:1*1<=N*w:=XM n1 w1;rw[P]at h2;show absurd h2 (by decide)
 show U0 (λ_=>eN (I _ _ ⟨_,t9⟩ ⟨_,_,_,_,_,_,_,_,_,_,_,_,_,_,rfl⟩).2) λau=>?_
 let bO:∀r∈O,∀x∈r,x.natAbs<=1000000000000:=λr v x u=>by
  let P:=aD _ (XB.mpr ⟨x,List.mem_flatten.mpr ⟨r,v,u⟩,rfl⟩);let b3:(10:Int)^(12:Int).toNat=1000000000000:=by decide
  rw[b3]at au;lia
 clear ef lf eg aD au eO ez
 let G:St O N w:=by
  show AD (E:=90) J L S (by decide) (λi hi=>?_) (by lia) (by lia);let mem:O.getD i []∈O:=by let:=J.len;rw[Mx.aJ (by lia)];show XX _
  let P:=tN (bO _ mem) (bO _ mem);let h2:=J.fZ _ mem;rw[h2]at P;let h3:=WZ P (XW _ S);unfold Mx.ae;let h4:(8*(1000000000000*1000000000000):Int)<=2^90:=by decide
  lia
 let M:∀k,k<=N->Mx.D k (Mx.ae O)≠0:=λk I=>by
  rw[j.D a I];show YO (Int.pow_ne_zero (by let:=j.c0;lia)) (a k I)
 let bB:=j.sh a K;show⟨l,N,w,_,rfl,fh,H,a,λcj X10=>⟨_,rfl,?_⟩⟩;show⟨Mx.ae l,N,o,m,rfl,s,L,W,m9,F,λcg a3=>⟨_,rfl,?_⟩⟩;show⟨O,N,w,_,rfl,fh,G,M,λcc a0=>?_⟩;show aA rfl rfl ?_;rw[UR j F s a Y];show Ls Q3 ?_;show aA rfl rfl (cP rfl (cP rfl (QA (by simp) ?_)));show aA rfl rfl (jG rfl rfl λc0 ar=>⟨cx (by rw[jd];simp;lia),?_⟩);rw[om (WX _)];show fG (h:=λ_=> .bl true) (ar _ rfl rfl) (λi hi K' t=>⟨_,rfl,?_⟩) ?_
 . obtain⟨x1,x2⟩:=JF (M i (by lia)) (G.gm.D (p:=i+1) (by lia)) (G.gm.D (p:=i) (by lia));obtain⟨y1,y2⟩:=JF (a i (by lia)) (H.gm.D (p:=i+1) (by lia)) (H.gm.D (p:=i) (by lia));show aA rfl rfl (aA rfl rfl (bC (gc x1 y2 (by decide)) (aA rfl rfl (aA rfl rfl (bC (gc (Um y1 W m9) x2 (by decide)) (eqT ?_ t))))));rw[j.D a (k:=i+1) (by lia),j.D a (k:=i) (by lia),ZH,Yz ((m*m)^i) (m*m)];show JU (Y i (by lia)) (aal j.c0) W rfl
 show tw (lX (f:=λ_=>true) N) ?_;rw[show((List.range N).map λ_=>true).all id=true by simp];let X912:=(X10.trans a3).trans a0;let T:=(X912.same 0 (WV.mp t9).1).trans t9;clear X912 X10 a3 a0 t9;show⟨_,O,N,w,rfl,fh,G,by lia,M,λb9 A8 U8 C8 X13 T8 bA bF=>aA rfl rfl ?_⟩;show⟨O,N,w,_,rfl,fh,G,M,λ_ b7 aS=>FG rfl ?_,λz=>absurd bB z⟩;let X1214:=X13.trans aS;let bu:=(X1214.same 0 (WV.mp T).1).trans T;clear X1214 X13 aS T;let bZ:∀k,k<=N->Mx.D k (Mx.ae A8)≠0:=λk I=>by let:=(bA.D k I).1;lia
 let e8:Mx.D N (Mx.ae A8)=Mx.D N (Mx.ae O):=T8.same J
 obtain⟨e,bT,he⟩:∃e,Mx.D N (Mx.ae O)<=2^e/\N+2+e<=176:=by
  let eO:=j.D a (WX N);let hp:=Y N (WX N);rw[eD]at eO hp;rcases Rw Q with⟨n,_⟩|⟨n,h⟩|h
  . show⟨172,GH (b:=1000000000000) J L S bO (WZ (D7 (by decide) n) (by decide)),by omega⟩
  . show⟨26+104,by rw[eO];show HA W m9 hp h (WZ (D7 (by decide) n) (by decide)),by omega⟩
  . show⟨51+80,by rw[eO];show HA W m9 hp h (WZ (D7 (by decide) L) (by decide)),by omega⟩
 let b8:=Af T8.isA L bZ bF (by rw[e8];show bT) he;let ao:=OO T8;let lO:=J.len;let l8:=T8.isA.len;show dY (sr ?_);obtain⟨R,hR,lR,eR⟩:=EO (f:=cm) (xs:=O) (lo:=some (-2)) (hi:=none);rw[eR];show⟨A8,R,N,w,f1,rfl,T8.isA,n1,L,S,b8,by lia,λr v=>⟨J.fZ r (hR r v),λx u=>WZ (bO r (hR r v) x u) (WZ (show 1000000000000<=2^40 by decide) (Xd (by decide) (by decide))),Mx.dW.trans ao.to (EI lO (hR r v))⟩,bu,λb6 B15=>?_⟩;obtain⟨b1,br⟩:=B15.tb;show dY (sr ?_);obtain⟨R2,X,c1,b2⟩:=EO (f:=cm) (xs:=A8) (lo:=some (-2)) (hi:=none);rw[b2];show⟨O,R2,N,w,b1,rfl,J,n1,L,S,λr v x u=>WZ (bO r v x u) (by decide),by lia,λr v=>⟨T8.isA.fZ r (X r v),λx u=>WZ (b8 r (X r v) x u) (Xd (by decide) (by decide)),Mx.dW.trans ao.symm.to (EI l8 (X r v))⟩,br,λb5 B16=>?_⟩;show(I _ _ B16.tb ⟨_,_,_,_,_,_,_,_,_,_,_,_,_,_,rfl⟩).1
def Q4:WS Mt 1 SV Nt:=by
 rintro ds st K ⟨C,rfl,hl,z,k⟩;show⟨rfl,?_⟩;let t0:st[0]?=some (f6 false):=by rw[z];rfl
 clear z;show Ij (cP rfl (cW ?_));let hc:=N_ (xs:=C.map D.int) (a:=1) (b:=3);rw[W2]at hc;generalize(L3.cutD (C.map D.int) (some 1) (some 3)).length=m at hc⊢;show tW ⟨by lia,by lia,by lia,by lia⟩ ?_
 let hm:∀d∈cQ 1 (2+(m:Int)-1).toNat,∃q:Int,d= .int q/\0<=q/\q<=1000:=λd E=>by
  unfold cQ at E;obtain⟨i,hi,rfl⟩:=XB.mp E;rw[XI]at hi;show⟨_,rfl,by lia,by lia⟩
 generalize cQ 1 (2+(m:Int)-1).toNat=rs at hm⊢;show fg (λrest σ t=>(∀d∈rest,∃q:Int,d= .int q/\0<=q/\q<=1000)/\(∃f,t[0]?=some (f6 f))/\∃Q P O M L J I H G s r p o l:Option D,σ=[some (.lst (C.map .int)),Q,P,O,M,L,J,I,H,G,s,r,p,o,l]) ?_ ?_ _ _ _ ⟨hm,⟨_,t0⟩,none,none,none,none,none,none,none,none,none,none,none,none,none,none,rfl⟩
 . rintro σ t ⟨_,_,Q,P,O,M,L,J,I,H,G,s,r,p,o,l,rfl⟩;show⟨trivial,k _⟩
 . rintro x rest σ c ⟨hr,⟨V,S⟩,Q,P,O,M,L,J,I,H,G,s,r,p,o,l,rfl⟩ next
   obtain⟨q,rfl,q0,q1⟩:=hr x Xk;let j:∀d∈rest,∃q:Int,d= .int q/\0<=q/\q<=1000:=λd E=>hr d (Xg _ E);show⟨trivial,_,rfl,?_⟩;show⟨C,q,rfl,q0,q1,λx hx=>?_⟩;let F:Lf (c++[.lst [.int x]]) c.length:=⟨x,by simp,hx⟩
   let Y:=(WV.mp S).1;let R:(c++[Cell.lst [.int x]])[0]?=some (f6 V):=by rw[W3 Y];show S
   let U:c.length≠0:=by lia
   generalize c.length=n at F U⊢;generalize c++[Cell.lst [.int x]]=st2 at F R⊢;clear S Y;show⟨n,rfl,F,λA N w ah u L3 U3=>?_⟩;let v:=(U3.same 0 (W4 U)).trans R;clear R F U3;let ao:=u.is.len;let h8:=u.le;let w8:=u.w8;let n1:=u.n1;show⟨A,N,w,rfl,u.st.Wx,λy B _=>?_,λy g kn cs B hD T=>?_⟩
   . show Jx rfl ?_;show next _ _ ⟨j,⟨V,(B.same 0 (WV.mp v).1).trans v⟩,_,_,_,_,_,_,_,_,_,_,_,_,_,_,rfl⟩
   show Jx rfl ?_;let X:=(B.same 0 (WV.mp v).1).trans v
   let L4:Lf y n:=by
    obtain⟨x,e,h⟩:=L3.ex;show⟨x,(B.same n (WV.mp e).1).trans e,h⟩
   clear v L3 B T;show cP rfl (Qy (λ_=>eN (Qy (λ_=>eN (next _ _ ⟨j,⟨V,X⟩,_,_,_,_,_,_,_,_,_,_,_,_,_,_,rfl⟩)) λ_=>?_)) λ_=>?_);all_goals show K4 u hD X L4 U λσ t W Z=>⟨next _ _ ⟨j,W,Z⟩,next _ _ ⟨j,W,Z⟩⟩
end Prog
namespace Row
open PySem L2 L3 Prog
open PySem.Spec hiding items?
open PyProof.Rows hiding St
def xo:(("int":Str))≠"__name__":=by decide+kernel
def qR:(("isinstance":Str))≠"__name__":=by decide+kernel
def EX:(("bool":Str))≠"__name__":=by decide+kernel
def ly:(("tuple":Str))≠"__name__":=by decide+kernel
def jg:(("list":Str))≠"__name__":=by decide+kernel
def fe:(("len":Str))≠"__name__":=by decide+kernel
def A3:(("all":Str))≠"__name__":=by decide+kernel
def wz:(("abs":Str))≠"__name__":=by decide+kernel
def Ci:(("sum":Str))≠"__name__":=by decide+kernel
def IP:(("any":Str))≠"__name__":=by decide+kernel
def wy:(("max":Str))≠"__name__":=by decide+kernel
structure Bl(mg:Str->Option Value):Prop where
 As:mg "int"=none
 tD:mg "isinstance"=none
 Ih:mg "bool"=none
 ny:mg "tuple"=none
 kJ:mg "list"=none
 gu:mg "len"=none
 Gb:mg "all"=none
 Ax:mg "abs"=none
 wo:mg "zip"=none
 g5:mg "range"=none
 Gg:mg "sum"=none
 va:mg "enumerate"=none
 LY:mg "sorted"=none
 MP:mg "any"=none
 AI:mg "max"=none
structure Kl(K:PySem.W.Frag)(mg:Str->Option Value):Prop where
 aS:ClsAt K mg "Bench" aC
 bp:ClsAt K mg "Stairs" aO
 bZ:fB K aC "body"
 dH:fB K aC "turn"
 cn:fB K aC "back_columns"
 jn:fB K aO "bench"
 bT:fB K aO "table"
def DM:VF o6 uZ ["thing"] ["int","isinstance","bool"]:= .of (by decide+kernel)
def Dg:VF oV uW ["thing"] ["tuple","list","isinstance"]:= .of (by decide+kernel)
def xQ:VF lD pZ ["thing","many"] ["is_listed","len"]:= .of (by decide+kernel)
def zT:VF mD qS ["thing","many"] ["is_listed_of","all"]:= .of (by decide+kernel)
def KR:VF vG C1 ["one","other"] ["abs"]:= .of (by decide+kernel)
def RX:VF Bu JH ["top","bottom"] ["common"]:= .of (by decide+kernel)
def OU:VF yI Et ["one","other"] ["part"]:= .of (by decide+kernel)
def Oe:VF yw Ej ["one","other"] ["part"]:= .of (by decide+kernel)
def Kq:VF vM BD ["one","other"] []:= .of (by decide+kernel)
def Je:VF sd yO ["rows"] ["tuple"]:= .of (by decide+kernel)
def Ph:VF xT D6 ["row","times","other"] ["zip"]:= .of (by decide+kernel)
def KH:VF vk C4 ["weights","rows","wide"] ["zip","added","tuple"]:= .of (by decide+kernel)
def HI:VF rP yQ ["one","other"] ["len","tuple"]:= .of (by decide+kernel)
def Mg:VF vD AO ["rows","place"] ["tuple"]:= .of (by decide+kernel)
def zX:VF mQ qQ ["rows","wide"] ["range","tuple"]:= .of (by decide+kernel)
def FE:VF qE wV ["n","place"] ["range","tuple"]:= .of (by decide+kernel)
def DN:VF pe uS ["n"] ["range","tuple"]:= .of (by decide+kernel)
def Tj:VF FT Nr ["one","other"] ["zip","sum"]:= .of (by decide+kernel)
def JJ:VF rL yK ["thing","many","wide"] ["is_listed","len","all"]:= .of (by decide+kernel)
def GG:VF qJ xg ["turn","back"] ["is_listed","len","is_rows","product","unit_rows"]:= .of (by decide+kernel)
def Bc:VF nY rJ ["turn","back","many"] ["is_rows","are_back"]:= .of (by decide+kernel)
def B_:VF nJ su ["rows","made","turn","back"] ["len","is_rows","is_turn_of","as_rows","product"]:= .of (by decide+kernel)
def cF:VF sJ zt ["together","table","one","other"] ["zip"]:= .of (by decide+kernel)
def HM:VF rQ y6 ["table","steps","row"] ["zip","dot","cleared"]:= .of (by decide+kernel)
def Gi:VF qy xG ["steps"] ["line_of"]:= .of (by decide+kernel)
def BJ:VF og sQ ["table"] ["zip","tuple"]:= .of (by decide+kernel)
def DG:VF ph uR ["table","line"] ["zip","tuple"]:= .of (by decide+kernel)
def K9:VF vP CS ["steps"] ["table_of","tuple","squares_in"]:= .of (by decide+kernel)
def Jg:VF tI zK ["row"] ["enumerate"]:= .of (by decide+kernel)
def dQ:VF iX mf ["top","bottom"] []:= .of (by decide+kernel)
def Dp:VF pv uU ["rows","k","other"] ["list"]:= .of (by decide+kernel)
def HF:VF rN zh ["row"] []:= .of (by decide+kernel)
def bG:VF du j5 ["self","rows"] ["len","unit_rows"]:= .of (by decide+kernel)
def a7:VF je ow ["self","k","times","other"] ["added"]:= .of (by decide+kernel)
def bc:VF fV j9 ["self","k","other"] ["exchanged"]:= .of (by decide+kernel)
def aT:VF eG iO ["self","k"] ["negated"]:= .of (by decide+kernel)
def cC:VF dE jB ["self","top","place"] ["len","range","sorted"]:= .of (by decide+kernel)
def az:VF gX lH ["self","top","place"] ["len","nearest_quotient"]:= .of (by decide+kernel)
def bh:VF eh iI ["self","top","place"] ["range"]:= .of (by decide+kernel)
def aU:VF qm wJ ["rows"] ["Bench","len","range","turned_over","as_rows"]:= .of (by decide+kernel)
def ID:VF tK ze ["form","row"] ["list","lead_of","added","tuple"]:= .of (by decide+kernel)
def uH:VF jE mT ["share"] ["abs"]:= .of (by decide+kernel)
def xw:VF kQ oG ["square","share","ahead"] ["times","part","minus","before"]:= .of (by decide+kernel)
def Fw:VF qP w4 ["steps"] ["shares","all","len","range","any"]:= .of (by decide+kernel)
def cL:VF fx jx ["self","steps"] ["Bench","table_of"]:= .of (by decide+kernel)
def fU:VF fQ j_ ["self","k"] []:= .of (by decide+kernel)
def aP:VF gf kO ["self","k","j"] ["nearest_quotient","range"]:= .of (by decide+kernel)
def bb:VF fA jz ["self","k"] []:= .of (by decide+kernel)
def aj:VF iu mJ ["self","k"] ["len","range"]:= .of (by decide+kernel)
def aL:VF fP j0 ["self"] ["len","max","range"]:= .of (by decide+kernel)
def cR:VF yc ES ["steps"] ["Stairs","len","turned_over","as_rows"]:= .of (by decide+kernel)
def zW:VF mI qY ["steps","told"] ["is_listed_of","are_turned","is_short"]:= .of (by decide+kernel)
def K8:VF vR Bv ["rows","row"] ["standing","weighed","lead_of","len","sum_by"]:= .of (by decide+kernel)
def Lb:VF vt B4 ["_law_script","_law_k"] ["len"]:= .of (by decide+kernel)
def FY:VF qO xk ["_law_script","_law_k"] ["_law_at","abs","range"]:= .of (by decide+kernel)
def DC:VF pd uX ["_law_left_here","_law_many"] []:= .of (by decide+kernel)
def A9:VF nX rB ["_law_left_here","_law_kind"] ["_law_digit"]:= .of (by decide+kernel)
def Fb:VF qD wO ["_law_left_here","_law_many","_law_wide","_law_kind"] ["range","tuple"]:= .of (by decide+kernel)
def DQ:VF oZ uQ ["_law_left_here"] ["_law_digit","max","_law_rows"]:= .of (by decide+kernel)
def HY:VF sX zG ["_law_one","_law_other"] ["zip","sum"]:= .of (by decide+kernel)
def IE:VF rD zd ["_law_steps"] ["len","range","_law_dot"]:= .of (by decide+kernel)
def Gf:VF qr wW ["_law_n"] ["range","tuple"]:= .of (by decide+kernel)
def wa:VF j8 ou ["_law_rows_here","_law_others"] ["all"]:= .of (by decide+kernel)
def Jr:VF sS yP ["_law_squares","_law_known","_law_signs","_law_many"] ["zip","tuple"]:= .of (by decide+kernel)
def aE:VF mW Nt ["_law_script"] ["len","range","_law_left","_law_drawn","_law_own","short","_law_unit","is_short","shows_short","_law_digit","zip","tuple","sum","max","shares","_law_due","all","_law_all_inside"]:= .of (by decide+kernel)
structure Ev(w:World)(mg:Str->Option Value)(h:Heap):Prop where
 X:(KX w.params).In h
 G:h.Ns mainGlobals mg
section
variable {w:World}{mg:Str->Option Value}{h:Heap}(base:Heap)(e:Ev w mg h)
include e
set_option hygiene false
local macro_rules| `(tactic|nofun)=> `(tactic|repeat' first
 |(change JA _ _ _;first|show aF|show ak ?_ ?_)
 |(change JE (cB _ _ _ _ _ _ _) _ _;first|show jJ|show aZ|show bS ?_ ?_|first|show bV c1.1 c1.2 (hr.mono (by decide)) ?_ (by decide+kernel) rfl|show bV c2.1 c2.2 (hr.mono (by decide)) ?_ (by decide+kernel) rfl|show bV c3.1 c3.2 (hr.mono (by decide)) ?_ (by decide+kernel) rfl|show bV c4.1 c4.2 (hr.mono (by decide)) ?_ (by decide+kernel) rfl|show bV c5.1 c5.2 (hr.mono (by decide)) ?_ (by decide+kernel) rfl|show bV c6.1 c6.2 (hr.mono (by decide)) ?_ (by decide+kernel) rfl|show bV c7.1 c7.2 (hr.mono (by decide)) ?_ (by decide+kernel) rfl|show bV c8.1 c8.2 (hr.mono (by decide)) ?_ (by decide+kernel) rfl|show bV c9.1 c9.2 (hr.mono (by decide)) ?_ (by decide+kernel) rfl|show bV c10.1 c10.2 (hr.mono (by decide)) ?_ (by decide+kernel) rfl|show bV c11.1 c11.2 (hr.mono (by decide)) ?_ (by decide+kernel) rfl|show lE Mp ?_ B.As rfl xo (by decide+kernel) rfl|show dm Mu ?_ B.tD rfl qR (by decide+kernel) rfl|show lE tY ?_ B.ny rfl ly (by decide+kernel) rfl|show lE r_ ?_ B.kJ rfl jg (by decide+kernel) rfl|show lE EL ?_ B.kJ rfl jg (by decide+kernel) rfl|show dm gn ?_ B.gu rfl fe (by decide+kernel) rfl|show dm (Ft rfl) ?_ B.Gb rfl A3 (by decide+kernel) rfl|show dm Aq ?_ B.Ax rfl wz (by decide+kernel) rfl|show dm (ML rfl) ?_ B.Gg rfl Ci (by decide+kernel) rfl|show dm (Nh rfl) ?_ B.MP rfl IP (by decide+kernel) rfl|show dm (FC rfl) ?_ B.AI rfl wy (by decide+kernel) rfl|show yR ?_ ?_|show bK (by first|show jV|show pK|show MC|show d4|show GQ|show eY|show IL) ?_ ?_|show Aj (by first|show yq hr|show Bh|show pQ|show Lr|show yx|show Cb) (dv _) ?_ ?_|show tQ ?_|show wA ?_|show Nl ?_|show iE ?_ ?_ ?_|show jX ?_|show GI ?_ ?_ ?_|show MI ?_ ?_|show Si ?_ ?_|show Mq ?_|show Nf ?_|show lP|show F0|show MF|show OY (by decide+kernel) ?_ ?_ ?_ ?_ ?_|show rK B.As rfl xo (by decide+kernel) rfl|show rK B.Ih rfl EX (by decide+kernel) rfl|show rK B.ny rfl ly (by decide+kernel) rfl|show rK B.kJ rfl jg (by decide+kernel) rfl)
 |(change JE _ _ _;first|show v.nm _|show aZ|show bS ?_ ?_|first|show bV c1.1 c1.2 (hr.mono (by decide)) ?_ (by decide+kernel) v.gM|show bV c2.1 c2.2 (hr.mono (by decide)) ?_ (by decide+kernel) v.gM|show bV c3.1 c3.2 (hr.mono (by decide)) ?_ (by decide+kernel) v.gM|show bV c4.1 c4.2 (hr.mono (by decide)) ?_ (by decide+kernel) v.gM|show bV c5.1 c5.2 (hr.mono (by decide)) ?_ (by decide+kernel) v.gM|show bV c6.1 c6.2 (hr.mono (by decide)) ?_ (by decide+kernel) v.gM|show bV c7.1 c7.2 (hr.mono (by decide)) ?_ (by decide+kernel) v.gM|show bV c8.1 c8.2 (hr.mono (by decide)) ?_ (by decide+kernel) v.gM|show bV c9.1 c9.2 (hr.mono (by decide)) ?_ (by decide+kernel) v.gM|show bV c10.1 c10.2 (hr.mono (by decide)) ?_ (by decide+kernel) v.gM|show bV c11.1 c11.2 (hr.mono (by decide)) ?_ (by decide+kernel) v.gM|show lE Mp ?_ B.As rfl xo (by decide+kernel) v.gM|show dm Mu ?_ B.tD rfl qR (by decide+kernel) v.gM|show lE tY ?_ B.ny rfl ly (by decide+kernel) v.gM|show lE r_ ?_ B.kJ rfl jg (by decide+kernel) v.gM|show lE EL ?_ B.kJ rfl jg (by decide+kernel) v.gM|show dm gn ?_ B.gu rfl fe (by decide+kernel) v.gM|show dm (Ft rfl) ?_ B.Gb rfl A3 (by decide+kernel) v.gM|show dm Aq ?_ B.Ax rfl wz (by decide+kernel) v.gM|show dm (ML rfl) ?_ B.Gg rfl Ci (by decide+kernel) v.gM|show dm (Nh rfl) ?_ B.MP rfl IP (by decide+kernel) v.gM|show dm (FC rfl) ?_ B.AI rfl wy (by decide+kernel) v.gM|show yR ?_ ?_|show bK (by first|show jV|show pK|show MC|show d4|show GQ|show eY|show IL) ?_ ?_|show Aj (by first|show yq hr|show Bh|show pQ|show Lr|show yx|show Cb) (dv _) ?_ ?_|show tQ ?_|show wA ?_|show Nl ?_|show iE ?_ ?_ ?_|show jX ?_|show GI ?_ ?_ ?_|show MI ?_ ?_|show Si ?_ ?_|show Mq ?_|show Nf ?_|show lP|show F0|show MF|show N1 v (by decide+kernel) ?_ ?_ ?_ ?_ ?_|show rK B.As rfl xo (by decide+kernel) v.gM|show rK B.Ih rfl EX (by decide+kernel) v.gM|show rK B.ny rfl ly (by decide+kernel) v.gM|show rK B.kJ rfl jg (by decide+kernel) v.gM)
 |(change JB _ _ _;first|show aH ?_ ?_|show bE ?_|show gR)
 |(change JS _ _ _;first|show cw nd v.lM ?_|show iQ ?_ ?_ ?_|show fw ?_|show mq ?_ ?_ ?_|show vT ?_ ?_|show f_ ?_|show gB ?_ ?_ ?_|show Kw v nd v.lM (by decide+kernel) ?_ ?_ ?_ ?_ ?_|show Q0 nd (by decide) v.loc v.loc ?_|show Ny ?_|show Kj)
 |(change JT _ _ _;first|show fb (by first|show yq hr|show Bh|show pQ|show Lr|show yx|show Cb) (dv _) ?_ ?_|(change JT _ (.BoolOp _ _ _) _;show wK ?_)|show w_ ?_|show pF ?_)
 |(change JW _ _ _;first|show AH ?_ ?_|show wk ?_|show JR ?_ ?_|show EG ?_)
 |(change JI (cB _ _ _ _ _ _ _) _ _ _;first|show ot rfl B.g5 ?_|show Az rfl B.wo ?_|show IG rfl B.va ?_|show nG rfl B.g5 ?_|show oN ?_)
 |(change JI _ _ _ _;first|show ot v.gM B.g5 ?_|show Az v.gM B.wo ?_|show IG v.gM B.va ?_|show nG v.gM B.g5 ?_|show oN ?_)
 |(change JG (cB _ _ _ _ _ _ _) _ _;first|show UM|show SD)
 |(change JG _ _ _;first|show kb nd v.lM (by first|show .inr v.loc|show .inl rfl)|show uj rfl nd v.lM (by first|show .inr v.loc|show .inl rfl) v.lM (by first|show .inr v.loc|show .inl rfl))
 |(change JO _ _ _;first|show kv|show iH ?_)
 |(change JC _ _ _;show jr)
 |show i8
 |show yz
 |intro _ _ _ _)
def Fk(w:World)(mg:Str->Option Value)(base:Heap)(n:Str)(s:Stmt)(ps:List Str)(a:Addr)(m:Value)(c:Addr)(k:Nat)(S:bN):Prop:=m6 (KX w.params) mg n n s ps a (Hd.fd s n n m c)/\cY PW w (KX w.params) mg base fR k a (Hd.fd s n n m c) ps (gF S)
omit e in
theorem fk{N gl ps:List Str}{k:Nat}{S:bN}{base:Heap}(d:m6 (KX w.params) mg n n s ps a (Hd.fd s n n m c))(v:VF s N ps gl)(g:VS (bj s) N gl->N.Nodup->∀(cdv:Value) (A:Around) (outer:List Env) (z:Shared) (H:Hp) (E:XK),cK k (A.deeper (envOfC n (bj s) z.heap.objs.size a cdv))->JB (o9 fR PW w (KX w.params) mg base N n (bj s) a cdv A outer z H E).uO (fN s) t)(q:∀ds st K,S ds st K->ds.length=ps.length/\t {nx:=λ_ st2=>K .aD st2,rt:=K} (aK N ds) st):Fk w mg base n s ps a m c (k+1) S:=⟨d,js d.fn v.sc (g v.v v.sc.nd) q⟩
local macro_rules| `(tactic|ac_rfl)=> `(tactic|first|show Hd.WJ e.X e.G (by kernel_rfl) λ_ _ _ _ _ _ _=>rfl|show Hd.Wq e.X e.G (by kernel_rfl) λ_ _ _ _ _ _ _ _=>rfl|show Hd.Ws e.X e.G (by kernel_rfl) λ_ _ _ _ _ _ _ _ _=>rfl|show Hd.WL e.X e.G (by kernel_rfl) λ_ _ _ _ _ _ _ _ _ _=>rfl)
theorem Bt:Bl mg:=⟨XQ e.X e.G (by kernel_rfl),XQ e.X e.G (by kernel_rfl),XQ e.X e.G (by kernel_rfl),XQ e.X e.G (by kernel_rfl),XQ e.X e.G (by kernel_rfl),XQ e.X e.G (by kernel_rfl),XQ e.X e.G (by kernel_rfl),XQ e.X e.G (by kernel_rfl),XQ e.X e.G (by kernel_rfl),XQ e.X e.G (by kernel_rfl),XQ e.X e.G (by kernel_rfl),XQ e.X e.G (by kernel_rfl),XQ e.X e.G (by kernel_rfl),XQ e.X e.G (by kernel_rfl),XQ e.X e.G (by kernel_rfl)⟩
theorem Qt:Kl (KX w.params) mg:=⟨⟨⟨by kernel_rfl,by kernel_rfl,by kernel_rfl,by kernel_rfl⟩,ab5 e.X e.G (by kernel_rfl),by kernel_rfl,by kernel_rfl⟩,⟨⟨by kernel_rfl,by kernel_rfl,by kernel_rfl,by kernel_rfl⟩,ab5 e.X e.G (by kernel_rfl),by kernel_rfl,by kernel_rfl⟩,Hd.na (by kernel_rfl),Hd.na (by kernel_rfl),Hd.na (by kernel_rfl),Hd.na (by kernel_rfl),Hd.na (by kernel_rfl)⟩
theorem Ds:Fk w mg base "is_number" o6 ["thing"] 46 zu 45 1 pw:=by
 let B:=Bt e;show fk (by ac_rfl) DM (λv nd _ _ _ _ _ _ hr=>by nofun) CQ
theorem o5:Fk w mg base "is_listed" oV ["thing"] 53 zu 52 1 jK:=by
 let B:=Bt e;show fk (by ac_rfl) Dg (λv nd _ _ _ _ _ _ hr=>by nofun) CZ
theorem pE:Fk w mg base "is_listed_of" lD ["thing","many"] 60 zu 59 2 ji:=by
 let c1:=o5 base e;let B:=Bt e;show fk (by ac_rfl) xQ (λv nd _ _ _ _ _ _ hr=>by nofun) xJ
theorem zU:Fk w mg base "are_numbers" mD ["thing","many"] 65 zu 64 3 mK:=by
 let c1:=pE base e;let c2:=Ds base e;let B:=Bt e;show fk (by ac_rfl) zT (λv nd _ _ _ _ _ _ hr=>by nofun) yD
theorem Mh:Fk w mg base "common" vG ["one","other"] 72 uN 71 1 vn:=by
 let B:=Bt e;show fk (by ac_rfl) KR (λv nd _ _ _ _ _ _ hr=>by nofun) GX
theorem sL:Fk w mg base "part" Bu ["top","bottom"] 79 uN 78 2 nZ:=by
 let c1:=Mh base e;let B:=Bt e;show fk (by ac_rfl) RX (λv nd _ _ _ _ _ _ hr=>by nofun) OM
theorem OS:Fk w mg base "minus" yI ["one","other"] 93 uN 92 3 yk:=by
 let c1:=sL base e;let B:=Bt e;show fk (by ac_rfl) OU (λv nd _ _ _ _ _ _ hr=>by nofun) Km
theorem PC:Fk w mg base "times" yw ["one","other"] 100 uN 99 3 tT:=by
 let c1:=sL base e;let B:=Bt e;show fk (by ac_rfl) Oe (λv nd _ _ _ _ _ _ hr=>by nofun) K_
theorem Lj:Fk w mg base "before" vM ["one","other"] 114 uN 113 1 vY:=by
 let B:=Bt e;show fk (by ac_rfl) Kq (λv nd _ _ _ _ _ _ hr=>by nofun) Ho
theorem tu:Fk w mg base "as_rows" sd ["rows"] 126 g7 125 1 i0:=by
 let B:=Bt e;show fk (by ac_rfl) Je (λv nd _ _ _ _ _ _ hr=>by nofun) Fy
theorem yg:Fk w mg base "added" xT ["row","times","other"] 131 g7 130 1 lz:=by
 let B:=Bt e;show fk (by ac_rfl) Ph (λv nd _ _ _ _ _ _ hr=>by nofun) KG
theorem BB:Fk w mg base "sum_by" vk ["weights","rows","wide"] 138 g7 137 2 qt:=by
 let c1:=yg base e;let B:=Bt e;show fk (by ac_rfl) KH (λv nd _ _ _ _ _ _ hr=>by nofun) Jy
theorem yM:Fk w mg base "product" rP ["one","other"] 143 g7 142 3 oU:=by
 let c1:=BB base e;let B:=Bt e;show fk (by ac_rfl) HI (λv nd _ _ _ _ _ _ hr=>by nofun) Gk
theorem Mi:Fk w mg base "column" vD ["rows","place"] 148 g7 147 1 vB:=by
 let B:=Bt e;show fk (by ac_rfl) Mg (λv nd _ _ _ _ _ _ hr=>by nofun) JX
theorem qX:Fk w mg base "turned_over" mQ ["rows","wide"] 153 g7 152 2 jT:=by
 let c1:=Mi base e;let B:=Bt e;show fk (by ac_rfl) zX (λv nd _ _ _ _ _ _ hr=>by nofun) yu
theorem FI:Fk w mg base "unit_row" qE ["n","place"] 158 g7 157 1 qv:=by
 let B:=Bt e;show fk (by ac_rfl) FE (λv nd _ _ _ _ _ _ hr=>by nofun) De
theorem u5:Fk w mg base "unit_rows" pe ["n"] 163 g7 162 2 jH:=by
 let c1:=FI base e;let B:=Bt e;show fk (by ac_rfl) DN (λv nd _ _ _ _ _ _ hr=>by nofun) Cf
theorem Tf:Fk w mg base "dot" FT ["one","other"] 168 g7 167 1 xD:=by
 let B:=Bt e;show fk (by ac_rfl) Tj (λv nd _ _ _ _ _ _ hr=>by nofun) Jt
theorem rG:Fk w mg base "is_rows" rL ["thing","many","wide"] 173 g7 172 4 ko:=by
 let c1:=o5 base e;let c2:=zU base e;let B:=Bt e;show fk (by ac_rfl) JJ (λv nd _ _ _ _ _ _ hr=>by nofun) FF
theorem FX:Fk w mg base "are_back" qJ ["turn","back"] 180 g7 179 5 qF:=by
 let c1:=o5 base e;let c2:=rG base e;let c3:=yM base e;let c4:=u5 base e;let B:=Bt e;show fk (by ac_rfl) GG (λv nd _ _ _ _ _ _ hr=>by nofun) DJ
theorem CI:Fk w mg base "is_turn_of" nY ["turn","back","many"] 187 g7 186 6 nW:=by
 let c1:=rG base e;let c2:=FX base e;let B:=Bt e;show fk (by ac_rfl) Bc (λv nd _ _ _ _ _ _ hr=>by nofun) zP
theorem Cq:Fk w mg base "are_turned" nJ ["rows","made","turn","back"] 194 g7 193 7 nI:=by
 let c1:=rG base e;let c2:=CI base e;let c3:=tu base e;let c4:=yM base e;let B:=Bt e;show fk (by ac_rfl) B_ (λv nd _ _ _ _ _ _ hr=>by nofun) Ae
theorem J6:Fk w mg base "cleared" sJ ["together","table","one","other"] 201 qW 200 1 oB:=by
 let B:=Bt e
 show fk (by ac_rfl) cF (λv nd cdv A outer s H E hr=>(aH (cw cF.sc.nd (cF.v.l 4) aZ)
  (aH (mq (Qf (cF.v.g 0) B.wo (ak (cF.v.nm 1) (ak (cF.v.nm 2) (ak (cF.v.nm 3) aF)))) (TN rfl cF.sc.nd) (aH (cw cF.sc.nd (cF.v.l 0) (bK pK (bK eY (bK d4 (bS (cF.v.nm 5) (jX aZ)) (cF.v.nm 0)) (bK d4 (cF.v.nm 6) (cF.v.nm 7))) (cF.v.nm 4)))
  (bE (cw cF.sc.nd (cF.v.l 4) (bS (cF.v.nm 5) (jX aZ))))))
  (bE (fw (cF.v.nm 0)))))) GF
theorem JM:Fk w mg base "line_of" rQ ["table","steps","row"] 208 qW 207 2 sO:=by
 let c1:=Tf base e;let c2:=J6 base e;let B:=Bt e;show fk (by ac_rfl) HM (λv nd _ _ _ _ _ _ hr=>by nofun) Fe
theorem xv:Fk w mg base "table_of" qy ["steps"] 215 qW 214 3 ng:=by
 let c1:=JM base e;let B:=Bt e;show fk (by ac_rfl) Gi (λv nd _ _ _ _ _ _ hr=>by nofun) Dh
theorem C_:Fk w mg base "squares_in" og ["table"] 220 qW 219 3 oi:=by
 let c1:=sL base e;let B:=Bt e;show fk (by ac_rfl) BJ (λv nd _ _ _ _ _ _ hr=>by nofun) zV
theorem DL:Fk w mg base "shares_in" ph ["table","line"] 225 qW 224 3 pf:=by
 let c1:=sL base e;let B:=Bt e;show fk (by ac_rfl) DG (λv nd _ _ _ _ _ _ hr=>by nofun) Cu
theorem CM:Fk w mg base "shares" vP ["steps"] 230 qW 229 4 j6:=by
 let c1:=xv base e;let c2:=DL base e;let c3:=C_ base e;let B:=Bt e;show fk (by ac_rfl) K9 (λv nd _ _ _ _ _ _ hr=>by nofun) Iy
theorem zg:Fk w mg base "lead_of" tI ["row"] 237 ft 236 1 oP:=by
 let B:=Bt e;show fk (by ac_rfl) Jg (λv nd _ _ _ _ _ _ hr=>by nofun) Fh
theorem mn:Fk w mg base "nearest_quotient" iX ["top","bottom"] 244 ft 243 1 gh:=by
 show fk (by ac_rfl) dQ (λv nd cdv A outer s H E hr=>(bE (fw (bK (EF hr rfl dQ.sc.gen dQ.sc.co) (bK jV (bK d4 aZ (dQ.v.nm 0)) (dQ.v.nm 1)) (bK d4 aZ (dQ.v.nm 1)))))) qZ
theorem Dx:Fk w mg base "exchanged" pv ["rows","k","other"] 251 ft 250 1 jF:=by
 let B:=Bt e;show fk (by ac_rfl) Dp (λv nd _ _ _ _ _ _ hr=>by nofun) C0
theorem G7:Fk w mg base "negated" rN ["row"] 256 ft 255 1 mr:=by
 let B:=Bt e;show fk (by ac_rfl) HF (λv nd _ _ _ _ _ _ hr=>by nofun) F9
theorem dO:MethAt (KX w.params) aC "__init__" "Bench.__init__" du ["self","rows"] 268 (Hd.fd du "__init__" "Bench.__init__" ft 267):=Hd.Ef (by kernel_rfl) λ_ _ _ _ _ _ _ _=>rfl
theorem nK:cY PW w (KX w.params) mg base fR 3 268 (Hd.fd du "__init__" "Bench.__init__" ft 267) ["self","rows"] (gF hJ):=by
 let c1:=u5 base e;let B:=Bt e;let Q:=Qt e
 show js (N:=j5) (dO e).fn bG.sc (λcdv A outer s H E hr=>(aH (kg Q.aS.cl Q.bZ (bG.v.nm 0) (yo (Nc:=["row"]) (cD.look (bj du) ["self","rows"] (by decide+kernel)) (oN (bG.v.nm 1)) (λ_ _ _ _=>(kb (show(["row"]:List Str).Nodup by decide+kernel))) (λ_ _ _ _=>jr) (λ_ _ _ _=>(lE r_ (ak jJ aF) B.kJ rfl jg (by decide+kernel) rfl)) i8))
  (aH (kg Q.aS.cl Q.dH (bG.v.nm 0) (yo (Nc:=["row"]) (cD.look (bj du) ["self","rows"] (by decide+kernel)) (oN (bV c1.1 c1.2 (hr.mono (by decide)) (ak (dm gn (ak (bG.v.nm 1) aF) B.gu rfl fe (bG.v.d 0) (bG.v.g 0)) aF) (bG.v.d 1) (bG.v.g 1))) (λ_ _ _ _=>(kb (show(["row"]:List Str).Nodup by decide+kernel))) (λ_ _ _ _=>jr) (λ_ _ _ _=>(lE r_ (ak jJ aF) B.kJ rfl jg (by decide+kernel) rfl)) i8))
  (bE (kg Q.aS.cl Q.cn (bG.v.nm 0) (yo (Nc:=["row"]) (cD.look (bj du) ["self","rows"] (by decide+kernel)) (oN (bV c1.1 c1.2 (hr.mono (by decide)) (ak (dm gn (ak (bG.v.nm 1) aF) B.gu rfl fe (bG.v.d 0) (bG.v.g 0)) aF) (bG.v.d 1) (bG.v.g 1))) (λ_ _ _ _=>(kb (show(["row"]:List Str).Nodup by decide+kernel))) (λ_ _ _ _=>jr) (λ_ _ _ _=>(lE r_ (ak jJ aF) B.kJ rfl jg (by decide+kernel) rfl)) i8)))))) uD
theorem fX:MethAt (KX w.params) aC "take" "Bench.take" je ["self","k","times","other"] 275 (Hd.fd je "take" "Bench.take" ft 274):=Hd.WH (by kernel_rfl) λ_ _ _ _ _ _ _ _ _ _=>rfl
theorem nF:cY PW w (KX w.params) mg base fR 2 275 (Hd.fd je "take" "Bench.take" ft 274) ["self","k","times","other"] (gF iZ):=by
 let c1:=yg base e;let Q:=Qt e
 show js (N:=ow) (fX e).fn a7.sc (λcdv A outer s H E hr=>(aH (gB (bV c1.1 c1.2 (hr.mono (by decide)) (ak (bS (bJ Q.aS.cl Q.bZ (a7.v.nm 0)) (a7.v.nm 1)) (ak (jX (a7.v.nm 2)) (ak (bS (bJ Q.aS.cl Q.bZ (a7.v.nm 0)) (a7.v.nm 3)) aF))) (a7.v.d 0) (a7.v.g 0)) (bJ Q.aS.cl Q.bZ (a7.v.nm 0)) (a7.v.nm 1))
  (aH (gB (bV c1.1 c1.2 (hr.mono (by decide)) (ak (bS (bJ Q.aS.cl Q.dH (a7.v.nm 0)) (a7.v.nm 1)) (ak (jX (a7.v.nm 2)) (ak (bS (bJ Q.aS.cl Q.dH (a7.v.nm 0)) (a7.v.nm 3)) aF))) (a7.v.d 0) (a7.v.g 0)) (bJ Q.aS.cl Q.dH (a7.v.nm 0)) (a7.v.nm 1))
  (bE (gB (bV c1.1 c1.2 (hr.mono (by decide)) (ak (bS (bJ Q.aS.cl Q.cn (a7.v.nm 0)) (a7.v.nm 3)) (ak (a7.v.nm 2) (ak (bS (bJ Q.aS.cl Q.cn (a7.v.nm 0)) (a7.v.nm 1)) aF))) (a7.v.d 0) (a7.v.g 0)) (bJ Q.aS.cl Q.cn (a7.v.nm 0)) (a7.v.nm 3)))))) zY
theorem fO:MethAt (KX w.params) aC "exchange" "Bench.exchange" fV ["self","k","other"] 282 (Hd.fd fV "exchange" "Bench.exchange" ft 281):=Hd.IH (by kernel_rfl) λ_ _ _ _ _ _ _ _ _=>rfl
theorem nS:cY PW w (KX w.params) mg base fR 2 282 (Hd.fd fV "exchange" "Bench.exchange" ft 281) ["self","k","other"] (gF ib):=by
 let c1:=Dx base e;let Q:=Qt e
 show js (N:=j9) (fO e).fn bc.sc (λcdv A outer s H E hr=>(aH (kg Q.aS.cl Q.bZ (bc.v.nm 0) (bV c1.1 c1.2 (hr.mono (by decide)) (ak (bJ Q.aS.cl Q.bZ (bc.v.nm 0)) (ak (bc.v.nm 1) (ak (bc.v.nm 2) aF))) (bc.v.d 0) (bc.v.g 0)))
  (aH (kg Q.aS.cl Q.dH (bc.v.nm 0) (bV c1.1 c1.2 (hr.mono (by decide)) (ak (bJ Q.aS.cl Q.dH (bc.v.nm 0)) (ak (bc.v.nm 1) (ak (bc.v.nm 2) aF))) (bc.v.d 0) (bc.v.g 0)))
  (bE (kg Q.aS.cl Q.cn (bc.v.nm 0) (bV c1.1 c1.2 (hr.mono (by decide)) (ak (bJ Q.aS.cl Q.cn (bc.v.nm 0)) (ak (bc.v.nm 1) (ak (bc.v.nm 2) aF))) (bc.v.d 0) (bc.v.g 0))))))) uC
theorem iL:MethAt (KX w.params) aC "change_sign" "Bench.change_sign" eG ["self","k"] 289 (Hd.fd eG "change_sign" "Bench.change_sign" ft 288):=Hd.Ef (by kernel_rfl) λ_ _ _ _ _ _ _ _=>rfl
theorem q_:cY PW w (KX w.params) mg base fR 2 289 (Hd.fd eG "change_sign" "Bench.change_sign" ft 288) ["self","k"] (gF iJ):=by
 let c1:=G7 base e;let Q:=Qt e
 show js (N:=iO) (iL e).fn aT.sc (λcdv A outer s H E hr=>(aH (gB (bV c1.1 c1.2 (hr.mono (by decide)) (ak (bS (bJ Q.aS.cl Q.bZ (aT.v.nm 0)) (aT.v.nm 1)) aF) (aT.v.d 0) (aT.v.g 0)) (bJ Q.aS.cl Q.bZ (aT.v.nm 0)) (aT.v.nm 1))
  (aH (gB (bV c1.1 c1.2 (hr.mono (by decide)) (ak (bS (bJ Q.aS.cl Q.dH (aT.v.nm 0)) (aT.v.nm 1)) aF) (aT.v.d 0) (aT.v.g 0)) (bJ Q.aS.cl Q.dH (aT.v.nm 0)) (aT.v.nm 1))
  (bE (gB (bV c1.1 c1.2 (hr.mono (by decide)) (ak (bS (bJ Q.aS.cl Q.cn (aT.v.nm 0)) (aT.v.nm 1)) aF) (aT.v.d 0) (aT.v.g 0)) (bJ Q.aS.cl Q.cn (aT.v.nm 0)) (aT.v.nm 1)))))) qC
theorem gJ:MethAt (KX w.params) aC "live_rows" "Bench.live_rows" dE ["self","top","place"] 294 (Hd.fd dE "live_rows" "Bench.live_rows" ft 293):=Hd.IH (by kernel_rfl) λ_ _ _ _ _ _ _ _ _=>rfl
theorem mV:cY PW w (KX w.params) mg base fR 3 294 (Hd.fd dE "live_rows" "Bench.live_rows" ft 293) ["self","top","place"] (gF gK):=by
 let B:=Bt e;let Q:=Qt e;let hC:PySem.W.codeHdIn (KX w.params) 293 291=true:=by kernel_rfl
 show R0 (N:=jB) (Hd.fc (by kernel_rfl)) cC.sc (λA outer s H E hr=>(aH (yJ cC.sc.nd (cC.v.l 3) (Nc:=["k","self","place"]) (cD.look (bj dE) ["self","top","place","live"] (by decide+kernel)) (nG (cC.v.g 1) B.g5 (ak (cC.v.nm 1) (ak (dm gn (ak (bJ Q.aS.cl Q.bZ (cC.v.nm 0)) aF) B.gu rfl fe (cC.v.d 0) (cC.v.g 0)) aF))) (λ_ _ _ _=>(kb (show(["k","self","place"]:List Str).Nodup by decide+kernel))) (λ_ _ _ _=>(RB (fb Cb (dv _) (bS (bS (bJ Q.aS.cl Q.bZ jJ) jJ) jJ) aZ))) (λ_ _ _ _=>jJ) i8)
  (bE (fw (Px (c0:=293) (nc.look (Nc:=["k","self","place"]) (fr:=[none,some 0,some 2]) (p:="k") (cD.look (bj dE) ["self","top","place","live"] (by decide+kernel))) rfl hr rfl hC (λ_ _ _ _=>(dm Aq (ak (bS (bS (bJ Q.aS.cl Q.bZ jJ) jJ) jJ) aF) B.Ax rfl wz (by decide+kernel) rfl)) (cC.v.nm 3) (cC.v.g 2) B.LY))))) s_
theorem lx:MethAt (KX w.params) aC "gather" "Bench.gather" gX ["self","top","place"] 301 (Hd.fd gX "gather" "Bench.gather" ft 300):=Hd.IH (by kernel_rfl) λ_ _ _ _ _ _ _ _ _=>rfl
theorem yt:cY PW w (KX w.params) mg base fR 4 301 (Hd.fd gX "gather" "Bench.gather" ft 300) ["self","top","place"] (gF lI):=by
 let c1:=mn base e;let B:=Bt e;let Q:=Qt e
 show js (N:=lH) (lx e).fn az.sc (λcdv A outer s H E hr=>(aH (cw az.sc.nd (az.v.l 3) (dP (az.v.nm 0) Q.aS.cl (gJ e).me (mV base e) (hr.mono (by decide)) (gJ e).bd (ak (az.v.nm 1) (ak (az.v.nm 2) aF))))
  (aH (vT (fb KZ (dv _) (dm gn (ak (az.v.nm 3) aF) B.gu rfl fe (az.v.d 0) (az.v.g 0)) aZ) (aH (cw az.sc.nd (az.v.l 4) (bS (az.v.nm 3) (jX aZ)))
  (aH (cw az.sc.nd (az.v.l 5) (bS (az.v.nm 3) (jX aZ)))
  (aH (f_ (dP (az.v.nm 0) Q.aS.cl (fX e).me (nF base e) (hr.mono (by decide)) (fX e).bd (ak (az.v.nm 4) (ak (bV c1.1 c1.2 (hr.mono (by decide)) (ak (bS (bS (bJ Q.aS.cl Q.bZ (az.v.nm 0)) (az.v.nm 4)) (az.v.nm 2)) (ak (bS (bS (bJ Q.aS.cl Q.bZ (az.v.nm 0)) (az.v.nm 5)) (az.v.nm 2)) aF)) (az.v.d 1) (az.v.g 1)) (ak (az.v.nm 5) aF)))))
  (bE (cw az.sc.nd (az.v.l 3) (dP (az.v.nm 0) Q.aS.cl (gJ e).me (mV base e) (hr.mono (by decide)) (gJ e).bd (ak (az.v.nm 1) (ak (az.v.nm 2) aF)))))))))
  (aH (iQ (fb (yq hr) (dv _) (dm gn (ak (az.v.nm 3) aF) B.gu rfl fe (az.v.d 0) (az.v.g 0)) aZ) (bE (fw lP)) gR)
  (aH (f_ (dP (az.v.nm 0) Q.aS.cl (fO e).me (nS base e) (hr.mono (by decide)) (fO e).bd (ak (az.v.nm 1) (ak (bS (az.v.nm 3) aZ) aF))))
  (aH (iQ (fb yx (dv _) (bS (bS (bJ Q.aS.cl Q.bZ (az.v.nm 0)) (az.v.nm 1)) (az.v.nm 2)) aZ) (bE (f_ (dP (az.v.nm 0) Q.aS.cl (iL e).me (q_ base e) (hr.mono (by decide)) (iL e).bd (ak (az.v.nm 1) aF)))) gR)
  (bE (fw lP)))))))) wU
theorem iM:MethAt (KX w.params) aC "lower_above" "Bench.lower_above" eh ["self","top","place"] 308 (Hd.fd eh "lower_above" "Bench.lower_above" ft 307):=Hd.IH (by kernel_rfl) λ_ _ _ _ _ _ _ _ _=>rfl
theorem rf:cY PW w (KX w.params) mg base fR 3 308 (Hd.fd eh "lower_above" "Bench.lower_above" ft 307) ["self","top","place"] (gF iN):=by
 let B:=Bt e;let Q:=Qt e;show js (N:=iI) (iM e).fn bh.sc (λcdv A outer s H E hr=>(bE (mq (ot (bh.v.g 0) B.g5 (ak (bh.v.nm 1) aF)) (kb bh.sc.nd) (bE (f_ (dP (bh.v.nm 0) Q.aS.cl (fX e).me (nF base e) (hr.mono (by decide)) (fX e).bd (ak (bh.v.nm 3) (ak (bK (EF hr rfl bh.sc.gen bh.sc.co) (bS (bS (bJ Q.aS.cl Q.bZ (bh.v.nm 0)) (bh.v.nm 3)) (bh.v.nm 2)) (bS (bS (bJ Q.aS.cl Q.bZ (bh.v.nm 0)) (bh.v.nm 1)) (bh.v.nm 2))) (ak (bh.v.nm 1) aF))))))))) qG
theorem Fm:Fk w mg base "standing" qm ["rows"] 322 ft 321 5 qu:=by
 let c1:=qX base e;let c2:=tu base e;let B:=Bt e;let Q:=Qt e
 show fk (by ac_rfl) aU (λv nd cdv A outer s H E hr=>(aH (cw aU.sc.nd (aU.v.l 1) (A_ ⟨Q.aS.QB,(dO e).me.at_,(dO e).me.fn,Q.aS.kp⟩ (nK base e) (hr.mono (by decide)) (aU.v.g 0) Q.aS.mg (dO e).bd (ak (aU.v.nm 0) aF) (aU.v.d 0)))
  (aH (cw aU.sc.nd (aU.v.l 2) aZ)
  (aH (mq (ot (aU.v.g 2) B.g5 (ak (dm gn (ak (bS (aU.v.nm 0) aZ) aF) B.gu rfl fe (aU.v.d 1) (aU.v.g 1)) aF)) (kb aU.sc.nd) (bE (iQ (pF (dP (aU.v.nm 1) Q.aS.cl (lx e).me (yt base e) (hr.mono (by decide)) (lx e).bd (ak (aU.v.nm 2) (ak (aU.v.nm 3) aF)))) (aH (f_ (dP (aU.v.nm 1) Q.aS.cl (iM e).me (rf base e) (hr.mono (by decide)) (iM e).bd (ak (aU.v.nm 2) (ak (aU.v.nm 3) aF))))
  (bE (H0 aU.sc.nd (aU.v.l 2) aZ JQ))) gR)))
  (aH (cw aU.sc.nd (aU.v.l 4) (bV c1.1 c1.2 (hr.mono (by decide)) (ak (bJ Q.aS.cl Q.cn (aU.v.nm 1)) (ak (dm gn (ak (aU.v.nm 0) aF) B.gu rfl fe (aU.v.d 1) (aU.v.g 1)) aF)) (aU.v.d 3) (aU.v.g 3)))
  (bE (fw (tQ (ak (bV c2.1 c2.2 (hr.mono (by decide)) (ak (iE (bJ Q.aS.cl Q.bZ (aU.v.nm 1)) kv (iH (aU.v.nm 2))) aF) (aU.v.d 4) (aU.v.g 4)) (ak (bV c2.1 c2.2 (hr.mono (by decide)) (ak (bJ Q.aS.cl Q.dH (aU.v.nm 1)) aF) (aU.v.d 4) (aU.v.g 4)) (ak (aU.v.nm 4) aF))))))))))) DR
theorem IC:Fk w mg base "weighed" tK ["form","row"] 329 ft 328 2 rZ:=by
 let c1:=zg base e;let c2:=yg base e;let B:=Bt e;show fk (by ac_rfl) ID (λv nd _ _ _ _ _ _ hr=>by nofun) E_
theorem uJ:Fk w mg base "is_half_at_most" jE ["share"] 336 gE 335 1 jA:=by
 let B:=Bt e;show fk (by ac_rfl) uH (λv nd _ _ _ _ _ _ hr=>by nofun) sG
theorem wM:Fk w mg base "falls_too_far" kQ ["square","share","ahead"] 343 gE 342 4 kP:=by
 let c1:=PC base e;let c2:=sL base e;let c3:=OS base e;let c4:=Lj base e;let B:=Bt e;show fk (by ac_rfl) xw (λv nd _ _ _ _ _ _ hr=>by nofun) vi
theorem wN:Fk w mg base "is_short" qP ["steps"] 348 gE 347 5 g_:=by
 let c1:=CM base e;let c2:=uJ base e;let c3:=wM base e;let B:=Bt e;show fk (by ac_rfl) Fw (λv nd _ _ _ _ _ _ hr=>by nofun) Dw
theorem gH:MethAt (KX w.params) aO "__init__" "Stairs.__init__" fx ["self","steps"] 362 (Hd.fd fx "__init__" "Stairs.__init__" gE 361):=Hd.Ef (by kernel_rfl) λ_ _ _ _ _ _ _ _=>rfl
theorem uA:cY PW w (KX w.params) mg base fR 5 362 (Hd.fd fx "__init__" "Stairs.__init__" gE 361) ["self","steps"] (gF jy):=by
 let c1:=xv base e;let Q:=Qt e
 show js (N:=jx) (gH e).fn cL.sc (λcdv A outer s H E hr=>(aH (kg Q.bp.cl Q.jn (cL.v.nm 0) (A_ ⟨Q.aS.QB,(dO e).me.at_,(dO e).me.fn,Q.aS.kp⟩ (nK base e) (hr.mono (by decide)) (cL.v.g 0) Q.aS.mg (dO e).bd (ak (cL.v.nm 1) aF) (cL.v.d 0)))
  (bE (kg Q.bp.cl Q.bT (cL.v.nm 0) (bV c1.1 c1.2 (hr.mono (by decide)) (ak (cL.v.nm 1) aF) (cL.v.d 1) (cL.v.g 1)))))) sf
theorem cf:MethAt (KX w.params) aO "last_of" "Stairs.last_of" fQ ["self","k"] 369 (Hd.fd fQ "last_of" "Stairs.last_of" gE 368):=Hd.Ef (by kernel_rfl) λ_ _ _ _ _ _ _ _=>rfl
theorem eK:cY PW w (KX w.params) mg base fR 1 369 (Hd.fd fQ "last_of" "Stairs.last_of" gE 368) ["self","k"] (gF dq):=by
 let Q:=Qt e;show js (N:=j_) (cf e).fn fU.sc (λcdv A outer s H E hr=>(bE (fw (GI (fb Bh (dv _) (fU.v.nm 1) aZ) (bS (bS (bJ Q.bp.cl Q.bT (fU.v.nm 0)) (fU.v.nm 1)) (fU.v.nm 1)) aZ)))) uy
theorem gw:MethAt (KX w.params) aO "lessen" "Stairs.lessen" gf ["self","k","j"] 376 (Hd.fd gf "lessen" "Stairs.lessen" gE 375):=Hd.IH (by kernel_rfl) λ_ _ _ _ _ _ _ _ _=>rfl
theorem oA:cY PW w (KX w.params) mg base fR 3 376 (Hd.fd gf "lessen" "Stairs.lessen" gE 375) ["self","k","j"] (gF iS):=by
 let c1:=mn base e;let B:=Bt e;let Q:=Qt e
 show js (N:=kO) (gw e).fn aP.sc (λcdv A outer s H E hr=>(aH (cw aP.sc.nd (aP.v.l 3) (bV c1.1 c1.2 (hr.mono (by decide)) (ak (bS (bS (bJ Q.bp.cl Q.bT (aP.v.nm 0)) (aP.v.nm 1)) (aP.v.nm 2)) (ak (bS (bS (bJ Q.bp.cl Q.bT (aP.v.nm 0)) (aP.v.nm 2)) (aP.v.nm 2)) aF)) (aP.v.d 0) (aP.v.g 0)))
  (aH (iQ (fb (yq hr) (dv _) (aP.v.nm 3) aZ) (bE OH) gR)
  (aH (f_ (dP (bJ Q.bp.cl Q.jn (aP.v.nm 0)) Q.aS.cl (fX e).me (nF base e) (hr.mono (by decide)) (fX e).bd (ak (aP.v.nm 1) (ak (aP.v.nm 3) (ak (aP.v.nm 2) aF)))))
  (bE (mq (ot (aP.v.g 1) B.g5 (ak (bK jV (aP.v.nm 2) aZ) aF)) (kb aP.sc.nd) (bE (Lx (bS (bJ Q.bp.cl Q.bT (aP.v.nm 0)) (aP.v.nm 1)) (aP.v.nm 4) (bK d4 (aP.v.nm 3) (bS (bS (bJ Q.bp.cl Q.bT (aP.v.nm 0)) (aP.v.nm 2)) (aP.v.nm 4))) Qk)))))))) vX
theorem jD:MethAt (KX w.params) aO "is_steep" "Stairs.is_steep" fA ["self","k"] 383 (Hd.fd fA "is_steep" "Stairs.is_steep" gE 382):=Hd.Ef (by kernel_rfl) λ_ _ _ _ _ _ _ _=>rfl
theorem uI:cY PW w (KX w.params) mg base fR 2 383 (Hd.fd fA "is_steep" "Stairs.is_steep" gE 382) ["self","k"] (gF jw):=by
 let Q:=Qt e
 show js (N:=jz) (jD e).fn bb.sc (λcdv A outer s H E hr=>(aH (cw bb.sc.nd (bb.v.l 2) (bS (bS (bJ Q.bp.cl Q.bT (bb.v.nm 0)) (bb.v.nm 1)) (bK eY (bb.v.nm 1) aZ)))
  (aH (cw bb.sc.nd (bb.v.l 3) (dP (bb.v.nm 0) Q.bp.cl (cf e).me (eK base e) (hr.mono (by decide)) (cf e).bd (ak (bK eY (bb.v.nm 1) aZ) aF)))
  (bE (fw (Aj yx (dv _) (bK d4 aZ (bK jV (bK d4 (dP (bb.v.nm 0) Q.bp.cl (cf e).me (eK base e) (hr.mono (by decide)) (cf e).bd (ak (bb.v.nm 1) aF)) (dP (bb.v.nm 0) Q.bp.cl (cf e).me (eK base e) (hr.mono (by decide)) (cf e).bd (ak (bK eY (bb.v.nm 1) aZ) aF))) (bK d4 (bb.v.nm 2) (bb.v.nm 2)))) (bK d4 (bK d4 aZ (bb.v.nm 3)) (bb.v.nm 3)))))))) tj
theorem mH:MethAt (KX w.params) aO "swap" "Stairs.swap" iu ["self","k"] 390 (Hd.fd iu "swap" "Stairs.swap" gE 389):=Hd.Ef (by kernel_rfl) λ_ _ _ _ _ _ _ _=>rfl
theorem z9:cY PW w (KX w.params) mg base fR 3 390 (Hd.fd iu "swap" "Stairs.swap" gE 389) ["self","k"] (gF mR):=by
 let B:=Bt e;let Q:=Qt e
 show js (N:=mJ) (mH e).fn aj.sc (λcdv A outer s H E hr=>(aH (f_ (dP (bJ Q.bp.cl Q.jn (aj.v.nm 0)) Q.aS.cl (fO e).me (nS base e) (hr.mono (by decide)) (fO e).bd (ak (aj.v.nm 1) (ak (bK eY (aj.v.nm 1) aZ) aF))))
  (aH (cw aj.sc.nd (aj.v.l 2) (bS (bS (bJ Q.bp.cl Q.bT (aj.v.nm 0)) (aj.v.nm 1)) (bK eY (aj.v.nm 1) aZ)))
  (aH (cw aj.sc.nd (aj.v.l 3) (dP (aj.v.nm 0) Q.bp.cl (cf e).me (eK base e) (hr.mono (by decide)) (cf e).bd (ak (aj.v.nm 1) aF)))
  (aH (cw aj.sc.nd (aj.v.l 4) (dP (aj.v.nm 0) Q.bp.cl (cf e).me (eK base e) (hr.mono (by decide)) (cf e).bd (ak (bK eY (aj.v.nm 1) aZ) aF)))
  (aH (cw aj.sc.nd (aj.v.l 5) (bK pK (bK jV (bK d4 (dP (aj.v.nm 0) Q.bp.cl (cf e).me (eK base e) (hr.mono (by decide)) (cf e).bd (ak (bK eY (aj.v.nm 1) aZ) aF)) (aj.v.nm 3)) (bK d4 (aj.v.nm 2) (aj.v.nm 2))) (aj.v.nm 4)))
  (aH (cw aj.sc.nd (aj.v.l 6) (iE (bS (bJ Q.bp.cl Q.bT (aj.v.nm 0)) (aj.v.nm 1)) kv (iH (bK eY (aj.v.nm 1) aZ))))
  (aH (gB (bK BQ (iE (bS (bJ Q.bp.cl Q.bT (aj.v.nm 0)) (bK eY (aj.v.nm 1) aZ)) kv (iH (bK eY (aj.v.nm 1) aZ))) (wA (ak (aj.v.nm 2) (ak (aj.v.nm 3) aF)))) (bJ Q.bp.cl Q.bT (aj.v.nm 0)) (aj.v.nm 1))
  (aH (gB (bK BQ (aj.v.nm 6) (wA (ak (aj.v.nm 5) aF))) (bJ Q.bp.cl Q.bT (aj.v.nm 0)) (bK eY (aj.v.nm 1) aZ))
  (bE (mq (nG (aj.v.g 1) B.g5 (ak (bK jV (aj.v.nm 1) aZ) (ak (dm gn (ak (bJ Q.bp.cl Q.bT (aj.v.nm 0)) aF) B.gu rfl fe (aj.v.d 0) (aj.v.g 0)) aF))) (kb aj.sc.nd) (aH (cw aj.sc.nd (aj.v.l 8) (bS (bJ Q.bp.cl Q.bT (aj.v.nm 0)) (aj.v.nm 7)))
  (aH (cw aj.sc.nd (aj.v.l 9) (bK pK (bK eY (bK d4 (aj.v.nm 3) (bS (aj.v.nm 8) (bK eY (aj.v.nm 1) aZ))) (bK d4 (aj.v.nm 2) (bS (aj.v.nm 8) (aj.v.nm 1)))) (aj.v.nm 4)))
  (aH (cw aj.sc.nd (aj.v.l 10) (bK pK (bK jV (bK d4 (aj.v.nm 5) (bS (aj.v.nm 8) (aj.v.nm 1))) (bK d4 (aj.v.nm 2) (aj.v.nm 9))) (aj.v.nm 3)))
  (bE (gB (bK BQ (bK jV (iE (aj.v.nm 8) kv (iH (bK eY (aj.v.nm 1) aZ))) (wA (ak (aj.v.nm 10) (ak (aj.v.nm 9) aF)))) (iE (aj.v.nm 8) (iH (bK jV (aj.v.nm 1) aZ)) kv)) (bJ Q.bp.cl Q.bT (aj.v.nm 0)) (aj.v.nm 7))))))))))))))))) yb
theorem jZ:MethAt (KX w.params) aO "shorten" "Stairs.shorten" fP ["self"] 397 (Hd.fd fP "shorten" "Stairs.shorten" gE 396):=Hd.Wu (by kernel_rfl) λ_ _ _ _ _ _ _=>rfl
theorem vm:cY PW w (KX w.params) mg base fR 4 397 (Hd.fd fP "shorten" "Stairs.shorten" gE 396) ["self"] (gF j4):=by
 let B:=Bt e;let Q:=Qt e
 show js (N:=j0) (jZ e).fn aL.sc (λcdv A outer s H E hr=>(aH (cw aL.sc.nd (aL.v.l 1) aZ)
  (bE (vT (fb yx (dv _) (aL.v.nm 1) (dm gn (ak (bJ Q.bp.cl Q.bT (aL.v.nm 0)) aF) B.gu rfl fe (aL.v.d 0) (aL.v.g 0))) (aH (f_ (dP (aL.v.nm 0) Q.bp.cl (gw e).me (oA base e) (hr.mono (by decide)) (gw e).bd (ak (aL.v.nm 1) (ak (bK eY (aL.v.nm 1) aZ) aF))))
  (bE (iQ (pF (dP (aL.v.nm 0) Q.bp.cl (jD e).me (uI base e) (hr.mono (by decide)) (jD e).bd (ak (aL.v.nm 1) aF))) (aH (f_ (dP (aL.v.nm 0) Q.bp.cl (mH e).me (z9 base e) (hr.mono (by decide)) (mH e).bd (ak (aL.v.nm 1) aF)))
  (bE (cw aL.sc.nd (aL.v.l 1) (dm (FC rfl) (ak aZ (ak (bK eY (aL.v.nm 1) aZ) aF)) B.AI rfl wy (aL.v.d 1) (aL.v.g 1))))) (aH (mq (Kd (aL.v.g 2) B.g5 (ak (bK eY (aL.v.nm 1) aZ) (ak (jX aZ) (ak (jX aZ) aF)))) (kb aL.sc.nd) (bE (f_ (dP (aL.v.nm 0) Q.bp.cl (gw e).me (oA base e) (hr.mono (by decide)) (gw e).bd (ak (aL.v.nm 1) (ak (aL.v.nm 2) aF))))))
  (bE (H0 aL.sc.nd (aL.v.l 1) aZ JQ)))))))))) uv
theorem OC:Fk w mg base "short" yc ["steps"] 411 gE 410 7 nv:=by
 let c1:=qX base e;let c2:=tu base e;let B:=Bt e;let Q:=Qt e
 show fk (by ac_rfl) cR (λv nd cdv A outer s H E hr=>(aH (cw cR.sc.nd (cR.v.l 1) (A_ ⟨Q.bp.QB,(gH e).me.at_,(gH e).me.fn,Q.bp.kp⟩ (uA base e) (hr.mono (by decide)) (cR.v.g 0) Q.bp.mg (gH e).bd (ak (cR.v.nm 0) aF) (cR.v.d 0)))
  (aH (f_ (OZ (cR.v.nm 1) Q.bp.cl (jZ e).me (vm base e) (hr.mono (by decide)) (jZ e).bd))
  (aH (cw cR.sc.nd (cR.v.l 2) (bJ Q.bp.cl Q.jn (cR.v.nm 1)))
  (bE (fw (tQ (ak (bV c2.1 c2.2 (hr.mono (by decide)) (ak (bJ Q.aS.cl Q.bZ (cR.v.nm 2)) aF) (cR.v.d 3) (cR.v.g 3)) (ak (bV c2.1 c2.2 (hr.mono (by decide)) (ak (bJ Q.aS.cl Q.dH (cR.v.nm 2)) aF) (cR.v.d 3) (cR.v.g 3)) (ak (bV c1.1 c1.2 (hr.mono (by decide)) (ak (bJ Q.aS.cl Q.cn (cR.v.nm 2)) (ak (dm gn (ak (cR.v.nm 0) aF) B.gu rfl fe (cR.v.d 1) (cR.v.g 1)) aF)) (cR.v.d 2) (cR.v.g 2)) aF)))))))))) LQ
theorem Ac:Fk w mg base "shows_short" mI ["steps","told"] 418 gE 417 8 jS:=by
 let c1:=pE base e;let c2:=Cq base e;let c3:=wN base e;let B:=Bt e;show fk (by ac_rfl) zW (λv nd _ _ _ _ _ _ hr=>by nofun) xO
theorem KO:Fk w mg base "inside" vR ["rows","row"] 446 Vx 445 6 vh:=by
 let c1:=Fm base e;let c2:=IC base e;let c3:=zg base e;let c4:=BB base e;let B:=Bt e;show fk (by ac_rfl) K8 (λv nd _ _ _ _ _ _ hr=>by nofun) J8
theorem Kt:Fk w mg base "_law_at" vt ["_law_script","_law_k"] 453 iy 452 1 vA:=by
 let B:=Bt e;show fk (by ac_rfl) Lb (λv nd _ _ _ _ _ _ hr=>by nofun) IQ
theorem F7:Fk w mg base "_law_left" qO ["_law_script","_law_k"] 460 iy 459 2 qk:=by
 let c1:=Kt base e;let B:=Bt e;show fk (by ac_rfl) FY (λv nd _ _ _ _ _ _ hr=>by nofun) Dn
theorem oX:Fk w mg base "_law_digit" pd ["_law_left_here","_law_many"] 467 iy 466 1 cG:=by
 let B:=Bt e;show fk (by ac_rfl) DC (λv nd _ _ _ _ _ _ hr=>by nofun) CL
theorem Cg:Fk w mg base "_law_number" nX ["_law_left_here","_law_kind"] 474 iy 473 2 kL:=by
 let c1:=oX base e;let B:=Bt e;show fk (by ac_rfl) A9 (λv nd _ _ _ _ _ _ hr=>by nofun) zQ
theorem Gh:Fk w mg base "_law_rows" qD ["_law_left_here","_law_many","_law_wide","_law_kind"] 479 iy 478 3 kE:=by
 let c1:=Cg base e;let B:=Bt e;show fk (by ac_rfl) Fb (λv nd _ _ _ _ _ _ hr=>by nofun) Dv
theorem Dq:Fk w mg base "_law_drawn" oZ ["_law_left_here"] 486 iy 485 4 pq:=by
 let c1:=oX base e;let c2:=Gh base e;let B:=Bt e;show fk (by ac_rfl) DQ (λv nd _ _ _ _ _ _ hr=>by nofun) Br
theorem Hv:Fk w mg base "_law_dot" sX ["_law_one","_law_other"] 491 iy 490 1 oK:=by
 let B:=Bt e;show fk (by ac_rfl) HY (λv nd _ _ _ _ _ _ hr=>by nofun) FL
theorem IU:Fk w mg base "_law_own" rD ["_law_steps"] 498 iy 497 2 sq:=by
 let c1:=Hv base e;let B:=Bt e;show fk (by ac_rfl) IE (λv nd _ _ _ _ _ _ hr=>by nofun) GL
theorem Fl:Fk w mg base "_law_unit" qr ["_law_n"] 508 iy 507 1 m5:=by
 let B:=Bt e;show fk (by ac_rfl) Gf (λv nd _ _ _ _ _ _ hr=>by nofun) DH
theorem vC:Fk w mg base "_law_all_inside" j8 ["_law_rows_here","_law_others"] 513 iy 512 7 eH:=by
 let c1:=KO base e;let B:=Bt e;show fk (by ac_rfl) wa (λv nd _ _ _ _ _ _ hr=>by nofun) ux
theorem HL:Fk w mg base "_law_due" sS ["_law_squares","_law_known","_law_signs","_law_many"] 518 iy 517 1 oH:=by
 let B:=Bt e;show fk (by ac_rfl) Jr (λv nd _ _ _ _ _ _ hr=>by nofun) Fi
theorem Th:Fk w mg base "law" mW ["_law_script"] 523 iy 522 9 Mt:=by
 let c1:=F7 base e;let c2:=Dq base e;let c3:=IU base e;let c4:=OC base e;let c5:=Fl base e;let c6:=wN base e;let c7:=Ac base e;let c8:=oX base e;let c9:=CM base e;let c10:=HL base e;let c11:=vC base e;let B:=Bt e
 show fk (by ac_rfl) aE (λv nd cdv A outer s H E hr=>(aH (mq (nG (aE.v.g 1) B.g5 (ak aZ (ak (bK jV aZ (dm gn (ak (iE (aE.v.nm 0) (iH aZ) (iH aZ)) aF) B.gu rfl fe (aE.v.d 0) (aE.v.g 0))) aF))) (kb aE.sc.nd) (aH (cw aE.sc.nd (aE.v.l 2) (bV c1.1 c1.2 (hr.mono (by decide)) (ak (aE.v.nm 0) (ak (aE.v.nm 1) aF)) (aE.v.d 2) (aE.v.g 2)))
  (aH (cw aE.sc.nd (aE.v.l 3) (bV c2.1 c2.2 (hr.mono (by decide)) (ak (aE.v.nm 2) aF) (aE.v.d 3) (aE.v.g 3)))
  (aH (iQ (fb VX (dv _) (bV c3.1 c3.2 (hr.mono (by decide)) (ak (aE.v.nm 3) aF) (aE.v.d 4) (aE.v.g 4)) F0) (bE o7) gR)
  (aH (iQ (wK (JR (fb KZ (dv _) (dm gn (ak (aE.v.nm 3) aF) B.gu rfl fe (aE.v.d 0) (aE.v.g 0)) aZ) (EG (fb KZ (dv _) (aE.v.nm 1) aZ)))) (bE o7) gR)
  (aH (cw aE.sc.nd (aE.v.l 4) (bS (bV c4.1 c4.2 (hr.mono (by decide)) (ak (aE.v.nm 3) aF) (aE.v.d 5) (aE.v.g 5)) aZ))
  (aH (cw aE.sc.nd (aE.v.l 5) (bV c5.1 c5.2 (hr.mono (by decide)) (ak (dm gn (ak (aE.v.nm 4) aF) B.gu rfl fe (aE.v.d 0) (aE.v.g 0)) aF) (aE.v.d 6) (aE.v.g 6)))
  (aH (iQ (wK (AH (fb pQ (dv _) (bV c6.1 c6.2 (hr.mono (by decide)) (ak (aE.v.nm 4) aF) (aE.v.d 7) (aE.v.g 7)) lP) (wk (fb pQ (dv _) (bV c7.1 c7.2 (hr.mono (by decide)) (ak (aE.v.nm 4) (ak (tQ (ak (aE.v.nm 4) (ak (aE.v.nm 5) (ak (aE.v.nm 5) aF)))) aF)) (aE.v.d 8) (aE.v.g 8)) lP)))) (bE (fw lP)) gR)
  (aH (cw aE.sc.nd (aE.v.l 6) (bK jV aZ (bV c8.1 c8.2 (hr.mono (by decide)) (ak (aE.v.nm 2) (ak aZ aF)) (aE.v.d 9) (aE.v.g 9))))
  (aH (yJ aE.sc.nd (aE.v.l 7) (Nc:=["_law_row","_law_left_here"]) (cD.look (bj mW) ["_law_script","_law_k","_law_left_here","_law_steps","_law_made","_law_unit_here","_law_many","_law_signs","_law_others","_law_squares","_law_known","_law_due_here","_law_turned","_law_found","_law_again"] (by decide+kernel)) (oN (aE.v.nm 4)) (λ_ _ _ _=>(kb (show(["_law_row","_law_left_here"]:List Str).Nodup by decide+kernel))) (λ_ _ _ _=>jr) (λ_ _ _ _=>(bK eY aZ (bK d4 aZ (bV c8.1 c8.2 (hr.mono (by decide)) (ak jJ (ak aZ aF)) (by decide+kernel) rfl)))) i8)
  (aH (cw aE.sc.nd (aE.v.l 8) (lE tY (ak (pR (Nc:=["_law_sign","_law_row","_law_many"]) (cD.look (bj mW) ["_law_script","_law_k","_law_left_here","_law_steps","_law_made","_law_unit_here","_law_many","_law_signs","_law_others","_law_squares","_law_known","_law_due_here","_law_turned","_law_found","_law_again"] (by decide+kernel)) (Az (aE.v.g 10) B.wo (ak (aE.v.nm 7) (ak (aE.v.nm 4) aF))) (λ_ _ _ _=>(uj rfl (show(["_law_sign","_law_row","_law_many"]:List Str).Nodup by decide+kernel))) (λ_ _ _ _=>jr) (λ_ _ _ _=>(lE tY (ak (pR (Nc:=["_law_n","_law_sign","_law_many"]) (cD.Nu (by decide+kernel)) (oN jJ) (λ_ _ _ _=>(kb (show(["_law_n","_law_sign","_law_many"]:List Str).Nodup by decide+kernel))) (λ_ _ _ _=>jr) (λ_ _ _ _=>(bK d4 (bK d4 jJ jJ) jJ)) i8) aF) B.ny rfl ly (by decide+kernel) rfl)) yz) aF) B.ny rfl ly (aE.v.d 11) (aE.v.g 11)))
  (aH (iQ (fb Bh (dv _) (dm (P0 rfl) (ak (pR (Nc:=["_law_n"]) (cD.look (bj mW) ["_law_script","_law_k","_law_left_here","_law_steps","_law_made","_law_unit_here","_law_many","_law_signs","_law_others","_law_squares","_law_known","_law_due_here","_law_turned","_law_found","_law_again"] (by decide+kernel)) (oN (dm (QU rfl) (ak (aE.v.nm 8) (ak (tQ aF) aF)) B.Gg rfl Ci (aE.v.d 12) (aE.v.g 12))) (λ_ _ _ _=>(kb (show(["_law_n"]:List Str).Nodup by decide+kernel))) (λ_ _ _ _=>jr) (λ_ _ _ _=>(dm Aq (ak jJ aF) B.Ax rfl wz (by decide+kernel) rfl)) i8) aF) B.AI rfl wy (aE.v.d 13) (aE.v.g 13)) (bK GQ aZ aZ)) (bE o7) gR)
  (aH (IB (bV c9.1 c9.2 (hr.mono (by decide)) (ak (aE.v.nm 4) aF) (aE.v.d 14) (aE.v.g 14)) (uj rfl aE.sc.nd))
  (aH (IB (bV c10.1 c10.2 (hr.mono (by decide)) (ak (aE.v.nm 9) (ak (aE.v.nm 10) (ak (aE.v.nm 7) (ak (aE.v.nm 6) aF)))) (aE.v.d 15) (aE.v.g 15)) (uj rfl aE.sc.nd))
  (aH (cw aE.sc.nd (aE.v.l 13) (bV c9.1 c9.2 (hr.mono (by decide)) (ak (aE.v.nm 8) aF) (aE.v.d 14) (aE.v.g 14)))
  (aH (iQ (wK (AH (fb (Ug hr) (dv _) (bS (aE.v.nm 13) aZ) (aE.v.nm 12)) (wk (fb Cb (dv _) (dm gn (ak (bS (aE.v.nm 13) aZ) aF) B.gu rfl fe (aE.v.d 0) (aE.v.g 0)) (dm gn (ak (aE.v.nm 11) aF) B.gu rfl fe (aE.v.d 0) (aE.v.g 0)))))) (bE (fw lP)) gR)
  (aH (iQ (w_ (pF (dm (Ft rfl) (ak (pR (Nc:=["_law_one","_law_other"]) (cD.look (bj mW) ["_law_script","_law_k","_law_left_here","_law_steps","_law_made","_law_unit_here","_law_many","_law_signs","_law_others","_law_squares","_law_known","_law_due_here","_law_turned","_law_found","_law_again"] (by decide+kernel)) (Az (aE.v.g 10) B.wo (ak (bS (aE.v.nm 13) aZ) (ak (aE.v.nm 11) aF))) (λ_ _ _ _=>(uj rfl (show(["_law_one","_law_other"]:List Str).Nodup by decide+kernel))) (λ_ _ _ _=>jr) (λ_ _ _ _=>(Aj (yq hr) (dv _) (bK d4 (bS jJ aZ) (bS jJ aZ)) (bK d4 (bS jJ aZ) (bS jJ aZ)))) yz) aF) B.Gb rfl A3 (aE.v.d 16) (aE.v.g 16)))) (bE (fw lP)) gR)
  (aH (cw aE.sc.nd (aE.v.l 14) (bS (bV c4.1 c4.2 (hr.mono (by decide)) (ak (aE.v.nm 8) aF) (aE.v.d 5) (aE.v.g 5)) aZ))
  (aH (iQ (wK (AH (fb pQ (dv _) (bV c6.1 c6.2 (hr.mono (by decide)) (ak (aE.v.nm 8) aF) (aE.v.d 7) (aE.v.g 7)) lP) (wk (w_ (pF (bV c11.1 c11.2 (hr.mono (by decide)) (ak (aE.v.nm 14) (ak (iE (aE.v.nm 8) (iH (jX aZ)) kv) aF)) (aE.v.d 17) (aE.v.g 17))))))) (bE (fw lP)) gR)
  (bE (iQ (w_ (pF (bV c11.1 c11.2 (hr.mono (by decide)) (ak (aE.v.nm 8) (ak (iE (aE.v.nm 14) (iH (jX aZ)) kv) aF)) (aE.v.d 17) (aE.v.g 17)))) (bE (fw lP)) gR)))))))))))))))))))))
  (bE (fw lP)))) Q4
end
def dL:DefRec:=match mW with
 | .FunctionDef n a b _ _ _ sc _ _ pos=>⟨n,a,b,sc,pos⟩
 |_=>⟨"",L2.jq (.Pass ⟨0,0,0,0⟩),[],L2.bj (.Pass ⟨0,0,0,0⟩),⟨0,0,0,0⟩⟩
def KD:PySem.Challenge.rw_latticeworks_k39_whole_short_again.wellSaid=true:=by decide+kernel
end Row
open PySem PySem.W PyProof.Rows
set_option maxRecDepth 100000 in
set_option maxHeartbeats 0 in
theorem PySem.Challenge.cw_latticeworks_k39_whole_short_again_holds : PySem.Challenge.rw_latticeworks_k39_whole_short_again.Holds := by
 show PySem.W.holds_law Row.KD λKD=>?_;show PySem.W.holds_open (r:=PySem.Challenge.rw_latticeworks_k39_whole_short_again.row) (q:=PySem.W.view Row.PW [1,2,4,5,6,7,9,10,11,12,13,14,15,16,18,19,20,21,22,23,24,25,26,27,28,29,30,32,33,34,35,36,37,39,40,41,42,43,44,45,47,48,49,50,51,52,54,55,56,57,59,60,61,62,63,64,65,66,67,68,69,70,71]) (loose:=[]) (Xt:=λ_=>true) (XP:=λ_ _=>True) (YP:=(PySem.W.kmHook Row.KX Row.KA (λ_=>rfl) [291]).says) (d:=Row.dL) (kwd:=[]) Row.left ((PySem.W.kmHook Row.KX Row.KA (λ_=>rfl) [291]).of) ((PySem.W.kmHook Row.KX Row.KA (λ_=>rfl) [291]).keeps) (λ_ _=>trivial) (λ_ _ _ _ _=>trivial) (by kernel_rfl) (by kernel_rfl) (by kernel_rfl) (λs _=>PySem.W.recFacts_of (R:=[]) rfl) (by kernel_rfl) KD (by decide+kernel) ⟨rfl,rfl,rfl,rfl,rfl,by decide+kernel⟩ ?hw ?hc;case hw=>w_witness2
 show L2.Ta (n:=63) (k:=9) (x:="_law_script") (ts:=[(293,291)]) (K:=Row.KX) (sp:=λw=>L3.Im (Row.KX w.params) [(293,291)]) rfl (by decide) (by kernel_rfl) ⟨rfl,by decide,by decide⟩ (by kernel_rfl) rfl (λw h Y=>⟨PySem.W.km_in_of Y,⟨(λq hq=>by rcases Xh.mp hq with rfl|hq;kernel_rfl;cases hq),(λq hq=>by rcases Xh.mp hq with rfl|hq;kernel_rfl;cases hq),λq hq=>PySem.W.km_tabs_of Y _ (aa4 (f:=Prod.snd) hq)⟩⟩) ?F λ_ _ a ns hl hE=>⟨a,ns,rfl,hE,hl,λ_=>rfl⟩
 intro w mg fa h X G hmg;let e2:=hmg.symm.trans (ab5 (v:= .ref 523) X G (by kernel_rfl));cases e2;show⟨Hd.fd Row.mW "law" "law" Row.iy 522,λs v=> .of_eq rfl,λbase _ _=>(Row.Th base ⟨X,G⟩).2.imp λvs H Q E h=>L3.Hf (tl:=[(291,⟨152,32,152,66⟩,"Bench.live_rows.<locals>.<lambda>")]) (by kernel_rfl) rfl (by decide) h⟩
