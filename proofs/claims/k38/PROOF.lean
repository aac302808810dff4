import PyProof.Rows.All
import Wide.All
import OpenK.AllK
import Wide.FinOn
import Lean
import PyProof.EqAt
import PyProof.EqKinds
import PyProof.TupleCall
import PyProof.NeKinds
import KE.KUnpack
import PyProof.CallStr
import PySem.Challenge.RW_latticeworks_k38_whole_turned_steps
set_option Elab.async false
set_option autoImplicit true
set_option relaxedAutoImplicit true
set_option linter.all false
set_option maxRecDepth 100000
local macro_rules|`(def $i:declId$s:optDeclSig$v:declVal)=>`(noncomputable def $i:declId$s:optDeclSig$v:declVal)
local macro_rules|`(@[irreducible]def $i:declId$s:optDeclSig$v:declVal)=>`(@[irreducible]noncomputable def $i:declId$s:optDeclSig$v:declVal)
local macro_rules|`(abbrev $i:declId$s:optDeclSig$v:declVal)=>`(noncomputable abbrev $i:declId$s:optDeclSig$v:declVal)
local macro_rules|`(tactic|let $d:letDecl)=>`(tactic|have $d:letDecl)
local macro_rules|`(tactic|show $t)=>`(tactic|refine $t)
local macro_rules|`(tactic|simp![$l,*]$[$k]?)=>`(tactic|simp only[$l,*]$[$k]?)
def V9:=@PySem.wpAny_bind
def V_:=@PySem.Heap.get?_push_of_some
def Wa:=@List.getElem?_eq_some_iff
def Wc:=@if_neg
def Wd:=@List.length_map
def We:=@if_pos
def Wf:=@List.getElem?_set_ne
def Wg:=@Nat.le_refl
def Wh:=@List.getElem?_append_left
def Wi:=@Ne.symm
def Wj:=@Nat.le_trans
def Wk:=@PySem.wpAny_pure
def Wl:=@List.size_toArray
def Wm:=@List.getElem?_eq_getElem
def Wn:=@List.getElem?_set_self
def Wo:=@List.getD_eq_getElem?_getD
def Wq:=@PySem.Heap.lt_size
def Wr:=@List.getElem?_map
def Ws:=@Nat.pow_le_pow_right
def Wt:=@Nat.le_of_ble_eq_true
def Wu:=@PySem.Heap.get?_push_size
def Wv:=@List.length_set
def Ww:=@List.mem_cons_of_mem
def Wx:=@List.mem_cons_self
def Wy:=@List.mem_cons
def Wz:=@List.mem_append_right
def WA:=@Nat.lt_of_lt_of_le
def WB:=@Nat.ne_of_lt
def WC:=@Int.toNat_natCast
def WD:=@List.getElem?_append_right
def WE:=@List.not_mem_nil
def WG:=@List.drop_eq_getElem_cons
def WH:=@decide_eq_false
def WI:=@List.mem_of_getElem?
def WJ:=@List.map_cons
def WK:=@List.mem_map
def WL:=@List.map_map
def WM:=@List.getElem_mem
def WN:=@Int.le_trans
def WO:=@List.map_congr_left
def WQ:=@Nat.lt_irrefl
def WR:=@List.flatten_cons
def WS:=@List.length_cons
def WT:=@List.all_eq_true
def WU:=@Nat.zero_le
def WV:=@List.mem_iff_getElem
def WW:=@List.lookup_cons
def WX:=@Int.mul_le_mul_of_nonneg_right
def WY:=@PySem.Heap.size_push
def WZ:=@PySem.mem_of_lookup
def W0:=@Int.natAbs_mul
def W2:=@Option.some.inj
def W3:=@PySem.wpAny_field
def W4:=@List.mem_range
def W5:=@List.length_append
def W6:=@PySem.wpAny_seqItems
def W7:=@Int.mul_zero
def W8:=@PySem.W.mg_none_of
def W9:=@List.mem_append
def W_:=@Bool.and_eq_true
def Xa:=@List.getElem_map
def Xb:=@decide_eq_true
def Xd:=@PySem.wpAny_setField_rec
def Xe:=@List.getElem_range
def Xf:=@Nat.lt_of_le_of_lt
def Xg:=@List.length_eq_zero_iff
def Xh:=@Nat.lt_succ_self
def Xi:=@Nat.lt_succ_of_lt
def Xj:=@Bool.false_ne_true
def Xk:=@Nat.mul_le_mul
def Xl:=@congrArg
def Xm:=@Nat.mul_le_mul_right
def Xn:=@PySem.sizeLine_eq
def Xo:=@List.range_succ_eq_map
def Xp:=@List.cons.injEq
def Xq:=@List.getElem?_range
def Xr:=@not_false_eq_true
def Xs:=@PyProof.Rows.slot_tuple_getitem
def Xu:=@PySem.wpAny_callSpecial?_slot
def Xv:=@Int.mul_assoc
def Xw:=@List.append_nil
def Xx:=@Nat.not_lt_zero
def Xy:=@Int.natCast_pow
def Xz:=@List.map_append
def XA:=@Int.one_mul
def XB:=@Int.fmod_nonneg_of_pos
def XC:=@List.mem_or_eq_of_mem_set
def XD:=@List.append_assoc
def XE:=@PySem.W.kia_one
def XF:=@PyProof.Rows.callWith_type1
def XG:=@List.mem_append_left
def XH:=@Nat.pow_lt_pow_right
def XI:=@Int.mul_comm
def XJ:=@Int.le_of_lt
def XM:=@Nat.pow_add
def XN:=@Int.mul_left_comm
def XO:=@List.replicate_succ
def XQ:=@PySem.Heap.SameBut.update
def XR:=@List.getElem?_eq_none
def XS:=@Int.mul_le_mul_of_nonneg_left
def XT:=@Bool.false_eq_true
def XU:=@Nat.sub_self
def XW:=@Int.mul_fdiv_cancel_left
def XX:=@Int.fmod_lt_of_pos
def XY:=@PySem.wpAny_mono
def XZ:=@PySem.wpAny_newObj_type
def X5:=@List.range_succ
def X6:=@Nat.mul_comm
def X_:=@List.take_of_length_le
def Yb:=@PySem.wpAny_onRaise
def Yc:=@List.length_take
def Yd:=@PySem.wpAny_call_entry
def Ye:=@Int.mul_le_mul
def Yg:=@Int.natAbs_neg
def Yh:=@beq_iff_eq
def Yi:=@PySem.F.slot_zip_next
def Yj:=@PySem.wpAny_truthy_bool
def Yk:=@List.getElem?_cons_succ
def Yl:=@beq_eq_false_iff_ne
def Ym:=@Nat.le_of_not_lt
def Yn:=@PySem.W.cellsFrom_some
def Yo:=@List.drop_eq_nil_of_le
def Yp:=@PySem.wpAny_letGo
def Yq:=@Int.neg_mul
def Yr:=@Int.mul_pos
def Ys:=@Nat.le_of_lt
def Yt:=@Nat.ne_of_gt
def Yu:=@Nat.lt_trans
def Yv:=@Int.natAbs_natCast
def Yw:=@PySem.wpAny_passesOwn
def Yx:=@List.nodup_cons
def Yy:=@if_true
def Yz:=@PySem.Heap.get?_update_self
def YA:=@Int.mul_ne_zero
def YB:=@PySem.wpAny_holding
def YC:=@if_false
def YD:=@or_false
def YE:=@PySem.F.slot_tuple_iterator_next
def YF:=@Int.mul_lt_mul_of_pos_left
def YG:=@Int.fdiv_eq_ediv_of_nonneg
def YH:=@PySem.wpAny_pyIter_list
def YI:=@Int.lt_of_mul_lt_mul_left
def YJ:=@Int.le_of_mul_le_mul_left
def YK:=@Nat.log2_lt
def YL:=@Option.isSome_iff_exists
def YM:=@PySem.F.args_tuple_add_2
def YN:=@decide_eq_decide
def YO:=@Int.add_zero
def YQ:=@Nat.pow_succ
def YR:=@Int.sub_zero
def YS:=@Nat.lt_or_ge
def YT:=@Array.length_toList
def YU:=@Nat.mul_le_mul_left
def YV:=@PySem.F.entry_tuple_add
def YW:=@PySem.wpAny_execs_nil
def YX:=@PySem.wpAny_Call_Name_kw
def YY:=@List.forIn_cons
def YZ:=@Option.map_some
def Y0:=@Int.natCast_mul
def Y1:=@Nat.one_le_two_pow
def Y2:=@PySem.F.slot_tuple_add
def Y3:=@PySem.Heap.get?_update_other
def Y4:=@and_true
def Y5:=@Nat.one_mul
def Y6:=@Int.pow_add
def Y7:=@List.forIn_nil
def Y8:=@Int.zero_mul
def Y9:=@Int.mul_nonneg
def Y_:=@PySem.wpAny_rule
def Za:=@PySem.call_meets
def Zb:=@PySem.F.slot_tuple_mul
def Zc:=@PySem.wpAny_isInstance
def Zd:=@Int.natAbs_mul_self'
def Ze:=@PySem.wpAny_attempt
def Zf:=@Nat.mul_assoc
def Zg:=@Nat.pow_mul
def Zh:=@List.filterMap_cons
def Zi:=@Int.toNat_of_nonneg
def Zj:=@Bool.or_eq_true
def Zk:=@PyProof.Rows.get?_update_seq
def Zl:=@Int.mul_eq_zero
def Zm:=@Nat.min_eq_left
def Zn:=@List.mem_filterMap
def Zo:=@List.getElem?_take_of_lt
def Zp:=@List.mem_singleton
def Zq:=@Int.sub_eq_add_neg
def Zr:=@Int.ofNat_le
def Zs:=@List.map_set
def Zt:=@PySem.W.kitx_list
def Zu:=@PySem.W.kitx_dict
def Zv:=@PySem.F.args_zip_next_1
def Zw:=@List.reverse_cons
def Zx:=@Int.mul_nonneg_of_nonpos_of_nonpos
def Zy:=@Nat.lt_trichotomy
def Zz:=@List.length_range
def ZA:=@not_or
def ZC:=@Int.le_refl
def ZD:=@Nat.mul_one
def ZE:=@Nat.add_mul
def ZF:=@List.zipWith_cons_cons
def ZG:=@PySem.wpAny_standAt
def ZH:=@List.all_cons
def ZI:=@List.map_take
def ZJ:=@PySem.noFill_tuple_add
def ZK:=@beq_self_eq_true
def ZL:=@List.zipIdx_cons
def ZM:=@PySem.F.entry_zip_next
def ZN:=@PySem.wpAny_pyIter_zip
def ZO:=@List.take_succ_eq_append_getElem
def ZP:=@PySem.F.plain_sum_loop
def ZQ:=@List.ext_getElem
def ZR:=@Nat.eq_zero_of_gcd_eq_zero_right
def ZS:=@List.lookup_cons_self
def ZT:=@Rat.divInt_mul_divInt
def ZU:=@Bool.eq_iff_iff
def ZV:=@List.of_mem_zip
def ZW:=@PySem.F.slot_int_rmul
def ZX:=@PySem.wpAny_ite_false
def ZY:=@bne_iff_ne
def ZZ:=@List.zipIdx_nil
def Z0:=@PySem.wpAny_updateSeq_pair
def Z_:=@Int.zero_add
def aaa:=@Bool.and_eq_true_iff
def aab:=@Int.natAbs_of_nonneg
def aac:=@PySem.W.plainGet_of
def aad:=@List.mem_map_of_mem
def aae:=@Int.natAbs_mul_self
def aaf:=@PySem.F.args_tuple_iterator_next_1
def aag:=@Nat.le_succ
def aah:=@PyProof.Rows.assignInOrder_cons
def aai:=@PySem.W.callWith_K
def aaj:=@PySem.F.args_tuple_mul_2
def aak:=@PySem.wpAny_pyIter_tuple
def aal:=@PySem.F.entry_tuple_iterator_next
def aam:=@List.pairwise_cons
def aan:=@Int.natCast_nonneg
def aao:=@List.zip_cons_cons
def aap:=@PySem.Calls.Name_function_global
def aaq:=@PySem.seq_tuple_add
def aar:=@List.any_cons
def aas:=@PyProof.Rows.listUpdate_at
def aat:=@Int.le_of_mul_le_mul_right
def aau:=@List.any_eq_false
def aav:=@Nat.le_of_succ_le
def aaw:=@PySem.F.entry_tuple_mul
def aax:=@List.pairwise_map
def aay:=@List.getElem?_set
def aaz:=@Nat.mul_left_comm
def aaA:=@PySem.typeIs_int
def aaB:=@PySem.wpAny_binaryOp_repeat_ref
def aaC:=@List.getElem?_eq_none_iff
def aaD:=@PySem.wpAny_letOwnedTupleGo_zip
def aaE:=@List.getElem?_zip_eq_some
def aaF:=@Int.eq_of_mul_eq_mul_left
def aaG:=@Classical.byContradiction
def aaH:=@Int.natAbs_ediv_le_natAbs
def aaI:=@PySem.wpAny_execs_cons
def aaJ:=@Nat.le_of_eq
def aaK:=@PySem.codeAny_mono
def aaL:=@PySem.concat_meets
def aaM:=@List.length_drop
def aaN:=@PyProof.noPylong_of_log2
def aaO:=@Nat.le_add_right
def aaP:=@Nat.sub_zero
def aaQ:=@List.getElem?_replicate
def aaR:=@PySem.F.plainAttrs_list
def aaS:=@Nat.le_mul_of_pos_right
def aaT:=@List.nil_append
def aaU:=@PySem.wpAny_updateSeq
def aaV:=@List.length_nil
def aaW:=@beq_false_of_ne
def aaX:=@PySem.seqIndex_of
def aaY:=@Prod.mk.inj
def aaZ:=@Int.mul_add
def aa0:=@Int.pow_pos
def aa1:=@Bool.false_and
def aa2:=@PySem.W.methodCall_KW
def aa3:=@List.length_singleton
def aa4:=@List.getElem?_toArray
def aa5:=@Bool.and_false
def aa6:=@PySem.wpAny_newTuple
def aa7:=@List.take_append_drop
def aa8:=@List.contains_iff_mem
def aa9:=@Int.add_nonneg
def aa_:=@Rat.divInt_sub_divInt
def aba:=@Int.mul_fdiv_add_fmod
def abb:=@Int.eq_of_sub_eq_zero
def abc:=@List.drop_zero
def abd:=@List.set_append_right
def abe:=@List.filterMap_append
def abf:=@Prod.mk.injEq
def abg:=@PySem.W.mg_of
def abh:=@Nat.min_self
def abi:=@Nat.zero_add
def abj:=@Nat.gcd_comm
namespace L2
open PySem PySem.Spec PyProof.Rows
abbrev Key:=Sum Int Str
def ML:Key->Value->Bool
 | .inl k,v=>Value.isInt k v
 | .inr x,v=>Value.isStrOf x v
def VC(w:World):Key->Int
 | .inl k=>hashInt k
 | .inr x=>hashStr w x
def fg:∀ {k:Key} {v:Value},ML k v=true->(∃i t,k=Sum.inl i/\v=Value.int i t)\/(∃x t,k=Sum.inr x/\v=Value.str x t)
 | .inl i,v,h=>by
   obtain⟨t,e⟩:=Value.isInt_shape (k:=i) (v:=v) h;show .inl ⟨i,t,rfl,e⟩
 | .inr x,v,h=>by
   obtain⟨t,e⟩:=Value.isStrOf_shape (x:=x) (v:=v) h;show .inr ⟨x,t,rfl,e⟩
def RI(a b:Int):decide ((Sum.inl a:Key)=Sum.inl b)=(a==b):=by
 by_cases e:a=b
 . subst e;simp
 . have h:¬(Sum.inl a:Key)=Sum.inl b:=λq=>e (Sum.inl.inj q);rw[WH h];show(Yl.mpr e).symm
def RL(a b:Str):decide ((Sum.inr a:Key)=Sum.inr b)=decide (a=b):=by
 by_cases e:a=b
 . subst e;simp
 . have h:¬(Sum.inr a:Key)=Sum.inr b:=λq=>e (Sum.inr.inj q);rw[WH h,WH e]
def Qc(a:Int)(b:Str):decide ((Sum.inl a:Key)=Sum.inr b)=false:=WH (λq=>nomatch q)
def Qh(a:Str)(b:Int):decide ((Sum.inr a:Key)=Sum.inl b)=false:=WH (λq=>nomatch q)
def EA(prog:Program)(w:World):PySem.KeyKind prog w Key where
 is:=ML
 hash:=VC w
 inj:=λv a b g d=>by
  rcases fg g with⟨i,t,rfl,rfl⟩|⟨x,t,rfl,rfl⟩
  . rcases fg d with⟨j,u,rfl,e⟩|⟨y,u,rfl,e⟩
    . injection e with e1 _;rw[e1]
    . show nomatch e
  . rcases fg d with⟨j,u,rfl,e⟩|⟨y,u,rfl,e⟩
    . show nomatch e
    . injection e with e1 _;rw[e1]
 byValue:=λk v h=>by
  rcases fg h with⟨i,t,rfl,rfl⟩|⟨x,t,rfl,rfl⟩<;>rfl
 pyHash:=λc h=>by
  rcases fg c with⟨i,t,rfl,rfl⟩|⟨x,t,rfl,rfl⟩
  . show wpAny_pyHash_int h
  . show wpAny_pyHash_str h
 eqBool:=λf c h=>by
  rcases fg f with⟨i,t,rfl,rfl⟩|⟨x,t,rfl,rfl⟩
  . rcases fg c with⟨j,u,rfl,rfl⟩|⟨y,u,rfl,rfl⟩
    . rw[RI]at h;show wpAny_eqBool_int h
    . rw[Qc]at h;show SeqAt.EqAt.int_str i t y u _ _ _ _ h
  . rcases fg c with⟨j,u,rfl,rfl⟩|⟨y,u,rfl,rfl⟩
    . rw[Qh]at h;show SeqAt.EqAt.str_int x t j u _ _ _ _ h
    . rw[RL]at h;show wpAny_eqBool_str h
 «strs» :=λk x t v h=>by
  rcases fg h with⟨i,u,rfl,e⟩|⟨y,u,rfl,e⟩
  . show nomatch e
  . injection e with e1 _;subst e1;cases v<;>rfl
inductive V where
 |aD|bl (b:Bool)|int (i:Int)|str (x:Str)|uU (b:Array UInt8)|u0 (b:UInt64)|ref (a:Addr)|ty (n:String)
 deriving DecidableEq
def RelV:V->Value->Prop
 | .aD,u=>u=Value.none
 | .bl b,u=>u=Value.bool b
 | .int i,u=>∃t,u=Value.int i t
 | .str x,u=>∃t,u=Value.str x t
 | .uU b,u=>∃t,u=Value.bytes b t
 | .u0 b,u=>∃t,u=Value.float b t
 | .ref a,u=>u=Value.ref a
 | .ty n,u=>u=Value.type n
abbrev Vals:List V->List Value->Prop:=Paired RelV
def Vals.length{xs:List V}{us:List Value}(r:Vals xs us):xs.length=us.length:=Paired.length r
def Vals.get:∀ {xs:List V} {us:List Value} {i:Nat} {x:V},Vals xs us->xs[i]?=some x->∃u,us[i]?=some u/\RelV x u
 |_,_,_,_,.nil,e=>by simp at e
 |_,_,0,_,.cons r _,e=>by simp at e;subst e;show⟨_,rfl,r⟩
 |_,_,i+1,x,.cons _ t,e=>by
  obtain⟨u,b,a⟩:=Vals.get (i:=i) (x:=x) t (by simpa using e);show⟨u,by simpa using b,a⟩
def Vals.set(r:RelV x u):∀ {xs:List V} {us:List Value} (i:Nat),Vals xs us->Vals (xs.set i x) (us.set i u)
 |_,_,_,.nil=> .nil
 |_,_,0,.cons _ t=> .cons r t
 |_,_,i+1,.cons q t=> .cons q (Vals.set r i t)
def Vals.append:∀ {xs ys:List V} {us ws:List Value},Vals xs us->Vals ys ws->Vals (xs++ys) (us++ws)
 |_,_,_,_,.nil,s=>s
 |_,_,_,_,.cons r t,s=> .cons r (Vals.append t s)
def Vals.take:∀ {xs:List V} {us:List Value} (n:Nat),Vals xs us->Vals (xs.take n) (us.take n)
 |_,_,0,_=> .nil
 |_,_,_+1,.nil=> .nil
 |_,_,n+1,.cons r t=> .cons r (Vals.take n t)
def Vals.drop:∀ {xs:List V} {us:List Value} (n:Nat),Vals xs us->Vals (xs.drop n) (us.drop n)
 |_,_,0,r=>r
 |_,_,_+1,.nil=> .nil
 |_,_,n+1,.cons _ t=>Vals.drop n t
def pQ:Option V->Option Value->Prop
 |some v,some u=>RelV v u
 |none,none=>True
 |_,_=>False
def KV{κ:Type}:List (κ×V)->List (κ×Value)->Prop:=Paired λ(p:κ×V) (q:κ×Value)=>p.1=q.1/\RelV p.2 q.2
def kV:Key->V
 | .inl i=> .int i
 | .inr x=> .str x
inductive HO where
 |lst (xs:List V)
 |tup (xs:List V)
 |dK (kvs:List (Key×V))|dT (kvs:List (List Key×V))
 |set (S:Int->Bool) (n:Nat)
 |ins (C dx:Addr) (fs:List (Str×V))
 |own (x:Addr)
 |xd (fs:List (Str×V))
 |met (f x:Addr)
 |QX (lo hi:Int)
 |gL (o:Obj) (u:HO)
 |kl (ps:Array Value)
 |ext (φ:Heap->Prop)
abbrev Hp:=Addr->Option HO
def upd(H:Hp)(a:Addr)(o:HO):Hp:=λb=>if b=a then some o else H b
def a9:upd H a o a=some o:=by unfold upd;rw[We rfl]
def aG(h:b≠a):upd H a o b=H b:=by unfold upd;rw[Wc h]
def NR:upd (upd H a o) a u=upd H a u:=by
 funext b;unfold upd;split<;>rfl
def dG{H:Hp}{a b:Addr}{o:HO}(h:H a=some o)(h':H b=none):a≠b:=by
 intro e;subst e;rw[h]at h';cases h'
section
variable (P:Program)(w:World)
def dw(H:Hp)(h:Heap)(a:Addr):HO->Prop
 | .lst c=>c.length<=sizeLine/\∃(e:List Value) (n:Nat),Vals c e/\h.get? a=some {cls:= .type "list",data:= .seq e.toArray n}
 | .tup c=>c.length<=sizeLine/\∃e:List Value,Vals c e/\IsTup h a e.toArray
 | .dK b=>b.length<=sizeLine/\(a==sysModules)=false/\∃i,KV b i/\h.DictOf (EA P w) a i
 | .dT b=>b.length<=sizeLine/\(a==sysModules)=false/\∃c:List (List Key×Addr×Value),
    Paired (λ(p:List Key×V) (q:List Key×Addr×Value)=>p.1=q.1/\H q.2.1=some (.tup (p.1.map kV))/\RelV p.2 q.2.2) b c/\
    ∃o l y,h.get? a=some o/\o.ExactDict/\o.data= .dict l y/\l.toList=c.map (entryOfKey (tupleKind (EA P w)))/\(c.map (·.1)).Nodup
 | .set S n=>h.SetOf (intKind P w) a S n
 | .ins C g fs=>H g=some (.own a)/\fs.length<=1000/\g≠a/\h.get? a=some (PySem.W.instObj C g)/\
    ∃d,h.Ns1 g d/\(∀f,pQ (fs.lookup f) (d f))/\PySem.Within d (fs.map (·.1))
 | .own _=>∃o,h.get? a=some o
 | .xd fs=>∃d,h.Ns1 a d/\∀f,pQ (fs.lookup f) (d f)
 | .QX r s=>∃t u v,h.get? a=some {cls:= .type "range",data:= .fields #[.int r t,.int s u,.int 1 v]}
 | .gL o u=>h.get? a=some o/\dw H h a u
 | .kl m=>h.get? a=some {cls:= .none,data:= .fields m}
 | .met f x=>h.get? a=some (PySem.W.methodObj (.ref f) (.ref x))
 | .ext φ=>φ h/\(∃o,h.get? a=some o)/\∀k j:Heap,φ k->(∀o,k.get? a=some o->j.get? a=some o)->φ j
def iC(H:Hp)(h:Heap):Prop:=∀a o,H a=some o->dw P w H h a o
end
section
variable {P:Program}{w:World}{H H':Hp}{h h':Heap}{a:Addr}{o:HO}
def dw.lt(x:dw P w H h a o):a<h.objs.size:=by
 cases o with
 |lst c=>obtain⟨_,_,_,_,e⟩:=x;show Wq e
 |tup c=>obtain⟨_,_,_,p⟩:=x;show p.lt
 |dK b=>obtain⟨_,_,_,_,o,_,_,e,_⟩:=x;show Wq e
 |dT b=>obtain⟨_,_,_,_,o,_,_,e,_⟩:=x;show Wq e
 |set S n=>obtain⟨o,_,_,_,e,_⟩:=x;show Wq e
 |ins C k fs=>obtain⟨_,_,_,e,_⟩:=x;show Wq e
 |own y=>obtain⟨_,e⟩:=x;show Wq e
 |xd fs=>obtain⟨_,⟨_,_,_,e,_⟩,_⟩:=x;show Wq e
 |QX i j=>obtain⟨_,_,_,e⟩:=x;show Wq e
 |gL g u=>obtain⟨e,_⟩:=x;show Wq e
 |kl d=>show Wq (show h.get? a=some _ from x)
 |met f y=>show Wq (show h.get? a=some _ from x)
 |ext φ=>obtain⟨_,⟨_,e⟩,_⟩:=x;show Wq e
def Paired.Kg{α β:Type}{F G:α->β->Prop}:∀ {c:List α} {l₂:List β},Paired F c l₂->(∀a b,F a b->G a b)->Paired G c l₂
 |_,_,.nil,_=> .nil
 |_,_,.cons r t,f=> .cons (f _ _ r) (Paired.Kg t f)
def dw.pN(x:dw P w H h a o)(k:∀b u,(b=a\/H b=some (.own a))->h.get? b=some u->h'.get? b=some u)
 (G:∀b,H b=some (.own a)->H' b=some (.own a)) (F:∀b xs,H b=some (.tup xs)->H' b=some (.tup xs)):dw P w H' h' a o:=by
 induction o with
 |lst xs=>obtain⟨z,A,n,r,e⟩:=x;show⟨z,A,n,r,k _ _ (.inl rfl) e⟩
 |tup xs=>obtain⟨z,A,r,g,e,c⟩:=x;show⟨z,A,r,g,k _ _ (.inl rfl) e,c⟩
 |dK s=>obtain⟨z,y,D,r,g,i,j,e,c⟩:=x;show⟨z,y,D,r,g,i,j,k _ _ (.inl rfl) e,c⟩
 |dT s=>
  obtain⟨z,y,xs,r,g,i,j,e,c⟩:=x;show⟨z,y,xs,Paired.Kg r λp q z=>⟨z.1,F _ _ z.2.1,z.2.2⟩,g,i,j,k _ _ (.inl rfl) e,c⟩
 |set S n=>obtain⟨g,i,j,t,e,c⟩:=x;show⟨g,i,j,t,k _ _ (.inl rfl) e,c⟩
 |ins C L fs=>
  obtain⟨d,z,ne,e,m,⟨l,i,j,I,c⟩,r⟩:=x;show⟨G _ d,z,ne,k _ _ (.inl rfl) e,m,⟨l,i,j,k _ _ (.inr d) I,c⟩,r⟩
 |own y=>obtain⟨g,e⟩:=x;show⟨g,k _ _ (.inl rfl) e⟩
 |xd fs=>obtain⟨m,⟨l,i,j,e,c⟩,r⟩:=x;show⟨m,⟨l,i,j,k _ _ (.inl rfl) e,c⟩,r⟩
 |QX J K=>obtain⟨t,u,v,e⟩:=x;show⟨t,u,v,k _ _ (.inl rfl) e⟩
 |gL g u E=>obtain⟨e,q⟩:=x;show⟨k _ _ (.inl rfl) e,E q⟩
 |kl B=>
  have e:h.get? a=some {cls:= .none,data:= .fields B}:=x;change h'.get? a=some {cls:= .none,data:= .fields B};show k a _ (.inl rfl) e
 |met f y=>
  have e:h.get? a=some (PySem.W.methodObj (.ref f) (.ref y)):=x;change h'.get? a=some (PySem.W.methodObj (.ref f) (.ref y));show k a _ (.inl rfl) e
 |ext φ=>obtain⟨p,⟨o,e⟩,st⟩:=x;show⟨st _ _ p λo q=>k _ _ (.inl rfl) q,⟨o,k _ _ (.inl rfl) e⟩,st⟩
def iC.lt(x:iC P w H h)(e:H a=some o):a<h.objs.size:=(x a o e).lt
def iC.fresh(x:iC P w H h)(e:h.objs.size<=a):H a=none:=by
 cases q:H a with
 |none=>rfl
 |some u=>show absurd (WA (x.lt q) e) (WQ _)
def iC.kept(x:iC P w H h)(k:∀b u,h.get? b=some u->h'.get? b=some u):iC P w H h':=λa o e=>
 (x a o e).pN (λb u _ q=>k b u q) (λ_ q=>q) λ_ _ q=>q
def iC.laid(x:iC P w H h)(k:∀b u,h.get? b=some u->h'.get? b=some u)(g:h.objs.size<=a)(new:dw P w (upd H a o) h' a o):iC P w (upd H a o) h':=λb u e=>by
 let d:=x.fresh g;by_cases f:b=a
 . subst f;rw[a9]at e;cases e;show new
 . rw[aG f]at e;show(x b u e).pN (λc v _ q=>k c v q) (λc q=>by rw[aG (dG q d)];show q) λc i q=>by rw[aG (dG q d)];show q
end
def Rd(H:Hp)(a:Addr)(u:HO):Prop:=H a=some u\/∃o,H a=some (.gL o u)
def Rd.of(h:H a=some u):Rd H a u:= .inl h
def Rd.ok(r:Rd H a u)(x:iC P w H h):dw P w H h a u:=by
 rcases r with r|⟨o,r⟩
 . show x a u r
 . obtain⟨_,q⟩:=x a _ r;show q
def Mv:Option HO->Prop
 |some (.lst _)=>True
 |some (.dK _)=>True
 |some (.dT _)=>True
 |some (.set _ _)=>True
 |some (.ins _ _ _)=>True
 |some (.ext _)=>True
 |_=>False
section
variable {P:Program}{w:World}{H:Hp}{h h':Heap}{x e:Addr}{o':HO}
def iC.write(ok:iC P w H h)(mu:Mv (H x))(n:e=x\/H e=some (.own x))(k:∀b u,b≠e->h.get? b=some u->h'.get? b=some u)(l:∃u,h'.get? e=some u)
 (new:dw P w (upd H x o') h' x o'):iC P w (upd H x o') h':=λb u q=>by
 let d:∀c y,H c=some (.own y)->c≠x:=λc y r z=>by subst z;rw[r]at mu;show mu
 let f:∀c g,H c=some (.tup g)->c≠x:=λc g r z=>by subst z;rw[r]at mu;show mu
 by_cases j:b=x
 . subst j;rw[a9]at q;cases q;show new
 . rw[aG j]at q;by_cases a:b=e
   . have m:H b=some (.own x):=by
      rcases n with z|z
      . show absurd (a.trans z) j
      . rw[a];show z
     rw[q]at m;cases m;obtain⟨v,o⟩:=l;show⟨v,by rw[a];show o⟩
   . show(ok b u q).pN (λc v i r=>k c v ?_ r) (λc r=>by rw[aG (d c b r)];show r) λc g r=>by rw[aG (f c g r)];show r
     rcases i with rfl|i
     . show a
     . rintro rfl;rcases n with z|z
       . show d c b i z
       . rw[i]at z;cases z;show j rfl
end
structure Un(fs ex:List Addr)(H H':Hp)(h h':Heap):Prop where
 keep:∀b o,h.get? b=some o->H b=none->b∉fs->b∉ex->h'.get? b=some o
 slot:∀b o,h.get? b=some o->H b=none->b∈fs->b∉ex->∃sl,h'.get? b=some {o with slots:=sl}
 free:∀b o,h.get? b=some o->H b=none->b∉ex->H' b=none
 there:∀b o,h.get? b=some o->b∉ex->∃o',h'.get? b=some o'
 ph:∀b xs,H b=some (.tup xs)->H' b=some (.tup xs)
 oQ:∀b o u,H b=some (.gL o u)->H' b=some (.gL o u)
 nZ:∀b ps,H b=some (.kl ps)->∃more,H' b=some (.kl (ps++more))
section
variable {fs fs' ex ex':List Addr}{H H1 H2:Hp}{h h1 h2 h':Heap}{a x e:Addr}{o:HO}
def Un.any(u:Un fs ex H H1 h h1)(q:h.get? b=some c)(n:H b=none)(d:b∉ex):∃g,h1.get? b=some {c with slots:=g}:=by
 by_cases f:b∈fs
 . show u.slot b c q n f d
 . show⟨c.slots,u.keep b c q n f d⟩
def Un.kept(k:∀b u,h.get? b=some u->h'.get? b=some u):Un fs ex H H h h':=
 ⟨λb c q _ _ _=>k b c q,λb c q _ _ _=>⟨c.slots,k b c q⟩,λ_ _ _ n _=>n,λb c q _=>⟨c,k b c q⟩,λ_ _ q=>q,λ_ _ _ q=>q,λ_ d q=>⟨#[],by rw[q];simp⟩⟩
def Un.refl:Un fs ex H H h h:=Un.kept λ_ _ q=>q
def Un.laid(k:∀b u,h.get? b=some u->h'.get? b=some u)(f:h.objs.size<=a)(c:H a=none):Un fs ex H (upd H a o) h h' where
 keep:=λb u q _ _ _=>k b u q
 slot:=λb u q _ _ _=>⟨u.slots,k b u q⟩
 free:=λb u q n _=>by rw[aG (WB (WA (Wq q) f))];show n
 there:=λb u q _=>⟨u,k b u q⟩
 ph:=λb d q=>by rw[aG (dG q c)];show q
 oQ:=λb u d q=>by rw[aG (dG q c)];show q
 nZ:=λb g q=>⟨#[],by rw[aG (dG q c),q];simp⟩
def Un.write(mu:Mv (H x))(l:e=x\/H e=some (.own x))(k:∀b u,b≠e->h.get? b=some u->h'.get? b=some u)(f:∃u,h'.get? e=some u):Un fs ex H (upd H x o) h h':=by
 let g:∀b,H b=none->b≠x:=λb n z=>by subst z;rw[n]at mu;show mu
 let i:∀b,H b=none->b≠e:=λb n z=>by
  subst z;rcases l with r|r
  . show g b n r
  . rw[n]at r;cases r
 let d:∀b u,H b=some u->¬Mv (some u)->b≠x:=λb u q nm z=>by subst z;rw[q]at mu;show nm mu
 show⟨λb u q n _ _=>k b u (i b n) q,λb u q n _ _=>⟨u.slots,k b u (i b n) q⟩,λb u q n _=>by rw[aG (g b n)];show n,λb u q _=>?_,
  λb j q=>by rw[aG (d b _ q λz=>z)];show q,λb u j q=>by rw[aG (d b _ q λz=>z)];show q,λb m q=>⟨#[],by rw[aG (d b _ q λz=>z),q];simp⟩⟩
 by_cases c:b=e
 . subst c;show f
 . show⟨u,k b u c q⟩
end
def MT(h:Heap)(H:Hp):List Addr:=(List.range h.objs.size).filter λa=>(H a).isSome
def pB(h:Heap)(H:Hp):Heap:=PySem.W.hideAll h (MT h H)
def GW(h:Heap)(H:Hp):(pB h H).objs.size=h.objs.size:=PySem.W.hideAll_size _ _
def qH{h:Heap}(e:h.get? b=some o)(n:H b=none):(pB h H).get? b=some o:=
 PySem.W.hideAll_get _ e λa=>by
  let q:(H b).isSome=true:=(List.mem_filter.mp a).2;rw[n]at q;simp at q
def Ph{h:Heap}(e:(pB h H).get? b=some o):h.get? b=some o/\H b=none:=by
 let a:h.get? b=some o:=PySem.W.of_hideAll (MT h H) e;show⟨a,?_⟩;cases q:H b with
 |none=>rfl
 |some x=>
  have c:b∈MT h H:=List.mem_filter.mpr ⟨W4.mpr (Wq a),by simp[q]⟩;let z:(pB h H).get? b=none:=PySem.W.hideAll_none (MT h H) c;rw[z]at e;cases e
def OG(g h:Heap)(L:Addr):List (Addr×Obj):=(List.range h.objs.size).filterMap λa=>if a=L\/(g.get? a).isSome=true then none else(h.get? a).map λo=>(a,o)
def rest(g h:Heap)(L d:Addr):List (Addr×Obj):=(OG g h L).filter λp=>decide (p.1≠d)
structure Mod(K:PySem.W.Frag)(mg:Str->Option Value)(base:Heap):Prop where
 IL:K.In base
 glob:base.Ns mainGlobals mg
 blt:∃mb,base.Ns builtinsNs mb/\∀x:Str,x≠"__name__"->mb x=bootBuiltins x
 nolimit:base.NoLimit
 seer:base.NoSeer
 bmain:∃bm ob,mg "__builtins__"=some (.ref bm)/\bm≠builtinsNs/\base.get? bm=some ob/\ob.cls= .type "module"/\ob.dict=some builtinsNs/\ob.data= .plain
structure Cx where
 prog:Program
 w:World
 K:PySem.W.Frag
 mg:Str->Option Value
 base:Heap
 A:Around
 N:List Str
 s₀:Shared
 H₀:Hp
 env:Env
 outer:List Env
 stack:List Env
 ex:List Addr
 fn:Str->Bool
 calm:Bool
 pn:List (Addr×Obj)
 xe:Value->Shared->Prop
def pY(l:List Env):List Addr:=l.filterMap (·.frame)
abbrev Cx.fs(X:Cx):List Addr:=pY X.outer
def Bg(a:Scope)(x:Str):Prop:=a.names.lookup x=some .local\/a.names.lookup x=some .cell\/a.names.lookup x=some .free
def Loc(a:Scope)(x:Str):Prop:=a.names.lookup x=some .local\/a.names.lookup x=some .cell
def Look(env:Env)(h:Heap)(m:Str->Option Value)(x:Str)(u:Value):Prop:=
 (env.kindOf x=some .local/\m x=some u)\/((env.kindOf x=some .cell\/env.kindOf x=some .free)/\∃c,env.cells.lookup x=some c/\h.IsCell c (some u))
structure Cx.Ok(X:Cx):Prop where
 mod:Mod X.K X.mg X.base
 kind:X.env.scope.kind= .function
 glob:X.env.globals=mainGlobals
 blt:X.env.builtins=builtinsNs
 above:X.s₀.heap.objs.size<=X.env.locals
 inj:∀x y c,X.env.cells.lookup x=some c->X.env.cells.lookup y=some c->x=y
 has:∀x,(X.env.kindOf x=some .cell\/X.env.kindOf x=some .free)->∃c,X.env.cells.lookup x=some c
 AS:∀x c,X.fn x=true->X.env.cells.lookup x=some c->X.s₀.heap.objs.size<=c
 hd:X.calm=true->X.A.handled=none
 frames:X.A.frames=some X.stack
 E1:X.stack=X.outer\/(X.stack=X.env::X.outer/\X.env.frame=some X.env.locals)
 Hc:∀b∈X.ex,b≠X.env.locals/\∀x c,X.env.cells.lookup x=some c->c≠b
 bs:∀b o,X.base.get? b=some o->X.s₀.heap.get? b=some o/\X.H₀ b=none
 tF:X.base.objs.size<=X.s₀.heap.objs.size
 vD:∀b o,X.base.get? b=some o->b∉X.ex
 vF:∀b∈X.ex,b∉X.fs
 ly:X.s₀.heap.FunFrames X.base X.outer
 xt:∀b∈X.fs,X.H₀ b=none
 gt:X.prog.given.tree=none
structure Inv(X:Cx)(pins:List (Addr×Obj))(σ:List (Option V))(H:Hp)(s:Shared):Prop where
 ok:X.Ok
 os:s.os=X.s₀.os
 bare:AllBare s.gens
 base:Un X.fs X.ex X.H₀ H X.s₀.heap s.heap
 loc:∃m,s.heap.Ns X.env.locals m/\∀(i:Nat) (x:Str) (v:V),X.N[i]?=some x->σ[i]?=some (some v)->Bg X.env.scope x->∃u,RelV v u/\Look X.env s.heap m x u
 cell:∀x c,X.env.cells.lookup x=some c->∃v,s.heap.IsCell c v
 free:H X.env.locals=none
 iU:∀x c,X.env.cells.lookup x=some c->H c=none
 pin:∀p∈X.pn++pins,s.heap.get? p.1=some p.2/\H p.1=none/\p.1≠X.env.locals/\p.1∉X.fs/\∀v,p.2.data≠ .cell v
 aK:iC X.prog X.w H s.heap
 len:σ.length=X.N.length
section
variable {X:Cx}{pins:List (Addr×Obj)}{σ:List (Option V)}{H H':Hp}{s:Shared}{h':Heap}
def Cx.Ok.Vr(ok:X.Ok)(e:X.base.get? b=some o):b∉X.fs:=λa=>by
 let:=(ok.ly.mem a).1;rw[e]at this;cases this
def Inv.bs(I:Inv X pins σ H s):∀b o,X.base.get? b=some o->s.heap.get? b=some o/\H b=none:=λb o e=>
 ⟨I.base.keep b o (I.ok.bs b o e).1 (I.ok.bs b o e).2 (I.ok.Vr e) (I.ok.vD b o e),I.base.free b o (I.ok.bs b o e).1 (I.ok.bs b o e).2 (I.ok.vD b o e)⟩
def Inv.bk(I:Inv X pins σ H s):∀b o,X.base.get? b=some o->s.heap.get? b=some o:=λb o e=>(I.bs b o e).1
def Inv.mod(I:Inv X pins σ H s):Mod X.K X.mg X.base:=I.ok.mod
def Inv.g4(I:Inv X pins σ H s):X.K.In s.heap:=I.ok.mod.IL.keeps I.bk
def Inv.nolimit(I:Inv X pins σ H s):s.heap.NoLimit:=I.ok.mod.nolimit.keeps I.bk
def Inv.lt(I:Inv X pins σ H s):X.env.locals<s.heap.objs.size:=let⟨_,hn,_⟩:=I.loc;hn.lt
def Inv.sz(I:Inv X pins σ H s):X.s₀.heap.objs.size<=s.heap.objs.size:=Wj I.ok.above (Ys I.lt)
def Inv.RT(I:Inv X pins σ H s){a:Addr}(h:s.heap.objs.size<=a):a∉X.fs:=λc=>by
 obtain⟨_,o,b,_⟩:=I.ok.ly.mem c;show absurd (WA (Wq b) (Wj I.sz h)) (WQ _)
def Inv.Bz(I:Inv X pins σ H s):∀x c,X.env.cells.lookup x=some c->c≠X.env.locals:=λx c e z=>by
 obtain⟨v,o,d,f⟩:=I.cell x c e;obtain⟨m,⟨g,h,i,a,b,_⟩,_⟩:=I.loc;rw[z,a]at d;cases d;rw[b]at f;cases f
def Inv.ly(I:Inv X pins σ H s):s.heap.FunFrames X.base X.outer:=by
 let all:∀(l:List Env),(∀b∈pY l,b∈X.fs)->X.s₀.heap.FunFrames X.base l->s.heap.FunFrames X.base l:=by
  intro l;induction l with
  |nil=>intro _ _;trivial
  |cons p r g=>
   intro f k;obtain⟨m,⟨L,o,a,j,i,n⟩,h⟩:=k;let d:L∈X.fs:=f L (by unfold pY;rw[Zh,a];show Wx);obtain⟨q,e⟩:=I.base.slot L o i (I.ok.xt L d) d λz=>I.ok.vF L z d;show⟨m,⟨L,_,a,j,e,n⟩,g (λb c=>f b (by unfold pY;rw[Zh,a];show Ww _ c)) h⟩
 show all X.outer (λ_ c=>c) I.ok.ly
def Inv.stack(I:Inv X pins σ H s):s.heap.FunFrames X.base X.stack:=by
 rcases I.ok.E1 with e|⟨e,b⟩
 . rw[e];show I.ly
 . rw[e];obtain⟨m,a,_⟩:=I.loc;show .cons (by rw[I.ok.kind];decide) b a ?_ I.ly;show Heap.get?_none_of_le (Wj I.ok.tF I.ok.above)
def Inv.CV(I:Inv X pins σ H s):∀b∈pY X.stack,b∈X.env.locals::X.fs:=λb a=>by
 rcases I.ok.E1 with e|⟨e,c⟩
 . rw[e]at a;show Ww _ a
 . rw[e]at a;unfold pY at a;rw[Zh,c]at a;show a
def Inv.xH(I:Inv X pins σ H s):∀b∈pY X.stack,H b=none:=λb a=>by
 rcases Wy.mp (I.CV b a)with e|a
 . rw[e];show I.free
 . obtain⟨_,o,c,_⟩:=I.ok.ly.mem a;show I.base.free b o c (I.ok.xt b a) λz=>I.ok.vF b z a
def Inv.step{g':Array GenState}{t':Nat}{d':Drawn}{ch:List Addr}(I:Inv X pins σ H s)
 (g:∀b∈ch,(b∈X.ex\/X.s₀.heap.objs.size<=b)/\b≠X.env.locals/\(∀x c,X.env.cells.lookup x=some c->c≠b)/\∀p∈X.pn++pins,p.1≠b)
 (keep:∀b o,b≠X.env.locals->b∉X.fs->b∉ch->s.heap.get? b=some o->H b=none->h'.get? b=some o)
 (slot:∀b o,b≠X.env.locals->b∈X.fs->b∉ch->s.heap.get? b=some o->H b=none->∃D,h'.get? b=some {o with slots:=D}) (free:∀b o,b∉ch->s.heap.get? b=some o->H b=none->H' b=none)
 (there:∀b o,b∉ch->s.heap.get? b=some o->∃o',h'.get? b=some o')
 (ph:∀b xs,H b=some (.tup xs)->H' b=some (.tup xs)) (oQ:∀b o u,H b=some (.gL o u)->H' b=some (.gL o u)) (nZ:∀b B,H b=some (.kl B)->∃more,H' b=some (.kl (B++more)))
 (ns:∀m,s.heap.Ns X.env.locals m->h'.Ns X.env.locals m) (Q:iC X.prog X.w H' h') (O:AllBare g'):
 Inv X pins σ H' {s with heap:=h',gens:=g',drawn:=d',toks:=t'}:=by
 let y:∀b o,X.s₀.heap.get? b=some o->b≠X.env.locals:=λb o e=>WB (WA (Wq e) I.ok.above)
 let h:∀b o,X.s₀.heap.get? b=some o->b∉X.ex->b∉ch:=λb o e a t=>by
  rcases(g b t).1 with z|z
  . show a z
  . show absurd (WA (Wq e) z) (WQ _)
 let cellK:∀x c,X.env.cells.lookup x=some c->∀v,s.heap.IsCell c v->h'.IsCell c v:=λx c e v ⟨o,w,E⟩=>by
  let f:c∉ch:=λz=>(g c z).2.2.1 x c e rfl;by_cases J:c∈X.fs
  . obtain⟨D,q⟩:=slot c o (I.Bz x c e) J f w (I.iU x c e);show⟨_,q,E⟩
  . show⟨o,keep c o (I.Bz x c e) J f w (I.iU x c e),E⟩
 show⟨I.ok,I.os,O,⟨λb o e n t a=>?_,λb o e n t a=>?_,λb o e n a=>?_,λb o e a=>?_,λb xs e=>ph b xs (I.base.ph b xs e),λb o xs e=>oQ b o xs (I.base.oQ b o xs e),λb B e=>?_⟩,?_,λx c e=>?_,?_,λx c e=>?_,λp G=>?_,Q,I.len⟩
 . show keep b o (y b o e) t (h b o e a) (I.base.keep b o e n t a) (I.base.free b o e n a)
 . obtain⟨D,j⟩:=I.base.slot b o e n t a;obtain⟨C,A⟩:=slot b _ (y b o e) t (h b o e a) j (I.base.free b o e n a);show⟨C,A⟩
 . obtain⟨o',j⟩:=I.base.there b o e a;show free b o' (h b o e a) j (I.base.free b o e n a)
 . obtain⟨o',j⟩:=I.base.there b o e a;show there b o' (h b o e a) j
 . obtain⟨L,j⟩:=I.base.nZ b B e;obtain⟨K,A⟩:=nZ b _ j;show⟨L++K,by rw[A,Array.append_assoc]⟩
 . obtain⟨m,M,N⟩:=I.loc;show⟨m,ns m M,λi x v j A P=>?_⟩;obtain⟨u,r,l⟩:=N i x v j A P;show⟨u,r,?_⟩;rcases l with l|⟨k,c,e,z⟩
   . show .inl l
   . show .inr ⟨k,c,e,cellK x c e _ z⟩
 . obtain⟨v,z⟩:=I.cell x c e;show⟨v,cellK x c e v z⟩
 . obtain⟨m,⟨o,_,_,w,_⟩,_⟩:=I.loc;show free _ o (λz=>(g _ z).2.1 rfl) w I.free
 . obtain⟨v,o,w,E⟩:=I.cell x c e;show free c o (λz=>(g c z).2.2.1 x c e rfl) w (I.iU x c e)
 . obtain⟨e,n,ne,F,d⟩:=I.pin p G;let f:p.1∉ch:=λz=>(g p.1 z).2.2.2 p G rfl;show⟨keep p.1 p.2 ne F f e n,free p.1 p.2 f e n,ne,F,d⟩
def Inv.un(I:Inv X pins σ H s)(u:Un X.fs [] H H' s.heap h')(k:iC X.prog X.w H' h'):Inv X pins σ H' {s with heap:=h',toks:=t'}:=by
 obtain⟨m,⟨o,t,v,g,r⟩,_⟩:=id I.loc;obtain⟨l,j⟩:=u.any g I.free (by simp)
 show I.step (g':=s.gens) (d':=s.drawn) (ch:=[]) (λ_ z=>nomatch z) (λb o _ c _ e n=>u.keep b o e n c (by simp)) (λb o _ c _ e n=>u.slot b o e n c (by simp)) (λb o _ e n=>u.free b o e n (by simp)) (λb o _ e=>u.there b o e (by simp)) u.ph u.oQ u.nZ (λq i=>by
  obtain⟨p,d,f,a,h⟩:=i;rw[g]at a;cases a;show⟨_,d,f,j,h⟩) k I.bare
def Inv.call(I:Inv X pins σ H s)(u:Un (pY X.stack) ch H H' s.heap h')(v:iC X.prog X.w H' h')(q:AllBare g')
 (f:∀b∈ch,(b∈X.ex\/X.s₀.heap.objs.size<=b)/\b≠X.env.locals/\(∀x c,X.env.cells.lookup x=some c->c≠b)/\∀p∈X.pn++pins,p.1≠b):
 Inv X pins σ H' {s with heap:=h',gens:=g',drawn:=d',toks:=t'}:=by
 obtain⟨m,⟨o,B,C,j,r⟩,_⟩:=id I.loc;obtain⟨w,g⟩:=u.any j I.free λz=>(f _ z).2.1 rfl
 show I.step (ch:=ch) f (λb o g t a e n=>u.keep b o e n (λz=>(Wy.mp (I.CV b z)).elim g t) a) (λb o _ _ a e n=>u.any e n a) (λb o a e n=>u.free b o e n a) (λb o a e=>u.there b o e a) u.ph u.oQ u.nZ (λA l=>by
  obtain⟨y,h,i,d,k⟩:=l;rw[j]at d;cases d;show⟨_,h,i,g,k⟩) v q
def Inv.turned(I:Inv X pins σ H s)(k:∀b o,b≠it->s.heap.get? b=some o->h'.get? b=some o)(h:H it=none)(f:it≠X.env.locals)
 (w:it∈X.ex\/X.s₀.heap.objs.size<=it) (t:∀x c,X.env.cells.lookup x=some c->c≠it) (l:∀p∈X.pn++pins,p.1≠it):Inv X pins σ H {s with heap:=h',toks:=t'}:=by
 let d:∀b u,H b=some u->b≠it:=λb u e z=>by rw[z,h]at e;cases e
 show I.step (g':=s.gens) (d':=s.drawn) (ch:=[it]) (λb j=>?_) (λb o _ _ a e _=>k b o (λz=>a (by simp[z])) e) (λb o _ _ a e _=>⟨o.slots,k b o (λz=>a (by simp[z])) e⟩) (λ_ _ _ _ n=>n)
  (λb o a e=>⟨o,k b o (λz=>a (by simp[z])) e⟩) (λ_ _ e=>e) (λ_ _ _ e=>e) (λb B e=>⟨#[],by rw[e];simp⟩) (λm i=>?_) (λb u e=>?_) I.bare
 . have e:b=it:=by simpa using j
   subst e;show⟨w,f,t,l⟩
 . obtain⟨o,y,A,g,r⟩:=i;show⟨o,y,A,k _ o (Wi f) g,r⟩
 . show(I.aK b u e).pN (λc v a q=>k c v ?_ q) (λ_ q=>q) λ_ _ q=>q;rcases a with z|z
   . rw[z];show d b u e
   . show d c _ z
def Inv.tok(I:Inv X pins σ H s)(t:Nat):Inv X pins σ H {s with toks:=t}:=I.un (h':=s.heap) (t':=t) Un.refl I.aK
def Inv.kept(I:Inv X pins σ H s)(k:∀b u,s.heap.get? b=some u->h'.get? b=some u):Inv X pins σ H {s with heap:=h',toks:=t'}:=I.un (Un.kept k) (I.aK.kept k)
def Inv.laid{a:Addr}{o:HO}{t':Nat}(I:Inv X pins σ H s)(k:∀b u,s.heap.get? b=some u->h'.get? b=some u)(c:s.heap.objs.size<=a)(new:dw X.prog X.w (upd H a o) h' a o):
 Inv X pins σ (upd H a o) {s with heap:=h',toks:=t'}:=I.un (Un.laid k c (I.aK.fresh c)) (I.aK.laid k c new)
def Inv.write{x e:Addr}(I:Inv X pins σ H s)(mu:Mv (H x))(c:e=x\/H e=some (.own x))(k:∀b u,b≠e->s.heap.get? b=some u->h'.get? b=some u)(a:∃u,h'.get? e=some u)
 (new:dw X.prog X.w (upd H x o) h' x o):Inv X pins σ (upd H x o) {s with heap:=h',toks:=t'}:=I.un (Un.write mu c k a) (I.aK.write mu c k a new)
def Inv.tY(I:Inv X pins σ H s)(h:∀p∈a,s.heap.get? p.1=some p.2/\H p.1=none/\p.1≠X.env.locals/\p.1∉X.fs/\∀v,p.2.data≠ .cell v):Inv X a σ H s:=
 ⟨I.ok,I.os,I.bare,I.base,I.loc,I.cell,I.free,I.iU,λp b=>(W9.mp b).elim (λz=>I.pin p (XG _ z)) (h p),I.aK,I.len⟩
def Bh{N:List Str}(c:N.Nodup){i j:Nat}{x:Str}(a:N[i]?=some x)(b:N[j]?=some x):i=j:=by
 obtain⟨g,e⟩:=Wa.mp a;obtain⟨f,d⟩:=Wa.mp b;show(List.getElem_inj c).mp (e.trans d.symm)
def zk(I:Inv X pins σ H s)(hN:X.N.Nodup)(N:X.N[i]?=some x)(t:Loc X.env.scope x)(r:RelV v u)
 (h:∀s',Inv X pins (σ.set i (some v)) H s'->(∃a,Heap.SameBut a s.heap s'.heap/\(a=X.env.locals\/X.env.cells.lookup x=some a))->Q () s') (hf:X.fn x=true\/X.env.scope.names.lookup x=some .local:=by first|show .inl rfl|show .inr rfl|assumption):wpAny M A (storeName X.env x u) Q E s:=by
 obtain⟨m,hn,hl⟩:=id I.loc;let O:(X.env.scope.kind== .class||(X.env.scope.kind== .module&&X.env.locals != X.env.globals))=false:=by rw[I.ok.kind];rfl
 let L:i<σ.length:=by rw[I.len];show(Wa.mp N).1
 let Bz:=I.Bz
 let tracked:∀ {a:Addr} {h':Heap},(∃o,s.heap.get? a=some o/\H a=none)->Heap.SameBut a s.heap h'->iC X.prog X.w H h':=λ{a h'} ha f b ob e=>by
  obtain⟨_,_,w⟩:=ha;show(I.aK b ob e).pN (λc S l q=>(f.2 c ?_).trans q) (λ_ q=>q) λ_ _ q=>q;rintro rfl;rcases l with rfl|l
  . rw[w]at e;cases e
  . rw[w]at l;cases l
 rcases t with C|C
 . show wpAny_storeName_local C hn (λh' ao f=>?_) O;obtain⟨oL,_,_,ah,_⟩:=id hn;show h _ ⟨I.ok,I.os,I.bare,⟨λb o e n G t=>?_,λb o e n G t=>?_,I.base.free,λb o e t=>?_,I.base.ph,I.base.oQ,I.base.nZ⟩,⟨_,ao,λj y U g B e3=>?_⟩,λy c e=>?_,I.free,I.iU,λp hp=>?_,tracked ⟨oL,ah,I.free⟩ f,by simpa using I.len⟩ ⟨_,f,.inl rfl⟩
   . show(f.2 b (WB (WA (Wq e) I.ok.above))).trans (I.base.keep b o e n G t)
   . obtain⟨Y,g⟩:=I.base.slot b o e n G t;show⟨Y,(f.2 b (WB (WA (Wq e) I.ok.above))).trans g⟩
   . obtain⟨o',g⟩:=I.base.there b o e t;show⟨o',(f.2 b (WB (WA (Wq e) I.ok.above))).trans g⟩
   . by_cases D:j=i
     . subst D;rw[N]at g;cases g;rw[Wn L]at B;cases B;show⟨u,r,.inl ⟨C,by simp⟩⟩
     . rw[Wf (Wi D)]at B;obtain⟨W,Z,q⟩:=hl j y U g B e3;show⟨W,Z,?_⟩;rcases q with⟨k,e⟩|⟨k,c,e,z⟩
       . show .inl ⟨k,?_⟩;let:y≠x:=λe=>D (Bh hN g (e▸N));simp[this,e]
       . show .inr ⟨k,c,e,z.sameBut f (Bz y c e)⟩
   . obtain⟨S,z⟩:=I.cell y c e;show⟨S,z.sameBut f (Bz y c e)⟩
   . obtain⟨e,n,ne,nf,d⟩:=I.pin p hp;show⟨(f.2 p.1 ne).trans e,n,ne,nf,d⟩
 . have F:X.fn x=true:=by
    rcases hf with z|z
    . show z
    . rw[z]at C;cases C
   obtain⟨c,l⟩:=I.ok.has x (.inl C);obtain⟨S,z⟩:=I.cell x c l;show wpAny_storeName_cell I.ok.kind C l z (λh' R f=>?_);obtain⟨oc,K,J⟩:=id z;show h {s with heap:=h'} ⟨I.ok,I.os,I.bare,⟨λb o e n G t=>?_,λb o e n G t=>?_,I.base.free,λb o e t=>?_,I.base.ph,I.base.oQ,I.base.nZ⟩,⟨m,hn.sameBut f (Wi (Bz x c l)),λj y U g B e3=>?_⟩,λy T e=>?_,I.free,I.iU,λp hp=>?_,tracked ⟨oc,K,I.iU x c l⟩ f,by simpa using I.len⟩ ⟨c,f,.inr l⟩
   . show(f.2 b (WB (WA (Wq e) (I.ok.AS x c F l)))).trans (I.base.keep b o e n G t)
   . obtain⟨Y,g⟩:=I.base.slot b o e n G t;show⟨Y,(f.2 b (WB (WA (Wq e) (I.ok.AS x c F l)))).trans g⟩
   . obtain⟨o',g⟩:=I.base.there b o e t;show⟨o',(f.2 b (WB (WA (Wq e) (I.ok.AS x c F l)))).trans g⟩
   . by_cases D:j=i
     . subst D;rw[N]at g;cases g;rw[Wn L]at B;cases B;show⟨u,r,.inr ⟨.inl C,c,l,R⟩⟩
     . rw[Wf (Wi D)]at B;obtain⟨W,Z,q⟩:=hl j y U g B e3;show⟨W,Z,?_⟩;rcases q with q|⟨k,T,e,z'⟩
       . show .inl q
       . show .inr ⟨k,T,e,z'.sameBut f ?_⟩;rintro rfl;show D (Bh hN g (I.ok.inj _ _ _ e l▸N))
   . by_cases P:T=c
     . subst P;show⟨_,R⟩
     . obtain⟨w2,z2⟩:=I.cell y T e;show⟨w2,z2.sameBut f P⟩
   . obtain⟨e,n,ne,nf,d⟩:=I.pin p hp;show⟨(f.2 p.1 ?_).trans e,n,ne,nf,d⟩;intro q;rw[q,K]at e;let q':oc=p.2:=W2 e;show d S (by rw[<-q'];show J)
def oA(I:Inv X pins σ H s)(d:X.N.Nodup)(b:X.N[i]?=some x)(a:Loc X.env.scope x)(r:RelV v u)
 (h:∀s',Inv X pins (σ.set i (some v)) H s'->Q () s') (c:X.fn x=true\/X.env.scope.names.lookup x=some .local:=by first|show .inl rfl|show .inr rfl|assumption):wpAny M A (storeName X.env x u) Q E s:=
 zk I d b a r (λs' e _=>h s' e) c
def Inv.Fz{s':Shared}(I:Inv X pins σ H s)(f:s'.os=s.os)(u:Un (pY X.stack) ch H H' s.heap s'.heap)(h:iC X.prog X.w H' s'.heap)(g:AllBare s'.gens)
 (a:∀b∈ch,(b∈X.ex\/X.s₀.heap.objs.size<=b)/\b≠X.env.locals/\(∀x c,X.env.cells.lookup x=some c->c≠b)/\∀p∈X.pn++pins,p.1≠b):Inv X pins σ H' s':=by
 obtain⟨h',g',d',t',d⟩:=s';let e:d=s.os:=f;subst e;show I.call (g':=g') (t':=t') (d':=d') u h g a
end
abbrev XK:=Value->Option Addr->Hp->Prop
abbrev St:=List (Option V)
abbrev VK:=V->Hp->Prop
abbrev TE:=St->Hp->VK->Prop
abbrev TT:=St->Hp->(Bool->Hp->Prop)->Prop
abbrev TA:=St->Hp->(List V->Hp->Prop)->Prop
structure Ends where
 nx:St->Hp->Prop
 rt:VK
 bk:St->Hp->Prop:=λ_ _=>False
 ct:St->Hp->Prop:=λ_ _=>False
abbrev TS:=Ends->St->Hp->Prop
def EP(X:Cx)(pins:List (Addr×Obj))(σ:St)(Q:VK)(u:Value)(s':Shared):Prop:=∃v a,Inv X pins σ a s'/\RelV v u/\Q v a
def TP(X:Cx)(pins:List (Addr×Obj))(σ:St)(Q:Bool->Hp->Prop)(b:Bool)(s':Shared):Prop:=∃a,Inv X pins σ a s'/\Q b a
def AP(X:Cx)(pins:List (Addr×Obj))(σ:St)(Q:List V->Hp->Prop)(us:List Value)(s':Shared):Prop:=∃a b,Inv X pins σ b s'/\Vals a us/\Q a b
def SP(X:Cx)(pins:List (Addr×Obj))(D:Ends)(f:Flow)(s':Shared):Prop:=
 match f with
 | .next=>∃b a,Inv X pins b a s'/\D.nx b a
 | .brk=>∃b a,Inv X pins b a s'/\D.bk b a
 | .cont=>∃b a,Inv X pins b a s'/\D.ct b a
 | .ret u=>∃v b a,Inv X pins b a s'/\RelV v u/\D.rt v a
def PE(X:Cx)(e:Expr)(t:TE):Prop:=
 ∀(a:List (Addr×Obj)) (s:Shared) (σ:St) (H:Hp) (Q:VK),Inv X a σ H s->t σ H Q->wpAny (model X.prog X.w) X.A (eval e X.env) (EP X a σ Q) X.xe s
def PT(X:Cx)(e:Expr)(t:TT):Prop:=
 ∀(a:List (Addr×Obj)) (s:Shared) (σ:St) (H:Hp) (Q:Bool->Hp->Prop),Inv X a σ H s->t σ H Q->wpAny (model X.prog X.w) X.A (isTrue e X.env (eval e X.env)) (TP X a σ Q) X.xe s
def PW(X:Cx)(e:Expr)(t:TT):Prop:=
 ∀(whole:Sem Value) (pins:List (Addr×Obj)) (s:Shared) (σ:St) (H:Hp) (Q:Bool->Hp->Prop),Inv X pins σ H s->t σ H Q->wpAny (model X.prog X.w) X.A (isTrue e X.env whole) (TP X pins σ Q) X.xe s
def PW.pt{e:Expr}(h:PW X e t):PT X e t:=h _
def PA(X:Cx)(b:List Expr)(t:TA):Prop:=
 ∀(a:Pos) (pins:List (Addr×Obj)) (s:Shared) (σ:St) (H:Hp) (Q:List V->Hp->Prop),Inv X pins σ H s->t σ H Q->wpAny (model X.prog X.w) X.A (spliced (backTo a (starEach b X.env))) (AP X pins σ Q) X.xe s
def PS(X:Cx)(st:Stmt)(t:TS):Prop:=
 ∀(a:List (Addr×Obj)) (s:Shared) (σ:St) (H:Hp) (D:Ends),Inv X a σ H s->t D σ H->wpAny (model X.prog X.w) X.A (exec st X.env) (SP X a D) X.xe s
def g9(X:Cx)(st:List Stmt)(t:TS):Prop:=
 ∀(a:List (Addr×Obj)) (s:Shared) (σ:St) (H:Hp) (D:Ends),Inv X a σ H s->t D σ H->wpAny (model X.prog X.w) X.A (execs st X.env) (SP X a D) X.xe s
def bR(h:wpAny M A t Q E s)(c:∀a s,Q a s->b a s):wpAny M A t b E s:=XY h c λ_ _ x=>x
section
variable {X:Cx}
def RE(i:Nat):TE:=λσ H Q=>∃v,σ[i]?=some (some v)/\Q v H
def tC(v:V):TE:=λ_ H Q=>Q v H
def Qz{i:Nat}{x:Str}{pos:Pos}(t:X.N[i]?=some x)(n:Bg X.env.scope x)(g:(x==("__debug__":Str))=false:=by decide)(j:(x==("__classdict__":Str))=false:=by decide):PE X (.Name x pos) (RE i):=by
 intro f s σ H Q I h;obtain⟨v,e,h⟩:=h;obtain⟨m,o,q⟩:=I.loc;obtain⟨u,r,l⟩:=q i x v t e n;let d:EP X f σ Q u s:=⟨v,H,I,r,h⟩
 rcases l with⟨b,p⟩|⟨b,c,k,a⟩
 . show wpAny_Name (wpAny_loadName_local I.ok.kind b o p d) g
 . rcases b with b|b
   . show wpAny_Name (wpAny_loadName_cell I.ok.kind b k a d) g
   . show wpAny_Name (wpAny_loadName_free I.ok.kind b k a d j) g
def RM{i j pos}:PE X (.Constant (.int i) j pos) (tC (.int i)):=λ_ _ _ H _ I h=>wpAny_Constant_int ⟨.int i,H,I.tok _,⟨_,rfl⟩,h⟩
def TC{b j pos}:PE X (.Constant (.bool b) j pos) (tC (.bl b)):=λ_ _ _ H _ I h=>Constant_bool ⟨.bl b,H,I,rfl,h⟩
def Q3{j pos}:PE X (.Constant .none j pos) (tC .aD):=λ_ _ _ H _ I h=>Constant_none ⟨.aD,H,I,rfl,h⟩
def Gl(X:Cx)(x:Str):Prop:=X.env.kindOf x=some .globalImplicit
def E3{E:Value->Shared->Prop}{pins:List (Addr×Obj)}{s:Shared}{σ:St}{H:Hp}{x:Str}{u:Value}{pos:Pos}{Q:Value->Shared->Prop}(I:Inv X pins σ H s)(b:Gl X x)(a:X.mg x=some u)(h:Q u s)
 (c:(x==("__debug__":Str))=false:=by decide):wpAny (model X.prog X.w) X.A (eval (.Name x pos) X.env) Q E s:=
 aap I.ok.kind b (Calls.loadGlobal_global (by rw[I.ok.glob];show I.mod.glob.keeps I.bk) a h) c
def kZ{E:Value->Shared->Prop}{pins:List (Addr×Obj)}{s:Shared}{σ:St}{H:Hp}{x:Str}{u:Value}{pos:Pos}{Q:Value->Shared->Prop}(I:Inv X pins σ H s)(d:Gl X x)(c:X.mg x=none)(a:bootBuiltins x=some u)(h:Q u s)
 (b:x≠"__name__":=by decide) (e:(x==("__debug__":Str))=false:=by decide):wpAny (model X.prog X.w) X.A (eval (.Name x pos) X.env) Q E s:=by
 obtain⟨i,g,f⟩:=I.mod.blt;show aap I.ok.kind d (Calls.loadGlobal_builtin (by rw[I.ok.glob];show I.mod.glob.keeps I.bk) c (by rw[I.ok.blt];show g.keeps I.bk) ((f x b).trans a) h) e
def N_{x:Str}{v:V}{u:Value}{pos:Pos}(d:Gl X x)(c:X.mg x=none)(a:bootBuiltins x=some u)(r:RelV v u)(b:x≠"__name__":=by decide)(e:(x==("__debug__":Str))=false:=by decide):PE X (.Name x pos) (tC v):=
 λ_ _ _ H _ I h=>kZ I d c a ⟨v,H,I,r,h⟩ b e
variable {a b:Expr}{ta tb:TE}{pos:Pos}
def tB(t:TE):TT:=λσ H Q=>t σ H λx H1=>∃c,x= .bl c/\Q c H1
def Rn{e:Expr}(h:PE X e t)(j:∀whole,isTrue e X.env whole=(do let v <-whole;standAt e.pos;holding [v] (truthy v)):=by intro _;rfl):PT X e (tB t):=by
 intro c s σ H Q I i;show isTrue_plain (bR (h c s σ H _ I i) λv l ⟨x,H1,k,f,g⟩=>?_) (j _);obtain⟨d,rfl,q⟩:=g;cases f;show Yj ⟨H1,k,q⟩
variable {tA tB':TT}{rest:List Expr}
def Po(t u:TT):TT:=λσ H Q=>t σ H λc H1=>if c=true then u σ H1 Q else Q false H1
def Uv(t u:TT):TT:=λσ H Q=>t σ H λc H1=>if c=true then Q true H1 else u σ H1 Q
def Vx(t:TT):TT:=λσ H Q=>t σ H λc H1=>Q (!c) H1
def pw_and1(f:PT X a tA):PW X (.BoolOp .And [a] pos) tA:=by
 intro g d s σ H Q I h;show isTrue_and (bR (f d s σ H Q I h) λc i e=>?_);cases c with
 |true=>show isTrue_and_nil e
 |false=>show e
def pw_or1(f:PT X a tA):PW X (.BoolOp .Or [a] pos) tA:=by
 intro g d s σ H Q I h;show isTrue_or (bR (f d s σ H Q I h) λc i e=>?_);cases c with
 |false=>show isTrue_or_nil e
 |true=>show e
def pw_and(k:PT X a tA)(j:PW X (.BoolOp .And (b::rest) pos) tB'):PW X (.BoolOp .And (a::b::rest) pos) (Po tA tB'):=by
 intro g d s σ H Q I h;show isTrue_and (bR (k d s σ H _ I h) λc i ⟨H1,f,e⟩=>?_);cases c with
 |true=>show j g d i σ H1 Q f e
 |false=>show⟨H1,f,e⟩
def pw_or(k:PT X a tA)(j:PW X (.BoolOp .Or (b::rest) pos) tB'):PW X (.BoolOp .Or (a::b::rest) pos) (Uv tA tB'):=by
 intro g d s σ H Q I h;show isTrue_or (bR (k d s σ H _ I h) λc i ⟨H1,f,e⟩=>?_);cases c with
 |true=>show⟨H1,f,e⟩
 |false=>show j g d i σ H1 Q f e
def P8(e:PT X a tA):PT X (.UnaryOp .Not a pos) (Vx tA):=by
 intro d s σ H Q I h;show isTrue_not (e d s σ H (λc H1=>Q (!c) H1) I h)
def SE(ta tb:TE):TE:=λσ H Q=>ta σ H λx H1=>∃c,x= .bl c/\if c=true then tb σ H1 Q else Q (.bl false) H1
def Vp(ta tb:TE):TE:=λσ H Q=>ta σ H λx H1=>∃c,x= .bl c/\if c=true then Q (.bl true) H1 else tb σ H1 Q
def Tq(ta:TE):TE:=λσ H Q=>ta σ H λx H1=>∃c,x= .bl c/\Q (.bl (!c)) H1
def Qo{op}(h:PE X a t):PE X (.BoolOp op [a] pos) t:=λc s σ H Q I d=>BoolOp_one (h c s σ H Q I d)
def Pq(k:PE X a ta)(j:PE X (.BoolOp .And (b::rest) pos) tb):PE X (.BoolOp .And (a::b::rest) pos) (SE ta tb):=by
 intro d s σ H Q I h;show BoolOp_and (bR (k d s σ H _ I h) λv g ⟨x,H1,f,i,e⟩=>?_);obtain⟨c,rfl,e⟩:=e;cases i;show Yj ?_;cases c with
 |true=>show j d g σ H1 Q f e
 |false=>show⟨.bl false,H1,f,rfl,e⟩
def TJ(k:PE X a ta)(j:PE X (.BoolOp .Or (b::rest) pos) tb):PE X (.BoolOp .Or (a::b::rest) pos) (Vp ta tb):=by
 intro d s σ H Q I h;show BoolOp_or (bR (k d s σ H _ I h) λv g ⟨x,H1,f,i,e⟩=>?_);obtain⟨c,rfl,e⟩:=e;cases i;show Yj ?_;cases c with
 |false=>show j d g σ H1 Q f e
 |true=>show⟨.bl true,H1,f,rfl,e⟩
def RB(g:PE X a ta):PE X (.UnaryOp .Not a pos) (Tq ta):=by
 intro d s σ H Q I h;show UnaryOp_ (bR (g d s σ H _ I h) λv j ⟨x,H1,i,f,e⟩=>?_);obtain⟨c,rfl,e⟩:=e;cases f;show not_of (Yj ⟨.bl (!c),H1,i,rfl,e⟩)
def VV(t:TT)(ta tb:TE):TE:=λσ H Q=>t σ H λc H1=>if c=true then ta σ H1 Q else tb σ H1 Q
def KG(j:PT X c tA)(l:PE X a ta)(k:PE X b tb):PE X (.IfExp c a b pos) (VV tA ta tb):=by
 intro e s σ H Q I h;show wpAny_IfExp (bR (j e s σ H _ I h) λd f ⟨H1,i,g⟩=>?_);cases d with
 |true=>show l e f σ H1 Q i g
 |false=>show k e f σ H1 Q i g
end
def mH(K:PySem.W.Frag)(H:Hp)(a:Addr)(xs:List V):Prop:=
 Rd H a (.lst xs)\/
  ∃(o:Obj) (ao:Array Value) (n:Nat),K.lookup a=some o/\o.cls= .type "list"/\o.dict=none/\o.data= .seq ao n/\ao.size<=sizeLine/\Vals xs ao.toList
def iF(K:PySem.W.Frag)(H:Hp)(a:Addr)(xs:List V):Prop:=
 Rd H a (.tup xs)\/
  ∃(o:Obj) (ao:Array Value) (n:Nat),K.lookup a=some o/\o.cls= .type "tuple"/\o.data= .seq ao n/\ao.size<=sizeLine/\Vals xs ao.toList
def VD:Value->Option V
 | .none=>some .aD
 | .bool b=>some (.bl b)
 | .int i _=>some (.int i)
 | .str x _=>some (.str x)
 | .bytes b _=>some (.uU b)
 | .float b _=>some (.u0 b)
 | .ref a=>some (.ref a)
 | .type n=>some (.ty n)
 |_=>none
def RelV.abs(r:RelV x u):VD u=some x:=by
 cases x with
 |aD=>cases r;rfl
 |bl _=>cases r;rfl
 |int _=>obtain⟨t,rfl⟩:=r;rfl
 |str _=>obtain⟨t,rfl⟩:=r;rfl
 |uU _=>obtain⟨t,rfl⟩:=r;rfl
 |u0 _=>obtain⟨t,rfl⟩:=r;rfl
 |ref _=>cases r;rfl
 |ty _=>cases r;rfl
def RelV.inj(r:RelV x u)(q:RelV y u):x=y:=W2 (r.abs.symm.trans q.abs)
def Vals.inj:∀ {xs ys:List V} {us:List Value},Vals xs us->Vals ys us->xs=ys
 |_,_,_,.nil,.nil=>rfl
 |_,_,_,.cons r t,.cons b a=>by rw[r.inj b,Vals.inj t a]
section
variable {X:Cx}{pins:List (Addr×Obj)}{σ:St}{H:Hp}{s:Shared}{a:Addr}{xs ys:List V}
def mH.of{K:PySem.W.Frag}(h:H a=some (.lst xs)):mH K H a xs:= .inl (.inl h)
def iF.of{K:PySem.W.Frag}(h:H a=some (.tup xs)):iF K H a xs:= .inl (.inl h)
def Inv.list(I:Inv X pins σ H s)(h:mH X.K H a xs):∃ao:List Value,Vals xs ao/\PlainL s.heap a ao.toArray/\xs.length<=sizeLine:=by
 rcases h with h|⟨o,ao,n,c,f,d,b,g,r⟩
 . obtain⟨z,ao,n,r,e⟩:=h.ok I.aK;show⟨ao,r,⟨_,n,e,rfl,rfl,rfl⟩,z⟩
 . show⟨ao.toList,r,⟨o,n,I.g4 a o c,f,d,by simpa using b⟩,?_⟩;let e:=r.length;simp![YT]at e;lia
def Inv.tuple(I:Inv X pins σ H s)(h:iF X.K H a xs):∃ao:List Value,Vals xs ao/\IsTup s.heap a ao.toArray/\xs.length<=sizeLine:=by
 rcases h with h|⟨o,ao,n,c,d,b,f,r⟩
 . obtain⟨z,ao,r,p⟩:=h.ok I.aK;show⟨ao,r,p,z⟩
 . show⟨ao.toList,r,⟨o,I.g4 a o c,d,n,by simpa using b⟩,?_⟩;let e:=r.length;simp![YT]at e;lia
def Inv.Dd(I:Inv X pins σ H s)(h:mH X.K H a xs)(h':mH X.K H a ys):xs=ys:=by
 obtain⟨i,r,⟨o,n,e,_,_,d⟩,_⟩:=I.list h;obtain⟨b,g,⟨j,k,c,_,_,f⟩,_⟩:=I.list h';rw[e]at c;cases c;rw[d]at f;injection f with d1 _;let:i=b:=by simpa using Xl Array.toList d1
 subst this;show r.inj g
def Inv.yJ(I:Inv X pins σ H s)(h:iF X.K H a xs)(h':iF X.K H a ys):xs=ys:=by
 obtain⟨i,r,⟨o,e,_,n,d⟩,_⟩:=I.tuple h;obtain⟨b,g,⟨j,c,_,k,f⟩,_⟩:=I.tuple h';rw[e]at c;cases c;rw[d]at f;injection f with d1 _;let:i=b:=by simpa using Xl Array.toList d1
 subst this;show r.inj g
end
abbrev Cx.pP(X:Cx)(E:Value->Shared->Prop):Cx:={X with xe:=E}
abbrev Cx.uK(X:Cx):Cx:=X.pP λ_ _=>False
def Cx.Ok.pP{X:Cx}(ok:X.Ok)(E:Value->Shared->Prop):(X.pP E).Ok:=
 ⟨ok.mod,ok.kind,ok.glob,ok.blt,ok.above,ok.inj,ok.has,ok.AS,ok.hd,ok.frames,ok.E1,ok.Hc,ok.bs,ok.tF,ok.vD,ok.vF,ok.ly,ok.xt,ok.gt⟩
def Cx.Ok.mz{X:Cx}(ok:(X.pP E).Ok):X.Ok:=
 ⟨ok.mod,ok.kind,ok.glob,ok.blt,ok.above,ok.inj,ok.has,ok.AS,ok.hd,ok.frames,ok.E1,ok.Hc,ok.bs,ok.tF,ok.vD,ok.vF,ok.ly,ok.xt,ok.gt⟩
section
variable {X:Cx}{pins:List (Addr×Obj)}{σ:St}{H:Hp}{s:Shared}{E:Value->Shared->Prop}
def Inv.pP(I:Inv X pins σ H s)(E:Value->Shared->Prop):Inv (X.pP E) pins σ H s:=⟨I.ok.pP E,I.os,I.bare,I.base,I.loc,I.cell,I.free,I.iU,I.pin,I.aK,I.len⟩
def Inv.mz(I:Inv (X.pP E) pins σ H s):Inv X pins σ H s:=⟨I.ok.mz,I.os,I.bare,I.base,I.loc,I.cell,I.free,I.iU,I.pin,I.aK,I.len⟩
def SP.mz{D:Ends}(h:SP (X.pP E) pins D f s'):SP X pins D f s':=by
 cases f with
 |next=>obtain⟨a,b,I,q⟩:=h;show⟨a,b,I.mz,q⟩
 |brk=>obtain⟨a,b,I,q⟩:=h;show⟨a,b,I.mz,q⟩
 |cont=>obtain⟨a,b,I,q⟩:=h;show⟨a,b,I.mz,q⟩
 |ret u=>obtain⟨v,a,b,I,r,q⟩:=h;show⟨v,a,b,I.mz,r,q⟩
def g9.uK{st:List Stmt}{t:TS}(h:g9 X.uK st t):g9 X st t:=λpins s σ H D I a=>
 XY (h pins s σ H D (I.pP _) a) (λ_ _ q=>q.mz) λ_ _ z=>False.elim z
end
section
variable {X:Cx}{st:Stmt}{rest:List Stmt}{t u:TS}{e:Expr}{te:TE}{pos:Pos}
def SY:TS:=λD σ H=>D.nx σ H
def Va(t u:TS):TS:=λD σ H=>t {D with nx:=u D} σ H
def NJ:g9 X [] SY:=λ_ _ σ H _ I h=>YW ⟨σ,H,I,h⟩
def JV(g:PS X st t)(d:g9 X rest u):g9 X (st::rest) (Va t u):=by
 intro a s σ H D I h;show aaI (bR (g a s σ H {D with nx:=u D} I h) λf c q=>?_);cases f with
 |next=>
  obtain⟨b,j,i,q⟩:=q;show d a c b j D i q
 |ret v=>show q
 |brk=>show q
 |cont=>show q
def NI(b:PS X st t):g9 X [st] t:=by
 intro a s σ H D I h;show aaI (bR (b a s σ H D I h) λf c q=>?_);cases f with
 |next=>show YW q
 |ret v=>show q
 |brk=>show q
 |cont=>show q
def Uo:TS:=λD σ H=>D.ct σ H
def D1:PS X (.Continue pos) Uo:=λ_ _ σ H _ I h=>wpAny_Continue ⟨σ,H,I,h⟩
def Inv.quiet{pins:List (Addr×Obj)}{σ:St}{H:Hp}{s:Shared}(I:Inv X pins σ H s):interactive X.env=false:=by simp[interactive,I.ok.kind]
def Tu(te:TE):TS:=λD σ H=>te σ H λ_ H1=>D.nx σ H1
def Ox(d:PE X e te)(c:swapsWith e none pos.line X.env=pure false:=by rfl):PS X (.Expr e pos) (Tu te):=by
 intro a s σ H D I h;show wpAny_Expr_any (bR (d a s σ H _ I h) λv g ⟨x,H1,f,i,b⟩=>⟨σ,H1,f,b⟩) I.quiet c
def Vj(te:TE):TS:=λD σ H=>te σ H D.rt
def Qa(d:PE X e te):PS X (.Return (some e) pos) (Vj te):=by
 intro a s σ H D I h;show wpAny_Return_some (bR (d a s σ H _ I h) λv g ⟨x,H1,f,b,c⟩=>⟨x,σ,H1,f,b,c⟩)
def TR:TS:=λD _ H=>D.rt .aD H
def O9:PS X (.Return none pos) TR:=λ_ _ σ H _ I h=>wpAny_Return_none ⟨.aD,σ,H,I,rfl,h⟩
def VA(c:TT)(t u:TS):TS:=λD σ H=>c σ H λb H1=>if b=true then t D σ H1 else u D σ H1
def Uj{g:TT}(l:PT X c g)(n:g9 X a t)(m:g9 X b u):PS X (.If c a b pos) (VA g t u):=by
 intro f s σ H D I h;show wpAny_If (bR (l f s σ H _ I h) λd i ⟨H1,k,j⟩=>?_);cases d with
 |true=>show n f i σ H1 D k j
 |false=>show m f i σ H1 D k j
end
abbrev TG:=V->St->Hp->(St->Hp->Prop)->Prop
abbrev Cy:=List V->St->Hp->(St->Hp->Prop)->Prop
def PG(X:Cx)(target:Expr)(t:TG):Prop:=
 ∀(a:List (Addr×Obj)) (s:Shared) (σ:St) (H:Hp) (v:V) (u:Value) (Q:St->Hp->Prop),Inv X a σ H s->RelV v u->t v σ H Q->
  wpAny (model X.prog X.w) X.A (assign target X.env u) (λ_ d=>∃b c,Inv X a b c d/\Q b c) X.xe s
def Mi(X:Cx)(ts:List Expr)(t:Cy):Prop:=
 ∀(a:List (Addr×Obj)) (s:Shared) (σ:St) (H:Hp) (vs:List V) (us:List Value) (Q:St->Hp->Prop),Inv X a σ H s->Vals vs us->t vs σ H Q->
  wpAny (model X.prog X.w) X.A (assignInOrder ((assignEach ts X.env).map (·.2)) us) (λ_ d=>∃b c,Inv X a b c d/\Q b c) X.xe s
abbrev Cv:=V->V->V->Hp->(Hp->Prop)->Prop
def Lh(X:Cx)(t:Cv):Prop:=
 ∀(a:List (Addr×Obj)) (s:Shared) (σ:St) (H:Hp) (o i v:V) (ov iv u:Value) (Q:Hp->Prop),Inv X a σ H s->RelV o ov->RelV i iv->RelV v u->t o i v H Q->
  wpAny (model X.prog X.w) X.A (setItem ov iv u) (λ_ c=>∃b,Inv X a σ b c/\Q b) X.xe s
abbrev D8:=V->V->Hp->VK->Prop
def Cd(X:Cx)(op:Operator)(t:D8):Prop:=
 ∀(a:List (Addr×Obj)) (s:Shared) (σ:St) (H:Hp) (x y:V) (v u:Value) (Q:VK),Inv X a σ H s->RelV x v->RelV y u->t x y H Q->
  wpAny (model X.prog X.w) X.A (inplaceOp op v u) (EP X a σ Q) X.xe s
section
variable {X:Cx}{pos:Pos}
def jo(i:Nat):TG:=λv σ H Q=>Q (σ.set i (some v)) H
def nR(e:X.N.Nodup)(c:X.N[i]?=some x)(b:Loc X.env.scope x)(d:X.fn x=true\/X.env.scope.names.lookup x=some .local:=by first|show .inl rfl|show .inr rfl|assumption):PG X (.Name x pos) (jo i):=by
 intro a s σ H v u Q I r h;show wpAny_assign_Name (oA I e c b r (λg f=>⟨_,H,f,h⟩) d)
def Kx:Cy:=λa σ H Q=>a=[]/\Q σ H
def t9(t:TG)(u:Cy):Cy:=λb σ H Q=>∃v r,b=v::r/\t v σ H λa c=>u r a c Q
def ES:Mi X [] Kx:=by
 intro a s σ H b c Q I r h;obtain⟨e,h⟩:=h;subst e;cases r;show assignInOrder_nil ⟨σ,H,I,h⟩
def oO{e:Expr}(k:PG X e t)(j:Mi X b u)
 (i:(assignEach (e::b) X.env).map (·.2)=assign e X.env::(assignEach b X.env).map (·.2):=by rfl):Mi X (e::b) (t9 t u):=by
 intro a s σ H n p Q I r h;obtain⟨v,o,l,h⟩:=h;subst l;cases r with
 |cons r f=>
  rw[i];show aah (bR (k a s σ H _ _ _ I r h) λ_ d ⟨c,H1,m,g⟩=>?_);show j a d c H1 _ _ Q m f g
def Lp(K:PySem.W.Frag)(n:Nat)(t:Cy):TG:=λv σ H Q=>∃a b,v= .ref a/\iF K H a b/\b.length=n/\t b σ H Q
def Jg{k:Nat}(x:X.calm=true)(h:Mi X d t)
 (q:(assignEach d X.env).length=n:=by rfl) (g:(assignEach d X.env).findIdx? (·.1)=none:=by rfl):PG X (.Tuple d k pos) (Lp X.K n t):=by
 intro c s σ H v u Q I r f;obtain⟨a,j,z,p,w,f⟩:=f;subst z;cases r;obtain⟨C,i,m,B⟩:=I.tuple p;show assign_Tuple_tuple (I.ok.hd x) m (by simp[q,<-w,i.length]) g λy l=>?_;let A:Inv X c σ H {s with heap:=y}:=I.kept (t':=s.toks) λb o e=>l b o (WB (Wq e)) e;show h c _ σ H j _ Q A (by simpa using i) f
def CP(a b:TE)(t:Cv):TG:=λv σ H Q=>a σ H λo H1=>b σ H1 λi d=>t o i v d λc=>Q σ c
def GS(n:PE X o b)(p:PE X i c)(m:Lh X t)
 (q:∀v,assign (.Subscript o i pos) X.env v=(do
   let ov <-holding [v] (eval o X.env)
   let iv <-holding [v,ov] (eval i X.env)
   standAt pos
   holding [v,ov,iv] (setItem ov iv v)
   release [v,ov,iv] []):=by intro _;rfl):PG X (.Subscript o i pos) (CP b c t):=by
 intro a s σ H v u Q I r h;rw[q];show V9 (YB (bR (n a s σ H _ I h) λov e ⟨x,H1,A,g,l⟩=>?_));show V9 (YB (bR (p a e σ H1 _ A l) λiv d ⟨y,C,z,f,k⟩=>?_));show V9 (ZG (V9 (YB (bR (m a d σ C x y v ov iv u _ z g f r k) λ_ D ⟨B,w,j⟩=>?_))));show wpAny_release ⟨σ,B,w,j⟩
def mV(a:TE)(g:TG):TS:=λD σ H=>a σ H λx H1=>g x σ H1 D.nx
def BS{b e:Expr}{g:TG}(m:PE X e c)(l:PG X b g)(k:swapsWithSole [b] e pos.line X.env=pure false:=by rfl)(j:swappedStores [b] e X.env=pure none:=by rfl)
 (n:(assignEach [b] X.env).map (·.2)=[assign b X.env]:=by rfl):PS X (.Assign [b] e pos) (mV c g):=by
 intro a s σ H D I h;show wpAny_Assign_stores (bR (m a s σ H _ I h) λv d ⟨x,H1,o,f,i⟩=>?_) k j;rw[n];show bR (l a d σ H1 x v _ o f i) λ_ p q=>q
def JH{e:Expr}(n:X.N.Nodup)(k:X.N[i]?=some x)(g:Loc X.env.scope x)(m:PE X e c)(j:swapsWith e (some (.Name x a)) pos.line X.env=pure false:=by rfl)(l:X.fn x=true\/X.env.scope.names.lookup x=some .local:=by first|show .inl rfl|show .inr rfl|assumption):
 PS X (.Assign [.Name x a] e pos) (mV c (jo i)):=by
 intro b s σ H D I h;show wpAny_Assign_Name (bR (m b s σ H _ I h) λv r ⟨y,H1,p,d,f⟩=>?_) j;show oA p n k g d (λq o=>⟨_,H1,o,f⟩) l
def P7(i j:Nat)(b:TA):TS:=λD σ H=>b σ H λa H1=>∃v w,a=[v,w]/\D.nx ((σ.set i (some v)).set j (some w)) H1
def QJ{kt k2 pt2}(P:X.calm=true)(B:X.N.Nodup)(O:X.N[i]?=some x)(N:X.N[j]?=some y)(t:i≠j)
 (A:X.env.scope.names.lookup x=some .local) (z:X.env.scope.names.lookup y=some .local) (Q:PA X [a,b] u)
 (L:swappedStores [.Tuple [.Name x n,.Name y m] kt pt] (.Tuple [a,b] k2 pt2) X.env=pure (some [x,y]))
 (M:swapsWithSole [.Tuple [.Name x n,.Name y m] kt pt] (.Tuple [a,b] k2 pt2) pos.line X.env=pure false:=by rfl):
 PS X (.Assign [.Tuple [.Name x n,.Name y m] kt pt] (.Tuple [a,b] k2 pt2) pos) (P7 i j u):=by
 intro c s σ H D I h;rw[exec_Assign_arm];show V9 (ZG ?_);rw[M];show V9 (Wk ?_);rw[Wc (by decide)];show V9 (Tuple_ (bR (Q _ c s σ H _ I h) λE g ⟨W,H1,V,G,l⟩=>?_));obtain⟨v,w,R,l⟩:=l;subst R
 obtain⟨f,d,rfl,F,k⟩:∃f d,E=[f,d]/\RelV v f/\RelV w d:=by
  cases G with
  |cons p q=>
   cases q with
   |cons K J=>
    cases J;show⟨_,_,rfl,p,K⟩
 show XZ ?_ (by change 2<=sizeLine;decide);let U:Inv X c σ H1 {g with heap:=g.heap.push {cls:= .type "tuple",data:= .seq [f,d].toArray}}:=V.kept (t':=g.toks) λb o e=>V_ _ e;rw[L];show V9 (Wk ?_);change wpAny (model X.prog X.w) X.A (do rule "assign.swapped-stores";let items <-unpackItems (.ref g.heap.objs.size) 2 none;assignInOrder [λv=>bindName X.env y v,λv=>bindName X.env x v] items.reverse;pure Flow.next) _ _ _;show V9 (Y_ (V9 (unpackItems_tuple (items:= #[f,d]) (I.ok.hd P) (IsTup.new g.heap _) λh' r=>?_)));let T:=U.kept (h':=h') (t':=g.toks) λb o e=>r b o (WB (Wq e)) e;change wpAny _ _ (assignInOrder [λv=>bindName X.env y v,λv=>bindName X.env x v] [d,f] >>= λ_=>pure Flow.next) _ _ _;show V9 (aah (wpAny_bindName (oA T B N (.inl z) k (λZ S=>?_) (.inr z))));show aah (wpAny_bindName (oA S B O (.inl A) F (λY C=>assignInOrder_nil (Wk ?_)) (.inr A)));rw[List.set_comm _ _ (Wi t)]at C;show⟨_,H1,C,l⟩
def R8(i:Nat)(b:TE)(a:D8):TS:=λD σ H=>∃x,σ[i]?=some (some x)/\b σ H λy H1=>a x y H1 λz c=>D.nx (σ.set i (some z)) c
def R_{e:Expr}(Q:X.N.Nodup)(p:X.N[i]?=some x)(j:Loc X.env.scope x)(O:PE X e o)(J:Cd X op n)(N:X.fn x=true\/X.env.scope.names.lookup x=some .local:=by first|show .inl rfl|show .inr rfl|assumption):
 PS X (.AugAssign (.Name x f) op e pos) (R8 i o n):=by
 intro a s σ H D I h;obtain⟨v,R,h⟩:=h;obtain⟨m,K,M⟩:=I.loc;let g:Bg X.env.scope x:=by rcases j with k|k;show .inl k;show .inr (.inl k)
 obtain⟨u,r,l⟩:=M i x v p R g;show wpAny_AugAssign_Name ?_
 let q:wpAny (model X.prog X.w) X.A (eval e X.env) (λw A=>wpAny (model X.prog X.w) X.A (inplaceOp op u w) (λr t=>wpAny (model X.prog X.w) X.A (storeName X.env x r) (λ_=>SP X a D .next) X.xe t) X.xe A) X.xe s:=by
  show bR (O a s σ H _ I h) λw B ⟨y,H1,U,E,G⟩=>?_;show bR (J a B σ H1 v y u w _ U r E G) λz Z ⟨W,V,T,C,F⟩=>?_;show oA T Q p j C (λY S=>⟨_,V,S,F⟩) N
 rcases l with⟨b,L⟩|⟨b,c,P,d⟩
 . show wpAny_loadName_local I.ok.kind b K L q
 . rcases b with b|b
   . show wpAny_loadName_cell I.ok.kind b P d q
   . rcases j with k|k
     . have:X.env.scope.names.lookup x=some .free:=b;rw[k]at this;cases this
     . have:X.env.scope.names.lookup x=some .free:=b;rw[k]at this;cases this
def Ug(d e f:TE)(b:V->V->Hp->VK->Prop)(c:D8)(a:Cv):TS:=λD σ H=>d σ H λo H1=>e σ H1 λi l=>b o i l λx k=>f σ k λy j=>c x y j λz h=>a o i z h λg=>D.nx σ g
def QQ(X:Cx)(t:V->V->Hp->VK->Prop):Prop:=
 ∀(a:List (Addr×Obj)) (s:Shared) (σ:St) (H:Hp) (o i:V) (ov iv:Value) (Q:VK),Inv X a σ H s->RelV o ov->RelV i iv->t o i H Q->
  wpAny (model X.prog X.w) X.A (getItem ov iv) (EP X a σ Q) X.xe s
def Pk{o i e:Expr}{g:Pos}(R:PE X o n)(S:PE X i p)(T:QQ X c)(U:PE X e q)(Q:Cd X op j)(P:Lh X b)
 (W:∀d f new,augStore i d f new=(do holding [new,d,f] (setItem d f new);release [new,d,f] [];pure .next):=by intros;rfl):PS X (.AugAssign (.Subscript o i g) op e pos) (Ug n p q c j b):=by
 intro a s σ H D I h;show wpAny_AugAssign_SubscriptAny (bR (R a s σ H _ I h) λd C ⟨m,H1,I1,t,O⟩=>?_) W;show bR (S a C σ H1 _ I1 O) λf B ⟨l,H2,I2,r,N⟩=>?_;show bR (T a B σ H2 m l d f _ I2 t r N) λk A ⟨x,H3,I3,G,M⟩=>?_;show bR (U a A σ H3 _ I3 M) λv z ⟨w,H4,I4,F,L⟩=>?_;show bR (Q a z σ H4 x w k v _ I4 G F L) λnew y ⟨u,H5,Z,E,K⟩=>?_;show bR (P a y σ H5 m l u d f new _ Z t r E K) λ_ s6 ⟨H6,Y,J⟩=>⟨σ,H6,Y,J⟩
def D6(f:Int->Int->Int):D8:=λx y H Q=>∃i j,x= .int i/\y= .int j/\Q (.int (f i j)) H
def JD:Cd X .Add (D6 λi j=>i+j):=by
 intro a s σ H x y v u Q I c b h;obtain⟨i,j,e,d,q⟩:=h;subst e;subst d;obtain⟨t,rfl⟩:=c;obtain⟨f,rfl⟩:=b;show iadd_int ⟨.int _,H,I.tok _,⟨_,rfl⟩,q⟩
def PV:Cd X .Sub (D6 λi j=>i-j):=by
 intro a s σ H x y v u Q I c b h;obtain⟨i,j,e,d,q⟩:=h;subst e;subst d;obtain⟨t,rfl⟩:=c;obtain⟨f,rfl⟩:=b;show isub_int ⟨.int _,H,I.tok _,⟨_,rfl⟩,q⟩
def HE(c:TT)(f:TS):TS:=λD σ H=>∃W:Nat->St->Hp->Prop,(∃m,W m σ H)/\∀m σ H,W m σ H->
 c σ H λb H1=>if b=true then∃N:St->Hp->Prop,(∀a e,N a e->∃d,d<m/\W d a e)/\f {D with nx:=N,ct:=N,bk:=D.nx} σ H1 else D.nx σ H1
def LL(w:PassesOwn (model X.prog X.w) X.A X.env X.xe)(K:PT X c t)(L:g9 X d u):PS X (.While c d [] pos) (HE t u):=by
 intro a s σ H D I h;obtain⟨W,⟨J,C⟩,turn⟩:=h;show wpAny_While (codeAny_whileLoop (λn G=>∃r A,Inv X a r A G/\W n r A) ?_ J ⟨σ,H,I,C⟩);rintro n F ⟨i,H1,M,B⟩;show Yw w (bR (K a F i H1 _ M (turn n i H1 B)) λb E ⟨z,y,k⟩=>?_);cases b with
 |true=>
  obtain⟨N,x,k⟩:=k;rw[We rfl];show Yw w (bR (L a E i z _ y k) λf O j=>?_);cases f with
  |next=>
   obtain⟨e,g,q,m⟩:=j;obtain⟨o,p,l⟩:=x e g m;show⟨o,p,e,g,q,l⟩
  |cont=>
   obtain⟨e,g,q,m⟩:=j;obtain⟨o,p,l⟩:=x e g m;show⟨o,p,e,g,q,l⟩
  |brk=>show j
  |ret v=>show j
 |false=>
  rw[Wc Xj];show YW ⟨i,z,y,k⟩
end
structure It where
 go:Nat->Hp->Prop
 oW:Nat->Hp->V->Hp->Prop
 stop:Nat->Hp->Prop
def l_(X:Cx)(pins:List (Addr×Obj))(H:Hp)(b:Addr):Prop:=
 H b=none/\b≠X.env.locals/\b∉X.fs/\(b∈X.ex\/X.s₀.heap.objs.size<=b)/\(∀x c,X.env.cells.lookup x=some c->c≠b)/\∀p∈X.pn++pins,p.1≠b
def Inv.vw{X:Cx}{pins:List (Addr×Obj)}{σ:St}{H d:Hp}{s:Shared}{b:Addr}(I:Inv X pins σ H s)(a:s.heap.objs.size<=b)(g:d b=none):l_ X pins d b:=by
 show⟨g,Yt (WA I.lt a),I.RT a,.inr (Wj I.sz a),λx c e z=>?_,λp f z=>?_⟩
 . obtain⟨v,q⟩:=I.cell x c e;show absurd (WA q.lt (by rw[z];show a)) (WQ _)
 . show absurd (WA (Wq (I.pin p f).1) (by rw[z];show a)) (WQ _)
structure Turn(P:Program)(w:World)(K:PySem.W.Frag)(tg:Expr)(J:It)(fp:List Addr)(it:Addr)(tn:Nat->Heap->Prop):Prop where
 mem:it∈fp
 obj:∀i h,tn i h->∀b∈fp,∃o,h.get? b=some o/\∀v,o.data≠ .cell v
 keep:∀i h h',tn i h->(∀b∈fp,∀o,h.get? b=some o->h'.get? b=some o)->tn i h'
 item:∀(X:Cx),X.prog=P->X.w=w->X.K=K->X.calm=true->∀(i:Nat) (pins:List (Addr×Obj)) (s:Shared) (σ:St) (H:Hp) (E:Value->Shared->Prop),Inv X pins σ H s->(∀b∈fp,l_ X pins H b)->tn i s.heap->J.go i H->
  wpAny (model P w) X.A (pyNext (.ref it)) (λr s1=>∃u,r=some u/\
   wpAny (model P w) X.A (letOwnedTupleGo tg (.ref it) u) (λ_ s2=>∃x H',Inv X pins σ H' s2/\RelV x u/\J.oW i H x H'/\tn (i+1) s2.heap/\∀b∈fp,H' b=none) E s1) E s
 done:∀(X:Cx),X.prog=P->X.w=w->X.K=K->X.calm=true->∀(i:Nat) (pins:List (Addr×Obj)) (s:Shared) (σ:St) (H:Hp) (E:Value->Shared->Prop),Inv X pins σ H s->(∀b∈fp,l_ X pins H b)->tn i s.heap->J.stop i H->
  wpAny (model P w) X.A (pyNext (.ref it)) (λr s1=>r=none/\Inv X pins σ H s1) E s
 self:∀(A:Around) (i:Nat) (s:Shared) (Q:Value->Shared->Prop) (E:Value->Shared->Prop),tn i s.heap->Q (.ref it) s->wpAny (model P w) A (pyIter (.ref it)) Q E s
abbrev TI:=St->Hp->(It->Hp->Prop)->Prop
def Md(X:Cx)(pins:List (Addr×Obj))(σ:St)(f:Expr)(R:It->Hp->Prop)(a:Value)(c:Shared):Prop:=
 ∃(d:Addr) (e:List Addr) (tn:Nat->Heap->Prop) (J:It) (H':Hp),a= .ref d/\Inv X pins σ H' c/\Turn X.prog X.w X.K f J e d tn/\tn 0 c.heap/\(∀b∈e,l_ X pins H' b)/\R J H'
def PI(X:Cx)(d b:Expr)(c:TI):Prop:=
 ∀(a:List (Addr×Obj)) (s:Shared) (σ:St) (H:Hp) (R:It->Hp->Prop),Inv X a σ H s->c σ H R->
  wpAny (model X.prog X.w) X.A (eval b X.env) (λv e=>wpAny (model X.prog X.w) X.A (pyIter v) (Md X a σ d R) X.xe e) X.xe s
def Ai{s:Shared}{o:Obj}(c:s.heap.get? it=some o)(f:o.cls= .type n)(e:o.data= .fields vs)
 (d: ["enumerate","zip","dict_itemiterator","dict_reverseitemiterator","odict_iterator","itertools.zip_longest","itertools.pairwise"].contains n=false) (a:Q () s):wpAny M A (letOwnedTupleGo b (.ref it) u) Q E s:=by
 unfold letOwnedTupleGo
 cases b<;>first
  |show Wk a
  |(cases u<;>first
     |show Wk a
     |(show V9 (wpAny_load c ?_)
       rw[f,e];change wpAny M A (if(["enumerate","zip","dict_itemiterator","dict_reverseitemiterator","odict_iterator","itertools.zip_longest","itertools.pairwise"].contains n&&vs[0]?==some (rawInt _))=true then _ else _) Q E s;rw[Wc (by intro h;rw[d,aa1]at h;cases h)];show Wk a))
def PU(K:PySem.W.Frag)(a:Addr):It:=
 ⟨λi H=>∃b x,mH K H a b/\b[i]?=some x,λi H x c=>c=H/\∀b,mH K H a b->b[i]?=some x,λi H=>∃b,mH K H a b/\b.length<=i⟩
def Q9(K:PySem.W.Frag)(a:Addr):It:=
 ⟨λi H=>∃b x,iF K H a b/\b[i]?=some x,λi H x c=>c=H/\∀b,iF K H a b->b[i]?=some x,λi H=>∃b,iF K H a b/\b.length<=i⟩
def y_(a:Int)(n:Nat):It:=⟨λi _=>i<n,λi H x b=>b=H/\x= .int (a+i),λi _=>n<=i⟩
def Iw{P:Program}{w:World}{K:PySem.W.Frag}{N:Expr}(a it:Addr):Turn P w K N (PU K a) [it] it (λi h=>h.IsListIter it a i) where
 mem:=by simp
 obj:=λi h st b g=>by
  let e:b=it:=by simpa using g
  subst e;obtain⟨o,e,c,d⟩:=st;show⟨o,e,λv z=>by rw[d]at z;cases z⟩
 keep:=λi h n st k=>st.at λo e=>k it (by simp) o e
 item:=by
  intro X A t B L i f s σ H E I m st y;subst A t B;obtain⟨M,x,l,r⟩:=y;obtain⟨W,q,p,R⟩:=I.list l;obtain⟨u,T,Q⟩:=q.get r;obtain⟨J,G,U,F,D,C⟩:=m it (by simp);show wpAny_pyNext_list_item st p.isList (x:=u) (by simpa using T) λn j O=>?_;let Y:Inv X f σ H {s with heap:=n}:=I.turned (t':=s.toks) (λb o g e=>(O.2 b g).trans e) J G F D C;obtain⟨o,e,c,d⟩:=id j;show⟨u,rfl,Ai (s:={s with heap:=n}) e c d (by decide) ⟨x,H,Y,Q,⟨rfl,λZ S=>by rw[I.Dd S l];show r⟩,j,λb g=>(m b g).1⟩⟩
 done:=by
  intro X A t B L i f s σ H E I m st y;subst A t B;obtain⟨M,l,r⟩:=y;obtain⟨W,q,p,R⟩:=I.list l;obtain⟨J,G,U,F,D,C⟩:=m it (by simp);let hl:=q.length;show wpAny_pyNext_list_end (I.ok.hd L) st p.isList (by simp;lia) λn V=>⟨rfl,I.turned (t':=s.toks) (λb o g e=>V b o g e) J G F D C⟩
 self:=λ_ _ _ _ _ st h=>wpAny_pyIter_listiter st h
def Gx{P:Program}{w:World}{K:PySem.W.Frag}{O:Expr}(a it:Addr):Turn P w K O (Q9 K a) [it] it (λi h=>h.IsTupleIter it a i) where
 mem:=by simp
 obj:=λi h st b g=>by
  let e:b=it:=by simpa using g
  subst e;obtain⟨o,e,c,d⟩:=st;show⟨o,e,λv z=>by rw[d]at z;cases z⟩
 keep:=λi h n st k=>st.at λo e=>k it (by simp) o e
 item:=by
  intro X A t B M i f s σ H E I m st y;subst A t B;obtain⟨N,x,l,r⟩:=y;obtain⟨L,q,p,S⟩:=I.tuple l;obtain⟨u,U,R⟩:=q.get r;obtain⟨J,G,V,F,D,C⟩:=m it (by simp);show wpAny_pyNext_tuple_item st (show s.heap.IsTuple a L.toArray from p) (x:=u) (by simpa using U) λn j Q=>?_;let Y:Inv X f σ H {s with heap:=n}:=I.turned (t':=s.toks) (λb o g e=>(Q.2 b g).trans e) J G F D C;obtain⟨o,e,c,d⟩:=id j;show⟨u,rfl,Ai (s:={s with heap:=n}) e c d (by decide) ⟨x,H,Y,R,⟨rfl,λZ T=>by rw[I.yJ T l];show r⟩,j,λb g=>(m b g).1⟩⟩
 done:=by
  intro X A t B M i f s σ H E I m st y;subst A t B;obtain⟨N,l,r⟩:=y;obtain⟨L,q,p,S⟩:=I.tuple l;obtain⟨J,G,V,F,D,C⟩:=m it (by simp);let hl:=q.length;show wpAny_pyNext_tuple_end (I.ok.hd M) st (show s.heap.IsTuple a L.toArray from p) (by simp;lia) λn W=>⟨rfl,I.turned (t':=s.toks) (λb o g e=>W b o g e) J G F D C⟩
 self:=λ_ _ _ _ _ st h=>wpAny_pyIter_tupleiter st h
def FJ{P:Program}{w:World}{K:PySem.W.Frag}{D:Expr}(it:Addr)(f:Int)(n:Nat):Turn P w K D (y_ f n) [it] it (λi h=>IsRangeIter h it (f+(i:Nat)*1) ((n:Int)-(i:Nat)) 1) where
 mem:=by simp
 obj:=λi h st b c=>by
  let e:b=it:=by simpa using c
  subst e
  show⟨_,st,λv z=>by
   let C:Data.fields _=Data.cell v:=z;cases C⟩
 keep:=λi h j st k=>k it (by simp) _ st
 item:=by
  intro X q l r p i a s σ H E I g st m;subst q l r;obtain⟨B,A,J,y,x,u⟩:=g it (by simp);let W:=Walks.range (prog:=X.prog) (w:=X.w) (I.ok.hd p) it f 1 n;show W.item i s _ _ m st λv j tk G d F=>?_;obtain⟨t,rfl⟩:=G;let M:Inv X a σ H {s with heap:=j,toks:=tk}:=I.turned (λb o c e=>F b o (by simpa using c) e) B A y x u;show⟨_,rfl,Ai (s:={s with heap:=j,toks:=tk}) (n:="range_iterator") d rfl rfl (by decide) ⟨.int (f+i),H,M,⟨t,?_⟩,⟨rfl,rfl⟩,d,λb c=>(g b c).1⟩⟩;rw[Int.mul_one]
 done:=by
  intro X q l r p i a s σ H E I g st m;subst q l r;obtain⟨B,A,J,y,x,u⟩:=g it (by simp);show wpAny_pyNext_range_end (I.ok.hd p) st (by let:n<=i:=m;lia) λj L=>⟨rfl,I.turned (t':=s.toks) (λb o c e=>L b o c e) B A y x u⟩
 self:=λ_ _ _ _ _ st h=>wpAny_pyIter_rangeiter st h
section
variable {X:Cx}{tg:Expr}
def A4{pins:List (Addr×Obj)}{σ:St}{H:Hp}{s:Shared}{R:It->Hp->Prop}{E:Value->Shared->Prop}{a c:Int}{t u v:Tok}{tk:Nat}(I:Inv X pins σ H s)(j: -(2^62)<=a)(i:a<2^62)(h: -(2^62)<=c)(g:c<2^62)
 (q:R (y_ a (c-a).toNat) H):wpAny (model X.prog X.w) X.A (pyIter (.ref s.heap.objs.size)) (Md X pins σ tg R) E {s with heap:=s.heap.push {cls:= .type "range",data:= .fields #[.int a t,.int c u,.int 1 v]},toks:=tk}:=by
 show wpAny_pyIter_range (IsRange.new ..) (small_one j i h g) ?_;let d:Inv X pins σ H {s with heap:=s.heap.push {cls:= .type "range",data:= .fields #[.int a t,.int c u,.int 1 v]},toks:=tk}:=I.kept λb o e=>V_ _ e
 show⟨(s.heap.push {cls:= .type "range",data:= .fields #[.int a t,.int c u,.int 1 v]}).objs.size,[(s.heap.push {cls:= .type "range",data:= .fields #[.int a t,.int c u,.int 1 v]}).objs.size],_,_,H,rfl,
  d.kept (t':=tk) λb o e=>V_ _ e,FJ _ a (c-a).toNat,?_,λb f=>?_,q⟩
 . have l:a+((0:Nat):Int)*1=a:=by simp
   let k:(((c-a).toNat:Nat):Int)-((0:Nat):Int)=Builtin.Range.rangeSize a c 1:=by rw[rangeSize_one];split<;>lia
   change IsRangeIter _ _ (a+((0:Nat):Int)*1) ((((c-a).toNat:Nat):Int)-((0:Nat):Int)) 1;rw[l,k];show Wu _ rfl
 . have e:b=(s.heap.push {cls:= .type "range",data:= .fields #[.int a t,.int c u,.int 1 v]}).objs.size:=by simpa using f
   subst e;show d.vw (Wg _) (d.aK.fresh (Wg _))
def Fe(b:TA):TI:=λσ H R=>b σ H λa H1=>∃j:Int,a=[.int j]/\ -(2^62)<=j/\j<2^62/\R (y_ 0 j.toNat) H1
def FP(b:TA):TI:=λσ H R=>b σ H λa H1=>∃i j:Int,a=[.int i,.int j]/\(-(2^62)<=i/\i<2^62/\ -(2^62)<=j/\j<2^62)/\R (y_ i (j-i).toNat) H1
def JM(m:Gl X "range")(l:X.mg "range"=none)(n:PA X [a] d)(k:starEach [a] X.env=[(false,eval a X.env)]:=by rfl):PI X tg (.Call (.Name "range" p) [a] [] pos) (Fe d):=by
 intro b s σ H R I h;show Call_ (kZ I m l boot_range (XF (bR (n pos b s σ H _ I h) λv w ⟨u,H1,o,g,c⟩=>?_) k rfl));obtain⟨j,e,c,i,q⟩:=c;subst e;cases g with
 |cons r f=>
  cases f;obtain⟨t,rfl⟩:=r;show call_range_1 (A4 o (by lia) (by lia) c i (by simpa using q))
def HR{a b:Expr}{k:TA}{p pos:Pos}(x:Gl X "range")(w:X.mg "range"=none)(y:PA X [a,b] k)(v:starEach [a,b] X.env=[(false,eval a X.env),(false,eval b X.env)]:=by rfl)(d:starEach [b] X.env=[(false,eval b X.env)]:=by rfl):
 PI X tg (.Call (.Name "range" p) [a,b] [] pos) (FP k):=by
 intro c s σ H R I h;show Call_ (kZ I x w boot_range (XF (bR (y pos c s σ H _ I h) λB D ⟨A,H1,z,l,g⟩=>?_) (by rw[v,d]) (by rw[d];rfl)));obtain⟨i,j,e,⟨g,u,o,n⟩,q⟩:=g;subst e;cases l with
 |cons r f=>
  cases f with
  |cons m f=>
   cases f;obtain⟨t,rfl⟩:=r;obtain⟨C,rfl⟩:=m;show call_range_2 (A4 z g u o n q)
def Rt(e:TI)(g:TG)(f:TS):TS:=λD σ H=>e σ H λJ H1=>∃W:Nat->Nat->St->Hp->Prop,(∃m,W 0 m σ H1)/\∀i m σ H,W i m σ H->
 (J.stop i H/\D.nx σ H)\/(J.go i H/\∃N:St->Hp->Prop,(∀b a,N b a->∃c,c<m/\W (i+1) c b a)/\∀x a,J.oW i H x a->g x σ a λd h=>f {D with nx:=N,ct:=N,bk:=D.nx} d h)
def tG(fp:List Addr)(h:Heap):List (Addr×Obj):=fp.filterMap λb=>(h.get? b).map λo=>(b,o)
def nF{h:Heap}(a:b∈fp)(e:h.get? b=some o):(b,o)∈tG fp h:=Zn.mpr ⟨b,a,by rw[e];rfl⟩
def Ih{h:Heap}(a:p∈tG fp h):p.1∈fp/\h.get? p.1=some p.2:=by
 obtain⟨b,c,e⟩:=Zn.mp a;cases q:h.get? b with
 |none=>rw[q]at e;cases e
 |some o=>
  rw[q]at e;let d:(b,o)=p:=W2 e;subst d;show⟨c,q⟩
def Inv.pinned{pins:List (Addr×Obj)}{σ:St}{H:Hp}{s:Shared}{fp:List Addr}(I:Inv X pins σ H s)(h:∀b∈fp,l_ X pins H b)(g:∀b∈fp,∃o,s.heap.get? b=some o/\∀v,o.data≠ .cell v):Inv X (pins++tG fp s.heap) σ H s:=
 I.tY λp f=>(W9.mp f).elim (λz=>I.pin p (Wz _ z)) λz=>by
  obtain⟨a,e⟩:=Ih z;obtain⟨k,j,i,_⟩:=h p.1 a;obtain⟨o,c,d⟩:=g p.1 a;rw[e]at c;cases c;show⟨e,k,j,i,d⟩
def Inv.iq{pins pl:List (Addr×Obj)}{σ:St}{H:Hp}{s:Shared}(I:Inv X (pins++pl) σ H s):Inv X pins σ H s:=I.tY λp a=>I.pin p (Wz _ (XG _ a))
def QN{k:Expr}{g:TG}(G:PassesOwn (model X.prog X.w) X.A X.env X.xe)(hc:X.calm=true)(hi:PI X tg k U)(hg:PG X tg g)(l:g9 X y Y)
 (hs:∀x,foldedSetIterable k X.env x=pure x:=by intro _;rfl):PS X (.For tg k y [] pos) (Rt U g Y):=by
 intro a s σ H D I h;show wpAny_For (bR (hi a s σ H _ I h) λv s1 h1=>bR h1 λah s2 h2=>?_) hs;obtain⟨it,L,V,J,H2,e,I2,T,O,f2,W,⟨m0,w0⟩,turn⟩:=h2;subst e;let j:∀ {t:Hp},(∀b∈L,t b=none)->∀b∈L,l_ X a t b:=λhn b l=>⟨hn b l,(f2 b l).2⟩
 show codeAny_forLoop_any (λn s'=>∃i B t,Inv X a B t s'/\V i s'.heap/\(∀b∈L,t b=none)/\W i n B t) ?_ m0 ⟨0,σ,H2,I2,O,λb l=>(f2 b l).1,w0⟩;rintro n s3 ⟨i,A,M,I3,E,K,w3⟩;rcases turn i n A M w3 with⟨C,qn⟩|⟨go,N,hN,step⟩
 . show Yw G (bR (T.done X rfl rfl rfl hc i a s3 A M X.xe I3 (j K) E C) λr s4 ⟨Q,I4⟩=>?_);subst Q;show YW ⟨A,M,I4,qn⟩
 . show Yw G (bR (T.item X rfl rfl rfl hc i a s3 A M X.xe I3 (j K) E go) λr s4 ⟨u,Q,h4⟩=>?_);subst Q;show Yw G (bR h4 λ_ Z ⟨x,H5,I5,r5,y5,z,R⟩=>?_);let S:=I5.pinned (j R) (T.obj _ _ z);show Yw G (bR (hg _ Z A H5 x u _ S r5 (step x H5 y5)) λ_ s6 ⟨σ6,H6,I6,q6⟩=>?_);show Yw G (bR (l _ s6 σ6 H6 _ I6 q6) λf P w=>?_)
   let again:∀ {c:St} {q:Hp},Inv X (a++tG L Z.heap) c q P->N c q->∃m,m<n/\∃i B t,Inv X a B t P/\V i P.heap/\(∀b∈L,t b=none)/\W i m B t:=λ{c q} p F=>by
    obtain⟨m',hm,w7⟩:=hN c q F;show⟨m',hm,i+1,c,q,p.iq,T.keep _ _ _ z λb l o e=>(p.pin (b,o) (Wz _ (Wz _ (nF l e)))).1,λb l=>?_,w7⟩;obtain⟨o,e,d⟩:=T.obj _ _ z b l;show(p.pin (b,o) (Wz _ (Wz _ (nF l e)))).2.1
   cases f with
   |next=>obtain⟨c,q,p,F⟩:=w;show again p F
   |cont=>obtain⟨c,q,p,F⟩:=w;show again p F
   |brk=>obtain⟨c,q,p,w⟩:=w;show⟨c,q,p.iq,w⟩
   |ret v=>obtain⟨x7,c,q,p,r7,w⟩:=w;show⟨x7,c,q,p.iq,r7,w⟩
end
def gj{c:Int}{n:Nat}{g:TG}{j:TS}{D:Ends}{σ:St}{H:Hp}(Pv:Nat->St->Hp->Prop)(r:Pv 0 σ H)
 (o:∀i σ H,i<n->Pv i σ H->g (.int (c+i)) σ H λd h=>j {D with nx:=Pv (i+1),ct:=Pv (i+1),bk:=D.nx} d h) (q:∀σ H,Pv n σ H->D.nx σ H):
 ∃W:Nat->Nat->St->Hp->Prop,(∃m,W 0 m σ H)/\∀i m σ H,W i m σ H->
  ((y_ c n).stop i H/\D.nx σ H)\/((y_ c n).go i H/\∃N:St->Hp->Prop,(∀f b,N f b->∃k,k<m/\W (i+1) k f b)/\∀x b,(y_ c n).oW i H x b->g x σ b λd h=>j {D with nx:=N,ct:=N,bk:=D.nx} d h):=by
 show⟨λi m σ H=>m=n-i/\i<=n/\Pv i σ H,⟨n,by simp,WU _,r⟩,?_⟩;rintro i m σ H ⟨rfl,s,p⟩;by_cases a:i<n
 . show .inr ⟨a,Pv (i+1),λf b l=>⟨n-(i+1),by lia,rfl,a,l⟩,λx b y=>?_⟩;obtain⟨e,y⟩:=y;subst e y;show o i σ _ a p
 . have e:i=n:=by lia
   subst e;show .inl ⟨Wg _,q σ H p⟩
abbrev R2:=V->V->Hp->VK->Prop
def cf(X:Cx)(f:Value->Value->Sem Value)(r:R2):Prop:=
 ∀(a:List (Addr×Obj)) (s:Shared) (σ:St) (H:Hp) (x y:V) (v u:Value) (Q:VK),Inv X a σ H s->RelV x v->RelV y u->r x y H Q->
  wpAny (model X.prog X.w) X.A (f v u) (EP X a σ Q) X.xe s
def E6(X:Cx)(f:Value->Sem Value)(r:V->Hp->VK->Prop):Prop:=
 ∀(a:List (Addr×Obj)) (s:Shared) (σ:St) (H:Hp) (x:V) (v:Value) (Q:VK),Inv X a σ H s->RelV x v->r x H Q->
  wpAny (model X.prog X.w) X.A (f v) (EP X a σ Q) X.xe s
def bJ(X:Cx)(f:Value)(r:List V->Hp->VK->Prop):Prop:=
 ∀(a:List (Addr×Obj)) (s:Shared) (σ:St) (H:Hp) (xs:List V) (us:List Value) (Q:VK),Inv X a σ H s->Vals xs us->r xs H Q->
  wpAny (model X.prog X.w) X.A (call f us) (EP X a σ Q) X.xe s
def Hm(r:R2)(b a:TE):TE:=λσ H Q=>b σ H λx H1=>a σ H1 λy c=>r x y c Q
def UM(r:V->Hp->VK->Prop)(a:TE):TE:=λσ H Q=>a σ H λx H1=>r x H1 Q
def rI(C:Int->Int->Prop)(g:Int->Int->V):R2:=λx y H Q=>∃i j,x= .int i/\y= .int j/\C i j/\Q (g i j) H
def we(g:Int->Int->V):R2:=λx y H Q=>∃i j,x= .int i/\y= .int j/\Q (g i j) H
def rU(g:Int->V):V->Hp->VK->Prop:=λx H Q=>∃i,x= .int i/\Q (g i) H
section
variable {X:Cx}{a b c:Expr}{ta tb tc:TE}{pos:Pos}
def LN(q:PE X a ta)(p:PE X b tb){pins:List (Addr×Obj)}{s:Shared}{σ:St}{H:Hp}{R:V->V->Hp->Prop}(I:Inv X pins σ H s)
 (h:ta σ H λx H1=>tb σ H1 λy d=>R x y d) {Q:Value->Shared->Prop} {f:Value->Value->Sem Value}
 (o:∀v u e x y d,Inv X pins σ d e->RelV x v->RelV y u->R x y d->wpAny (model X.prog X.w) X.A (f v u) Q X.xe e):
 wpAny (model X.prog X.w) X.A (eval a X.env) (λv i=>wpAny (model X.prog X.w) X.A (eval b X.env) (λu g=>wpAny (model X.prog X.w) X.A (f v u) Q X.xe g) X.xe i) X.xe s:=by
 show bR (q pins s σ H _ I h) λv j ⟨x,H1,t,l,n⟩=>?_;show bR (p pins j σ H1 _ t n) λu e ⟨y,d,r,k,m⟩=>?_;show o v u e x y d r l k m
def Sb(i:cf X (binaryOp op) r)(k:PE X a ta)(j:PE X b tb):PE X (.BinOp a op b pos) (Hm r ta tb):=by
 intro d s σ H Q I h;show wpAny_BinOp (LN k j I h λv u e x y m l g f q=>i d e σ m x y v u Q l g f q)
def TX(i:E6 X (unaryOp op) r)(j:PE X a ta):PE X (.UnaryOp op a pos) (UM r ta):=by
 intro d s σ H Q I h;show UnaryOp_ (bR (j d s σ H _ I h) λv e ⟨x,H1,k,f,g⟩=>i d e σ H1 x v Q k f g)
def MQ{f:Value->Value->Sem Value}{g:Int->Int->Int}
 (d:∀(i j:Int) (t u:Tok) (s:Shared) (Q:Value->Shared->Prop) (E:Value->Shared->Prop),C i j->Q (.int (g i j) s.toks) {s with toks:=s.toks+1}->wpAny (model X.prog X.w) X.A (f (.int i t) (.int j u)) Q E s):
 cf X f (rI C λi j=> .int (g i j)):=by
 intro e s σ H x y v u Q I m l h;obtain⟨i,j,rfl,rfl,n,q⟩:=h;obtain⟨t,rfl⟩:=m;obtain⟨k,rfl⟩:=l;show d i j t k s _ _ n ⟨.int (g i j),H,I.tok _,⟨_,rfl⟩,q⟩
def QR{f:Value->Value->Sem Value}{g:Int->Int->Int}
 (d:∀(i j:Int) (t u:Tok) (s:Shared) (Q:Value->Shared->Prop) (E:Value->Shared->Prop),Q (.int (g i j) s.toks) {s with toks:=s.toks+1}->wpAny (model X.prog X.w) X.A (f (.int i t) (.int j u)) Q E s):
 cf X f (we λi j=> .int (g i j)):=by
 intro e s σ H x y v u Q I m l h;obtain⟨i,j,rfl,rfl,q⟩:=h;obtain⟨t,rfl⟩:=m;obtain⟨k,rfl⟩:=l;show d i j t k s _ _ ⟨.int (g i j),H,I.tok _,⟨_,rfl⟩,q⟩
def GQ{f:Value->Value->Sem Value}{g:Int->Int->Bool}
 (d:∀(i j:Int) (t u:Tok) (s:Shared) (Q:Value->Shared->Prop) (E:Value->Shared->Prop),Q (.bool (g i j)) s->wpAny (model X.prog X.w) X.A (f (.int i t) (.int j u)) Q E s):
 cf X f (we λi j=> .bl (g i j)):=by
 intro e s σ H x y v u Q I m l h;obtain⟨i,j,rfl,rfl,q⟩:=h;obtain⟨t,rfl⟩:=m;obtain⟨k,rfl⟩:=l;show d i j t k s _ _ ⟨.bl (g i j),H,I,rfl,q⟩
def Ky(i j:Int):Prop:=0<=j/\j<=1000000/\i.natAbs<2^64
def QL:cf X (binaryOp .Add) (we λi j=> .int (i+j)):=QR λ_ _ _ _ _ _ _ q=>add_int q
def Px:cf X (binaryOp .Sub) (we λi j=> .int (i-j)):=QR λ_ _ _ _ _ _ _ q=>sub_int q
def NF:cf X (binaryOp .Mod) (rI (λ_ j=>j≠0) λi j=> .int (i.fmod j)):=MQ λ_ _ _ _ _ _ _ d q=>mod_int' d q
def Ru:cf X (binaryOp .Pow) (rI Ky λi j=> .int (i^j.toNat)):=MQ λ_ _ _ _ _ _ _ d q=>pow_int_small d.1 d.2.1 d.2.2 q
def VE{f:Value->Sem Value}{g:Int->Int}
 (d:∀(i:Int) (t:Tok) (s:Shared) (Q:Value->Shared->Prop) (E:Value->Shared->Prop),Q (.int (g i) s.toks) {s with toks:=s.toks+1}->wpAny (model X.prog X.w) X.A (f (.int i t)) Q E s):
 E6 X f (rU λi=> .int (g i)):=by
 intro e s σ H x v Q I j h;obtain⟨i,rfl,q⟩:=h;obtain⟨t,rfl⟩:=j;show d i t s _ _ ⟨.int (g i),H,I.tok _,⟨_,rfl⟩,q⟩
def Qq:E6 X (unaryOp .USub) (rU λi=> .int (-i)):=VE λ_ _ _ _ _ q=>neg_int q
end
def Vo:V->V->Bool
 | .aD,.aD=>true| .aD,.int _=>true| .int _,.aD=>true| .aD,.bl _=>true| .bl _,.aD=>true| .aD,.str _=>true| .str _,.aD=>true
 | .int _,.int _=>true| .bl _,.bl _=>true| .str _,.str _=>true| .uU _,.uU _=>true
 | .int _,.str _=>true| .str _,.int _=>true| .bl _,.str _=>true| .str _,.bl _=>true
 |_,_=>false
def VU:R2:=λx y H Q=>Vo x y=true/\Q (.bl (!decide (x=y))) H
def Oq:decide (V.int i=V.int j)=(i==j):=by
 rw[ZU];simp
def QB:decide (V.bl i=V.bl j)=(i==j):=by
 rw[ZU];simp
def NT:decide (V.str i=V.str j)=(i==j):=by
 rw[ZU];simp
def Pd{i j:Array UInt8}:decide (V.uU i=V.uU j)=(i.toList==j.toList):=by
 rw[ZU];cases i;cases j;simp
section
variable {X:Cx}{a b c:Expr}{ta tb tc:TE}{pos:Pos}
def fm{pins:List (Addr×Obj)}{σ:St}{H:Hp}{s:Shared}{Q:VK}{k d:Bool}(I:Inv X pins σ H s)(q:Q (.bl k) H)(e:k=d):EP X pins σ Q (.bool d) s:=by
 subst e;show⟨.bl k,H,I,rfl,q⟩
def Uk:cf X (compareOp .NotEq) VU:=by
 intro k s σ H x y v u Q I g d h;obtain⟨f,q⟩:=h;cases x with
 |aD=>
  cases g;cases y with
  |aD=>cases d;show PySem.EqNone.ne_none_none (fm I q (by simp))
  |bl j=>cases d;show PySem.EqNone.ne_none_bool (fm I q (by simp))
  |int j=>obtain⟨e,rfl⟩:=d;show PySem.EqNone.ne_none_int (fm I q (by simp))
  |str j=>obtain⟨e,rfl⟩:=d;show PySem.EqNone.ne_none_str (fm I q (by simp))
  |_=>show absurd (show false=true from f) Xj
 |bl i=>
  cases g;cases y with
  |aD=>cases d;show PySem.EqNone.ne_bool_none (fm I q (by simp))
  |bl j=>cases d;show ne_bool (fm I q (Xl not QB))
  |str j=>obtain⟨e,rfl⟩:=d;show PySem.EqMixed.ne_bool_str (fm I q (by simp))
  |_=>show absurd (show false=true from f) Xj
 |int i=>
  obtain⟨t,rfl⟩:=g;cases y with
  |aD=>cases d;show PySem.EqNone.ne_int_none (fm I q (by simp))
  |int j=>obtain⟨e,rfl⟩:=d;show ne_int (fm I q (Xl not Oq))
  |str j=>obtain⟨e,rfl⟩:=d;show PySem.EqMixed.ne_int_str (fm I q (by simp))
  |_=>show absurd (show false=true from f) Xj
 |str i=>
  obtain⟨t,rfl⟩:=g;cases y with
  |aD=>cases d;show PySem.EqNone.ne_str_none (fm I q (by simp))
  |bl j=>cases d;show PySem.EqMixed.ne_str_bool (fm I q (by simp))
  |int j=>obtain⟨e,rfl⟩:=d;show PySem.EqMixed.ne_str_int (fm I q (by simp))
  |str j=>obtain⟨e,rfl⟩:=d;show ne_str (fm I q (Xl not NT))
  |_=>show absurd (show false=true from f) Xj
 |uU i=>
  obtain⟨t,rfl⟩:=g;cases y with
  |uU j=>obtain⟨e,rfl⟩:=d;show PySem.W.ne_bytes (fm I q (Xl not Pd))
  |_=>show absurd (show false=true from f) Xj
 |_=>cases y<;>show absurd (show false=true from f) Xj
def T5:cf X (compareOp .Lt) (we λi j=> .bl (decide (i<j))):=GQ λ_ _ _ _ _ _ _ q=>lt_int q
def Se:cf X (compareOp .LtE) (we λi j=> .bl (decide (i<=j))):=GQ λ_ _ _ _ _ _ _ q=>le_int q
def S8:cf X (compareOp .Gt) (we λi j=> .bl (decide (j<i))):=GQ λ_ _ _ _ _ _ _ q=>gt_int q
def Tp:cf X (compareOp .GtE) (we λi j=> .bl (decide (j<=i))):=GQ λ_ _ _ _ _ _ _ q=>ge_int q
def Pm:cf X (compareOp .Is) (λx y H Q=>y= .aD/\Q (.bl (decide (x= .aD))) H):=by
 intro e s σ H x y v u Q I d f h;obtain⟨rfl,q⟩:=h;cases f;show is_none_gen (fm I q ?_)
 cases x<;>first
  |(cases d;rfl)
  |(obtain⟨t,rfl⟩:=d;rfl)
def N4:cf X (compareOp .IsNot) (λx y H Q=>y= .aD/\Q (.bl (!decide (x= .aD))) H):=by
 intro e s σ H x y v u Q I d f h;obtain⟨rfl,q⟩:=h;cases f;show isnot_none_gen (fm I q ?_)
 cases x<;>first
  |(cases d;rfl)
  |(obtain⟨t,rfl⟩:=d;rfl)
def dm(b:Expr)(h:op≠ .In:=by decide)(d:op≠ .NotIn:=by decide):behindInMarks op b=false:=by
 let f:(op==CmpOp.In)=false:=by cases op<;>first|rfl|show absurd rfl h
 let e:(op==CmpOp.NotIn)=false:=by cases op<;>first|rfl|show absurd rfl d
 cases b<;>simp[behindInMarks,f,e]
def OP(i:cf X (compareOp op) r)(l:PE X a ta)(k:PE X b tb)(j:behindInMarks op b=false):PE X (.Compare a [op] [b] pos) (Hm r ta tb):=by
 intro d s σ H Q I h;show wpAny_Compare1 (LN l k I h λv u e x y n m g f q=>i d e σ n x y v u Q m g f q) j
def Tg(t:TE):TT:=λσ H Q=>t σ H λx d=>∃k,x= .bl k/\Q k d
def N3(p:cf X (compareOp op) r)(w:PE X a ta)(t:PE X b tb)(q:behindInMarks op b=false):PT X (.Compare a [op] [b] pos) (Tg (Hm r ta tb)):=by
 intro d s σ H Q I h
 show wpAny_isTrue_Compare1 (bR (w d s σ H _ I h) λv g ⟨x,H1,C,l,o⟩=>bR (t d g σ H1 _ C o) λu f ⟨y,E,B,j,n⟩=>
  bR (p d f σ E x y v u _ B l j n) λc F ⟨z,D,A,i,k,e,m⟩=>?_) q
 subst e;cases i;show Yj ⟨D,A,m⟩
def p9:(sizeLine:Nat)<2^63:=by rw[Xn];decide
def Fy:cf X (binaryOp .Add) (λx y H Q=>∃i j,x= .str i/\y= .str j/\i.length+j.length<=sizeLine/\Q (.str (i++j)) H):=by
 intro d s σ H x y v u Q I g f h;obtain⟨i,j,rfl,rfl,k,q⟩:=h;obtain⟨t,rfl⟩:=g;obtain⟨e,rfl⟩:=f;show add_str (λe tk=>⟨.str (i++j),H,I.tok _,⟨_,rfl⟩,q⟩) k
def vals1(r:Vals [x] us):∃u,us=[u]/\RelV x u:=by
 cases r with
 |cons e d=>cases d;show⟨_,rfl,e⟩
def vals2(r:Vals [x,y] us):∃u d,us=[u,d]/\RelV x u/\RelV y d:=by
 cases r with
 |cons h g=>
  cases g with
  |cons f e=>cases e;show⟨_,_,rfl,h,f⟩
def Ku:bJ X (.builtin "abs") (λxs H Q=>∃i,xs=[.int i]/\Q (.int (if i<0 then-i else i)) H):=by
 intro d s σ H xs e Q I r h;obtain⟨i,rfl,q⟩:=h;obtain⟨u,rfl,t,rfl⟩:=vals1 r;show call_abs_int λu tk=>⟨.int (if i<0 then-i else i),H,I.tok _,⟨_,rfl⟩,q⟩
def Iy(f:X.calm=true):bJ X (.builtin "max") (λxs H Q=>∃i j,xs=[.int i,.int j]/\Q (.int (if j>i then j else i)) H):=by
 intro e s σ H xs l Q I r h;obtain⟨i,j,rfl,q⟩:=h;obtain⟨u,g,rfl,⟨t,rfl⟩,⟨m,rfl⟩⟩:=vals2 r;show max_two_ints (I.ok.hd f) λn tk k=>⟨_,H,I.kept k,?_,q⟩
 by_cases d:j>i
 . rw[We d,We d];show⟨_,rfl⟩
 . rw[Wc d,Wc d];show⟨_,rfl⟩
def IE:bJ X (.type "int") (λxs H Q=>(∃i,xs=[.int i]/\Q (.int i) H)\/∃k,xs=[.bl k]/\Q (.int (if k then 1 else 0)) H):=by
 intro d s σ H xs f Q I r h;rcases h with⟨i,rfl,q⟩|⟨k,rfl,q⟩
 . obtain⟨u,rfl,t,rfl⟩:=vals1 r;show call_int_int ⟨.int i,H,I,⟨_,rfl⟩,q⟩
 . obtain⟨u,rfl,e⟩:=vals1 r;cases e;show call_int_bool ⟨.int (if k then 1 else 0),H,I.tok _,⟨_,rfl⟩,q⟩
end
structure vX(h:Heap)(x dx C:Addr)(mA:Str->Option Value):Prop where
 obj:h.get? x=some (PySem.W.instObj C dx)
 ns:h.Ns1 dx mA
 ne:dx≠x
def Jc{h:Heap}{g:Addr}{d:Str->Option Value}(n:h.Ns1 g d):∃c,h.get? g=some c/\∀name,PySem.W.lookIn name c=some (d name):=by
 obtain⟨o,f,r,j,m,l,_,k⟩:=n;show⟨o,j,λname=>?_⟩;let e:=k name;unfold nsFind findBy at e;rw[<-Array.find?_toList]at e;unfold PySem.W.lookIn;rw[m];dsimp only;split
 . rename_i y q;rw[q]at e;show Xl some e
 . rename_i q;rw[q]at e
   let a:f.toList.any (·.refKey)=false:=by
    rw[aau];intro y i;obtain⟨z,t,b⟩:=l y (Array.mem_toList_iff.mp i);simp[DictEntry.refKey,b]
   let p:¬f.toList.any (·.refKey)=true:=by rw[a];show Xj
   rw[Wc p];show Xl some e
def vX.look{b:Str->Option Value}(I:vX h x c C b):∃a,PySem.W.InstAt h x (PySem.W.instObj C c) C (some a)/\∀name,PySem.W.lookIn name a=some (b name):=
 let⟨a,ho,hl⟩:=Jc I.ns
 ⟨a,⟨I.obj,rfl,rfl,ho⟩,hl⟩
section
variable {prog:Program}{w:World}{A:Around}{E:Value->Shared->Prop}{s:Shared}{K:PySem.W.Frag}{x dx C f:Addr}{mA:Str->Option Value}{name:Str}{v:Value}
def get_map(X:K.In s.heap)(I:vX s.heap x dx C mA)(g:PySem.W.plainGet K C name=true)(e:PySem.W.hasDictIn K C=true)
 (i:PySem.W.findIn K (.ref C) name=some none) (c:mA name=some v) (b:PySem.W.handedIn v=true) (h:Q v {s with toks:=s.toks+1}):
 wpAny (model prog w) A (getAttr (.ref x) name a) Q E s:=by
 obtain⟨j,J,d⟩:=I.look;show PySem.W.get_value X J (aac g).1 (PySem.W.findObj_own e i rfl (by rw[d,c])) b h
def Kw{pl:Sem Bool}(X:K.In s.heap)(I:vX s.heap x dx C mA)(a:PySem.W.plainGet K C name=true)
 (g:PySem.W.findIn K (.ref C) name=some (some (.ref f))) (d:PySem.W.isFn K (.ref f)=true) (c:mA name=none) (h:Q (.ref f,[.ref x]) s):
 wpAny (model prog w) A (getMethod (.ref x) name pl) Q E s:=by
 obtain⟨b,J,e⟩:=I.look;show PySem.W.method_fn X J (aac a).1 (aac a).2 g (Yh.mp d) (by change(PySem.W.lookIn name b).map (·.isSome)=some false;rw[e,c];rfl) h
def iI{ns:List Str}(X:K.In s.heap)(I:vX s.heap x dx C mA)
 (o:PySem.W.findIn K (.ref C) "__setattr__"=some (some (.builtin "object.__setattr__"))) (p:PySem.W.plainOver K C=true) (m:PySem.W.takerIn K C name=some none) (q:PySem.W.hasDictIn K C=true)
 (l:PySem.Within mA ns) (n:ns.length<=sizeLine)
 (h:∀h',vX h' x dx C (λy=>if y=name then some v else mA y)->Heap.SameBut dx s.heap h'->Q () {s with heap:=h',toks:=s.toks+2}):
 wpAny (model prog w) A (setAttr (.ref x) name v) Q E s:=by
 obtain⟨B,J,F⟩:=I.look;show PySem.W.set_plain X J o (PySem.W.osa_open (s:={s with toks:=s.toks+1}) (r:=none) X J p m λb=>?_);obtain⟨G,t,i⟩:=PySem.W.any_some q;let k:s.heap.get? x=some ⟨.ref C,some dx,.plain,#[]⟩:=I.obj;show V9 (Wk (V9 (V9 (wpAny_loadPart k (V9 (PySem.W.Looks.here (s:={s with toks:=s.toks+1}) (PySem.W.looks_clsIn X t) ?_))))));rw[i];show Wk (a:=some dx) (V9 (Wk (V9 ?_)));show wpAny_nsSet1 (s:={s with toks:=s.toks+1}) I.ns λh' d c=>?_;obtain⟨D,u,z,e,g,j⟩:=d.count (PySem.Within.cons name v l);show V9 (wpAny_lookBehind e (by rw[g];show pastItsLine_dict (Wj j (by rw[WS];lia))) ?_);show Wk (h _ ⟨(c.2 _ (Wi I.ne)).trans I.obj,d,I.ne⟩ c)
def LQ(X:K.In s.heap)(c:PySem.W.makesIn K C=true)
 (e:PySem.W.findIn K (.ref C) "__init__"=some (some (.ref f))) (i:PySem.W.typeIn K (.ref f)=some (.type "function"))
 (h:codeAny (model prog w) (A.under (.builtin "type.__call__" ⟨.ref C::vs,b⟩)) (.call (.ref f) ⟨.ref (s.heap.objs.size+1)::vs,b⟩) (PySem.W.InitBack (s.heap.objs.size+1) R)
   {s with heap:=(s.heap.push PySem.W.emptyDict).push (PySem.W.instObj C s.heap.objs.size)}):
 codeAny (model prog w) A (.call (.ref C) ⟨vs,b⟩) R s:=by
 obtain⟨k,g,d,t,j⟩:=s;show PySem.W.make_core (PySem.W.makes_of X c) (PySem.W.looks_findIn X e) (λa=>PySem.W.bind_fn X a i) (.inl rfl) h
end
def gW(f:Str)(v:V):List (Str×V)->List (Str×V)
 | []=>[(f,v)]
 |(g,x)::r=>if g=f then(g,v)::r else(g,x)::gW f v r
def uG(f g:Str)(v:V):∀fs:List (Str×V),(gW f v fs).lookup g=if g=f then some v else fs.lookup g
 | []=>by
   change List.lookup g [(f,v)]=_;by_cases h:g=f
   . have a:(g==f)=true:=Yh.mpr h;simp![List.lookup,a,We h]
   . have a:(g==f)=false:=Yl.mpr h;simp![List.lookup,a,Wc h]
 |(k,x)::r=>by
  let c:=uG f g v r;rw[show gW f v ((k,x)::r)=(if k=f then(k,v)::r else(k,x)::gW f v r)from rfl];by_cases b:k=f
  . rw[We b];by_cases h:g=k
    . have a:(g==k)=true:=Yh.mpr h;simp![List.lookup,a,We (h.trans b)]
    . have a:(g==k)=false:=Yl.mpr h;simp![List.lookup,a,Wc (λe:g=f=>h (e.trans b.symm))]
  . rw[Wc b];by_cases h:g=k
    . have a:(g==k)=true:=Yh.mpr h;simp![List.lookup,a,Wc (λe:g=f=>b (h.symm.trans e))]
    . have a:(g==k)=false:=Yl.mpr h;simp![List.lookup,a];show c
def sr(f:Str)(v:V):∀fs:List (Str×V),f∈(gW f v fs).map (·.1)/\∀g,g∈fs.map (·.1)->g∈(gW f v fs).map (·.1)
 | []=>⟨by simp[gW],λg h=>by simp at h⟩
 |(k,x)::r=>by
  obtain⟨c,b⟩:=sr f v r;rw[show gW f v ((k,x)::r)=(if k=f then(k,v)::r else(k,x)::gW f v r)from rfl];by_cases a:k=f
  . rw[We a];subst a;show⟨by simp,λg h=>by simpa using h⟩
  . rw[Wc a];show⟨?_,λg h=>?_⟩
    . rw[WJ];show Ww _ c
    . rw[WJ]at h⊢;rcases Wy.mp h with e|e
      . show Wy.mpr (.inl e)
      . show Ww _ (b g e)
def uX(f:Str)(v:V):∀fs:List (Str×V),(gW f v fs).length<=fs.length+1
 | []=>by simp[gW]
 |(k,x)::r=>by
  let b:=uX f v r;rw[show gW f v ((k,x)::r)=(if k=f then(k,v)::r else(k,x)::gW f v r)from rfl];by_cases a:k=f
  . rw[We a,WS,WS];lia
  . rw[Wc a,WS,WS];lia
def pQ.some_of(r:pQ (some v) o):∃u,o=some u/\RelV v u:=by
 cases o with
 |none=>show(show False from r).elim
 |some u=>show⟨u,rfl,r⟩
def pQ.none_of(r:pQ none o):o=none:=by
 cases o with
 |none=>rfl
 |some u=>show(show False from r).elim
def JK(r:RelV v u):PySem.W.handedIn u=true:=by
 cases v with
 |aD=>cases (show u=Value.none from r);rfl
 |bl b=>cases (show u=Value.bool b from r);rfl
 |int i=>obtain⟨t,e⟩:=(show∃t,u=Value.int i t from r);cases e;rfl
 |str x=>obtain⟨t,e⟩:=(show∃t,u=Value.str x t from r);cases e;rfl
 |uU b=>obtain⟨t,e⟩:=(show∃t,u=Value.bytes b t from r);cases e;rfl
 |u0 b=>obtain⟨t,e⟩:=(show∃t,u=Value.float b t from r);cases e;rfl
 |ref a=>cases (show u=Value.ref a from r);rfl
 |ty n=>cases (show u=Value.type n from r);rfl
section
variable {P:Program}{w:World}{H H':Hp}{h h':Heap}{a C dx:Addr}{fs fs':List (Str×V)}
def p_(g:iC P w H h)(e:H a=some (.ins C dx fs)):∃b,vX h a dx C b/\(∀f,pQ (fs.lookup f) (b f))/\PySem.Within b (fs.map (·.1))/\fs.length<=1000/\H dx=some (.own a):=by
 obtain⟨d,z,ne,c,b,n,r,q⟩:=(show dw P w H h a (.ins C dx fs)from g a _ e)
 show⟨b,⟨c,n,ne⟩,r,q,z,d⟩
end
structure mM(K:PySem.W.Frag)(C:Addr):Prop where
 pg:PySem.W.plainGet K C Str.empty=true
 hd:PySem.W.hasDictIn K C=true
 po:PySem.W.plainOver K C=true
 sa:PySem.W.findIn K (.ref C) "__setattr__"=some (some (.builtin "object.__setattr__"))
def mM.get{K:PySem.W.Frag}{C:Addr}(c:mM K C)(f:Str):PySem.W.plainGet K C f=true:=c.pg
def fF(K:PySem.W.Frag)(C:Addr)(f:Str):Prop:=PySem.W.findIn K (.ref C) f=some none
def fF.Sy{K:PySem.W.Frag}{C:Addr}{f:Str}(n:fF K C f):PySem.W.takerIn K C f=some none:=by
 unfold PySem.W.takerIn;rw[show PySem.W.findIn K (.ref C) f=some none from n];rfl
structure Meth(K:PySem.W.Frag)(C:Addr)(m:Str)(f:Addr):Prop where
 at_:PySem.W.findIn K (.ref C) m=some (some (.ref f))
 fn:PySem.W.isFn K (.ref f)=true
 kp:PySem.W.keepIn K (.ref f)=true
section
variable {X:Cx}{pins:List (Addr×Obj)}{σ:St}{H:Hp}{s:Shared}{a C dx:Addr}{fs:List (Str×V)}{f:Str}{v:V}{A:Around}{E:Value->Shared->Prop}
def Gu(I:Inv X pins σ H s)(e:H a=some (.ins C dx fs))(c:mM X.K C)(n:fF X.K C f)(l:fs.lookup f=some v)
 (h:∀u s',Inv X pins σ H s'->RelV v u->Q u s'):wpAny (model X.prog X.w) A (getAttr (.ref a) f b) Q E s:=by
 obtain⟨g,O,r,_,_,_⟩:=p_ I.aK e;obtain⟨u,i,d⟩:=pQ.some_of (v:=v) (o:=g f) (by rw[<-l];show r f);show get_map I.g4 O (c.get f) c.hd n i (JK d) (h u _ (I.tok _) d)
def wk{g:Addr}{pl:Sem Bool}(I:Inv X pins σ H s)(e:H a=some (.ins C dx fs))(c:mM X.K C)(k:Meth X.K C m g)(l:fs.lookup m=none)
 (h:Q (.ref g,[.ref a]) s):wpAny (model X.prog X.w) A (getMethod (.ref a) m pl) Q E s:=by
 obtain⟨b,O,r,_,_,_⟩:=p_ I.aK e;let d:b m=none:=pQ.none_of (by rw[<-l];show r m);show Kw I.g4 O (c.get m) k.at_ k.fn d h
def Gg(I:Inv X pins σ H s)(e:H a=some (.ins C dx fs))(c:mM X.K C)(n:fF X.K C f)(F:fs.length<1000)(m:RelV y u)
 (h:∀s',Inv X pins σ (upd H a (.ins C dx (gW f y fs))) s'->Q () s'):wpAny (model X.prog X.w) A (setAttr (.ref a) f u) Q E s:=by
 obtain⟨j,O,r,i,_,k⟩:=p_ I.aK e;let p:(fs.map (·.1)).length<=sizeLine:=by rw[Wd,Xn];lia
 show iI I.g4 O c.sa c.po n.Sy c.hd i p λD d l=>h _ ?_;let w:∃o,D.get? dx=some o:=let⟨o,_,_,e',_⟩:=d.ns;⟨o,e'⟩
 show I.write (x:=a) (e:=dx) (by rw[e];show True.intro) (.inr k) (λb q B z=>(l.2 b B).trans z) w ?_;show⟨by rw[aG O.ne];show k,?_,O.ne,d.obj,_,d.ns,λg=>?_,λg t=>?_⟩
 . have:=uX f y fs;lia
 . change pQ ((gW f y fs).lookup g) (if g=f then some u else j g);rw[uG];by_cases q:g=f
   . rw[We q,We q];show m
   . rw[Wc q,Wc q];show r g
 . by_cases q:g=f
   . rw[q];show(sr f y fs).1
   . show(sr f y fs).2 g (i g λz=>t ?_);change(if g=f then some u else j g)=none;rw[Wc q];show z
def Inv.made(I:Inv X pins σ H s):Inv X pins σ (upd (upd H s.heap.objs.size (.own (s.heap.objs.size+1))) (s.heap.objs.size+1) (.ins C s.heap.objs.size []))
 {s with heap:=(s.heap.push PySem.W.emptyDict).push (PySem.W.instObj C s.heap.objs.size)}:=by
 let c:(s.heap.push PySem.W.emptyDict).get? s.heap.objs.size=some PySem.W.emptyDict:=Wu s.heap rfl
 let i:((s.heap.push PySem.W.emptyDict).push (PySem.W.instObj C s.heap.objs.size)).get? (s.heap.objs.size+1)=some (PySem.W.instObj C s.heap.objs.size):=by
  let:=Wu (s.heap.push PySem.W.emptyDict) (o:=PySem.W.instObj C s.heap.objs.size) rfl;rwa [WY]at this
 let h:(s.heap.push PySem.W.emptyDict).Ns s.heap.objs.size (λ_=>none):=⟨PySem.W.emptyDict,#[],_,c,rfl,(λe g=>absurd g (by simp)),λ_=>rfl⟩
 let j:=I.laid (a:=s.heap.objs.size) (o:= .own (s.heap.objs.size+1)) (h':=s.heap.push PySem.W.emptyDict) (t':=s.toks) (λb u q=>V_ _ q) (Wg _) ⟨_,c⟩;show j.laid (a:=s.heap.objs.size+1) (o:= .ins C s.heap.objs.size []) (t':=s.toks) (λb u q=>V_ _ q) (aaJ (WY _ _)) ?_;let ne:s.heap.objs.size≠s.heap.objs.size+1:=WB (Xh _);show⟨by rw[aG ne,a9],WU _,ne,i,λ_=>none,(Heap.Ns1.of_empty h).at λo q=>V_ _ q,λ_=>True.intro,λy d=>absurd rfl d⟩
def OV{e:Expr}{f:Str}{s:Shared}(c:attributeBase e f env (eval e env)=eval e env)
 (h:wpAny (model prog w) A (eval e env) (λo b=>wpAny (model prog w) A (getAttr o f true) Q E b) E s):wpAny (model prog w) A (eval (.Attribute e f pos) env) Q E s:=
 Attribute_any_ h (by rw[arm_eval_Attribute,c])
end
def UX(K:PySem.W.Frag)(b:TE)(f:Str):TE:=λσ H Q=>b σ H λx H1=>∃a C c fs v,x= .ref a/\H1 a=some (.ins C c fs)/\mM K C/\fF K C f/\fs.lookup f=some v/\Q v H1
def U7(K:PySem.W.Frag)(e d:TE)(f:Str):TS:=λD σ H=>d σ H λy H1=>e σ H1 λx c=>∃a C b fs,x= .ref a/\c a=some (.ins C b fs)/\mM K C/\fF K C f/\fs.length<1000/\
 D.nx σ (upd c a (.ins C b (gW f y fs)))
section
variable {X:Cx}{o e value:Expr}{f:Str}{pos pos' tpos:Pos}{ta tv:TE}
def Q0(i:PE X e ta)(j:attributeBase e f X.env (eval e X.env)=eval e X.env):PE X (.Attribute e f pos) (UX X.K ta f):=by
 intro b s σ H Q I h;show OV j (bR (i b s σ H _ I h) λu y ⟨x,H1,r,d,a,C,z,fs,v,k,m,c,n,l,q⟩=>?_);subst k;obtain rfl:u=Value.ref a:=d;show Gu r m c n l λt w p g=>⟨v,H1,p,g,q⟩
def PM(r:PE X o ta)(m:PE X value tv)(p:swapsWith value (some (.Attribute o f pos')) pos.line X.env=pure false):PS X (.Assign [.Attribute o f pos'] value pos) (U7 X.K ta tv f):=by
 intro b s σ H D I h;show plainObj_wpAny_Assign_Attribute (bR (m b s σ H _ I h) λu d ⟨y,H1,A,g,q⟩=>bR (r b d σ H1 _ A q) λk E ⟨x,G,z,i,a,C,F,fs,t,v,c,n,l,j⟩=>?_) p;subst t;obtain rfl:k=Value.ref a:=i;show Gg z v c n l g λB w=>⟨σ,_,w,j⟩
end
section
variable {X:Cx}{pins:List (Addr×Obj)}{σ:St}{H:Hp}{s:Shared}{A:Around}{E:Value->Shared->Prop}{Q:Value->Shared->Prop}{c:Value}{b:Bool}
inductive jI(K:PySem.W.Frag)(H:Hp):V->Value->Prop where
 |aD:jI K H .aD (.type "NoneType")
 |bl (x:Bool):jI K H (.bl x) (.type "bool")
 |int (i:Int):jI K H (.int i) (.type "int")
 |str (x:Str):jI K H (.str x) (.type "str")
 |u0 (x:UInt64):jI K H (.u0 x) (.type "float")
 |lst {a:Addr} {xs:List V} (e:H a=some (.lst xs)):jI K H (.ref a) (.type "list")
 |gL {a:Addr} {o:Obj} {xs:List V} (e:H a=some (.gL o (.lst xs))):jI K H (.ref a) (.type "list")
 |tup {a:Addr} {xs:List V} (e:H a=some (.tup xs)):jI K H (.ref a) (.type "tuple")
 |dK {a:Addr} {kvs:List (Key×V)} (e:H a=some (.dK kvs)):jI K H (.ref a) (.type "dict")
 |dT {a:Addr} {kvs:List (List Key×V)} (e:H a=some (.dT kvs)):jI K H (.ref a) (.type "dict")
 |ins {a C dx:Addr} {fs:List (Str×V)} (e:H a=some (.ins C dx fs)) (cl:mM K C) (ha:PySem.W.findIn K (.ref C) "__class__"=some (some (.builtin "object.__class__")))
   (hn:PySem.W.specialIn K (.builtin "object.__class__") "__get__"=some (some (.builtin "getset_descriptor.__get__"))) (htk:PySem.W.takesIn K (.builtin "object.__class__")=some true)
   (hm:PySem.W.mroIn K C (.type "object")=some true):jI K H (.ref a) (.ref C)
def HX(I:Inv X pins σ H s)(d:RelV x u)(r:jI X.K H x t)(e:PySem.W.kitOne X.K t c=some b)(h:∀tk,Q (.bool b) {s with toks:=tk}):
 wpAny (model X.prog X.w) A (call (.builtin "isinstance") [u,c]) Q E s:=by
 cases r with
 |aD=>cases (show u=Value.none from d);show XE PySem.W.kitx_none I.g4 True.intro e (λz=>nomatch z) h
 |bl y=>cases (show u=Value.bool y from d);show XE PySem.W.kitx_bool I.g4 True.intro e (λz=>nomatch z) h
 |int i=>obtain⟨t,q⟩:=(show∃t,u=Value.int i t from d);cases q;show XE PySem.W.kitx_int I.g4 True.intro e (λz=>nomatch z) h
 |str y=>obtain⟨t,q⟩:=(show∃t,u=Value.str y t from d);cases q;show XE PySem.W.kitx_str I.g4 True.intro e (λz=>nomatch z) h
 |u0 y=>obtain⟨t,q⟩:=(show∃t,u=Value.float y t from d);cases q;show XE PySem.W.kitx_float I.g4 True.intro e (λz=>nomatch z) h
 | @lst a k f=>
   cases (show u=Value.ref a from d);obtain⟨_,_,n,_,g⟩:=(show dw X.prog X.w H s.heap a (.lst k)from I.aK a _ f)
   show XE Zt I.g4 ⟨_,g,rfl⟩ e (λz=>nomatch z) h
 | @gL a v k f=>
   cases (show u=Value.ref a from d);obtain⟨_,_,_,n,_,g⟩:=(show dw X.prog X.w H s.heap a (.gL v (.lst k))from I.aK a _ f)
   show XE Zt I.g4 ⟨_,g,rfl⟩ e (λz=>nomatch z) h
 | @tup a k f=>
   cases (show u=Value.ref a from d);obtain⟨_,_,_,p⟩:=(show dw X.prog X.w H s.heap a (.tup k)from I.aK a _ f)
   obtain⟨o,g,l,_⟩:=p;show XE PySem.W.kitx_tuple I.g4 ⟨o,g,l⟩ e (λz=>nomatch z) h
 | @dK a j f=>
   cases (show u=Value.ref a from d);obtain⟨_,_,K,_,p⟩:=(show dw X.prog X.w H s.heap a (.dK j)from I.aK a _ f)
   obtain⟨o,F,G,g,l,_⟩:=p;show XE Zu I.g4 ⟨o,g,l.1⟩ e (λz=>nomatch z) h
 | @dT a j f=>
   cases (show u=Value.ref a from d);obtain⟨_,_,k,_,o,F,G,g,l,_⟩:=(show dw X.prog X.w H s.heap a (.dT j)from I.aK a _ f)
   show XE Zu I.g4 ⟨o,g,l.1⟩ e (λz=>nomatch z) h
 | @ins a C N fs f cl D w m B=>
   cases (show u=Value.ref a from d);obtain⟨M,O,_⟩:=p_ I.aK f;obtain⟨L,J,_⟩:=O.look;show XE (PySem.W.kitx_own (cl.get _) cl.hd D w m B) I.g4 J e (λz=>nomatch z) h
end
structure cU(k:Nat)(A:Around):Prop where
 hd:A.handled=none
 dp:A.depth+3*k+105<recursionLimit
 un:A.units+16*k+200<cLine
def cU.mono{j k:Nat}(r:cU k A)(h:j<=k):cU j A:=⟨r.hd,by let:=r.dp;lia,by let:=r.un;lia⟩
def cU.deeper{k:Nat}{A:Around}(r:cU (k+1) A)(env:Env):cU k (A.deeper env):=
 ⟨r.hd,by let:=r.dp;change A.depth+1+3*k+105<_;lia,by let:=r.un;change A.units+3+16*k+200<_;lia⟩
def GL{A:Around}:(A.under (.builtin "type.__call__" ⟨.ref C::us,a⟩)).depth=A.depth+1:=by
 first|rfl|simp[Around.under,Code.weight,Code.isCreation,Code.isGuard,Code.isCaller,Code.frames,Code.isFrame,guardIds]
def GG{A:Around}:(A.under (.builtin "type.__call__" ⟨.ref C::us,a⟩)).units=A.units+1:=by
 first|rfl|simp[Around.under,Code.cUnits,Code.frames,Code.isFrame]
def cU.make{k:Nat}{A:Around}(r:cU (k+1) A)(C:Addr)(us:List Value)(a:List (Str×Value)):cU k (A.under (.builtin "type.__call__" ⟨.ref C::us,a⟩)):=
 ⟨r.hd,by let:=r.dp;rw[GL];lia,by let:=r.un;rw[GG];lia⟩
def cU.depth{k:Nat}{A:Around}(r:cU k A):A.depth<recursionLimit:=by let:=r.dp;lia
def cU.units{k:Nat}{A:Around}(r:cU k A):A.units+64<cLine:=by let:=r.un;lia
def Qp:TA:=λ_ H Q=>Q [] H
def SS(b:TE)(tr:TA):TA:=λσ H Q=>b σ H λx H1=>tr σ H1 λa c=>Q (x::a) c
section
variable {X:Cx}{e:Expr}{es:List Expr}{te:TE}{t:TA}{pos:Pos}
def QM:PA X [] Qp:=λ_ _ _ _ H Q I h=>Calls.spliced_nil ⟨[],H,I,.nil,h⟩
def Ot(l:PE X e te)(k:PA X es t)(j:starEach (e::es) X.env=(false,eval e X.env)::starEach es X.env:=by rfl):PA X (e::es) (SS te t):=by
 intro pos a s σ H Q I h;rw[j];change wpAny _ _ (spliced ((false,eval e X.env)::backTo pos (starEach es X.env))) _ _ s;show Calls.spliced_cons (bR (l a s σ H _ I h) λu c ⟨x,H1,n,f,i⟩=>?_);show bR (k pos a c σ H1 _ n i) λp q ⟨b,o,m,d,g⟩=>⟨x::b,o,m,.cons f d,g⟩
def Vk(t:TA):TE:=λσ H Q=>t σ H λa H1=>a.length<=sizeLine/\∀p,H1 p=none->Q (.ref p) (upd H1 p (.tup a))
def UY(t:TA):TE:=λσ H Q=>t σ H λa H1=>a.length<=sizeLine/\∀p,H1 p=none->Q (.ref p) (upd H1 p (.lst a))
def P0{x1}(h:PA X es t):PE X (.Tuple es x1 pos) (Vk t):=by
 intro a s σ H Q I i;show wpAny_Tuple_spliced (bR (h pos a s σ H _ I i) λg c ⟨f,H1,d,r,z,q⟩=>⟨by rw[<-r.length];show z,?_⟩);let j:H1 c.heap.objs.size=none:=d.aK.fresh (Wg _);show⟨.ref c.heap.objs.size,upd H1 c.heap.objs.size (.tup f),d.laid (t':=c.toks) (λb u e=>V_ _ e) (Wg _) ?_,rfl,q _ j⟩;show⟨z,g,r,⟨_,Wu _ rfl,rfl,_,rfl⟩⟩
def Jx(h:PA X es t):PE X (.List es pos) (UY t):=by
 intro a s σ H Q I i;show wpAny_List_spliced (bR (h pos a s σ H _ I i) λg c ⟨f,H1,d,r,z,q⟩=>⟨by rw[<-r.length];show z,?_⟩);let j:H1 c.heap.objs.size=none:=d.aK.fresh (Wg _);show⟨.ref c.heap.objs.size,upd H1 c.heap.objs.size (.lst f),d.laid (t':=c.toks) (λb u e=>V_ _ e) (Wg _) ?_,rfl,q _ j⟩;show⟨z,g,0,r,Wu _ rfl⟩
end
abbrev Sp:=List V->Hp->VK->XK->Prop
abbrev uI:=List Env->Hp->Shared->XK->Value->Shared->Prop
structure vp(P:Program)(w:World)(K:PySem.W.Frag)(mg:Str->Option Value)(base:Heap)(A:Around)(outer:List Env)(s:Shared)(H:Hp):Prop where
 frames:A.frames=some outer
 mod:Mod K mg base
 bs:∀b o,base.get? b=some o->s.heap.get? b=some o/\H b=none
 tF:base.objs.size<=s.heap.objs.size
 ly:s.heap.FunFrames base outer
 xt:∀b∈pY outer,H b=none
 aK:iC P w H s.heap
 bare:AllBare s.gens
 gt:P.given.tree=none
def CE(outer:List Env)(P:Program)(w:World)(H:Hp)(s:Shared)(Q:VK)(u:Value)(s':Shared):Prop:=
 ∃v a,s'.os=s.os/\AllBare s'.gens/\Un (pY outer) [] H a s.heap s'.heap/\iC P w a s'.heap/\RelV v u/\Q v a
def CR(a:uI)(outer:List Env)(P:Program)(w:World)(H:Hp)(s:Shared)(Q:VK)(E:XK)(r:Result)(s':Shared):Prop:=
 match r with
 | .ok (.ret u)=>CE outer P w H s Q u s'
 | .ok _=>False
 | .error e=>a outer H s E e s'
structure dh(P:Program)(w:World)(K:PySem.W.Frag)(mg:Str->Option Value)(base:Heap)(CX:uI)(k:Nat)(f:Addr)(fd:FuncData)(ps:List Str)(sp:Sp):Prop where
 len:∀vs H Q E,sp vs H Q E->vs.length=ps.length
 run:∀(A:Around) (outer:List Env) (s:Shared) (H:Hp) (args:Args) (us:List Value) (vs:List V) (Q:VK) (E:XK),cU k A->vp P w K mg base A outer s H->BindsTo s fd args (ps.zip us)->Vals vs us->sp vs H Q E->
  codeAny (model P w) A (.call (.ref f) args) (CR CX outer P w H s Q E) s
def dh.imp{P:Program}{w:World}{K:PySem.W.Frag}{e:Str->Option Value}{a:Heap}{g:uI}{k:Nat}{f:Addr}{fd:FuncData}{d:List Str}{sp b:Sp}(F:dh P w K e a g k f fd d sp)
 (h:∀vs H Q E,b vs H Q E->sp vs H Q E):dh P w K e a g k f fd d b:=
 ⟨λvs H Q E q=>F.len vs H Q E (h _ _ _ _ q),λA outer s H c i vs Q E m n o j l=>F.run A outer s H c i vs Q E m n o j (h _ _ _ _ l)⟩
def vp.make{P:Program}{w:World}{K:PySem.W.Frag}{b:Str->Option Value}{a:Heap}{A:Around}{outer:List Env}{s:Shared}{H:Hp}(e:vp P w K b a A outer s H)(C:Addr)(us:List Value)(c:List (Str×Value)):
 vp P w K b a (A.under (.builtin "type.__call__" ⟨.ref C::us,c⟩)) outer s H:=⟨by first|show e.frames|(simpa[Around.under,Code.envs,Code.isFrame,pushEnvs]using e.frames),e.mod,e.bs,e.tF,e.ly,e.xt,e.aK,e.bare,e.gt⟩
section
variable {X:Cx}{pins:List (Addr×Obj)}{σ:St}{H:Hp}{s s':Shared}
def Inv.Rh(I:Inv X pins σ H s):vp X.prog X.w X.K X.mg X.base X.A X.stack s H:=
 ⟨I.ok.frames,I.ok.mod,I.bs,Wj I.ok.tF I.sz,I.stack,I.xH,I.aK,I.bare,I.ok.gt⟩
def Inv.after(I:Inv X pins σ H s)(h:CE X.stack X.prog X.w H s Q u s'):EP X pins σ Q u s':=by
 obtain⟨v,j,e,a,un,i,r,q⟩:=h;obtain⟨f,g,d,t,c⟩:=s';obtain rfl:c=s.os:=e;show⟨v,j,I.call (h':=f) (g':=g) (d':=d) (t':=t) (ch:=[]) un i a (λb z=>absurd z (by simp)),r,q⟩
end
def Mm(sp:Sp)(a:List V)(E:XK)(t:TA):TE:=λσ H Q=>t σ H λb H1=>sp (b++a) H1 Q E
def FD(C:Addr)(m:Str)(sp:Sp)(b:List V)(E:XK)(d:TE)(t:TA):TE:=λσ H Q=>d σ H λx H1=>∃a e fs,x= .ref a/\H1 a=some (.ins C e fs)/\fs.lookup m=none/\
 t σ H1 λc f=>sp (x::(c++b)) f Q E
def MR(C:Addr)(sp:Sp)(b:List V)(E:XK)(t:TA):TE:=λσ H Q=>t σ H λc H1=>∀x a,H1 x=none->H1 a=none->a≠x->
 sp (.ref x::(c++b)) (upd (upd H1 a (.own x)) x (.ins C a [])) (λv d=>v= .aD/\Q (.ref x) d) E
def Binds(K:PySem.W.Frag)(fd:FuncData)(a:List Str)(b:List Value):Prop:=
 ∀(s:Shared) (us:List Value),K.In s.heap->(us++b).length=a.length->BindsTo s fd ⟨us,[]⟩ (a.zip (us++b))
def Binds.all{K:PySem.W.Frag}{fd:FuncData}{a:List Str}(h:∀us:List Value,us.length=a.length->bindArgs fd ⟨us,[]⟩=pure (a.zip us)):Binds K fd a []:=λs us _ b=>by
 rw[Xw]at b⊢;show .of_eq (h us b)
def Passes(b:uI)(X:Cx)(E:XK):Prop:=∀(a:List (Addr×Obj)) (σ:St) (H:Hp) (s:Shared) (e:Value) (s':Shared),Inv X a σ H s->b X.stack H s E e s'->X.xe e s'
section
variable {X:Cx}{CX:uI}{k:Nat}{f C:Addr}{fd:FuncData}{ps:List Str}{sp:Sp}{dvs:List V}{ds:List Value}{E:XK}{x m:Str}{p pos apos:Pos}{e o:Expr}{es:List Expr}{ta:TE}{t:TA}
def Dg{pins:List (Addr×Obj)}{σ:St}{H:Hp}{s:Shared}{Q:VK}{us:List Value}{vs:List V}(F:dh X.prog X.w X.K X.mg X.base CX k f fd ps sp)(g:cU k X.A)(l:Binds X.K fd ps ds)(j:Vals dvs ds)(d:Passes CX X E)
 (I:Inv X pins σ H s) (r:Vals vs us) (h:sp (vs++dvs) H Q E):wpAny (model X.prog X.w) X.A (call (.ref f) us) (EP X pins σ Q) X.xe s:=by
 let b:Vals (vs++dvs) (us++ds):=r.append j;let i:(us++ds).length=ps.length:=by rw[<-b.length];show F.len _ _ _ _ h
 show wpAny_call (aaK (F.run X.A X.stack s H ⟨us,[]⟩ (us++ds) (vs++dvs) Q E g I.Rh (l s us I.g4 i) b h) λr c a=>?_);cases r with
 |error e=>show d pins σ H s e c I a
 |ok n=>
  cases n with
  |ret u=>show I.after a
  |next=>show False.elim a
  |brk=>show False.elim a
  |cont=>show False.elim a
def NW(F:dh X.prog X.w X.K X.mg X.base CX k f fd ps sp)(i:cU k X.A)(n:Gl X x)(j:X.mg x=some (.ref f))(l:PySem.W.keepIn X.K (.ref f)=true)(w:Binds X.K fd ps ds)(v:Vals dvs ds)(g:Passes CX X E)
 (y:PA X (e::es) t) (c:(x==("__debug__":Str))=false:=by decide) (u:starEach (e::es) X.env=(false,eval e X.env)::starEach es X.env:=by rfl) (b:(backTo pos (starEach es X.env)).any (·.1)=false:=by rfl):
 PE X (.Call (.Name x p) (e::es) [] pos) (Mm sp dvs E t):=by
 intro a s σ H Q I h;show YX (E3 I n j ?_ c);show aai (h₀:=X.base) I.ok.mod.IL l (bR (y pos a s σ H _ I h) λA B ⟨z,H1,d,r,q⟩=>⟨d.g4,?_⟩) u b;show Dg F i w v g d r q
def NU{pl:Sem Bool}(D:PE X o ta)(c:mM X.K C)(i:Meth X.K C m f)(F:dh X.prog X.w X.K X.mg X.base CX k f fd ps sp)(B:cU k X.A)(J:Binds X.K fd ps ds)(G:Vals dvs ds)(z:Passes CX X E)(K:PA X (e::es) t)
 (d:starEach (e::es) X.env=(false,eval e X.env)::starEach es X.env:=by rfl) (g:(backTo pos (starEach es X.env)).any (·.1)=false:=by rfl)
 (A:eval (.Call (.Attribute o m apos) (e::es) [] pos) X.env=(do
   let ov <-eval o X.env
   standAt apos.atName
   let(f,first) <-holding [ov] (getMethod ov m pl)
   callWith pos f first (backTo pos (starEach (e::es) X.env)) (backToKw pos (keywordEach [] X.env))):=by rfl):
 PE X (.Call (.Attribute o m apos) (e::es) [] pos) (FD C m sp dvs E ta t):=by
 intro b s σ H Q I h;show aa2 (pl:=pl) (bR (D b s σ H _ I h) λu v ⟨x,H1,n,w,a,O,fs,L,M,l,q⟩=>?_) A;subst L;obtain rfl:u=Value.ref a:=w;show wk n M c i l ?_;show aai (first:=[.ref a]) (h₀:=X.base) I.ok.mod.IL i.kp (bR (K pos b v σ H1 _ n q) λus N ⟨vs,P,j,r,y⟩=>⟨j.g4,?_⟩) d g;show Dg (us:= .ref a::us) (vs:= .ref a::vs) F B J G z j (.cons rfl r) y
def Kc{pl:Sem Bool}(v:PE X o ta)(c:mM X.K C)(g:Meth X.K C m f)(F:dh X.prog X.w X.K X.mg X.base CX k f fd ps sp)(r:cU k X.A)(y:Binds X.K fd ps ds)(w:Vals dvs ds)(j:Passes CX X E)
 (n:eval (.Call (.Attribute o m apos) [] [] pos) X.env=(do
   let ov <-eval o X.env
   standAt apos.atName
   let(f,first) <-holding [ov] (getMethod ov m pl)
   callWith pos f first (backTo pos (starEach [] X.env)) (backToKw pos (keywordEach [] X.env))):=by rfl):
 PE X (.Call (.Attribute o m apos) [] [] pos) (FD C m sp dvs E ta Qp):=by
 intro b s σ H Q I h;show aa2 (pl:=pl) (bR (v b s σ H _ I h) λu B ⟨x,H1,d,i,a,D,fs,z,A,l,q⟩=>?_) n;subst z;obtain rfl:u=Value.ref a:=i;show wk d A c g l ?_;show PySem.W.callWith_K0 (first:=[.ref a]) d.g4 g.kp (Dg (us:=[.ref a]) (vs:=[.ref a]) F r y w j d (.cons rfl .nil) q)
structure Mk(K:PySem.W.Frag)(C f:Addr):Prop where
 makes:PySem.W.makesIn K C=true
 init:PySem.W.findIn K (.ref C) "__init__"=some (some (.ref f))
 fn:PySem.W.isFn K (.ref f)=true
 kp:PySem.W.keepIn K (.ref C)=true
def J0{pins:List (Addr×Obj)}{σ:St}{H:Hp}{s:Shared}{Q:VK}{us:List Value}{vs:List V}(M:Mk X.K C f)(F:dh X.prog X.w X.K X.mg X.base CX k f fd ps sp)(q:cU (k+1) X.A)(z:Binds X.K fd ps ds)(y:Vals dvs ds)
 (n:Passes CX X E) (I:Inv X pins σ H s) (r:Vals vs us)
 (h:∀x b,H x=none->H b=none->b≠x->sp (.ref x::(vs++dvs)) (upd (upd H b (.own x)) x (.ins C b [])) (λv D=>v= .aD/\Q (.ref x) D) E):
 wpAny (model X.prog X.w) X.A (call (.ref C) us) (EP X pins σ Q) X.xe s:=by
 let g:=h (s.heap.objs.size+1) s.heap.objs.size (I.aK.fresh (aag _)) (I.aK.fresh (Wg _)) (WB (Xh _));let c:=Inv.made (C:=C) I;let d:Vals (V.ref (s.heap.objs.size+1)::(vs++dvs)) (Value.ref (s.heap.objs.size+1)::(us++ds)):= .cons rfl (r.append y)
 let w:(Value.ref (s.heap.objs.size+1)::us++ds).length=ps.length:=by
  let e:=d.length;rw[F.len _ _ _ _ g]at e;show e.symm
 show wpAny_call (LQ (f:=f) I.g4 M.makes M.init (Yh.mp M.fn) (aaK (F.run _ X.stack _ _ ⟨Value.ref (s.heap.objs.size+1)::us,[]⟩ (Value.ref (s.heap.objs.size+1)::(us++ds)) _ _ E (q.make C us [])
  (c.Rh.make C us []) (z _ (Value.ref (s.heap.objs.size+1)::us) c.g4 w) d g) λr i a=>?_))
 cases r with
 |error e=>show n pins σ _ _ e i c a
 |ok A=>
  cases A with
  |ret u=>
   obtain⟨v,G,B,j,ev,l⟩:=c.after a;subst ev;show⟨j,⟨V.ref (s.heap.objs.size+1),G,B,rfl,l⟩⟩
  |next=>show False.elim a
  |brk=>show False.elim a
  |cont=>show False.elim a
def Od(M:Mk X.K C f)(F:dh X.prog X.w X.K X.mg X.base CX k f fd ps sp)(i:cU (k+1) X.A)(l:Gl X x)(j:X.mg x=some (.ref C))(v:Binds X.K fd ps ds)(u:Vals dvs ds)(g:Passes CX X E)
 (w:PA X (e::es) t) (c:(x==("__debug__":Str))=false:=by decide) (n:starEach (e::es) X.env=(false,eval e X.env)::starEach es X.env:=by rfl) (b:(backTo pos (starEach es X.env)).any (·.1)=false:=by rfl):
 PE X (.Call (.Name x p) (e::es) [] pos) (MR C sp dvs E t):=by
 intro a s σ H Q I h;show YX (E3 I l j ?_ c);show aai (h₀:=X.base) I.ok.mod.IL M.kp (bR (w pos a s σ H _ I h) λz A ⟨y,H1,d,r,q⟩=>⟨d.g4,?_⟩) n b;show J0 M F i v u g d r q
end
structure l7(N P:List Str)(sc:Scope):Prop where
 kind:sc.kind= .function
 co:sc.isCoroutine=false
 gen:sc.isGenerator=false
 nd:N.Nodup
 pre:N.take P.length=P
 par:∀x∈P,sc.names.lookup x=some .local\/sc.names.lookup x=some .cell
 PN:∀y∈sc.names,y.2≠ .free
def ze{kindOf:Str->Option NameKind}:∀ {binds:List (Str×Value)} {m:Str->Option Value},(∀v,(x,v)∉binds)->bindL kindOf binds m x=m x
 | [],_,_=>rfl
 |(n,v)::r,m,h=>by
  unfold bindL;rw[ze λw a=>h w (Ww _ a)];split
  . have:x≠n:=by rintro rfl;show h v Wx
    simp[this]
  . rfl
def zE{kindOf:Str->Option NameKind}:∀ {binds:List (Str×Value)} {m:Str->Option Value},(∀v,(x,v)∉binds)->bindC kindOf binds m x=m x
 | [],_,_=>rfl
 |(n,v)::r,m,h=>by
  unfold bindC;rw[zE λw a=>h w (Ww _ a)];split
  . rfl
  . have:x≠n:=by rintro rfl;show h v Wx
    simp[this]
def yS{kindOf:Str->Option NameKind}:∀ {P:List Str} {vs:List Value} {i:Nat} {m:Str->Option Value},P.Nodup->P[i]?=some x->vs[i]?=some v->kindOf x=some .local->
 bindL kindOf (P.zip vs) m x=some v
 | [],_,_,_,_,h,_,_=>by simp at h
 |_::_,[],_,_,_,_,h,_=>by simp at h
 |p::P,w::vs,0,m,c,b,a,d=>by
  simp at b a;subst b;subst a;change bindL kindOf ((p,w)::P.zip vs) m p=_;unfold bindL;rw[ze λv e=>(Yx.mp c).1 (ZV e).1,We d];simp
 |p::P,w::vs,i+1,m,c,b,a,d=>by
  change bindL kindOf ((p,w)::P.zip vs) m x=_;unfold bindL;show yS (i:=i) (Yx.mp c).2 (by simpa using b) (by simpa using a) d
def zC{kindOf:Str->Option NameKind}:∀ {P:List Str} {vs:List Value} {i:Nat} {m:Str->Option Value},P.Nodup->P[i]?=some x->vs[i]?=some v->kindOf x≠some .local->
 bindC kindOf (P.zip vs) m x=some v
 | [],_,_,_,_,h,_,_=>by simp at h
 |_::_,[],_,_,_,_,h,_=>by simp at h
 |p::P,w::vs,0,m,c,b,a,d=>by
  simp at b a;subst b;subst a;change bindC kindOf ((p,w)::P.zip vs) m p=_;unfold bindC;rw[zE λv e=>(Yx.mp c).1 (ZV e).1,Wc d];simp
 |p::P,w::vs,i+1,m,c,b,a,d=>by
  change bindC kindOf ((p,w)::P.zip vs) m x=_;unfold bindC;show zC (i:=i) (Yx.mp c).2 (by simpa using b) (by simpa using a) d
def start(N:List Str)(vs:List V):St:=vs.map some++List.replicate (N.length-vs.length) none
def pA(d:uI)(P:Program)(w:World)(K:PySem.W.Frag)(mg:Str->Option Value)(base:Heap)(N:List Str)(a:Str)(scope:Scope)(f:Addr)(c:Value)(A:Around)(outer:List Env)(s:Shared)(H:Hp)(E:XK):Cx where
 prog:=P
 w:=w
 K:=K
 mg:=mg
 base:=base
 A:=A.deeper (envOfC a scope s.heap.objs.size f c)
 N:=N
 s₀:=s
 H₀:=H
 env:=envOfC a scope s.heap.objs.size f c
 outer:=outer
 stack:=envOfC a scope s.heap.objs.size f c::outer
 ex:=[]
 calm:=true
 fn:=λ_=>true
 pn:=[]
 xe:=λe g=>wpAny (model P w) (A.deeper (envOfC a scope s.heap.objs.size f c)) (leaving (envOfC a scope s.heap.objs.size f c) e) (λ_ b=>d outer H s E e b) (λh b=>d outer H s E h b) g
def Bs{a:Scope}(h:a.names.lookup x=some .cell):∃c,(cellsFrom n a.names []).lookup x=some c:=by
 let q:=Yn a.names n [] (.inl h);show YL.mp q
def Ij{O:uI}{P:Program}{w:World}{K:PySem.W.Frag}{I:Str->Option Value}{l:Heap}{N m:List Str}{d:Str}{scope:Scope}{f:Addr}{G:Value}{A:Around}{outer:List Env}{s J:Shared}{H:Hp}{E:XK}{us:List Value}{vs:List V}
 (S:l7 N m scope) (T:A.handled=none) (j:vp P w K I l A outer s H) (W:vs.length=m.length) (r:Vals vs us)
 (x:InCallC s s.heap.objs.size (bindL (envOfC d scope s.heap.objs.size f G).kindOf (m.zip us) λ_=>none) (cellsFrom (s.heap.objs.size+1) scope.names []) (bindC (envOfC d scope s.heap.objs.size f G).kindOf (m.zip us) λ_=>none) J):
 Inv (pA O P w K I l N d scope f G A outer s H E) [] (start N vs) H J:=by
 let R:m.length<=N.length:=by let:=Xl List.length S.pre;rw[Yc]at this;lia
 obtain⟨F,tk,rfl,M⟩:=x.done;let o:∀b:Addr,b∉(pA O P w K I l N d scope f G A outer s H E).ex:=λb z=>absurd (show b∈([]:List Addr)from z) (by simp)
 show⟨⟨j.mod,S.kind,rfl,rfl,Wg _,λy z c F g=>?_,λy t=>?_,λy c _ h=>?_,λ_=>T,Around.frames_deeper j.frames,.inr ⟨rfl,rfl⟩,λb z=>absurd z (o b),j.bs,j.tF,λb _ _=>o b,λb z=>absurd z (o b),j.ly,j.xt,j.gt⟩,
  rfl,j.bare,Un.kept M,⟨_,x.toInCall.ns,λi y v F g X=>?_⟩,λy c h=>⟨_,x.cell y c h⟩,j.aK.fresh (Wg _),λy c h=>?_,λp C=>absurd (show p∈([]:List (Addr×Obj))from C) (by simp),j.aK.kept M,?_⟩
 . show name_of_addr x.apart (WZ F) (WZ g)
 . have t:scope.names.lookup y=some .cell\/scope.names.lookup y=some .free:=t;rcases t with t|t
   . show Bs t
   . show absurd rfl (S.PN _ (WZ t))
 . show Ys (x.above y c (WZ h))
 . have D:i<vs.length:=by
    unfold start at g;by_cases D:i<vs.length
    . show D
    . rw[WD (by simpa using D)]at g;rw[aaQ]at g;split at g<;>cases g
   let U:vs[i]?=some v:=by
    unfold start at g;rw[Wh (by simpa using D),Wr]at g;cases e:vs[i]? with
    |none=>rw[e]at g;cases g
    |some a=>rw[e]at g;cases g;rfl
   obtain⟨u,L,Q⟩:=r.get U
   let C:m[i]?=some y:=by
    rw[<-S.pre,Zo (by lia)];show F
   let B:m.Nodup:=by rw[<-S.pre];show S.nd.sublist (List.take_sublist _ _)
   show⟨u,Q,?_⟩;rcases S.par y (WI C)with k|k
   . show .inl ⟨k,yS B C L k⟩
   . obtain⟨c,e⟩:=Bs (n:=s.heap.objs.size+1) k;show .inr ⟨.inl k,c,e,?_⟩;let q:=x.cell y c e;rw[zC B C L (by change scope.names.lookup y≠_;rw[k];decide)]at q;show q
 . show j.aK.fresh (Ys (x.above y c (WZ h)))
 . unfold start;change _=N.length;rw[W5,Wd,List.length_replicate];lia
def Ma{K:PySem.W.Frag}{F:Str->Option Value}{k:Nat}{g:List Stmt}{Y kV B X c ct oc:Value}
  {N D:List Str}  (lk:K.lookup f=some ⟨oc,od,.func (PySem.W.fnOf name a params g scope Y kV B X an c ct),O⟩) (U:PySem.W.codeIn K c a=true) (S:l7 N D scope)
 (len:∀vs H Q E,sp vs H Q E->vs.length=D.length)
 (j:∀(A:Around) (outer:List Env) (s:Shared) (H:Hp) (vs:List V) (Q:VK) (E:XK),cU k (A.deeper (envOfC a scope s.heap.objs.size f c))->sp vs H Q E->
   ∃t,g9 (pA G P w K F d N a scope f c A outer s H E) g t/\t {nx:=λ_ h=>Q .aD h,rt:=Q} (start N vs) H):
 dh P w K F d G (k+1) f (PySem.W.fnOf name a params g scope Y kV B X an c ct) D sp:=by
 show⟨len,λA outer s H Z us vs Q E T z hb r m=>?_⟩;let hl:=len _ _ _ _ m;let KX:K.In s.heap:=z.mod.IL.keeps λb o e=>(z.bs b o e).1;let R:s.heap.NoLimit:=z.mod.nolimit.keeps λb o e=>(z.bs b o e).1
 let i:∀y∈D.zip us,scope.names.lookup y.1=some .local\/(scope.names.lookup y.1=some .cell/\((cellsFrom (s.heap.objs.size+1) scope.names []).lookup y.1).isSome=true):=λ⟨n,v⟩ hy=>by
  rcases S.par n (ZV hy).1 with q|q
  . show .inl q
  . show .inr ⟨q,Yn _ _ _ (.inl q)⟩
 show codeAny_call_function T.depth (KX _ _ lk) rfl S.co S.gen rfl (PySem.W.codeRec_of KX U) (hb _ _ _ _ ?_);show wpAny_newFunctionEnv_cells S.kind i λah he W x=>?_;subst he;show⟨R.keeps x.toInCall.keep,codeAny_func ?_⟩;obtain⟨t,ht,hq⟩:=j A outer s H vs Q E (T.deeper _) m;let I:Inv (pA G P w K F d N a scope f c A outer s H E) [] (start N vs) H W:=Ij S T.hd z hl r x;show XY (ht [] W (start N vs) H _ I hq) (λfl L l=>?_) λe L l=>l
 let p:∀ {C:St} {h:Hp} {v:V} {u:Value},Inv (pA G P w K F d N a scope f c A outer s H E) [] C h L->RelV v u->Q v h->CE outer P w H s Q u L:=
  λ{C h v u} J M q=>⟨v,h,J.os,J.bare,J.base,J.aK,M,q⟩
 cases fl with
 |ret u=>
  obtain⟨v,C,h,J,M,q⟩:=l;show p J M q
 |next=>
  obtain⟨C,h,J,q⟩:=l;show p (v:=V.aD) (u:=Value.none) J rfl q
 |brk=>
  obtain⟨_,_,_,q⟩:=l;show False.elim q
 |cont=>
  obtain⟨_,_,_,q⟩:=l;show False.elim q
section
variable {X:Cx}{x:Str}{p pos:Pos}{e:Expr}{es:List Expr}{t:TA}{id T:String}{r:List V->Hp->VK->Prop}
def Ro(r:List V->Hp->VK->Prop)(t:TA):TE:=λσ H Q=>t σ H λa H1=>r a H1 Q
def LU(q:bJ X (.builtin id) r)(n:Gl X x)(m:X.mg x=none)(k:bootBuiltins x=some (.builtin id))(u:PA X (e::es) t)(l:x≠"__name__":=by decide)(c:(x==("__debug__":Str))=false:=by decide)
 (o:starEach (e::es) X.env=(false,eval e X.env)::starEach es X.env:=by rfl) (b:(backTo pos (starEach es X.env)).any (·.1)=false:=by rfl):PE X (.Call (.Name x p) (e::es) [] pos) (Ro r t):=by
 intro a s σ H Q I h;show YX (kZ I n m k ?_ l c);show PyProof.Rows.callWith_builtin1 (bR (u pos a s σ H _ I h) λf g ⟨d,H1,v,i,j⟩=>q a g σ H1 d f Q v i j) o b
def Ji(q:bJ X (.type T) r)(n:Gl X x)(m:X.mg x=none)(k:bootBuiltins x=some (.type T))(u:PA X (e::es) t)(l:x≠"__name__":=by decide)(c:(x==("__debug__":Str))=false:=by decide)
 (o:starEach (e::es) X.env=(false,eval e X.env)::starEach es X.env:=by rfl) (b:(backTo pos (starEach es X.env)).any (·.1)=false:=by rfl):PE X (.Call (.Name x p) (e::es) [] pos) (Ro r t):=by
 intro a s σ H Q I h;show YX (kZ I n m k ?_ l c);show XF (bR (u pos a s σ H _ I h) λf g ⟨d,H1,v,i,j⟩=>q a g σ H1 d f Q v i j) o b
end
end L2
namespace HT
open PySem PyProof.Rows
section
open PySem.SeqAt
open PySem.AutoSeq1 (wpAny_loadPart')
open PySem.MeetsSeq PySem.MeetsSeq2 PySem.MeetsSeq3
end
section
variable {prog:Program}{w:World}{A:Around}{E:Value->Shared->Prop}{s:Shared}
def EL{vs a:List Value}(v:IsTup s.heap t vs.toArray)(x:IsTup s.heap b a.toArray)(o:vs≠ [])
 (z:a=[]->Q (.ref t) s) (y:a≠ []->Q (.ref s.heap.objs.size) {s with heap:=s.heap.push {cls:= .type "tuple",data:= .seq (vs++a).toArray}})
 (k:vs.length+a.length<=sizeLine):wpAny (model prog w) A (binaryOp .Add (.ref t) (.ref b)) Q E s:=by
 obtain⟨⟨cls,r,data,l⟩,j,q,n,p⟩:=id v;obtain⟨⟨u,h,data2,d⟩,c,g,m,f⟩:=id x;simp only at q p g f;subst q p g f;let e:vs.toArray++a.toArray=(vs++a).toArray:=by simp
 by_cases i:a=[]
 . show aaL ⟨_,j,rfl⟩ ⟨_,c,rfl⟩ ZJ aaq Y2 YV (YM _ _)
    (tuple_addW1 t b vs.toArray a.toArray n m r h l d (by simpa using o) (by simp[i])) ⟨j,c,z i⟩
 . show aaL ⟨_,j,rfl⟩ ⟨_,c,rfl⟩ ZJ aaq Y2 YV (YM _ _)
    (tuple_addW2 t b vs.toArray a.toArray n m r h l d (by simpa using o) (by simpa using i) (by rw[Wl,Wl];show k)) ⟨j,c,?_⟩
   rw[e];show y i
def cv(n d:Nat):Option Int->Nat
 |none=>d
 |some v=>if v<0 then(v+(n:Int)).toNat else min v.toNat n
def qD(n d:Nat):cv n d none=d:=rfl
def yb(n d k:Nat):cv n d (some (k:Int))=min k n:=by
 change(if(k:Int)<0 then((k:Int)+(n:Int)).toNat else min (k:Int).toNat n)=min k n;rw[Wc (by lia),WC]
def QF(n d:Nat)(b:d<=n)(o:Option Int):cv n d o<=n:=by
 cases o with
 |none=>show b
 |some v=>
  change(if v<0 then(v+(n:Int)).toNat else min v.toNat n)<=n;by_cases a:v<0
  . rw[We a];lia
  . rw[Wc a];show Nat.min_le_right _ _
def D_(v:Int)(n d:Nat):(if v<0 then max (v+(n:Int)) 0 else min v (n:Int))=((cv n d (some v):Nat):Int):=by
 change(if v<0 then max (v+(n:Int)) 0 else min v (n:Int))=(((if v<0 then(v+(n:Int)).toNat else min v.toNat n):Nat):Int)
 by_cases a:v<0
 . simp![We a];lia
 . simp![Wc a];lia
def FA(a b:Option Int)(n:Nat):Builtin.Slice.sliceAdjust a b 1 (n:Int)=(((cv n 0 a:Nat):Int),((cv n n b:Nat):Int)):=by
 let c:¬((1:Int)<0):=by lia
 unfold Builtin.Slice.sliceAdjust;simp![c,YC];show Prod.ext ?_ ?_
 . cases a with
   |none=>rfl
   |some v=>show D_ v n 0
 . cases b with
   |none=>rfl
   |some v=>show D_ v n n
def Ge(i j:Nat):Builtin.Slice.slicePlaces (i:Int) (j:Int) 1=j-i:=by
 unfold Builtin.Slice.slicePlaces;let a:(1:Int)>0:=by lia
 simp![a,Yy,Int.ediv_one];split<;>lia
def xm(p:IsPart v o)(h:Q o s):wpAny (model prog w) A (Builtin.Slice.slicePartIndex v) Q E s:=by
 cases p with
 |none=>show slicePart_none h
 |int i t=>show slicePart_int h
def oH{g:Addr}{f e:Value}{a c:Option Int}{n:Nat}{Q:Int×Int×Nat->Shared->Prop}(j:s.heap.IsSliceOf g f e .none)(pl:IsPart f a)(i:IsPart e c)
 (h:Q (((cv n 0 a:Nat):Int),1,cv n n c-cv n 0 a) s):wpAny (model prog w) A (Builtin.Slice.sliceApplied (.ref g) (pure (n:Int))) Q E s:=by
 obtain⟨l,b,k,d⟩:=id j;unfold Builtin.Slice.sliceApplied Builtin.Slice.sliceFields;show V9 (V9 (W3 b d (x:=f) rfl (V9 (W3 b d (x:=e) rfl (V9 (W3 b d (x:= .none) rfl (Wk ?_)))))));show V9 (slicePart_none ?_);change wpAny _ _ (if((1:Int)==0)=true then _ else _) _ _ s;rw[Wc (by decide)];show V9 (xm pl (V9 (xm i (V9 (Wk ?_)))));change wpAny _ _ (match Builtin.Slice.sliceAdjust a c 1 (n:Int)with|(a,c)=>pure (a,(1:Int),Builtin.Slice.slicePlaces a c 1)) _ _ s;rw[FA a c n];change wpAny _ _ (pure (((cv n 0 a:Nat):Int),(1:Int),Builtin.Slice.slicePlaces ((cv n 0 a:Nat):Int) ((cv n n c:Nat):Int) 1)) _ _ s;rw[Ge];show Wk h
def K4(xs:Array Value)(i k:Nat):((List.range k).filterMap λ(m:Nat)=>xs[((i:Int)+(m:Int)*1).toNat]?).toArray=((xs.toList.drop i).take k).toArray:=by
 let e:(λ(m:Nat)=>xs[((i:Int)+(m:Int)*1).toNat]?)=λm=>xs[i+m]?:=by
  funext m;let:((i:Int)+(m:Int)*1).toNat=i+m:=by lia
  rw[this]
 rw[e];let:=pick_run xs i k;rw[List.filterMap_map]at this;let a:((λx=>xs[x]?)∘λx=>i+x)=λm=>xs[i+m]?:=rfl;rw[a]at this;rw[this]
def uB{t e:Addr}{items:Array Value}{l k:Value}(d:IsTup s.heap t items)(n:s.heap.IsSliceOf e l k .none)(pl:IsPart l b)(o:IsPart k c)
 (r:¬(cv items.size 0 b=0/\cv items.size items.size c=items.size))
 (h:Q (.ref s.heap.objs.size) {s with heap:=s.heap.push {cls:= .type "tuple",data:= .seq ((items.toList.drop (cv items.size 0 b)).take (cv items.size items.size c-cv items.size 0 b)).toArray}})
 (u:items.size<=sizeLine):wpAny (model prog w) A (getItem (.ref t) (.ref e)) Q E s:=by
 let a:sizeOk (.seq ((items.toList.drop (cv items.size 0 b)).take (cv items.size items.size c-cv items.size 0 b)).toArray):=by
  change((items.toList.drop (cv items.size 0 b)).take (cv items.size items.size c-cv items.size 0 b)).toArray.size<=sizeLine;rw[Wl,Yc,aaM,YT];lia
 let z:cv items.size items.size c<=items.size:=QF _ _ (Wg _) c;obtain⟨p,f,i,v⟩:=id n;let j:s.TypeIs (.ref e) "slice":=⟨p,f,i⟩
 unfold getItem;try with_reducible show YB ?_
 first|show V9 (Wk ?_)|skip
 show V9 (wpAny_sequenceKey d.typeIs (by decide) ?_)
 show V9 (Xu (name:=Str.ofString "__getitem__") d.typeIs Xs
  (Yd Xs d.typeIs entry_tuple_getitem ?_ (args_tuple_getitem _ _)))
 change wpAny _ _ (Builtin.Tuple.tupleItemsOf (.ref t) >>= _) _ _ s;show V9 (tupleItemsOf_ d ?_);show V9 (wpAny_typeOf j ?_);rw[We (by decide)];show V9 (oH n pl o ?_)
 let g:¬((((cv items.size 0 b:Nat):Int)==0&&(1:Int)==1&&(cv items.size items.size c-cv items.size 0 b)==items.size)=true):=by
  intro q;rw[W_,W_]at q;let y:((cv items.size 0 b:Nat):Int)=0:=eq_of_beq q.1.1;let x:cv items.size items.size c-cv items.size 0 b=items.size:=eq_of_beq q.2;show r ⟨by lia,by lia⟩
 change wpAny _ _ (if(((cv items.size 0 b:Nat):Int)==0&&(1:Int)==1&&(cv items.size items.size c-cv items.size 0 b)==items.size)=true then _ else _) _ _ s;rw[Wc g,K4]
 first
  |show V9 (m:=Builtin.Tuple.tupleExact _) (XZ (Wk ⟨_,rfl,Wk h⟩) a)
  |show V9 (m:=Builtin.Tuple.tupleExact _) (XZ (V9 (Wk (Wk ⟨_,rfl,Wk h⟩))) a)
  |show V9 (V9 (m:=Builtin.Tuple.tupleExact _) (XZ (Wk (Wk ⟨_,rfl,Wk h⟩)) a))
  |show V9 (V9 (m:=Builtin.Tuple.tupleExact _) (XZ (Wk ⟨_,rfl,Wk h⟩) a))
end
end HT
namespace L2
open PySem PySem.Spec PyProof.Rows
abbrev TO:=St->Hp->(Option Int->Hp->Prop)->Prop
def PO(X:Cx)(e:Option Expr)(t:TO):Prop:=
 ∀(a:List (Addr×Obj)) (s:Shared) (σ:St) (H:Hp) (Q:Option Int->Hp->Prop),Inv X a σ H s->t σ H Q->
  wpAny (model X.prog X.w) X.A (evalPart e X.env) (λu c=>∃o b,Inv X a σ b c/\IsPart u o/\Q o b) X.xe s
def OU:TO:=λ_ H Q=>Q none H
def SN(t:TE):TO:=λσ H Q=>t σ H λx H1=>∃i,x= .int i/\Q (some i) H1
section
variable {X:Cx}{e:Expr}{te:TE}{lo hi:Option Expr}{tl th:TO}{pos p2:Pos}
def N9:PO X none OU:=by
 intro a s σ H Q I h;rw[evalPart_none];show Wk ⟨none,H,I,.none,h⟩
def Oz(h:PE X e te):PO X (some e) (SN te):=by
 intro a s σ H Q I d;rw[evalPart_some];show bR (h a s σ H _ I d) λu g ⟨x,H1,f,b,c⟩=>?_;obtain⟨i,rfl,q⟩:=c;obtain⟨t,rfl⟩:=b;show⟨some i,H1,f,.int i t,q⟩
def Ig(X:Cx)(r:V->Option Int->Option Int->Hp->VK->Prop):Prop:=
 ∀(a:List (Addr×Obj)) (s:Shared) (σ:St) (H:Hp) (x:V) (v vl vu:Value) (lo hi:Option Int) (sl:Addr) (Q:VK),Inv X a σ H s->RelV x v->s.heap.IsSliceOf sl vl vu .none->IsPart vl lo->IsPart vu hi->r x lo hi H Q->
  ∃T b,typeLookup (.type T) "__getitem__"=pure (some (.builtin b))/\s.TypeIs v T/\wpAny (model X.prog X.w) X.A (getItem v (.ref sl)) (EP X a σ Q) X.xe s
def V0(r:V->Option Int->Option Int->Hp->VK->Prop)(te:TE)(tl th:TO):TE:=λσ H Q=>te σ H λx H1=>tl σ H1 λl b=>th σ b λu a=>r x l u a Q
def KP(y:Ig X r)(B:PE X e te)(z:PO X lo tl)(t:PO X hi th):PE X (.Subscript e (.Slice lo hi none p2) pos) (V0 r te tl th):=by
 intro a s σ H Q I h;show Subscript_ (bR (B a s σ H _ I h) λv j ⟨x,H1,G,k,o⟩=>?_);show wpAny_Slice (bR (z a j σ H1 _ G o) λf i ⟨l,J,F,pl,n⟩=>bR (t a i σ J _ F n) λd c ⟨u,g,E,p,m⟩=>?_);rw[evalPart_none];show Wk ?_;let D:Inv X a σ g {c with heap:=c.heap.push {cls:= .type "slice",data:= .fields #[f,d,.none]}}:=E.kept (t':=c.toks) λb K q=>V_ _ q;obtain⟨T,L,C,w,A⟩:=y a {c with heap:=c.heap.push {cls:= .type "slice",data:= .fields #[f,d,.none]}} σ g x v f d l u c.heap.objs.size Q D k (Heap.IsSliceOf.new ..) pl p m;change wpAny (model X.prog X.w) X.A (subscriptTail e (.Slice lo hi none p2) v (.ref c.heap.objs.size)) (EP X a σ Q) X.xe {c with heap:=c.heap.push {cls:= .type "slice",data:= .fields #[f,d,.none]}};show tail_any (ops:=[.ref c.heap.objs.size,v]) w C A (by with_unfolding_all rfl)
def qz(xs:List V)(lo hi:Option Int):List V:=(xs.drop (HT.cv xs.length 0 lo)).take (HT.cv xs.length xs.length hi-HT.cv xs.length 0 lo)
def uL(xs:List V)(lo hi:Option Int):(qz xs lo hi).length<=xs.length:=by
 unfold qz;rw[Yc,aaM];lia
def Vq(K:PySem.W.Frag):V->Option Int->Option Int->Hp->VK->Prop:=λx lo hi H Q=>∃a b,x= .ref a/\iF K H a b/\
 ¬(HT.cv b.length 0 lo=0/\HT.cv b.length b.length hi=b.length)/\∀p,H p=none->Q (.ref p) (upd H p (.tup (qz b lo hi)))
def Qr:Ig X (Vq X.K):=by
 intro f s σ H x v u t lo hi w Q I j n pl k h;obtain⟨a,d,rfl,l,m,q⟩:=h;cases j;obtain⟨p,r,i,g⟩:=I.tuple l;let c:p.toArray.size=d.length:=by rw[Wl];show r.length.symm
 show⟨"tuple",_,Xs.lookup,i.typeIs,?_⟩;show HT.uB i n pl k (by rw[c];show m) ?_ (by rw[c];show g);rw[c];show⟨.ref s.heap.objs.size,_,I.laid (t':=s.toks) (o:= .tup (qz d lo hi)) (λb y q=>V_ _ q) (Wg _) ?_,rfl,q _ (I.aK.fresh (Wg _))⟩;show⟨Wj (uL d lo hi) g,_,(r.drop (HT.cv d.length 0 lo)).take (HT.cv d.length d.length hi-HT.cv d.length 0 lo),IsTup.new _ _⟩
def SO(K:PySem.W.Frag):R2:=λx y H Q=>∃a b d c,x= .ref a/\y= .ref b/\iF K H a d/\iF K H b c/\d≠ []/\d.length+c.length<=sizeLine/\
 (c=[]->Q (.ref a) H)/\(c≠ []->∀p,H p=none->Q (.ref p) (upd H p (.tup (d++c))))
def Vals.uo(r:Vals xs us):us=[]↔xs=[]:=by
 cases r with
 |nil=>simp
 |cons _ _=>simp
def N1:cf X (binaryOp .Add) (SO X.K):=by
 intro f s σ H x y v u Q I m l h;obtain⟨a,b,k,j,rfl,rfl,B,A,t,i,p,n⟩:=h;cases m;cases l;obtain⟨D,d,r,_⟩:=I.tuple B;obtain⟨g,c,p2,_⟩:=I.tuple A;show HT.EL r p2 (λz=>t (d.uo.mp z)) (λz=>⟨.ref a,H,I,rfl,p (c.uo.mp z)⟩) (λz=>?_) (by rw[<-d.length,<-c.length];show i);show⟨.ref s.heap.objs.size,_,I.laid (t':=s.toks) (o:= .tup (k++j)) (λb C q=>V_ _ q) (Wg _) ?_,rfl,n (λw=>z (c.uo.mpr w)) _ (I.aK.fresh (Wg _))⟩;show⟨by rw[W5];show i,_,d.append c,IsTup.new _ _⟩
end
def ki(n:Nat)(i:Int):Option Nat:=if 0<=i then(if i<n then some i.toNat else none)else if-(n:Int)<=i then some (i+n).toNat else none
def du{α:Type}(xs:List α)(i:Int):Option α:=(ki xs.length i).bind λj=>xs[j]?
def xV(h:ki n i=some j):seqIndex? i n=some j/\j<n/\ -(n:Int)<=i/\i<n:=by
 unfold ki at h;by_cases b:0<=i
 . rw[We b]at h;by_cases a:i<n
   . rw[We a]at h;let e:i.toNat=j:=W2 h;show⟨by rw[aaX b a,e],by lia,by lia,a⟩
   . rw[Wc a]at h;cases h
 . rw[Wc b]at h;by_cases a: -(n:Int)<=i
   . rw[We a]at h;let e:(i+n).toNat=j:=W2 h;show⟨by rw[seqIndex_neg (by lia) a,e],by lia,a,by lia⟩
   . rw[Wc a]at h;cases h
def xS{α:Type}{xs:List α}{v:α}(h:du xs i=some v):∃j,seqIndex? i xs.length=some j/\xs[j]?=some v/\j<xs.length/\ -(xs.length:Int)<=i/\i<xs.length:=by
 unfold du at h;cases e:ki xs.length i with
 |none=>rw[e]at h;cases h
 |some j=>
  rw[e]at h;obtain⟨d,c,b,a⟩:=xV e;show⟨j,d,h,c,b,a⟩
def dQ{α:Type}{xs:List α}{j:Nat}{v:α}(h:xs[j]?=some v):du xs (j:Int)=some v:=by
 let a:j<xs.length:=(Wa.mp h).1
 let e:ki xs.length (j:Int)=some j:=by
  unfold ki;rw[We (by lia),We (by lia)];simp
 unfold du;rw[e];show h
def J_{α:Type}(xs:List α)(v:α):du (xs++[v]) (-1)=some v:=by
 let a:(xs++[v]).length=xs.length+1:=by simp
 let e:ki (xs++[v]).length (-1)=some xs.length:=by
  unfold ki;rw[a,Wc (by decide),We (by lia)];congr 1;lia
 unfold du;rw[e];change(xs++[v])[xs.length]?=some v;simp
def uc(b:Expr):Prop:=∀o i,subscripted b false o i=operate [o,i] (getItem o i)
def L7(X:Cx)(r:R2):Prop:=
 ∀(value slice:Expr) (pins:List (Addr×Obj)) (s:Shared) (σ:St) (H:Hp) (x y:V) (v u:Value) (Q:VK),Inv X pins σ H s->RelV x v->RelV y u->r x y H Q->
  subscripted slice false v u=operate [v,u] (getItem v u)->wpAny (model X.prog X.w) X.A (subscriptTail value slice v u) (EP X pins σ Q) X.xe s
def R7(X:Cx)(id:String)(r:V->List V->Hp->VK->Prop):Prop:=
 ∀(a:List (Addr×Obj)) (s:Shared) (σ:St) (H:Hp) (x:V) (xs:List V) (v:Value) (us:List Value) (Q:VK),Inv X a σ H s->RelV x v->Vals xs us->r x xs H Q->
  wpAny (model X.prog X.w) X.A (call (.builtin id) (v::us)) (EP X a σ Q) X.xe s
section
variable {X:Cx}{a b:Expr}{ta tb:TE}{pos:Pos}
def Ta(i:L7 X r)(k:PE X a ta)(j:PE X b tb)(g:uc b):PE X (.Subscript a b pos) (Hm r ta tb):=by
 intro c s σ H Q I h;show Subscript_ (LN k j I h λv u d x y m l f e q=>i a b c d σ m x y v u Q l f e q (g _ _))
def Vn(K:PySem.W.Frag):R2:=λx y H Q=>∃p c i v,x= .ref p/\y= .int i/\mH K H p c/\du c i=some v/\Q v H
def UU(K:PySem.W.Frag):R2:=λx y H Q=>∃p c i v,x= .ref p/\y= .int i/\iF K H p c/\du c i=some v/\Q v H
def Er:L7 X (Vn X.K):=by
 intro value slice c s σ H x y v u Q I A o h k;obtain⟨p,K,i,z,rfl,rfl,B,D,q⟩:=h;cases A;obtain⟨t,rfl⟩:=o;obtain⟨J,r,pl,L⟩:=I.list B;obtain⟨j,e,G,N,F,E⟩:=xS D;obtain⟨w,m,f⟩:=r.get G;let C:=r.length;let M:=p9;let d:EP X c σ Q w s:=⟨z,H,I,f,q⟩
 by_cases l:0<=i
 . have g:i.toNat=j:=by
    rw[aaX l E]at e;show W2 e
   show item_listR pl.isList l (by lia) (by rw[g];simpa using m) d k
 . have g:(i+(J.toArray.size:Int)).toNat=j:=by
    rw[seqIndex_neg (by lia) F]at e;rw[Wl,<-C];show W2 e
   show subscriptTail_builtinR (x:=w) pl.isList.typeIs slot_list_getitem.lookup
    (wpAny_getItem_list_neg (Q:=λr n=>r=w/\EP X c σ Q r n) pl.isList (by lia) (by rw[Wl]<;>lia) (by lia) (by rw[g];simpa using m) ⟨rfl,d⟩) k
def QW:L7 X (UU X.K):=by
 intro value slice c s σ H x y v u Q I k g h l;obtain⟨p,D,i,z,rfl,rfl,m,o,q⟩:=h;cases k;obtain⟨t,rfl⟩:=g;obtain⟨L,r,pl,E⟩:=I.tuple m;obtain⟨j,B,A,K,J,G⟩:=xS o;obtain⟨w,C,d⟩:=r.get A;let n:=r.length;let F:=p9;let e:EP X c σ Q w s:=⟨z,H,I,d,q⟩
 show subscriptTail_builtinR (x:=w) pl.typeIs slot_tuple_getitem.lookup
  (getItem_tuple (j:=j) (Q:=λr f=>r=w/\EP X c σ Q r f) pl (by lia) (by lia) (by rw[Wl,<-n];show B) (by simpa using C) ⟨rfl,e⟩) l
def Fu(ao:List Value)(n j:Nat)(u:Value):Obj.mapSeq (·.setIfInBounds j u) {cls:= .type "list",data:= .seq ao.toArray n}= {cls:= .type "list",data:= .seq (ao.set j u).toArray n}:=by
 simp[Obj.mapSeq]
def Inv.lst{pins:List (Addr×Obj)}{σ:St}{H:Hp}{s:Shared}{p:Addr}{xs:List V}(I:Inv X pins σ H s)(h:H p=some (.lst xs)):
 ∃(ao:List Value) (n:Nat),Vals xs ao/\s.heap.get? p=some {cls:= .type "list",data:= .seq ao.toArray n}/\xs.length<=sizeLine:=by
 obtain⟨z,ao,n,r,e⟩:=I.aK p _ h;show⟨ao,n,r,e,z⟩
def Inv.RK{pins:List (Addr×Obj)}{σ:St}{H:Hp}{s:Shared}{p:Addr}{xs ys:List V}{ao its':List Value}{n c:Nat}{f:Obj->Obj}(I:Inv X pins σ H s)(h:H p=some (.lst xs))
 (i:s.heap.get? p=some {cls:= .type "list",data:= .seq ao.toArray n}) (d:f {cls:= .type "list",data:= .seq ao.toArray n}= {cls:= .type "list",data:= .seq its'.toArray c}) (r:Vals ys its') (g:ys.length<=sizeLine) (t:Nat):
 Inv X pins σ (upd H p (.lst ys)) {s with heap:=s.heap.update p f,toks:=t}:=by
 let e:(s.heap.update p f).get? p=some {cls:= .type "list",data:= .seq its'.toArray c}:=by
  rw[Yz f i (by rw[d]<;>rfl),d]
 show I.write (x:=p) (e:=p) (by rw[h];trivial) (.inl rfl) (λb u j q=>(Y3 _ _ (Wi j)).trans q) ⟨_,e⟩ ?_;show⟨g,its',c,r,e⟩
def wg:V->V->V->Hp->(Hp->Prop)->Prop:=λo i v H Q=>∃p c k j,o= .ref p/\i= .int k/\H p=some (.lst c)/\ki c.length k=some j/\Q (upd H p (.lst (c.set j v)))
def set_list:Lh X wg:=by
 intro c s σ H o i v G J u Q I C D B h;obtain⟨p,A,k,j,rfl,rfl,l,F,q⟩:=h;cases C;obtain⟨t,rfl⟩:=D;obtain⟨y,n,r,e,E⟩:=I.lst l;obtain⟨d,L,w,m⟩:=xV F;let f:=r.length;let K:=p9
 let z:Inv X c σ (upd H p (.lst (A.set j v))) {s with heap:=s.heap.update p (Obj.mapSeq (·.setIfInBounds j u))}:=
  I.RK l e (Fu y n j u) (r.set B j) (by rw[Wv];show E) s.toks
 by_cases x:0<=k
 . have g:k.toNat=j:=by
    rw[aaX x m]at d;show W2 d
   show PySem.W.ki_setAt e x (by lia) (by rw[Wl,<-f];show m) (by rw[g];show⟨_,z,q⟩)
 . have g:(k+(y.toArray.size:Int)).toNat=j:=by
    rw[seqIndex_neg (by lia) w]at d;rw[Wl,<-f];show W2 d
   show PySem.W.ki_setBack e (by lia) (by rw[Wl,<-f];show w) (by lia) (by rw[g];show⟨_,z,q⟩)
def Ci(c d:Option Int)(n:Nat):(sliceBounds c d none n).1=((HT.cv n 0 c:Nat):Int)/\(sliceBounds c d none n).2.1=((HT.cv n n d:Nat):Int)/\(sliceBounds c d none n).2.2=1:=by
 show⟨?_,?_,rfl⟩
 . cases c with
   |none=>simp[sliceBounds,HT.cv]
   |some i=>
    simp![sliceBounds,HT.cv,Option.getD_none,show(1:Int)>0 by decide,Yy];by_cases h:i<0
    . simp![h,Yy]<;>lia
    . simp![h,YC]<;>lia
 . cases d with
   |none=>simp[sliceBounds,HT.cv]
   |some i=>
    simp![sliceBounds,HT.cv,Option.getD_none,show(1:Int)>0 by decide,Yy];by_cases h:i<0
    . simp![h,Yy]<;>lia
    . simp![h,YC]<;>lia
def zM(ao:List Value)(c d:Option Int):slicePick ao.toArray c d none=((ao.drop (HT.cv ao.length 0 c)).take (HT.cv ao.length ao.length d-HT.cv ao.length 0 c)).toArray:=by
 obtain⟨g,f,e⟩:=Ci c d ao.toArray.size;unfold slicePick;rw[g,f,e];simp![sliceRange_one,pick_run,Wl]<;>rfl
def Vh(K:PySem.W.Frag):V->Option Int->Option Int->Hp->VK->Prop:=λx d e H Q=>∃a c,x= .ref a/\mH K H a c/\∀p,H p=none->Q (.ref p) (upd H p (.lst (qz c d e)))
def D9:Ig X (Vh X.K):=by
 intro g s σ H x v t p e f u Q I j n pl k h;obtain⟨a,c,rfl,m,q⟩:=h;cases j;obtain⟨y,r,i,l⟩:=I.list m;let d:=r.length;show⟨"list",_,slot_list_getitem.lookup,i.isList.typeIs,?_⟩;show wpAny_getItem_list_slice i.isList n pl k .none (by simp) ?_ (by rw[Wl]<;>lia);rw[zM,<-d];show⟨.ref s.heap.objs.size,_,I.laid (t':=s.toks) (o:= .lst (qz c e f)) (λb w q=>V_ _ q) (Wg _) ?_,rfl,q _ (I.aK.fresh (Wg _))⟩;show⟨Wj (uL c e f) l,_,0,(r.drop (HT.cv c.length 0 e)).take (HT.cv c.length c.length f-HT.cv c.length 0 e),Wu _ rfl⟩
def BK:bJ X (.builtin "len") (λxs H Q=>∃p ys,xs=[.ref p]/\(mH X.K H p ys\/iF X.K H p ys)/\Q (.int ys.length) H):=by
 intro f s σ H xs k Q I r h;obtain⟨p,ys,rfl,d,q⟩:=h;obtain⟨u,rfl,g⟩:=vals1 r;cases g;let l:=p9;rcases d with d|d
 . obtain⟨j,e,pl,i⟩:=I.list d;let c:=e.length;show Calls.call_len_list pl.isList (by simp![Wl]<;>lia) ⟨.int ys.length,H,I.tok _,⟨s.toks+1,by rw[Wl,c]⟩,q⟩
 . obtain⟨j,e,pl,i⟩:=I.tuple d;let c:=e.length;show len_tuple pl (by simp![Wl]<;>lia) ⟨.int ys.length,H,I.tok _,⟨s.toks+1,by rw[Wl,c]⟩,q⟩
def BM:bJ X (.builtin "len") (λxs H Q=>∃z,xs=[.str z]/\z.length<=sizeLine/\Q (.int z.length) H):=by
 intro c s σ H xs d Q I r h;obtain⟨z,rfl,e,q⟩:=h;obtain⟨u,rfl,t,rfl⟩:=vals1 r;let f:=p9;show len_str (by lia) ⟨.int z.length,H,I.tok _,⟨_,rfl⟩,q⟩
def tL:bJ X (.type "list") (λxs H Q=>∃p ys,xs=[.ref p]/\(mH X.K H p ys\/iF X.K H p ys)/\∀l,H l=none->Q (.ref l) (upd H l (.lst ys))):=by
 intro i s σ H xs B Q I r h;obtain⟨p,ys,rfl,m,q⟩:=h;obtain⟨u,rfl,A⟩:=vals1 r;cases A
 let v:∀(d:List Value),Vals ys d->ys.length<=sizeLine->∀(c:Heap) (g:Nat),(∀b z,s.heap.get? b=some z->c.get? b=some z)->
  c.get? s.heap.objs.size=some {cls:= .type "list",dict:=none,data:= .seq d.toArray g,slots:= #[]}->EP X i σ Q (.ref s.heap.objs.size) {s with heap:=c}:=λd f k c g j e=>
  ⟨.ref s.heap.objs.size,_,I.laid (t':=s.toks) j (Wg _) (show dw X.prog X.w _ c _ (.lst ys)from⟨k,d,g,f,e⟩),rfl,q _ (I.aK.fresh (Wg _))⟩
 rcases m with m|m
 . obtain⟨d,f,pl,k⟩:=I.list m;let t:=f.length;obtain⟨o,w,y,n,x⟩:=pl.isList;show call_list_seq p (.inl rfl) w y x (λc g j e=>v d f k c g j e) (by simp![Wl]<;>lia)
 . obtain⟨d,f,pl,k⟩:=I.tuple m;let t:=f.length;obtain⟨o,w,y,n,x⟩:=pl;show call_list_seq p (.inr rfl) w y x (λc g j e=>v d f k c g j e) (by simp![Wl]<;>lia)
def z8:bJ X (.type "tuple") (λxs H Q=>∃p ys,xs=[.ref p]/\((mH X.K H p ys/\∀l,H l=none->Q (.ref l) (upd H l (.tup ys)))\/(iF X.K H p ys/\Q (.ref p) H))):=by
 intro c s σ H xs w Q I r h;obtain⟨p,ys,rfl,h⟩:=h;obtain⟨u,rfl,n⟩:=vals1 r;cases n;rcases h with⟨g,q⟩|⟨g,q⟩
 . obtain⟨i,f,pl,j⟩:=I.list g;let k:=f.length;show call_tuple_list pl.isList (λd t=>?_) (by simp![Wl]<;>lia);let m:Inv X c σ H {s with heap:=d}:=I.kept (t':=s.toks) t
   let v:Inv X c σ (upd H d.objs.size (.tup ys)) {s with heap:=d.push {cls:= .type "tuple",data:= .seq i.toArray}}:=
    m.laid (t':=s.toks) (λb o e=>V_ _ e) (Wg _) (show dw X.prog X.w _ _ _ (.tup ys)from⟨j,i,f,IsTup.new _ _⟩)
   show⟨.ref d.objs.size,_,v,rfl,q _ (m.aK.fresh (Wg _))⟩
 . obtain⟨i,f,pl,j⟩:=I.tuple g;show call_tuple_same pl ⟨.ref p,H,I,rfl,q⟩
def RX(K:PySem.W.Frag)(T:String)(x:V)(H:Hp):Prop:=match x with
 | .str _=>T="str"
 | .int _=>T="int"
 | .ref p=>(T="list"/\∃d,mH K H p d)\/(T="tuple"/\∃o,K.lookup p=some o/\o.cls= .type "tuple"/\o.dict=none)\/
    (T="dict"/\((∃c,H p=some (.dK c))\/∃c,H p=some (.dT c)))\/(T="set"/\∃S n,H p=some (.set S n))
 |_=>False
def HK{pins:List (Addr×Obj)}{σ:St}{H:Hp}{s:Shared}{T:String}{x:V}{v:Value}(I:Inv X pins σ H s)(r:RelV x v)(g:RX X.K T x H):
 s.TypeIs v T/\∀a,v= .ref a->∃l,s.heap.get? a=some l/\l.dict=none:=by
 cases x with
 |str z=>
  obtain⟨t,rfl⟩:=r;cases (show T="str" from g);show⟨typeIs_str s z t,λ_ e=>nomatch e⟩
 |int i=>
  obtain⟨t,rfl⟩:=r;cases (show T="int" from g);show⟨aaA s i t,λ_ e=>nomatch e⟩
 |ref p=>
  cases r;rcases g with⟨rfl,u,m⟩|⟨rfl,o,d,q,j⟩|⟨rfl,d⟩|⟨rfl,S,n,d⟩
  . obtain⟨w,_,pl,_⟩:=I.list m;show⟨pl.isList.typeIs,λa e=>?_⟩;cases e;obtain⟨o,n,e,c,j,_⟩:=pl;show⟨o,e,j⟩
  . show⟨⟨o,I.g4 p o d,q⟩,λa e=>?_⟩;cases e;show⟨o,I.g4 _ o d,j⟩
  . have z:∃o,s.heap.get? p=some o/\o.ExactDict:=by
     rcases d with⟨h,d⟩|⟨h,d⟩
     . obtain⟨_,_,_,_,o,_,_,e,f,_⟩:=I.aK p _ d;show⟨o,e,f⟩
     . obtain⟨_,_,_,_,o,_,_,e,f,_⟩:=I.aK p _ d;show⟨o,e,f⟩
    obtain⟨o,e,f⟩:=z;show⟨⟨o,e,f.1⟩,λa k=>?_⟩;cases k;show⟨o,e,f.2.1⟩
  . obtain⟨o,_,_,_,e,f,_⟩:=I.aK p _ d;show⟨⟨o,e,f.1⟩,λa k=>?_⟩;cases k;show⟨o,e,f.2.1⟩
 |_=>show False.elim g
def Ri(K:PySem.W.Frag)(T:String)(r:V->List V->Hp->VK->Prop)(c:TE):TE:=λσ H Q=>c σ H λx H1=>RX K T x H1/\r x [] H1 Q
def UA(K:PySem.W.Frag)(T:String)(r:V->List V->Hp->VK->Prop)(d:TE)(t:TA):TE:=λσ H Q=>d σ H λx H1=>RX K T x H1/\t σ H1 λc e=>r x c e Q
variable {o e:Expr}{es:List Expr}{to:TE}{t:TA}{name:Str}{apos cpos:Pos}{T id:String}{r:V->List V->Hp->VK->Prop}
def Qd(n:PlainAttrs T)(slot:Slot T name id)(g:typeOf (.builtin id)=pure (.type "method_descriptor"))(q:R7 X id r)(p:PE X o to)
 (f:attributeBase o name X.env (eval o X.env)=eval o X.env:=by rfl) (d:(apos.endLine==cpos.line)=true:=by rfl):PE X (.Call (.Attribute o name apos) [] [] cpos) (Ri X.K T r to):=by
 intro c s σ H Q I h;show wpAny_Call_method0_late f d (bR (p c s σ H _ I h) λv l ⟨x,H1,j,i,k,m⟩=>?_);obtain⟨w,u⟩:=HK j i k;show⟨T,id,n,slot,g,w,u,Calls.callWith_builtin rfl (PySem.evalArgs_none (q c l σ H1 x [] v [] Q j i .nil m))⟩
def T7(B:PlainAttrs T)(slot:Slot T name id)(j:typeOf (.builtin id)=pure (.type "method_descriptor"))(E:R7 X id r)(D:PE X o to)(F:PA X (e::es) t)
 (g:attributeBase o name X.env (eval o X.env)=eval o X.env:=by rfl)
 (i:((backTo cpos (starEach (e::es) X.env)).all (λx=> !x.1)&&(backToKw cpos (keywordEach [] X.env)).all (λx=>x.1.isSome)
   &&decide ((e::es).length+([]:List Keyword).length+(if([]:List Keyword).isEmpty then 0 else 1)<30))=true:=by rfl)
 (f:(apos.endLine==cpos.line)=true:=by rfl) (C:starEach (e::es) X.env=(false,eval e X.env)::starEach es X.env:=by rfl) (d:(backTo cpos (starEach es X.env)).any (·.1)=false:=by rfl):
 PE X (.Call (.Attribute o name apos) (e::es) [] cpos) (UA X.K T r to t):=by
 intro c s σ H Q I h;show wpAny_Call_method_late g i f rfl (bR (D c s σ H _ I h) λv w ⟨x,H1,m,k,q,A⟩=>?_);obtain⟨J,G⟩:=HK m k q;show⟨T,id,B,slot,j,J,G,?_⟩;let l:=F cpos c w σ H1 _ m A;rw[C]at l⊢;show Calls.callWith_builtin (by change(false||(backTo cpos (starEach es X.env)).any (·.1))=false;rw[d]<;>rfl) (Calls.evalArgs_plain ?_);show bR l λp u ⟨n,L,K,y,z⟩=>E c u σ L x n v p Q K k y z
/-xs.append(e),list.index on a module's tuple .. are R7 facts of 06m-/
end
def UT(X:Cx)(id:String)(r:V->List V->Hp->VK->Prop):Prop:=
 ∀(a:List (Addr×Obj)) (s:Shared) (σ:St) (H:Hp) (x:V) (xs:List V) (v:Value) (us:List Value) (Q:VK),Inv X a σ H s->RelV x v->Vals xs us->r x xs H Q->
  wpAny (model X.prog X.w) X.A (call (.builtin id) (v::us)) (EP X a σ Q) X.xe s
def Vals.one:∀ {x:V} {us:List Value},Vals [x] us->∃u,us=[u]/\RelV x u
 |_,_,.cons r .nil=>⟨_,rfl,r⟩
def Vals.zero:∀ {us:List Value},Vals [] us->us=[]
 |_,.nil=>rfl
def Vals.rep(h:Vals xs us):∀k:Nat,Vals (List.replicate k xs).flatten (List.replicate k us).flatten
 |0=> .nil
 |k+1=>by
  rw[XO,XO,WR,WR];show Vals.append h (Vals.rep h k)
def foldl_rep(ao:List Value):∀(k:Nat) (acc:List Value),
 List.foldl (λb a=>b++a) acc.toArray (List.replicate k ao.toArray)=(acc++(List.replicate k ao).flatten).toArray
 |0,acc=>by simp
 |k+1,acc=>by
  let e:acc.toArray++ao.toArray=(acc++ao).toArray:=by simp
  let c:(acc++ao)++(List.replicate k ao).flatten=acc++(List.replicate (k+1) ao).flatten:=by
   rw[XO,WR,XD]
  rw[<-c,<-foldl_rep ao k (acc++ao),<-e,XO,List.foldl_cons]
section
variable {X:Cx}{pins:List (Addr×Obj)}{σ:St}{H:Hp}{s:Shared}{l b:Addr}{xs ys zs:List V}
def Inv.QD{ao its':List Value}{f:Array Value->Array Value}(I:Inv X pins σ H s)(i:H l=some (.lst xs))
 (e:s.heap.get? l=some {cls:= .type "list",data:= .seq ao.toArray n}) (g:f ao.toArray=its'.toArray) (c:Vals ys its') (a:ys.length<=sizeLine):
 Inv X pins σ (upd H l (.lst ys)) {s with heap:=s.heap.update l (Obj.mapSeq f),toks:=t'}:=by
 let q:=PySem.IsL.update e f;rw[g]at q;show I.write (x:=l) (e:=l) (by rw[i];show trivial) (.inl rfl) (λj u h d=>(Y3 s.heap (Obj.mapSeq f) (Wi h)).trans d) ⟨_,q⟩ ?_;show⟨a,its',_,c,q⟩
def Inv.KL{ao:List Value}(I:Inv X pins σ H s)(c:Vals ys ao)(a:ys.length<=sizeLine):
 Inv X pins σ (upd H s.heap.objs.size (.lst ys)) {s with heap:=s.heap.push {cls:= .type "list",data:= .seq ao.toArray},toks:=t'}:=
 I.laid (λ_ _ q=>V_ _ q) (Wg _) ⟨a,ao,0,c,Wu _ rfl⟩
def Inv.fresh(I:Inv X pins σ H s):H s.heap.objs.size=none:=I.aK.fresh (Wg _)
def Inv.Py(I:Inv X pins σ H s)(a:H l=some (.lst xs)):xs.length<=sizeLine/\∃(ao:List Value) (n:Nat),Vals xs ao/\xs.length=ao.length/\s.heap.get? l=some {cls:= .type "list",data:= .seq ao.toArray n}:=by
 obtain⟨z,ao,n,r,e⟩:=I.aK l _ a;show⟨z,ao,n,r,r.length,e⟩
def Lx(h:n<=sizeLine):Builtin.List.listTooLong n=false:=by
 unfold Builtin.List.listTooLong;show WH (by lia)
end
section
variable {X:Cx}
def EH:V->List V->Hp->VK->Prop:=λx b H Q=>∃l a y,x= .ref l/\b=[y]/\H l=some (.lst a)/\a.length<sizeLine/\Q .aD (upd H l (.lst (a++[y])))
def zd:UT X "list.append" EH:=by
 intro a s σ H x j v k Q I d f h;obtain⟨l,i,y,rfl,rfl,b,m,q⟩:=h;cases d;obtain⟨u,rfl,g⟩:=f.one;obtain⟨z,c,n,r,o,e⟩:=I.Py b;show Za F.slot_list_append ⟨_,e,rfl⟩ F.entry_list_append (F.args_list_append_2 _ _) (PySem.list_append l c.toArray n u (by rw[Wl];lia)) ⟨e,?_⟩;show⟨.aD,_,I.QD (its':=c++[u]) b e (by simp) (r.append (.cons g .nil)) ?_,rfl,q⟩;rw[W5,aa3];lia
def len_rep{α:Type}(xs:List α)(k:Nat):(List.replicate k xs).flatten.length=k*xs.length:=by
 induction k with
 |zero=>simp
 |succ k a=>rw[XO,WR,W5,a,Nat.succ_mul,Nat.add_comm]
end
section
variable {prog:Program}{w:World}{A:Around}{E:Value->Shared->Prop}{s:Shared}
set_option maxRecDepth 100000 in
end
end L2
namespace Att
open PySem PySem.W PySem.Calls PyProof.Rows
def xg:∀(ns:List Int) (vs:List Value),WellAll P h vs (ns.map WData.int)->IntsAre vs ns:=by
 intro ns;induction ns with
 |nil=>
  intro vs w;rw[List.map_nil]at w;cases w;show .nil
 |cons n ns c=>
  intro vs w;rw[WJ]at w;cases w with
  |cons a b=>
   cases a;show .cons _ _ (c _ b)
def JL{l:OpenLaw}(u:l.most=some n){h:Heap}
 (c:l.row.toRowW.claim.pre args=true) (j:WellAll P h b args):
 ∃a vs ns,b=[Value.ref a]/\args=[WData.list (ns.map WData.int)]/\h.get? a=some {cls:= .type "list",data:= .seq vs.toArray}/\IntsAre vs ns/\ns.length<=n:=by
 let k:WShape.hasAll [] args [.list .int]=true:=(pre_splitW c).1;let m:l.pre.holds [] {args:=args}=true:=(pre_splitW c).2;obtain⟨d,r,rfl,x,w⟩:=hasAllW_cons k;obtain rfl:=hasAllW_nil w;obtain⟨y,rfl,v⟩:=hasW_list x;obtain⟨ns,rfl⟩:=items_int v
 let e:ns.length<=n:=by
  unfold OpenLaw.pre at m
  let i:(WTm.not (.lt (.lit (.int (n:Int))) (.len (.arg 0)))).holds [] {args:=[.list (ns.map .int)]}=true:=by
   let i:=(holds_andW m).1;rw[u]at i;show i
  let g:=condW_of i (w_not (w_lt w_lit (w_len_list (w_arg rfl))));rw[Wd]at g;show Ym λq=>?_;let s:(n:Int)<((ns.length:Nat):Int):=by lia
  first
   |(rw[Xb s]at g;show absurd g (by decide))
   |(simp at g;lia)
 cases j with
 |cons p o=>
  cases o;cases p with
  |list t f=>show⟨_,_,ns,rfl,rfl,t,xg ns _ f,e⟩
def IC(l:OpenLaw)(args:List WData):l.row.toRowW.claim.post args (.bool true) args=true:=
 postW_of (r:=l.row.toRowW) (X:=(true==true))
  (show WShape.has [] (.bool true) .bool=true by first|rfl|decide|simp[WShape.has,WShape.arms,WShape.armsAll])
  (show(WTm.eq .res (.lit (.bool true))).value [] {args:=args,res:=some (.bool true),after:=args}=some (.bool (true==true))from w_eq_bool (w_res rfl) w_lit) rfl
def Dq{l:OpenLaw}{d:DefRec}
 (x:l.most=some n) (i:d.params.defaults=[])
 (call:∀(w:World) (s₀ s₁:Shared) (mg mb:Str->Option Value) (fa:Addr) (o:Obj) (pm cd doc:Value) (a:Addr) (vs:List Value) (ns:List Int),
   Ground q loose [] XP w s₀ mg mb s₁.heap->YP w s₁.heap->
   s₁.heap.get? fa=some o->o.data= .func (docDef d.name d.params d.body d.scope pm cd doc)->s₁.heap.CodeRec cd d.name->mg d.name=some (.ref fa)->
   s₁.heap.get? a=some {cls:= .type "list",data:= .seq vs.toArray}->IntsAre vs ns->ns.length<=n->s₁.gens= #[]->
   codeAny (model l.prog w) callerA (.call (.ref fa) ⟨[.ref a],[]⟩) (λr s'=>r= .ok (.ret (.bool true))/\OldK s₁.heap s'.heap/\s'.os=s₁.os/\AllBare s'.gens) s₁):
 WalkO q loose XP YP l.row.toRowW d [] (λf vs=>PySem.call f vs):=by
 intro w s₀ s₁ mg mb G Y fa o pm cd doc F kV v B j p h A s k H b m t g z;obtain rfl:F= .none:=Dflts.none p i;obtain rfl:kV= .none:=Dflts.noKw p;obtain⟨a,vs,ns,rfl,rfl,c,hints,e⟩:=JL x b g;show enter_call (aaK (call w s₀ s₁ mg mb fa o pm cd doc a vs ns G Y v (fd_plain B) j h c hints e A) λr s' u=>?_);obtain⟨rfl,E,D,C⟩:=u;show⟨.inl ⟨.bool true,.bool true,[],rfl,λ_=>rfl,.bool true,IC l _,λ_=>⟨List.Pairwise.nil,λ_ y=>(nomatch y)⟩⟩,E,D,C⟩
end Att
namespace L2
open PySem PySem.Spec PyProof.Rows
def mw:∀ {vs:List Value} {ns:List Int},IntsAre vs ns->Vals (ns.map V.int) vs
 |_,_,.nil=> .nil
 |_,_,.cons n t h=> .cons ⟨t,rfl⟩ (mw h)
end L2
/-THE LAST THEOREM (shape;LID,My.*are yours):
 My.Adr:a structure of the addresses that your layer names (classes,functions);My.Txt K t:a structure (Prop) of the equations over K;
 My.txt_mk:{K} {implicit addresses ..} (e1:nsIn K mainGlobals "law"=some (some (.ref f))) (e2:K.lookup f=some ⟨oc,od,.func (fnOf "law" "law" params body scope dV kV doc pm an cdv ct),sl⟩) (e3:codeIn K cdv "law"=true) .. :∃t,My.Txt K t
set_option maxRecDepth 100000 in
set_option maxHeartbeats 0 in
(the tactic k_is has no namespace:write k_is)-/
namespace L2
open PySem PySem.Spec PyProof.Rows
def inClass(s:Stmt)(j:Nat):Stmt:=match s with
 | .ClassDef _ _ _ a _ _ _ _ _ _ _=>a.getD j (.Pass ⟨0,0,0,0⟩)
 |_=> .Pass ⟨0,0,0,0⟩
def km(s:Stmt):Arguments:=match s with
 | .FunctionDef _ a _ _ _ _ _ _ _ _=>a
 |_=>{posonlyargs:=[],args:=[],vararg:=none,kwonlyargs:=[],kw_defaults:=[],kwarg:=none,defaults:=[]}
def gf(s:Stmt):List Stmt:=match s with
 | .FunctionDef _ _ b _ _ _ _ _ _ _=>b
 |_=>[]
def bf(s:Stmt):Scope:=match s with
 | .FunctionDef _ _ _ _ _ _ a _ _ _=>a
 |_=>{kind:= .function,names:=[],isGenerator:=false,isCoroutine:=false}
abbrev fS:uI:=λ_ _ _ _ _ _=>False
abbrev E0:XK:=λ_ _ _=>False
def Aw:Passes fS X E0:=λ_ _ _ _ _ _ _ h=>h.elim
structure oj(K:PySem.W.Frag)(x qual:Str)(st:Stmt)(f:Addr)(fd:FuncData):Prop where
 ex:∃(oc:Value) (od:Option Addr) (kV doc pm:Value) (an:Option Addr) (cdv ct:Value) (osl:Array (Option Value)),
  fd=PySem.W.fnOf x qual (km st) (gf st) (bf st) .none kV doc pm an cdv ct/\K.lookup f=some ⟨oc,od,.func fd,osl⟩/\PySem.W.codeIn K cdv qual=true
 kp:PySem.W.keepIn K (.ref f)=true
section
variable {P:Program}{w:World}{K:PySem.W.Frag}{mg:Str->Option Value}{base:Heap}
def oj.ok{x a:Str}{st:Stmt}{f:Addr}{fd:FuncData}{N d:List Str}{k:Nat}{sp:Sp}(F:oj K x a st f fd)(S:l7 N d (bf st))(len:∀vs H Q E,sp vs H Q E->vs.length=d.length)
 (c:∀(b:Value) (A:Around) (outer:List Env) (s:Shared) (H:Hp) (vs:List V) (Q:VK) (E:XK),cU k (A.deeper (envOfC a (bf st) s.heap.objs.size f b))->sp vs H Q E->
   ∃t,g9 (pA fS P w K mg base N a (bf st) f b A outer s H E).uK (gf st) t/\t {nx:=λ_ n=>Q .aD n,rt:=Q} (start N vs) H):dh P w K mg base fS (k+1) f fd d sp:=by
 obtain⟨r,p,kV,m,o,v,b,u,i,rfl,j,g⟩:=F.ex;show Ma j g S len λA outer s H vs Q E l e=>?_;obtain⟨t,h,q⟩:=c b A outer s H vs Q E l e;show⟨t,h.uK,q⟩
def oj.binds{x a:Str}{st:Stmt}{f:Addr}{fd:FuncData}{c:List Str}(F:oj K x a st f fd)
 (h:∀(kV b d:Value) (an:Option Addr) (cdv ct:Value) (us:List Value),us.length=c.length->bindArgs (PySem.W.fnOf x a (km st) (gf st) (bf st) .none kV b d an cdv ct) ⟨us,[]⟩=pure (c.zip us)):Binds K fd c []:=by
 obtain⟨j,i,kV,b,d,an,cdv,ct,e,rfl,k,g⟩:=F.ex;show .all (h kV b d an cdv ct)
def Jh{x a:Str}{st:Stmt}{f:Addr}{j:Value}{i h:Option Addr}{e:Array (Option Value)}{kV d g b ct:Value}(l:K.lookup f=some ⟨j,i,.func (PySem.W.fnOf x a (km st) (gf st) (bf st) .none kV d g h b ct),e⟩)
 (c:PySem.W.codeIn K b a=true) (k:PySem.W.keepIn K (.ref f)=true):oj K x a st f (PySem.W.fnOf x a (km st) (gf st) (bf st) .none kV d g h b ct):=⟨⟨j,i,kV,d,g,h,b,ct,e,rfl,l,c⟩,k⟩
end
def eH{A B:Prop}(h:A):if true=true then A else B:=by
 rw[We rfl];show h
def K_(H a:Hp):Prop:=∀b o,H b=some o->a b=some o
end L2
set_option maxHeartbeats 4000000
namespace Hd
open PySem PySem.W PySem.Calls PyProof.Rows
noncomputable def bt (P:Params):BT:=(.node (boot_o_0 P) (.node (boot_o_1 P) (.node (boot_o_3 P) (.node (boot_o_7 P) .nil .nil) .nil) (.node (boot_o_5 P) (.node (boot_o_9 P) .nil .nil) .nil)) (.node (boot_o_2 P) (.node (boot_o_4 P) (.node (boot_o_8 P) .nil .nil) .nil) (.node (boot_o_6 P) (.node (boot_o_10 P) .nil .nil) .nil)))
def R0(P:Params):absHeap (bt P) 11 (boot_heap P).life=boot_heap P:=by kernel_rfl
noncomputable def run (p:Program) (w:World) (n:Nat) (a:Option Value):Nat->SharedT->Thread->Option SharedT
 |0,_,_=>none
 |k+1,s,t=>match through t with
  |true=>some s
  |false=>match Fast.tw6613529449190102663 n a t with
   |false=>none
   |true=>match Fast.tw10156331382660048174 (Fast.tw11892475500146522536 Fast.tw14364793385576792824) p w s t with
    |some (c,b)=>run p w n a k c b
    |none=>none
def IV:∀ {k:Nat} {s s':SharedT} {t:Thread},run p w n a k s t=some s'->topRun treeTable p w n a k s.abs t=some s'.abs
 |0,_,_,_,h=>by cases h
 |k+1,s,s',t,h=>by
  unfold run at h;unfold topRun;cases d:through t with
  |true=>rw[d]at h;cases h;rfl
  |false=>
   rw[d]at h;rw[<-Fast.te6613529449190102663,<-Fast.te10156331382660048174,<-Fast.te11892475500146522536,<-Fast.te14364793385576792824]at h;cases c:stepOk n a t with
   |false=>simp![c]at h;cases h
   |true=>
    simp![c]at h;cases b:stepT (denote treeTable) p w s t with
    |none=>rw[b]at h;cases h
    |some r=>obtain⟨f,e⟩:=r;rw[b]at h;rw[stepT_spec b];show IV h
noncomputable def b0 (w:World) (a:OsState):SharedT:=⟨bt w.params,11,(boot_heap w.params).life,⟨[]⟩,boot_drawn,boot_toks,a⟩
def Qj(w:World)(a:OsState):(b0 w a).abs=⟨boot_heap w.params,⟨[]⟩,boot_drawn,boot_toks,a⟩:=by
 unfold b0 SharedT.abs;dsimp only;rw[R0]
def left{p q:Program}{α:Type}{c:Shared->α}{g:World->α}
 (e:opening p=plainProg p.main.scope.names) (f:∀s,fenceModules? p s=some s) (l:Nat.ble 600 N=true)
 (h:∀(w:World) (os:OsState),(run p w 11 (some (.ref 6)) N (b0 w os) (topStub p)).bind (λs=>match staticsOk (importedModules p.main.body) (boot_heap w.params) s.abs.heap&&namesBound p s.abs.heap&&gensDone s.abs&&laidKept (boot_heap w.params) s.abs.heap with
   |true=>some (Fast.tw4187177175401517315 q loose (importedModules p.main.body) (λ_=>true) true s.abs,c s.abs)
   |false=>none)=some (openGood q loose,g w)):LeftO p q loose (λ_=>true) c g N:=λw=>by
 obtain⟨⟨j,m,d,k,os⟩,o,n⟩:=Option.map_eq_some_iff.mp (boot_open e l f w);obtain⟨rfl,rfl,rfl,rfl⟩:j=boot_heap w.params/\m=⟨[]⟩/\d=boot_drawn/\k=boot_toks:=by simpa using n
 obtain⟨s,i,a⟩:=Option.bind_eq_some_iff.mp (h w os);let b:=IV i;rw[Qj]at b;rw[<-Fast.te4187177175401517315]at a;unfold openEnds;rw[o];change(topFrom treeTable p w N _).map _=_;unfold topFrom;rw[show((boot_heap w.params).isNs mainGlobals&&(⟨[]⟩:Array GenState).size==0)=true from by kernel_rfl];dsimp only;rw[show(boot_heap w.params).objs.size=11 from by kernel_rfl,show(boot_heap w.params).nsMap mainGlobals "__annotations__"=some (.ref 6)from by kernel_rfl,b];change((match staticsOk (importedModules p.main.body) (boot_heap w.params) s.abs.heap&&namesBound p s.abs.heap&&gensDone s.abs&&laidKept (boot_heap w.params) s.abs.heap with|true=>some s.abs|false=>none):Option Shared).map _=_;cases z:(staticsOk (importedModules p.main.body) (boot_heap w.params) s.abs.heap&&namesBound p s.abs.heap&&gensDone s.abs&&laidKept (boot_heap w.params) s.abs.heap)with
 |false=>rw[z]at a;cases a
 |true=>rw[z]at a;show a
abbrev e(x:Str)(t:Nat)(v:Value):Str×Nat×Value:=(x,t,v)
abbrev k(a:Addr)(o:Obj):Addr×Obj:=(a,o)
def no(P:Params)(n:Nat)(l:List (Str×Nat×Value)):Obj:=⟨.type "dict",none,.dict (l.map λe=>⟨PyData.keyHash P e.1,.str e.1 e.2.1,e.2.2⟩).toArray n,#[]⟩
def fd(st:Stmt)(x q:Str)(a:Value)(c:Addr):FuncData:=fnOf x q (L2.km st) (L2.gf st) (L2.bf st) .none .none .none a none (.ref c) .none
def fq(st:Stmt)(x q:Str)(a:Value)(c:Addr):Obj:=⟨.type "function",none,.func (fd st x q a c),#[]⟩
def co(x q:Str)(t:Nat)(line c:Int)(a b:Addr)(u v:Value)(d:Addr)(i:Int)(z:Nat):Obj:=⟨.type "code",none,.fields #[.str x t,.str q (t+1),.str "/claim/cut.py" (t+2),.int line 0,.int c 0,.int 0 0,.int 0 0,.int 3 0,.ref a,.bool true,.int 181 0,.ref b,.none,u,v,.ref d,.int i 0,.int line 0,.str "/claim/cut.py" z],#[]⟩
end Hd
namespace Row
open PySem L2
open PySem.Spec hiding items?
open PyProof.Rows hiding St
def top(i:Nat):Stmt:=PySem.Challenge.pw_latticeworks_k38_whole_turned_steps.main.body.getD i (.Pass ⟨0,0,0,0⟩)
abbrev PW:Program:=PySem.Challenge.pw_latticeworks_k38_whole_turned_steps
abbrev pv:Stmt:=top 4
abbrev pf:Stmt:=top 5
abbrev lW:Stmt:=top 6
abbrev mR:Stmt:=top 7
abbrev vB:Stmt:=top 9
abbrev Bu:Stmt:=top 10
abbrev yF:Stmt:=top 11
abbrev yq:Stmt:=top 12
abbrev vL:Stmt:=top 13
abbrev sH:Stmt:=top 15
abbrev xQ:Stmt:=top 16
abbrev vd:Stmt:=top 17
abbrev se:Stmt:=top 18
abbrev vx:Stmt:=top 19
abbrev m7:Stmt:=top 20
abbrev qQ:Stmt:=top 21
abbrev pF:Stmt:=top 22
abbrev FW:Stmt:=top 23
abbrev r9:Stmt:=top 24
abbrev qV:Stmt:=top 25
abbrev ox:Stmt:=top 26
abbrev og:Stmt:=top 27
abbrev sS:Stmt:=top 29
abbrev si:Stmt:=top 30
abbrev qI:Stmt:=top 31
abbrev oB:Stmt:=top 32
abbrev pH:Stmt:=top 33
abbrev vP:Stmt:=top 34
abbrev iY:Stmt:=top 36
abbrev pL:Stmt:=top 37
abbrev sd:Stmt:=top 38
abbrev dE:Stmt:=inClass (top 39) 0
abbrev jh:Stmt:=inClass (top 39) 1
abbrev fV:Stmt:=inClass (top 39) 2
abbrev eZ:Stmt:=inClass (top 39) 3
abbrev dO:Stmt:=inClass (top 39) 4
abbrev gY:Stmt:=inClass (top 39) 5
abbrev eY:Stmt:=inClass (top 39) 6
abbrev qC:Stmt:=top 40
abbrev jK:Stmt:=top 42
abbrev lq:Stmt:=top 43
abbrev q_:Stmt:=top 44
abbrev fC:Stmt:=inClass (top 45) 0
abbrev fQ:Stmt:=inClass (top 45) 1
abbrev gn:Stmt:=inClass (top 45) 2
abbrev fE:Stmt:=inClass (top 45) 3
abbrev iy:Stmt:=inClass (top 45) 4
abbrev fO:Stmt:=inClass (top 45) 5
abbrev x_:Stmt:=top 46
abbrev mZ:Stmt:=top 47
abbrev vj:Stmt:=top 49
abbrev qZ:Stmt:=top 50
abbrev pE:Stmt:=top 51
abbrev ow:Stmt:=top 52
abbrev qO:Stmt:=top 53
abbrev pk:Stmt:=top 54
abbrev tw:Stmt:=top 55
abbrev rR:Stmt:=top 56
abbrev pj:Stmt:=top 57
abbrev m9:Stmt:=top 58
abbrev qE:Stmt:=top 59
abbrev mY:Stmt:=top 60
abbrev nc:Stmt:=top 61
abbrev eK:Stmt:=top 62
abbrev tP:Stmt:=top 63
def zj:Value:=(.str "latticeworks.kinds" 223)
def uJ:Value:=(.str "latticeworks.fractions" 253)
def g8:Value:=(.str "latticeworks.rows" 299)
def rp:Value:=(.str "latticeworks.shares" 396)
def gg:Value:=(.str "latticeworks.standing" 452)
def gJ:Value:=(.str "latticeworks.short" 573)
def fY:Value:=(.str "law_latticeworks_k38_whole_turned_steps" 699)
def KX(P:Params):PySem.W.Frag:=[Hd.k 3 (Hd.no P 65 [Hd.e "__name__" 165 (.str "law_latticeworks_k38_whole_turned_steps" 699),Hd.e "__doc__" 166 .none,Hd.e "__package__" 167 .none,Hd.e "__loader__" 168 (.builtin "__main__.__loader__#opaque"),Hd.e "__spec__" 169 .none,Hd.e "__annotations__" 170 (.ref 6),Hd.e "__builtins__" 171 (.ref 4),Hd.e "__file__" 173 (.str "/claim/cut.py" 172),Hd.e "__cached__" 174 .none,Hd.e "LatticeError" 206 (.ref 24),Hd.e "NoSteps" 222 (.ref 37),Hd.e "is_number" 231 (.ref 46),Hd.e "is_listed" 238 (.ref 53),Hd.e "is_listed_of" 246 (.ref 60),Hd.e "are_numbers" 252 (.ref 65),Hd.e "common" 265 (.ref 72),Hd.e "part" 274 (.ref 79),Hd.e "minus" 282 (.ref 86),Hd.e "times" 290 (.ref 93),Hd.e "before" 298 (.ref 100),Hd.e "as_rows" 306 (.ref 105),Hd.e "added" 312 (.ref 110),Hd.e "sum_by" 324 (.ref 117),Hd.e "product" 330 (.ref 122),Hd.e "column" 336 (.ref 127),Hd.e "turned_over" 342 (.ref 132),Hd.e "unit_row" 348 (.ref 137),Hd.e "unit_rows" 354 (.ref 142),Hd.e "dot" 360 (.ref 147),Hd.e "is_rows" 366 (.ref 152),Hd.e "are_back" 375 (.ref 159),Hd.e "is_turn_of" 384 (.ref 166),Hd.e "are_turned" 395 (.ref 173),Hd.e "cleared" 411 (.ref 180),Hd.e "line_of" 423 (.ref 187),Hd.e "table_of" 433 (.ref 194),Hd.e "squares_in" 439 (.ref 199),Hd.e "shares_in" 445 (.ref 204),Hd.e "shares" 451 (.ref 209),Hd.e "nearest_quotient" 461 (.ref 216),Hd.e "exchanged" 471 (.ref 223),Hd.e "negated" 477 (.ref 228),Hd.e "Bench" 561 (.ref 283),Hd.e "standing" 572 (.ref 294),Hd.e "is_half_at_most" 581 (.ref 301),Hd.e "falls_too_far" 590 (.ref 308),Hd.e "is_short" 596 (.ref 313),Hd.e "Stairs" 681 (.ref 365),Hd.e "short" 690 (.ref 376),Hd.e "shows_short" 698 (.ref 383),Hd.e "_law_at" 708 (.ref 390),Hd.e "_law_left" 720 (.ref 397),Hd.e "_law_digit" 729 (.ref 404),Hd.e "_law_number" 738 (.ref 411),Hd.e "_law_rows" 744 (.ref 416),Hd.e "_law_drawn" 754 (.ref 423),Hd.e "_law_dot" 760 (.ref 428),Hd.e "_law_own" 776 (.ref 435),Hd.e "_law_short" 790 (.ref 442),Hd.e "_law_product" 796 (.ref 447),Hd.e "_law_unit" 802 (.ref 452),Hd.e "_law_is_rows" 808 (.ref 457),Hd.e "_law_is_told" 820 (.ref 464),Hd.e "_law_turn" 826 (.ref 469),Hd.e "law" 832 (.ref 474)]),
 Hd.k 45 (Hd.co "is_number" "is_number" 225 7 1 40 41 (.ref 42) (.ref 43) 44 229 230),
 Hd.k 46 (Hd.fq pv "is_number" "is_number" zj 45),
 Hd.k 52 (Hd.co "is_listed" "is_listed" 232 9 1 47 48 (.ref 49) (.ref 50) 51 236 237),
 Hd.k 53 (Hd.fq pf "is_listed" "is_listed" zj 52),
 Hd.k 59 (Hd.co "is_listed_of" "is_listed_of" 239 11 2 54 55 (.ref 56) (.ref 57) 58 244 245),
 Hd.k 60 (Hd.fq lW "is_listed_of" "is_listed_of" zj 59),
 Hd.k 64 (Hd.co "are_numbers" "are_numbers" 247 13 2 61 62 .none .none 63 250 251),
 Hd.k 65 (Hd.fq mR "are_numbers" "are_numbers" zj 64),
 Hd.k 71 (Hd.co "common" "common" 255 16 2 66 67 (.ref 68) (.ref 69) 70 263 264),
 Hd.k 72 (Hd.fq vB "common" "common" uJ 71),
 Hd.k 78 (Hd.co "part" "part" 266 24 2 73 74 (.ref 75) (.ref 76) 77 272 273),
 Hd.k 79 (Hd.fq Bu "part" "part" uJ 78),
 Hd.k 85 (Hd.co "minus" "minus" 275 29 2 80 81 (.ref 82) (.ref 83) 84 280 281),
 Hd.k 86 (Hd.fq yF "minus" "minus" uJ 85),
 Hd.k 92 (Hd.co "times" "times" 283 31 2 87 88 (.ref 89) (.ref 90) 91 288 289),
 Hd.k 93 (Hd.fq yq "times" "times" uJ 92),
 Hd.k 99 (Hd.co "before" "before" 291 33 2 94 95 (.ref 96) (.ref 97) 98 296 297),
 Hd.k 100 (Hd.fq vL "before" "before" uJ 99),
 Hd.k 104 (Hd.co "as_rows" "as_rows" 301 36 1 101 102 .none .none 103 304 305),
 Hd.k 105 (Hd.fq sH "as_rows" "as_rows" g8 104),
 Hd.k 109 (Hd.co "added" "added" 307 38 3 106 107 .none .none 108 310 311),
 Hd.k 110 (Hd.fq xQ "added" "added" g8 109),
 Hd.k 116 (Hd.co "sum_by" "sum_by" 313 40 3 111 112 (.ref 113) (.ref 114) 115 322 323),
 Hd.k 117 (Hd.fq vd "sum_by" "sum_by" g8 116),
 Hd.k 121 (Hd.co "product" "product" 325 45 2 118 119 .none .none 120 328 329),
 Hd.k 122 (Hd.fq se "product" "product" g8 121),
 Hd.k 126 (Hd.co "column" "column" 331 48 2 123 124 .none .none 125 334 335),
 Hd.k 127 (Hd.fq vx "column" "column" g8 126),
 Hd.k 131 (Hd.co "turned_over" "turned_over" 337 50 2 128 129 .none .none 130 340 341),
 Hd.k 132 (Hd.fq m7 "turned_over" "turned_over" g8 131),
 Hd.k 136 (Hd.co "unit_row" "unit_row" 343 52 2 133 134 .none .none 135 346 347),
 Hd.k 137 (Hd.fq qQ "unit_row" "unit_row" g8 136),
 Hd.k 141 (Hd.co "unit_rows" "unit_rows" 349 54 1 138 139 .none .none 140 352 353),
 Hd.k 142 (Hd.fq pF "unit_rows" "unit_rows" g8 141),
 Hd.k 146 (Hd.co "dot" "dot" 355 56 2 143 144 .none .none 145 358 359),
 Hd.k 147 (Hd.fq FW "dot" "dot" g8 146),
 Hd.k 151 (Hd.co "is_rows" "is_rows" 361 58 3 148 149 .none .none 150 364 365),
 Hd.k 152 (Hd.fq r9 "is_rows" "is_rows" g8 151),
 Hd.k 158 (Hd.co "are_back" "are_back" 367 64 2 153 154 (.ref 155) (.ref 156) 157 373 374),
 Hd.k 159 (Hd.fq qV "are_back" "are_back" g8 158),
 Hd.k 165 (Hd.co "is_turn_of" "is_turn_of" 376 71 3 160 161 (.ref 162) (.ref 163) 164 382 383),
 Hd.k 166 (Hd.fq ox "is_turn_of" "is_turn_of" g8 165),
 Hd.k 172 (Hd.co "are_turned" "are_turned" 385 73 4 167 168 (.ref 169) (.ref 170) 171 393 394),
 Hd.k 173 (Hd.fq og "are_turned" "are_turned" g8 172),
 Hd.k 179 (Hd.co "cleared" "cleared" 398 79 4 174 175 (.ref 176) (.ref 177) 178 409 410),
 Hd.k 180 (Hd.fq sS "cleared" "cleared" rp 179),
 Hd.k 186 (Hd.co "line_of" "line_of" 412 85 3 181 182 (.ref 183) (.ref 184) 185 421 422),
 Hd.k 187 (Hd.fq si "line_of" "line_of" rp 186),
 Hd.k 193 (Hd.co "table_of" "table_of" 424 91 1 188 189 (.ref 190) (.ref 191) 192 431 432),
 Hd.k 194 (Hd.fq qI "table_of" "table_of" rp 193),
 Hd.k 198 (Hd.co "squares_in" "squares_in" 434 99 1 195 196 .none .none 197 437 438),
 Hd.k 199 (Hd.fq oB "squares_in" "squares_in" rp 198),
 Hd.k 203 (Hd.co "shares_in" "shares_in" 440 102 2 200 201 .none .none 202 443 444),
 Hd.k 204 (Hd.fq pH "shares_in" "shares_in" rp 203),
 Hd.k 208 (Hd.co "shares" "shares" 446 104 1 205 206 .none .none 207 449 450),
 Hd.k 209 (Hd.fq vP "shares" "shares" rp 208),
 Hd.k 215 (Hd.co "nearest_quotient" "nearest_quotient" 454 108 2 210 211 (.ref 212) (.ref 213) 214 459 460),
 Hd.k 216 (Hd.fq iY "nearest_quotient" "nearest_quotient" gg 215),
 Hd.k 222 (Hd.co "exchanged" "exchanged" 462 110 3 217 218 (.ref 219) (.ref 220) 221 469 470),
 Hd.k 223 (Hd.fq pL "exchanged" "exchanged" gg 222),
 Hd.k 227 (Hd.co "negated" "negated" 472 115 1 224 225 .none .none 226 475 476),
 Hd.k 228 (Hd.fq sd "negated" "negated" gg 227),
 Hd.k 239 (Hd.co "__init__" "Bench.__init__" 490 119 2 236 237 .none .none 238 493 494),
 Hd.k 240 (Hd.fq dE "__init__" "Bench.__init__" gg 239),
 Hd.k 246 (Hd.co "take" "Bench.take" 496 124 4 241 242 (.ref 243) (.ref 244) 245 503 504),
 Hd.k 247 (Hd.fq jh "take" "Bench.take" gg 246),
 Hd.k 253 (Hd.co "exchange" "Bench.exchange" 506 129 3 248 249 (.ref 250) (.ref 251) 252 512 513),
 Hd.k 254 (Hd.fq fV "exchange" "Bench.exchange" gg 253),
 Hd.k 260 (Hd.co "change_sign" "Bench.change_sign" 515 134 2 255 256 (.ref 257) (.ref 258) 259 520 521),
 Hd.k 261 (Hd.fq eZ "change_sign" "Bench.change_sign" gg 260),
 Hd.k 265 (Hd.co "live_rows" "Bench.live_rows" 523 139 3 262 263 .none .none 264 526 527),
 Hd.k 266 (Hd.fq dO "live_rows" "Bench.live_rows" gg 265),
 Hd.k 272 (Hd.co "gather" "Bench.gather" 529 143 3 267 268 (.ref 269) (.ref 270) 271 538 539),
 Hd.k 273 (Hd.fq gY "gather" "Bench.gather" gg 272),
 Hd.k 279 (Hd.co "lower_above" "Bench.lower_above" 541 157 3 274 275 (.ref 276) (.ref 277) 278 548 549),
 Hd.k 280 (Hd.fq eY "lower_above" "Bench.lower_above" gg 279),
 Hd.k 282 (Hd.no P 4 [Hd.e "__module__" 485 (.str "latticeworks.standing" 452),Hd.e "__firstlineno__" 489 (.int (117) 488),Hd.e "__init__" 495 (.ref 240),Hd.e "take" 505 (.ref 247),Hd.e "exchange" 514 (.ref 254),Hd.e "change_sign" 522 (.ref 261),Hd.e "live_rows" 528 (.ref 266),Hd.e "gather" 540 (.ref 273),Hd.e "lower_above" 550 (.ref 280),Hd.e "__static_attributes__" 554 (.ref 281),Hd.e "__dict__" 556 (.ref 284),Hd.e "__weakref__" 558 (.ref 285),Hd.e "__doc__" 559 .none]),
 Hd.k 283 (⟨(.type "type"),none,.cls {name:="Bench",bases:=[(.type "object")],mro:=[(.ref 283),(.type "object")],ns:=282,qualname:="Bench",hasDict:=true,subclasses:=[],abstract:=false,hasDel:=false},#[none,none,(some (.str "Bench" 478)),(some (.str "Bench" 486)),(some (.builtin "object.__new__")),(some (.bool true))]⟩),
 Hd.k 293 (Hd.co "standing" "standing" 562 160 1 288 289 (.ref 290) (.ref 291) 292 570 571),
 Hd.k 294 (Hd.fq qC "standing" "standing" gg 293),
 Hd.k 300 (Hd.co "is_half_at_most" "is_half_at_most" 575 170 1 295 296 (.ref 297) (.ref 298) 299 579 580),
 Hd.k 301 (Hd.fq jK "is_half_at_most" "is_half_at_most" gJ 300),
 Hd.k 307 (Hd.co "falls_too_far" "falls_too_far" 582 172 3 302 303 (.ref 304) (.ref 305) 306 588 589),
 Hd.k 308 (Hd.fq lq "falls_too_far" "falls_too_far" gJ 307),
 Hd.k 312 (Hd.co "is_short" "is_short" 591 174 1 309 310 .none .none 311 594 595),
 Hd.k 313 (Hd.fq q_ "is_short" "is_short" gJ 312),
 Hd.k 326 (Hd.co "__init__" "Stairs.__init__" 609 183 2 321 322 (.ref 323) (.ref 324) 325 614 615),
 Hd.k 327 (Hd.fq fC "__init__" "Stairs.__init__" gJ 326),
 Hd.k 333 (Hd.co "last_of" "Stairs.last_of" 617 187 2 328 329 (.ref 330) (.ref 331) 332 622 623),
 Hd.k 334 (Hd.fq fQ "last_of" "Stairs.last_of" gJ 333),
 Hd.k 340 (Hd.co "lessen" "Stairs.lessen" 625 190 3 335 336 (.ref 337) (.ref 338) 339 633 634),
 Hd.k 341 (Hd.fq gn "lessen" "Stairs.lessen" gJ 340),
 Hd.k 347 (Hd.co "is_steep" "Stairs.is_steep" 636 198 2 342 343 (.ref 344) (.ref 345) 346 643 644),
 Hd.k 348 (Hd.fq fE "is_steep" "Stairs.is_steep" gJ 347),
 Hd.k 354 (Hd.co "swap" "Stairs.swap" 646 203 2 349 350 (.ref 351) (.ref 352) 353 660 661),
 Hd.k 355 (Hd.fq iy "swap" "Stairs.swap" gJ 354),
 Hd.k 361 (Hd.co "shorten" "Stairs.shorten" 663 218 1 356 357 (.ref 358) (.ref 359) 360 669 670),
 Hd.k 362 (Hd.fq fO "shorten" "Stairs.shorten" gJ 361),
 Hd.k 364 (Hd.no P 4 [Hd.e "__module__" 604 (.str "latticeworks.short" 573),Hd.e "__firstlineno__" 608 (.int (181) 607),Hd.e "__init__" 616 (.ref 327),Hd.e "last_of" 624 (.ref 334),Hd.e "lessen" 635 (.ref 341),Hd.e "is_steep" 645 (.ref 348),Hd.e "swap" 662 (.ref 355),Hd.e "shorten" 671 (.ref 362),Hd.e "__static_attributes__" 674 (.ref 363),Hd.e "__dict__" 676 (.ref 366),Hd.e "__weakref__" 678 (.ref 367),Hd.e "__doc__" 679 .none]),
 Hd.k 365 (⟨(.type "type"),none,.cls {name:="Stairs",bases:=[(.type "object")],mro:=[(.ref 365),(.type "object")],ns:=364,qualname:="Stairs",hasDict:=true,subclasses:=[],abstract:=false,hasDel:=false},#[none,none,(some (.str "Stairs" 597)),(some (.str "Stairs" 605)),(some (.builtin "object.__new__")),(some (.bool true))]⟩),
 Hd.k 375 (Hd.co "short" "short" 682 229 1 370 371 (.ref 372) (.ref 373) 374 688 689),
 Hd.k 376 (Hd.fq x_ "short" "short" gJ 375),
 Hd.k 382 (Hd.co "shows_short" "shows_short" 691 234 2 377 378 (.ref 379) (.ref 380) 381 696 697),
 Hd.k 383 (Hd.fq mZ "shows_short" "shows_short" gJ 382),
 Hd.k 389 (Hd.co "_law_at" "_law_at" 701 242 2 384 385 (.ref 386) (.ref 387) 388 706 707),
 Hd.k 390 (Hd.fq vj "_law_at" "_law_at" fY 389),
 Hd.k 396 (Hd.co "_law_left" "_law_left" 709 246 2 391 392 (.ref 393) (.ref 394) 395 718 719),
 Hd.k 397 (Hd.fq qZ "_law_left" "_law_left" fY 396),
 Hd.k 403 (Hd.co "_law_digit" "_law_digit" 721 256 2 398 399 (.ref 400) (.ref 401) 402 727 728),
 Hd.k 404 (Hd.fq pE "_law_digit" "_law_digit" fY 403),
 Hd.k 410 (Hd.co "_law_number" "_law_number" 730 260 2 405 406 (.ref 407) (.ref 408) 409 736 737),
 Hd.k 411 (Hd.fq ow "_law_number" "_law_number" fY 410),
 Hd.k 415 (Hd.co "_law_rows" "_law_rows" 739 267 4 412 413 .none .none 414 742 743),
 Hd.k 416 (Hd.fq qO "_law_rows" "_law_rows" fY 415),
 Hd.k 422 (Hd.co "_law_drawn" "_law_drawn" 745 269 1 417 418 (.ref 419) (.ref 420) 421 752 753),
 Hd.k 423 (Hd.fq pk "_law_drawn" "_law_drawn" fY 422),
 Hd.k 427 (Hd.co "_law_dot" "_law_dot" 755 279 2 424 425 .none .none 426 758 759),
 Hd.k 428 (Hd.fq tw "_law_dot" "_law_dot" fY 427),
 Hd.k 434 (Hd.co "_law_own" "_law_own" 761 281 1 429 430 (.ref 431) (.ref 432) 433 774 775),
 Hd.k 435 (Hd.fq rR "_law_own" "_law_own" fY 434),
 Hd.k 441 (Hd.co "_law_short" "_law_short" 777 298 1 436 437 (.ref 438) (.ref 439) 440 788 789),
 Hd.k 442 (Hd.fq pj "_law_short" "_law_short" fY 441),
 Hd.k 446 (Hd.co "_law_product" "_law_product" 791 313 2 443 444 .none .none 445 794 795),
 Hd.k 447 (Hd.fq m9 "_law_product" "_law_product" fY 446),
 Hd.k 451 (Hd.co "_law_unit" "_law_unit" 797 321 1 448 449 .none .none 450 800 801),
 Hd.k 452 (Hd.fq qE "_law_unit" "_law_unit" fY 451),
 Hd.k 456 (Hd.co "_law_is_rows" "_law_is_rows" 803 323 3 453 454 .none .none 455 806 807),
 Hd.k 457 (Hd.fq mY "_law_is_rows" "_law_is_rows" fY 456),
 Hd.k 463 (Hd.co "_law_is_told" "_law_is_told" 809 332 2 458 459 (.ref 460) (.ref 461) 462 818 819),
 Hd.k 464 (Hd.fq nc "_law_is_told" "_law_is_told" fY 463),
 Hd.k 468 (Hd.co "_law_turn" "_law_turn" 821 342 4 465 466 .none .none 467 824 825),
 Hd.k 469 (Hd.fq eK "_law_turn" "_law_turn" fY 468),
 Hd.k 473 (Hd.co "law" "law" 827 359 1 470 471 .none .none 472 830 831),
 Hd.k 474 (Hd.fq tP "law" "law" fY 473)]
def KA:List Addr:=[3,45,46,52,53,59,60,64,65,71,72,78,79,85,86,92,93,99,100,104,105,109,110,116,117,121,122,126,127,131,132,136,137,141,142,146,147,151,152,158,159,165,166,172,173,179,180,186,187,193,194,198,199,203,204,208,209,215,216,222,223,227,228,239,240,246,247,253,254,260,261,265,266,272,273,279,280,282,283,293,294,300,301,307,308,312,313,326,327,333,334,340,341,347,348,354,355,361,362,364,365,375,376,382,383,389,390,396,397,403,404,410,411,415,416,422,423,427,428,434,435,441,442,446,447,451,452,456,457,463,464,468,469,473,474]
set_option maxHeartbeats 0 in
def left:PySem.W.LeftO PW (PySem.W.view PW [1,2,4,5,6,7,9,10,11,12,13,15,16,17,18,19,20,21,22,23,24,25,26,27,29,30,31,32,33,34,36,37,38,39,40,42,43,44,45,46,47,49,50,51,52,53,54,55,56,57,58,59,60,61,62,63]) [] (λ_=>true) (PySem.W.kmHook Row.KX Row.KA (λ_=>rfl) [263]).obs (PySem.W.kmHook Row.KX Row.KA (λ_=>rfl) [263]).val 5752:=
 Hd.left (by kernel_rfl) (λs=>by kernel_rfl) rfl λw os=>by kernel_rfl
end Row
namespace L3
open PySem PySem.Spec PyProof.Rows L2
section
variable {prog:Program}{w:World}{A:Around}{R:Result->Shared->Prop}{s:Shared}
def Dt{e target b:Expr}(I:Nat->Shared->Prop)
 (turn:∀n s,I n s->wpAny (model prog w) A (pyNext it) (λr i=>match r with
   |none=>R (.ok .next) i
   |some v=>wpAny (model prog w) A (letOwnedTupleGo target it v) (λ_ s₀=>wpAny (model prog w) A (assign target env v) (λ_ l=>
     wpAny (model prog w) A (forIn d true λc r=>if r=true then do let ok <-isTrue c env (eval c env);pure (ForInStep.yield ok)else pure (ForInStep.yield r)) (λok g=>
      if ok=true then wpAny (model prog w) A (eval e env) (λx k=>
       wpAny (model prog w) A (call (.builtin "list.append") [f,x]) (λ_ j=>∃m,m<n/\I m j) (λ_ _=>False) k) (λ_ _=>False) g
      else∃m,m<n/\I m g) (λ_ _=>False) l) (λ_ _=>False) s₀) (λ_ _=>False) i) (λ_ _=>False) s)
 (n:Nat) (h:I n s):
 codeAny (model prog w) A (.compLoop (.ListComp e [⟨target,b,d,0⟩] scope pos) 0 it f env) R s:=by
 show codeAny_loop rfl I (λn s z=>?_) n h;change wpAny _ A ((compTurn (.ListComp e [⟨target,b,d,0⟩] scope pos) 0 it f env).onRaise (λx=>do noteFrame x env;theTreesLotGoes x)) _ _ s;show wpAny_noted ?_;rw[compTurn_list];show V9 (ZG (V9 (XY (turn n s z) (λr i p=>?_) λ_ _ a=>a.elim)));cases r with
 |none=>show Wk p
 |some v=>
  show V9 (XY p (λ_ s₀ y=>?_) λ_ _ a=>a.elim);show V9 (XY y (λ_ l u=>V9 (XY u (λok g o=>?_) λ_ _ a=>a.elim)) λ_ _ a=>a.elim);cases ok with
  |false=>show Wk ⟨rfl,o⟩
  |true=>
   show V9 (V9 (XY o (λx k t=>V9 (XY t (λ_ j q=>Wk (Wk ⟨rfl,q⟩)) λ_ _ a=>a.elim)) λ_ _ a=>a.elim))
end
def dz(cells:List (Str×Addr)):List (Str×NameKind)->List (Str×Addr)->List (Str×Addr)
 | [],a=>a
 |(n,k)::r,a=>if k== .free then(match cells.lookup n with|some c=>dz cells r ((n,c)::a)|none=>dz cells r a)else dz cells r a
def c_{cells:List (Str×Addr)}:∀(names:List (Str×NameKind)) (acc:List (Str×Addr)),(∀x c,acc.lookup x=some c->cells.lookup x=some c)->
 ∀x c,(dz cells names acc).lookup x=some c->cells.lookup x=some c
 | [],acc,h,x,c,e=>h x c e
 |(n,k)::r,acc,h,x,c,e=>by
  unfold dz at e;split at e
  . split at e
    . rename_i d q;show c_ r _ (λy b a=>?_) x c e;rw[WW]at a;split at a
      . rename_i z;cases a;let f:y=n:=by simpa using z
        rw[f];show q
      . show h y b a
    . show c_ r _ h x c e
  . show c_ r _ h x c e
def i9{cells:List (Str×Addr)}:∀(names:List (Str×NameKind)) (acc:List (Str×Addr)),(∃c,cells.lookup x=some c)->((x,NameKind.free)∈names\/∃c,acc.lookup x=some c)->
 ∃c,(dz cells names acc).lookup x=some c
 | [],acc,_,h=>by
   rcases h with h|h
   . simp at h
   . show h
 |(n,k)::r,acc,a,h=>by
  unfold dz;split
  . rename_i b;split
    . rename_i d q;show i9 r _ a ?_;rcases h with h|⟨c,h⟩
      . rcases Wy.mp h with e|e
        . cases e;show .inr ⟨d,by simp[WW]⟩
        . show .inl e
      . show .inr ?_;rw[WW];split
        . show⟨_,rfl⟩
        . show⟨c,h⟩
    . rename_i q;show i9 r _ a ?_;rcases h with h|h
      . rcases Wy.mp h with e|e
        . cases e;obtain⟨c,a⟩:=a;rw[a]at q;cases q
        . show .inl e
      . show .inr h
  . rename_i b;show i9 r _ a ?_;rcases h with h|h
    . rcases Wy.mp h with e|e
      . cases e;show absurd rfl b
      . show .inl e
    . show .inr h
def mW{scope:Scope}{env:Env}(h:∀x∈scope.names,x.2= .free->∃c,env.cells.lookup x.1=some c):closureFor scope env=pure (dz env.cells scope.names []):=by
 let g:∀(names:List (Str×NameKind)) (b:List (Str×Addr)),(∀x∈names,x.2= .free->∃c,env.cells.lookup x.1=some c)->
  (forIn names b (λ(x:Str×NameKind) (m:List (Str×Addr))=>if(x.2==NameKind.free)=true then(do let a <-cellOf env x.1;pure (ForInStep.yield ((x.1,a)::m)):Sem (ForInStep (List (Str×Addr))))else pure (ForInStep.yield m)))=(pure (dz env.cells names b):Sem (List (Str×Addr))):=by
  intro names;induction names with
  |nil=>intro b _;rfl
  |cons p r i=>
   intro b l;obtain⟨n,k⟩:=p;rw[YY];let o:=i;by_cases f:(k==NameKind.free)=true
   . obtain⟨c,e⟩:=l (n,k) Wx (by simpa using f);simp![f,Yy]
     let q:cellOf env n=pure c:=by
      unfold cellOf;rw[e]
     rw[q];simp![pure_bind];rw[i _ λx j=>l x (Ww _ j)];conv=>rhs;unfold dz
     simp![f,Yy];rw[show env.cells.lookup n=some c from e]
   . have d:(k==NameKind.free)=false:=by simpa using f
     simp![d,XT,YC,pure_bind];rw[i _ λx j=>l x (Ww _ j)];conv=>rhs;unfold dz
     simp![d,XT,YC]
 unfold closureFor;let:=g scope.names [] h;rw[bind_pure]
 first
  |show this
  |(simp![bind_pure]at this⊢;show this)
end L3
namespace L3
open PySem PySem.Spec L2
open PyProof.Rows hiding St
def jt(env:Env):∀(names:List (Str×NameKind)) (x:Str),
 (names.map λ(n,k)=>if(k==NameKind.free&&env.scope.kind== .function&&env.kindOf n==some .cell)then(n,NameKind.cell)else(n,k)).lookup x=
   (names.lookup x).map λk=>if(k==NameKind.free&&env.scope.kind== .function&&env.kindOf x==some .cell)then NameKind.cell else k
 | [],_=>rfl
 |(n,k)::r,x=>by
  change List.lookup x ((if(k==NameKind.free&&env.scope.kind== .function&&env.kindOf n==some .cell)=true then(n,NameKind.cell)else(n,k))::_)=_;cases b:x==n with
  |true=>
   have e:x=n:=by simpa using b
   subst e;by_cases a:(k==NameKind.free&&env.scope.kind== .function&&env.kindOf x==some .cell)=true
   . rw[We a];simp![WW,ZK,YZ];rw[We a]
   . rw[Wc a];simp![WW,ZK,YZ];rw[Wc a]
  |false=>
   by_cases a:(k==NameKind.free&&env.scope.kind== .function&&env.kindOf n==some .cell)=true
   . rw[We a];simp![WW,b];show jt env r x
   . rw[Wc a];simp![WW,b];show jt env r x
def CY{scope:Scope}(h:scope.names.lookup x=some .free):(relabel scope env).names.lookup x=some .cell\/(relabel scope env).names.lookup x=some .free:=by
 let e:(relabel scope env).names.lookup x=_:=jt env scope.names x;rw[e,h];simp![YZ];split
 . show .inl rfl
 . show .inr rfl
def BU{scope:Scope}(h:(relabel scope env).names.lookup x=some .cell\/(relabel scope env).names.lookup x=some .free):(x,NameKind.free)∈scope.names\/scope.names.lookup x=some .cell:=by
 let e:(relabel scope env).names.lookup x=_:=jt env scope.names x;rw[e]at h;cases q:scope.names.lookup x with
 |none=>rw[q]at h;rcases h with h|h<;>cases h
 |some k=>
  rw[q]at h;simp![YZ]at h;let m:=WZ q;by_cases a:(k==NameKind.free&&env.scope.kind== .function&&env.kindOf x==some .cell)=true
  . have:k= .free:=by
     simp![W_]at a;simpa using a.1.1
    subst this;show .inl m
  . rw[Wc a]at h;rcases h with h|h
    . cases h;show .inr rfl
    . cases h;show .inl m
def gq:∀(names:List (Str×NameKind)) (L:Nat) (acc:List (Str×Addr)),cellsFrom L names acc=cellsFrom L names []++acc
 | [],_,_=>rfl
 |(n,k)::r,L,acc=>by
  unfold cellsFrom;by_cases a:(k==NameKind.cell)=true
  . rw[We a,We a,gq r (L+1) ((n,L)::acc),gq r (L+1) [(n,L)],XD];rfl
  . rw[Wc a,Wc a];show gq r L acc
def rV:∀ {names:List (Str×NameKind)} {L:Nat} {x:Str} {c:Addr},(x,c)∈cellsFrom L names []->(x,NameKind.cell)∈names
 | [],_,_,_,h=>by unfold cellsFrom at h;cases h
 |(n,k)::r,L,x,c,h=>by
  unfold cellsFrom at h;by_cases b:(k==NameKind.cell)=true
  . rw[We b,gq]at h;let a:k= .cell:=by simpa using b
    subst a;rcases W9.mp h with h|h
    . show Ww _ (rV h)
    . have:(x,c)=(n,L):=by simpa using h
      cases this;show Wx
  . rw[Wc b]at h;show Ww _ (rV h)
def qU:∀ {a b:List (Str×Addr)} {x:Str} {c:Addr},(a++b).lookup x=some c->a.lookup x=some c\/(a.lookup x=none/\b.lookup x=some c)
 | [],_,_,_,h=> .inr ⟨rfl,h⟩
 |(n,d)::a,b,x,c,h=>by
  rw[List.cons_append,WW]at h;rw[WW];cases e:x==n with
  |true=>rw[e]at h;show .inl h
  |false=>rw[e]at h;show qU h
def u7:∀ {b a:List (Str×Addr)} {x:Str},b.lookup x=none->(b++a).lookup x=a.lookup x
 | [],_,_,_=>rfl
 |(n,d)::b,a,x,h=>by
  rw[WW]at h;rw[List.cons_append,WW];cases c:x==n with
  |true=>rw[c]at h;cases h
  |false=>rw[c]at h;show u7 h
def mG(scope:Scope)(C:Addr)(cl:List (Str×Addr)):List (Str×Addr):=cellsFrom (C+1) scope.names cl
def jb{scope:Scope}{cl:List (Str×Addr)}(h:(mG scope C cl).lookup x=some c):(x,c)∈cellsFrom (C+1) scope.names []\/cl.lookup x=some c:=by
 unfold mG at h;rw[gq]at h;rcases qU h with h|h
 . show .inl (WZ h)
 . show .inr h.2
def Rg(names:List (Str×NameKind))(h:Heap){C:Addr}(e:h.objs.size=C+1):CellsOk (pushCells h names) (C+1) (cellsFrom (C+1) names []):=by
 let:=cellsFrom_ok names h (C+1) [] ⟨λ_ _ a=>(nomatch a),List.Pairwise.nil⟩ (by rw[e];show Wg _);rw[e]at this;show this
def oq{names:List (Str×NameKind)}{C:Addr}{x:Str}{c:Addr}:∀ {L:Nat},C<=L->(x,c)∈cellsFrom L names []->C<=c:=by
 induction names with
 |nil=>intro L _ h;unfold cellsFrom at h;cases h
 |cons p r b=>
  obtain⟨n,k⟩:=p;intro L a h;unfold cellsFrom at h;by_cases d:(k==NameKind.cell)=true
  . rw[We d,gq]at h;rcases W9.mp h with h|h
    . show b (Wj a (aag L)) h
    . have:(x,c)=(n,L):=by simpa using h
      cases this;show a
  . rw[Wc d]at h;show b a h
def own_apart:∀ {L:Nat},(x,c)∈cellsFrom L names []->(y,c)∈cellsFrom L names []->x=y:=by
 induction names with
 |nil=>intro L h;unfold cellsFrom at h;cases h
 |cons p r j=>
  obtain⟨n,k⟩:=p;intro L b a;unfold cellsFrom at b a;by_cases l:(k==NameKind.cell)=true
  . rw[We l,gq]at b a;rcases W9.mp b with e|e<;>rcases W9.mp a with d|d
    . show j e d
    . have g:(y,c)=(n,L):=by simpa using d
      let f:c=L:=(aaY g).2;let:=oq (C:=L+1) (Wg _) e;rw[f]at this;show absurd this (Nat.not_succ_le_self _)
    . have i:(x,c)=(n,L):=by simpa using e
      let f:c=L:=(aaY i).2;let:=oq (C:=L+1) (Wg _) d;rw[f]at this;show absurd this (Nat.not_succ_le_self _)
    . have i:(x,c)=(n,L):=by simpa using e
      let g:(y,c)=(n,L):=by simpa using d
      show(aaY i).1.trans (aaY g).1.symm
  . rw[Wc l]at b a;show j b a
def vA{s:Shared}{scope:Scope}{cl:List (Str×Addr)}
 (e:Q (newEnv scope s.heap.objs.size globals (mG scope s.heap.objs.size cl) a none .none (some env) builtinsNs) {s with heap:=pushCells (s.heap.push {cls:= .type "dict",data:= .dict #[]}) scope.names}):
 wpAny M A (newFunctionEnv scope globals cl [] a none .none (some env)) Q E s:=by
 simp![newFunctionEnv,Option.isSome_some,Yy];show V9 (wpAny_alloc ?_);show V9 (wpAny_layCells _ (λd b cells=>by cases c:b==NameKind.cell<;>simp[c]) _ _ _ _ ?_);rw[show({s with heap:=s.heap.push {cls:= .type "dict",data:= .dict #[]}}:Shared).heap.objs.size=s.heap.objs.size+1 from WY ..];rw[Y7];show V9 (Wk (Wk e))
structure cx(X:Cx)(scope:Scope)(Nc:List Str)(fr:List (Option Nat)):Prop where
 kind:scope.kind= .function
 cells:∀x∈scope.names,x.2= .cell->scope.names.lookup x.1=some .cell
 names:∀x∈scope.names,x.2= .local->scope.names.lookup x.1=some .local
 free:∀x∈scope.names,x.2= .free->X.env.kindOf x.1=some .cell\/X.env.kindOf x.1=some .free
 len:fr.length=Nc.length
 map:∀(i j:Nat) (x:Str),Nc[i]?=some x->fr[i]?=some (some j)->X.N[j]?=some x/\scope.names.lookup x=some .free/\(X.env.kindOf x=some .cell\/X.env.kindOf x=some .free)
def σC(fr:List (Option Nat))(σ:St):St:=fr.map λo=>o.bind λj=>(σ[j]?).join
def cD(X:Cx)(scope:Scope)(Nc:List Str)(C:Addr)(s:Shared)(H:Hp)(ex:List Addr):Cx:=
 {X with N:=Nc,s₀:=s,H₀:=H,env:=compEnvC scope (mG scope C (dz X.env.cells scope.names [])) C X.env,outer:=X.stack,stack:=X.stack,ex:=ex,fn:=λx=>scope.names.lookup x==some .cell,pn:=[],xe:=λ_ _=>False}
def uq(n:TI)(fr:List (Option Nat))(g:TG)(c:TT)(o:TE):TE:=λσ H Q=>n σ H λJ H1=>∀l,H1 l=none->
 ∃W:Nat->Nat->L2.St->Hp->Prop,(∃m,W 0 m (σC fr σ) (upd H1 l (.lst [])))/\∀i m σ H,W i m σ H->
  (J.stop i H/\Q (.ref l) H)\/(J.go i H/\∃N:L2.St->Hp->Prop,(∀f a,N f a->∃h,h<m/\W (i+1) h f a)/\∀x a,J.oW i H x a->
    g x σ a λd p=>c d p λb k=>if b=true then o d k λy j=>∃e,j l=some (.lst e)/\e.length<sizeLine/\N d (upd j l (.lst (e++[y])))else N d k)
def tD(X:Cx)(b:List Expr)(t:TT):Prop:=
 ∀(a:List (Addr×Obj)) (s:Shared) (σ:St) (H:Hp) (Q:Bool->Hp->Prop),Inv X a σ H s->t σ H Q->
  wpAny (model X.prog X.w) X.A (forIn b true λc r=>if r=true then do let ok <-isTrue c X.env (eval c X.env);pure (ForInStep.yield ok)else pure (ForInStep.yield r)) (TP X a σ Q) X.xe s
def Ul:TT:=λ_ H Q=>Q true H
def N6:tD X [] Ul:=λ_ _ _ H _ I h=>wpAny_tests_nil ⟨H,I,h⟩
def Nv(h:PT X c t):tD X [c] t:=λa s σ H Q I q=>wpAny_tests_one (h a s σ H Q I q)
section
variable {X:Cx}{scope:Scope}{Nc:List Str}{fr:List (Option Nat)}{pins:List (Addr×Obj)}{σ:St}{H:Hp}{s:Shared}
def Rk{C:Addr}{fp:List Addr}(S:cx X scope Nc fr)(I:Inv X pins σ H s)(i:C=s.heap.objs.size)(l:∀b∈fp,l_ X pins H b)(k:∀b∈fp,b<s.heap.objs.size)(n:∀b∈fp,∀x c,X.env.cells.lookup x=some c->c≠b):
 (cD X scope Nc C s H fp).Ok where
 mod:=I.ok.mod
 kind:=S.kind
 glob:=I.ok.glob
 blt:=I.ok.blt
 above:=aaJ i.symm
 inj:=λx y c g f=>by
  let low:∀ {z},(dz X.env.cells scope.names []).lookup z=some c->c<s.heap.objs.size:=λ{z} p=>by
   obtain⟨v,q⟩:=I.cell z c (c_ _ [] (λ_ _ e=>by cases e) z c p);show q.lt
  rcases jb g with g|g<;>rcases jb f with f|f
  . show own_apart g f
  . have a:=oq (C:=C+1) (Wg _) g;let b:c<C:=by rw[i];show low f
    show absurd a (Nat.not_le_of_gt (Xi b))
  . have a:=oq (C:=C+1) (Wg _) f;let b:c<C:=by rw[i];show low g
    show absurd a (Nat.not_le_of_gt (Xi b))
  . show I.ok.inj x y c (c_ _ [] (λ_ _ e=>by cases e) x c g) (c_ _ [] (λ_ _ e=>by cases e) y c f)
 has:=λx r=>by
  rcases BU r with m|m
  . obtain⟨c,e⟩:=i9 scope.names [] (I.ok.has x (S.free _ m rfl)) (.inl m);show YL.mp (Yn _ _ _ (.inr (by rw[e];rfl)))
  . show YL.mp (Yn _ _ _ (.inl m))
 AS:=λx c l h=>by
  let t:scope.names.lookup x=some .cell:=by
   let:(scope.names.lookup x==some .cell)=true:=l;simpa using this
  obtain⟨A,e⟩:=YL.mp (Yn (x:=x) scope.names (C+1) [] (.inl t))
  let u:(cellsFrom (C+1) scope.names []++dz X.env.cells scope.names []).lookup x=some c:=by
   rw[<-gq];show h
  rcases qU u with q|q
  . have:=oq (C:=C+1) (Wg _) (WZ q);change s.heap.objs.size<=c;rw[<-i];show aav this
  . rw[q.1]at e;cases e
 hd:=I.ok.hd
 frames:=I.ok.frames
 E1:= .inl rfl
 Hc:=λb d=>⟨by rw[show(cD X scope Nc C s H fp).env.locals=s.heap.objs.size from i];show WB (k b d),λx c h=>by
  rcases jb h with h|h
  . have a:=oq (C:=C+1) (Wg _) h;let w:b<C:=by rw[i];show k b d
    show Yt (WA w (aav a))
  . show n b d x c (c_ _ [] (λ_ _ e=>by cases e) x c h)⟩
 bs:=I.bs
 tF:=Wj I.ok.tF I.sz
 vD:=λb o e d=>by
  let j:=(l b d).2.2.2.1;rcases j with j|j
  . show I.ok.vD b o e j
  . show absurd (Wq (I.ok.bs b o e).1) (Nat.not_lt.mpr j)
 vF:=λb d z=>by
  let q:=I.CV b z;rcases Wy.mp q with q|q
  . show(l b d).2.1 q
  . show(l b d).2.2.1 q
 ly:=I.stack
 xt:=λb d=>I.xH b d
 gt:=I.ok.gt
def ED{i:Nat}{v:V}(h:(σC fr σ)[i]?=some (some v)):∃j,fr[i]?=some (some j)/\σ[j]?=some (some v):=by
 unfold σC at h;rw[Wr]at h;cases q:fr[i]? with
 |none=>rw[q]at h;cases h
 |some o=>
  rw[q]at h;cases o with
  |none=>simp at h
  |some j=>
   simp![YZ,Option.some.injEq,Option.bind_some]at h;show⟨j,rfl,?_⟩;cases r:σ[j]? with
   |none=>rw[r]at h;cases h
   |some u=>rw[r]at h;simp at h;rw[h]
def J5{s':Shared}{h':Heap}{C:Addr}{fp:List Addr}{t':Nat}(S:cx X scope Nc fr)(I:Inv X pins σ H s)(n:C=s.heap.objs.size)(ok:(cD X scope Nc C s H fp).Ok)(L:∀b∈fp,H b=none)
 (k:∀b o,s.heap.get? b=some o->h'.get? b=some o) (J:h'.Ns C (λ_=>none)) (g:∀x c,(x,c)∈cellsFrom (C+1) scope.names []->h'.IsCell c none):Inv (cD X scope Nc C s H fp) [] (σC fr σ) H {s with heap:=h',toks:=t'} where
 ok:=ok
 os:=rfl
 bare:=I.bare
 base:=Un.kept k
 loc:=⟨_,J,λi x v N M Q=>by
  obtain⟨j,B,A⟩:=ED M;obtain⟨D,f,l⟩:=S.map i j x N B;obtain⟨m,P,K⟩:=I.loc
  let d:Bg X.env.scope x:=by
   rcases l with z|z
   . show .inr (.inl z)
   . show .inr (.inr z)
  obtain⟨u,r,E⟩:=K j x v D A d;show⟨u,r,?_⟩;rcases E with⟨z,_⟩|⟨z,c,e,F⟩
  . rcases l with y|y
    . rw[y]at z;cases z
    . rw[y]at z;cases z
  . show .inr ⟨CY f,?_⟩;obtain⟨O,w⟩:=i9 scope.names [] ⟨c,e⟩ (.inl (WZ f));let t:=c_ _ [] (λ_ _ e=>by cases e) x O w;rw[e]at t;cases t;show⟨c,?_,F.keeps k⟩;change(mG scope C (dz X.env.cells scope.names [])).lookup x=some c;unfold mG;rw[gq,u7 ?_]
    . show w
    . cases q:(cellsFrom (C+1) scope.names []).lookup x with
      |none=>rfl
      |some R=>
       have:=S.cells _ (rV (WZ q)) rfl;rw[f]at this;cases this⟩
 cell:=λx c h=>by
  rcases jb h with h|h
  . show⟨_,g x c h⟩
  obtain⟨v,q⟩:=I.cell x c (c_ _ [] (λ_ _ e=>by cases e) x c h);show⟨v,q.keeps k⟩
 free:=by change H C=none;rw[n];show I.aK.fresh (Wg _)
 iU:=λx c h=>by
  rcases jb h with h|h
  . have a:=oq (C:=C+1) (Wg _) h;show I.aK.fresh (by rw[<-n];show aav a)
  . show I.iU x c (c_ _ [] (λ_ _ e=>by cases e) x c h)
 pin:=λp G=>by cases G
 aK:=I.aK.kept k
 len:=by unfold σC;rw[Wd];show S.len
def Inv.forget(I:Inv X pins σ H s)(f:l_ X pins H C)(g:Heap.SameBut C s.heap h'):Inv X pins σ H {s with heap:=h'}:=by
 show I.Fz (s':={s with heap:=h'}) (ch:=[C]) rfl ?_ ?_ I.bare λb c=>?_
 . have ne:∀b,b∉[C]->b≠C:=λb c z=>c (by simp[z]);show{keep:=λb o q _ _ d=>(g.2 b (ne b d)).trans q,slot:=λb o q _ _ d=>⟨o.slots,(g.2 b (ne b d)).trans q⟩,free:=λb o q n _=>n,there:=λb o q d=>⟨o,(g.2 b (ne b d)).trans q⟩,ph:=λ_ _ e=>e,oQ:=λ_ _ _ e=>e,nZ:=λb h e=>⟨#[],by rw[e];simp⟩}
 . intro a o q;let na:∀b u,H b=some u->b≠C:=λb u q z=>by rw[z,f.1]at q;cases q
   show(I.aK a o q).pN (λb u c e=>?_) (λ_ q=>q) λ_ _ q=>q;rw[g.2 b ?_]
   . show e
   . rcases c with rfl|c
     . show na _ _ q
     . show na _ _ c
 . have:b=C:=by simpa using c
   subst this;show⟨f.2.2.2.1,f.2.1,f.2.2.2.2.1,f.2.2.2.2.2⟩
def wI{z tg t:Expr}{w:List Expr}{wi:TI}{g:TG}{c:TT}{te:TE}{pos:Pos}{Q:VK}{RR:Value->Addr->Result->Shared->Prop}(hx:X.xe=λ_ _=>False)(hc:X.calm=true)(S:cx X scope Nc fr)(hi:PI X tg t wi)
 (hg:∀C s H ex,PG (cD X scope Nc C s H ex) tg g) (ht:∀C s H ex,tD (cD X scope Nc C s H ex) w c) (he:∀C s H ex,PE (cD X scope Nc C s H ex) z te) (I:Inv X pins σ H s) (h:uq wi fr g c te σ H Q)
 (bQ:∀(l C:Addr) (s6:Shared) (H5:Hp) (m:Str->Option Value),s6.heap.Ns C m->l_ X pins H5 C->Inv X pins σ H5 s6->Q (.ref l) H5->RR (.ref l) C (.ok .next) s6):
 wpAny (model X.prog X.w) X.A (eval t X.env) (λx s₁=>wpAny (model X.prog X.w) X.A (pyIter x) (λit s₂=>wpAny (model X.prog X.w) X.A (newList []) (λa4 s₃=>
  wpAny (model X.prog X.w) X.A (newFunctionEnv scope X.env.globals (dz X.env.cells scope.names []) [] X.env.qual none .none (some X.env)) (λF s₄=>
   codeAny (model X.prog X.w) X.A (.compStart (.ListComp z [⟨tg,t,w,0⟩] scope pos) 0 it a4 {F with scope:=relabel scope X.env}) (RR a4 F.locals) s₄) X.xe s₃) X.xe s₂) X.xe s₁) X.xe s:=by
 show bR (hi pins s σ H _ I h) λv s1 h1=>bR h1 λbY j h2=>?_;obtain⟨it,fp,tn,J,Y,e,I2,T,aK,f2,hR⟩:=h2;subst e;show wpAny_newList ?_ (WU _);let V:=I2.KL (t':=j.toks) (ao:=[]) (ys:=[]) .nil (WU _);generalize e3:({j with heap:=j.heap.push {cls:= .type "list",data:= .seq ([]:List Value).toArray}}:Shared)=s3;let V:Inv X pins σ (upd Y j.heap.objs.size (.lst [])) s3:=by rw[<-e3];show V
 let ml:j.heap.objs.size<s3.heap.objs.size:=by rw[<-e3];change _<(j.heap.push _).objs.size;rw[WY];lia
 let k3:∀b o,j.heap.get? b=some o->s3.heap.get? b=some o:=λb o q=>by rw[<-e3];show V_ _ q
 obtain⟨W,⟨m0,w0⟩,turn⟩:=hR j.heap.objs.size (I2.aK.fresh (Wg _));show vA ?_;let hn:(pushCells (s3.heap.push {cls:= .type "dict",data:= .dict #[]}) scope.names).Ns s3.heap.objs.size (λ_=>none):=(Heap.Ns.new s3.heap (.type "dict")).keeps (pushCells_keeps _ _);let a0:∀x c,(x,c)∈cellsFrom (s3.heap.objs.size+1) scope.names []->(pushCells (s3.heap.push {cls:= .type "dict",data:= .dict #[]}) scope.names).IsCell c none:=λx c h=>((Rg scope.names _ (WY ..)).empty x c h).1;let k4:∀b o,s3.heap.get? b=some o->(pushCells (s3.heap.push {cls:= .type "dict",data:= .dict #[]}) scope.names).get? b=some o:=λb o q=>pushCells_keeps _ _ b o (V_ _ q);generalize(pushCells (s3.heap.push {cls:= .type "dict",data:= .dict #[]}) scope.names)=h' at hn a0 k4⊢;let D:∀b∈fp,∃o,j.heap.get? b=some o/\∀v,o.data≠ .cell v:=T.obj _ _ aK;let E:∀b∈fp,b<s3.heap.objs.size:=λb a=>let⟨o,q,_⟩:=D b a;Wq (k3 b o q)
 let bB:∀b∈fp,b≠j.heap.objs.size:=λb a=>by
  obtain⟨o,q,_⟩:=D b a;show WB (Wq q)
 let P:∀b∈fp,l_ X pins (upd Y j.heap.objs.size (.lst [])) b:=λb a=>⟨by rw[aG (bB b a)];show(f2 b a).1,(f2 b a).2⟩
 let ok:=Rk (C:=s3.heap.objs.size) (fp:=fp) S V rfl P E λb a=>(f2 b a).2.2.2.2.1
 let I4:Inv (cD X scope Nc s3.heap.objs.size s3 (upd Y j.heap.objs.size (.lst [])) fp) [] (σC fr σ) (upd Y j.heap.objs.size (.lst [])) {s3 with heap:=h',toks:=s3.toks}:=
  J5 (s':=s3) S V rfl ok (λb a=>(P b a).1) k4 hn a0
 let aD:tn 0 h':=T.keep _ _ _ aK λb _ o q=>k4 b o (k3 b o q);generalize f:cD X scope Nc s3.heap.objs.size s3 (upd Y j.heap.objs.size (.lst [])) fp=Xc at I4;let bF:PG Xc tg g:=by rw[<-f];show hg _ _ _ _
 let bA:tD Xc w c:=by rw[<-f];show ht _ _ _ _
 let bO:PE Xc z te:=by rw[<-f];show he _ _ _ _
 let K:Xc.prog=X.prog:=by rw[<-f];rfl
 let G:Xc.w=X.w:=by rw[<-f];rfl
 let xK:Xc.K=X.K:=by rw[<-f];rfl
 let xc:Xc.calm=true:=by rw[<-f];show hc
 let R:Xc.A=X.A:=by rw[<-f];rfl
 let xE:Xc.env=compEnvC scope (mG scope s3.heap.objs.size (dz X.env.cells scope.names [])) s3.heap.objs.size X.env:=by rw[<-f];rfl
 let xx:Xc.xe=λ_ _=>False:=by rw[<-f];rfl
 let O:∀ {k:Hp},(∀b∈fp,k b=none)->∀b∈fp,l_ Xc [] k b:=λ{k} hn b a=>by
  rw[<-f];show⟨hn b a,WB (E b a),ok.vF b a,.inl a,(ok.Hc b a).2,λp hp=>by cases hp⟩
 let B:codeAny (model X.prog X.w) X.A (.compLoop (.ListComp z [⟨tg,t,w,0⟩] scope pos) 0 (.ref it) (.ref j.heap.objs.size) (compEnvC scope (mG scope s3.heap.objs.size (dz X.env.cells scope.names [])) s3.heap.objs.size X.env))
  (RR (.ref j.heap.objs.size) s3.heap.objs.size) {s3 with heap:=h',toks:=s3.toks}:=by
  show Dt (λn s'=>∃i Z k,Inv Xc [] Z k s'/\tn i s'.heap/\(∀b∈fp,k b=none)/\W i n Z k) ?_ m0 ⟨0,_,_,I4,aD,λb a=>(P b a).1,w0⟩;rintro n s5 ⟨i,σ5,H5,I5,ar,a3,w5⟩;rcases turn i n σ5 H5 w5 with⟨ah,qn⟩|⟨go,N,hN,step⟩
  . have q:=T.done Xc K G xK xc i [] s5 σ5 H5 (λ_ _=>False) I5 (O a3) ar ah;rw[R]at q;show bR q λr s6 ⟨hr,U⟩=>?_;subst hr;obtain⟨m,hm,_⟩:=U.loc;rw[xE]at hm;let M:H5 s3.heap.objs.size=none:=by let:=U.free;rw[xE]at this;show this
    let a5:Un (pY X.stack) fp (upd Y j.heap.objs.size (.lst [])) H5 s3.heap s6.heap:=by let:=U.base;rw[<-f]at this;show this
    let bu:s6.os=s3.os:=by let:=U.os;rw[<-f]at this;show this
    let aX:iC X.prog X.w H5 s6.heap:=by let:=U.aK;rw[K,G]at this;show this
    let J:=V.Fz (s':=s6) (ch:=fp) bu a5 aX U.bare λb a=>⟨(P b a).2.2.2.1,(P b a).2.1,(P b a).2.2.2.2.1,(P b a).2.2.2.2.2⟩
    show bQ _ _ s6 H5 m hm (V.vw (Wg _) M) J qn
  . have q:=T.item Xc K G xK xc i [] s5 σ5 H5 (λ_ _=>False) I5 (O a3) ar go;rw[R]at q;show bR q λr s6 ⟨u,hr,h6⟩=>?_;subst hr;show bR h6 λ_ s7 ⟨x,H7,I7,r7,y7,L,bP⟩=>?_;let bT:=I7.pinned (O bP) (T.obj _ _ L);let q8:=bF _ s7 σ5 H7 x u _ bT r7 (step x H7 y7);rw[K,G,R,xE,xx]at q8;show bR q8 λ_ s8 ⟨A,H8,I8,q8⟩=>?_;let q9:=bA _ s8 A H8 _ I8 q8;rw[K,G,R,xE,xx]at q9;show bR q9 λb s9 ⟨H9,I9,q9⟩=>?_
    let again:∀ {k:Hp} {s':Shared},Inv Xc ([]++tG fp s7.heap) A k s'->N A k->∃m,m<n/\∃i Z k,Inv Xc [] Z k s'/\tn i s'.heap/\(∀b∈fp,k b=none)/\W i m Z k:=λ{k s'} J nn=>by
     obtain⟨m',hm,w7⟩:=hN A k nn;show⟨m',hm,i+1,A,k,J.iq,T.keep _ _ _ L λb a o e=>(J.pin (b,o) (Wz _ (Wz _ (nF a e)))).1,λb a=>?_,w7⟩;obtain⟨o,e,d⟩:=T.obj _ _ L b a;show(J.pin (b,o) (Wz _ (Wz _ (nF a e)))).2.1
    cases b with
    |false=>show again I9 q9
    |true=>
     have qe:=bO _ s9 A H9 _ I9 q9;rw[K,G,R,xE,xx]at qe;show bR qe λy bb ⟨vy,bW,bV,ry,ys,hy,bC,qN⟩=>?_;let qa:=zd (X:=Xc) _ bb A bW (.ref j.heap.objs.size) [vy] (.ref j.heap.objs.size) [y] (λ_ k=>N A k) bV rfl (.cons ry .nil) ⟨_,ys,vy,rfl,rfl,hy,bC,qN⟩;rw[K,G,R,xx]at qa;show bR qa λ_ bX ⟨_,b1,bU,_,bl⟩=>again bU bl
 show codeAny_compStart_list ?_ ?_
 . show B
 . show T.self _ 0 _ _ _ aD B
def Ex{e i a:Expr}{g:TG}(j:X.xe=λ_ _=>False)(A:X.calm=true)(S:cx X scope Nc fr)(w:PI X i a o)
 (y:∀C s H ex,PG (cD X scope Nc C s H ex) i g) (r:∀C s H ex,tD (cD X scope Nc C s H ex) b c) (z:∀C s H ex,PE (cD X scope Nc C s H ex) e p)
 (t:∀x,foldedSetIterable a X.env x=pure x:=by intro _;rfl):PE X (.ListComp e [⟨i,a,b,0⟩] scope pos) (uq o fr g c p):=by
 intro pins s σ H Q I h;rw[eval_ListComp];let k:closureFor scope X.env=pure (dz X.env.cells scope.names []):=mW λx j v=>I.ok.has x.1 (S.free x j v);show wpAny_comprehension_free rfl t k S.kind S.names ?_;show wI (RR:=λn C=>compPost (model X.prog X.w) X.A X.xe none (EP X pins σ Q) n C) j A S w y r z I h λl C E D m u f J q=>⟨m,u,λB d=>⟨.ref l,D,Inv.forget J f d,rfl,q⟩⟩
def Ew{k p d:Expr}{j:List Expr}{G:TI}{g:TG}{c:TT}{K:TE}{pos b n:Pos}{i:Nat}{x:Str}(u:X.xe=λ_ _=>False)(Y:X.calm=true)(S:cx X scope Nc fr)(T:PI X p d G)
 (U:∀C s H ex,PG (cD X scope Nc C s H ex) p g) (L:∀C s H ex,tD (cD X scope Nc C s H ex) j c) (W:∀C s H ex,PE (cD X scope Nc C s H ex) k K) (Z:X.N.Nodup) (w:X.N[i]?=some x) (P:Loc X.env.scope x) (V:X.fn x=true\/X.env.scope.names.lookup x=some .local)
 (v:swapsWith (.ListComp k [⟨p,d,j,0⟩] scope pos) (some (.Name x b)) n.line X.env=pure true)
 (M:∀x,foldedSetIterable d X.env x=pure x:=by intro _;rfl):PS X (.Assign [.Name x b] (.ListComp k [⟨p,d,j,0⟩] scope pos) n) (mV (uq G fr g c K) (jo i)):=by
 intro pins s σ H D I h;let y:closureFor scope X.env=pure (dz X.env.cells scope.names []):=mW λx u R=>I.ok.has x.1 (S.free x u R);rw[exec_Assign_Name_used _ _ _ _ v];show V9 (ZG (V9 ?_));change wpAny _ X.A (do let _ <-comprehension (.ListComp k [⟨p,d,j,0⟩] scope pos) scope X.env _ (newList []) false (eval d X.env) (some (assign (.Name x b) X.env))) _ _ s
 show V9 (XY (wpAny_comprehension_free (use:=some (assign (.Name x b) X.env)) (Q:=λ_ t=>SP X pins D .next t) rfl M y S.kind S.names
  (wI (RR:=λF C=>compPost (model X.prog X.w) X.A X.xe (some (assign (.Name x b) X.env)) (λ_ t=>SP X pins D .next t) F C) u Y S T U L W I h λl C s6 H5 m O f J q=>?_)) (λ_ t N=>Wk (Wk N)) λ_ _ e=>e)
 change wpAny _ X.A (assign (.Name x b) X.env (.ref l)) _ _ _;show wpAny_assign_Name (zk J Z w P (show RelV (.ref l) (.ref l)from rfl) (λs7 J7 A=>?_) V);obtain⟨a,o,B⟩:=A
 let E:C≠a:=by
  rcases B with rfl|B
  . show f.2.1
  . show λz=>f.2.2.2.2.1 x a B z.symm
 show⟨m,O.sameBut o E,λah r=>⟨σ.set i (some (.ref l)),H5,Inv.forget J7 f r,q⟩⟩
end
inductive D where
 |aD|bl (b:Bool)|int (i:Int)|str (x:Str)|ty (n:String)|ref (n:Nat)|lst (xs:List D)|tup (xs:List D)
inductive Cell where
 |lst (xs:List D)|ins (C:Addr) (fs:List (Str×D))|dead
  |tab (P:Addr) (pos:Pos) (qual:Str) (b:Bool)
abbrev af:=List Cell
abbrev bZ:=List (Option D)
mutual
def Rep(α:List (Option Addr))(H:Hp):D->V->Prop
 | .aD,v=>v= .aD
 | .bl b,v=>v= .bl b
 | .int i,v=>v= .int i
 | .str x,v=>v= .str x
 | .ty n,v=>v= .ty n
 | .ref n,v=>α[n]?=some none\/∃a,α[n]?=some (some a)/\v= .ref a
 | .lst d,v=>∃a c,v= .ref a/\some a∉α/\Rd H a (.lst c)/\aJ α H d c
 | .tup d,v=>∃a c,v= .ref a/\some a∉α/\H a=some (.tup c)/\aJ α H d c
def aJ(α:List (Option Addr))(H:Hp):List D->List V->Prop
 | [],a=>a=[]
 |d::ds,a=>∃v r,a=v::r/\Rep α H d v/\aJ α H ds r
end
def aU:∀ {c:List D} {vs:List V},aJ α H c vs↔Paired (Rep α H) c vs
 | [],vs=>by
   unfold aJ;constructor
   . rintro rfl;show .nil
   . intro h;cases h;rfl
 |d::c,vs=>by
  unfold aJ;constructor
  . rintro⟨v,r,rfl,b,a⟩;show .cons b (aU.mp a)
  . intro h;cases h with|cons b a=>show⟨_,_,rfl,b,aU.mpr a⟩
section
variable {α:List (Option Addr)}{H:Hp}
def aJ.length{a:List D}{vs:List V}(h:aJ α H a vs):a.length=vs.length:=Paired.length (aU.mp h)
def wW{A B:Type}{F:A->B->Prop}:∀ {xs:List A} {ys:List B} {i:Nat} {x:A},Paired F xs ys->xs[i]?=some x->∃y,ys[i]?=some y/\F x y
 |_,_,_,_,.nil,e=>by simp at e
 |_,_,0,_,.cons r _,e=>by simp at e;subst e;show⟨_,rfl,r⟩
 |_,_,i+1,x,.cons _ t,e=>by
  obtain⟨u,b,a⟩:=wW (i:=i) (x:=x) t (by simpa using e);show⟨u,by simpa using b,a⟩
def dU{A B:Type}{F:A->B->Prop}:∀ {xs a:List A} {ys ys':List B},Paired F xs ys->Paired F a ys'->Paired F (xs++a) (ys++ys')
 |_,_,_,_,.nil,s=>s
 |_,_,_,_,.cons r t,s=> .cons r (dU t s)
def uP{A B:Type}{F:A->B->Prop}:∀ {xs:List A} {ys:List B} (n:Nat),Paired F xs ys->Paired F (xs.take n) (ys.take n)
 |_,_,0,_=> .nil
 |_,_,_+1,.nil=> .nil
 |_,_,n+1,.cons r t=> .cons r (uP n t)
def uZ{A B:Type}{F:A->B->Prop}:∀ {xs:List A} {ys:List B} (n:Nat),Paired F xs ys->Paired F (xs.drop n) (ys.drop n)
 |_,_,0,r=>r
 |_,_,_+1,.nil=> .nil
 |_,_,n+1,.cons _ t=>uZ n t
def qT{A B:Type}{F:A->B->Prop}{x:A}{y:B}(r:F x y):∀ {xs:List A} {ys:List B} (i:Nat),Paired F xs ys->Paired F (xs.set i x) (ys.set i y)
 |_,_,_,.nil=> .nil
 |_,_,0,.cons _ t=> .cons r t
 |_,_,i+1,.cons q t=> .cons q (qT r i t)
def pJ{A B:Type}{F:A->B->Prop}{xs:List A}{ys:List B}(h:Paired F xs ys):∀k:Nat,Paired F (List.replicate k xs).flatten (List.replicate k ys).flatten
 |0=> .nil
 |k+1=>by
  rw[XO,XO,WR,WR];show dU h (pJ h k)
def aJ.get{a:List D}{vs:List V}{i:Nat}{d:D}(h:aJ α H a vs)(e:a[i]?=some d):∃v,vs[i]?=some v/\Rep α H d v:=wW (aU.mp h) e
end
structure Step(α:List (Option Addr))(H:Hp)(α':List (Option Addr))(H':Hp):Prop where
 ext:∀b o,some b∉α->H b=some o->H' b=some o
 pre:∀(n:Nat) (x:Option Addr),α[n]?=some x->α'[n]?=some x\/α'[n]?=some none
 new:∀b,some b∈α'->some b∉α->H b=none
def Step.refl:Step α H α H:=⟨λ_ _ _ h=>h,λ_ _ h=> .inl h,λ_ h n=>absurd h n⟩
def Step.trans{H H1 k:Hp}(a:Step α H f H1)(b:Step f H1 i k):Step α H i k where
 ext:=λc o d e=>b.ext c o (λz=>by rw[a.new c z d]at e;cases e) (a.ext c o d e)
 pre:=λn x e=>by
  rcases a.pre n x e with h|h
  . show b.pre n x h
  . rcases b.pre n none h with g|g
    . show .inr g
    . show .inr g
 new:=λc d n=>by
  by_cases j:some c∈f
  . show a.new c j n
  . have:=b.new c d j;cases q:H c with
    |none=>rfl
    |some o=>rw[a.ext c o n q]at this;cases this
def Step.laid(h:H p=none):Step α H α (upd H p o):=
 ⟨λb u _ e=>by rw[aG (dG e h)];show e,λ_ _ h=> .inl h,λ_ h n=>absurd h n⟩
def Step.cell(h:H p=none):Step α H (α++[some p]) (upd H p o):=
 ⟨λb u _ e=>by rw[aG (dG e h)];show e,λn x e=> .inl (by rw[Wh (Wa.mp e).1];show e),λb a n=>by
  rcases W9.mp a with z|z
  . show absurd z n
  . have:b=p:=by simpa using z
    subst this;show h⟩
def Step.write(h:some p∈α):Step α H α (upd H p o):=
 ⟨λb u n e=>by rw[aG (λz=>by subst z;show n h)];show e,λ_ _ h=> .inl h,λ_ h n=>absurd h n⟩
mutual
def Rep.step(s:Step α H c f):∀ {d:D} {v:V},Rep α H d v->Rep c f d v
 | .aD,_,h=>by unfold Rep at h⊢;show h
 | .bl _,_,h=>by unfold Rep at h⊢;show h
 | .int _,_,h=>by unfold Rep at h⊢;show h
 | .str _,_,h=>by unfold Rep at h⊢;show h
 | .ty _,_,h=>by unfold Rep at h⊢;show h
 | .ref n,_,h=>by
   unfold Rep at h⊢;rcases h with h|⟨a,e,r⟩
   . rcases s.pre _ _ h with z|z<;>show .inl z
   . rcases s.pre _ _ e with z|z
     . show .inr ⟨a,z,r⟩
     . show .inl z
 | .lst g,_,h=>by
   unfold Rep at h⊢;obtain⟨a,b,e,n,r,q⟩:=h;show⟨a,b,e,λz=>?_,?_,aJ.step s q⟩
   . have:=s.new a z n;rcases r with r|⟨o,r⟩<;>(rw[this]at r;cases r)
   . rcases r with r|⟨o,r⟩
     . show .inl (s.ext _ _ n r)
     . show .inr ⟨o,s.ext _ _ n r⟩
 | .tup g,_,h=>by
   unfold Rep at h⊢;obtain⟨a,b,e,n,r,q⟩:=h;show⟨a,b,e,(λz=>by rw[s.new a z n]at r;show nomatch r),s.ext _ _ n r,aJ.step s q⟩
def aJ.step(s:Step α H b c):∀ {a:List D} {vs:List V},aJ α H a vs->aJ b c a vs
 | [],_,h=>by unfold aJ at h⊢;show h
 |d::a,_,h=>by
  unfold aJ at h⊢;obtain⟨v,r,e,g,f⟩:=h;show⟨v,r,e,Rep.step s g,aJ.step s f⟩
end
structure cy(G F H:Hp):Prop where
 eq:∀b,H b=(G b).or (F b)
 BE:∀b o,G b=some o->F b=none
section
variable {G F H:Hp}
def cy.get(P:cy G F H)(h:G b=some o):H b=some o:=by rw[P.eq b,h];rfl
def cy.same(P:cy G F H):K_ G H:=λ_ _ h=>P.get h
def cy.none(P:cy G F H)(h:H b=none):G b=none/\F b=none:=by
 let e:=P.eq b;rw[h]at e;cases q:G b with
 |none=>rw[q]at e;show⟨rfl,e.symm⟩
 |some o=>rw[q]at e;cases e
def cy.frame(P:cy G F H)(h:F b=some o):H b=some o/\G b=Option.none:=by
 let a:G b=Option.none:=by
  cases q:G b with
  |none=>rfl
  |some u=>rw[P.BE b u q]at h;cases h
 show⟨by rw[P.eq b,a,h];rfl,a⟩
def cy.laid(P:cy G F H)(h:H p=Option.none):cy (upd G p o) F (upd H p o):=by
 obtain⟨d,c⟩:=P.none h;show⟨λb=>?_,λb u e=>?_⟩
 . by_cases a:b=p
   . subst a;rw[a9,a9];rfl
   . rw[aG a,aG a];show P.eq b
 . by_cases a:b=p
   . subst a;show c
   . rw[aG a]at e;show P.BE b u e
def cy.write(P:cy G F H)(h:G p=some o):cy (upd G p o') F (upd H p o'):=by
 show⟨λb=>?_,λb u e=>?_⟩
 . by_cases a:b=p
   . subst a;rw[a9,a9];rfl
   . rw[aG a,aG a];show P.eq b
 . by_cases a:b=p
   . subst a;show P.BE b o h
   . rw[aG a]at e;show P.BE b u e
def cy.hide(P:cy G F H)(h:H p=Option.none):cy G (upd F p o) (upd H p o):=by
 obtain⟨c,d⟩:=P.none h;show⟨λb=>?_,λb u e=>?_⟩
 . by_cases a:b=p
   . subst a;rw[a9,a9,c];rfl
   . rw[aG a,aG a];show P.eq b
 . by_cases a:b=p
   . subst a;rw[c]at e;cases e
   . rw[aG a];show P.BE b u e
def cy.VQ(P:cy G F H)(h:F p=some o):cy G (upd F p o') (upd H p o'):=by
 let c:=(P.frame h).2;show⟨λb=>?_,λb u e=>?_⟩
 . by_cases a:b=p
   . subst a;rw[a9,a9,c];rfl
   . rw[aG a,aG a];show P.eq b
 . by_cases a:b=p
   . subst a;rw[c]at e;cases e
   . rw[aG a];show P.BE b u e
def cy.show(P:cy G (upd F p o) H)(h:F p=Option.none):cy (upd G p o) F H:=by
 let c:=(P.frame (b:=p) a9)
 show⟨λb=>?_,λb u e=>?_⟩
 . by_cases a:b=p
   . subst a;rw[a9,c.1];rfl
   . rw[aG a,P.eq b,aG a]
 . by_cases a:b=p
   . subst a;show h
   . rw[aG a]at e;let:=P.BE b u e;rw[aG a]at this;show this
end
mutual
def Rep.mono(s:K_ G H):∀ {d:D} {v:V},Rep α G d v->Rep α H d v
 | .aD,_,h=>by unfold Rep at h⊢;show h
 | .bl _,_,h=>by unfold Rep at h⊢;show h
 | .int _,_,h=>by unfold Rep at h⊢;show h
 | .str _,_,h=>by unfold Rep at h⊢;show h
 | .ty _,_,h=>by unfold Rep at h⊢;show h
 | .ref n,_,h=>by unfold Rep at h⊢;show h
 | .lst c,_,h=>by
   unfold Rep at h⊢;obtain⟨a,b,e,n,r,q⟩:=h;show⟨a,b,e,n,?_,aJ.mono s q⟩;rcases r with r|⟨o,r⟩
   . show .inl (s _ _ r)
   . show .inr ⟨o,s _ _ r⟩
 | .tup c,_,h=>by
   unfold Rep at h⊢;obtain⟨a,b,e,n,r,q⟩:=h;show⟨a,b,e,n,s _ _ r,aJ.mono s q⟩
def aJ.mono(s:K_ G H):∀ {a:List D} {vs:List V},aJ α G a vs->aJ α H a vs
 | [],_,h=>by unfold aJ at h⊢;show h
 |d::a,_,h=>by
  unfold aJ at h⊢;obtain⟨v,r,e,c,b⟩:=h;show⟨v,r,e,Rep.mono s c,aJ.mono s b⟩
end
def j8(α:List (Option Addr))(H:Hp):List (Str×D)->List (Str×V)->Prop:=Paired λp q=>p.1=q.1/\Rep α H p.2 q.2
def kB(α:List (Option Addr))(H:Hp)(a:Addr):Cell->Prop
 | .lst xs=>∃d,H a=some (.lst d)/\aJ α H xs d
 | .ins C fs=>∃h d,H a=some (.ins C h d)/\j8 α H fs d
 | .dead=>False
 | .tab P f e b=>a=P/\∃g:Array Value,H a=some (.kl g)/\TriplesOk g.toList/\
    ((b=false/\codeAmong f g.toList=none)\/(b=true/\∃c o d t,codeAmong f g.toList=some (.ref c)/\some c∉α/\H c=some (.gL o (.own c))/\o.data= .fields d/\d[1]?=some (.str e t)))
structure a_(α:List (Option Addr))(st:af)(H:Hp):Prop where
 len:α.length=st.length
 nd:∀(i j:Nat) (a:Addr),α[i]?=some (some a)->α[j]?=some (some a)->i=j
 at':∀(n:Nat) (c:Cell),st[n]?=some c->(c= .dead/\α[n]?=some none)\/∃a,α[n]?=some (some a)/\kB α H a c
def j8.step(s:Step α H a c)(h:j8 α H b vs):j8 a c b vs:=Paired.Kg h λ_ _ z=>⟨z.1,z.2.step s⟩
def kB.same{H k:Hp}(s:Step α H l k)(e:k a=H a)(h:kB α H a c):kB l k a c:=by
 cases c with
 |lst x=>obtain⟨d,g,f⟩:=h;show⟨d,e.trans g,f.step s⟩
 |ins C fs=>obtain⟨w,d,g,f⟩:=h;show⟨w,d,e.trans g,f.step s⟩
 |dead=>show h.elim
 |tab P u m b=>
  obtain⟨z,r,g,f,j⟩:=h;show⟨z,r,e.trans g,f,?_⟩;rcases j with j|⟨v,c,o,d,t,q,n,i,p⟩
  . show .inl j
  . show .inr ⟨v,c,o,d,t,q,(λy=>by rw[s.new c y n]at i;cases i),s.ext c _ n i,p⟩
def kB.some(h:kB α H a c):∃o,H a=some o:=by
 cases c with
 |lst j=>obtain⟨f,d,i⟩:=h;show⟨_,d⟩
 |ins C fs=>obtain⟨l,f,d,i⟩:=h;show⟨_,d⟩
 |dead=>show h.elim
 |tab P g e b=>obtain⟨_,k,d,_⟩:=h;show⟨_,d⟩
def dR(e:α[n]?=Option.some (Option.some a))(r:Rep α H (.ref n) v):v= .ref a:=by
 unfold Rep at r;rcases r with r|⟨b,c,rfl⟩
 . rw[e]at r;cases r
 . rw[e]at c;cases c;rfl
section
variable {α:List (Option Addr)}{st:af}{H:Hp}
def a_.gR(S:a_ α st H){n:Nat}{xs:List D}(e:st[n]?=Option.some (.lst xs)):∃a,α[n]?=Option.some (Option.some a)/\∃vs,H a=Option.some (.lst vs)/\aJ α H xs vs:=by
 rcases S.at' n _ e with⟨z,_⟩|z
 . cases z
 . show z
def a_.xl(S:a_ α st H){n:Nat}{C:Addr}{fs:List (Str×D)}(e:st[n]?=Option.some (.ins C fs)):∃a,α[n]?=Option.some (Option.some a)/\∃b vs,H a=Option.some (.ins C b vs)/\j8 α H fs vs:=by
 rcases S.at' n _ e with⟨z,_⟩|z
 . cases z
 . show z
def a_.mem(S:a_ α st H)(h:Option.some a∈α):∃(n:Nat) (c:Cell),α[n]?=Option.some (Option.some a)/\st[n]?=Option.some c/\kB α H a c:=by
 obtain⟨n,d,e⟩:=WV.mp h;let f:n<st.length:=by rw[<-S.len];show d
 let b:α[n]?=Option.some (Option.some a):=by rw[Wm d,e]
 rcases S.at' n st[n] (by simp[f])with⟨_,q⟩|⟨a',q,ca⟩
 . rw[b]at q;cases q
 . rw[b]at q;cases q;show⟨n,_,b,by simp[f],ca⟩
def a_.lh(S:a_ α st H)(h:H p=none):Option.some p∉α:=λz=>by
 obtain⟨n,c,_,_,a⟩:=S.mem z;obtain⟨o,e⟩:=a.some;rw[h]at e;cases e
def a_.laid(S:a_ α st H)(h:H p=none):a_ α st (upd H p o):=
 ⟨S.len,S.nd,λn c e=>by
  rcases S.at' n c e with z|⟨a,q,b⟩
  . show .inl z
  . show .inr ⟨a,q,b.same (Step.laid h) (aG (by obtain⟨u,z⟩:=b.some;show dG z h))⟩⟩
def a_.cell(S:a_ α st H)(h:H p=none)(w:kB (α++[Option.some p]) (upd H p o) p c):a_ (α++[Option.some p]) (st++[c]) (upd H p o) where
 len:=by rw[W5,W5,S.len];rfl
 nd:=λi j a B A=>by
  let b:∀(i:Nat) (a:Addr),(α++[Option.some p])[i]?=Option.some (Option.some a)->(i<α.length/\α[i]?=Option.some (Option.some a))\/(i=α.length/\a=p):=by
   intro i a e;by_cases r:i<α.length
   . rw[Wh r]at e;show .inl ⟨r,e⟩
   . rw[WD (Ym r)]at e
     let g:i-α.length=0:=by
      cases q:i-α.length with
      |zero=>rfl
      |succ k=>rw[q]at e;simp at e
     rw[g]at e;let:p=a:=by simpa using e
     show .inr ⟨by lia,this.symm⟩
  rcases b i a B with⟨y,m⟩|⟨y,m⟩<;>rcases b j a A with⟨x,l⟩|⟨x,l⟩
  . show S.nd i j a m l
  . subst l;show absurd (WI m) (S.lh h)
  . subst m;show absurd (WI l) (S.lh h)
  . lia
 at':=λn d e=>by
  by_cases f:n<st.length
  . rw[Wh f]at e;let s:n<α.length:=by rw[S.len];show f
    rcases S.at' n d e with⟨z,q⟩|⟨a,q,t⟩
    . show .inl ⟨z,by rw[Wh s];show q⟩
    . show .inr ⟨a,by rw[Wh s];show q,t.same (Step.cell h) (aG (by obtain⟨u,z⟩:=t.some;show dG z h))⟩
  . rw[WD (Ym f)]at e
    let g:n-st.length=0:=by
     cases q:n-st.length with
     |zero=>rfl
     |succ k=>rw[q]at e;simp at e
    rw[g]at e;let v:c=d:=by simpa using e
    subst v;show .inr ⟨p,?_,w⟩;rw[WD (by rw[S.len];show Ym f),S.len,g];rfl
def a_.write(S:a_ α st H)(e:α[n]?=Option.some (Option.some p))(h:kB α (upd H p o) p c):a_ α (st.set n c) (upd H p o) where
 len:=by rw[Wv];show S.len
 nd:=S.nd
 at':=λm d q=>by
  let f:Option.some p∈α:=WI e;by_cases b:m=n
  . subst b
    let g:m<st.length:=by
     let:=(Wa.mp q).1;rw[Wv]at this;show this
    rw[Wn g]at q;cases q;show .inr ⟨p,e,h⟩
  . rw[Wf (Wi b)]at q;rcases S.at' m d q with z|⟨a,r,i⟩
    . show .inl z
    . show .inr ⟨a,r,i.same (Step.write f) (aG λz=>?_)⟩;subst z;show b (S.nd m n _ r e)
end
abbrev DK:=D->af->Prop
abbrev DE:=bZ->af->DK->Prop
abbrev DT:=bZ->af->(Bool->af->Prop)->Prop
abbrev DA:=bZ->af->(List D->af->Prop)->Prop
structure iQ where
 nx:bZ->af->Prop
 rt:DK
 bk:bZ->af->Prop:=λ_ _=>False
 ct:bZ->af->Prop:=λ_ _=>False
abbrev DS:=iQ->bZ->af->Prop
structure eE(α:List (Option Addr))(H:Hp)(σd:bZ)(σ:L2.St):Prop where
 len:σd.length=σ.length
 at':∀(i:Nat) (d:D),σd[i]?=some (some d)->∃v,σ[i]?=some (some v)/\Rep α H d v
def eE.step(s:Step α H b c)(h:eE α H a σ):eE b c a σ:=
 ⟨h.len,λi d e=>let⟨v,q,r⟩:=h.at' i d e;⟨v,q,r.step s⟩⟩
def eE.set{a:bZ}{σ:L2.St}(h:eE α H a σ)(i:Nat)(r:Rep α H d v):eE α H (a.set i (some d)) (σ.set i (some v)):=by
 show⟨by rw[Wv,Wv,h.len],λj e q=>?_⟩;let f:=h.len;by_cases c:j=i
 . subst c
   let b:j<a.length:=by
    let:=(Wa.mp q).1;rw[Wv]at this;show this
   rw[Wn b]at q;cases q;show⟨v,Wn (by lia),r⟩
 . rw[Wf (Wi c)]at q;rw[Wf (Wi c)];show h.at' j e q
def LK(α:List (Option Addr))(G F:Hp)(K:DK)(Q:VK):Prop:=∀d a,K d a->∀c b e v,Step α G c b->cy b F e->a_ c a b->Rep c b d v->Q v e
def L9(α:List (Option Addr))(G F:Hp)(K:Bool->af->Prop)(Q:Bool->Hp->Prop):Prop:=∀b a,K b a->∀d c e,Step α G d c->cy c F e->a_ d a c->Q b e
def VI(α:List (Option Addr))(G F:Hp)(K:List D->af->Prop)(Q:List V->Hp->Prop):Prop:=∀e a,K e a->∀c b f d,Step α G c b->cy b F f->a_ c a b->aJ c b e d->Q d f
inductive UK(t:DE)(σ:L2.St)(H:Hp)(Q:VK):Prop
 |mk (α:List (Option Addr)) (σd:bZ) (st:af) (K:DK) (G F:Hp) (P:cy G F H) (R:eE α G σd σ) (S:a_ α st G) (h:t σd st K) (k:LK α G F K Q):UK t σ H Q
def LE(t:DE):TE:=UK t
inductive UB(t:DT)(σ:L2.St)(H:Hp)(Q:Bool->Hp->Prop):Prop
 |mk (α:List (Option Addr)) (σd:bZ) (st:af) (K:Bool->af->Prop) (G F:Hp) (P:cy G F H) (R:eE α G σd σ) (S:a_ α st G) (h:t σd st K) (k:L9 α G F K Q):UB t σ H Q
def LT(t:DT):TT:=UB t
inductive UO(t:DA)(σ:L2.St)(H:Hp)(Q:List V->Hp->Prop):Prop
 |mk (α:List (Option Addr)) (σd:bZ) (st:af) (K:List D->af->Prop) (G F:Hp) (P:cy G F H) (R:eE α G σd σ) (S:a_ α st G) (h:t σd st K) (k:VI α G F K Q):UO t σ H Q
def LA(t:DA):TA:=UO t
def LK.here{α:List (Option Addr)}{G F H:Hp}{K:DK}{Q:VK}(h:LK α G F K Q)(P:cy G F H){d:D}{st:af}{v:V}(k:K d st)(S:a_ α st G)(r:Rep α G d v):Q v H:=h d st k α G H v Step.refl P S r
def LK.at{α b:List (Option Addr)}{G F c:Hp}{K:DK}{Q:VK}(h:LK α G F K Q)(s:Step α G b c):LK b c F K Q:=λd a k e i g v f P S r=>h d a k e i g v (s.trans f) P S r
def L9.at{α b:List (Option Addr)}{G F c:Hp}{K:Bool->af->Prop}{Q:Bool->Hp->Prop}(h:L9 α G F K Q)(s:Step α G b c):L9 b c F K Q:=λd a k e i g f P S=>h d a k e i g (s.trans f) P S
section
variable {X:Cx}{a b c e:Expr}{es:List Expr}{ta tb tc te:DE}{pos:Pos}
def PE.imp(h:PE X e t)(f:∀σ H Q,t' σ H Q->t σ H Q):PE X e t':=λd s σ H Q I q=>h d s σ H Q I (f σ H Q q)
def PT.imp(h:PT X e t)(f:∀σ H Q,t' σ H Q->t σ H Q):PT X e t':=λd s σ H Q I q=>h d s σ H Q I (f σ H Q q)
def PW.imp(h:PW X e t)(f:∀σ H Q,t' σ H Q->t σ H Q):PW X e t':=λw d s σ H Q I q=>h w d s σ H Q I (f σ H Q q)
def PA.imp(h:PA X es t)(f:∀σ H Q,t' σ H Q->t σ H Q):PA X es t':=λp d s σ H Q I q=>h p d s σ H Q I (f σ H Q q)
def aa(i:Nat):DE:=λσ st K=>match σ[i]? with|some (some d)=>K d st|_=>False
def dC(d:D):DE:=λ_ st K=>K d st
def Sk(h:PE X (.Name x pos) (RE i)):PE X (.Name x pos) (LE (aa i)):=PE.imp h λσ H Q ⟨α,f,st,K,G,F,P,R,S,t,k⟩=>by
 unfold aa at t;split at t
 . rename_i d q;obtain⟨v,e,r⟩:=R.at' i d q;show⟨v,e,k.here P t S r⟩
 . show t.elim
def uf(h:PE X e (tC v))(r:∀α H,Rep α H d v):PE X e (LE (dC d)):=PE.imp h λσ H Q ⟨α,f,st,K,G,F,P,R,S,t,k⟩=>k.here P t S (r α G)
def TV:PE X (.Constant (.int i) j pos) (LE (dC (.int i))):=uf RM λ_ _=>by unfold Rep;rfl
def Vl:PE X (.Constant (.bool i) j pos) (LE (dC (.bl i))):=uf TC λ_ _=>by unfold Rep;rfl
def Th:PE X (.Constant .none j pos) (LE (dC .aD)):=uf Q3 λ_ _=>by unfold Rep;rfl
abbrev dc:=D->D->af->DK->Prop
abbrev BL:=D->af->DK->Prop
abbrev eM:=List D->af->DK->Prop
inductive UH(r:dc)(x y:V)(H:Hp)(Q:VK):Prop
 |mk (α:List (Option Addr)) (d e:D) (st:af) (K:DK) (G F:Hp) (P:cy G F H) (rx:Rep α G d x) (ry:Rep α G e y) (S:a_ α st G) (h:r d e st K) (k:LK α G F K Q):UH r x y H Q
def LR(r:dc):R2:=UH r
inductive Pn(r:BL)(x:V)(H:Hp)(Q:VK):Prop
 |mk (α:List (Option Addr)) (d:D) (st:af) (K:DK) (G F:Hp) (P:cy G F H) (rx:Rep α G d x) (S:a_ α st G) (h:r d st K) (k:LK α G F K Q):Pn r x H Q
def M1(r:BL):V->Hp->VK->Prop:=Pn r
inductive Rx(r:eM)(xs:List V)(H:Hp)(Q:VK):Prop
 |mk (α:List (Option Addr)) (ds:List D) (st:af) (K:DK) (G F:Hp) (P:cy G F H) (rx:aJ α G ds xs) (S:a_ α st G) (h:r ds st K) (k:LK α G F K Q):Rx r xs H Q
def fD(r:eM):List V->Hp->VK->Prop:=Rx r
def aj(r:dc)(ta tb:DE):DE:=λσ st K=>ta σ st λx f=>tb σ f λy d=>r x y d K
def iE(r:BL)(ta:DE):DE:=λσ st K=>ta σ st λx d=>r x d K
def LE.op(h:LE (aj r ta tb) σ H Q):Hm (LR r) (LE ta) (LE tb) σ H Q:=by
 obtain⟨α,i,st,K,G,F,P,R,S,t,k⟩:=h;show⟨α,i,st,_,G,F,P,R,S,t,λd g q n B H1 v l z x p=>?_⟩;show⟨n,i,g,_,B,F,z,R.step l,x,q,λu f s m A D C j y w o=>?_⟩;show⟨m,d,u,f,K,A,F,y,p.step j,o,w,s,(k.at l).at j⟩
def LE.un(h:LE (iE r ta) σ H Q):UM (M1 r) (LE ta) σ H Q:=by
 obtain⟨α,g,st,K,G,F,P,R,S,t,k⟩:=h;show⟨α,g,st,_,G,F,P,R,S,t,λd f q i o H1 v j n m l=>?_⟩;show⟨i,d,f,K,o,F,n,l,m,q,k.at j⟩
def Vi(d:cf X (binaryOp op) (LR r))(g:PE X a (LE ta))(f:PE X b (LE tb)):PE X (.BinOp a op b pos) (LE (aj r ta tb)):=PE.imp (Sb d g f) λ_ _ _ h=>LE.op h
def Vt(d:E6 X (unaryOp op) (M1 r))(f:PE X a (LE ta)):PE X (.UnaryOp op a pos) (LE (iE r ta)):=PE.imp (TX d f) λ_ _ _ h=>LE.un h
def SJ(d:cf X (compareOp op) (LR r))(i:PE X a (LE ta))(g:PE X b (LE tb))(f:behindInMarks op b=false:=by first|show dm _|rfl):PE X (.Compare a [op] [b] pos) (LE (aj r ta tb)):=PE.imp (OP d i g f) λ_ _ _ h=>LE.op h
def aV(t:DE):DT:=λσ st K=>t σ st λd f=>match d with| .bl b=>K b f|_=>False
def LT.test(h:LT (aV te) σ H Q):LE te σ H λx o=>∃k,x= .bl k/\Q k o:=by
 obtain⟨α,i,st,K,G,F,P,R,S,t,k⟩:=h;show⟨α,i,st,_,G,F,P,R,S,t,λd f q j p H1 v l n m g=>?_⟩;cases d with
 |bl b=>
  unfold Rep at g;show⟨b,g,k b f q j p H1 l n m⟩
 |_=>show q.elim
def Rq(d:cf X (compareOp op) (LR r))(i:PE X a (LE ta))(g:PE X b (LE tb))(f:behindInMarks op b=false:=by first|show dm _|rfl):PT X (.Compare a [op] [b] pos) (LT (aV (aj r ta tb))):=PT.imp (N3 d i g f) λσ H Q h=>by
 let q:=LT.test h;show LE.op (Q:=λx j=>∃k,x= .bl k/\Q k j) q
def QY(f:PE X e (LE te))(d:∀whole,isTrue e X.env whole=(do let v <-whole;standAt e.pos;holding [v] (truthy v)):=by intro _;rfl):PT X e (LT (aV te)):=PT.imp (Rn f d) λσ H Q h=>LT.test h
def dP(t:DT):DT:=λσ st K=>t σ st λb d=>K (!b) d
def ud(t u:DT):DT:=λσ st K=>t σ st λb d=>if b=true then u σ d K else K false d
def ip(t u:DT):DT:=λσ st K=>t σ st λb d=>if b=true then K true d else u σ d K
def PQ(i:PT X a (LT t)):PT X (.UnaryOp .Not a pos) (LT (dP t)):=PT.imp (P8 i) λσ H Q ⟨α,f,st,K,G,F,P,R,S,t,k⟩=>
 ⟨α,f,st,_,G,F,P,R,S,t,λb d q g m H1 h l j=>k _ d q g m H1 h l j⟩
def LT.and(h:LT (ud t u) σ H Q):Po (LT t) (LT u) σ H Q:=by
 obtain⟨α,g,st,K,G,F,P,R,S,t,k⟩:=h;show⟨α,g,st,_,G,F,P,R,S,t,λb d q i m H1 f l j=>?_⟩;cases b with
 |true=>show⟨i,g,d,K,m,F,l,R.step f,j,q,k.at f⟩
 |false=>show k _ d q i m H1 f l j
def LT.or(h:LT (ip t u) σ H Q):Uv (LT t) (LT u) σ H Q:=by
 obtain⟨α,g,st,K,G,F,P,R,S,t,k⟩:=h;show⟨α,g,st,_,G,F,P,R,S,t,λb d q i m H1 f l j=>?_⟩;cases b with
 |false=>show⟨i,g,d,K,m,F,l,R.step f,j,q,k.at f⟩
 |true=>show k _ d q i m H1 f l j
def Ov(d:PT X a (LT t)):PW X (.BoolOp .And [a] pos) (LT t):=pw_and1 d
def Rb(d:PT X a (LT t)):PW X (.BoolOp .Or [a] pos) (LT t):=pw_or1 d
def R6(f:PT X a (LT t))(d:PW X (.BoolOp .And (b::es) pos) (LT u)):PW X (.BoolOp .And (a::b::es) pos) (LT (ud t u)):=PW.imp (pw_and f d) λ_ _ _ h=>LT.and h
def T6(f:PT X a (LT t))(d:PW X (.BoolOp .Or (b::es) pos) (LT u)):PW X (.BoolOp .Or (a::b::es) pos) (LT (ip t u)):=PW.imp (pw_or f d) λ_ _ _ h=>LT.or h
def qu(ta tb:DE):DE:=λσ st K=>ta σ st λd f=>match d with| .bl b=>if b=true then tb σ f K else K (.bl false) f|_=>False
def K9(ta tb:DE):DE:=λσ st K=>ta σ st λd f=>match d with| .bl b=>if b=true then K (.bl true) f else tb σ f K|_=>False
def xj(t:DT):DE:=λσ st K=>t σ st λb d=>K (.bl (!b)) d
def SX(d:PE X a (LE ta)):PE X (.BoolOp op [a] pos) (LE ta):=Qo d
def Su(p:PE X a (LE ta))(o:PE X (.BoolOp .And (b::es) pos) (LE tb)):PE X (.BoolOp .And (a::b::es) pos) (LE (qu ta tb)):=PE.imp (Pq p o) λσ H Q ⟨α,h,st,K,G,F,P,R,S,t,k⟩=>by
 show⟨α,h,st,_,G,F,P,R,S,t,λd f q i n H1 v g m l j=>?_⟩;cases d with
 |bl b=>
  unfold Rep at j;show⟨b,j,?_⟩;cases b with
  |true=>show⟨i,h,f,K,n,F,m,R.step g,l,q,k.at g⟩
  |false=>show k _ f q i n H1 _ g m l (by unfold Rep;rfl)
 |_=>show q.elim
def Vd(p:PE X a (LE ta))(o:PE X (.BoolOp .Or (b::es) pos) (LE tb)):PE X (.BoolOp .Or (a::b::es) pos) (LE (K9 ta tb)):=PE.imp (TJ p o) λσ H Q ⟨α,h,st,K,G,F,P,R,S,t,k⟩=>by
 show⟨α,h,st,_,G,F,P,R,S,t,λd f q i n H1 v g m l j=>?_⟩;cases d with
 |bl b=>
  unfold Rep at j;show⟨b,j,?_⟩;cases b with
  |false=>show⟨i,h,f,K,n,F,m,R.step g,l,q,k.at g⟩
  |true=>show k _ f q i n H1 _ g m l (by unfold Rep;rfl)
 |_=>show q.elim
def Ub(l:PE X a (LE ta)):PE X (.UnaryOp .Not a pos) (LE (xj (aV ta))):=PE.imp (RB l) λσ H Q ⟨α,h,st,K,G,F,P,R,S,t,k⟩=>by
 show⟨α,h,st,_,G,F,P,R,S,t,λd f q i o H1 v j n m g=>?_⟩;cases d with
 |bl b=>
  unfold Rep at g;show⟨b,g,k _ f q i o H1 _ j n m (by unfold Rep;rfl)⟩
 |_=>show q.elim
def Ms(t:DT)(ta tb:DE):DE:=λσ st K=>t σ st λb d=>if b=true then ta σ d K else tb σ d K
def TY(m:PT X c (LT t))(o:PE X a (LE ta))(n:PE X b (LE tb)):PE X (.IfExp c a b pos) (LE (Ms t ta tb)):=PE.imp (KG m o n) λσ H Q ⟨α,g,st,K,G,F,P,R,S,t,k⟩=>by
 show⟨α,g,st,_,G,F,P,R,S,t,λb d q h l H1 f j i=>?_⟩;cases b with
 |true=>show⟨h,g,d,K,l,F,j,R.step f,i,q,k.at f⟩
 |false=>show⟨h,g,d,K,l,F,j,R.step f,i,q,k.at f⟩
def ag:DA:=λ_ st K=>K [] st
def ab(ta:DE)(tr:DA):DA:=λσ st K=>ta σ st λx f=>tr σ f λg d=>K (x::g) d
def B9:PA X [] (LA ag):=PA.imp QM λσ H Q ⟨α,d,st,K,G,F,P,R,S,t,k⟩=>k [] st t α G H [] Step.refl P S (by unfold aJ;rfl)
def yc{tr:DA}(w:PE X e (LE te))(u:PA X es (LA tr))(s:starEach (e::es) X.env=(false,eval e X.env)::starEach es X.env:=by rfl):PA X (e::es) (LA (ab te tr)):=PA.imp (Ot w u s) λσ H Q ⟨α,h,st,K,G,F,P,R,S,t,k⟩=>by
 show⟨α,h,st,_,G,F,P,R,S,t,λd g q n D H1 v l A y p=>?_⟩;show⟨n,h,g,_,D,F,A,R.step l,y,q,λE f r m C B i j z x o=>?_⟩;show k _ f r m C B (v::i) (l.trans j) z x (by unfold aJ;show⟨v,i,rfl,p.step j,o⟩)
def kX(t:DA):DE:=λσ st K=>t σ st λf d=>f.length<=sizeLine/\K (.tup f) d
def jc(t:DA):DE:=λσ st K=>t σ st λf d=>f.length<=sizeLine/\K (.lst f) d
def oz(t:DA):DE:=λσ st K=>t σ st λf d=>f.length<=sizeLine/\K (.ref d.length) (d++[.lst f])
def LK.tup{α:List (Option Addr)}{G F H:Hp}{K:DK}{Q:VK}{g:List D}{vs:List V}{st:af}{p:Addr}(k:LK α G F K Q)(P:cy G F H)(q:K (.tup g) st)(S:a_ α st G)(r:aJ α G g vs)(f:H p=none):Q (.ref p) (upd H p (.tup vs)):=
 have d:=(P.none f).1
 k _ st q α _ _ _ (Step.laid d) (P.laid f) (S.laid d) (by unfold Rep;show⟨p,vs,rfl,S.lh d,a9,r.step (Step.laid d)⟩)
def LK.lst{α:List (Option Addr)}{G F H:Hp}{K:DK}{Q:VK}{g:List D}{vs:List V}{st:af}{p:Addr}(k:LK α G F K Q)(P:cy G F H)(q:K (.lst g) st)(S:a_ α st G)(r:aJ α G g vs)(f:H p=none):Q (.ref p) (upd H p (.lst vs)):=
 have d:=(P.none f).1
 k _ st q α _ _ _ (Step.laid d) (P.laid f) (S.laid d) (by unfold Rep;show⟨p,vs,rfl,S.lh d,.of a9,r.step (Step.laid d)⟩)
def LK.new{α:List (Option Addr)}{G F H:Hp}{K:DK}{Q:VK}{g:List D}{vs:List V}{st:af}{p:Addr}(k:LK α G F K Q)(P:cy G F H)(q:K (.ref st.length) (st++[.lst g]))(S:a_ α st G)(r:aJ α G g vs)(f:H p=none):Q (.ref p) (upd H p (.lst vs)):=
 have d:=(P.none f).1
 k _ _ q (α++[some p]) _ _ _ (Step.cell d) (P.laid f) (S.cell d ⟨vs,a9,r.step (Step.cell d)⟩) (by
  unfold Rep;show .inr ⟨p,?_,rfl⟩;rw[WD (by rw[S.len];show Wg _),S.len,XU];rfl)
def Sd(h:PA X es (LA t)):PE X (.Tuple es n pos) (LE (kX t)):=PE.imp (P0 h) λσ H Q ⟨α,f,st,K,G,F,P,R,S,t,k⟩=>
 ⟨α,f,st,_,G,F,P,R,S,t,λs g q o u H1 r i m l d=>⟨by rw[<-d.length];show q.1,λp j=>(k.at i).tup m q.2 l d j⟩⟩
def TK(h:PA X es (LA t)):PE X (.List es pos) (LE (jc t)):=PE.imp (Jx h) λσ H Q ⟨α,f,st,K,G,F,P,R,S,t,k⟩=>
 ⟨α,f,st,_,G,F,P,R,S,t,λr g q n s H1 o i m l d=>⟨by rw[<-d.length];show q.1,λp j=>(k.at i).lst m q.2 l d j⟩⟩
def T_(h:PA X es (LA t)):PE X (.List es pos) (LE (oz t)):=PE.imp (Jx h) λσ H Q ⟨α,f,st,K,G,F,P,R,S,t,k⟩=>
 ⟨α,f,st,_,G,F,P,R,S,t,λr g q n s H1 o i m l d=>⟨by rw[<-d.length];show q.1,λp j=>(k.at i).new m q.2 l d j⟩⟩
abbrev bM:=List D->af->DK->Prop
inductive Qm(T:bM)(vs:List V)(H:Hp)(Q:VK):Prop
 |mk (α:List (Option Addr)) (ds:List D) (st:af) (K:DK) (G F:Hp) (P:cy G F H) (rx:aJ α G ds vs) (S:a_ α st G) (h:T ds st K) (k:LK α G F K Q):Qm T vs H Q
def gK(S:bM):Sp:=λd H Q _=>Qm S d H Q
def ay(S:bM)(t:DA):DE:=λσ st K=>t σ st λf d=>S f d K
def LE.call{S:bM}(h:LE (ay S t) σ H Q):Mm (gK S) [] E0 (LA t) σ H Q:=by
 obtain⟨α,f,st,K,G,F,P,R,S,t,k⟩:=h;show⟨α,f,st,_,G,F,P,R,S,t,λl d q g o H1 p i n m j=>?_⟩;try dsimp only
 rw[Xw];show⟨g,l,d,K,o,F,n,j,m,q,k.at i⟩
def QO{S:bM}{k:Nat}{f:Addr}{fd:FuncData}{i:List Str}{x:Str}{p:Pos}{t:DA}(F:dh X.prog X.w X.K X.mg X.base fS k f fd i (gK S))(j:cU k X.A)(n:Gl X x)(l:X.mg x=some (.ref f))(m:PySem.W.keepIn X.K (.ref f)=true)(q:Binds X.K fd i [])
 (r:PA X (e::es) (LA t)) (g:(x==("__debug__":Str))=false:=by decide) (o:starEach (e::es) X.env=(false,eval e X.env)::starEach es X.env:=by rfl) (d:(backTo pos (starEach es X.env)).any (·.1)=false:=by rfl):
 PE X (.Call (.Name x p) (e::es) [] pos) (LE (ay S t)):=PE.imp (NW F j n l m q .nil Aw r g o d) λ_ _ _ h=>LE.call h
def br(r:eM)(t:DA):DE:=λσ st K=>t σ st λf d=>r f d K
def LE.cb(h:LE (br r t) σ H Q):Ro (fD r) (LA t) σ H Q:=by
 obtain⟨α,f,st,K,G,F,P,R,S,t,k⟩:=h;show⟨α,f,st,_,G,F,P,R,S,t,λl d q g o H1 p i n m j=>?_⟩;show⟨g,l,d,K,o,F,n,j,m,q,k.at i⟩
end
section
variable {X:Cx}
def cf.imp{f:Value->Value->Sem Value}(h:cf X f r)(k:∀x y H Q,b x y H Q->r x y H Q):cf X f b:=λa s σ H x y v u Q I d c q=>h a s σ H x y v u Q I d c (k x y H Q q)
def bJ.imp(h:bJ X f r)(k:∀xs H Q,b xs H Q->r xs H Q):bJ X f b:=λa s σ H xs c Q I d q=>h a s σ H xs c Q I d (k xs H Q q)
def u4(C:Int->Int->Prop)(g:Int->Int->D):dc:=λx y st K=>match x,y with| .int i,.int j=>C i j/\K (g i j) st|_,_=>False
def kO{f:Value->Value->Sem Value}{g:Int->Int->D}{g':Int->Int->V}(c:∀i j α H,Rep α H (g i j) (g' i j))(h:cf X f (rI C g')):cf X f (LR (u4 C g)):=cf.imp h λx y H Q ⟨α,d,e,st,K,G,l,P,b,a,S,q,k⟩=>by
 cases d<;>cases e<;>first
  |show q.elim
  |(unfold Rep at b a;show⟨_,_,b,a,q.1,k.here P q.2 S (c _ _ _ _)⟩)
abbrev T2:Int->Int->Prop:=λ_ _=>True
def w_{g:Int->Int->V}{f:Value->Value->Sem Value}(h:cf X f (we g)):cf X f (rI T2 g):=cf.imp h λx y H Q ⟨i,j,b,a,_,q⟩=>⟨i,j,b,a,q⟩
abbrev Mo:dc:=u4 T2 λi j=> .int (i-j)
abbrev GV:dc:=u4 (λ_ j=>j≠0/\j.natAbs.log2<9000) λi j=> .int (i.fdiv j)
abbrev MO:dc:=u4 (λ_ j=>j≠0) λi j=> .int (i.fmod j)
abbrev Mh:dc:=u4 Ky λi j=> .int (i^j.toNat)
abbrev Pt:dc:=u4 T2 λi j=> .bl (decide (i<j))
abbrev Pp:dc:=u4 T2 λi j=> .bl (decide (i<=j))
abbrev Qb:dc:=u4 T2 λi j=> .bl (decide (j<i))
abbrev Q5:dc:=u4 T2 λi j=> .bl (decide (j<=i))
def Tx:cf X (binaryOp .Sub) (LR Mo):=kO (λ_ _ _ _=>by unfold Rep;rfl) (w_ Px)
def Q7:cf X (binaryOp .FloorDiv) (LR GV):=kO (λ_ _ _ _=>by unfold Rep;rfl) (MQ λi j _ _ _ _ _ a q=>floordiv_int a.1 q (.inl (aaN a.2)))
def Te:cf X (binaryOp .Mod) (LR MO):=kO (λ_ _ _ _=>by unfold Rep;rfl) NF
def Tw:cf X (binaryOp .Pow) (LR Mh):=kO (λ_ _ _ _=>by unfold Rep;rfl) Ru
def Vu:cf X (compareOp .Lt) (LR Pt):=kO (λ_ _ _ _=>by unfold Rep;rfl) (w_ T5)
def UW:cf X (compareOp .LtE) (LR Pp):=kO (λ_ _ _ _=>by unfold Rep;rfl) (w_ Se)
def Vz:cf X (compareOp .Gt) (LR Qb):=kO (λ_ _ _ _=>by unfold Rep;rfl) (w_ S8)
def Vs:cf X (compareOp .GtE) (LR Q5):=kO (λ_ _ _ _=>by unfold Rep;rfl) (w_ Tp)
def Mw:BL:=λx st K=>match x with| .int i=>K (.int (-i)) st|_=>False
def Ua:E6 X (unaryOp .USub) (M1 Mw):=λa s σ H x v Q I b ⟨α,d,st,K,G,c,P,r,S,q,k⟩=>by
 cases d<;>first
  |show q.elim
  |(unfold Rep at r;show Qq a s σ H x v Q I b ⟨_,r,k.here P q S (by unfold Rep;rfl)⟩)
def Inv.sD{pins:List (Addr×Obj)}{σ:L2.St}{H:Hp}{s:Shared}{l:Addr}{xs:List V}(I:Inv X pins σ H s)(h:Rd H l (.lst xs)):
 xs.length<=sizeLine/\∃(ao:List Value) (n:Nat),Vals xs ao/\xs.length=ao.length/\s.heap.get? l=some {cls:= .type "list",data:= .seq ao.toArray n}:=by
 obtain⟨z,ao,n,r,e⟩:=h.ok I.aK;show⟨z,ao,n,r,r.length,e⟩
def fv(P:cy G F H)(h:Rd G a u):Rd H a u:=by
 rcases h with h|⟨o,h⟩
 . show .inl (P.get h)
 . show .inr ⟨o,P.get h⟩
def xX:cf X (binaryOp .Add) (λx y H Q=>∃l b xs c,x= .ref l/\y= .ref b/\Rd H l (.lst xs)/\Rd H b (.lst c)/\xs.length+c.length<=sizeLine/\∀p,H p=none->Q (.ref p) (upd H p (.lst (xs++c)))):=by
 intro d s σ H x y v u Q I i g h;obtain⟨l,b,xs,c,rfl,rfl,m,o,C,q⟩:=h;cases i;cases g;obtain⟨z,f,n,r,D,e⟩:=Inv.sD I m;obtain⟨A,a,B,j,k,w⟩:=Inv.sD I o;show PySem.P.add_list e w ?_ (by rw[Wl,Wl];lia);let t:f.toArray++a.toArray=(f++a).toArray:=by simp
 rw[t];show⟨.ref _,_,I.KL (t':=s.toks) (r.append j) (by rw[W5];lia),rfl,q _ I.fresh⟩
def Oa:cf X (binaryOp .Mult) (λx y H Q=>∃l k xs,x= .ref l/\y= .int k/\Rd H l (.lst xs)/\ -(2^63)<=k/\k<2^63/\xs.length*k.toNat<=sizeLine/\
 ∀p,H p=none->Q (.ref p) (upd H p (.lst (List.replicate k.toNat xs).flatten))):=by
 intro w s σ H x y v u Q I D C h;obtain⟨l,k,xs,rfl,rfl,G,K,J,A,q⟩:=h;cases D;obtain⟨t,rfl⟩:=C;obtain⟨z,b,n,r,E,e⟩:=Inv.sD I G;let f:b.toArray.size*k.toNat<=sizeLine:=by rw[Wl,<-E];show A
 let i:¬b.toArray.size*k.toNat>(2^63-1)/8:=by
  let:(sizeLine:Nat)<=(2^63-1)/8:=by decide
  lia
 let g:¬(!Builtin.List.listFitsIndex k)=true:=by
  rw[fitsIndex_both K J];show Xj
 let c:¬Builtin.List.listTooLong (b.toArray.size*k.toNat)=true:=by
  rw[Lx f];show Xj
 let d:List.foldl (λo j=>o++j) #[] (List.replicate (if b.toArray.isEmpty=true then 0 else k.toNat) b.toArray)=(List.replicate k.toNat b).flatten.toArray:=by
  let L:∀m:Nat,List.foldl (λo j=>o++j) #[] (List.replicate m b.toArray)=(List.replicate m b).flatten.toArray:=λm=>by
   let:=foldl_rep b m [];rw[aaT]at this;show this
  rw[L];cases b with
  |nil=>simp
  |cons a M=>rw[Wc (by simp)]
 show aaB (T:="list") (U:="int") (by decide) ⟨_,e,rfl⟩ (λB=>aaA B k t) noFill_list_mul F.fills_int_mul ZW repeat_list F.slot_int_index.lookup
  (Za ZW (aaA s k t) F.entry_int_rmul (F.args_int_rmul_2 _ _) (int___rmul___int_list k t l b.toArray n)
    ⟨e,rfl,⟨_,e,rfl⟩,Za F.slot_list_mul ⟨_,e,rfl⟩ F.entry_list_mul (F.args_list_mul_2 _ _) (AutoListH.list___mul___list_int_3 l b.toArray n k t g i c) ⟨e,?_⟩⟩)
 rw[d];show⟨.ref _,_,I.KL (t':=s.toks) (r.rep k.toNat) (by rw[len_rep,X6];show A),rfl,q _ I.fresh⟩
def Lo:cf X (binaryOp .Add) (λx y H Q=>∃a b xs ys,x= .ref a/\y= .ref b/\H a=some (.tup xs)/\H b=some (.tup ys)/\xs.length+ys.length<=sizeLine/\
 (xs=[]->Q (.ref b) H)/\(xs≠ []->ys=[]->Q (.ref a) H)/\(xs≠ []->ys≠ []->∀p,H p=none->Q (.ref p) (upd H p (.tup (xs++ys))))):=by
 intro c s σ H x y v u Q I m l h;obtain⟨a,b,xs,ys,rfl,rfl,w,t,L,G,F,E⟩:=h;by_cases e:xs=[]
 . cases m;cases l;obtain⟨B,D,J,_⟩:=I.tuple (.of w);obtain⟨d,P,p2,_⟩:=I.tuple (.of t);obtain⟨⟨O,N,z,C⟩,o,r,n,q⟩:=id J;obtain⟨⟨A,k,data2,j⟩,f,i,K,g⟩:=id p2;simp only at r q i g;subst r q i g;let M:B=[]:=(L2.Vals.uo D).mpr e
   show aaL ⟨_,o,rfl⟩ ⟨_,f,rfl⟩ ZJ aaq Y2 YV (YM _ _)
    (tuple_addW0 a b B.toArray d.toArray n K N k C j (by simp[M])) ⟨o,f,⟨.ref b,H,I,rfl,G e⟩⟩
 . show N1 c s σ H _ _ v u Q I m l ⟨a,b,xs,ys,rfl,rfl,.of w,.of t,e,L,F e,E e⟩
def yh:fillsNumberSlot (.type "tuple") "mul"=pure false:=
 PySem.fillsNumberSlot_seq (id:="tuple.__mul__") (r:=some (.builtin "tuple.__rmul__")) Zb.lookup (by decide+kernel) F.slot_tuple_rmul.lookup (by decide+kernel)
def FT:seqRepeat? (.type "tuple")=pure (some (.builtin "tuple.__mul__")):=by
 unfold seqRepeat?;rw[PySem.seqSlot_of (T:="tuple") (name:="__mul__") (id:="tuple.__mul__") Zb.lookup (by decide+kernel),PySem.seqSlot_of (T:="tuple") (name:="__rmul__") (id:="tuple.__rmul__") F.slot_tuple_rmul.lookup (by decide+kernel)];rfl
def BW(a:Int)(t:Tok)(l:Addr)(ao:Array Value)(n:Nat)(c:Option Addr)(b:Array (Option Value)):Meets (Builtin.«int.__rmul__» ⟨[.int a t,.ref l],[]⟩) (λ_ R s=>s.heap.get? l=some {cls:= .type "tuple",dict:=c,data:= .seq ao n,slots:=b}/\R (.ok (.ret Value.notImplemented)) s):=
 .of_wp λP w A R s h=>by
  obtain⟨f,g,d,tk,e⟩:=s;obtain⟨i,h⟩:=h
  wp_walk
  show⟨_,rfl,h⟩
def Bp(l:Addr)(ao:Array Value)(n:Nat)(c:Option Addr)(a:Array (Option Value))(x:Int)(u:Tok)(b:(decide (x< -(2^63))||decide (x>=2^63))=false)(j:(ao.isEmpty||x==1)=true):
 Meets (Builtin.«tuple.__mul__» ⟨[.ref l,.int x u],[]⟩) (λ_ R s=>s.heap.get? l=some {cls:= .type "tuple",dict:=c,data:= .seq ao n,slots:=a}/\R (.ok (.ret (.ref l))) s):=
 .of_wp λP w A R s h=>by
  obtain⟨f,g,d,tk,e⟩:=s;obtain⟨i,h⟩:=h
  wp_walk
  show ZX (by rw[b];rfl) ?_
  wp_walk
  show⟨_,rfl,h⟩
def AY(l:Addr)(ao:Array Value)(n:Nat)(c:Option Addr)(a:Array (Option Value))(x:Int)(u:Tok)(b:(decide (x< -(2^63))||decide (x>=2^63))=false)(k:(ao.isEmpty||x==1)=false)(j:(decide (x<=0)||ao.isEmpty)=true):
 Meets (Builtin.«tuple.__mul__» ⟨[.ref l,.int x u],[]⟩) (λ_ R s=>s.heap.get? l=some {cls:= .type "tuple",dict:=c,data:= .seq ao n,slots:=a}/\R (.ok (.ret (.ref s.heap.objs.size))) {s with heap:=s.heap.push {cls:= .type "tuple",data:= .seq #[]}}):=
 .of_wp λP w A R s h=>by
  obtain⟨f,g,d,tk,e⟩:=s;obtain⟨i,h⟩:=h
  wp_walk
  show ZX (by rw[b];rfl) ?_
  wp_walk
  show⟨_,rfl,h⟩
def B4(l:Addr)(ao:Array Value)(n:Nat)(i:Option Addr)(c:Array (Option Value))(x:Int)(u:Tok)(f:(decide (x< -(2^63))||decide (x>=2^63))=false)(r:(ao.isEmpty||x==1)=false)(q:(decide (x<=0)||ao.isEmpty)=false)(e:¬((ao.size:Int)*x>(2^63-1)/8))(p:Builtin.Tuple.tupleTooMany (ao.size*x)=false)
 (k:(List.foldl (λb a=>b++a) #[] (List.replicate x.toNat ao)).size<=sizeLine):
 Meets (Builtin.«tuple.__mul__» ⟨[.ref l,.int x u],[]⟩) (λ_ R s=>s.heap.get? l=some {cls:= .type "tuple",dict:=i,data:= .seq ao n,slots:=c}/\R (.ok (.ret (.ref s.heap.objs.size))) {s with heap:=s.heap.push {cls:= .type "tuple",data:= .seq (List.foldl (λb a=>b++a) #[] (List.replicate x.toNat ao))}}):=
 .of_wp λP w A R s h=>by
  obtain⟨m,g,d,tk,j⟩:=s;obtain⟨o,h⟩:=h
  wp_walk
  show ZX (by rw[f];rfl) ?_
  wp_walk
  show ZX (WH e) ?_
  wp_walk
  show⟨_,rfl,h⟩
def Pe:cf X (binaryOp .Mult) (λx y H Q=>∃l k xs,x= .ref l/\y= .int k/\H l=some (.tup xs)/\ -(2^63)<=k/\k<2^63/\xs.length*k.toNat<=sizeLine/\
 ((xs=[]\/k=1)->Q (.ref l) H)/\(¬(xs=[]\/k=1)->∀p,H p=none->Q (.ref p) (upd H p (.tup (List.replicate k.toNat xs).flatten)))):=by
 intro f s σ H x y v u Q I W S h;obtain⟨l,k,xs,rfl,rfl,hH,h1,h2,J,Y,w⟩:=h;cases W;obtain⟨t,rfl⟩:=S;obtain⟨a,r,Z,_⟩:=I.tuple (.of hH);obtain⟨⟨cls,o,data,j⟩,b,L,n,K⟩:=id Z;simp only at L K;subst L K;let B:xs.length=a.length:=r.length
 let G:(decide (k< -(2^63))||decide (k>=2^63))=false:=by
  rw[WH (by lia),WH (by lia)];rfl
 show aaB (T:="tuple") (U:="int") (by decide) ⟨_,b,rfl⟩ (λR=>aaA R k t) yh F.fills_int_mul ZW FT F.slot_int_index.lookup
  (Za ZW (aaA s k t) F.entry_int_rmul (F.args_int_rmul_2 _ _) (BW k t l a.toArray n o j) ⟨b,rfl,⟨_,b,rfl⟩,?_⟩)
 by_cases e:xs=[]\/k=1
 . have m:(a.toArray.isEmpty||k==1)=true:=by
    rcases e with z|z
    . have:a=[]:=Xg.mp (by rw[<-B,z];rfl);rw[this];rfl
    . rw[z];simp
   show Za Zb ⟨_,b,rfl⟩ aaw (aaj _ _) (Bp l a.toArray n o j k t G m) ⟨b,⟨.ref l,H,I,rfl,Y e⟩⟩
 . have A:a≠ []:=λz=>e (.inl (Xg.mp (by rw[B,z];rfl)));let C:k≠1:=λz=>e (.inr z);let N:a.toArray.isEmpty=false:=by simpa using A
   let m:(a.toArray.isEmpty||k==1)=false:=by rw[N];simpa using C
   let new:∀(i:List Value) (g:List V),Vals g i->g.length<=sizeLine->Inv X f σ (upd H s.heap.objs.size (.tup g)) {s with heap:=s.heap.push {cls:= .type "tuple",data:= .seq i.toArray}}:=λi g hv hy=>
    I.laid (t':=s.toks) (λ_ _ q=>V_ _ q) (Wg _) ⟨hy,i,hv,⟨_,Wu _ rfl,rfl,_,rfl⟩⟩
   by_cases M:k<=0
   . have E:(decide (k<=0)||a.toArray.isEmpty)=true:=by rw[Xb M];rfl
     show Za Zb ⟨_,b,rfl⟩ aaw (aaj _ _) (AY l a.toArray n o j k t G m E) ⟨b,?_⟩;let ez:k.toNat=0:=by lia
     rw[ez]at w;show⟨.ref _,_,new [] [] .nil (WU _),rfl,w e _ I.fresh⟩
   . have E:(decide (k<=0)||a.toArray.isEmpty)=false:=by rw[WH M,N];rfl
     let hk:(k.toNat:Int)=k:=by lia
     let d:a.toArray.size*k.toNat<=sizeLine:=by rw[Wl,<-B];show J
     let ah:((a.toArray.size:Nat):Int)*k<=(sizeLine:Int):=by
      rw[<-hk]
      exact_mod_cast d
     let f3:¬(((a.toArray.size:Nat):Int)*k>(2^63-1)/8):=by
      let:((sizeLine:Nat):Int)<=(2^63-1)/8:=by decide
      lia
     let f4:Builtin.Tuple.tupleTooMany (((a.toArray.size:Nat):Int)*k)=false:=by
      unfold Builtin.Tuple.tupleTooMany;show WH (by lia)
     let c:List.foldl (λP O=>P++O) #[] (List.replicate k.toNat a.toArray)=(List.replicate k.toNat a).flatten.toArray:=by
      let:=foldl_rep a k.toNat [];rw[aaT]at this;show this
     let D:(List.replicate k.toNat a).flatten.length=a.length*k.toNat:=by rw[len_rep,X6]
     show Za Zb ⟨_,b,rfl⟩ aaw (aaj _ _) (B4 l a.toArray n o j k t G m E f3 f4 (by rw[c,Wl,D];show d)) ⟨b,?_⟩;rw[c];show⟨.ref _,_,new _ _ (r.rep k.toNat) (by rw[len_rep,X6];show J),rfl,w e _ I.fresh⟩
def Mg:dc:=λx y st K=>match x,y with
 | .int i,.int j=>K (.int (i+j)) st
 | .tup b,.tup a=>b.length+a.length<=sizeLine/\K (.tup (b++a)) st
 | .lst b,.lst a=>b.length+a.length<=sizeLine/\K (.lst (b++a)) st
 | .str x,.str y=>x.length+y.length<=sizeLine/\K (.str (x++y)) st
 |_,_=>False
def TQ:cf X (binaryOp .Add) (LR Mg):=λc s σ H x y v u Q I r o ⟨α,d,e,st,K,G,E,P,g,f,S,q,k⟩=>by
 cases d<;>cases e<;>try show q.elim
 . unfold Rep at g f;show QL c s σ H x y v u Q I r o ⟨_,_,g,f,k.here P q S (by unfold Rep;rfl)⟩
 . unfold Rep at g f;show Fy c s σ H x y v u Q I r o ⟨_,_,g,f,q.1,k.here P q.2 S (by unfold Rep;rfl)⟩
 . unfold Rep at g f;obtain⟨a,n,rfl,na,w,l⟩:=g;obtain⟨b,m,rfl,B,t,j⟩:=f;show xX c s σ H _ _ v u Q I r o ⟨a,b,n,m,rfl,rfl,fv P w,fv P t,by rw[<-l.length,<-j.length];show q.1,λp A=>?_⟩;show k.lst P q.2 S (aU.mpr (dU (aU.mp l) (aU.mp j))) A
 . rename_i D C;unfold Rep at g f;obtain⟨a,n,rfl,na,w,l⟩:=g;obtain⟨b,m,rfl,B,t,j⟩:=f;let i:=l.length;let h:=j.length;show Lo c s σ H _ _ v u Q I r o ⟨a,b,n,m,rfl,rfl,P.get w,P.get t,by rw[<-i,<-h];show q.1,λz=>?_,λ_ z=>?_,λ_ _ p A=>?_⟩
   . show k.here P q.2 S ?_;unfold Rep;let:D=[]:=by rw[z]at i;show Xg.mp i
     subst this;show⟨b,m,rfl,B,t,j⟩
   . show k.here P q.2 S ?_;unfold Rep;let:C=[]:=by rw[z]at h;show Xg.mp h
     subst this;rw[Xw];show⟨a,n,rfl,na,w,l⟩
   . show k.tup P q.2 S (aU.mpr (dU (aU.mp l) (aU.mp j))) A
def MK:dc:=λx y st K=>match x,y with
 | .int i,.int j=>IntMulOk i j/\K (.int (i*j)) st
 | .lst a,.int k=>(-(2^63)<=k/\k<2^63/\a.length*k.toNat<=sizeLine)/\K (.lst (List.replicate k.toNat a).flatten) st
 | .tup a,.int k=>(-(2^63)<=k/\k<2^63/\a.length*k.toNat<=sizeLine)/\K (.tup (List.replicate k.toNat a).flatten) st
 |_,_=>False
def S9:cf X (binaryOp .Mult) (LR MK):=λb s σ H x y v u Q I r o ⟨α,d,e,st,K,G,E,P,c,g,S,q,k⟩=>by
 cases d<;>cases e<;>try show q.elim
 . unfold Rep at c g;let h:cf X (binaryOp .Mult) (rI IntMulOk λi j=> .int (i*j)):=MQ λ_ _ _ _ _ _ _ D q=>mul_int q D;show h b s σ H x y v u Q I r o ⟨_,_,c,g,q.1,k.here P q.2 S (by unfold Rep;rfl)⟩
 . unfold Rep at c g;obtain⟨a,n,rfl,na,A,f⟩:=c;show Oa b s σ H _ _ v u Q I r o ⟨a,_,n,rfl,g,fv P A,q.1.1,q.1.2.1,by rw[<-f.length];show q.1.2.2,λp w=>?_⟩;show k.lst P q.2 S (aU.mpr (pJ (aU.mp f) _)) w
 . rename_i l m;let t:=c;unfold Rep at c g;obtain⟨a,n,rfl,na,A,f⟩:=c;show Pe b s σ H _ _ v u Q I r o ⟨a,_,n,rfl,g,P.get A,q.1.1,q.1.2.1,by rw[<-f.length];show q.1.2.2,λC=>?_,λ_ p w=>k.tup P q.2 S (aU.mpr (pJ (aU.mp f) _)) w⟩
   let e:(List.replicate m.toNat l).flatten=l:=by
    rcases C with z|z
    . have:l=[]:=Xg.mp (by rw[f.length,z];rfl);rw[this];simp
    . rw[z];simp
   let B:=q.2;rw[e]at B;show k.here P B S t
def live(st:af):D->Bool
 | .ref n=>(match st[n]? with|some (.lst _)=>true|some (.ins _ _)=>true|_=>false)
 |_=>true
def vY{α:List (Option Addr)}{H:Hp}{st:af}{n:Nat}{v:V}(S:a_ α st H)(h:live st (.ref n)=true)(r:Rep α H (.ref n) v):∃a,v= .ref a:=by
 unfold live at h;simp only at h;split at h
 . rename_i e;obtain⟨a,b,_⟩:=S.gR e;show⟨a,dR b r⟩
 . rename_i e;obtain⟨a,b,_⟩:=S.xl e;show⟨a,dR b r⟩
 . cases h
def NY:dc:=λx y st K=>match y with| .aD=>live st x=true/\K (.bl (match x with| .aD=>false|_=>true)) st|_=>False
def O6:cf X (compareOp .IsNot) (LR NY):=cf.imp N4 λx y H Q ⟨α,d,e,st,K,G,g,P,b,c,S,q,k⟩=>by
 cases e<;>try show q.elim
 unfold Rep at c;show⟨c,k.here P q.2 S ?_⟩;unfold Rep;cases d
 case ref n=>
  obtain⟨a,rfl⟩:=vY S q.1 b;rfl
 all_goals(unfold Rep at b;first|(rw[b];rfl)|(obtain⟨a,f,rfl,_⟩:=b;rfl))
def qt:dc:=λx y st K=>match y with
 | .int i=>(match x with
   | .lst a=>(match du a i with|some d=>K d st|none=>False)
   | .tup a=>(match du a i with|some d=>K d st|none=>False)
   | .ref n=>(match st[n]? with|some (.lst a)=>(match du a i with|some d=>K d st|none=>False)|_=>False)
   |_=>False)
 |_=>False
def aJ.du(h:aJ α H a vs)(e:L2.du a i=some d):∃v,L2.du vs i=some v/\Rep α H d v:=by
 unfold L2.du at e⊢;rw[<-h.length];cases q:ki a.length i with
 |none=>rw[q]at e;cases e
 |some j=>rw[q]at e;show h.get e
def U9:L7 X (LR qt):=λvalue slice b s σ H x y v u Q I o m ⟨α,d,e,st,K,G,J,P,g,l,S,q,k⟩ t=>by
 cases e<;>try show q.elim
 unfold Rep at l;cases d<;>try show q.elim
 . rename_i i n;unfold qt at q;simp only at q;split at q
   . split at q
     . rename_i A F _ B j;obtain⟨a,E,c,D,C⟩:=S.gR F;let r:=dR E g;subst r;obtain⟨z,h,f⟩:=C.du j;show Er value slice b s σ H _ _ v u Q I o m ⟨a,c,_,z,rfl,l,.of (P.get D),h,k.here P q S f⟩ t
     . show q.elim
   . show q.elim
 . unfold qt at q;simp only at q;split at q
   . rename_i A B j;unfold Rep at g;obtain⟨a,c,rfl,na,w,p⟩:=g;obtain⟨z,h,f⟩:=p.du j;show Er value slice b s σ H _ _ v u Q I o m ⟨a,c,_,z,rfl,l,.inl (fv P w),h,k.here P q S f⟩ t
   . show q.elim
 . unfold qt at q;simp only at q;split at q
   . rename_i A B j;unfold Rep at g;obtain⟨a,c,rfl,na,w,p⟩:=g;obtain⟨z,h,f⟩:=p.du j;show QW value slice b s σ H _ _ v u Q I o m ⟨a,c,_,z,rfl,l,.of (P.get w),h,k.here P q S f⟩ t
   . show q.elim
def Vg(g:PE X a (LE d))(f:PE X b (LE c))(e:uc b:=by intro _ _;rfl):PE X (.Subscript a b pos) (LE (aj qt d c)):=PE.imp (Ta U9 g f e) λ_ _ _ h=>LE.op h
def items?(st:af):D->Option (List D)
 | .lst a=>some a
 | .tup a=>some a
 | .ref n=>(match st[n]? with|some (.lst a)=>some a|_=>none)
 |_=>none
@[simp] theorem Uq(st:af)(xs:List D):items? st (.lst xs)=some xs:=rfl
@[simp] theorem Up(st:af)(xs:List D):items? st (.tup xs)=some xs:=rfl
@[simp] theorem items_int(st:af)(i:Int):items? st (.int i)=none:=rfl
@[simp] theorem Vb(st:af)(i:Bool):items? st (.bl i)=none:=rfl
@[simp] theorem items_str(st:af)(i:Str):items? st (.str i)=none:=rfl
@[simp] theorem UL(st:af):items? st .aD=none:=rfl
def au{st:af}{n:Nat}{xs:List D}(h:st[n]?=some (.lst xs)):items? st (.ref n)=some xs:=by unfold items?;simp![h]
def o6{α:List (Option Addr)}{H:Hp}{st:af}{d:D}{v:V}{xs:List D}(S:a_ α st H)(r:Rep α H d v)(e:items? st d=some xs):
 ∃p vs,v= .ref p/\aJ α H xs vs/\(Rd H p (.lst vs)\/H p=some (.tup vs)):=by
 cases d<;>try(cases e;done)
 . unfold items? at e;simp only at e;split at e
   . rename_i h q;cases e;obtain⟨a,g,vs,c,b⟩:=S.gR q;let f:=dR g r;subst f;show⟨a,vs,rfl,b,.inl (.of c)⟩
   . cases e
 . cases e;unfold Rep at r;obtain⟨a,vs,rfl,_,c,b⟩:=r;show⟨a,vs,rfl,b,.inl c⟩
 . cases e;unfold Rep at r;obtain⟨a,vs,rfl,_,c,b⟩:=r;show⟨a,vs,rfl,b,.inr c⟩
def Gb{K:PySem.W.Frag}{G F H:Hp}(P:cy G F H){p:Addr}{vs:List V}(h:Rd G p (.lst vs)\/G p=some (.tup vs)):mH K H p vs\/iF K H p vs:=h.elim (λz=> .inl (.inl (fv P z))) λz=> .inr (.of (P.get z))
def ib(r:aJ α H b xs)(e:b=[d]):∃v,xs=[v]/\Rep α H d v:=by
 subst e;unfold aJ at r;obtain⟨v,q,rfl,c,a⟩:=r;unfold aJ at a;subst a;show⟨v,rfl,c⟩
def nv{d e:D}(r:aJ α H a xs)(q:a=[d,e]):∃v u,xs=[v,u]/\Rep α H d v/\Rep α H e u:=by
 subst q;unfold aJ at r;obtain⟨v,q,rfl,f,c⟩:=r;obtain⟨u,rfl,b⟩:=ib c rfl;show⟨v,u,rfl,f,b⟩
def Ak:eM:=λb st K=>match b with
 | [.str x]=>x.length<=sizeLine/\K (.int x.length) st
 | [d]=>(match items? st d with|some a=>K (.int a.length) st|none=>False)
 |_=>False
def SA:bJ X (.builtin "len") (fD Ak):=λa s σ H l c Q I f ⟨α,m,st,K,G,n,P,r,S,q,k⟩=>by
 unfold Ak at q;split at q
 . rename_i x;obtain⟨v,rfl,b⟩:=ib r rfl;unfold Rep at b;subst b;show BM a s σ H _ c Q I f ⟨x,rfl,q.1,k.here P q.2 S (by unfold Rep;rfl)⟩
 . rename_i d _;split at q
   . rename_i j e;obtain⟨v,rfl,b⟩:=ib r rfl;obtain⟨p,g,rfl,i,h⟩:=o6 S b e;show BK a s σ H _ c Q I f ⟨p,g,rfl,Gb P h,k.here P q S (by unfold Rep;rw[i.length])⟩
   . show q.elim
 . show q.elim
def Ut(g:Int->Int):eM:=λa st K=>match a with| [.int i]=>K (.int (g i)) st|_=>False
abbrev Fd:eM:=Ut λi=>if i<0 then-i else i
def Um:bJ X (.builtin "abs") (fD Fd):=bJ.imp Ku λb H Q ⟨α,c,st,K,G,d,P,r,S,q,k⟩=>by
 unfold Fd Ut at q;split at q
 . obtain⟨v,rfl,a⟩:=ib r rfl;unfold Rep at a;subst a;show⟨_,rfl,k.here P q S (by unfold Rep;rfl)⟩
 . show q.elim
def QU(g:Int->Int->Int):eM:=λa st K=>match a with| [.int i,.int j]=>K (.int (g i j)) st|_=>False
abbrev GR:eM:=QU λi j=>if j>i then j else i
def TL(c:X.calm=true):bJ X (.builtin "max") (fD GR):=bJ.imp (Iy c) λd H Q ⟨α,e,st,K,G,f,P,r,S,q,k⟩=>by
 unfold GR QU at q;split at q
 . obtain⟨v,u,rfl,b,a⟩:=nv r rfl;unfold Rep at b a;subst b a;show⟨_,_,rfl,k.here P q S (by unfold Rep;rfl)⟩
 . show q.elim
def Gf:eM:=λa st K=>match a with| [.int i]=>K (.int i) st| [.bl b]=>K (.int (if b then 1 else 0)) st|_=>False
def Td:bJ X (.type "int") (fD Gf):=bJ.imp IE λb H Q ⟨α,c,st,K,G,d,P,r,S,q,k⟩=>by
 unfold Gf at q;split at q
 . obtain⟨v,rfl,a⟩:=ib r rfl;unfold Rep at a;subst a;show .inl ⟨_,rfl,k.here P q S (by unfold Rep;rfl)⟩
 . obtain⟨v,rfl,a⟩:=ib r rfl;unfold Rep at a;subst a;show .inr ⟨_,rfl,k.here P q S (by unfold Rep;rfl)⟩
 . show q.elim
def t8:eM:=λb st K=>match b with| [d]=>(match items? st d with|some a=>K (.tup a) st|none=>False)|_=>False
def Pc:bJ X (.type "tuple") (fD t8):=bJ.imp z8 λx H Q ⟨α,y,st,K,G,A,P,r,S,q,k⟩=>by
 unfold t8 at q;split at q
 . rename_i d;split at q
   . rename_i w e;obtain⟨v,rfl,c⟩:=ib r rfl;cases d with
     |tup u=>
      cases e;let m:=c;unfold Rep at c;obtain⟨a,g,rfl,na,b,s⟩:=c;show⟨a,g,rfl,.inr ⟨.of (P.get b),k.here P q S m⟩⟩
     |_=>
      obtain⟨p,g,rfl,j,h⟩:=o6 S c e;show⟨p,g,rfl,?_⟩;rcases h with h|h
      . show .inl ⟨.inl (fv P h),λl n=>k.tup P q S j n⟩
      . first
         |(cases e;done)
         |(exfalso
           unfold items? at e;simp only at e
           first
            |(split at e
              . rename_i z;obtain⟨a,t,f,b,s⟩:=S.gR z;let i:=dR t c;cases i;rw[h]at b;cases b
              . cases e)
            |(unfold Rep at c
              obtain⟨a,f,i,_,b,_⟩:=c;cases i;rcases b with b|⟨o,b⟩<;>(rw[h]at b;cases b)))
   . show q.elim
 . show q.elim
def wu:eM:=λb st K=>match b with| [d]=>(match items? st d with|some a=>K (.lst a) st|none=>False)|_=>False
def P_:bJ X (.type "list") (fD wu):=bJ.imp tL λg H Q ⟨α,i,st,K,G,j,P,r,S,q,k⟩=>by
 unfold wu at q;split at q
 . split at q
   . rename_i f e;obtain⟨v,rfl,c⟩:=ib r rfl;obtain⟨p,a,rfl,b,h⟩:=o6 S c e;show⟨p,a,rfl,Gb P h,λl d=>k.lst P q S b d⟩
   . show q.elim
 . show q.elim
def uh:eM:=λb st K=>match b with| [d]=>(match items? st d with|some a=>K (.ref st.length) (st++[.lst a])|none=>False)|_=>False
def O0:bJ X (.type "list") (fD uh):=bJ.imp tL λg H Q ⟨α,i,st,K,G,j,P,r,S,q,k⟩=>by
 unfold uh at q;split at q
 . split at q
   . rename_i f e;obtain⟨v,rfl,c⟩:=ib r rfl;obtain⟨p,a,rfl,b,h⟩:=o6 S c e;show⟨p,a,rfl,Gb P h,λl d=>k.new P q S b d⟩
   . show q.elim
 . show q.elim
def gp:List D->Option (List Bool)
 | []=>some []
 | .bl b::r=>(gp r).map (b:: ·)
 |_::_=>none
def mm:List D->Option (List Int)
 | []=>some []
 | .int b::r=>(mm r).map (b:: ·)
 |_::_=>none
def qJ:∀ {a:List D} {vs:List V} {bs:List Bool},aJ α H a vs->gp a=some bs->vs=bs.map V.bl
 | [],vs,bs,r,e=>by
   unfold aJ at r;cases e;show r
 |d::a,vs,bs,r,e=>by
  unfold aJ at r;obtain⟨v,q,rfl,b,c⟩:=r;cases d<;>try(cases e;done)
  unfold gp at e;cases z:gp a with
  |none=>rw[z]at e;cases e
  |some f=>
   rw[z]at e;cases e;unfold Rep at b;rw[b,qJ c z];rfl
def rS:∀ {a:List D} {vs:List V} {bs:List Int},aJ α H a vs->mm a=some bs->vs=bs.map V.int
 | [],vs,bs,r,e=>by
   unfold aJ at r;cases e;show r
 |d::a,vs,bs,r,e=>by
  unfold aJ at r;obtain⟨v,q,rfl,b,c⟩:=r;cases d<;>try(cases e;done)
  unfold mm at e;cases z:mm a with
  |none=>rw[z]at e;cases e
  |some f=>
   rw[z]at e;cases e;unfold Rep at b;rw[b,rS c z];rfl
def qr:∀ {bs:List Bool} {us:List Value},Vals (bs.map V.bl) us->us=bs.map Value.bool
 | [],_,.nil=>rfl
 |b::bs,_,.cons h t=>by
  let h:_=Value.bool b:=h;rw[h,qr t];rfl
def Ay:eM:=λb st K=>match b with| [.lst a]=>(match gp a with|some bs=>K (.bl (bs.all id)) st|none=>False)|_=>False
def range_all{α:Type}(l:List α)(f:α->Bool)(tr:Nat->Bool)(h:∀i x,l[i]?=some x->tr i=f x):(List.range l.length).all tr=l.all f:=by
 induction l generalizing tr with
 |nil=>rfl
 |cons a l b=>
  rw[WS,Xo,ZH,ZH,List.all_map,h 0 a rfl];congr 1;show b (tr∘Nat.succ) λi x e=>h (i+1) x (by simpa using e)
def Tj(F:X.calm=true):bJ X (.builtin "all") (fD Ay):=λm s σ H T V Q I B ⟨α,Z,st,K,G,F',P,r,S,q,k⟩=>by
 unfold Ay at q;split at q
 . rename_i R;split at q
   . rename_i bs e;obtain⟨v,rfl,l⟩:=ib r rfl;unfold Rep at l;obtain⟨a,U,rfl,na,M,L⟩:=l;obtain⟨u,rfl,y⟩:=vals1 B;cases y;let D:=qJ L e;subst D;obtain⟨z,ao,n,t,Y,j⟩:=Inv.sD I (fv P M);let c:=qr t;subst c;let g:s.heap.IsList a (bs.map Value.bool).toArray:=⟨_,j,rfl,n,rfl⟩
     show call_all_walk (YH g ?_);let h:a≠s.heap.objs.size:=WB (Wq j);show⟨s.heap.objs.size,_,_,_,_,_,λi=>(bs[i]?).getD true,rfl,Walks.list (A:=X.A.in1) (I.ok.hd F) _ a h (bs.map Value.bool).toArray,⟨⟨_,Wu _ rfl,rfl,rfl⟩,⟨_,V_ _ j,rfl,n,rfl⟩⟩,?_,?_⟩
     . intro i w W Q' E' d p;rw[aa4,Wr]at d;cases f:bs[i]? with
       |none=>rw[f]at d;cases d
       |some b=>
        rw[f]at d;cases d;simp![f]at p;show Yj p
     . intro N tk E
       let C:∀b o,s.heap.get? b=some o->N.get? b=some o:=λb o q=>E b o (by
        intro J;let:b=s.heap.objs.size:=by simpa using J
        show absurd (Wq q) (by rw[this];show WQ _)) (V_ _ q)
       let O:(List.range (bs.map Value.bool).toArray.size).all (λi=>(bs[i]?).getD true)=bs.all id:=by
        rw[Wl,Wd];show range_all bs id _ λi x e=>by rw[e];rfl
       rw[O];show⟨.bl (bs.all id),H,I.kept (t':=tk) C,rfl,k.here P q S (by unfold Rep;rfl)⟩
   . show q.elim
 . show q.elim
def fI(st:af):D->Option String
 | .aD=>some "NoneType"
 | .bl _=>some "bool"
 | .int _=>some "int"
 | .str _=>some "str"
 | .lst _=>some "list"
 | .tup _=>some "tuple"
 | .ref n=>(match st[n]? with|some (.lst _)=>some "list"|_=>none)
 | .ty _=>none
@[simp] theorem VT(st:af)(xs:List D):fI st (.lst xs)=some "list":=rfl
@[simp] theorem V6(st:af)(xs:List D):fI st (.tup xs)=some "tuple":=rfl
@[simp] theorem ty_int(st:af)(i:Int):fI st (.int i)=some "int":=rfl
@[simp] theorem V7(st:af)(i:Bool):fI st (.bl i)=some "bool":=rfl
@[simp] theorem ty_str(st:af)(i:Str):fI st (.str i)=some "str":=rfl
@[simp] theorem VY(st:af):fI st .aD=some "NoneType":=rfl
def sP(t c:String):Bool:=t==c||(t=="bool"&&c=="int")
def AV{α:List (Option Addr)}{H:Hp}{st:af}{K:PySem.W.Frag}{d:D}{v:V}{t:String}(S:a_ α st H)(r:Rep α H d v)(e:fI st d=some t):jI K H v (.type t):=by
 cases d<;>unfold fI at e<;>try(cases e;done)
 . unfold Rep at r;cases e;subst r;show .aD
 . unfold Rep at r;cases e;subst r;show .bl _
 . unfold Rep at r;cases e;subst r;show .int _
 . unfold Rep at r;cases e;subst r;show .str _
 . simp only at e;split at e
   . rename_i z;cases e;obtain⟨a,i,f,b,c⟩:=S.gR z;let h:=dR i r;subst h;show .lst b
   . cases e
 . cases e;unfold Rep at r;obtain⟨a,g,rfl,na,b,c⟩:=r;rcases b with b|⟨o,b⟩
   . show .lst b
   . show .gL b
 . cases e;unfold Rep at r;obtain⟨a,g,rfl,na,b,c⟩:=r;show .tup b
def EF{G F H:Hp}{K:PySem.W.Frag}(P:cy G F H){x:V}{t:Value}(h:jI K G x t):jI K H x t:=by
 cases h with
 |aD=>show .aD
 |bl x=>show .bl x
 |int x=>show .int x
 |str x=>show .str x
 |u0 x=>show .u0 x
 |lst e=>show .lst (P.get e)
 |gL e=>show .gL (P.get e)
 |tup e=>show .tup (P.get e)
 |dK e=>show .dK (P.get e)
 |dT e=>show .dT (P.get e)
 |ins e a b c d f=>show .ins (P.get e) a b c d f
def nJ:List String:=["NoneType","bool","int","str","list","tuple"]
def lX:List String:=["bool","int","str","list","tuple"]
def En(K:PySem.W.Frag)(a:t∈nJ)(b:c∈lX):PySem.W.kitOne K (.type t) (.type c)=some (sP t c):=by
 simp![nJ,lX,Wy,WE,YD]at a b;rcases a with rfl|rfl|rfl|rfl|rfl|rfl<;>rcases b with rfl|rfl|rfl|rfl|rfl<;>with_unfolding_all rfl
def qK{st:af}{d:D}{t:String}(e:fI st d=some t):t∈nJ:=by
 cases d<;>unfold fI at e<;>first
  |(cases e;done)
  |(cases e;decide)
  |(simp only at e;split at e<;>cases e;decide)
def kitx_of{pins:List (Addr×Obj)}{σ:L2.St}{H:Hp}{s:Shared}{x:V}{u:Value}{t:String}(I:Inv X pins σ H s)(b:RelV x u)(j:jI X.K H x (.type t)):
 ∃h:Heap->Prop,PySem.W.KitX X.K u (.type t) h/\h s.heap/\u≠ .builtin "__main__.__loader__#opaque":=by
 cases j with
 |aD=>cases (show u=Value.none from b);show⟨_,PySem.W.kitx_none,True.intro,λz=>nomatch z⟩
 |bl y=>cases (show u=Value.bool y from b);show⟨_,PySem.W.kitx_bool,True.intro,λz=>nomatch z⟩
 |int i=>obtain⟨t,q⟩:=(show∃t,u=Value.int i t from b);cases q;show⟨_,PySem.W.kitx_int,True.intro,λz=>nomatch z⟩
 |str y=>obtain⟨t,q⟩:=(show∃t,u=Value.str y t from b);cases q;show⟨_,PySem.W.kitx_str,True.intro,λz=>nomatch z⟩
 |u0 y=>obtain⟨t,q⟩:=(show∃t,u=Value.float y t from b);cases q;show⟨_,PySem.W.kitx_float,True.intro,λz=>nomatch z⟩
 | @lst a f d=>
   cases (show u=Value.ref a from b);obtain⟨_,_,n,_,c⟩:=(show dw X.prog X.w H s.heap a (.lst f)from I.aK a _ d)
   show⟨_,Zt,⟨_,c,rfl⟩,λz=>nomatch z⟩
 | @gL a k f d=>
   cases (show u=Value.ref a from b);obtain⟨_,_,_,n,_,c⟩:=(show dw X.prog X.w H s.heap a (.gL k (.lst f))from I.aK a _ d)
   show⟨_,Zt,⟨_,c,rfl⟩,λz=>nomatch z⟩
 | @tup a f d=>
   cases (show u=Value.ref a from b);obtain⟨_,_,_,p⟩:=(show dw X.prog X.w H s.heap a (.tup f)from I.aK a _ d)
   obtain⟨o,c,g,_⟩:=p;show⟨_,PySem.W.kitx_tuple,⟨o,c,g⟩,λz=>nomatch z⟩
 | @dK a e d=>
   cases (show u=Value.ref a from b);obtain⟨_,_,r,_,p⟩:=(show dw X.prog X.w H s.heap a (.dK e)from I.aK a _ d)
   obtain⟨o,l,m,c,g,_⟩:=p;show⟨_,Zu,⟨o,c,g.1⟩,λz=>nomatch z⟩
 | @dT a e d=>
   cases (show u=Value.ref a from b);obtain⟨_,_,f,_,o,l,m,c,g,_⟩:=(show dw X.prog X.w H s.heap a (.dT e)from I.aK a _ d)
   show⟨_,Zu,⟨o,c,g.1⟩,λz=>nomatch z⟩
def nP:List D->Option (List String)
 | []=>some []
 | .ty b::r=>(nP r).map (b:: ·)
 |_::_=>none
def C7:∀ {a:List D} {vs:List V} {bs:List String},aJ α H a vs->nP a=some bs->vs=bs.map V.ty
 | [],vs,bs,r,e=>by
   unfold aJ at r;cases e;show r
 |d::a,vs,bs,r,e=>by
  unfold aJ at r;obtain⟨v,q,rfl,b,c⟩:=r;cases d<;>try(cases e;done)
  unfold nP at e;cases z:nP a with
  |none=>rw[z]at e;cases e
  |some f=>
   rw[z]at e;cases e;unfold Rep at b;rw[b,C7 c z];rfl
def CB:∀ {bs:List String} {us:List Value},Vals (bs.map V.ty) us->us=bs.map Value.type
 | [],_,.nil=>rfl
 |b::bs,_,.cons h t=>by
  let h:_=Value.type b:=h;rw[h,CB t];rfl
def Et(K:PySem.W.Frag)(a:t∈nJ):∀cs:List String,(∀c∈cs,c∈lX)->PySem.W.kitAny K (.type t) (cs.map Value.type)=some (cs.any (sP t))
 | [],_=>rfl
 |c::cs,h=>by
  change(match PySem.W.kitOne K (.type t) (.type c)with|some true=>some true|some false=>PySem.W.kitAny K (.type t) (cs.map Value.type)|none=>none)=_;rw[En K a (h c Wx),aar];cases sP t c with
  |true=>rfl
  |false=>show Et K a cs λc b=>h c (Ww _ b)
def xf:eM:=λa st K=>match a with
 | [d,.ty c]=>(match fI st d with|some t=>c∈lX/\K (.bl (sP t c)) st|none=>False)
 | [d,.tup b]=>(match fI st d,nP b with|some t,some cl=>(∀c∈cl,c∈lX)/\K (.bl (cl.any (sP t))) st|_,_=>False)
 |_=>False
def SW:bJ X (.builtin "isinstance") (fD xf):=λm s σ H L N Q I l ⟨α,T,st,K,G,F',P,r,S,q,k⟩=>by
 unfold xf at q;split at q
 . rename_i d c;split at q
   . rename_i t e;obtain⟨v,x,rfl,i,f⟩:=nv r rfl;obtain⟨u,g,rfl,h,b⟩:=vals2 l;unfold Rep at f;subst f;cases (show g=Value.type c from b);show HX I h (EF P (AV S i e)) (En _ (qK e) q.1) λtk=>⟨.bl (sP t c),H,I.tok tk,rfl,k.here P q.2 S (by unfold Rep;rfl)⟩
   . show q.elim
 . rename_i d V;split at q
   . rename_i t cl e F;obtain⟨v,x,rfl,i,f⟩:=nv r rfl;obtain⟨u,g,rfl,h,b⟩:=vals2 l;unfold Rep at f;obtain⟨a,M,rfl,na,E,D⟩:=f;cases (show g=Value.ref a from b);let z:=C7 D F;subst z;obtain⟨Y,Z,C,j⟩:=kitx_of I h (EF P (AV S i e));obtain⟨W,y,pl,R⟩:=I.tuple (iF.of (P.get E));let B:=CB y;subst B;obtain⟨⟨J,U,w,O⟩,A,p,n,o⟩:=pl;simp only at p o;subst p o;show PySem.W.kia_tup Z I.g4 C A (Et _ (qK e) cl q.1) j λtk=>⟨.bl _,H,I.tok tk,rfl,k.here P q.2 S (by unfold Rep;rfl)⟩
   . show q.elim
 . show q.elim
end
end L3
namespace L3
open PySem PySem.Spec L2 PySem.SeqAt
open PyProof.Rows hiding St
mutual
def cP:D->D->Bool
 | .aD,.aD=>true
 | .bl a,.bl b=>a==b
 | .bl a,.int b=>(if a then 1 else 0)==b
 | .int a,.bl b=>a==(if b then 1 else 0)
 | .int a,.int b=>a==b
 | .str a,.str b=>a==b
 | .lst d,.lst c=>fM d c
 | .tup d,.tup c=>fM d c
 |_,_=>false
def fM:List D->List D->Bool
 | [],[]=>true
 |x::xs,y::ys=>cP x y&&fM xs ys
 |_,_=>false
end
def pl:Nat->D->Bool
 |_,.aD=>true
 |_,.bl _=>true
 |_,.int _=>true
 |_,.str _=>true
 |n+1,.lst a=>a.all (pl n)
 |n+1,.tup a=>a.all (pl n)
 |_,_=>false
mutual
def vK:∀(n:Nat) (d:D),pl n d=true->cP d d=true
 |_,.aD,_=>rfl
 |_,.bl _,_=>by simp[cP]
 |_,.int _,_=>by simp[cP]
 |_,.str _,_=>by simp[cP]
 |n+1,.lst a,h=>by unfold cP;show tm n a (by unfold pl at h;show h)
 |n+1,.tup a,h=>by unfold cP;show tm n a (by unfold pl at h;show h)
 |0,.lst a,h=>by cases h
 |0,.tup a,h=>by cases h
 |_,.ref _,h=>by unfold pl at h;cases h
 |_,.ty _,h=>by unfold pl at h;cases h
def tm:∀(n:Nat) (xs:List D),xs.all (pl n)=true->fM xs xs=true
 |_,[],_=>by unfold fM;rfl
 |n,x::xs,h=>by
  rw[ZH,W_]at h;unfold fM;rw[vK n x h.1,tm n xs h.2];rfl
end
mutual
def Rep.inj:∀ {d e:D} {v:V} (n:Nat),pl n d=true->pl n e=true->Rep α H d v->Rep α H e v->d=e
 | .aD,e,v,n,_,g,h,c=>by
   unfold Rep at h;subst h;cases e<;>first|(unfold pl at g;cases g;done)|(unfold Rep at c;cases c;rfl)|(unfold Rep at c;cases c;done)|(unfold Rep at c;obtain⟨_,_,c,_⟩:=c;cases c)|rfl|(cases c;done)|(obtain⟨_,_,c,_⟩:=c;cases c)|(obtain⟨_,_,c⟩:=c;cases c)
 | .bl b,e,v,n,_,g,h,c=>by
   unfold Rep at h;subst h;cases e<;>first|(unfold pl at g;cases g;done)|(unfold Rep at c;cases c;rfl)|(unfold Rep at c;cases c;done)|(unfold Rep at c;obtain⟨_,_,c,_⟩:=c;cases c)|(cases c;rfl)|(cases c;done)|(obtain⟨_,_,c,_⟩:=c;cases c)|(obtain⟨_,_,c⟩:=c;cases c)
 | .int b,e,v,n,_,g,h,c=>by
   unfold Rep at h;subst h;cases e<;>first|(unfold pl at g;cases g;done)|(unfold Rep at c;cases c;rfl)|(unfold Rep at c;cases c;done)|(unfold Rep at c;obtain⟨_,_,c,_⟩:=c;cases c)|(cases c;rfl)|(cases c;done)|(obtain⟨_,_,c,_⟩:=c;cases c)|(obtain⟨_,_,c⟩:=c;cases c)
 | .str b,e,v,n,_,g,h,c=>by
   unfold Rep at h;subst h;cases e<;>first|(unfold pl at g;cases g;done)|(unfold Rep at c;cases c;rfl)|(unfold Rep at c;cases c;done)|(unfold Rep at c;obtain⟨_,_,c,_⟩:=c;cases c)|(cases c;rfl)|(cases c;done)|(obtain⟨_,_,c,_⟩:=c;cases c)|(obtain⟨_,_,c⟩:=c;cases c)
 | .ty b,e,v,n,i,g,h,c=>by unfold pl at i;cases i
 | .ref b,e,v,n,i,g,h,c=>by unfold pl at i;cases i
 | .lst q,e,v,0,i,g,h,c=>by cases i
 | .tup q,e,v,0,i,g,h,c=>by cases i
 | .lst q,e,v,n+1,i,g,h,c=>by
   unfold Rep at h;obtain⟨a,t,rfl,na,k,r⟩:=h;cases e<;>unfold Rep at c<;>try(cases c;done)
   . unfold pl at g;cases g
   . obtain⟨s,l,p,m,f,j⟩:=c;cases p
     let:t=l:=by
      rcases k with k|⟨o,k⟩<;>rcases f with f|⟨u,f⟩<;>(rw[k]at f;first|(cases f;rfl)|(cases f;done))
     subst this;rw[aJ.inj n (by unfold pl at i;show i) (by unfold pl at g;show g) r j]
   . obtain⟨s,l,p,m,f,j⟩:=c;cases p;rcases k with k|⟨o,k⟩<;>(rw[k]at f;cases f)
 | .tup q,e,v,n+1,i,g,h,c=>by
   unfold Rep at h;obtain⟨a,t,rfl,na,k,r⟩:=h;cases e<;>unfold Rep at c<;>try(cases c;done)
   . unfold pl at g;cases g
   . obtain⟨s,l,p,m,f,j⟩:=c;cases p;rcases f with f|⟨o,f⟩<;>(rw[k]at f;cases f)
   . obtain⟨s,l,p,m,f,j⟩:=c;cases p;rw[k]at f;cases f;rw[aJ.inj n (by unfold pl at i;show i) (by unfold pl at g;show g) r j]
def aJ.inj:∀ {f a:List D} {vs:List V} (n:Nat),f.all (pl n)=true->a.all (pl n)=true->aJ α H f vs->aJ α H a vs->f=a
 | [],a,vs,n,_,_,c,b=>by
   unfold aJ at c;subst c;cases a with
   |nil=>rfl
   |cons e a=>unfold aJ at b;obtain⟨_,_,h,_⟩:=b;cases h
 |d::f,a,vs,n,i,g,c,b=>by
  unfold aJ at c;obtain⟨v,r,rfl,k,j⟩:=c;cases a with
  |nil=>unfold aJ at b;cases b
  |cons e a=>
   unfold aJ at b;obtain⟨o,p,h,m,l⟩:=b;cases h;rw[ZH,W_]at i g;rw[Rep.inj n i.1 g.1 k m,aJ.inj n i.2 g.2 j l]
end
def nW:∀ {xs ys:List D},xs.length≠ys.length->fM xs ys=false
 | [],[],h=>absurd rfl h
 | [],_::_,_=>by unfold fM;rfl
 |_::_,[],_=>by unfold fM;rfl
 |x::xs,y::ys,h=>by
  unfold fM;rw[nW (by simpa using h),aa5]
def nU:∀ {xs ys:List D},xs.length=ys.length->fM xs ys=(List.range xs.length).all λj=>cP (xs.getD j .aD) (ys.getD j .aD)
 | [],[],_=>by unfold fM;rfl
 | [],_::_,h=>by cases h
 |_::_,[],h=>by cases h
 |x::xs,y::ys,h=>by
  unfold fM;rw[WS,Xo,ZH,List.all_map,nU (by simpa using h)];rfl
section
variable {X:Cx}{pins:List (Addr×Obj)}{σ:L2.St}{H:Hp}{s:Shared}{α:List (Option Addr)}
def ky{xs:List D}{ao:List Value}(r:aJ α H xs vs)(v:Vals vs ao)(j:Nat)(f:j<ao.length):∃x,xs[j]?=some (xs.getD j .aD)/\Rep α H (xs.getD j .aD) x/\RelV x ao[j]:=by
 let h:=r.length;let g:=v.length;let b:j<xs.length:=by lia
 let e:xs[j]?=some (xs.getD j .aD):=by rw[Wm b,Wo,Wm b];rfl
 obtain⟨x,q,d⟩:=r.get e;obtain⟨u,a,c⟩:=v.get q;rw[Wm f]at a;cases a;show⟨x,e,d,c⟩
def jd{xs:List D}(h:xs.all (pl n)=true)(j:Nat):pl n (xs.getD j .aD)=true:=by
 rw[Wo];cases e:xs[j]? with
 |none=>cases n<;>rfl
 |some d=>show WT.mp h d (WI e)
def zy:D->Bool
 | .aD=>true
 | .bl _=>true
 | .int _=>true
 | .str _=>true
 |_=>false
def D7{d e:D}(h:zy d=true)(g:zy e=true)(f:Rep α H d x)(c:Rep α H e y)(b:RelV x u)(a:RelV y v):RcAt A s u v (cP d e)/\EqAt A s u v (cP d e):=by
 cases d<;>cases e<;>try(first|(cases h;done)|(cases g;done))
 all_goals(unfold Rep at f c;subst f c)
 all_goals(first|(obtain⟨t,rfl⟩:=b;obtain⟨i,rfl⟩:=a)|(obtain⟨t,rfl⟩:=b;cases a)|(cases b;obtain⟨t,rfl⟩:=a)|(cases b;cases a))
 all_goals unfold cP
 . show⟨RcAt.none_none,EqAt.same _⟩
 . show⟨RcAt.none_bool _,EqAt.none_bool _⟩
 . show⟨RcAt.none_int _ _,EqAt.none_int _ _⟩
 . show⟨RcAt.none_str _ _,EqAt.none_str _ _⟩
 . show⟨RcAt.bool_none _,EqAt.bool_none _⟩
 . show⟨RcAt.bool_bool _ _,EqAt.bool_bool _ _⟩
 . show⟨RcAt.bool_int _ _ _,EqAt.bool_int _ _ _⟩
 . show⟨RcAt.bool_str _ _ _,EqAt.bool_str _ _ _⟩
 . show⟨RcAt.int_none _ _,EqAt.int_none _ _⟩
 . show⟨RcAt.int_bool _ _ _,EqAt.int_bool _ _ _⟩
 . show⟨RcAt.int_int _ _ _ _,EqAt.int_int _ _ _ _⟩
 . show⟨RcAt.int_str _ _ _ _,EqAt.int_str _ _ _ _⟩
 . show⟨RcAt.str_none _ _,EqAt.str_none _ _⟩
 . show⟨RcAt.str_bool _ _ _,EqAt.str_bool _ _ _⟩
 . show⟨RcAt.str_int _ _ _ _,EqAt.str_int _ _ _ _⟩
 . show⟨RcAt.str_str _ _ _ _,EqAt.str_str _ _ _ _⟩
def lst_is(I:Inv X pins σ H s)(r:Rep α H (.lst xs) x)(b:RelV x u):∃a vs ao,u= .ref a/\aJ α H xs vs/\Vals vs ao/\s.heap.IsList a ao.toArray:=by
 unfold Rep at r;obtain⟨a,vs,rfl,na,e,d⟩:=r;cases b;obtain⟨z,ao,n,c,g,f⟩:=Inv.sD I e;show⟨a,vs,ao,rfl,d,c,⟨_,f,rfl,n,rfl⟩⟩
def tup_is(I:Inv X pins σ H s)(r:Rep α H (.tup xs) x)(b:RelV x u):∃a vs ao,u= .ref a/\aJ α H xs vs/\Vals vs ao/\s.heap.IsTuple a ao.toArray:=by
 unfold Rep at r;obtain⟨a,vs,rfl,na,e,c⟩:=r;cases b;obtain⟨ao,d,p,f⟩:=I.tuple (iF.of e);show⟨a,vs,ao,rfl,c,d,p⟩
def zF(I:Inv X pins σ H s){A:Around}{e:D}(i:zy e=true)(h:Rep α H (.lst xs) x)(f:Rep α H e y)(g:RelV x u)(d:RelV y v)(b:A.units<cLine):
 (RcAt A s u v (cP (.lst xs) e)/\EqAt A s u v (cP (.lst xs) e))/\RcAt A s v u (cP e (.lst xs))/\EqAt A s v u (cP e (.lst xs)):=by
 obtain⟨a,j,k,rfl,_,_,c⟩:=lst_is I h g;cases e<;>try(cases i;done)
 all_goals(unfold Rep at f;subst f)
 all_goals(first|(obtain⟨t,rfl⟩:=d)|(cases d))
 all_goals unfold cP
 . show⟨⟨RcAt.list_none c b,EqAt.list_none c b⟩,RcAt.none_list c b,EqAt.none_list c b⟩
 . show⟨⟨RcAt.list_bool _ c b,EqAt.list_bool _ c b⟩,RcAt.bool_list _ c b,EqAt.bool_list _ c b⟩
 . show⟨⟨RcAt.list_int _ _ c b,EqAt.list_int _ _ c b⟩,RcAt.int_list _ _ c b,EqAt.int_list _ _ c b⟩
 . show⟨⟨RcAt.list_str _ _ c b,EqAt.list_str _ _ c b⟩,RcAt.str_list _ _ c b,EqAt.str_list _ _ c b⟩
def yP(I:Inv X pins σ H s){A:Around}{e:D}(i:zy e=true)(h:Rep α H (.tup xs) x)(f:Rep α H e y)(g:RelV x u)(d:RelV y v)(b:A.units<cLine):
 (RcAt A s u v (cP (.tup xs) e)/\EqAt A s u v (cP (.tup xs) e))/\RcAt A s v u (cP e (.tup xs))/\EqAt A s v u (cP e (.tup xs)):=by
 obtain⟨a,j,k,rfl,_,_,c⟩:=tup_is I h g;cases e<;>try(cases i;done)
 all_goals(unfold Rep at f;subst f)
 all_goals(first|(obtain⟨t,rfl⟩:=d)|(cases d))
 all_goals unfold cP
 . show⟨⟨RcAt.tuple_none c b,EqAt.tuple_none c b⟩,RcAt.none_tuple c b,EqAt.none_tuple c b⟩
 . show⟨⟨RcAt.tuple_bool _ c b,EqAt.tuple_bool _ c b⟩,RcAt.bool_tuple _ c b,EqAt.bool_tuple _ c b⟩
 . show⟨⟨RcAt.tuple_int _ _ c b,EqAt.tuple_int _ _ c b⟩,RcAt.int_tuple _ _ c b,EqAt.int_tuple _ _ c b⟩
 . show⟨⟨RcAt.tuple_str _ _ c b,EqAt.tuple_str _ _ c b⟩,RcAt.str_tuple _ _ c b,EqAt.str_tuple _ _ c b⟩
def EK{d e:D}(f:pl n d=true)(m:pl n e=true)(k:Rep α H d x)(j:Rep α H e y)(i:RelV x (.ref a))(g:RelV y (.ref b))(h:RcAt A s (.ref a) (.ref b) (cP d e)):
 RcAt A s (.ref a) (.ref b) (cP d e)/\EqAt A s (.ref a) (.ref b) (cP d e):=by
 show⟨h,?_⟩;by_cases c:a=b
 . subst c;let l:x=y:=RelV.inj i g;subst l;let:=Rep.inj n f m k j;subst this;rw[vK n d f];show EqAt.same _
 . show EqAt.of_refs c h
def GF(I:Inv X pins σ H s):∀(n:Nat) (A:Around) (d e:D) (x y:V) (u v:Value),pl n d=true->pl n e=true->Rep α H d x->Rep α H e y->RelV x u->RelV y v->A.units+n<cLine->
 RcAt A s u v (cP d e)/\EqAt A s u v (cP d e):=by
 intro n;induction n with
 |zero=>
  intro A d e x y u v z m l k i h hu;show D7 ?_ ?_ l k i h
  . cases d<;>first|rfl|(cases z)
  . cases e<;>first|rfl|(cases m)
 |succ n ih=>
  intro A d e x y u v z m l k i h hu;let c:A.units<cLine:=by lia
  let Q:A.in1.units+n<cLine:=by rw[Around.in1_units];lia
  cases d<;>try(cases z;done)
  case lst xs=>
   cases e<;>try(cases m;done)
   case lst ys=>
    have J:=l;let G:=k;let F:=i;let E:=h;obtain⟨a,S,r,rfl,L,C,q⟩:=lst_is I l i;obtain⟨b,R,f,rfl,K,B,o⟩:=lst_is I k h;let e1:=L.length;let e2:=C.length;let e3:=K.length;let e4:=B.length;show EK z m J G F E ?_;unfold cP;by_cases g:xs.length=ys.length
    . rw[nU g];let w:r.toArray.size=f.toArray.size:=by simp![Wl];lia
      let Y:xs.length=r.toArray.size:=by simp![Wl];lia
      rw[Y];show RcAt.lists q o w c λj h1 h2=>?_;let P:j<r.length:=by simpa using h1
      let O:j<f.length:=by simpa using h2
      obtain⟨p,_,U,T⟩:=ky L C j P;obtain⟨W,_,N,M⟩:=ky K B j O;show(ih A.in1 _ _ p W _ _ (jd (by unfold pl at z;show z) j) (jd (by unfold pl at m;show m) j) U N (by simpa using T) (by simpa using M) Q).2
    . rw[nW g];show RcAt.lists_lengths q o (by simp![Wl,ZY,ne_eq];lia) c
   case tup ys=>
    obtain⟨a,S,r,rfl,L,C,q⟩:=lst_is I l i;obtain⟨b,R,f,rfl,K,B,o⟩:=tup_is I k h;unfold cP;show⟨RcAt.list_tuple q o c,EqAt.list_tuple q o c⟩
   all_goals show(zF I rfl l k i h c).1
  case tup xs=>
   cases e<;>try(cases m;done)
   case tup ys=>
    have J:=l;let G:=k;let F:=i;let E:=h;obtain⟨a,S,r,rfl,L,C,q⟩:=tup_is I l i;obtain⟨b,R,f,rfl,K,B,o⟩:=tup_is I k h;let e1:=L.length;let e2:=C.length;let e3:=K.length;let e4:=B.length;show EK z m J G F E ?_;unfold cP
    let t:=RcAt.tuples (e:=λj=>cP (xs.getD j .aD) (ys.getD j .aD)) q o c λj h1 h2=>by
     let P:j<r.length:=by simpa using h1
     let O:j<f.length:=by simpa using h2
     obtain⟨p,_,U,T⟩:=ky L C j P;obtain⟨W,_,N,M⟩:=ky K B j O;show(ih A.in1 _ _ p W _ _ (jd (by unfold pl at z;show z) j) (jd (by unfold pl at m;show m) j) U N (by simpa using T) (by simpa using M) Q).2
    by_cases g:xs.length=ys.length
    . rw[nU g];let w:r.toArray.size=f.toArray.size:=by simp![Wl];lia
      let Y:xs.length=r.toArray.size:=by simp![Wl];lia
      rw[w,abh,ZK,Bool.and_true,<-w,<-Y]at t;show t
    . rw[nW g];let Z:(r.toArray.size==f.toArray.size)=false:=by simp![Wl,Yl,ne_eq];lia
      rw[Z,aa5]at t;show t
   case lst ys=>
    obtain⟨a,S,r,rfl,L,C,q⟩:=tup_is I l i;obtain⟨b,R,f,rfl,K,B,o⟩:=lst_is I k h;unfold cP;show⟨RcAt.tuple_list q o c,EqAt.tuple_list q o c⟩
   all_goals show(yP I rfl l k i h c).1
  all_goals
   cases e<;>try(cases m;done)
   case lst ys=>show(zF I rfl k l h i c).2
   case tup ys=>show(yP I rfl k l h i c).2
   all_goals show D7 rfl rfl l k i h
def Qx:dc:=λx y st K=>pl 40 x=true/\pl 40 y=true/\K (.bl (cP x y)) st
def Vc{k:Nat}(g:cU k X.A):cf X (compareOp .Eq) (LR Qx):=λpins s σ H x y v u Q I b a ⟨α,d,e,st,K,G,i,P,f,c,S,q,k⟩=>by
 let h:=g.units;show(GF I 40 X.A d e x y v u q.1 q.2.1 (f.mono P.same) (c.mono P.same) b a (by lia)).1 _ _ _ _ ⟨.bl (cP d e),H,I,rfl,k.here P q.2.2 S (by unfold Rep;rfl)⟩
def PH:dc:=λx y st K=>match x,y with
 | .int i,.int j=>K (.bl (!decide (i=j))) st
 | .bl i,.bl j=>K (.bl (!decide (i=j))) st
 | .str i,.str j=>K (.bl (!decide (i=j))) st
 |_,_=>False
def UZ:cf X (compareOp .NotEq) (LR PH):=cf.imp Uk λx y H Q ⟨α,d,e,st,K,G,c,P,b,a,S,q,k⟩=>by
 cases d<;>cases e<;>try show q.elim
 all_goals(unfold Rep at b a;subst b a)
 . show⟨rfl,k.here P q S (by unfold Rep;congr 2;show YN.mpr ⟨λh=>by cases h;rfl,λh=>by rw[h]⟩)⟩
 . show⟨rfl,k.here P q S (by unfold Rep;congr 2;show YN.mpr ⟨λh=>by cases h;rfl,λh=>by rw[h]⟩)⟩
 . show⟨rfl,k.here P q S (by unfold Rep;congr 2;show YN.mpr ⟨λh=>by cases h;rfl,λh=>by rw[h]⟩)⟩
end
end L3
namespace L3
open PySem PySem.Spec L2
open PyProof.Rows hiding St
def LC(α:List (Option Addr))(G F:Hp)(K:bZ->af->Prop)(Q:L2.St->Hp->Prop):Prop:=∀a b,K a b->∀d c f e,Step α G d c->cy c F f->eE d c a e->a_ d b c->Q e f
structure As(α:List (Option Addr))(G F:Hp)(DD:iQ)(D:Ends):Prop where
 nx:LC α G F DD.nx D.nx
 rt:LK α G F DD.rt D.rt
 bk:LC α G F DD.bk D.bk
 ct:LC α G F DD.ct D.ct
inductive UE(t:DS)(D:Ends)(σ:L2.St)(H:Hp):Prop
 |mk (α:List (Option Addr)) (σd:bZ) (st:af) (DD:iQ) (G F:Hp) (P:cy G F H) (R:eE α G σd σ) (S:a_ α st G) (h:t DD σd st) (k:As α G F DD D):UE t D σ H
def LS(t:DS):TS:=UE t
def LC.at{α b:List (Option Addr)}{G F c:Hp}{K:bZ->af->Prop}{Q:L2.St->Hp->Prop}(h:LC α G F K Q)(s:Step α G b c):LC b c F K Q:=λd a k e i g v f P R S=>h d a k e i g v (s.trans f) P R S
def LC.here{α:List (Option Addr)}{G F H:Hp}{K:bZ->af->Prop}{Q:L2.St->Hp->Prop}(h:LC α G F K Q)(P:cy G F H){a:bZ}{st:af}{σ:L2.St}(k:K a st)(R:eE α G a σ)(S:a_ α st G):Q σ H:=h a st k α G H σ Step.refl P R S
def As.at{D:Ends}(h:As α G F c D)(s:Step α G a b):As a b F c D:=⟨h.nx.at s,h.rt.at s,h.bk.at s,h.ct.at s⟩
section
variable {X:Cx}{a b c e o i:Expr}{es:List Expr}{ta tb tc te:DE}{pos:Pos}{st:Stmt}{sts:List Stmt}{t u:DS}
def PS.imp{t t':TS}(h:PS X st t)(f:∀D σ H,t' D σ H->t D σ H):PS X st t':=λd s σ H D I q=>h d s σ H D I (f D σ H q)
def g9.imp{t t':TS}(h:g9 X sts t)(f:∀D σ H,t' D σ H->t D σ H):g9 X sts t':=λd s σ H D I q=>h d s σ H D I (f D σ H q)
def cz:DS:=λD σ st=>D.nx σ st
def av(t u:DS):DS:=λD σ st=>t {D with nx:=u D} σ st
def NQ:g9 X [] (LS cz):=g9.imp NJ λD σ H ⟨α,d,st,f,G,F,P,R,S,t,k⟩=>k.nx.here P t R S
def N7(h:PS X st (LS t)):g9 X [st] (LS t):=NI h
def LB(h:PS X st (LS t))(m:g9 X sts (LS u)):g9 X (st::sts) (LS (av t u)):=g9.imp (JV h m) λD σ H ⟨α,g,st,v,G,F,P,R,S,t,k⟩=>
 ⟨α,g,st,_,G,F,P,R,S,t,λd f q j s x w l r p n=>⟨j,d,f,v,s,F,r,p,n,q,k.at l⟩,k.rt,k.bk,k.ct⟩
def Af:DS:=λD σ st=>D.ct σ st
def Dz:PS X (.Continue pos) (LS Af):=PS.imp D1 λD σ H ⟨α,d,st,f,G,F,P,R,S,t,k⟩=>k.ct.here P t R S
def a6(te:DE):DS:=λD σ st=>te σ st D.rt
def Rp(h:PE X e (LE te)):PS X (.Return (some e) pos) (LS (a6 te)):=PS.imp (Qa h) λD σ H ⟨α,d,st,f,G,F,P,R,S,t,k⟩=>⟨α,d,st,_,G,F,P,R,S,t,k.rt⟩
def E_:DS:=λD _ st=>D.rt .aD st
def O3:PS X (.Return none pos) (LS E_):=PS.imp O9 λD σ H ⟨α,d,st,f,G,F,P,R,S,t,k⟩=>k.rt.here P t S (by unfold Rep;rfl)
def eh(te:DE):DS:=λD σ st=>te σ st λ_ d=>D.nx σ d
def NA(h:PE X e (LE te))(l:swapsWith e none pos.line X.env=pure false:=by rfl):PS X (.Expr e pos) (LS (eh te)):=PS.imp (Ox h l) λD σ H ⟨α,g,st,w,G,F,P,R,S,t,k⟩=>
 ⟨α,g,st,_,G,F,P,R,S,t,λd j q p s H1 v f n m r=>(k.nx.at f).here n q (R.step f) m⟩
def cN(c:DT)(t u:DS):DS:=λD σ st=>c σ st λb d=>if b=true then t D σ d else u D σ d
def Tz{tc:DT}(p:PT X c (LT tc))(s:g9 X x (LS t))(r:g9 X y (LS u)):PS X (.If c x y pos) (LS (cN tc t u)):=PS.imp (Uj p s r) λD σ H ⟨α,g,st,n,G,F,P,R,S,t,k⟩=>by
 show⟨α,g,st,_,G,F,P,R,S,t,λb d q h m H1 f l j=>?_⟩;cases b with
 |true=>show⟨h,g,d,n,m,F,l,R.step f,j,q,k.at f⟩
 |false=>show⟨h,g,d,n,m,F,l,R.step f,j,q,k.at f⟩
abbrev fj:=D->bZ->Option bZ
def ba(i:Nat):fj:=λd σ=>some (σ.set i (some d))
def fz(i j:Nat):fj:=λd σ=>match d with| .tup [x,y]=>some ((σ.set i (some x)).set j (some y))|_=>none
inductive UP(t:fj)(v:V)(σ:L2.St)(H:Hp)(Q:L2.St->Hp->Prop):Prop
 |mk (α:List (Option Addr)) (σd:bZ) (st:af) (d:D) (K:bZ->af->Prop) (G F:Hp) (P:cy G F H) (R:eE α G σd σ) (S:a_ α st G) (r:Rep α G d v) (h:∃σ',t d σd=some σ'/\K σ' st) (k:LC α G F K Q):UP t v σ H Q
def LG(t:fj):TG:=UP t
def PG.imp{g:Expr}{t t':TG}(h:PG X g t)(f:∀v σ H Q,t' v σ H Q->t v σ H Q):PG X g t':=λd s σ H v u Q I r q=>h d s σ H v u Q I r (f v σ H Q q)
def OD{i:Nat}(h:PG X f (jo i)):PG X f (LG (ba i)):=PG.imp h λv σ H Q ⟨α,g,st,d,K,G,F,P,R,S,r,⟨j,e,q⟩,k⟩=>by
 cases e;show k.here P q (R.set i r) S
def Rw{i j:Nat}(h:PG X f (Lp X.K 2 (t9 (jo i) (t9 (jo j) Kx)))):PG X f (LG (fz i j)):=PG.imp h λv σ H Q ⟨α,w,st,d,K,G,F,P,R,S,r,⟨z,e,q⟩,k⟩=>by
 unfold fz at e;split at e
 . rename_i x y;cases e;unfold Rep at r;obtain⟨a,A,rfl,na,s,p⟩:=r;obtain⟨l,g,rfl,n,m⟩:=nv p rfl;show⟨a,_,rfl,.of (P.get s),rfl,l,_,rfl,g,_,rfl,rfl,k.here P q ((R.set i n).set j m) S⟩
 . cases e
def aN(i:Nat)(te:DE):DS:=λD σ st=>te σ st λd f=>D.nx (σ.set i (some d)) f
def Hw{i:Nat}(h:PS X st (mV (LE te) (jo i))):PS X st (LS (aN i te)):=PS.imp h λD σ H ⟨α,g,st,s,G,F,P,R,S,t,k⟩=>
 ⟨α,g,st,_,G,F,P,R,S,t,λd j q p r H1 v f n m l=>(k.nx.at f).here n q ((R.step f).set i l) m⟩
def xT(h:fj)(te:DE):DS:=λD σ st=>te σ st λd f=>∃g,h d σ=some g/\D.nx g f
def Qk(h:PS X st (mV (LE te) (LG j))):PS X st (LS (xT j te)):=PS.imp h λD σ H ⟨α,g,st,w,G,F,P,R,S,t,k⟩=>
 ⟨α,g,st,_,G,F,P,R,S,t,λd f q m s H1 v l r p n=>⟨m,g,f,d,w.nx,s,F,r,R.step l,p,n,q,k.nx.at l⟩⟩
def Ll(i j:Nat)(ta:DA):DS:=λD σ st=>ta σ st λf d=>match f with| [x,y]=>D.nx ((σ.set i (some x)).set j (some y)) d|_=>False
def PB{i j:Nat}{ta:DA}(h:PS X st (P7 i j (LA ta))):PS X st (LS (Ll i j ta)):=PS.imp h λD σ H ⟨α,g,st,C,G,F,P,R,S,t,k⟩=>by
 show⟨α,g,st,_,G,F,P,R,S,t,λs n q z B H1 A f w v d=>?_⟩;match s,q,d with
 | [x,y],q,d=>
   obtain⟨m,l,rfl,r,p⟩:=nv d rfl;show⟨m,l,rfl,(k.nx.at f).here w q (((R.step f).set i r).set j p) v⟩
def Bv(i:Nat)(r:dc)(te:DE):DS:=λD σ st=>match σ[i]? with|some (some x)=>te σ st λy f=>r x y f λz d=>D.nx (σ.set i (some z)) d|_=>False
def wO(f:Int->Int->Int):dc:=λx y st K=>match x,y with| .int i,.int j=>K (.int (f i j)) st|_,_=>False
def Rl{i:Nat}{f:Int->Int->Int}(h:PS X st (R8 i (LE te) (D6 f))):PS X st (LS (Bv i (wO f) te)):=PS.imp h λD σ H ⟨α,l,st,A,G,F,P,R,S,t,k⟩=>by
 unfold Bv at t;split at t
 . rename_i x e;obtain⟨v,ev,d⟩:=R.at' i x e;show⟨v,ev,α,l,st,_,G,F,P,R,S,t,λy m q s z H1 w g r p j=>?_⟩;cases x<;>cases y<;>try show q.elim
   let n:=d;unfold Rep at d j;show⟨_,_,d,j,(k.nx.at g).here r q ((R.step g).set i (by unfold Rep;rfl)) p⟩
 . show t.elim
def vI(x y d:D)(st:af)(K:af->Prop):Prop:=match x,y with
 | .ref n,.int k=>(match st[n]? with
   |some (.lst f)=>(match ki f.length k with|some j=>K (st.set n (.lst (f.set j d)))|none=>False)
   |_=>False)
 |_,_=>False
def RV(k l te:DE):DS:=λD σ st=>te σ st λd j=>k σ j λx h=>l σ h λy g=>vI x y d g λf=>D.nx σ f
def Lv(h:PS X st (mV (LE te) (CP (LE I) (LE J) wg))):PS X st (LS (RV I J te)):=PS.imp h λD σ H ⟨α,g,st,DD,G,F,P,R,S,t,k⟩=>by
 show⟨α,g,st,_,G,F,P,R,S,t,λd z q Q G1 H1 v r P1 S1 W=>?_⟩;show⟨Q,g,z,_,G1,F,P1,R.step r,S1,q,λx w Y O G2 H2 v2 m P2 S2 V=>?_⟩;show⟨O,g,w,_,G2,F,P2,(R.step r).step m,S2,Y,λy T f E G3 H3 v3 l P3 N L=>?_⟩;cases x<;>cases y<;>try show f.elim
 rename_i n Z;unfold vI at f;simp only at f;split at f
 . rename_i xs e;split at f
   . rename_i j ej;obtain⟨p,C,s,M,K⟩:=N.gR e;let A:=dR C (V.step l);subst A;unfold Rep at L;let B:some p∈E:=WI C;let U:=(W.step m).step l;show⟨p,s,Z,j,rfl,L,P3.get M,by rw[<-K.length];show ej,?_⟩;show(((k.nx.at r).at m).at l) g _ f E (upd G3 p (.lst (s.set j v))) _ σ (Step.write B) (P3.write M) ((((R.step r).step m).step l).step (Step.write B)) ?_;show N.write C ⟨s.set j v,a9,(aU.mpr (qT U j (aU.mp K))).step (Step.write B)⟩
   . show f.elim
 . show f.elim
def su(c:DT)(tb:DS):DS:=λD σ st=>∃W:Nat->bZ->af->Prop,(∃m,W m σ st)/\∀m σ st,W m σ st->
 c σ st λb f=>if b=true then tb {D with nx:=λh d=>∃g,g<m/\W g h d,ct:=λh d=>∃g,g<m/\W g h d,bk:=D.nx} σ f else D.nx σ f
def KJ{tc:DT}(h:PS X st (HE (LT tc) (LS t))):PS X st (LS (su tc t)):=PS.imp h λD σ H ⟨α,Q,st,DD,G,F,P,R,S,⟨W,⟨m0,Z⟩,turn⟩,k⟩=>by
 show⟨λm x y=>∃n d f g,Step α G n g/\cy g F y/\eE n g d x/\a_ n f g/\W m d f,⟨m0,α,Q,st,G,Step.refl,P,R,S,Z⟩,?_⟩;rintro m σ1 H1 ⟨V,l,v,G1,w,P1,L,S1,Y⟩;show⟨V,l,v,_,G1,F,P1,L,S1,turn m l v Y,λb C q U G2 H2 r O N=>?_⟩;cases b with
 |false=>show((k.nx.at w).at r).here O q (L.step r) N
 |true=>
  show⟨λx y=>∃s,s<m/\∃n d f g,Step α G n g/\cy g F y/\eE n g d x/\a_ n f g/\W s d f,λx y z=>z,?_⟩;show⟨U,l,C,_,G2,F,O,L.step r,N,q,?_⟩;show⟨?_,(k.rt.at w).at r,(k.nx.at w).at r,?_⟩
  . rintro j p ⟨s,I,B⟩ A M H3 T E P3 K J;show⟨s,I,A,j,p,M,(w.trans r).trans E,P3,K,J,B⟩
  . rintro j p ⟨s,I,B⟩ A M H3 T E P3 K J;show⟨s,I,A,j,p,M,(w.trans r).trans E,P3,K,J,B⟩
abbrev DI:=bZ->af->(List D->(af->Prop)->af->Prop)->Prop
structure vM(J:It)(α:List (Option Addr))(G:Hp)(ok:af->Prop)(xs:List D):Prop where
 stop:∀(n:Nat) α' G' F' H' st',Step α G α' G'->cy G' F' H'->a_ α' st' G'->ok st'->xs.length<=n->J.stop n H'
 go:∀(n:Nat) d α' G' F' H' st',Step α G α' G'->cy G' F' H'->a_ α' st' G'->ok st'->xs[n]?=some d->J.go n H'
 oW:∀(n:Nat) d α' G' F' H' st' x H'',Step α G α' G'->cy G' F' H'->a_ α' st' G'->ok st'->xs[n]?=some d->J.oW n H' x H''->∃G'',Step α' G' α' G''/\cy G'' F' H''/\a_ α' st' G''/\Rep α' G'' d x
def LI(t:DI):TI:=λσ H R=>∃α h st K G F,cy G F H/\eE α G h σ/\a_ α st G/\t h st K/\∀j ok d,K j ok d->∀J g f H1,Step α G g f->cy f F H1->a_ g d f->vM J g f ok j->R J H1
def ym(d:D)(f:af)(K:List D->(af->Prop)->af->Prop):Prop:=match d with
 | .lst g=>K g (λ_=>True) f
 | .tup g=>K g (λ_=>True) f
 | .ref n=>(match f[n]? with|some (.lst g)=>K g (λh=>h[n]?=some (.lst g)) f|_=>False)
 |_=>False
def To(t:DE):DI:=λσ st K=>t σ st λd f=>ym d f K
def Eu{K:PySem.W.Frag}{a:Addr}{α:List (Option Addr)}{G:Hp}{ok:af->Prop}{xs:List D}
 (h:∀j g f,Step α G j g->a_ j f g->ok f->∃vs,Rd g a (.lst vs)/\aJ j g xs vs):vM (PU K a) α G ok xs where
 stop:=λn j g q p f s P S o k=>by
  obtain⟨vs,m,l⟩:=h j g f s S o;show⟨vs,.inl (fv P m),by rw[<-l.length];show k⟩
 go:=λn d j g q p f s P S o k=>by
  obtain⟨vs,m,l⟩:=h j g f s S o;obtain⟨v,e,_⟩:=l.get k;show⟨vs,v,.inl (fv P m),e⟩
 oW:=λn d j g q p f x w s P S o k y=>by
  obtain⟨vs,m,l⟩:=h j g f s S o;obtain⟨v,e,r⟩:=l.get k;obtain⟨rfl,y⟩:=y;let:=y vs (.inl (fv P m));rw[e]at this;cases this;show⟨g,Step.refl,P,S,r⟩
def RG{K:PySem.W.Frag}{a:Addr}{α:List (Option Addr)}{G:Hp}{ok:af->Prop}{xs:List D}
 (h:∀j g f,Step α G j g->a_ j f g->ok f->∃vs,g a=some (.tup vs)/\aJ j g xs vs):vM (Q9 K a) α G ok xs where
 stop:=λn j g q p f s P S o k=>by
  obtain⟨vs,m,l⟩:=h j g f s S o;show⟨vs,.of (P.get m),by rw[<-l.length];show k⟩
 go:=λn d j g q p f s P S o k=>by
  obtain⟨vs,m,l⟩:=h j g f s S o;obtain⟨v,e,_⟩:=l.get k;show⟨vs,v,.of (P.get m),e⟩
 oW:=λn d j g q p f x w s P S o k y=>by
  obtain⟨vs,m,l⟩:=h j g f s S o;obtain⟨v,e,r⟩:=l.get k;obtain⟨rfl,y⟩:=y;let:=y vs (.of (P.get m));rw[e]at this;cases this;show⟨g,Step.refl,P,S,r⟩
def LW{a:Addr}(s:Step α G f d)(na:some a∉α)(j:Rd G a (.lst vs))(g:aJ α G xs vs):Rd d a (.lst vs)/\aJ f d xs vs:=by
 show⟨?_,g.step s⟩;rcases j with h|⟨o,h⟩
 . show .inl (s.ext _ _ na h)
 . show .inr ⟨o,s.ext _ _ na h⟩
def RY(hl:PE X l (LE tl)):PI X O l (LI (To tl)):=by
 intro j s σ H R I h;obtain⟨α,σd,st,K,G,F,P,RS,S,t,k⟩:=h;show bR (hl j s σ H (λx H1=>∃d w r f,Step α G w r/\cy r F H1/\a_ w f r/\Rep w r d x/\ym d f K) I ⟨α,σd,st,_,G,F,P,RS,S,t,λd f q w r H1 v g A E D=>⟨d,w,r,f,g,A,E,D,q⟩⟩) λv g ⟨x,H1,B,rx,d,w,r,f,C,A,E,D,q⟩=>?_;unfold ym at q
 let y:∀ {a:Addr} {m:List V},x= .ref a->Rd H1 a (.lst m)->R (PU X.K a) H1->wpAny (model X.prog X.w) X.A (pyIter v) (Md X j σ O R) X.xe g:=by
  intro a m Y U W;subst Y;cases rx;obtain⟨ao,rv,p,hz⟩:=B.list (.inl U);show YH p.isList ?_;show⟨g.heap.objs.size,[g.heap.objs.size],_,_,H1,rfl,B.kept (t':=g.toks) λb o e=>V_ _ e,Iw a _,⟨_,Wu _ rfl,rfl,rfl⟩,λb M=>?_,W⟩;let e:b=g.heap.objs.size:=by simpa using M
  subst e;show B.vw (Wg _) (B.aK.fresh (Wg _))
 let J:∀ {a:Addr} {m:List V},x= .ref a->H1 a=some (.tup m)->R (Q9 X.K a) H1->wpAny (model X.prog X.w) X.A (pyIter v) (Md X j σ O R) X.xe g:=by
  intro a m Y U W;subst Y;cases rx;obtain⟨ao,rv,p,hz⟩:=B.tuple (iF.of U);show aak (show g.heap.IsTuple a ao.toArray from p) ?_;show⟨g.heap.objs.size,[g.heap.objs.size],_,_,H1,rfl,B.kept (t':=g.toks) λb o e=>V_ _ e,Gx a _,⟨_,Wu _ rfl,rfl,rfl⟩,λb M=>?_,W⟩;let e:b=g.heap.objs.size:=by simpa using M
  subst e;show B.vw (Wg _) (B.aK.fresh (Wg _))
 cases d<;>try show q.elim
 . rename_i n;simp only at q;split at q
   . rename_i xs e;obtain⟨a,ea,m,h1,h2⟩:=E.gR e;let T:=dR ea D;subst T;show y rfl (fv A (.of h1)) (k _ _ f q _ w r H1 C A E (Eu λZ G' L s S o=>?_));obtain⟨b,eb,ws,g1,g2⟩:=S.gR o
     let M:b=a:=by
      rcases s.pre _ _ ea with z|z<;>(rw[z]at eb;cases eb)
      rfl
     subst M;show⟨ws,.of g1,g2⟩
   . show q.elim
 . unfold Rep at D;obtain⟨a,m,rfl,na,N,Q⟩:=D;show y rfl (fv A N) (k _ _ f q _ w r H1 C A E (Eu λZ G' L s S o=>⟨m,LW s na N Q⟩))
 . unfold Rep at D;obtain⟨a,m,rfl,na,N,Q⟩:=D;show J rfl (A.get N) (k _ _ f q _ w r H1 C A E (RG λZ G' L s S o=>⟨m,s.ext _ _ na N,Q.step s⟩))
def cT(d:Int)(n:Nat):List D:=(List.range n).map λ(k:Nat)=>D.int (d+(k:Int))
def wb{n k:Nat}:(cT d n)[k]?=if k<n then some (.int (d+(k:Int)))else none:=by
 unfold cT;rw[Wr];by_cases h:k<n
 . rw[Xq h,We h];rfl
 . rw[XR (by simpa using h),Wc h];rfl
def dM:(cT d n).length=n:=by unfold cT;simp
def BF{k:Int}:vM (y_ k n) α G (λ_=>True) (cT k n) where
 stop:=λm j h p l g s P S o f=>by rw[dM]at f;show f
 go:=λm d j h p l g s P S o f=>by
  rw[wb]at f;split at f
  . assumption
  . cases f
 oW:=λm d j h p l g x q s P S o f y=>by
  obtain⟨rfl,rfl⟩:=y;rw[wb]at f;split at f
  . cases f;show⟨h,Step.refl,P,S,by unfold Rep;rfl⟩
  . cases f
def PI.imp{t t':TI}(h:PI X j d t)(f:∀σ H R,t' σ H R->t σ H R):PI X j d t':=λg s σ H R I q=>h g s σ H R I (f σ H R q)
def Mn(f:List D)(d:af)(K:List D->(af->Prop)->af->Prop):Prop:=match f with
 | [.int j]=>(-(2^62)<=j/\j<2^62)/\K (cT 0 j.toNat) (λ_=>True) d
 |_=>False
def L_(f:List D)(d:af)(K:List D->(af->Prop)->af->Prop):Prop:=match f with
 | [.int i,.int j]=>(-(2^62)<=i/\i<2^62/\ -(2^62)<=j/\j<2^62)/\K (cT i (j-i).toNat) (λ_=>True) d
 |_=>False
def OX(t:DA):DI:=λσ st K=>t σ st λf d=>Mn f d K
def Pj(t:DA):DI:=λσ st K=>t σ st λf d=>L_ f d K
def Hj{t:DA}(h:PI X l d (Fe (LA t))):PI X l d (LI (OX t)):=PI.imp h λσ H R ⟨α,n,st,K,G,F,P,x,S,t,k⟩=>by
 show⟨α,n,st,_,G,F,P,x,S,t,λs f q p z H1 A r y w g=>?_⟩;match s,q,g with
 | [.int j],q,g=>
   obtain⟨v,rfl,m⟩:=ib g rfl;unfold Rep at m;subst m;show⟨j,rfl,q.1.1,q.1.2,k _ _ f q.2 _ p z H1 r y w BF⟩
def Il{t:DA}(h:PI X l d (FP (LA t))):PI X l d (LI (Pj t)):=PI.imp h λσ H R ⟨α,p,st,K,G,F,P,y,S,t,k⟩=>by
 show⟨α,p,st,_,G,F,P,y,S,t,λw f q r A H1 B s z x g=>?_⟩;match w,q,g with
 | [.int i,.int j],q,g=>
   obtain⟨v,u,rfl,n,m⟩:=nv g rfl;unfold Rep at n m;subst n m;show⟨i,j,rfl,q.1,k _ _ f q.2 _ r A H1 s z x BF⟩
def i8(f:fj)(d:DS)(ok:af->Prop)(E:iQ):List D->bZ->af->Prop
 | [],σ,st=>ok st/\E.nx σ st
 |x::xs,σ,st=>ok st/\∃g,f x σ=some g/\d {E with nx:=i8 f d ok E xs,ct:=i8 f d ok E xs,bk:=E.nx} g st
def eQ(g:DI)(j:fj)(d:DS):DS:=λD σ st=>g σ st λh ok f=>i8 j d ok D h σ f
def QA{B:DI}{K:fj}(h:PS X st (Rt (LI B) (LG K) (LS t))):PS X st (LS (eQ B K t)):=PS.imp h λD σ H ⟨α,σd,st,DD,G,F,P,R,S,tt,k⟩=>by
 show⟨α,σd,st,_,G,F,P,R,S,tt,λn ok U q J T G1 H1 L P1 S1 Y=>?_⟩;show⟨λi m s A=>∃p g f l,Step T G1 p l/\cy l F A/\eE p l g s/\a_ p f l/\i8 K t ok DD (n.drop i) g f/\m=n.length-i,⟨n.length,T,σd,U,G1,Step.refl,P1,R.step L,S1,q,rfl⟩,?_⟩;rintro i m σ2 H2 ⟨I,O,j,G2,C,N,R2,M,z,rfl⟩;cases e:n[i]? with
 |none=>
  have E:n.length<=i:=aaC.mp e;rw[Yo E]at z;unfold i8 at z;show .inl ⟨Y.stop i I G2 F H2 j C N M z.1 E,((k.nx.at L).at C).here N z.2 R2 M⟩
 |some d=>
  have E:i<n.length:=(Wa.mp e).1
  let ed:n.drop i=d::n.drop (i+1):=by
   rw[WG E];congr 1;rw[Wm E]at e;show W2 e
  rw[ed]at z;unfold i8 at z;obtain⟨aK,σ3,e3,q3⟩:=z;show .inr ⟨Y.go i d I G2 F H2 j C N M aK e,λs A=>∃p g f l,Step T G1 p l/\cy l F A/\eE p l g s/\a_ p f l/\i8 K t ok DD (n.drop (i+1)) g f,?_,?_⟩
  . rintro s A ⟨p,g,f,l,z1,z2,z3,z4,z5⟩;show⟨n.length-(i+1),by lia,p,g,f,l,z1,z2,z3,z4,z5,rfl⟩
  . intro x A y;obtain⟨G3,s3,P3,S3,r3⟩:=Y.oW i d I G2 F H2 j x A C N M aK e y;show⟨I,O,j,d,λs f=>s=σ3/\f=j,G3,F,P3,R2.step s3,S3,r3,⟨σ3,e3,rfl,rfl⟩,?_⟩;rintro s f ⟨rfl,rfl⟩ α4 G4 H4 σ4 s4 P4 R4 S4;let r:=(C.trans s3).trans s4;show⟨α4,s,f,_,G4,F,P4,R4,S4,q3,?_,((k.rt.at L).at r),(k.nx.at L).at r,?_⟩
    . intro v w W Q G5 H5 σ5 V P5 R5 Z;show⟨Q,v,w,G5,r.trans V,P5,R5,Z,W⟩
    . intro v w W Q G5 H5 σ5 V P5 R5 Z;show⟨Q,v,w,G5,r.trans V,P5,R5,Z,W⟩
end
def gT(fr:List (Option Nat))(σ:bZ):bZ:=fr.map λo=>o.bind λj=>(σ[j]?).join
def eE.comp(h:eE α G a σ):eE α G (gT fr a) (σC fr σ):=by
 show⟨by unfold gT σC;simp,λi d e=>?_⟩;unfold gT at e;rw[Wr]at e;cases q:fr[i]? with
 |none=>rw[q]at e;cases e
 |some o=>
  rw[q]at e;cases o with
  |none=>simp at e
  |some j=>
   simp![YZ,Option.some.injEq,Option.bind_some]at e
   let c:a[j]?=some (some d):=by
    cases r:a[j]? with
    |none=>rw[r]at e;cases e
    |some u=>rw[r]at e;simp at e;rw[e]
   obtain⟨v,ev,b⟩:=h.at' j d c;show⟨v,?_,b⟩;unfold σC;rw[Wr,q];simp[ev]
def dH(g:fj)(c:DT)(h:DE)(ok:af->Prop)(e:bZ):List D->List D->af->(List D->af->Prop)->Prop
 | [],a,st,K=>ok st/\K a st
 |x::xs,a,st,K=>ok st/\∃f,g x e=some f/\c f st λb d=>if b=true then h f d λy i=>dH g c h ok e xs (a++[y]) i K else dH g c h ok e xs a d K
def cC(d:DI)(fr:List (Option Nat))(g:fj)(c:DT)(h:DE):DE:=λσ st K=>d σ st λe ok b=>e.length<=sizeLine/\dH g c h ok (gT fr σ) e [] b λf a=>K (.lst f) a
def kK(d:DI)(fr:List (Option Nat))(g:fj)(c:DT)(h:DE):DE:=λσ st K=>d σ st λe ok b=>e.length<=sizeLine/\dH g c h ok (gT fr σ) e [] b λf a=>K (.ref a.length) (a++[.lst f])
def bN:DT:=λ_ st K=>K true st
def oi(fr:List (Option Nat))(a:fj):Prop:=∀(σ:bZ) (d:D) (σ2:bZ),a d (gT fr σ)=some σ2->σ2.length=(gT fr σ).length/\∀(i:Nat) (e:D),(gT fr σ)[i]?=some (some e)->σ2[i]?=some (some e)
def sZ{k:Nat}(h:fr[k]?=some none){e:D}(q:(gT fr σ)[k]?=some (some e)):False:=by
 unfold gT at q;rw[Wr,h]at q;simp at q
def fb{k:Nat}(h:fr[k]?=some none:=by rfl):oi fr (ba k):=λσ d b e=>by
 cases e;show⟨Wv,λi x q=>?_⟩;by_cases a:i=k
 . subst a;show(sZ h q).elim
 . rw[Wf (Wi a)];show q
def yu{k j:Nat}(h:fr[k]?=some none:=by rfl)(h':fr[j]?=some none:=by rfl):oi fr (fz k j):=λσ d c e=>by
 unfold fz at e;split at e
 . cases e;show⟨by rw[Wv,Wv],λi x q=>?_⟩;by_cases b:i=k
   . subst b;show(sZ h q).elim
   . by_cases a:i=j
     . subst a;show(sZ h' q).elim
     . rw[Wf (Wi a),Wf (Wi b)];show q
 . cases e
section
variable {X:Cx}
def Q1(h:PT X c (LT t)):tD X [c] (LT t):=Nv h
def KI:tD X [] (LT bN):=λa s σ H Q I ⟨α,b,st,K,G,F,P,R,S,t,k⟩=>N6 a s σ H Q I (k true st t α G H Step.refl P S)
def LE.comp{K:DI}{fr:List (Option Nat)}{E:fj}{c:DT}{T:DE}(N:oi fr E){σ:L2.St}{H:Hp}{Q:VK}{α:List (Option Addr)}{n:bZ}{st:af}{KE:List D->af->Prop}{G F:Hp}(P:cy G F H)(R:eE α G n σ)(S:a_ α st G)
 (t:K n st λxs ok v=>xs.length<=sizeLine/\dH E c T ok (gT fr n) xs [] v KE)
 (ar:∀ys g s u B l vs,KE ys g->Step α G s u->cy u (upd F l (.lst vs)) B->F l=none->a_ s g u->aJ s u ys vs->Q (.ref l) B):
 uq (LI K) fr (LG E) (LT c) (LE T) σ H Q:=by
 show⟨α,n,st,_,G,F,P,R,S,t,λxs ok v q J Z G1 H1 s1 P1 S1 it l hl=>?_⟩;obtain⟨aX,q⟩:=q;obtain⟨hG,hF⟩:=P1.none hl
 show⟨λi m o C=>∃r a k f vs,Step Z G1 r k/\cy k (upd F l (.lst vs)) C/\eE r k (gT fr n) o/\a_ r a k/\aJ r k f vs/\f.length<=i/\i<=xs.length/\dH E c T ok (gT fr n) (xs.drop i) f a KE/\m=xs.length-i,
  ⟨xs.length,Z,v,G1,[],[],Step.refl,P1.hide hl,(R.step s1).comp,S1,by unfold aJ;rfl,Wg _,WU _,q,rfl⟩,?_⟩
 rintro i m σ2 B ⟨s,g,u,f,vs,M,Y,R2,V,ra,aD,hi,A,rfl⟩;cases e:xs[i]? with
 |none=>
  have h:xs.length<=i:=aaC.mp e;rw[Yo h]at A;unfold dH at A;show .inl ⟨it.stop i s u _ B g M Y V A.1 h,ar f g s u B l vs A.2 (s1.trans M) Y hF V ra⟩
 |some d=>
  have h:i<xs.length:=(Wa.mp e).1
  let ed:xs.drop i=d::xs.drop (i+1):=by
   rw[WG h];congr 1;rw[Wm h]at e;show W2 e
  rw[ed]at A;unfold dH at A;obtain⟨aK,σ3,e3,q3⟩:=A;show .inr ⟨it.go i d s u _ B g M Y V aK e,λo C=>∃r a k f vs,Step Z G1 r k/\cy k (upd F l (.lst vs)) C/\eE r k (gT fr n) o/\a_ r a k/\aJ r k f vs/\f.length<=i+1/\dH E c T ok (gT fr n) (xs.drop (i+1)) f a KE,?_,?_⟩
  . rintro o C ⟨r,a,k,O,ah,z1,z2,z3,z4,z5,z6,z7⟩;show⟨xs.length-(i+1),by lia,r,a,k,O,ah,z1,z2,z3,z4,z5,z6,h,z7,rfl⟩
  . intro x C y;obtain⟨G3,U,P3,S3,r3⟩:=it.oW i d s u _ B g x C M Y V aK e y;show⟨s,gT fr n,g,d,λo a=>o=σ3/\a=g,G3,_,P3,R2.step U,S3,r3,⟨σ3,e3,rfl,rfl⟩,?_⟩;rintro o a ⟨rfl,rfl⟩ α4 G4 H4 σ4 s4 P4 W S4;let L:=(M.trans U).trans s4;let Rc:eE α4 G4 (gT fr n) σ4:=⟨by rw[<-(N n d o e3).1];show W.len,λj z hz=>W.at' j z ((N n d o e3).2 j z hz)⟩
    show⟨α4,o,a,_,G4,_,P4,W,S4,q3,λb I q5 α5 G5 H5 w P5 S5=>?_⟩;cases b with
    |false=>show⟨α5,I,G5,f,vs,L.trans w,P5,Rc.step w,S5,((ra.step U).step s4).step w,by lia,q5⟩
    |true=>
     show⟨α5,o,I,_,G5,_,P5,W.step w,S5,q5,λz ao q6 α6 G6 H6 v6 s6 P6 S6 r6=>?_⟩;let hr:=(((ra.step U).step s4).step w).step s6;show⟨vs,(P6.frame a9).1,by rw[<-hr.length];lia,α6,ao,G6,f++[z],vs++[v6],(L.trans w).trans s6,?_,(Rc.step w).step s6,S6,aU.mpr (dU (aU.mp hr) (.cons r6 .nil)),by rw[W5,aa3];lia,q6⟩;let:=P6.VQ (p:=l) (o':= .lst (vs++[v6])) a9;rw[NR]at this;show this
def PY{scope:Scope}{Nc:List Str}{g h a:Expr}{f:List Expr}{pos:Pos}{e:DI}{fr:List (Option Nat)}{b:fj}{c:DT}{n:DE}(S:cx X scope Nc fr)(D:PI X h a (LI e))
 (d:∀C s H ex,PG (cD X scope Nc C s H ex) h (LG b)) (z:∀C s H ex,tD (cD X scope Nc C s H ex) f (LT c)) (E:∀C s H ex,PE (cD X scope Nc C s H ex) g (LE n)) (j:oi fr b)
 (y:X.xe=λ_ _=>False:=by rfl) (I:X.calm=true:=by rfl) (A:∀x,foldedSetIterable a X.env x=pure x:=by intro _;rfl):PE X (.ListComp g [⟨h,a,f,0⟩] scope pos) (LE (cC e fr b c n)):=
 PE.imp (Ex y I S D d z E A) λσ H Q ⟨α,L,st,K,G,F,P,R,S,t,k⟩=>LE.comp j P R S t λM i v u J l m q w p B o r=>by
  let d:u l=none:=(p.frame a9).2;show k _ i q v (upd u l (.lst m)) J (.ref l) (w.trans (Step.laid d)) (p.show B) (o.laid d) ?_;unfold Rep;show⟨l,m,rfl,o.lh d,.of a9,r.step (Step.laid d)⟩
def O8{scope:Scope}{Nc:List Str}{g h a:Expr}{e:List Expr}{pos:Pos}{d:DI}{fr:List (Option Nat)}{b:fj}{c:DT}{n:DE}(S:cx X scope Nc fr)(D:PI X h a (LI d))
 (f:∀C s H ex,PG (cD X scope Nc C s H ex) h (LG b)) (z:∀C s H ex,tD (cD X scope Nc C s H ex) e (LT c)) (E:∀C s H ex,PE (cD X scope Nc C s H ex) g (LE n)) (i:oi fr b)
 (y:X.xe=λ_ _=>False:=by rfl) (I:X.calm=true:=by rfl) (A:∀x,foldedSetIterable a X.env x=pure x:=by intro _;rfl):PE X (.ListComp g [⟨h,a,e,0⟩] scope pos) (LE (kK d fr b c n)):=
 PE.imp (Ex y I S D f z E A) λσ H Q ⟨α,L,st,K,G,F,P,R,S,t,k⟩=>LE.comp i P R S t λM v u p J l m q w o B j r=>by
  let f:p l=none:=(o.frame a9).2;show k _ _ q (u++[some l]) (upd p l (.lst m)) J (.ref l) (w.trans (Step.cell f)) (o.show B) (j.cell f ⟨m,a9,r.step (Step.cell f)⟩) ?_;unfold Rep;show .inr ⟨l,?_,rfl⟩;rw[WD (by rw[j.len];show Wg _),j.len,XU];rfl
def Nu{st:Stmt}{k:Nat}{b:DI}{fr:List (Option Nat)}{a:fj}{c:DT}{i:DE}(g:oi fr a)(h:PS X st (mV (uq (LI b) fr (LG a) (LT c) (LE i)) (jo k))):PS X st (LS (aN k (cC b fr a c i))):=
 PS.imp h λD σ H ⟨α,y,st,A,G,F,P,R,S,t,q⟩=>LE.comp g P R S t λz f s p x l e v u n w m r=>by
  let d:p l=none:=(n.frame a9).2;let j:=u.trans (Step.laid (o:= .lst e) d);show q.nx _ f v s (upd p l (.lst e)) x _ j (n.show w) ((R.step j).set k ?_) (m.laid d);unfold Rep;show⟨l,e,rfl,m.lh d,.of a9,r.step (Step.laid d)⟩
def LV{st:Stmt}{k:Nat}{b:DI}{fr:List (Option Nat)}{a:fj}{c:DT}{i:DE}(f:oi fr a)(h:PS X st (mV (uq (LI b) fr (LG a) (LT c) (LE i)) (jo k))):PS X st (LS (aN k (kK b fr a c i))):=
 PS.imp h λD σ H ⟨α,y,st,A,G,F,P,R,S,t,q⟩=>LE.comp f P R S t λz s p n x l d v u m w g r=>by
  let e:n l=none:=(m.frame a9).2;let j:=u.trans (Step.cell (o:= .lst d) e);show q.nx _ _ v (p++[some l]) (upd n l (.lst d)) x _ j (m.show w) ((R.step j).set k ?_) (g.cell e ⟨d,a9,r.step (Step.cell e)⟩);unfold Rep;show .inr ⟨l,?_,rfl⟩;rw[WD (by rw[g.len];show Wg _),g.len,XU];rfl
def aL(N:List Str)(a:List D):bZ:=a.map some++List.replicate (N.length-a.length) none
def eE.start(r:aJ α G a vs):eE α G (aL N a) (L2.start N vs):=by
 let f:=r.length;show⟨by unfold aL L2.start;simp[f],λi d e=>?_⟩;unfold aL at e;by_cases b:i<a.length
 . rw[Wh (by simpa using b),Wr]at e;cases q:a[i]? with
   |none=>rw[q]at e;cases e
   |some x=>
    rw[q]at e;cases e;obtain⟨v,ev,c⟩:=r.get q;show⟨v,?_,c⟩;unfold L2.start;rw[Wh (by rw[Wd];lia),Wr,ev];rfl
 . rw[WD (by simpa using b),aaQ]at e;split at e<;>cases e
def TZ{P:Program}{w:World}{K:PySem.W.Frag}{n:Str->Option Value}{e:Heap}{x b:Str}{st:Stmt}{f:Addr}{fd:FuncData}{N m:List Str}{k:Nat}{sp:bM}{t:DS}(F:oj K x b st f fd)(S:l7 N m (bf st))
 (g:∀(c:Value) (A:Around) (outer:List Env) (s:Shared) (H:Hp) (E:XK),cU k (A.deeper (envOfC b (bf st) s.heap.objs.size f c))->g9 (pA fS P w K n e N b (bf st) f c A outer s H E).uK (gf st) (LS t))
 (l:∀d st K,sp d st K->d.length=m.length/\t {nx:=λ_ a=>K .aD a,rt:=K} (aL N d) st):dh P w K n e fS (k+1) f fd m (gK sp):=by
 show F.ok S (λp H Q E h=>?_) λc A outer s H p Q E v h=>⟨_,g c A outer s H E v,?_⟩
 . obtain⟨α,d,st,K,G,F,P,r,S,q,k⟩:=h;rw[<-r.length];show(l d st K q).1
 . obtain⟨α,d,st,K,G,F,P,r,S,q,k⟩:=h;show⟨α,aL N d,st,_,G,F,P,eE.start r,S,(l d st K q).2,?_,k,?_,?_⟩
   . intro i a j o C B D u z I y;show k .aD a j o C B .aD u z y (by unfold Rep;rfl)
   . intro i a j;show j.elim
   . intro i a j;show j.elim
def qk(e f:DE):DE:=λσ st K=>e σ st λx b=>match x with
 | .ref n=>(match b[n]? with
   |some (.lst _)=>f σ b λy a=>∃c,[y]=[c]/\(match a[n]? with|some (.lst d)=>d.length<sizeLine/\K .aD (a.set n (.lst (d++[c])))|_=>False)
   |_=>False)
 |_=>False
end
structure nE(K:PySem.W.Frag)(mg:Str->Option Value)(x qual:Str)(st:Stmt)(ps:List Str)(f:Addr)(fd:FuncData):Prop where
 fn:oj K x qual st f fd
 mg:mg x=some (.ref f)
 bd:Binds K fd ps []
def oC(a:Scope)(N:List Str)(scope:Scope)(Nc:List Str)(fr:List (Option Nat)):Bool:=
 (scope.kind== .function)&&scope.names.all (λx=>x.2 != .cell||scope.names.lookup x.1==some .cell)&&scope.names.all (λx=>x.2 != .local||scope.names.lookup x.1==some .local)&&
 scope.names.all (λx=>x.2 != .free||a.names.lookup x.1==some .cell||a.names.lookup x.1==some .free)&&(fr.length==Nc.length)&&
 (List.range fr.length).all λi=>match fr[i]?,Nc[i]? with
   |some (some j),some x=>(N[j]?==some x)&&(scope.names.lookup x==some .free)&&(a.names.lookup x==some .cell||a.names.lookup x==some .free)
   |_,_=>true
def cx.look{X:Cx}(d:Scope)(N:List Str)(h:oC d N scope Nc fr=true)(c:X.env.scope=d:=by rfl)(g:X.N=N:=by rfl):cx X scope Nc fr:=by
 unfold oC at h;simp![W_]at h;obtain⟨⟨⟨⟨⟨p,o⟩,n⟩,m⟩,l⟩,k⟩:=h;subst c g;show⟨by simpa using p,λx a b=>?_,λx a b=>?_,λx a b=>?_,by simpa using l,λi j x q e=>?_⟩
 . have:=WT.mp o x a;rw[b]at this;simpa using this
 . have:=WT.mp n x a;rw[b]at this;simpa using this
 . have:=WT.mp m x a;rw[b]at this;let z:X.env.scope.names.lookup x.1=some .cell\/X.env.scope.names.lookup x.1=some .free:=by simpa using this
   show z
 . have f:i<fr.length:=(Wa.mp e).1;let:=WT.mp k i (W4.mpr f);rw[q,e]at this;simp![W_,Zj,Yh]at this;show⟨this.1.1,this.1.2,this.2⟩
section
variable {X:Cx}
def Vy{e:Expr}{a:List Expr}{pos p:Pos}{x:Str}{id:String}{r:eM}{t:DA}(k:bJ X (.builtin id) (fD r))(l:PA X (e::a) (LA t))(g:X.mg x=none)(d:bootBuiltins x=some (.builtin id))(i:Gl X x:=by rfl)(f:x≠"__name__":=by decide)(c:(x==("__debug__":Str))=false:=by decide)
 (j:starEach (e::a) X.env=(false,eval e X.env)::starEach a X.env:=by rfl) (b:(backTo pos (starEach a X.env)).any (·.1)=false:=by rfl):PE X (.Call (.Name x p) (e::a) [] pos) (LE (br r t)):=PE.imp (LU k i g d l f c j b) λ_ _ _ h=>LE.cb h
def Vf{e:Expr}{a:List Expr}{pos p:Pos}{x:Str}{T:String}{r:eM}{t:DA}(k:bJ X (.type T) (fD r))(l:PA X (e::a) (LA t))(g:X.mg x=none)(d:bootBuiltins x=some (.type T))(i:Gl X x:=by rfl)(f:x≠"__name__":=by decide)(c:(x==("__debug__":Str))=false:=by decide)
 (j:starEach (e::a) X.env=(false,eval e X.env)::starEach a X.env:=by rfl) (b:(backTo pos (starEach a X.env)).any (·.1)=false:=by rfl):PE X (.Call (.Name x p) (e::a) [] pos) (LE (br r t)):=PE.imp (Ji k i g d l f c j b) λ_ _ _ h=>LE.cb h
def Vw{pos:Pos}{x:Str}{T:String}(d:X.mg x=none)(b:bootBuiltins x=some (.type T))(e:Gl X x:=by rfl)(c:x≠"__name__":=by decide)(a:(x==("__debug__":Str))=false:=by decide):PE X (.Name x pos) (LE (dC (.ty T))):=
 uf (v:= .ty T) (N_ e d b rfl c a) λ_ _=>by unfold Rep;rfl
def Vm{e:Expr}{b:List Expr}{pos p:Pos}{x a:Str}{st:Stmt}{g:List Str}{f:Addr}{fd:FuncData}{k:Nat}{S:bM}{t:DA}(A:nE X.K X.mg x a st g f fd)(F:dh X.prog X.w X.K X.mg X.base fS k f fd g (gK S))(h:cU k X.A)
 (l:PA X (e::b) (LA t)) (i:Gl X x:=by rfl) (d:(x==("__debug__":Str))=false:=by decide) (j:starEach (e::b) X.env=(false,eval e X.env)::starEach b X.env:=by rfl) (c:(backTo pos (starEach b X.env)).any (·.1)=false:=by rfl):
 PE X (.Call (.Name x p) (e::b) [] pos) (LE (ay S t)):=QO F h i A.mg A.fn.kp A.bd l d j c
def DB(r:RelV x v)(h:Q (.bool (v== .bool b)) s):wpAny M A (compareOp .Is v (.bool b)) Q E s:=by
 cases x
 case bl c=>
  cases r;let e:(Value.bool c==Value.bool b)=(c==b):=by cases c<;>cases b<;>rfl
  rw[e]at h;show is_bool h
 all_goals first
  |(cases r;show Wk h)
  |(obtain⟨t,rfl⟩:=r;show Wk h)
def GZ(d:D)(b:Bool):Bool:=match d with| .bl c=>c==b|_=>false
def Na(d:D):Bool:=match d with| .aD=>true|_=>false
def MU:dc:=λx y st K=>match y with| .aD=>live st x=true/\K (.bl (Na x)) st| .bl b=>live st x=true/\K (.bl (GZ x b)) st|_=>False
def Eo{α:List (Option Addr)}{H:Hp}{st:af}{d:D}{v:V}{u:Value}{b:Bool}(S:a_ α st H)(f:live st d=true)(r:Rep α H d v)(e:RelV v u):(u==Value.bool b)=GZ d b:=by
 cases d
 case ref n=>
  obtain⟨a,rfl⟩:=vY S f r;cases e;rfl
 all_goals unfold Rep at r
 case bl c=>
  subst r;cases e;cases c<;>cases b<;>rfl
 all_goals first
  |(subst r;first|(cases e;rfl)|(obtain⟨t,rfl⟩:=e;rfl))
  |(obtain⟨a,g,rfl,_⟩:=r;cases e;rfl)
def Tv:cf X (compareOp .Is) (LR MU):=λf s σ H x y v u Q I h i ⟨α,d,e,st,K,G,l,P,c,g,S,q,k⟩=>by
 cases e<;>try show q.elim
 . unfold Rep at g;show Pm f s σ H x y v u Q I h i ⟨g,k.here P q.2 S ?_⟩;unfold Rep;cases d
   case ref n=>
    obtain⟨a,rfl⟩:=vY S q.1 c;rfl
   all_goals(unfold Rep at c;first|(rw[c];rfl)|(obtain⟨a,j,rfl,_⟩:=c;rfl))
 . rename_i b;unfold Rep at g;subst g;cases i;show DB h ?_;rw[Eo S q.1 c h];show⟨.bl (GZ d b),H,I,rfl,k.here P q.2 S (by unfold Rep;rfl)⟩
def LE.append(h:LE (qk o r) σ H Q):UA X.K "list" EH (LE o) (LA (ab r ag)) σ H Q:=by
 obtain⟨α,l,st,K,G,F,P,R,S,t,k⟩:=h;show⟨α,l,st,_,G,F,P,R,S,t,λx g q N Z H1 v u M J U=>?_⟩;cases x<;>try show q.elim
 rename_i n;simp only at q;split at q
 . rename_i ys e;obtain⟨p,D,O,V,h2⟩:=J.gR e;let j:=dR D U;subst j;show⟨.inl ⟨rfl,O,.inl (.of (M.get V))⟩,N,l,g,λE b=>∃y,E=[y]/\(match b[n]? with|some (.lst d)=>d.length<sizeLine/\K .aD (b.set n (.lst (d++[y])))|_=>False),Z,F,M,R.step u,J,?_,?_⟩
   . show Eq.mp ?_ q;rfl
   . rintro E b ⟨y,rfl,c⟩ m Y H2 ws s L I T;obtain⟨w,rfl,i⟩:=ib T rfl;split at c
     . rename_i d W;obtain⟨p2,a,f,C,B⟩:=I.gR W
       let:p2=p:=by
        rcases s.pre _ _ D with z|z<;>(rw[z]at a;cases a)
        rfl
       subst this;let A:some p2∈m:=WI a;show⟨p2,f,w,rfl,rfl,L.get C,by rw[<-B.length];show c.1,?_⟩;show((k.at u).at s) _ _ c.2 m (upd Y p2 (.lst (f++[w]))) _ .aD (Step.write A) (L.write C) ?_ (by unfold Rep;rfl);show I.write a ⟨f++[w],a9,(aU.mpr (dU (aU.mp B) (.cons i .nil))).step (Step.write A)⟩
     . show c.elim
 . show q.elim
def K3{o e:Expr}{c a:Pos}(l:PE X o (LE i))(m:PE X e (LE j))(f:attributeBase o "append" X.env (eval o X.env)=eval o X.env:=by rfl)
 (g:((backTo a (starEach [e] X.env)).all (λx=> !x.1)&&(backToKw a (keywordEach [] X.env)).all (λx=>x.1.isSome)
   &&decide (([e]:List Expr).length+([]:List Keyword).length+(if([]:List Keyword).isEmpty then 0 else 1)<30))=true:=by rfl)
 (d:(c.endLine==a.line)=true:=by rfl) (k:starEach [e] X.env=(false,eval e X.env)::starEach [] X.env:=by rfl) (b:(backTo a (starEach [] X.env)).any (·.1)=false:=by rfl):PE X (.Call (.Attribute o "append" c) [e] [] a) (LE (qk i j)):=
 PE.imp (T7 aaR PySem.F.slot_list_append PySem.F.type_list_append zd l (yc m B9 k) f g d k b) λ_ _ _ h=>LE.append h
end
end L3
namespace L3
open PySem L2
open PySem.Spec hiding items?
open PyProof.Rows hiding St
section
variable {X:Cx}
@[irreducible] def cE:dc:=Mg
def iV:cf X (binaryOp .Add) (LR cE):=by unfold cE;show TQ
@[irreducible] def cY:dc:=Mo
def eS:cf X (binaryOp .Sub) (LR cY):=by unfold cY;show Tx
@[irreducible] def bG:dc:=MK
def fh:cf X (binaryOp .Mult) (LR bG):=by unfold bG;show S9
@[irreducible] def iX:dc:=GV
def pX:cf X (binaryOp .FloorDiv) (LR iX):=by unfold iX;show Q7
@[irreducible] def ja:dc:=MO
def Ml:cf X (binaryOp .Mod) (LR ja):=by unfold ja;show Te
@[irreducible] def u_:dc:=Mh
def Nl:cf X (binaryOp .Pow) (LR u_):=by unfold u_;show Tw
@[irreducible] def oX:dc:=Pt
def yr:cf X (compareOp .Lt) (LR oX):=by unfold oX;show Vu
@[irreducible] def Je:dc:=Pp
def Lc:cf X (compareOp .LtE) (LR Je):=by unfold Je;show UW
@[irreducible] def qd:dc:=Qb
def vC:cf X (compareOp .Gt) (LR qd):=by unfold qd;show Vz
@[irreducible] def wJ:dc:=Q5
def Fi:cf X (compareOp .GtE) (LR wJ):=by unfold wJ;show Vs
@[irreducible] def nj:dc:=PH
def vG:cf X (compareOp .NotEq) (LR nj):=by unfold nj;show UZ
@[irreducible] def EZ:dc:=MU
def FI:cf X (compareOp .Is) (LR EZ):=by unfold EZ;show Tv
@[irreducible] def iZ:dc:=Qx
def Cf{k:Nat}(a:cU k X.A):cf X (compareOp .Eq) (LR iZ):=by unfold iZ;show Vc a
@[irreducible] def fe:BL:=Mw
def S0:E6 X (unaryOp .USub) (M1 fe):=by unfold fe;show Ua
@[irreducible] def aI:dc:=qt
def VB(g:PE X a (LE d))(f:PE X b (LE c))(e:uc b:=by intro _ _;rfl):PE X (.Subscript a b pos) (LE (aj aI d c)):=by unfold aI;show Vg g f e
@[irreducible] def dD:eM:=Ak
def fZ:bJ X (.builtin "len") (fD dD):=by unfold dD;show SA
@[irreducible] def mT:eM:=Fd
def Aq:bJ X (.builtin "abs") (fD mT):=by unfold mT;show Um
@[irreducible] def yf:eM:=GR
def FH(a:X.calm=true):bJ X (.builtin "max") (fD yf):=by unfold yf;show TL a
@[irreducible] def qF:eM:=Gf
def Ag:bJ X (.type "int") (fD qF):=by unfold qF;show Td
@[irreducible] def de:eM:=t8
def nO:bJ X (.type "tuple") (fD de):=by unfold de;show Pc
@[irreducible] def nA:eM:=wu
def sG:bJ X (.type "list") (fD nA):=by unfold nA;show P_
@[irreducible] def sE:eM:=uh
def ET:bJ X (.type "list") (fD sE):=by unfold sE;show O0
@[irreducible] def tH:eM:=Ay
def Mp(a:X.calm=true):bJ X (.builtin "all") (fD tH):=by unfold tH;show Tj a
@[irreducible] def kC:eM:=xf
def Fl:bJ X (.builtin "isinstance") (fD kC):=by unfold kC;show SW
@[irreducible] def pw:D->af->(List D->(af->Prop)->af->Prop)->Prop:=ym
def dy(t:DE):DI:=λσ st K=>t σ st λd a=>pw d a K
def PZ(b:PE X l (LE tl)):PI X a l (LI (dy tl)):=by unfold dy pw;show RY b
@[irreducible] def Ap:List D->af->(List D->(af->Prop)->af->Prop)->Prop:=Mn
@[irreducible] def Av:List D->af->(List D->(af->Prop)->af->Prop)->Prop:=L_
def cR(t:DA):DI:=λσ st K=>t σ st λb a=>Ap b a K
def lF(t:DA):DI:=λσ st K=>t σ st λb a=>Av b a K
def IQ(h:PI X b a (Fe (LA t))):PI X b a (LI (cR t)):=by unfold cR Ap;show Hj h
def Hu(h:PI X b a (FP (LA t))):PI X b a (LI (lF t)):=by unfold lF Av;show Il h
@[irreducible] def Fb:D->D->D->af->(af->Prop)->Prop:=vI
def d8(f g h:DE):DS:=λD σ st=>h σ st λd e=>f σ e λx c=>g σ c λy b=>Fb x y d b λa=>D.nx σ a
def Cg{st:Stmt}{a b c:DE}(h:PS X st (mV (LE c) (CP (LE a) (LE b) wg))):PS X st (LS (d8 a b c)):=by unfold d8 Fb;show Lv h
end
section
variable {st:af}{K:DK}{i j:Int}{b c:Bool}{xs ys:List D}{d e:D}{n:Nat}
def cL(k:K (.int (i+j)) st):cE (.int i) (.int j) st K:=by unfold cE;show k
def D5(h:xs.length+ys.length<=sizeLine)(k:K (.lst (xs++ys)) st):cE (.lst xs) (.lst ys) st K:=by unfold cE;show⟨h,k⟩
def cF(k:K (.int (i-j)) st):cY (.int i) (.int j) st K:=by unfold cY;show⟨trivial,k⟩
def bE(h:IntMulOk i j)(k:K (.int (i*j)) st):bG (.int i) (.int j) st K:=by unfold bG;show⟨h,k⟩
def EX(h: -(2^63)<=i/\i<2^63/\xs.length*i.toNat<=sizeLine)(k:K (.lst (List.replicate i.toNat xs).flatten) st):bG (.lst xs) (.int i) st K:=by unfold bG;show⟨h,k⟩
def iH(a:j≠0)(h:j.natAbs.log2<9000)(k:K (.int (i.fdiv j)) st):iX (.int i) (.int j) st K:=by unfold iX;show⟨⟨a,h⟩,k⟩
def kY(a:j≠0)(k:K (.int (i.fmod j)) st):ja (.int i) (.int j) st K:=by unfold ja;show⟨a,k⟩
def BJ(h:Ky i j)(k:K (.int (i^j.toNat)) st):u_ (.int i) (.int j) st K:=by unfold u_;show⟨h,k⟩
def AK(k:K (.bl (decide (i<j))) st):oX (.int i) (.int j) st K:=by unfold oX;show⟨trivial,k⟩
def Sl(k:K (.bl (decide (i<=j))) st):Je (.int i) (.int j) st K:=by unfold Je;show⟨trivial,k⟩
def Fw(k:K (.bl (decide (j<i))) st):qd (.int i) (.int j) st K:=by unfold qd;show⟨trivial,k⟩
def MX(k:K (.bl (decide (j<=i))) st):wJ (.int i) (.int j) st K:=by unfold wJ;show⟨trivial,k⟩
def AL(k:K (.bl (!decide (i=j))) st):nj (.int i) (.int j) st K:=by unfold nj;show k
def CN(h:live st d=true)(k:K (.bl (Na d)) st):EZ d .aD st K:=by unfold EZ;show⟨h,k⟩
def FG(f:pl 40 d=true)(a:pl 40 e=true)(k:K (.bl (cP d e)) st):iZ d e st K:=by unfold iZ;show⟨f,a,k⟩
def N5(a b:Int):(a==b)=decide (a=b):=by
 by_cases h:a=b
 . subst h;simp
 . simp[h]
def AR(k:K (.bl (decide (i=j))) st):iZ (.int i) (.int j) st K:=by
 show FG rfl rfl ?_;let:cP (.int i) (.int j)=decide (i=j):=by unfold cP;show N5 i j
 rw[this];show k
def d7(k:K (.int (-i)) st):fe (.int i) st K:=by unfold fe;show k
def KD(h:items? st d=some xs)(a:du xs i=some e)(k:K e st):qt d (.int i) st K:=by
 cases d<;>unfold items? at h<;>first
  |(cases h;done)
  |(cases h;simp![qt,a];show k)
  |(simp only at h
    split at h
    . rename_i q;cases h;simp![qt,q,a];show k
    . cases h)
def az(h:items? st d=some xs)(a:du xs i=some e)(k:K e st):aI d (.int i) st K:=by unfold aI;show KD h a k
def cM(h:items? st d=some xs)(k:K (.int xs.length) st):dD [d] st K:=by
 unfold dD Ak;split
 . rename_i z;cases z;cases h
 . rename_i z;cases z;rw[h];show k
 . rename_i f a;show absurd rfl (a d)
def NB(i:Int):(if i<0 then-i else i)=((i.natAbs:Nat):Int):=by split<;>lia
def mJ(k:K (.int ((i.natAbs:Nat):Int)) st):mT [.int i] st K:=by unfold mT;change K (.int (if i<0 then-i else i)) st;rw[NB];show k
def HZ(k:K (.int (if j>i then j else i)) st):yf [.int i,.int j] st K:=by unfold yf;show k
def tS(k:K (.int (if b then 1 else 0)) st):qF [.bl b] st K:=by unfold qF;show k
def cQ(h:items? st d=some xs)(k:K (.tup xs) st):de [d] st K:=by unfold de t8;simp![h];show k
def qf(h:items? st d=some xs)(k:K (.lst xs) st):nA [d] st K:=by unfold nA wu;simp![h];show k
def K5(h:items? st d=some xs)(k:K (.ref st.length) (st++[.lst xs])):sE [d] st K:=by unfold sE uh;simp![h];show k
def xo{bs:List Bool}(h:gp xs=some bs)(k:K (.bl (bs.all id)) st):tH [.lst xs] st K:=by unfold tH Ay;simp![h];show k
def mO{t c:String}(h:fI st d=some t)(a:c∈lX)(k:K (.bl (sP t c)) st):kC [d,.ty c] st K:=by unfold kC xf;simp![h];show⟨a,k⟩
def Nr{cl:List String}(h:fI st d=some t)(f:nP cs=some cl)(a:∀c∈cl,c∈lX)(k:K (.bl (cl.any (sP t))) st):kC [d,.tup cs] st K:=by unfold kC xf;simp![h,f];show⟨a,k⟩
def tK{K:List D->(af->Prop)->af->Prop}(h:items? st d=some xs)(k:∀ok:af->Prop,ok st->K xs ok st):pw d st K:=by
 unfold pw ym
 cases d<;>unfold items? at h<;>first
  |(cases h;done)
  |(cases h;show k _ trivial)
  |(simp only at h
    split at h
    . rename_i q;cases h;simp![q];show k _ q
    . cases h)
def yB{K:List D->(af->Prop)->af->Prop}(k:K xs (λ_=>True) st):pw (.lst xs) st K:=by unfold pw;show k
def fw{K:List D->(af->Prop)->af->Prop}(k:K xs (λ_=>True) st):pw (.tup xs) st K:=by unfold pw;show k
def dZ{K:List D->(af->Prop)->af->Prop}(h: -(2^62)<=j/\j<2^62)(k:K (cT 0 j.toNat) (λ_=>True) st):Ap [.int j] st K:=by unfold Ap;show⟨h,k⟩
def tX{K:List D->(af->Prop)->af->Prop}(h: -(2^62)<=i/\i<2^62/\ -(2^62)<=j/\j<2^62)(k:K (cT i (j-i).toNat) (λ_=>True) st):Av [.int i,.int j] st K:=by unfold Av;show⟨h,k⟩
def fA{K:af->Prop}(h:st[n]?=some (.lst xs))(e:ki xs.length i=some m)(k:K (st.set n (.lst (xs.set m d)))):Fb (.ref n) (.int i) d st K:=by unfold Fb vI;simp![h,e];show k
end
def GX(K:PySem.W.Frag):Bool:=K.all λp=>p.2.cls != .type "list"
def u6:∀ {l:List (Addr×Obj)},l.lookup a=some o->(a,o)∈l
 | [],h=>by cases h
 |(b,u)::r,h=>by
  rw[WW]at h;split at h
  . rename_i z;cases h;let:a=b:=by simpa using z
    subst this;show Wx
  . show Ww _ (u6 h)
def zV{K:PySem.W.Frag}(h:GX K=true){o:Obj}(e:K.lookup a=some o):o.cls≠ .type "list":=by
 let:=WT.mp h (a,o) (u6 e);simpa using this
def zB:∀ns:List Int,aJ α G (ns.map D.int) (ns.map V.int)
 | []=>by unfold aJ;rfl
 |n::ns=>by
  rw[WJ,WJ];unfold aJ;show⟨_,_,rfl,by unfold Rep;rfl,zB ns⟩
def notStar:Expr->Bool
 | .Starred .. =>false
 |_=>true
def cG{e:Expr}(h:notStar e=true):starEach (e::a) env=(false,eval e env)::starEach a env:=by
 cases e<;>first|rfl|cases h
def f_:List Expr->Bool
 | []=>true
 |e::es=>notStar e&&f_ es
def jY:∀ {a:List Expr},f_ a=true->(backTo pos (starEach a env)).any (·.1)=false
 | [],_=>rfl
 |e::a,h=>by
  unfold f_ at h;rw[W_]at h;rw[cG h.1];let b:=jY (pos:=pos) (env:=env) h.2;unfold backTo at b⊢;rw[WJ,aar,b];rfl
def j7:Expr->Bool
 | .Slice .. =>false
 |_=>true
def sv:Expr->Bool
 | .Name .. =>true
 | .Call .. =>true
 | .Subscript .. =>true
 | .Attribute .. =>true
 |_=>false
def lO:Expr->Bool
 | .ListComp .. =>false
 | .SetComp .. =>false
 | .DictComp .. =>false
 |_=>true
section
variable {X:Cx}
def KQ(h:j7 b=true):uc b:=by
 intro o i;cases b<;>first|rfl|cases h
def Fg{e:Expr}(h:sv e=true):∀whole,isTrue e X.env whole=(do let v <-whole;standAt e.pos;holding [v] (truthy v)):=by
 intro whole;cases e<;>first|(cases h;done)|rfl
def yC{e:Expr}(h:lO e=true):swapsWith e a n env=pure false:=by
 cases e<;>first|(cases h;done)|rfl
def Ly{e:Expr}{tr:DA}(f:PE X e (LE a))(d:PA X b (LA tr))(c:notStar e=true:=by rfl):PA X (e::b) (LA (ab a tr)):=yc f d (cG c)
def Sf{e:Expr}{c:List Expr}{pos p:Pos}{x:Str}{id:String}{r:eM}{t:DA}(j:bJ X (.builtin id) (fD r))(k:PA X (e::c) (LA t))(h:X.mg x=none)(d:bootBuiltins x=some (.builtin id))(g:x≠"__name__")(b:(x==("__debug__":Str))=false)(i:Gl X x:=by rfl)(f:notStar e=true:=by rfl)(a:f_ c=true:=by rfl):
 PE X (.Call (.Name x p) (e::c) [] pos) (LE (br r t)):=Vy j k h d i g b (cG f) (jY a)
def T9{e:Expr}{c:List Expr}{pos p:Pos}{x:Str}{T:String}{r:eM}{t:DA}(j:bJ X (.type T) (fD r))(k:PA X (e::c) (LA t))(h:X.mg x=none)(d:bootBuiltins x=some (.type T))(g:x≠"__name__")(b:(x==("__debug__":Str))=false)(i:Gl X x:=by rfl)(f:notStar e=true:=by rfl)(a:f_ c=true:=by rfl):
 PE X (.Call (.Name x p) (e::c) [] pos) (LE (br r t)):=Vf j k h d i g b (cG f) (jY a)
def Ti{e:Expr}{d:List Expr}{pos p:Pos}{x a:Str}{st:Stmt}{g:List Str}{f:Addr}{fd:FuncData}{k:Nat}{S:bM}{t:DA}(A:nE X.K X.mg x a st g f fd)(F:dh X.prog X.w X.K X.mg X.base fS k f fd g (gK S))(i:cU k X.A)
 (l:PA X (e::d) (LA t)) (c:(x==("__debug__":Str))=false) (j:Gl X x:=by rfl) (h:notStar e=true:=by rfl) (b:f_ d=true:=by rfl):
 PE X (.Call (.Name x p) (e::d) [] pos) (LE (ay S t)):=Vm A F i l j c (cG h) (jY b)
def TM(g:PE X a (LE d))(f:PE X b (LE c))(e:j7 b=true:=by rfl):PE X (.Subscript a b pos) (LE (aj aI d c)):=VB g f (KQ e)
def OH{e:Expr}(b:PE X e (LE a))(h:sv e=true:=by rfl):PT X e (LT (aV a)):=QY b (Fg h)
def Ls{e:Expr}(b:PE X e (LE a))(h:lO e=true:=by rfl):PS X (.Expr e pos) (LS (eh a)):=NA b (yC h)
def NM{i:Nat}{x:Str}{e:Expr}{b:TE}{pos a:Pos}(j:X.N.Nodup)(d:X.N[i]?=some x)(c:Loc X.env.scope x)(g:PE X e b)(f:X.fn x=true\/X.env.scope.names.lookup x=some .local:=by first|show .inl rfl|show .inr rfl)(h:lO e=true:=by rfl):
 PS X (.Assign [.Name x a] e pos) (mV b (jo i)):=JH j d c g (yC h) f
def OB(c:(x==("__debug__":Str))=false)(a:(x==("__classdict__":Str))=false)(b:Bg X.env.scope x)(d:X.N[i]?=some x:=by rfl):PE X (.Name x pos) (LE (aa i)):=Sk (Qz d b c a)
def Qe{o i e:Expr}{b c d:TE}{pos a:Pos}(h:PE X e d)(f:PE X o b)(g:PE X i c)(k:lO e=true:=by rfl)(j:j7 i=true:=by rfl):PS X (.Assign [.Subscript o i a] e pos) (mV d (CP b c wg)):=
 BS h (GS f g set_list (by intro v;cases i<;>first|rfl|cases j)) (by unfold swapsWithSole;show yC k) (by cases e<;>rfl) rfl
end
@[irreducible] def JE(X:Cx)(e:Expr)(t:DE):Prop:=PE X e (LE t)
@[irreducible] def JT(X:Cx)(e:Expr)(t:DT):Prop:=PT X e (LT t)
@[irreducible] def JW(X:Cx)(e:Expr)(t:DT):Prop:=PW X e (LT t)
@[irreducible] def JA(X:Cx)(a:List Expr)(t:DA):Prop:=PA X a (LA t)
@[irreducible] def JS(X:Cx)(s:Stmt)(t:DS):Prop:=PS X s (LS t)
@[irreducible] def JB(X:Cx)(s:List Stmt)(t:DS):Prop:=g9 X s (LS t)
@[irreducible] def JG(X:Cx)(e:Expr)(t:fj):Prop:=PG X e (LG t)
@[irreducible] def JI(X:Cx)(a e:Expr)(t:DI):Prop:=PI X a e (LI t)
@[irreducible] def JC(X:Cx)(a:List Expr)(t:DT):Prop:=tD X a (LT t)
section
variable {X:Cx}{a b c e o i:Expr}{es:List Expr}{ta tb tc te to ti:DE}{t u:DT}{ar:DA}{pos p pos':Pos}{s:Stmt}{ss:List Stmt}{T U:DS}
def Jb(g:(x==("__debug__":Str))=false)(d:(x==("__classdict__":Str))=false)(f:Bg X.env.scope x)(h:X.N[n]?=some x:=by rfl):JE X (.Name x pos) (aa n):=by unfold JE;show OB g d f h
def qw{T:String}(h:X.mg x=none)(f:bootBuiltins x=some (.type T))(g:x≠"__name__")(d:(x==("__debug__":Str))=false)(j:Gl X x):JE X (.Name x pos) (dC (.ty T)):=by unfold JE;show Vw h f j g d
def a7{k:Int}:JE X (.Constant (.int k) j pos) (dC (.int k)):=by unfold JE;show TV
def m_{k:Bool}:JE X (.Constant (.bool k) j pos) (dC (.bl k)):=by unfold JE;show Vl
def F8:JE X (.Constant .none j pos) (dC .aD):=by unfold JE;show Th
def bL(d:cf X (binaryOp op) (LR r))(g:JE X a ta)(f:JE X b tb):JE X (.BinOp a op b pos) (aj r ta tb):=by unfold JE at*;show Vi d g f
def iW(d:JE X a ta):JE X (.UnaryOp .USub a pos) (iE fe ta):=by unfold JE at*;show Vt S0 d
def M4(d:JE X a ta):JE X (.UnaryOp .Not a pos) (xj (aV ta)):=by unfold JE at*;show Ub d
def Mb(d:JE X a ta):JE X (.BoolOp op [a] pos) ta:=by unfold JE at*;show SX d
def Mq(f:JE X a ta)(d:JE X (.BoolOp .And (b::es) pos) tb):JE X (.BoolOp .And (a::b::es) pos) (qu ta tb):=by unfold JE at*;show Su f d
def RJ(f:JE X a ta)(d:JE X (.BoolOp .Or (b::es) pos) tb):JE X (.BoolOp .Or (a::b::es) pos) (K9 ta tb):=by unfold JE at*;show Vd f d
def Aj(d:cf X (compareOp op) (LR r))(f:behindInMarks op b=false)(h:JE X a ta)(g:JE X b tb):JE X (.Compare a [op] [b] pos) (aj r ta tb):=by unfold JE at*;show SJ d h g f
def GK(d:JT X c t)(g:JE X a ta)(f:JE X b tb):JE X (.IfExp c a b pos) (Ms t ta tb):=by unfold JE at*;unfold JT at d;show TY d g f
def oS(h:JA X es ar):JE X (.Tuple es n pos) (kX ar):=by unfold JE;unfold JA at h;show Sd h
def qB(h:JA X es ar):JE X (.List es pos) (jc ar):=by unfold JE;unfold JA at h;show TK h
def M_(h:JA X es ar):JE X (.List es pos) (oz ar):=by unfold JE;unfold JA at h;show T_ h
def aA:JA X [] ag:=by unfold JA;show B9
def ai(d:JE X e te)(g:JA X es ar)(f:notStar e=true:=by rfl):JA X (e::es) (ab te ar):=by unfold JA at*;unfold JE at d;show Ly d g f
def bz(g:JE X a ta)(f:JE X b tb)(d:j7 b=true:=by rfl):JE X (.Subscript a b pos) (aj aI ta tb):=by unfold JE at*;show TM g f d
def dn{x:Str}{id:String}{r:eM}(n:bJ X (.builtin id) (fD r))(g:JA X (e::es) ar)(l:X.mg x=none)(h:bootBuiltins x=some (.builtin id))(k:x≠"__name__")(f:(x==("__debug__":Str))=false)(m:Gl X x)(j:notStar e=true:=by rfl)(d:f_ es=true:=by rfl):JE X (.Call (.Name x p) (e::es) [] pos) (br r ar):=by
 unfold JE;unfold JA at g;show Sf n g l h k f m j d
def i6{T:String}(n:bJ X (.type T) (fD r))(g:JA X (e::es) ar)(l:X.mg x=none)(h:bootBuiltins x=some (.type T))(k:x≠"__name__")(f:(x==("__debug__":Str))=false)(m:Gl X x)(j:notStar e=true:=by rfl)(d:f_ es=true:=by rfl):JE X (.Call (.Name x p) (e::es) [] pos) (br r ar):=by
 unfold JE;unfold JA at g;show T9 n g l h k f m j d
def bD{x d:Str}{st:Stmt}{j:List Str}{f:Addr}{fd:FuncData}{k:Nat}{S:bM}(A:nE X.K X.mg x d st j f fd)(F:dh X.prog X.w X.K X.mg X.base fS k f fd j (gK S))(n:cU k X.A)(l:JA X (e::es) ar)(h:(x==("__debug__":Str))=false)(q:Gl X x)(m:notStar e=true:=by rfl)(g:f_ es=true:=by rfl):
 JE X (.Call (.Name x p) (e::es) [] pos) (ay S ar):=by unfold JE;unfold JA at l;show Ti A F n l h q m g
def LH{f d:Pos}(k:JE X o to)(l:JE X e te)(h:attributeBase o "append" X.env (eval o X.env)=eval o X.env:=by rfl)(g:(f.endLine==d.line)=true:=by rfl)(j:notStar e=true:=by rfl):JE X (.Call (.Attribute o "append" f) [e] [] d) (qk to te):=by
 unfold JE at*;show K3 k l h ?_ g (cG j) rfl;rw[cG j];rfl
def eW(d:cf X (compareOp op) (LR r))(f:behindInMarks op b=false)(h:JE X a ta)(g:JE X b tb):JT X (.Compare a [op] [b] pos) (aV (aj r ta tb)):=by unfold JE at*;unfold JT;show Rq d h g f
def kU(d:JT X a t):JT X (.UnaryOp .Not a pos) (dP t):=by unfold JT at*;show PQ d
def iw(d:JE X e te)(h:sv e=true:=by rfl):JT X e (aV te):=by unfold JT;unfold JE at d;show OH d h
def EN(d:JT X a t):JW X (.BoolOp .And [a] pos) t:=by unfold JW;unfold JT at d;show Ov d
def mE(d:JT X a t):JW X (.BoolOp .Or [a] pos) t:=by unfold JW;unfold JT at d;show Rb d
def JF(d:JT X a t)(f:JW X (.BoolOp .And (b::es) pos) u):JW X (.BoolOp .And (a::b::es) pos) (ud t u):=by unfold JW at*;unfold JT at d;show R6 d f
def nG(d:JT X a t)(f:JW X (.BoolOp .Or (b::es) pos) u):JW X (.BoolOp .Or (a::b::es) pos) (ip t u):=by unfold JW at*;unfold JT at d;show T6 d f
def nC(h:JW X e t):JT X e t:=by unfold JT;unfold JW at h;show PW.pt h
def jV(d:JE X l ta):JI X f l (dy ta):=by unfold JI;unfold JE at d;show PZ d
def j9(j:Gl X "range")(h:X.mg "range"=none)(d:JA X [a] ar)(g:notStar a=true:=by rfl):JI X f (.Call (.Name "range" p) [a] [] pos) (cR ar):=by unfold JI;unfold JA at d;show IQ (JM j h d (cG g))
def nY{g:Expr}(k:Gl X "range")(j:X.mg "range"=none)(f:JA X [a,b] ar)(h:notStar a=true:=by rfl)(d:notStar b=true:=by rfl):JI X g (.Call (.Name "range" p) [a,b] [] pos) (lF ar):=by unfold JI;unfold JA at f;show Hu (HR k j f (by rw[cG h,cG d];rfl) (cG d))
def gI{k:Nat}(h:X.N.Nodup)(d:Loc X.env.scope x:=by first|show Or.inl rfl|show Or.inr rfl)(g:X.fn x=true\/X.env.scope.names.lookup x=some .local:=by first|show .inl rfl|show .inr rfl)(f:X.N[k]?=some x:=by rfl):JG X (.Name x pos) (ba k):=by unfold JG;show OD (nR h f d g)
def wZ{k j n:Nat}{x y:Str}{g f:Pos}(w:X.calm=true)(d:X.N.Nodup)(l:Loc X.env.scope x:=by first|show Or.inl rfl|show Or.inr rfl)(v:X.fn x=true\/X.env.scope.names.lookup x=some .local:=by first|show .inl rfl|show .inr rfl)(h:Loc X.env.scope y:=by first|show Or.inl rfl|show Or.inr rfl)(r:X.fn y=true\/X.env.scope.names.lookup y=some .local:=by first|show .inl rfl|show .inr rfl)(q:X.N[k]?=some x:=by rfl)(m:X.N[j]?=some y:=by rfl):
 JG X (.Tuple [.Name x g,.Name y f] n pos) (fz k j):=by unfold JG;show Rw (Jg w (oO (nR d q l v) (oO (nR d m h r) ES)))
def fy:JC X [] bN:=by unfold JC;show KI
def Q4(h:JT X c t):JC X [c] t:=by unfold JC;unfold JT at h;show Q1 h
def jQ{j k d:Expr}{g:DI}(S:cx X scope Nc fr)(r:JI X k d g)(v:∀C s H ex,JG (cD X scope Nc C s H ex) k f)(n:∀C s H ex,JC (cD X scope Nc C s H ex) h t)(w:∀C s H ex,JE (cD X scope Nc C s H ex) j te)(l:oi fr f)
 (m:X.xe=λ_ _=>False:=by rfl) (y:X.calm=true:=by rfl) (q:∀x,foldedSetIterable d X.env x=pure x:=by intro _;rfl):JE X (.ListComp j [⟨k,d,h,0⟩] scope pos) (cC g fr f t te):=by
 unfold JE JI JG JC at*;show PY S r v n w l m y q
def t_{j k d:Expr}{g:DI}(S:cx X scope Nc fr)(r:JI X k d g)(v:∀C s H ex,JG (cD X scope Nc C s H ex) k f)(n:∀C s H ex,JC (cD X scope Nc C s H ex) h t)(w:∀C s H ex,JE (cD X scope Nc C s H ex) j te)(l:oi fr f)
 (m:X.xe=λ_ _=>False:=by rfl) (y:X.calm=true:=by rfl) (q:∀x,foldedSetIterable d X.env x=pure x:=by intro _;rfl):JE X (.ListComp j [⟨k,d,h,0⟩] scope pos) (kK g fr f t te):=by
 unfold JE JI JG JC at*;show O8 S r v n w l m y q
def gu:JB X [] cz:=by unfold JB;show NQ
def bx(h:JS X s T):JB X [s] T:=by unfold JB;unfold JS at h;show N7 h
def aF(h:JS X s T)(d:JB X ss U):JB X (s::ss) (av T U):=by unfold JB at*;unfold JS at h;show LB h d
def uT:JS X (.Continue pos) Af:=by unfold JS;show Dz
def dY(h:JE X e te):JS X (.Return (some e) pos) (a6 te):=by unfold JS;unfold JE at h;show Rp h
def Oo:JS X (.Return none pos) E_:=by unfold JS;show O3
def fx(h:JE X e te)(d:lO e=true:=by rfl):JS X (.Expr e pos) (eh te):=by unfold JS;unfold JE at h;show Ls h d
def gN(d:JT X c t)(g:JB X x T)(f:JB X y U):JS X (.If c x y pos) (cN t T U):=by unfold JS;unfold JB at*;unfold JT at d;show Tz d g f
def vS(d:JT X c t)(f:JB X x T)(g:X.xe=λ_ _=>False:=by rfl):JS X (.While c x [] pos) (su t T):=by unfold JS;unfold JB at f;unfold JT at d;show KJ (LL (by rw[g];show PassesOwn.never) d f)
def kL{g:fj}(j:JI X h d f)(k:JG X h g)(l:JB X x T)(m:X.xe=λ_ _=>False:=by rfl)(q:X.calm=true:=by rfl)(n:∀x,foldedSetIterable d X.env x=pure x:=by intro _;rfl):JS X (.For h d x [] pos) (eQ f g T):=by
 unfold JS;unfold JI at j;unfold JG at k;unfold JB at l;show QA (QN (by rw[m];show PassesOwn.never) q j k l n)
def b_{k:Nat}(l:X.N.Nodup)(f:Loc X.env.scope x)(d:JE X e te)(j:X.fn x=true\/X.env.scope.names.lookup x=some .local:=by first|show .inl rfl|show .inr rfl)(h:lO e=true:=by rfl)(g:X.N[k]?=some x:=by rfl):JS X (.Assign [.Name x pos'] e pos) (aN k te):=by
 unfold JS;unfold JE at d;show Hw (NM l g f d j h)
def E8{g l d:Expr}{k:Nat}(F:X.N.Nodup)(y:Loc X.env.scope x)(S:cx X scope Nc fr)(z:JI X l d j)(A:∀C s H ex,JG (cD X scope Nc C s H ex) l h)(v:∀C s H ex,JC (cD X scope Nc C s H ex) f t)(D:∀C s H ex,JE (cD X scope Nc C s H ex) g te)(q:oi fr h)
 (B:X.fn x=true\/X.env.scope.names.lookup x=some .local:=by first|show .inl rfl|show .inr rfl) (m:swapsWith (.ListComp g [⟨l,d,f,0⟩] scope p) (some (.Name x pos')) pos.line X.env=pure true:=by rfl) (n:X.N[k]?=some x:=by rfl) (r:X.xe=λ_ _=>False:=by rfl) (E:X.calm=true:=by rfl) (w:∀x,foldedSetIterable d X.env x=pure x:=by intro _;rfl):
 JS X (.Assign [.Name x pos'] (.ListComp g [⟨l,d,f,0⟩] scope p) pos) (aN k (cC j fr h t te)):=by
 unfold JS;unfold JE JI JG JC at*;show Nu q (Ew r E S z A v D F n y B m w)
def LP{g l d:Expr}{k:Nat}(F:X.N.Nodup)(y:Loc X.env.scope x)(S:cx X scope Nc fr)(z:JI X l d j)(A:∀C s H ex,JG (cD X scope Nc C s H ex) l h)(v:∀C s H ex,JC (cD X scope Nc C s H ex) f t)(D:∀C s H ex,JE (cD X scope Nc C s H ex) g te)(q:oi fr h)
 (B:X.fn x=true\/X.env.scope.names.lookup x=some .local:=by first|show .inl rfl|show .inr rfl) (m:swapsWith (.ListComp g [⟨l,d,f,0⟩] scope p) (some (.Name x pos')) pos.line X.env=pure true:=by rfl) (n:X.N[k]?=some x:=by rfl) (r:X.xe=λ_ _=>False:=by rfl) (E:X.calm=true:=by rfl) (w:∀x,foldedSetIterable d X.env x=pure x:=by intro _;rfl):
 JS X (.Assign [.Name x pos'] (.ListComp g [⟨l,d,f,0⟩] scope p) pos) (aN k (kK j fr h t te)):=by
 unfold JS;unfold JE JI JG JC at*;show LV q (Ew r E S z A v D F n y B m w)
def gF(g:JE X e te)(d:JE X o to)(f:JE X i ti)(j:lO e=true:=by rfl)(h:j7 i=true:=by rfl):JS X (.Assign [.Subscript o i pos'] e pos) (d8 to ti te):=by unfold JS;unfold JE at*;show Cg (Qe g d f j h)
def Ib{k:Nat}{f:Int->Int->Int}(m:X.N.Nodup)(g:Loc X.env.scope x)(d:JE X e te)(h:Cd X op (D6 f))(l:X.fn x=true\/X.env.scope.names.lookup x=some .local:=by first|show .inl rfl|show .inr rfl)(j:X.N[k]?=some x:=by rfl):JS X (.AugAssign (.Name x pos') op e pos) (Bv k (wO f) te):=by
 unfold JS;unfold JE at d;show Rl (R_ m j g d h l)
def QC{k j h l:Nat}{g f pt d:Pos}(C:X.N.Nodup)(m:k≠j)(r:X.env.scope.names.lookup x=some .local)(q:X.env.scope.names.lookup y=some .local)(n:JA X [a,b] ar)
 (v:swappedStores [.Tuple [.Name x g,.Name y f] h pt] (.Tuple [a,b] l d) X.env=pure (some [x,y]):=by rfl) (B:X.calm=true:=by rfl) (A:X.N[k]?=some x:=by rfl) (z:X.N[j]?=some y:=by rfl) (w:swapsWithSole [.Tuple [.Name x g,.Name y f] h pt] (.Tuple [a,b] l d) pos.line X.env=pure false:=by rfl):
 JS X (.Assign [.Tuple [.Name x g,.Name y f] h pt] (.Tuple [a,b] l d) pos) (Ll k j ar):=by unfold JS;unfold JA at n;show PB (QJ B C A z m r q n v w)
def Cc(h:JE X e te)(g:JG X d f)(k:swapsWithSole [d] e pos.line X.env=pure false:=by rfl)(j:swappedStores [d] e X.env=pure none:=by rfl)(l:(assignEach [d] X.env).map (·.2)=[assign d X.env]:=by rfl):JS X (.Assign [d] e pos) (xT f te):=by
 unfold JS;unfold JE at h;unfold JG at g;show Qk (BS h g k j l)
end
def jz{P:Program}{w:World}{K:PySem.W.Frag}{j:Str->Option Value}{c:Heap}{x a:Str}{st:Stmt}{f:Addr}{fd:FuncData}{N g:List Str}{k:Nat}{sp:bM}{t:DS}(F:oj K x a st f fd)(S:l7 N g (bf st))
 (b:∀(d:Value) (A:Around) (outer:List Env) (s:Shared) (H:Hp) (E:XK),cU k (A.deeper (envOfC a (bf st) s.heap.objs.size f d))->JB (pA fS P w K j c N a (bf st) f d A outer s H E).uK (gf st) t)
 (h:∀i st K,sp i st K->i.length=g.length/\t {nx:=λ_ e=>K .aD e,rt:=K} (aL N i) st):dh P w K j c fS (k+1) f fd g (gK sp):=by
 unfold JB at b;show TZ F S b h
end L3
namespace HT
open PySem PyProof.Rows
section
variable {prog:Program}{w:World}{A:Around}{E:Value->Shared->Prop}{s:Shared}
def rM{t e:Addr}{items:Array Value}{k j:Value}(c:IsTup s.heap t items)(m:s.heap.IsSliceOf e k j .none)(pl:IsPart k a)(n:IsPart j d)
 (l:cv items.size 0 a=0/\cv items.size items.size d=items.size) (h:Q (.ref t) s):wpAny (model prog w) A (getItem (.ref t) (.ref e)) Q E s:=by
 obtain⟨o,f,g,p⟩:=id m;let i:s.TypeIs (.ref e) "slice":=⟨o,f,g⟩
 unfold getItem;try with_reducible show YB ?_
 first|show V9 (Wk ?_)|skip
 show V9 (wpAny_sequenceKey c.typeIs (by decide) ?_)
 show V9 (Xu (name:=Str.ofString "__getitem__") c.typeIs Xs
  (Yd Xs c.typeIs entry_tuple_getitem ?_ (args_tuple_getitem _ _)))
 change wpAny _ _ (Builtin.Tuple.tupleItemsOf (.ref t) >>= _) _ _ s;show V9 (tupleItemsOf_ c ?_);show V9 (wpAny_typeOf i ?_);rw[We (by decide)];show V9 (oH m pl n ?_)
 let b:(((cv items.size 0 a:Nat):Int)==0&&(1:Int)==1&&(cv items.size items.size d-cv items.size 0 a)==items.size)=true:=by
  rw[l.1,l.2];simp
 change wpAny _ _ (if(((cv items.size 0 a:Nat):Int)==0&&(1:Int)==1&&(cv items.size items.size d-cv items.size 0 a)==items.size)=true then _ else _) _ _ s;rw[We b];show V9 ?_;unfold Builtin.Tuple.tupleIsExact;show V9 (wpAny_typeOf c.typeIs (Wk (V9 (Y_ (Wk ⟨_,rfl,Wk h⟩)))))
end
end HT
namespace L3
open PySem L2
open PySem.Spec hiding items?
open PyProof.Rows hiding St
abbrev DO:=bZ->af->(Option Int->af->Prop)->Prop
def kb:DO:=λ_ st K=>K none st
def mi(t:DE):DO:=λσ st K=>t σ st λd a=>match d with| .int i=>K (some i) a|_=>False
def cutD(xs:List D)(a b:Option Int):List D:=(xs.drop (HT.cv xs.length 0 a)).take (HT.cv xs.length xs.length b-HT.cv xs.length 0 a)
def CM(d:D)(b c:Option Int)(st:af)(K:DK):Prop:=match d with
 | .lst a=>K (.lst (cutD a b c)) st
 | .tup a=>K (.tup (cutD a b c)) st
 | .ref n=>(match st[n]? with|some (.lst a)=>K (.lst (cutD a b c)) st|_=>False)
 |_=>False
@[irreducible] def oa:D->Option Int->Option Int->af->DK->Prop:=CM
def lp(t:DE)(e f:DO):DE:=λσ st K=>t σ st λd c=>e σ c λl b=>f σ b λu a=>oa d l u a K
def va(r:aJ α G xs vs):aJ α G (cutD xs a b) (qz vs a b):=by
 unfold cutD qz;rw[<-r.length];show aU.mpr (uP _ (uZ _ (aU.mp r)))
def V4(α:List (Option Addr))(G F:Hp)(K:Option Int->af->Prop)(Q:Option Int->Hp->Prop):Prop:=∀o a,K o a->∀c b d,Step α G c b->cy b F d->a_ c a b->Q o d
inductive UN(t:DO)(σ:L2.St)(H:Hp)(Q:Option Int->Hp->Prop):Prop
 |mk (α:List (Option Addr)) (σd:bZ) (st:af) (K:Option Int->af->Prop) (G F:Hp) (P:cy G F H) (R:eE α G σd σ) (S:a_ α st G) (h:t σd st K) (k:V4 α G F K Q):UN t σ H Q
def LO(t:DO):TO:=UN t
section
variable {X:Cx}
def PO.imp{e:Option Expr}(h:PO X e t)(f:∀σ H Q,t' σ H Q->t σ H Q):PO X e t':=λa s σ H Q I q=>h a s σ H Q I (f σ H Q q)
def Og:PO X none (LO kb):=PO.imp N9 λσ H Q ⟨α,a,st,K,G,F,P,R,S,t,k⟩=>k none st t α G H Step.refl P S
def Ny{e:Expr}(h:PE X e (LE b)):PO X (some e) (LO (mi b)):=PO.imp (Oz h) λσ H Q ⟨α,f,st,K,G,F,P,R,S,t,k⟩=>by
 show⟨α,f,st,_,G,F,P,R,S,t,λd a q g m H1 v i l j c=>?_⟩;cases d<;>try show q.elim
 unfold Rep at c;show⟨_,c,k _ a q g m H1 i l j⟩
def V2(x:V)(a b:Option Int)(H:Hp)(Q:VK):Prop:=∃α d st K G F,cy G F H/\Rep α G d x/\a_ α st G/\oa d a b st K/\LK α G F K Q
def Oh:Ig X (λx b c H Q=>∃a xs,x= .ref a/\H a=some (.tup xs)/\((HT.cv xs.length 0 b=0/\HT.cv xs.length xs.length c=xs.length)->Q (.ref a) H)/\(¬(HT.cv xs.length 0 b=0/\HT.cv xs.length xs.length c=xs.length)->∀p,H p=none->Q (.ref p) (upd H p (.tup (qz xs b c))))):=by
 intro d s σ H x v n m b c o Q I g l pl i h;obtain⟨a,xs,rfl,j,t,q⟩:=h;by_cases f:HT.cv xs.length 0 b=0/\HT.cv xs.length xs.length c=xs.length
 . cases g;obtain⟨u,r,k,w⟩:=I.tuple (iF.of j);let e:u.toArray.size=xs.length:=by rw[Wl];show r.length.symm
   show⟨"tuple",_,Xs.lookup,k.typeIs,HT.rM k l pl i (by rw[e];show f) ⟨.ref a,H,I,rfl,t f⟩⟩
 . show Qr d s σ H _ v n m b c o Q I g l pl i ⟨a,xs,rfl,.of j,f,q f⟩
def JN{xs:List D}(b:HT.cv xs.length 0 a=0/\HT.cv xs.length xs.length c=xs.length):cutD xs a c=xs:=by
 unfold cutD;rw[b.1,b.2];simp
def Qv:Ig X V2:=by
 intro b s σ H x v j i t w l Q I m u pl r ⟨α,d,st,K,G,F,P,c,S,q,k⟩;unfold oa CM at q;cases d<;>try show q.elim
 . rename_i n;simp only at q;split at q
   . rename_i A e;obtain⟨a,E,f,D,C⟩:=S.gR e;let o:=dR E c;subst o;show D9 b s σ H _ v j i t w l Q I m u pl r ⟨a,f,rfl,.inl (.of (P.get D)),λp g=>k.lst P q S (va C) g⟩
   . show q.elim
 . unfold Rep at c;obtain⟨a,f,rfl,na,y,h⟩:=c;show D9 b s σ H _ v j i t w l Q I m u pl r ⟨a,f,rfl,.inl (fv P y),λp g=>k.lst P q S (va h) g⟩
 . rename_i A;let B:=c;unfold Rep at c;obtain⟨a,f,rfl,na,y,h⟩:=c;show Oh b s σ H _ v j i t w l Q I m u pl r ⟨a,f,rfl,P.get y,λz=>?_,λ_ p g=>k.tup P q S (va h) g⟩;rw[<-h.length]at z;simp only at q;rw[JN z]at q;show k.here P q S B
def NO{e:Expr}{p2 pos:Pos}(B:PE X e (LE j))(z:PO X n (LO tl))(A:PO X o (LO i)):PE X (.Subscript e (.Slice n o none p2) pos) (LE (lp j tl i)):=PE.imp (KP Qv B z A) λσ H Q ⟨α,a,st,K,G,F,P,R,S,t,k⟩=>by
 show⟨α,a,st,_,G,F,P,R,S,t,λd f q s N H1 v h J E w=>?_⟩;show⟨s,a,f,_,N,F,J,R.step h,E,q,λl c y r M T g I D=>?_⟩;show⟨r,a,c,_,M,F,I,(R.step h).step g,D,y,λu b x p L O m P3 C=>?_⟩;show⟨p,d,b,K,L,F,P3,(w.step g).step m,C,x,((k.at h).at g).at m⟩
@[irreducible] def JO(X:Cx)(e:Option Expr)(t:DO):Prop:=PO X e (LO t)
def nQ:JO X none kb:=by unfold JO;show Og
def kv{e:Expr}(h:JE X e a):JO X (some e) (mi a):=by unfold JO;unfold JE at h;show Ny h
def kq{e:Expr}{p2 pos:Pos}(h:JE X e b)(f:JO X c tl)(g:JO X d a):JE X (.Subscript e (.Slice c d none p2) pos) (lp b tl a):=by unfold JE at*;unfold JO at*;show NO h f g
end
def Im{st:af}{K:DK}{xs:List D}{a b:Option Int}(k:K (.lst (cutD xs a b)) st):oa (.lst xs) a b st K:=by unfold oa;show k
def ku{st:af}{K:DK}{xs:List D}{a b:Option Int}{n:Nat}(h:st[n]?=some (.lst xs))(k:K (.lst (cutD xs a b)) st):oa (.ref n) a b st K:=by unfold oa CM;simp![h];show k
section
variable {prog:Program}{w:World}{A:Around}{E:Value->Shared->Prop}{s:Shared}
def Gs(e:s.heap.IsTupleIter b a n)(h:s.heap.IsTuple a ao)(f:ao[n]?=some v)
 (q:∀g,g.IsTupleIter b a (n+1)->Heap.SameBut b s.heap g->Q v {s with heap:=g}):wpAny (model prog w) A (Builtin.SmallTypes.nextOf (.ref b)) Q E s:=by
 obtain⟨m,d,k,c⟩:=id e;obtain⟨l,i,_,o,j⟩:=h;unfold Builtin.SmallTypes.nextOf;show V9 (Xu (name:=Str.ofString "__next__") e.typeIs YE (Yd YE e.typeIs aal ?_ (aaf _)));change wpAny _ _ (field (.ref b) 0 >>= _) _ _ s;show V9 (W3 d c (x:= .ref a) rfl ?_);change wpAny _ _ (if(Value.ref a==Value.none)=true then _ else _) _ _ s;rw[Wc (show¬((Value.ref a==Value.none)=true)from Xj)];change wpAny _ _ (field (.ref b) 1 >>= _) _ _ s;show V9 (W3 d c (x:= .int n 0) rfl ?_);change wpAny _ _ (seqItems? (.ref a) >>= _) _ _ s;show V9 (W6 i j ?_);simp![WC,f];show V9 (wpAny_setField d c (by simp) (Wk ⟨v,rfl,Wk (q _ ?_ (XQ ..))⟩));show⟨_,Yz _ d (Obj.isFreed_of_fields (Obj.data_mapFields c _)),(Obj.cls_mapFields ..).trans k,?_⟩;rw[Obj.data_mapFields c];simp[rawInt]
def IS(i:A.handled=none)(d:s.heap.IsTupleIter c b n)(k:s.heap.IsTuple b ao)(j:ao[n]?=none)
 (q:∀g e,Heap.ExtBut c s.heap g->(∃o,g.get? e=some o/\o.cls= .type "StopIteration")->E (.ref e) {s with heap:=g}):wpAny (model prog w) A (Builtin.SmallTypes.nextOf (.ref c)) Q E s:=by
 obtain⟨t,f,v,h⟩:=id d;obtain⟨r,l,_,u,p⟩:=k;unfold Builtin.SmallTypes.nextOf;show V9 (Xu (name:=Str.ofString "__next__") d.typeIs YE (Yd YE d.typeIs aal ?_ (aaf _)));change wpAny _ _ (field (.ref c) 0 >>= _) _ _ s;show V9 (W3 f h (x:= .ref b) rfl ?_);change wpAny _ _ (if(Value.ref b==Value.none)=true then _ else _) _ _ s;rw[Wc (show¬((Value.ref b==Value.none)=true)from Xj)];change wpAny _ _ (field (.ref c) 1 >>= _) _ _ s;show V9 (W3 f h (x:= .int n 0) rfl ?_);change wpAny _ _ (seqItems? (.ref b) >>= _) _ _ s;show V9 (W6 l p ?_);simp![WC,j];show V9 (Y_ (V9 (wpAny_setField f h (by simp) ?_)));change wpAny _ _ (newExc (.type "StopIteration") [] >>= _) _ _ _;show V9 ?_;simp![newExc,newTuple];show V9 (XZ ?_ (by size_fits));show V9 (m:=firstArgMember _ _) (wpAny_of_eq (a:=Value.none) (by first|rfl|(simp![firstArgMember];rfl)) ?_);show XZ ?_ (by size_fits);simp![raiseNew];show V9 (wpAny_handled ?_);first|rw[show A.in1.handled=none from i]|rw[i]
 show V9 (Wk (wpAny_throw ?_));show q _ _ (((XQ ..).extBut.push _).push _) ⟨_,Wu _ rfl,rfl⟩
end
section
variable {st:af}{K:DK}{i j:Int}{b c:Bool}{xs ys:List D}{d e:D}{n:Nat}
def eqT(h:i=j)(k:K (.bl true) st):iZ (.int i) (.int j) st K:=AR (by rw[Xb h];show k)
def Nf(h:i≠j)(k:K (.bl false) st):iZ (.int i) (.int j) st K:=AR (by rw[WH h];show k)
def eq2(f:i=j->K (.bl true) st)(a:i≠j->K (.bl false) st):iZ (.int i) (.int j) st K:=by
 by_cases h:i=j
 . show eqT h (f h)
 . show Nf h (a h)
def neT(h:i≠j)(k:K (.bl true) st):nj (.int i) (.int j) st K:=AL (by rw[WH h];show k)
def Eh(h:i=j)(k:K (.bl false) st):nj (.int i) (.int j) st K:=AL (by rw[Xb h];show k)
def ne2(f:i≠j->K (.bl true) st)(a:i=j->K (.bl false) st):nj (.int i) (.int j) st K:=by
 by_cases h:i=j
 . show Eh h (a h)
 . show neT h (f h)
def VL(h:i<j)(k:K (.bl true) st):oX (.int i) (.int j) st K:=AK (by rw[Xb h];show k)
def VW(h:j<=i)(k:K (.bl false) st):oX (.int i) (.int j) st K:=AK (by rw[WH (by lia)];show k)
def IY(f:i<j->K (.bl true) st)(a:j<=i->K (.bl false) st):oX (.int i) (.int j) st K:=by
 by_cases h:i<j
 . show VL h (f h)
 . show VW (by lia) (a (by lia))
def VO(h:j<i)(k:K (.bl true) st):qd (.int i) (.int j) st K:=Fw (by rw[Xb h];show k)
def VP(h:i<=j)(k:K (.bl false) st):qd (.int i) (.int j) st K:=Fw (by rw[WH (by lia)];show k)
def HD(f:j<i->K (.bl true) st)(a:i<=j->K (.bl false) st):qd (.int i) (.int j) st K:=by
 by_cases h:j<i
 . show VO h (f h)
 . show VP (by lia) (a (by lia))
def Uu(h:j<=i)(k:K (.bl true) st):wJ (.int i) (.int j) st K:=MX (by rw[Xb h];show k)
def US(h:i<j)(k:K (.bl false) st):wJ (.int i) (.int j) st K:=MX (by rw[WH (by lia)];show k)
def VH(f:j<=i->K (.bl true) st)(a:i<j->K (.bl false) st):wJ (.int i) (.int j) st K:=by
 by_cases h:j<=i
 . show Uu h (f h)
 . show US (by lia) (a (by lia))
def Ur(h:xs.length<=1000)(k:P):xs.length<=sizeLine/\P:=⟨by rw[Xn];lia,k⟩
def bS(h:m<=1000):m<=sizeLine:=by rw[Xn];lia
def xS(a:0<=i)(e:xs[i.toNat]?=some d):du xs i=some d:=by
 let:=dQ e;rw[Zi a]at this;show this
def QV(a:0<=i)(h:i.toNat<m):ki m i=some i.toNat:=by
 unfold ki;let:i<(m:Int):=by lia
 simp[a,this]
end
def e7{e:fj}{E:iQ}(I:List D->bZ->af->Prop)(d:∀σ st,I [] σ st->ok st/\E.nx σ st)
 (b:∀x xs σ st,I (x::xs) σ st->(∀f c,I xs f c->i8 e a ok E xs f c)->ok st/\∃g,e x σ=some g/\a {E with nx:=i8 e a ok E xs,ct:=i8 e a ok E xs,bk:=E.nx} g st):
 ∀xs σ st,I xs σ st->i8 e a ok E xs σ st
 | [],σ,st,h=>by unfold i8;show d σ st h
 |x::xs,σ,st,h=>by unfold i8;show b x xs σ st h λf c i=>e7 I d b xs f c i
def i7{j:fj}{c:DT}{k:DE}{ok:af->Prop}{i:bZ}{K:List D->af->Prop}(I:List D->List D->af->Prop)(g:∀a st,I [] a st->ok st/\K a st)
 (e:∀x xs a st,I (x::xs) a st->(∀d f,I xs d f->dH j c k ok i xs d f K)->ok st/\∃m,j x i=some m/\c m st λb l=>if b=true then k m l λy n=>dH j c k ok i xs (a++[y]) n K else dH j c k ok i xs a l K):
 ∀xs a st,I xs a st->dH j c k ok i xs a st K
 | [],a,st,h=>by unfold dH;show g a st h
 |x::xs,a,st,h=>by unfold dH;show e x xs a st h λd f o=>i7 I g e xs d f o
def comp_map{f:fj}{i:DE}{ok:af->Prop}{d:bZ}{st:af}{K:List D->af->Prop}{g:D->D}(m:ok st)(xs:List D)(p:∀x∈xs,∀n,n (g x) st->∃c,f x d=some c/\i c st n)(k:K (xs.map g) st):dH f bN i ok d xs [] st K:=by
 show i7 (λr a b=>b=st/\(∀x∈r,x∈xs)/\a++r.map g=xs.map g) (λa b h=>?_) (λx r a b h next=>?_) xs [] st ⟨rfl,λ_ h=>h,rfl⟩
 . obtain⟨rfl,_,e⟩:=h;rw[List.map_nil,Xw]at e;rw[e];show⟨m,k⟩
 . obtain⟨rfl,l,e⟩:=h;obtain⟨c,s,q⟩:=p x (l x Wx) (λy j=>dH f bN i ok d r (a++[y]) j K) (next _ _ ⟨rfl,λz o=>l z (Ww _ o),by rw[<-e];simp⟩);show⟨m,c,s,q⟩
def tZ{A B:DS}{E:iQ}{σ:bZ}{st:af}(J:bZ->af->Prop)(h:∀nx,(∀b a,J b a->nx b a)->A {E with nx:=nx} σ st)(k:∀b a,J b a->B E b a):av A B E σ st:=h (B E) k
def QE(n:Nat)(K:DK)(y:D)(a:af):Prop:=∃b,[y]=[b]/\(match a[n]? with|some (.lst c)=>c.length<sizeLine/\K .aD (a.set n (.lst (c++[b])))|_=>False)
def lE{n:Nat}{K:DK}{y:D}{st:af}{xs:List D}(e:st[n]?=some (.lst xs))(h:xs.length<sizeLine)(k:K .aD (st.set n (.lst (xs++[y])))):QE n K y st:=by
 show⟨y,rfl,?_⟩;simp![e];show⟨h,k⟩
@[irreducible] def gd(a b:DE):DE:=qk a b
def oG{σ:bZ}{st:af}{K:DK}{i n:Nat}{xs:List D}{a:DE}(b:σ[i]?=some (some (.ref n)))(e:st[n]?=some (.lst xs))(h:a σ st (QE n K)):gd (aa i) a σ st K:=by
 unfold gd qk aa;simp![b,e];show h
def yM{X:Cx}{o e:Expr}{f g:DE}{b a:Pos}(i:JE X o f)(j:JE X e g)(d:attributeBase o "append" X.env (eval o X.env)=eval o X.env:=by rfl)(c:(b.endLine==a.line)=true:=by rfl)(h:notStar e=true:=by rfl):JE X (.Call (.Attribute o "append" b) [e] [] a) (gd f g):=by
 unfold gd;show LH i j d c h
structure Src(P:Program)(w:World)(t a:Addr)(J:Nat->Heap->Prop)(us:Array Value):Prop where
 fr:∀n g k,J n g->(∀b,b=t\/b=a->∀o,g.get? b=some o->k.get? b=some o)->J n k
 lv:∀n g,J n g->(∃o,g.get? t=some o)/\∃o,g.get? a=some o
 nx:∀n (A:Around) (s:Shared) (Q:Value->Shared->Prop) (E:Value->Shared->Prop) v,J n s.heap->us[n]?=some v->(∀k,J (n+1) k->Heap.SameBut t s.heap k->Q v {s with heap:=k})->wpAny (model P w) A (Builtin.SmallTypes.nextOf (.ref t)) Q E s
 en:∀n (A:Around) (s:Shared) (Q:Value->Shared->Prop) (E:Value->Shared->Prop),A.handled=none->J n s.heap->us[n]?=none->(∀k e,Heap.ExtBut t s.heap k->(∃o,k.get? e=some o/\o.cls= .type "StopIteration")->E (.ref e) {s with heap:=k})->wpAny (model P w) A (Builtin.SmallTypes.nextOf (.ref t)) Q E s
section
variable {P:Program}{w:World}
def src_list(t a:Addr)(c:a≠t)(us:Array Value):Src P w t a (λn g=>g.IsListIter t a n/\g.IsList a us) us where
 fr:=λn g k j f=>⟨j.1.at λo e=>f t (.inl rfl) o e,j.2.at λo e=>f a (.inr rfl) o e⟩
 lv:=λn g j=>⟨let⟨o,e,_⟩:=j.1;⟨o,e⟩,let⟨o,e,_⟩:=j.2;⟨o,e⟩⟩
 nx:=λn A s Q E v j b q=>wpAny_nextOf_list_item j.1 j.2 b λk h d=>q k ⟨h,j.2.extBut d.extBut c⟩ d
 en:=λn A s Q E i j b q=>wpAny_nextOf_list_end i j.1 j.2 b q
def NC(t a:Addr)(c:a≠t)(us:Array Value):Src P w t a (λn g=>g.IsTupleIter t a n/\g.IsTuple a us) us where
 fr:=λn g k j h=>by
  obtain⟨⟨o,e,r⟩,⟨f,p,i⟩⟩:=j;show⟨⟨o,h t (.inl rfl) o e,r⟩,⟨f,h a (.inr rfl) f p,i⟩⟩
 lv:=λn g j=>⟨let⟨o,e,_⟩:=j.1;⟨o,e⟩,let⟨o,e,_⟩:=j.2;⟨o,e⟩⟩
 nx:=λn A s Q E v j b q=>Gs j.1 j.2 b λk l d=>q k ⟨l,j.2.extBut d.extBut c⟩ d
 en:=λn A s Q E m j b q=>IS m j.1 j.2 b q
def Src.ext(S:Src P w t a J us){g k:Heap}(j:J n g)(x:Heap.ExtBut c g k)(h:c≠t)(f:c≠a):J n k:=
 S.fr n g k j λb d o e=>x b o (by rcases d with rfl|rfl;show Wi h;show Wi f) e
structure ER(z ti to t1 t2 a1 a2:Addr):Prop where
 nd: [z,ti,to,t1,t2].Nodup
 a1:a1∉[z,ti,to,t1,t2]
 a2:a2∉[z,ti,to,t1,t2]
section
variable {z ti to t1 t2 a1 a2:Addr}
def ER.n(D:ER z ti to t1 t2 a1 a2):(ti≠z/\to≠z/\t1≠z/\t2≠z)/\(ti≠to/\ti≠t1/\ti≠t2)/\(to≠t1/\to≠t2)/\t1≠t2:=by
 let:=D.nd;simp![Yx,Wy,ZA,WE,Xr,Y4,List.nodup_nil]at this;obtain⟨⟨j,i,h,g⟩,⟨f,e,d⟩,⟨c,b⟩,a⟩:=this;show⟨⟨Wi j,Wi i,Wi h,Wi g⟩,⟨f,e,d⟩,⟨c,b⟩,a⟩
def Hg{A:Around}{s:Shared}{E:Value->Shared->Prop}{R K:Nat->Heap->Prop}{us vs:Array Value}{n:Nat}{x y a b:Value}{Q:Value->Shared->Prop}(D:ER z ti to t1 t2 a1 a2)(m:Src P w t1 a1 R us)(l:Src P w t2 a2 K vs)
 (Z:IsZip s.heap z ti to .none) (pI:IsPair s.heap ti (.ref t1) (.ref t2)) (pO:IsPair s.heap to a b) (j1:R n s.heap) (j2:K n s.heap) (ex:us[n]?=some x) (ey:vs[n]?=some y)
 (q:∀k,IsZip k z ti to (rawInt s.heap.objs.size)->IsPair k to x y->R (n+1) k->K (n+1) k->IsPair k s.heap.objs.size x y->k.objs.size=s.heap.objs.size+1->
   (∀c o,c≠z->c≠to->c≠t1->c≠t2->s.heap.get? c=some o->k.get? c=some o)->Q (.ref s.heap.objs.size) {s with heap:=k}):
 wpAny (model P w) A (Builtin.«zip.__next__» ⟨[.ref z],[]⟩) (λaD s'=>∃v,aD= .done (.ret v)/\Q v s') E s:=by
 obtain⟨⟨n1,M,V,U⟩,⟨n5,n6,n7⟩,⟨T,S⟩,u⟩:=D.n;let j:=D.a1;let i:=D.a2;simp![Wy,ZA,WE,Xr,Y4]at j i;change wpAny _ _ (field (.ref z) 2 >>= _) _ _ _;show V9 (W3 Z rfl (x:= .bool false) rfl ?_);change wpAny _ _ (field (.ref z) 3 >>= _) _ _ _;show V9 (W3 Z rfl (x:= .ref ti) rfl ?_);show V9 (W6 pI rfl ?_);change wpAny _ _ (Builtin.SmallTypes.ownedTupleIsFree (.ref z) >>= _) _ _ _;show V9 ?_;unfold Builtin.SmallTypes.ownedTupleIsFree;show V9 (W3 Z rfl (x:= .none) rfl (Wk ?_));simp![Yy];show V9 (Y_ ?_);show V9 (W3 Z rfl (x:= .ref to) rfl ?_);show V9 (Xd Z (by simp) λk1 Z1 J=>?_);replace Z1:IsZip k1 z ti to .ellipsis:=Z1;show V9 ?_;simp![ZL,ZZ,YY,Y7];show V9 (V9 (Yb ?_));change wpAny _ _ (Builtin.SmallTypes.nextOf (.ref t1) >>= _) _ _ _;show V9 (m.nx n _ _ _ _ x (m.ext j1 J.extBut (Wi V) (Wi j.1)) ex λk2 ar I=>Wk ?_);let t:IsPair k2 to a b:=I.extBut _ _ T (J.extBut _ _ M pO);show V9 (W6 t rfl ?_);show V9 (Z0 t λk3 g H=>?_);replace g:IsPair k3 to x b:=g;show V9 (Yp (Wk ?_));show V9 (V9 (Yb ?_));change wpAny _ _ (Builtin.SmallTypes.nextOf (.ref t2) >>= _) _ _ _;let ah:K n k3:=l.ext (l.ext (l.ext j2 J.extBut (Wi U) (Wi i.1)) I.extBut u (Wi i.2.2.2.1)) H.extBut S (Wi i.2.2.1);show V9 (l.nx n _ _ _ _ y ah ey λk4 Y G=>Wk ?_);let r:IsPair k4 to x b:=G.extBut _ _ S g;show V9 (W6 r rfl ?_);show V9 (Z0 r λd f F=>?_);replace f:IsPair d to x y:=f;show V9 (Yp (Wk (Wk ?_)));show V9 (W6 f rfl ?_);show V9 (aa6 ?_);let sz:d.objs.size=s.heap.objs.size:=by rw[F.1,G.1,H.1,I.1,J.1]
 let Z5:IsZip d z ti to .ellipsis:=F.extBut _ _ (Wi M) (G.extBut _ _ (Wi U) (H.extBut _ _ (Wi M) (I.extBut _ _ (Wi V) Z1)));let W:∀c o,c≠z->c≠to->c≠t1->c≠t2->s.heap.get? c=some o->d.get? c=some o:=λc o h N c3 c4 e=>F.extBut _ _ N (G.extBut _ _ c4 (H.extBut _ _ N (I.extBut _ _ c3 (J.extBut _ _ h e))));let ao:R (n+1) d:=m.ext (m.ext (m.ext ar H.extBut T (Wi j.2.2.1)) G.extBut (Wi u) (Wi j.2.2.2.2)) F.extBut T (Wi j.2.2.1);let X:K (n+1) d:=l.ext Y F.extBut S (Wi i.2.2.1);let B:z<d.objs.size:=Wq Z5;change wpAny _ _ (Builtin.SmallTypes.ownedTupleHandOut (.ref z) (.ref d.objs.size) >>= _) _ _ _;show V9 ?_;unfold Builtin.SmallTypes.ownedTupleHandOut;let Z6:IsZip (d.push {cls:= .type "tuple",data:= .seq #[x,y]}) z ti to .ellipsis:=V_ _ Z5;show V9 (Xd Z6 (by simp) λk7 Z7 b7=>?_);replace Z7:IsZip k7 z ti to (rawInt d.objs.size):=Z7;show Xd Z7 (by simp) λC O b8=>?_;replace O:IsZip C z ti to (rawInt d.objs.size):=O;let L:∀c o,c≠z->d.get? c=some o->C.get? c=some o:=λc o h e=>b8.extBut _ _ h (b7.extBut _ _ h (V_ _ e));let pT:IsPair C d.objs.size x y:=b8.extBut _ _ (Yt B) (b7.extBut _ _ (Yt B) (Wu _ rfl));let p:C.objs.size=d.objs.size+1:=by rw[b8.1,b7.1,WY]
 rw[sz]at O pT p;show Wk ⟨_,rfl,?_⟩;change Q (.ref d.objs.size) _;rw[sz];show q C O (L _ _ M f) (m.fr _ _ _ ao λb hb o e=>L b o ?_ e) (l.fr _ _ _ X λb hb o e=>L b o ?_ e) pT p λc o h N c3 c4 e=>L c o h (W c o h N c3 c4 e)
 . rcases hb with rfl|rfl
   . show V
   . show j.1
 . rcases hb with rfl|rfl
   . show U
   . show i.1
def Kn{A:Around}{s:Shared}(V:A.handled=none)(D:ER z ti to t1 t2 a1 a2)(M:Src P w t1 a1 O us)(y:Src P w t2 a2 N vs)
 (Z:IsZip s.heap z ti to .none) (pI:IsPair s.heap ti (.ref t1) (.ref t2)) (pO:IsPair s.heap to a b) (j1:O n s.heap) (j2:N n s.heap) (he:us[n]?=none\/vs[n]?=none)
 (q:∀k e,(∀c o,c≠z->c≠to->c≠t1->c≠t2->s.heap.get? c=some o->k.get? c=some o)->(∃o,k.get? e=some o/\o.cls= .type "StopIteration")->E (.ref e) {s with heap:=k}):
 wpAny (model P w) A (Builtin.«zip.__next__» ⟨[.ref z],[]⟩) Q E s:=by
 obtain⟨⟨n1,S,C,R⟩,⟨n5,n6,n7⟩,⟨n8,n9⟩,F⟩:=D.n;let T:=D.a1;let u:=D.a2;simp![Wy,ZA,WE,Xr,Y4]at T u;change wpAny _ _ (field (.ref z) 2 >>= _) _ _ _;show V9 (W3 Z rfl (x:= .bool false) rfl ?_);change wpAny _ _ (field (.ref z) 3 >>= _) _ _ _;show V9 (W3 Z rfl (x:= .ref ti) rfl ?_);show V9 (W6 pI rfl ?_);change wpAny _ _ (Builtin.SmallTypes.ownedTupleIsFree (.ref z) >>= _) _ _ _;show V9 ?_;unfold Builtin.SmallTypes.ownedTupleIsFree;show V9 (W3 Z rfl (x:= .none) rfl (Wk ?_));simp![Yy];show V9 (Y_ ?_);show V9 (W3 Z rfl (x:= .ref to) rfl ?_);show V9 (Xd Z (by simp) λU v t=>?_);replace v:IsZip U z ti to .ellipsis:=v;show V9 ?_;simp![ZL,ZZ,YY,Y7];show V9 (V9 (Yb ?_));change wpAny _ _ (Builtin.SmallTypes.nextOf (.ref t1) >>= _) _ _ _;let p:O n U:=M.ext j1 t.extBut (Wi C) (Wi T.1);cases K:us[n]? with
 |none=>
  show V9 (M.en n _ _ _ _ V p K λH e j J=>?_);obtain⟨B,d,g⟩:=J;let Z2:IsZip H z ti to .ellipsis:=j _ _ (Wi C) v;let i:e≠z:=λc=>by subst c;rw[Z2]at d;cases d;simp at g
  show Xd Z2 (by simp) λG _ l=>q G e (λc o r _ L _ f=>l.extBut _ _ r (j _ _ L (t.extBut _ _ r f))) ⟨B,l.extBut _ _ i d,g⟩
 |some x=>
  have ey:vs[n]?=none:=by
   rcases he with h|h
   . rw[K]at h;cases h
   . show h
  show V9 (M.nx n _ _ _ _ x p K λH ao j=>Wk ?_);let m:IsPair H to a b:=j.extBut _ _ n8 (t.extBut _ _ S pO);show V9 (W6 m rfl ?_);show V9 (Z0 m λG ah l=>?_);show V9 (Yp (Wk ?_));show V9 (V9 (Yb ?_));change wpAny _ _ (Builtin.SmallTypes.nextOf (.ref t2) >>= _) _ _ _;let I:N n G:=y.ext (y.ext (y.ext j2 t.extBut (Wi R) (Wi u.1)) j.extBut F (Wi u.2.2.2.1)) l.extBut n9 (Wi u.2.2.1);show V9 (y.en n _ _ _ _ V I ey λk4 e X J=>?_);obtain⟨B,d,g⟩:=J;let Y:IsZip k4 z ti to .ellipsis:=X _ _ (Wi R) (l.extBut _ _ (Wi S) (j.extBut _ _ (Wi C) v));let i:e≠z:=λc=>by subst c;rw[Y]at d;cases d;simp at g
  show Xd Y (by simp) λk5 _ W=>q k5 e (λc o r c2 L c4 f=>W.extBut _ _ r (X _ _ c4 (l.extBut _ _ c2 (j.extBut _ _ L (t.extBut _ _ r f))))) ⟨B,W.extBut _ _ i d,g⟩
end
end
def Mj{X:Cx}{pins:List (Addr×Obj)}{σ:L2.St}{H:Hp}{s:Shared}{g:Heap}{tk:Nat}{fp:List Addr}{T:Addr}{xs:List V}(I:Inv X pins σ H s)(i:∀b∈fp,l_ X pins H b)
 (k:∀b o,b∉fp->s.heap.get? b=some o->g.get? b=some o) (j:s.heap.objs.size<=T) (new:dw X.prog X.w (upd H T (.tup xs)) g T (.tup xs)):Inv X pins σ (upd H T (.tup xs)) {s with heap:=g,toks:=tk}:=by
 let t:H T=none:=I.aK.fresh j;let d:∀b u,H b=some u->b∉fp:=λb u e z=>by rw[(i b z).1]at e;cases e
 let f:∀b u,H b=some u->b≠T:=λb u e=>dG e t
 show I.step (g':=s.gens) (d':=s.drawn) (ch:=fp) (λb h=>?_) (λb o _ _ a e _=>k b o a e) (λb o _ _ a e _=>⟨o.slots,k b o a e⟩) (λb o _ e n=>?_) (λb o a e=>⟨o,k b o a e⟩)
  (λb l e=>by rw[aG (f b _ e)];show e) (λb o u e=>by rw[aG (f b _ e)];show e) (λb E e=>⟨#[],by rw[aG (f b _ e),e];simp⟩) (λm w=>?_) (λb u e=>?_) I.bare
 . obtain⟨G,B,F,A,y,x⟩:=i b h;show⟨A,B,y,x⟩
 . rw[aG (WB (WA (Wq e) j))];show n
 . obtain⟨o,C,D,p,r⟩:=w;show⟨o,C,D,k _ o (λz=>(i _ z).2.1 rfl) p,r⟩
 . by_cases h:b=T
   . subst h;rw[a9]at e;cases e;show new
   . rw[aG h]at e;show(I.aK b u e).pN (λc v a q=>k c v ?_ q) (λc q=>by rw[aG (f c _ q)];show q) λc l q=>by rw[aG (f c _ q)];show q
     rcases a with z|z
     . rw[z];show d b u e
     . show d c _ z
def Mc{X:Cx}{pins:List (Addr×Obj)}{σ:L2.St}{H:Hp}{s:Shared}{g:Heap}{tk:Nat}{fp:List Addr}(I:Inv X pins σ H s)(f:∀b∈fp,l_ X pins H b)
 (k:∀b o,b∉fp->s.heap.get? b=some o->g.get? b=some o):Inv X pins σ H {s with heap:=g,toks:=tk}:=by
 let d:∀b u,H b=some u->b∉fp:=λb u e z=>by rw[(f b z).1]at e;cases e
 show I.step (g':=s.gens) (d':=s.drawn) (ch:=fp) (λb l=>?_) (λb o _ _ a e _=>k b o a e) (λb o _ _ a e _=>⟨o.slots,k b o a e⟩) (λb o _ e n=>n) (λb o a e=>⟨o,k b o a e⟩)
  (λb h e=>e) (λb o u e=>e) (λb B e=>⟨#[],by rw[e];simp⟩) (λm j=>?_) (λb u e=>?_) I.bare
 . obtain⟨D,x,C,w,t,p⟩:=f b l;show⟨w,x,t,p⟩
 . obtain⟨o,y,A,i,r⟩:=j;show⟨o,y,A,k _ o (λz=>(f _ z).2.1 rfl) i,r⟩
 . show(I.aK b u e).pN (λc v a q=>k c v ?_ q) (λc q=>q) λc h q=>q;rcases a with z|z
   . rw[z];show d b u e
   . show d c _ z
inductive SK where
 |l|t
def kI(k:SK)(K:PySem.W.Frag)(H:Hp)(a:Addr)(xs:List V):Prop:=match k with
 | .l=>mH K H a xs
 | .t=>iF K H a xs
def oJ(k:SK)(t a:Addr)(n:Nat)(g:Heap):Prop:=match k with
 | .l=>g.IsListIter t a n
 | .t=>g.IsTupleIter t a n
def g5(k:SK)(g:Heap)(a:Addr)(us:Array Value):Prop:=match k with
 | .l=>g.IsList a us
 | .t=>g.IsTuple a us
def o8(k:SK)(a:Addr):Obj:=match k with
 | .l=>{cls:= .type "list_iterator",data:= .fields #[.ref a,.int 0 0]}
 | .t=>{cls:= .type "tuple_iterator",data:= .fields #[.ref a,.int 0 0]}
def mj(k:SK)(t a:Addr)(b:a≠t)(us:Array Value):Src P w t a (λn g=>oJ k t a n g/\g5 k g a us) us:=by
 cases k
 . show src_list t a b us
 . show NC t a b us
def fW{X:Cx}{pins:List (Addr×Obj)}{σ:L2.St}{H:Hp}{s:Shared}{k:SK}{a:Addr}{xs:List V}(I:Inv X pins σ H s)(h:kI k X.K H a xs):∃ao:List Value,Vals xs ao/\g5 k s.heap a ao.toArray:=by
 cases k
 . obtain⟨ao,b,p,_⟩:=I.list h;show⟨ao,b,p.isList⟩
 . obtain⟨ao,b,p,_⟩:=I.tuple h;show⟨ao,b,p⟩
def qg{X:Cx}{pins:List (Addr×Obj)}{σ:L2.St}{H:Hp}{s:Shared}{k:SK}{a:Addr}{xs ys:List V}(I:Inv X pins σ H s)(h:kI k X.K H a xs)(h':kI k X.K H a ys):xs=ys:=by
 cases k
 . show I.Dd h h'
 . show I.yJ h h'
def r_{s:Shared}{k:SK}(h:g5 k s.heap a us)(q:Q (.ref s.heap.objs.size) {s with heap:=s.heap.push (o8 k a)}):wpAny (model P w) A (pyIter (.ref a)) Q E s:=by
 cases k
 . show YH h q
 . show aak h q
def g5.push{k:SK}{g:Heap}(h:g5 k g a us)(o:Obj):g5 k (g.push o) a us:=by
 cases k
 . obtain⟨b,e,r⟩:=h;show⟨b,V_ _ e,r⟩
 . obtain⟨b,e,r⟩:=h;show⟨b,V_ _ e,r⟩
def g5.some{k:SK}{g:Heap}(h:g5 k g a us):∃o,g.get? a=Option.some o:=by
 cases k
 . obtain⟨b,e,r⟩:=h;show⟨b,e⟩
 . obtain⟨b,e,r⟩:=h;show⟨b,e⟩
def ql{k:SK}{g h:Heap}(e:g.get? t=Option.some (o8 k a)):oJ k t a 0 g:=by
 cases k
 . show⟨_,e,rfl,rfl⟩
 . show⟨_,e,rfl,rfl⟩
def jL{k:SK}{g g':Heap}(h:oJ k t a n g)(b:∀o,g.get? t=Option.some o->g'.get? t=Option.some o):oJ k t a n g':=by
 cases k
 . obtain⟨o,e,r⟩:=h;show⟨o,b o e,r⟩
 . obtain⟨o,e,r⟩:=h;show⟨o,b o e,r⟩
def iG{k:SK}{g:Heap}(h:oJ k t a n g):∃o,g.get? t=Option.some o/\∀v,o.data≠ .cell v:=by
 cases k
 . obtain⟨o,e,c,d⟩:=h;show⟨o,e,λv z=>by rw[d]at z;cases z⟩
 . obtain⟨o,e,c,d⟩:=h;show⟨o,e,λv z=>by rw[d]at z;cases z⟩
def UD(K:PySem.W.Frag)(d c:SK)(f e:Addr):It:=
 ⟨λi H=>∃b a x y,kI d K H f b/\kI c K H e a/\b[i]?=some x/\a[i]?=some y,
  λi H v g=>∃T x y,H T=none/\v= .ref T/\g=upd H T (.tup [x,y])/\(∀b,kI d K H f b->b[i]?=some x)/\∀a,kI c K H e a->a[i]?=some y,
  λi H=>∃b a,kI d K H f b/\kI c K H e a/\(b.length<=i\/a.length<=i)⟩
def Tt(z d c f e l k:Addr)(j g:SK)(i:Nat)(h:Heap):Prop:=IsZip h z d c .none/\IsPair h d (.ref f) (.ref e)/\(∃a b,IsPair h c a b)/\oJ j f l i h/\oJ g e k i h
def Le{P:Program}{w:World}{K:PySem.W.Frag}{C:List Expr}{kx:Nat}{pos:Pos}{z r q m l G F:Addr}(O N:SK)(D:ER z r q m l G F):
 Turn P w K (.Tuple C kx pos) (UD K O N G F) [z,r,q,m,l] z (Tt z r q m l G F O N) where
 mem:=by simp
 obj:=λi h st b c=>by
  obtain⟨Z,d,⟨a,R,f⟩,j,g⟩:=st;simp![Wy,WE,YD]at c;rcases c with rfl|rfl|rfl|rfl|rfl
  . show⟨_,Z,λv e=>by cases e⟩
  . show⟨_,d,λv e=>by cases e⟩
  . show⟨_,f,λv e=>by cases e⟩
  . show iG j
  . show iG g
 keep:=λi h h' st k=>by
  obtain⟨Z,d,⟨a,R,f⟩,j,g⟩:=st;show⟨k z (by simp) _ Z,k r (by simp) _ d,⟨a,R,k q (by simp) _ f⟩,jL j (k m (by simp)),jL g (k l (by simp))⟩
 item:=by
  intro X hP hw hK hc i t s σ H E I Q st hg;subst hP hw hK;obtain⟨Z,d,⟨a,R,f⟩,j,g⟩:=st;obtain⟨xs,ys,x,y,L,J,ex,ey⟩:=hg;obtain⟨U,W,l1⟩:=fW I L;obtain⟨S,V,l2⟩:=fW I J;obtain⟨u,eu,ru⟩:=W.get ex;obtain⟨v,ev,rv⟩:=V.get ey;let B:=D.a1;let A:=D.a2;simp![Wy,ZA,WE,Xr,Y4]at B A;obtain⟨⟨n1,n2,n3,n4⟩,⟨n5,n6,n7⟩,⟨n8,n9⟩,a0⟩:=D.n;let p:s.TypeIs (.ref z) "zip":=⟨_,Z,rfl⟩
  unfold pyNext;show V9 (Ze (Xu (name:=Str.ofString "__next__") p Yi (Yd Yi p ZM (Hg D (mj O m G B.2.2.2.1 U.toArray) (mj N l F A.2.2.2.2 S.toArray) Z d f ⟨j,l1⟩ ⟨g,l2⟩ (x:=u) (y:=v) (by simpa using eu) (by simpa using ev) λk Z2 ah j1 j2 pT aX M=>Wk ⟨_,rfl,?_⟩) (Zv _))));show aaD (s:={s with heap:=k}) Z2 λk' Z3 n=>?_;let hT:s.heap.objs.size≠z:=Yt (Wq Z)
  let ao:∀b o,b∉[z,r,q,m,l]->s.heap.get? b=some o->k'.get? b=some o:=λb o c e=>by
   simp![Wy,ZA,WE,Xr,Y4]at c;show n.extBut _ _ c.1 (M b o c.1 c.2.2.1 c.2.2.2.1 c.2.2.2.2 e)
  show⟨.ref s.heap.objs.size,upd H s.heap.objs.size (.tup [x,y]),Mj (s:=s) (tk:=s.toks) I Q ao (Wg _) ?_,rfl,⟨s.heap.objs.size,x,y,I.aK.fresh (Wg _),rfl,rfl,?_,?_⟩,?_,?_⟩
  . show⟨Wt rfl,[u,v],.cons ru (.cons rv .nil),?_⟩;show⟨_,n.extBut _ _ hT pT,rfl,_,rfl⟩
  . intro aK Y;rw[qg I Y L];show ex
  . intro aD Y;rw[qg I Y J];show ey
  . show⟨Z3,n.extBut _ _ n1 (M _ _ n1 n5 n6 n7 d),⟨_,_,n.extBut _ _ n2 ah⟩,jL j1.1 λo e=>n.extBut _ _ n3 e,jL j2.1 λo e=>n.extBut _ _ n4 e⟩
  . intro b c
    let:b≠s.heap.objs.size:=by
     obtain⟨o,e,_⟩:∃o,s.heap.get? b=some o/\True:=by
      simp![Wy,WE,YD]at c;rcases c with rfl|rfl|rfl|rfl|rfl
      . show⟨_,Z,trivial⟩
      . show⟨_,d,trivial⟩
      . show⟨_,f,trivial⟩
      . obtain⟨o,e,_⟩:=iG j;show⟨o,e,trivial⟩
      . obtain⟨o,e,_⟩:=iG g;show⟨o,e,trivial⟩
     show WB (Wq e)
    rw[aG this];show(Q b c).1
 done:=by
  intro X hP hw hK hc i t s σ H E I Q st hg;subst hP hw hK;obtain⟨Z,d,⟨a,R,f⟩,j,g⟩:=st;obtain⟨xs,ys,L,J,he⟩:=hg;obtain⟨U,W,l1⟩:=fW I L;obtain⟨S,V,l2⟩:=fW I J;let e1:=W.length;let e2:=V.length;let B:=D.a1;let A:=D.a2;simp![Wy,ZA,WE,Xr,Y4]at B A;let p:s.TypeIs (.ref z) "zip":=⟨_,Z,rfl⟩
  unfold pyNext;show V9 (Ze (Xu (name:=Str.ofString "__next__") p Yi (Yd Yi p ZM (Kn (I.ok.hd hc) D (mj O m G B.2.2.2.1 U.toArray) (mj N l F A.2.2.2.2 S.toArray) Z d f ⟨j,l1⟩ ⟨g,l2⟩ ?_ λk e M hx=>?_) (Zv _))))
  . rcases he with h|h
    . left;simp;lia
    . right;simp;lia
  . obtain⟨o,ho,ar⟩:=hx;show V9 (Zc (T:="StopIteration") (b:=true) ⟨o,ho,ar⟩ isSubtype_stop ?_);show Wk ⟨rfl,Mc (s:=s) (tk:=s.toks) I Q λb o c e=>?_⟩;simp![Wy,ZA,WE,Xr,Y4]at c;show M b o c.1 c.2.2.1 c.2.2.2.1 c.2.2.2.2 e
 self:=λ_ _ _ _ _ st h=>ZN st.1 h
abbrev Ba(h:Heap)(k1:SK)(a1:Addr):Heap:=h.push (o8 k1 a1)
abbrev zD(h:Heap)(k1 k2:SK)(a1 a2:Addr):Heap:=(Ba h k1 a1).push (o8 k2 a2)
abbrev MJ(h:Heap)(k1 k2:SK)(a1 a2:Addr):Heap:=(zD h k1 k2 a1 a2).push {cls:= .type "tuple",data:= .seq #[.ref h.objs.size,.ref (Ba h k1 a1).objs.size]}
abbrev Nd(h:Heap)(k1 k2:SK)(a1 a2:Addr):Heap:=(MJ h k1 k2 a1 a2).push {cls:= .type "tuple",data:= .seq #[.none,.none]}
abbrev Ee(h:Heap)(k1 k2:SK)(a1 a2:Addr):Heap:=(Nd h k1 k2 a1 a2).push {cls:= .type "zip",data:= .fields #[.none,.bool false,.bool false,.ref (zD h k1 k2 a1 a2).objs.size,.ref (MJ h k1 k2 a1 a2).objs.size]}
def JP(b e:SK)(a c:Addr)(us vs:Array Value):Meets (Builtin.«zip.__new__» ⟨[.type "zip",.ref a,.ref c],[]⟩) (λ_ R s=>g5 b s.heap a us/\g5 e s.heap c vs/\
 R (.ok (.ret (.ref (Nd s.heap b e a c).objs.size))) {s with heap:=Ee s.heap b e a c}):=
 .of_wp λP w A R s h=>by
  obtain⟨j,g,d,tk,f⟩:=s;obtain⟨l,k,h⟩:=h;let i:=sub_zip;let m:g5 b (Shared.heap ⟨j,g,d,tk,f⟩) a us:=l;let L2:g5 e (Shared.heap ⟨j.push (o8 b a),g,d,tk,f⟩) c vs:=g5.push k _
  wp_walk using r_ m,r_ L2
  show⟨_,rfl,h⟩
def Lr{s:Shared}{b e:Addr}(y:g5 a s.heap b us)(v:g5 d s.heap e vs)
 (q:∀g n,n=s.heap.objs.size->IsZip g (n+4) (n+2) (n+3) .none->IsPair g (n+2) (.ref n) (.ref (n+1))->IsPair g (n+3) .none .none->oJ a n b 0 g->oJ d (n+1) e 0 g->(∀c o,s.heap.get? c=some o->g.get? c=some o)->Q (.ref (n+4)) {s with heap:=g}):
 wpAny (model P w) A (call (.type "zip") [.ref b,.ref e]) Q E s:=by
 show callType_new F.called_zip (by decide) (F.typeCall_zip_2 _ _) (F.newCall_zip_2 _ _) (λt=>F.args_object_init_3 t _ _) F.entry_zip_new (JP a d b e us vs) ⟨y,v,?_⟩;let j:(Ba s.heap a b).objs.size=s.heap.objs.size+1:=WY ..;let i:(zD s.heap a d b e).objs.size=s.heap.objs.size+2:=by rw[WY,j]
 let f:(MJ s.heap a d b e).objs.size=s.heap.objs.size+3:=by rw[WY,i]
 let l:(Nd s.heap a d b e).objs.size=s.heap.objs.size+4:=by rw[WY,f]
 let k:(Ee s.heap a d b e).get? (Nd s.heap a d b e).objs.size=some _:=Wu _ rfl;let m:(Ee s.heap a d b e).get? (MJ s.heap a d b e).objs.size=some _:=V_ _ (Wu _ rfl);let p:(Ee s.heap a d b e).get? (zD s.heap a d b e).objs.size=some _:=V_ _ (V_ _ (Wu _ rfl));let r:(Ee s.heap a d b e).get? (Ba s.heap a b).objs.size=some (o8 d e):=V_ _ (V_ _ (V_ _ (Wu _ (by cases d<;>rfl))));let u:(Ee s.heap a d b e).get? s.heap.objs.size=some (o8 a b):=V_ _ (V_ _ (V_ _ (V_ _ (Wu _ (by cases a<;>rfl)))));change _/\_;rw[i,f,l]at k;rw[j,i]at p;rw[f]at m;rw[j]at r;rw[l];show⟨⟨_,k,rfl⟩,q _ _ rfl k p m (ql (h:=s.heap) u) (ql (h:=s.heap) r) λc o x=>V_ _ (V_ _ (V_ _ (V_ _ (V_ _ x))))⟩
def EO:D->SK
 | .tup _=> .t
 |_=> .l
def Bq(k:SK)(G:Hp)(a:Addr)(vs:List V):Prop:=match k with
 | .l=>Rd G a (.lst vs)
 | .t=>G a=some (.tup vs)
def fu{K:PySem.W.Frag}{k:SK}{G F H:Hp}(P:cy G F H){a:Addr}{vs:List V}(h:Bq k G a vs):kI k K H a vs:=by
 cases k
 . show .inl (fv P h)
 . show iF.of (P.get h)
def iJ{α:List (Option Addr)}{H:Hp}{st:af}{d:D}{v:V}{xs:List D}(S:a_ α st H)(r:Rep α H d v)(e:items? st d=some xs):∃p vs,v= .ref p/\aJ α H xs vs/\Bq (EO d) H p vs:=by
 cases d<;>try(cases e;done)
 . unfold items? at e;simp only at e;split at e
   . rename_i g q;cases e;obtain⟨a,f,vs,c,b⟩:=S.gR q;show⟨a,vs,dR f r,b,Rd.of c⟩
   . cases e
 . cases e;unfold Rep at r;obtain⟨a,vs,rfl,_,c,b⟩:=r;show⟨a,vs,rfl,b,c⟩
 . cases e;unfold Rep at r;obtain⟨a,vs,rfl,_,c,b⟩:=r;show⟨a,vs,rfl,b,c⟩
def eG(xs ys:List D):List D:=(xs.zip ys).map λp=> .tup [p.1,p.2]
def jf{xs ys:List D}:(eG xs ys).length=min xs.length ys.length:=by unfold eG;simp
def vg{xs ys:List D}{n:Nat}{d:D}(e:(eG xs ys)[n]?=some d):∃x y,xs[n]?=some x/\ys[n]?=some y/\d= .tup [x,y]:=by
 unfold eG at e;rw[Wr]at e;cases q:(xs.zip ys)[n]? with
 |none=>rw[q]at e;cases e
 |some p=>
  rw[q]at e;cases e;rw[aaE]at q;show⟨p.1,p.2,q.1,q.2,rfl⟩
def PJ{K:PySem.W.Frag}{t r:SK}{A z:Addr}{α:List (Option Addr)}{G:Hp}{ok:af->Prop}{xs ys:List D}
 (h:∀f b a,Step α G f b->a_ f a b->ok a->∃vs g,Bq t b A vs/\Bq r b z g/\aJ f b xs vs/\aJ f b ys g):vM (UD K t r A z) α G ok (eG xs ys) where
 stop:=λn f b C B a s P S o k=>by
  obtain⟨vs,g,p,m,j,i⟩:=h f b a s S o;rw[jf]at k;show⟨vs,g,fu P p,fu P m,?_⟩;let:=j.length;let:=i.length;lia
 go:=λn d f b C B a s P S o k=>by
  obtain⟨vs,g,p,m,j,i⟩:=h f b a s S o;obtain⟨x,y,L,J,rfl⟩:=vg k;obtain⟨v,ev,_⟩:=j.get L;obtain⟨u,q,_⟩:=i.get J;show⟨vs,g,v,u,fu P p,fu P m,ev,q⟩
 oW:=λn d f b C B a x O s P S o k y=>by
  obtain⟨vs,g,p,m,j,i⟩:=h f b a s S o;obtain⟨c,e,N,M,rfl⟩:=vg k;obtain⟨T,v,u,w,rfl,rfl,F,E⟩:=y;obtain⟨Q,ev,H⟩:=j.get N;obtain⟨R,q,I⟩:=i.get M;rw[F vs (fu P p)]at ev;rw[E g (fu P m)]at q;cases ev;cases q;let l:=(P.none w).1;show⟨upd b T (.tup [v,u]),Step.laid l,P.laid w,S.laid l,?_⟩;unfold Rep;show⟨T,[v,u],rfl,S.lh l,a9,?_⟩;unfold aJ;show⟨v,[u],rfl,H.step (Step.laid l),?_⟩;unfold aJ;show⟨u,[],rfl,I.step (Step.laid l),by unfold aJ;rfl⟩
def La(e:List D)(a:af)(K:List D->(af->Prop)->af->Prop):Prop:=match e with
 | [x,y]=>(match items? a x,items? a y with
   |some d,some c=>K (eG d c) (λb=>items? b x=some d/\items? b y=some c) a
   |_,_=>False)
 |_=>False
@[irreducible] def wC:List D->af->(List D->(af->Prop)->af->Prop)->Prop:=La
def ma(t:DA):DI:=λσ st K=>t σ st λb a=>wC b a K
def O4{n c b:Nat}(f:c<n)(e:b<n):ER (n+4) (n+2) (n+3) n (n+1) c b:=by
 let g:([n+4,n+2,n+3,n,n+1]:List Nat).Nodup:=by
  simp![Yx,Wy,ZA,WE,Xr,Y4,List.nodup_nil];lia
 let d:∀a:Nat,a<n->a∉([n+4,n+2,n+3,n,n+1]:List Nat):=λa h=>by
  simp![Wy,ZA,WE,Xr,Y4];lia
 show⟨g,d c f,d b e⟩
def Rz{X:Cx}(hg:Gl X "zip")(hm:X.mg "zip"=none)(ha:PA X [a,b] (LA t))(hs:starEach [a,b] X.env=[(false,eval a X.env),(false,eval b X.env)])(l:starEach [b] X.env=[(false,eval b X.env)]):
 PI X (.Tuple r kx f) (.Call (.Name "zip" p) [a,b] [] pos) (LI (ma t)):=by
 intro j s σ H R I h;obtain⟨α,σd,st,K,G,F,P,RS,S,t,k⟩:=h;show Call_ (kZ I hg hm boot_zip (XF (bR (ha pos j s σ H (λC H1=>∃u e d c,Step α G e d/\cy d F H1/\a_ e c d/\aJ e d u C/\wC u c K) I ⟨α,σd,st,_,G,F,P,RS,S,t,λu c q e d H1 C i w v J=>⟨u,e,d,c,i,w,v,J,q⟩⟩) λus i ⟨C,H1,z,rv,u,e,d,c,w1,w,v,J,q⟩=>?_) (by rw[hs,l]) (by rw[l];rfl)));unfold wC La at q;split at q
 . rename_i x y;split at q
   . rename_i xs ys ex ey;obtain⟨v1,v2,rfl,T,Q⟩:=nv J rfl;obtain⟨p1,ao,rfl,g1,c1⟩:=iJ v T ex;obtain⟨p2,ah,rfl,g2,c2⟩:=iJ v Q ey;obtain⟨u1,u2,rfl,E,D⟩:=vals2 rv;cases E;cases D;obtain⟨Y,_,V⟩:=fW z (fu w c1);obtain⟨W,_,U⟩:=fW z (fu w c2);show Lr V U λg n L Z pI pO i1 i2 kp=>?_;obtain⟨o1,N⟩:=V.some;obtain⟨o2,M⟩:=U.some;show ZN (s:={i with heap:=g}) Z ?_;show⟨n+4,[n+4,n+2,n+3,n,n+1],_,_,H1,rfl,z.kept (t':=i.toks) kp,Le (EO x) (EO y) (O4 (by rw[L];show Wq N) (by rw[L];show Wq M)),⟨Z,pI,⟨_,_,pO⟩,i1,i2⟩,λb hb=>?_,?_⟩
     . have m:i.heap.objs.size<=b:=by
        simp![Wy,WE,YD]at hb;rcases hb with rfl|rfl|rfl|rfl|rfl<;>(rw[<-L];first|show Wg _|show aaO _ _)
       show z.vw m (z.aK.fresh m)
     . show k _ _ c q _ e d H1 w1 w v (PJ λα' G' ar O S' o=>?_);obtain⟨aK,B,e1,f1,d1⟩:=iJ S' (T.step O) o.1;obtain⟨aD,A,e2,f2,d2⟩:=iJ S' (Q.step O) o.2;cases e1;cases e2;show⟨B,A,d1,d2,f1,f2⟩
   . show q.elim
 . show q.elim
def jN{st:af}{x y:D}{xs ys:List D}{K:List D->(af->Prop)->af->Prop}(ex:items? st x=some xs)(d:items? st y=some ys)(k:∀ok:af->Prop,(∀a,items? a x=some xs->items? a y=some ys->ok a)->K (eG xs ys) ok st):wC [x,y] st K:=by
 unfold wC La;simp![ex,d];show k _ λa c b=>⟨c,b⟩
def Az{X:Cx}{a b:Expr}{e:List Expr}{h:Nat}{c p pos:Pos}{g:DA}(k:Gl X "zip")(j:X.mg "zip"=none)(f:JA X [a,b] g)(i:notStar a=true:=by rfl)(d:notStar b=true:=by rfl):JI X (.Tuple e h c) (.Call (.Name "zip" p) [a,b] [] pos) (ma g):=by
 unfold JI;unfold JA at f;show Rz k j f (by rw[cG i,cG d];rfl) (cG d)
def De(f:Nat->Int):∀n,preSum f (n+1)=f 0+preSum (λi=>f (i+1)) n
 |0=>by change preSum f 0+f 0=f 0+0;change(0:Int)+f 0=f 0+0;lia
 |n+1=>by
  let h:=De f n;change preSum f (n+1)+f (n+1)=f 0+(preSum (λi=>f (i+1)) n+f (n+1));rw[h];lia
def Eb:∀ns:List Int,preSum (λi=>ns.getD i 0) ns.length=ns.sum
 | []=>rfl
 |n::ns=>by
  rw[WS,De];let:(λi=>(n::ns).getD (i+1) 0)=λi=>ns.getD i 0:=by funext i;simp
  rw[this,Eb ns,List.sum_cons];rfl
section
variable {X:Cx}
def Ah:eM:=λc st K=>match c with| [.lst a]=>(match mm a with|some b=>K (.int b.sum) st|none=>False)|_=>False
def mw:∀ {ns:List Int} {us:List Value},Vals (ns.map V.int) us->∀(i:Nat) (u:Value),us[i]?=some u->∃t,u=Value.int (ns.getD i 0) t
 | [],_,.nil,i,u,e=>by simp at e
 |n::ns,_,.cons h t,0,u,e=>by
  obtain⟨tk,rfl⟩:=h;simp at e;show⟨tk,by rw[<-e];rfl⟩
 |n::ns,_,.cons h t,i+1,u,e=>by
  obtain⟨tk,q⟩:=mw t i u (by simpa using e);show⟨tk,by rw[q];simp⟩
def TN(N:X.calm=true):bJ X (.builtin "sum") (fD Ah):=λB s σ H W Z Q I E ⟨α,ds,st,K,G,F',P,r,S,q,k⟩=>by
 unfold Ah at q;split at q
 . rename_i V;split at q
   . rename_i f e;obtain⟨v,rfl,y⟩:=ib r rfl;unfold Rep at y;obtain⟨a,Y,rfl,na,R,O⟩:=y;obtain⟨u,rfl,D⟩:=vals1 E;cases D;let L:=rS O e;subst L;obtain⟨z,m,n,C,M,l⟩:=Inv.sD I (fv P R);let p:s.heap.IsList a m.toArray:=⟨_,l,rfl,n,rfl⟩
     show call_sum_walkAnyB (YH p ?_);let x:a≠s.heap.objs.size:=WB (Wq l);show⟨s.heap.objs.size,_,_,_,_,_,_,λi=>f.getD i 0,rfl,(Walks.list (A:=X.A.in1) (I.ok.hd N) _ a x m.toArray).toS,⟨⟨_,Wu _ rfl,rfl,rfl⟩,⟨_,V_ _ l,rfl,n,rfl⟩⟩,?_,?_,?_⟩
     . intro b j;rw[WY];simp![Wy,WE,YD]at j;rcases j with rfl|rfl
       . show Xh _
       . show Xi (Wq l)
     . intro i w J;obtain⟨t,e⟩:=mw C i w (by simpa using J);show .inl ⟨t,e⟩
     . intro c t' h
       let F:∀b o,s.heap.get? b=some o->c.heap.get? b=some o:=λb o q=>h.heap b o (by
        intro j;let:b=s.heap.objs.size:=by simpa using j
        show absurd (Wq q) (by rw[this];show WQ _)) (V_ _ q)
       let T:c= {s with heap:=c.heap,toks:=c.toks}:=by
        let g:=h.gens;let d:=h.drawn;let o:=h.os;cases c;cases s
        simp_all
       let U:preSum (λi=>f.getD i 0) m.toArray.size=f.sum:=by
        let:m.toArray.size=f.length:=by rw[Wl,<-M,Wd]
        rw[this];show Eb f
       rw[U,T];show⟨.int f.sum,H,I.kept (t':=c.toks) F,⟨t',rfl⟩,k.here P q S (by unfold Rep;rfl)⟩
   . show q.elim
 . show q.elim
@[irreducible] def xU:eM:=Ah
def Mt(a:X.calm=true):bJ X (.builtin "sum") (fD xU):=by unfold xU;show TN a
end
def ints_map:∀ns:List Int,mm (ns.map D.int)=some ns
 | []=>rfl
 |n::ns=>by simp[mm,ints_map ns]
def Pz{st:af}{K:DK}{xs:List D}{ns:List Int}(h:mm xs=some ns)(k:K (.int ns.sum) st):xU [.lst xs] st K:=by unfold xU Ah;simp![h];show k
section
variable {X:Cx}{pos:Pos}
def GB{d e f:D}(r:aJ α H a xs)(q:a=[d,e,f]):∃v u t,xs=[v,u,t]/\Rep α H d v/\Rep α H e u/\Rep α H f t:=by
 subst q;unfold aJ at r;obtain⟨v,q,rfl,h,g⟩:=r;obtain⟨u,t,rfl,c,b⟩:=nv g rfl;show⟨v,u,t,rfl,h,c,b⟩
def pV(i j k:Nat):fj:=λd σ=>match d with| .tup [x,y,z]=>some (((σ.set i (some x)).set j (some y)).set k (some z))|_=>none
def Lj{i j k:Nat}(h:PG X b (Lp X.K 3 (t9 (jo i) (t9 (jo j) (t9 (jo k) Kx))))):PG X b (LG (pV i j k)):=PG.imp h λv σ H Q ⟨α,t,st,d,K,G,F,P,R,S,r,⟨u,e,q⟩,o⟩=>by
 unfold pV at e;split at e
 . rename_i x y z;cases e;unfold Rep at r;obtain⟨a,w,rfl,na,s,p⟩:=r;obtain⟨g,f,c,rfl,n,m,l⟩:=GB p rfl;show⟨a,_,rfl,.of (P.get s),rfl,g,_,rfl,f,_,rfl,c,_,rfl,rfl,o.here P q (((R.set i n).set j m).set k l) S⟩
 . cases e
def MA{i j k n:Nat}{x y z:Str}{d c b:Pos}(r:X.calm=true)(a:X.N.Nodup)(g:Loc X.env.scope x:=by first|show Or.inl rfl|show Or.inr rfl)(q:X.fn x=true\/X.env.scope.names.lookup x=some .local:=by first|show .inl rfl|show .inr rfl)(f:Loc X.env.scope y:=by first|show Or.inl rfl|show Or.inr rfl)(p:X.fn y=true\/X.env.scope.names.lookup y=some .local:=by first|show .inl rfl|show .inr rfl)(e:Loc X.env.scope z:=by first|show Or.inl rfl|show Or.inr rfl)(o:X.fn z=true\/X.env.scope.names.lookup z=some .local:=by first|show .inl rfl|show .inr rfl)
 (m:X.N[i]?=some x:=by rfl) (l:X.N[j]?=some y:=by rfl) (h:X.N[k]?=some z:=by rfl):JG X (.Tuple [.Name x d,.Name y c,.Name z b] n pos) (pV i j k):=by
 unfold JG;show Lj (Jg r (oO (nR a m g q) (oO (nR a l f p) (oO (nR a h e o) ES))))
end
end L3
namespace L3
open PySem L2 PySem.SeqAt
open PySem.Spec hiding items?
open PyProof.Rows hiding St
section
variable {X:Cx}{pins:List (Addr×Obj)}{σ:L2.St}{H:Hp}{s:Shared}{α:List (Option Addr)}
def Ey{d e:D}(h:zy d=true)(g:zy e=true)(f:Rep α H d x)(c:Rep α H e y)(b:RelV x u)(a:RelV y v):RcNeAt A s u v (!cP d e):=by
 cases d<;>cases e<;>try(first|(cases h;done)|(cases g;done))
 all_goals(unfold Rep at f c;subst f c)
 all_goals(first|(obtain⟨t,rfl⟩:=b;obtain⟨i,rfl⟩:=a)|(obtain⟨t,rfl⟩:=b;cases a)|(cases b;obtain⟨t,rfl⟩:=a)|(cases b;cases a))
 all_goals unfold cP
 . show RcNeAt.none_none
 . show RcNeAt.none_bool _
 . show RcNeAt.none_int _ _
 . show RcNeAt.none_str _ _
 . show RcNeAt.bool_none _
 . show RcNeAt.bool_bool _ _
 . show RcNeAt.bool_int _ _ _
 . show RcNeAt.bool_str _ _ _
 . show RcNeAt.int_none _ _
 . show RcNeAt.int_bool _ _ _
 . show RcNeAt.int_int _ _ _ _
 . show RcNeAt.int_str _ _ _ _
 . show RcNeAt.str_none _ _
 . show RcNeAt.str_bool _ _ _
 . show RcNeAt.str_int _ _ _ _
 . show RcNeAt.str_str _ _ _ _
def yY(I:Inv X pins σ H s){A:Around}{e:D}(i:zy e=true)(h:Rep α H (.lst xs) x)(f:Rep α H e y)(g:RelV x u)(d:RelV y v)(b:A.units<cLine):
 RcNeAt A s u v (!cP (.lst xs) e)/\RcNeAt A s v u (!cP e (.lst xs)):=by
 obtain⟨a,j,k,rfl,_,_,c⟩:=lst_is I h g;cases e<;>try(cases i;done)
 all_goals(unfold Rep at f;subst f)
 all_goals(first|(obtain⟨t,rfl⟩:=d)|(cases d))
 all_goals unfold cP
 . show⟨RcNeAt.list_none c b,RcNeAt.none_list c b⟩
 . show⟨RcNeAt.list_bool _ c b,RcNeAt.bool_list _ c b⟩
 . show⟨RcNeAt.list_int _ _ c b,RcNeAt.int_list _ _ c b⟩
 . show⟨RcNeAt.list_str _ _ c b,RcNeAt.str_list _ _ c b⟩
def y8(I:Inv X pins σ H s){A:Around}{e:D}(i:zy e=true)(h:Rep α H (.tup xs) x)(f:Rep α H e y)(g:RelV x u)(d:RelV y v)(b:A.units<cLine):
 RcNeAt A s u v (!cP (.tup xs) e)/\RcNeAt A s v u (!cP e (.tup xs)):=by
 obtain⟨a,j,k,rfl,_,_,c⟩:=tup_is I h g;cases e<;>try(cases i;done)
 all_goals(unfold Rep at f;subst f)
 all_goals(first|(obtain⟨t,rfl⟩:=d)|(cases d))
 all_goals unfold cP
 . show⟨RcNeAt.tuple_none c b,RcNeAt.none_tuple c b⟩
 . show⟨RcNeAt.tuple_bool _ c b,RcNeAt.bool_tuple _ c b⟩
 . show⟨RcNeAt.tuple_int _ _ c b,RcNeAt.int_tuple _ _ c b⟩
 . show⟨RcNeAt.tuple_str _ _ c b,RcNeAt.str_tuple _ _ c b⟩
def So(I:Inv X pins σ H s)(n:Nat)(A:Around)(d e:D)(x y:V)(u v:Value)(J:pl n d=true)(t:pl n e=true)(l:Rep α H d x)(k:Rep α H e y)(i:RelV x u)(h:RelV y v)(hu:A.units+n<cLine):RcNeAt A s u v (!cP d e):=by
 cases n with
 |zero=>
  show Ey ?_ ?_ l k i h
  . cases d<;>first|rfl|(cases J)
  . cases e<;>first|rfl|(cases t)
 |succ n=>
  have c:A.units<cLine:=by lia
  let K:A.in1.units+n<cLine:=by rw[Around.in1_units];lia
  cases d<;>try(cases J;done)
  case lst xs=>
   cases e<;>try(cases t;done)
   case lst ys=>
    obtain⟨a,M,w,rfl,E,B,r⟩:=lst_is I l i;obtain⟨b,L,g,rfl,C,z,q⟩:=lst_is I k h;let Z:=E.length;let Y:=B.length;let W:=C.length;let U:=z.length;unfold cP;by_cases f:xs.length=ys.length
    . rw[nU f];let o:w.toArray.size=g.toArray.size:=by simp![Wl];lia
      let Q:xs.length=w.toArray.size:=by simp![Wl];lia
      rw[Q];show RcNeAt.lists r q o c λj T S=>?_;obtain⟨p,_,O,N⟩:=ky E B j (by simpa using T);obtain⟨P,_,G,F⟩:=ky C z j (by simpa using S);show(GF I n A.in1 _ _ p P _ _ (jd (by unfold pl at J;show J) j) (jd (by unfold pl at t;show t) j) O G (by simpa using N) (by simpa using F) K).2
    . rw[nW f];show RcNeAt.lists_lengths r q (by simp![Wl,ZY,ne_eq];lia) c
   case tup ys=>
    obtain⟨a,M,w,rfl,E,B,r⟩:=lst_is I l i;obtain⟨b,L,g,rfl,C,z,q⟩:=tup_is I k h;unfold cP;show RcNeAt.list_tuple r q c
   all_goals show(yY I rfl l k i h c).1
  case tup xs=>
   cases e<;>try(cases t;done)
   case tup ys=>
    obtain⟨a,M,w,rfl,E,B,r⟩:=tup_is I l i;obtain⟨b,L,g,rfl,C,z,q⟩:=tup_is I k h;let Z:=E.length;let Y:=B.length;let W:=C.length;let U:=z.length;unfold cP
    let m:=RcNeAt.tuples (e:=λj=>cP (xs.getD j .aD) (ys.getD j .aD)) r q c λj T S=>by
     obtain⟨p,_,O,N⟩:=ky E B j (by simpa using T);obtain⟨P,_,G,F⟩:=ky C z j (by simpa using S);show(GF I n A.in1 _ _ p P _ _ (jd (by unfold pl at J;show J) j) (jd (by unfold pl at t;show t) j) O G (by simpa using N) (by simpa using F) K).2
    by_cases f:xs.length=ys.length
    . rw[nU f];let o:w.toArray.size=g.toArray.size:=by simp![Wl];lia
      let Q:xs.length=w.toArray.size:=by simp![Wl];lia
      rw[o,abh,ZK,Bool.and_true,<-o,<-Q]at m;show m
    . rw[nW f];let R:(w.toArray.size==g.toArray.size)=false:=by simp![Wl,Yl,ne_eq];lia
      rw[R,aa5]at m;show m
   case lst ys=>
    obtain⟨a,M,w,rfl,E,B,r⟩:=tup_is I l i;obtain⟨b,L,g,rfl,C,z,q⟩:=lst_is I k h;unfold cP;show RcNeAt.tuple_list r q c
   all_goals show(y8 I rfl l k i h c).1
  all_goals
   cases e<;>try(cases t;done)
   case lst ys=>show(yY I rfl k l h i c).2
   case tup ys=>show(y8 I rfl k l h i c).2
   all_goals show Ey rfl rfl l k i h
def QH:dc:=λx y st K=>pl 40 x=true/\pl 40 y=true/\K (.bl (!cP x y)) st
def Ts{k:Nat}(g:cU k X.A):cf X (compareOp .NotEq) (LR QH):=λpins s σ H x y v u Q I b a ⟨α,d,e,st,K,G,i,P,f,c,S,q,k⟩=>by
 let h:=g.units;show So I 40 X.A d e x y v u q.1 q.2.1 (f.mono P.same) (c.mono P.same) b a (by lia) _ _ _ _ ⟨.bl (!cP d e),H,I,rfl,k.here P q.2.2 S (by unfold Rep;rfl)⟩
@[irreducible] def nV:dc:=QH
def AB{k:Nat}(a:cU k X.A):cf X (compareOp .NotEq) (LR nV):=by unfold nV;show Ts a
end
def CD{st:af}{K:DK}{d e:D}(b:pl 40 d=true)(a:pl 40 e=true)(k:K (.bl (!cP d e)) st):nV d e st K:=by unfold nV;show⟨b,a,k⟩
def Cs{st:af}{K:DK}{d:D}(h:pl 40 d=true)(k:K (.bl false) st):nV d d st K:=CD h h (by rw[vK 40 d h];show k)
def sR{st:af}{n:Nat}{xs:List D}(h:items? st (.ref n)=some xs):st[n]?=some (.lst xs):=by
 unfold items? at h;simp only at h;split at h
 . rename_i q;cases h;show q
 . cases h
def pZ{st:af}{d:D}{xs:List D}{K:List D->(af->Prop)->af->Prop}(h:items? st d=some xs)(k:∀ok:af->Prop,(∀a,items? a d=some xs->ok a)->K xs ok st):pw d st K:=by
 cases d with
 |lst b=>cases h;show yB (k _ λ_ _=>trivial)
 |tup b=>cases h;show fw (k _ λ_ _=>trivial)
 |ref n=>
  have e:=sR h;unfold pw ym;simp![e];show k _ λa c=>sR c
 |_=>cases h
def qX{env:Env}:∀(l:List (Str×NameKind)) (x:Str),(l.lookup x=some .cell\/l.lookup x=some .free)->
 ((l.map λ(n,k)=>if(k== .free&&env.scope.kind== .function&&env.kindOf n==some .cell)then(n,.cell)else(n,k)).lookup x=some .cell\/(l.map λ(n,k)=>if(k== .free&&env.scope.kind== .function&&env.kindOf n==some .cell)then(n,.cell)else(n,k)).lookup x=some .free)
 | [],x,h=>by simp at h
 |(n,k)::l,x,h=>by
  rw[WJ];dsimp only;by_cases c:x=n
  . subst c;rw[ZS]at h;split
    . rw[ZS];show .inl rfl
    . rw[ZS];show h
  . have a:(x==n)=false:=by simpa using c
    let d:List.lookup x ((n,k)::l)=List.lookup x l:=by rw[WW,a]
    rw[d]at h;let b:=qX (env:=env) l x h;split
    . rw[WW,a];show b
    . rw[WW,a];show b
def cx.Ni(h:oC a d scope Nc fr=true):cx (cD q a d C s H ex) scope Nc fr:=by
 unfold oC at h;simp![W_]at h;obtain⟨⟨⟨⟨⟨o,n⟩,m⟩,l⟩,k⟩,g⟩:=h;show⟨by simpa using o,λx b c=>?_,λx b c=>?_,λx b c=>?_,by simpa using k,λi j x p e=>?_⟩
 . have:=WT.mp n x b;rw[c]at this;simpa using this
 . have:=WT.mp m x b;rw[c]at this;simpa using this
 . have:=WT.mp l x b;rw[c]at this;let z:a.names.lookup x.1=some .cell\/a.names.lookup x.1=some .free:=by simpa using this
   show qX _ _ z
 . have f:i<fr.length:=(Wa.mp e).1;let:=WT.mp g i (W4.mpr f);rw[p,e]at this;simp![W_,Zj,Yh]at this;show⟨this.1.1,this.1.2,qX _ _ this.2⟩
end L3
namespace L3
open PySem L2
open PySem.Spec hiding items?
open PyProof.Rows hiding St
def Hk(h:d∈cT 0 n):∃i:Nat,i<n/\d= .int (i:Int):=by
 unfold cT at h;obtain⟨i,a,rfl⟩:=WK.mp h;rw[W4]at a;show⟨i,a,by rw[Z_]⟩
def IU{f:Nat->D}(n:Nat):(cT 0 n).map (λd=>match d with| .int i=>f i.toNat|_=> .aD)=(List.range n).map f:=by
 unfold cT;rw[WL];show WO λi _=>?_;change f ((0:Int)+(i:Int)).toNat=f i;let:((0:Int)+(i:Int)).toNat=i:=by lia
 rw[this]
def lx{e:fj}{h:DE}{b:bZ}{st:af}{K:List D->af->Prop}(f:Nat->D)(n:Nat)(j:∀i:Nat,i<n->∀a,a (f i) st->∃c,e (.int (i:Int)) b=some c/\h c st a)(k:K ((List.range n).map f) st):dH e bN h (λ_=>True) b (cT 0 n) [] st K:=by
 show comp_map (g:=λd=>match d with| .int i=>f i.toNat|_=> .aD) trivial _ (λd m a q=>?_) (by rw[IU];show k);obtain⟨i,l,rfl⟩:=Hk m;show j i l a q
def gj{g:fj}{a:DS}{E:iQ}(n:Nat)(I:Nat->bZ->af->Prop)(h:∀σ st,I n σ st->E.nx σ st)
 (e:∀(j:Nat) σ st (rest:List D),j<n->I j σ st->(∀k b,I (j+1) k b->i8 g a (λ_=>True) E rest k b)->∃p,g (.int (j:Int)) σ=some p/\a {E with nx:=i8 g a (λ_=>True) E rest,ct:=i8 g a (λ_=>True) E rest,bk:=E.nx} p st)
 {σ:bZ} {st:af} (s:I 0 σ st):i8 g a (λ_=>True) E (cT 0 n) σ st:=by
 show e7 (λrest σ st=>∃j:Nat,j<=n/\rest=(List.range (n-j)).map (λi=>D.int (((j+i:Nat):Int)))/\I j σ st) ?_ ?_ _ _ _ ⟨0,WU _,by unfold cT;simp,s⟩
 . rintro σ st ⟨j,r,c,o⟩
   let:n-j=0:=by
    cases q:n-j with
    |zero=>rfl
    |succ m=>rw[q,Xo]at c;cases c
   let l:j=n:=by lia
   subst l;show⟨trivial,h σ st o⟩
 . rintro d rest σ st ⟨j,r,c,o⟩ next
   cases q:n-j with
   |zero=>rw[q]at c;cases c
   |succ m=>
    rw[q,Xo,WJ,WL]at c;simp![Xp]at c;obtain⟨rfl,f⟩:=c;show⟨trivial,e j σ st rest (by lia) o λk b t=>next k b ⟨j+1,by lia,?_,t⟩⟩;let:n-(j+1)=m:=by lia
    rw[this,f];show WO λi _=>?_;change D.int (((j+(i+1):Nat):Int))=D.int (((j+1+i:Nat):Int));congr 2;lia
section
variable {X:Cx}
def yj(r:RelV x v)(h:Q (.bool (!(v== .bool b))) s):wpAny M A (compareOp .IsNot v (.bool b)) Q E s:=by
 cases x
 case bl c=>
  cases r;cases c<;>cases b<;>show Wk h
 all_goals first
  |(cases r;show Wk h)
  |(obtain⟨t,rfl⟩:=r;show Wk h)
def Bx:dc:=λx y st K=>match y with| .aD=>live st x=true/\K (.bl (!Na x)) st| .bl b=>live st x=true/\K (.bl (!GZ x b)) st|_=>False
def K8:cf X (compareOp .IsNot) (LR Bx):=λa s σ H x y v u Q I c g ⟨α,d,e,st,K,G,j,P,h,f,S,q,k⟩=>by
 cases e<;>try show q.elim
 . show O6 a s σ H x y v u Q I c g ⟨α,d,.aD,st,K,G,j,P,h,f,S,⟨q.1,?_⟩,k⟩;let i:=q.2;cases d<;>show i
 . rename_i b;unfold Rep at f;subst f;cases g;show yj c ?_;rw[Eo S q.1 h c];show⟨.bl (!GZ d b),H,I,rfl,k.here P q.2 S (by unfold Rep;rfl)⟩
@[irreducible] def xD:dc:=Bx
def BC:cf X (compareOp .IsNot) (LR xD):=by unfold xD;show K8
end
section
variable {st:af}{K:DK}{d:D}{b:Bool}
def Q8(h:live st d=true)(k:K (.bl (!Na d)) st):xD d .aD st K:=by unfold xD;show⟨h,k⟩
end
section
variable {X:Cx}
def Ob{g:List Comprehension}{c d e:TE}(k:PE X (.ListComp b g f p) e)(h:PE X o c)(j:PE X i d)(l:j7 i=true:=by rfl):PS X (.Assign [.Subscript o i a] (.ListComp b g f p) pos) (mV e (CP c d wg)):=
 BS k (GS h j set_list (by intro v;cases i<;>first|rfl|cases l)) (by unfold swapsWithSole swapsWith;rfl) rfl rfl
def o5{g:List Comprehension}{e c d:DE}(k:JE X (.ListComp b g f p) e)(h:JE X o c)(j:JE X i d)(l:j7 i=true:=by rfl):JS X (.Assign [.Subscript o i a] (.ListComp b g f p) pos) (d8 c d e):=by
 unfold JS;unfold JE at*;show Cg (Ob k h j l)
end
end L3
namespace L3
open PySem L2
open PySem.Spec hiding items?
open PyProof.Rows hiding St
open AutoSeq1 (wpAny_loadPart')
end L3
namespace L3
open PySem L2
open PySem.Spec hiding items?
open PyProof.Rows hiding St
section
variable {X:Cx}
def MC:dc:=λx y st K=>match x,y with
 | .lst b,.lst a=>b.length+a.length<=sizeLine/\K (.ref st.length) (st++[.lst (b++a)])
 |_,_=>False
def RP:cf X (binaryOp .Add) (LR MC):=λc s σ H x y v u Q I n m ⟨α,d,e,st,K,G,z,P,i,h,S,q,k⟩=>by
 cases d<;>cases e<;>try show q.elim
 unfold Rep at i h;obtain⟨a,l,rfl,na,t,g⟩:=i;obtain⟨b,j,rfl,w,r,f⟩:=h;show xX c s σ H _ _ v u Q I n m ⟨a,b,l,j,rfl,rfl,fv P t,fv P r,by rw[<-g.length,<-f.length];show q.1,λp o=>?_⟩;show k.new P q.2 S (aU.mpr (dU (aU.mp g) (aU.mp f))) o
@[irreducible] def qx:dc:=MC
def BO:cf X (binaryOp .Add) (LR qx):=by unfold qx;show RP
end
def ye{st:af}{K:DK}{xs ys:List D}(h:xs.length+ys.length<=sizeLine)(k:K (.ref st.length) (st++[.lst (xs++ys)])):qx (.lst xs) (.lst ys) st K:=by unfold qx;show⟨h,k⟩
end L3
namespace L3
open PySem L2
open PySem.Spec hiding items?
open PyProof.Rows hiding St
open PySem PySem.Spec L2 PySem.SeqAt
end L3
namespace L3
open PySem L2
open PySem.Spec hiding items?
open PyProof.Rows hiding St
section
variable {X:Cx}
def O7{k:Nat}{e:Expr}{pos a:Pos}(i:X.N.Nodup)(f:Loc X.env.scope x)(d:JE X e c)(b:swapsWith e (some (.Name x a)) pos.line X.env=pure false:=by rfl)(h:X.fn x=true\/X.env.scope.names.lookup x=some .local:=by first|show .inl rfl|show .inr rfl)(g:X.N[k]?=some x:=by rfl):JS X (.Assign [.Name x a] e pos) (aN k c):=by
 unfold JS;unfold JE at d;show Hw (JH i g f d b h)
def Ao:eM:=λc st K=>match c with| [.lst b]=>(match mm b with|some a=>a≠ []/\∀m∈a,(∀x∈a,x<=m)->K (.int m) st|none=>False)|_=>False
def N0{ns:List Int}(a:i<ns.length):ns.getD i 0∈ns:=by rw[Wo,Wm a];show WM _
def mem_getD{ns:List Int}(h:x∈ns):∃i,i<ns.length/\ns.getD i 0=x:=by
 obtain⟨i,a,rfl⟩:=WV.mp h;show⟨i,a,by rw[Wo,Wm a];rfl⟩
def Ql(hc:X.calm=true):bJ X (.builtin "max") (fD Ao):=λL s σ H xs us Q I T ⟨α,ds,st,K,G,F',P,r,S,q,k⟩=>by
 unfold Ao at q;split at q
 . rename_i ys;split at q
   . rename_i c e;obtain⟨m,q⟩:=q;obtain⟨v,rfl,J⟩:=ib r rfl;unfold Rep at J;obtain⟨a,vs,rfl,na,h1,h2⟩:=J;obtain⟨u,rfl,R⟩:=vals1 T;cases R;let E:=rS h2 e;subst E;obtain⟨z,h,n,O,Z,C⟩:=Inv.sD I (fv P h1);let D:s.heap.IsList a h.toArray:=⟨_,C,rfl,n,rfl⟩
     let p:h.length=c.length:=by rw[<-Z,Wd]
     let M:0<c.length:=List.length_pos_iff.mpr m;show call_max_walkS (YH D ?_);let F:a≠s.heap.objs.size:=WB (Wq C);let f:∀(i:Nat) (w:Value),h.toArray[i]?=some w->∃t,w=Value.int (c.getD i 0) t:=λi w W=>mw O i w (by simpa using W);show⟨s.heap.objs.size,_,_,_,_,_,_,_,rfl,(Walks.list (A:=X.A.in1) (I.ok.hd hc) _ a F h.toArray).toS,⟨⟨_,Wu _ rfl,rfl,rfl⟩,⟨_,V_ _ C,rfl,n,rfl⟩⟩,?_,by rw[Wl];lia,CmpOf.ints_gt (λi=>c.getD i 0) f,?_⟩
     . intro b B;rw[WY];simp![Wy,WE,YD]at B;rcases B with rfl|rfl
       . show Xh _
       . show Xi (Wq C)
     . intro v' l E y
       let U:∀b o,s.heap.get? b=some o->l.heap.get? b=some o:=λb o q=>y.heap b o (by
        intro B;let:b=s.heap.objs.size:=by simpa using B
        show absurd (Wq q) (by rw[this];show WQ _)) (V_ _ q)
       let es:l= {s with heap:=l.heap,toks:=l.toks}:=by
        let g:=y.gens;let d:=y.drawn;let o:=y.os;cases l;cases s
        simp_all
       let Y:h.toArray.size-1=c.length-1:=by rw[Wl,p]
       obtain⟨t,rfl⟩:=f _ _ E;obtain⟨b1,N⟩:=argBest_gt (λi=>c.getD i 0) (h.toArray.size-1);generalize argBest (λi j=>decide (c.getD i 0>c.getD j 0)) (h.toArray.size-1)=j at b1 N⊢;let hj:j<c.length:=by lia
       rw[es];show⟨.int (c.getD j 0),H,I.kept (t':=l.toks) U,⟨t,rfl⟩,k.here P (q _ (N0 hj) λx V=>?_) S (by unfold Rep;rfl)⟩;obtain⟨i,hi,rfl⟩:=mem_getD V;show N i (by lia)
   . show q.elim
 . show q.elim
@[irreducible] def wD:eM:=Ao
def Pw(a:X.calm=true):bJ X (.builtin "max") (fD wD):=by unfold wD;show Ql a
end
def OF{st:af}{K:DK}{xs:List D}{ns:List Int}(h:mm xs=some ns)(a:ns≠ [])(k:∀m∈ns,(∀x∈ns,x<=m)->K (.int m) st):wD [.lst xs] st K:=by unfold wD Ao;simp![h];show⟨a,k⟩
abbrev fi(h:Heap)(T:Addr)(a b c:Value):Prop:=h.get? T=some {cls:= .type "tuple",data:= .seq #[a,b,c]}
section
variable {P:Program}{w:World}
def eV{s:Shared}{k:Nat}(d:fi s.heap T a b c)
 (h:∀h',h'.get? T=some {cls:= .type "tuple",data:= .seq ((#[a,b,c]:Array Value).setIfInBounds k x)}->Heap.SameBut T s.heap h'->Q () {s with heap:=h'}):
 wpAny (model P w) A (updateSeq T (·.setIfInBounds k x)) Q E s:=by
 show aaU d rfl (h _ ?_ (XQ ..));rw[Yz _ d rfl];simp[Obj.mapSeq]
structure MY(z ti to t1 t2 t3 a1 a2 a3:Nat):Prop where
 f:(ti≠z/\to≠z/\t1≠z/\t2≠z/\t3≠z)/\(ti≠to/\ti≠t1/\ti≠t2/\ti≠t3)/\(to≠t1/\to≠t2/\to≠t3)/\(t1≠t2/\t1≠t3/\t2≠t3)
 a1:a1≠z/\a1≠to/\a1≠t1/\a1≠t2/\a1≠t3
 a2:a2≠z/\a2≠to/\a2≠t1/\a2≠t2/\a2≠t3
 a3:a3≠z/\a3≠to/\a3≠t1/\a3≠t2/\a3≠t3
section
variable {z ti to t1 t2 t3 a1 a2 a3:Addr}
def HA{A:Around}{s:Shared}{E:Value->Shared->Prop}{J1 J2 J3:Nat->Heap->Prop}{us vs ws:Array Value}{n:Nat}{x y u a b c:Value}{Q:Value->Shared->Prop}(D:MY z ti to t1 t2 t3 a1 a2 a3)(p:Src P w t1 a1 J1 us)(m:Src P w t2 a2 J2 vs)(l:Src P w t3 a3 J3 ws)
 (Z:IsZip s.heap z ti to .none) (pI:fi s.heap ti (.ref t1) (.ref t2) (.ref t3)) (pO:fi s.heap to a b c) (j1:J1 n s.heap) (j2:J2 n s.heap) (j3:J3 n s.heap) (ex:us[n]?=some x) (ey:vs[n]?=some y) (ez:ws[n]?=some u)
 (q:∀k,IsZip k z ti to (rawInt s.heap.objs.size)->fi k to x y u->J1 (n+1) k->J2 (n+1) k->J3 (n+1) k->fi k s.heap.objs.size x y u->k.objs.size=s.heap.objs.size+1->
   (∀c o,c≠z->c≠to->c≠t1->c≠t2->c≠t3->s.heap.get? c=some o->k.get? c=some o)->Q (.ref s.heap.objs.size) {s with heap:=k}):
 wpAny (model P w) A (Builtin.«zip.__next__» ⟨[.ref z],[]⟩) (λbb s'=>∃v,bb= .done (.ret v)/\Q v s') E s:=by
 obtain⟨⟨n1,T,n3,n4,B⟩,⟨n5,n6,n7,bl⟩,⟨n8,n9,h⟩,W,V,U⟩:=D.f;obtain⟨p1,p2,p3,p4,p5⟩:=D.a1;obtain⟨q1,q2,q3,q4,q5⟩:=D.a2;obtain⟨r1,r2,r3,r4,r5⟩:=D.a3;change wpAny _ _ (field (.ref z) 2 >>= _) _ _ _;show V9 (W3 Z rfl (x:= .bool false) rfl ?_);change wpAny _ _ (field (.ref z) 3 >>= _) _ _ _;show V9 (W3 Z rfl (x:= .ref ti) rfl ?_);show V9 (W6 pI rfl ?_);change wpAny _ _ (Builtin.SmallTypes.ownedTupleIsFree (.ref z) >>= _) _ _ _;show V9 ?_;unfold Builtin.SmallTypes.ownedTupleIsFree;show V9 (W3 Z rfl (x:= .none) rfl (Wk ?_));simp![Yy];show V9 (Y_ ?_);show V9 (W3 Z rfl (x:= .ref to) rfl ?_);show V9 (Xd Z (by simp) λk1 Z1 M=>?_);replace Z1:IsZip k1 z ti to .ellipsis:=Z1;show V9 ?_;simp![ZL,ZZ,YY,Y7];show V9 (V9 (Yb ?_));change wpAny _ _ (Builtin.SmallTypes.nextOf (.ref t1) >>= _) _ _ _;show V9 (p.nx n _ _ _ _ x (p.ext j1 M.extBut (Wi n3) (Wi p1)) ex λk2 a5 L=>Wk ?_);let S:fi k2 to a b c:=L.extBut _ _ n8 (M.extBut _ _ T pO);show V9 (W6 S rfl ?_);show V9 (eV S λk3 t K=>?_);replace t:fi k3 to x b c:=t;show V9 (Yp (Wk ?_));show V9 (V9 (Yb ?_));change wpAny _ _ (Builtin.SmallTypes.nextOf (.ref t2) >>= _) _ _ _;let a0:J2 n k3:=m.ext (m.ext (m.ext j2 M.extBut (Wi n4) (Wi q1)) L.extBut W (Wi q3)) K.extBut n9 (Wi q2);show V9 (m.nx n _ _ _ _ y a0 ey λk4 aX J=>Wk ?_);let R:fi k4 to x b c:=J.extBut _ _ n9 t;show V9 (W6 R rfl ?_);show V9 (eV R λk5 r I=>?_);replace r:fi k5 to x y c:=r;show V9 (Yp (Wk ?_));show V9 (V9 (Yb ?_));change wpAny _ _ (Builtin.SmallTypes.nextOf (.ref t3) >>= _) _ _ _;let aD:J3 n k5:=l.ext (l.ext (l.ext (l.ext (l.ext j3 M.extBut (Wi B) (Wi r1)) L.extBut V (Wi r3)) K.extBut h (Wi r2)) J.extBut U (Wi r4)) I.extBut h (Wi r2);show V9 (l.nx n _ _ _ _ u aD ez λk6 ar H=>Wk ?_);let O:fi k6 to x y c:=H.extBut _ _ h r;show V9 (W6 O rfl ?_);show V9 (eV O λd g G=>?_);replace g:fi d to x y u:=g;show V9 (Yp (Wk (Wk ?_)));show V9 (W6 g rfl ?_);show V9 (aa6 ?_);let sz:d.objs.size=s.heap.objs.size:=by rw[G.1,H.1,I.1,J.1,K.1,L.1,M.1]
 let ah:∀c o,c≠z->c≠to->c≠t1->c≠t2->c≠t3->s.heap.get? c=some o->d.get? c=some o:=λc o C c2 c3 c4 c5 e=>G.extBut _ _ c2 (H.extBut _ _ c5 (I.extBut _ _ c2 (J.extBut _ _ c4 (K.extBut _ _ c2 (L.extBut _ _ c3 (M.extBut _ _ C e))))));let Z7:IsZip d z ti to .ellipsis:=G.extBut _ _ (Wi T) (H.extBut _ _ (Wi B) (I.extBut _ _ (Wi T) (J.extBut _ _ (Wi n4) (K.extBut _ _ (Wi T) (L.extBut _ _ (Wi n3) Z1)))));let a4:J1 (n+1) d:=p.ext (p.ext (p.ext (p.ext (p.ext a5 K.extBut n8 (Wi p2)) J.extBut (Wi W) (Wi p4)) I.extBut n8 (Wi p2)) H.extBut (Wi V) (Wi p5)) G.extBut n8 (Wi p2);let aK:J2 (n+1) d:=m.ext (m.ext (m.ext aX I.extBut n9 (Wi q2)) H.extBut (Wi U) (Wi q5)) G.extBut n9 (Wi q2);let ao:J3 (n+1) d:=l.ext ar G.extBut h (Wi r2);let X:z<d.objs.size:=Wq Z7;change wpAny _ _ (Builtin.SmallTypes.ownedTupleHandOut (.ref z) (.ref d.objs.size) >>= _) _ _ _;show V9 ?_;unfold Builtin.SmallTypes.ownedTupleHandOut;let Z8:IsZip (d.push {cls:= .type "tuple",data:= .seq #[x,y,u]}) z ti to .ellipsis:=V_ _ Z7;show V9 (Xd Z8 (by simp) λk9 Z9 b9=>?_);replace Z9:IsZip k9 z ti to (rawInt d.objs.size):=Z9;show Xd Z9 (by simp) λf i F=>?_;replace i:IsZip f z ti to (rawInt d.objs.size):=i;let N:∀c o,c≠z->d.get? c=some o->f.get? c=some o:=λc o C e=>F.extBut _ _ C (b9.extBut _ _ C (V_ _ e));let pT:fi f d.objs.size x y u:=F.extBut _ _ (Yt X) (b9.extBut _ _ (Yt X) (Wu _ rfl));let j:f.objs.size=d.objs.size+1:=by rw[F.1,b9.1,WY]
 rw[sz]at i pT j;show Wk ⟨_,rfl,?_⟩;change Q (.ref d.objs.size) _;rw[sz];show q f i (N _ _ T g) (p.fr _ _ _ a4 λb Y o e=>N b o ?_ e) (m.fr _ _ _ aK λb Y o e=>N b o ?_ e) (l.fr _ _ _ ao λb Y o e=>N b o ?_ e) pT j λc o C c2 c3 c4 c5 e=>N c o C (ah c o C c2 c3 c4 c5 e)
 . rcases Y with rfl|rfl
   . show n3
   . show p1
 . rcases Y with rfl|rfl
   . show n4
   . show q1
 . rcases Y with rfl|rfl
   . show B
   . show r1
def Lb{A:Around}{s:Shared}(hh:A.handled=none)(D:MY z ti to t1 t2 t3 a1 a2 a3)(S1:Src P w t1 a1 J1 us)(N:Src P w t2 a2 J2 vs)(v:Src P w t3 a3 J3 U)
 (Z:IsZip s.heap z ti to .none) (pI:fi s.heap ti (.ref t1) (.ref t2) (.ref t3)) (pO:fi s.heap to a b c) (j1:J1 n s.heap) (j2:J2 n s.heap) (j3:J3 n s.heap) (he:us[n]?=none\/vs[n]?=none\/U[n]?=none)
 (q:∀k e,(∀c o,c≠z->c≠to->c≠t1->c≠t2->c≠t3->s.heap.get? c=some o->k.get? c=some o)->(∃o,k.get? e=some o/\o.cls= .type "StopIteration")->E (.ref e) {s with heap:=k}):
 wpAny (model P w) A (Builtin.«zip.__next__» ⟨[.ref z],[]⟩) Q E s:=by
 obtain⟨⟨n1,R,O,V,H⟩,⟨n5,n6,n7,ar⟩,⟨n8,n9,G⟩,Y,X,W⟩:=D.f;obtain⟨p1,p2,p3,p4,p5⟩:=D.a1;obtain⟨q1,q2,q3,q4,q5⟩:=D.a2;obtain⟨r1,r2,r3,r4,r5⟩:=D.a3;change wpAny _ _ (field (.ref z) 2 >>= _) _ _ _;show V9 (W3 Z rfl (x:= .bool false) rfl ?_);change wpAny _ _ (field (.ref z) 3 >>= _) _ _ _;show V9 (W3 Z rfl (x:= .ref ti) rfl ?_);show V9 (W6 pI rfl ?_);change wpAny _ _ (Builtin.SmallTypes.ownedTupleIsFree (.ref z) >>= _) _ _ _;show V9 ?_;unfold Builtin.SmallTypes.ownedTupleIsFree;show V9 (W3 Z rfl (x:= .none) rfl (Wk ?_));simp![Yy];show V9 (Y_ ?_);show V9 (W3 Z rfl (x:= .ref to) rfl ?_);show V9 (Xd Z (by simp) λk1 M t=>?_);replace M:IsZip k1 z ti to .ellipsis:=M;show V9 ?_;simp![ZL,ZZ,YY,Y7];show V9 (V9 (Yb ?_));change wpAny _ _ (Builtin.SmallTypes.nextOf (.ref t1) >>= _) _ _ _;let J:J1 n k1:=S1.ext j1 t.extBut (Wi O) (Wi p1);cases ex:us[n]? with
 |none=>
  show V9 (S1.en n _ _ _ _ hh J ex λk2 e j K=>?_);obtain⟨F,d,g⟩:=K;let Z2:IsZip k2 z ti to .ellipsis:=j _ _ (Wi O) M;let i:e≠z:=λc=>by subst c;rw[Z2]at d;cases d;simp at g
  show Xd Z2 (by simp) λS _ l=>q S e (λc o m _ L _ _ f=>l.extBut _ _ m (j _ _ L (t.extBut _ _ m f))) ⟨F,l.extBut _ _ i d,g⟩
 |some x=>
  show V9 (S1.nx n _ _ _ _ x J ex λk2 aK j=>Wk ?_);let C:fi k2 to a b c:=j.extBut _ _ n8 (t.extBut _ _ R pO);show V9 (W6 C rfl ?_);show V9 (eV C λS p l=>?_);replace p:fi S to x b c:=p;show V9 (Yp (Wk ?_));show V9 (V9 (Yb ?_));change wpAny _ _ (Builtin.SmallTypes.nextOf (.ref t2) >>= _) _ _ _;let I:J2 n S:=N.ext (N.ext (N.ext j2 t.extBut (Wi V) (Wi q1)) j.extBut Y (Wi q3)) l.extBut n9 (Wi q2);cases ey:vs[n]? with
  |none=>
   show V9 (N.en n _ _ _ _ hh I ey λk4 e r K=>?_);obtain⟨F,d,g⟩:=K;let Z4:IsZip k4 z ti to .ellipsis:=r _ _ (Wi V) (l.extBut _ _ (Wi R) (j.extBut _ _ (Wi O) M));let i:e≠z:=λc=>by subst c;rw[Z4]at d;cases d;simp at g
   show Xd Z4 (by simp) λk5 _ u=>q k5 e (λc o m T L c4 _ f=>u.extBut _ _ m (r _ _ c4 (l.extBut _ _ T (j.extBut _ _ L (t.extBut _ _ m f))))) ⟨F,u.extBut _ _ i d,g⟩
  |some y=>
   have ez:U[n]?=none:=by
    rcases he with h|h|h
    . rw[ex]at h;cases h
    . rw[ey]at h;cases h
    . show h
   show V9 (N.nx n _ _ _ _ y I ey λk4 aD r=>Wk ?_);let B:fi k4 to x b c:=r.extBut _ _ n9 p;show V9 (W6 B rfl ?_);show V9 (eV B λk5 ao u=>?_);show V9 (Yp (Wk ?_));show V9 (V9 (Yb ?_));change wpAny _ _ (Builtin.SmallTypes.nextOf (.ref t3) >>= _) _ _ _;let ah:J3 n k5:=v.ext (v.ext (v.ext (v.ext (v.ext j3 t.extBut (Wi H) (Wi r1)) j.extBut X (Wi r3)) l.extBut G (Wi r2)) r.extBut W (Wi r4)) u.extBut G (Wi r2);show V9 (v.en n _ _ _ _ hh ah ez λk6 e b6 K=>?_);obtain⟨F,d,g⟩:=K;let Z6:IsZip k6 z ti to .ellipsis:=b6 _ _ (Wi H) (u.extBut _ _ (Wi R) (r.extBut _ _ (Wi V) (l.extBut _ _ (Wi R) (j.extBut _ _ (Wi O) M))));let i:e≠z:=λc=>by subst c;rw[Z6]at d;cases d;simp at g
   show Xd Z6 (by simp) λk7 _ b7=>q k7 e (λc o m T L c4 c5 f=>b7.extBut _ _ m (b6 _ _ c5 (u.extBut _ _ T (r.extBut _ _ c4 (l.extBut _ _ T (j.extBut _ _ L (t.extBut _ _ m f))))))) ⟨F,b7.extBut _ _ i d,g⟩
end
end
def P9(K:PySem.W.Frag)(f e d:SK)(j h g:Addr):It:=
 ⟨λi H=>∃c b a x y z,kI f K H j c/\kI e K H h b/\kI d K H g a/\c[i]?=some x/\b[i]?=some y/\a[i]?=some z,
  λi H v k=>∃T x y z,H T=none/\v= .ref T/\k=upd H T (.tup [x,y,z])/\(∀c,kI f K H j c->c[i]?=some x)/\(∀b,kI e K H h b->b[i]?=some y)/\∀a,kI d K H g a->a[i]?=some z,
  λi H=>∃c b a,kI f K H j c/\kI e K H h b/\kI d K H g a/\(c.length<=i\/b.length<=i\/a.length<=i)⟩
def Qy(z e d j g f p o n:Addr)(m l k:SK)(i:Nat)(h:Heap):Prop:=IsZip h z e d .none/\fi h e (.ref j) (.ref g) (.ref f)/\(∃a b c,fi h d a b c)/\oJ m j p i h/\oJ l g o i h/\oJ k f n i h
def HB{P:Program}{w:World}{K:PySem.W.Frag}{F:List Expr}{kx:Nat}{pos:Pos}{z A t p n m L J G:Addr}(U S R:SK)(D:MY z A t p n m L J G):
 Turn P w K (.Tuple F kx pos) (P9 K U S R L J G) [z,A,t,p,n,m] z (Qy z A t p n m L J G U S R) where
 mem:=by simp
 obj:=λi h st b c=>by
  obtain⟨Z,d,⟨a,Y,W,f⟩,l,j,g⟩:=st;simp![Wy,WE,YD]at c;rcases c with rfl|rfl|rfl|rfl|rfl|rfl
  . show⟨_,Z,λv e=>by cases e⟩
  . show⟨_,d,λv e=>by cases e⟩
  . show⟨_,f,λv e=>by cases e⟩
  . show iG l
  . show iG j
  . show iG g
 keep:=λi h h' st k=>by
  obtain⟨Z,d,⟨a,Y,W,f⟩,l,j,g⟩:=st;show⟨k z (by simp) _ Z,k A (by simp) _ d,⟨a,Y,W,k t (by simp) _ f⟩,jL l (k p (by simp)),jL j (k n (by simp)),jL g (k m (by simp))⟩
 item:=by
  intro X hP hw hK hc i C s σ H E I V st hg;subst hP hw hK;obtain⟨Z,d,⟨a,Y,W,f⟩,l,j,g⟩:=st;obtain⟨xs,ys,zs,x,y,zz,O,N,M,ex,ey,ez⟩:=hg;obtain⟨us,r1,l1⟩:=fW I O;obtain⟨vs,r2,l2⟩:=fW I N;obtain⟨ws,r3,l3⟩:=fW I M;obtain⟨u,eu,ru⟩:=r1.get ex;obtain⟨v,ev,rv⟩:=r2.get ey;obtain⟨wv,ew,ah⟩:=r3.get ez;obtain⟨⟨n1,n2,n3,n4,aD⟩,⟨n5,n6,n7,ar⟩,⟨n8,n9,bl⟩,bB,bA,bu⟩:=D.f;let r:s.TypeIs (.ref z) "zip":=⟨_,Z,rfl⟩
  unfold pyNext;show V9 (Ze (Xu (name:=Str.ofString "__next__") r Yi (Yd Yi r ZM (HA D (mj U p L D.a1.2.2.1 us.toArray) (mj S n J D.a2.2.2.2.1 vs.toArray) (mj R m G D.a3.2.2.2.2 ws.toArray) Z d f ⟨l,l1⟩ ⟨j,l2⟩ ⟨g,l3⟩ (x:=u) (y:=v) (u:=wv) (by simpa using eu) (by simpa using ev) (by simpa using ew) λk Z2 ao j1 j2 j3 pT bb Q=>Wk ⟨_,rfl,?_⟩) (Zv _))));show aaD (s:={s with heap:=k}) Z2 λk' Z3 q=>?_;let hT:s.heap.objs.size≠z:=Yt (Wq Z)
  let aK:∀b o,b∉[z,A,t,p,n,m]->s.heap.get? b=some o->k'.get? b=some o:=λb o c e=>by
   simp![Wy,ZA,WE,Xr,Y4]at c;show q.extBut _ _ c.1 (Q b o c.1 c.2.2.1 c.2.2.2.1 c.2.2.2.2.1 c.2.2.2.2.2 e)
  show⟨.ref s.heap.objs.size,upd H s.heap.objs.size (.tup [x,y,zz]),Mj (s:=s) (tk:=s.toks) I V aK (Wg _) ?_,rfl,⟨s.heap.objs.size,x,y,zz,I.aK.fresh (Wg _),rfl,rfl,?_,?_,?_⟩,?_,?_⟩
  . show⟨Wt rfl,[u,v,wv],.cons ru (.cons rv (.cons ah .nil)),?_⟩;show⟨_,q.extBut _ _ hT pT,rfl,_,rfl⟩
  . intro a5 B;rw[qg I B O];show ex
  . intro a4 B;rw[qg I B N];show ey
  . intro a0 B;rw[qg I B M];show ez
  . show⟨Z3,q.extBut _ _ n1 (Q _ _ n1 n5 n6 n7 ar d),⟨_,_,_,q.extBut _ _ n2 ao⟩,jL j1.1 λo e=>q.extBut _ _ n3 e,jL j2.1 λo e=>q.extBut _ _ n4 e,jL j3.1 λo e=>q.extBut _ _ aD e⟩
  . intro b c
    let:b≠s.heap.objs.size:=by
     obtain⟨o,e,_⟩:∃o,s.heap.get? b=some o/\True:=by
      simp![Wy,WE,YD]at c;rcases c with rfl|rfl|rfl|rfl|rfl|rfl
      . show⟨_,Z,trivial⟩
      . show⟨_,d,trivial⟩
      . show⟨_,f,trivial⟩
      . obtain⟨o,e,_⟩:=iG l;show⟨o,e,trivial⟩
      . obtain⟨o,e,_⟩:=iG j;show⟨o,e,trivial⟩
      . obtain⟨o,e,_⟩:=iG g;show⟨o,e,trivial⟩
     show WB (Wq e)
    rw[L2.aG this];show(V b c).1
 done:=by
  intro X hP hw hK hc i C s σ H E I V st hg;subst hP hw hK;obtain⟨Z,d,⟨a,Y,W,f⟩,l,j,g⟩:=st;obtain⟨xs,ys,zs,O,N,M,he⟩:=hg;obtain⟨us,r1,l1⟩:=fW I O;obtain⟨vs,r2,l2⟩:=fW I N;obtain⟨ws,r3,l3⟩:=fW I M;let e1:=r1.length;let e2:=r2.length;let e3:=r3.length;let r:s.TypeIs (.ref z) "zip":=⟨_,Z,rfl⟩
  unfold pyNext;show V9 (Ze (Xu (name:=Str.ofString "__next__") r Yi (Yd Yi r ZM (Lb (I.ok.hd hc) D (mj U p L D.a1.2.2.1 us.toArray) (mj S n J D.a2.2.2.2.1 vs.toArray) (mj R m G D.a3.2.2.2.2 ws.toArray) Z d f ⟨l,l1⟩ ⟨j,l2⟩ ⟨g,l3⟩ ?_ λk e Q hx=>?_) (Zv _))))
  . rcases he with h|h|h
    . left;simp;lia
    . right;left;simp;lia
    . right;right;simp;lia
  . obtain⟨o,ho,aX⟩:=hx;show V9 (Zc (T:="StopIteration") (b:=true) ⟨o,ho,aX⟩ isSubtype_stop ?_);show Wk ⟨rfl,Mc (s:=s) (tk:=s.toks) I V λb o c e=>?_⟩;simp![Wy,ZA,WE,Xr,Y4]at c;show Q b o c.1 c.2.2.1 c.2.2.2.1 c.2.2.2.2.1 c.2.2.2.2.2 e
 self:=λ_ _ _ _ _ st h=>ZN st.1 h
def yp(a b c:Value):checkTypeCall "zip" ⟨[a,b,c],[]⟩=pure ():=by kernel_rfl
def zX(a b c:Value):checkBuiltinCall "zip.__new__" ⟨[.type "zip",a,b,c],[]⟩=pure ():=by kernel_rfl
def rP(a b c d:Value):argsOk "object.__init__" ⟨[a,b,c,d],[]⟩:=by
 unfold argsOk;rw[signature?_of (id:="object.__init__") (n:=['_','_','t','i','n','i','_','_']) (o:=['t','c','e','j','b','o']) (by kernel_rfl) F.owner_object];kernel_rfl
abbrev MN(h:Heap)(k1 k2 k3:SK)(a1 a2 a3:Addr):Heap:=(zD h k1 k2 a1 a2).push (o8 k3 a3)
abbrev Nj(h:Heap)(k1 k2 k3:SK)(a1 a2 a3:Addr):Heap:=(MN h k1 k2 k3 a1 a2 a3).push {cls:= .type "tuple",data:= .seq #[.ref h.objs.size,.ref (Ba h k1 a1).objs.size,.ref (zD h k1 k2 a1 a2).objs.size]}
abbrev Mr(h:Heap)(k1 k2 k3:SK)(a1 a2 a3:Addr):Heap:=(Nj h k1 k2 k3 a1 a2 a3).push {cls:= .type "tuple",data:= .seq #[.none,.none,.none]}
abbrev BY(h:Heap)(k1 k2 k3:SK)(a1 a2 a3:Addr):Heap:=(Mr h k1 k2 k3 a1 a2 a3).push {cls:= .type "zip",data:= .fields #[.none,.bool false,.bool false,.ref (MN h k1 k2 k3 a1 a2 a3).objs.size,.ref (Nj h k1 k2 k3 a1 a2 a3).objs.size]}
def Gh(b e i:SK)(a c f:Addr)(us vs l:Array Value):Meets (Builtin.«zip.__new__» ⟨[.type "zip",.ref a,.ref c,.ref f],[]⟩) (λ_ R s=>g5 b s.heap a us/\g5 e s.heap c vs/\g5 i s.heap f l/\
 R (.ok (.ret (.ref (Mr s.heap b e i a c f).objs.size))) {s with heap:=BY s.heap b e i a c f}):=
 .of_wp λP w A R s h=>by
  obtain⟨k,g,d,tk,j⟩:=s;obtain⟨p,o,n,h⟩:=h;let m:=sub_zip;let q:g5 b (Shared.heap ⟨k,g,d,tk,j⟩) a us:=p;let L2:g5 e (Shared.heap ⟨k.push (o8 b a),g,d,tk,j⟩) c vs:=g5.push o _;let L3:g5 i (Shared.heap ⟨(k.push (o8 b a)).push (o8 e c),g,d,tk,j⟩) f l:=g5.push (g5.push n _) _
  wp_walk using r_ q,r_ L2,r_ L3
  show⟨_,rfl,h⟩
def Jf{s:Shared}{b e i:Addr}(H:g5 a s.heap b us)(G:g5 d s.heap e vs)(D:g5 f s.heap i t)
 (q:∀g n,n=s.heap.objs.size->IsZip g (n+5) (n+3) (n+4) .none->fi g (n+3) (.ref n) (.ref (n+1)) (.ref (n+2))->fi g (n+4) .none .none .none->oJ a n b 0 g->oJ d (n+1) e 0 g->oJ f (n+2) i 0 g->(∀c o,s.heap.get? c=some o->g.get? c=some o)->Q (.ref (n+5)) {s with heap:=g}):
 wpAny (model P w) A (call (.type "zip") [.ref b,.ref e,.ref i]) Q E s:=by
 show callType_new F.called_zip (by decide) (yp _ _ _) (zX _ _ _) (λB=>rP B _ _ _) F.entry_zip_new (Gh a d f b e i us vs t) ⟨H,G,D,?_⟩;let m:(Ba s.heap a b).objs.size=s.heap.objs.size+1:=WY ..;let l:(zD s.heap a d b e).objs.size=s.heap.objs.size+2:=by rw[WY,m]
 let k:(MN s.heap a d f b e i).objs.size=s.heap.objs.size+3:=by rw[WY,l]
 let j:(Nj s.heap a d f b e i).objs.size=s.heap.objs.size+4:=by rw[WY,k]
 let r:(Mr s.heap a d f b e i).objs.size=s.heap.objs.size+5:=by rw[WY,j]
 let p:(BY s.heap a d f b e i).get? (Mr s.heap a d f b e i).objs.size=some _:=Wu _ rfl;let u:(BY s.heap a d f b e i).get? (Nj s.heap a d f b e i).objs.size=some _:=V_ _ (Wu _ rfl);let v:(BY s.heap a d f b e i).get? (MN s.heap a d f b e i).objs.size=some _:=V_ _ (V_ _ (Wu _ rfl));let y:(BY s.heap a d f b e i).get? (zD s.heap a d b e).objs.size=some (o8 f i):=V_ _ (V_ _ (V_ _ (Wu _ (by cases f<;>rfl))));let z:(BY s.heap a d f b e i).get? (Ba s.heap a b).objs.size=some (o8 d e):=V_ _ (V_ _ (V_ _ (V_ _ (Wu _ (by cases d<;>rfl)))));let C:(BY s.heap a d f b e i).get? s.heap.objs.size=some (o8 a b):=V_ _ (V_ _ (V_ _ (V_ _ (V_ _ (Wu _ (by cases a<;>rfl))))));change _/\_;rw[k,j,r]at p;rw[m,l,k]at v;rw[j]at u;rw[l]at y;rw[m]at z;rw[r];show⟨⟨_,p,rfl⟩,q _ _ rfl p v u (ql (h:=s.heap) C) (ql (h:=s.heap) z) (ql (h:=s.heap) y) λc o x=>V_ _ (V_ _ (V_ _ (V_ _ (V_ _ (V_ _ x)))))⟩
def fH:List D->List D->List D->List D
 |x::xs,y::ys,z::zs=> .tup [x,y,z]::fH xs ys zs
 |_,_,_=>[]
def yR:∀ {xs ys a:List D},(fH xs ys a).length=min xs.length (min ys.length a.length)
 | [],_,_=>by unfold fH;simp
 |_::_,[],_=>by unfold fH;simp
 |_::_,_::_,[]=>by unfold fH;simp
 |x::xs,y::ys,z::a=>by unfold fH;rw[WS,yR];simp![WS];lia
def sF:∀ {xs ys f:List D} {n:Nat} {d:D},(fH xs ys f)[n]?=some d->∃x y z,xs[n]?=some x/\ys[n]?=some y/\f[n]?=some z/\d= .tup [x,y,z]
 | [],_,_,_,_,e=>by unfold fH at e;cases e
 |_::_,[],_,_,_,e=>by unfold fH at e;cases e
 |_::_,_::_,[],_,_,e=>by unfold fH at e;cases e
 |x::xs,y::ys,z::f,0,d,e=>by
  unfold fH at e;rw[List.getElem?_cons_zero]at e;cases e;show⟨x,y,z,rfl,rfl,rfl,rfl⟩
 |x::xs,y::ys,z::f,n+1,d,e=>by
  unfold fH at e;rw[Yk]at e;obtain⟨a,b,c,j,i,h,g⟩:=sF e;show⟨a,b,c,by rw[Yk];show j,by rw[Yk];show i,by rw[Yk];show h,g⟩
def NS{K:PySem.W.Frag}{H F E:SK}{M L J:Addr}{α:List (Option Addr)}{G:Hp}{ok:af->Prop}{xs ys C:List D}
 (h:∀g b a,Step α G g b->a_ g a b->ok a->∃vs i us,Bq H b M vs/\Bq F b L i/\Bq E b J us/\aJ g b xs vs/\aJ g b ys i/\aJ g b C us):vM (P9 K H F E M L J) α G ok (fH xs ys C) where
 stop:=λn g b O N a s P S o p=>by
  obtain⟨vs,i,us,w,r,q,m,l,k⟩:=h g b a s S o;rw[yR]at p;show⟨vs,i,us,fu P w,fu P r,fu P q,?_⟩;let:=m.length;let:=l.length;let:=k.length;lia
 go:=λn d g b O N a s P S o p=>by
  obtain⟨vs,i,us,w,r,q,m,l,k⟩:=h g b a s S o;obtain⟨x,y,z,ex,Z,Y,rfl⟩:=sF p;obtain⟨v,ev,_⟩:=m.get ex;obtain⟨u,A,_⟩:=l.get Z;obtain⟨t,B,_⟩:=k.get Y;show⟨vs,i,us,v,u,t,fu P w,fu P r,fu P q,ev,A,B⟩
 oW:=λn d g b O N a x ah s P S o p y=>by
  obtain⟨vs,i,us,w,r,q,m,l,k⟩:=h g b a s S o;obtain⟨c,e,f,ec,ee,ef,rfl⟩:=sF p;obtain⟨T,v,u,t,I,rfl,rfl,U,R,Q⟩:=y;obtain⟨v',ev,V⟩:=m.get ec;obtain⟨u',A,W⟩:=l.get ee;obtain⟨t',B,X⟩:=k.get ef;rw[U vs (fu P w)]at ev;rw[R i (fu P r)]at A;rw[Q us (fu P q)]at B;cases ev;cases A;cases B;let j:=(P.none I).1;show⟨L2.upd b T (.tup [v,u,t]),Step.laid j,P.laid I,S.laid j,?_⟩;unfold Rep;show⟨T,[v,u,t],rfl,S.lh j,a9,?_⟩;unfold aJ;show⟨v,[u,t],rfl,V.step (Step.laid j),?_⟩;unfold aJ;show⟨u,[t],rfl,W.step (Step.laid j),?_⟩;unfold aJ;show⟨t,[],rfl,X.step (Step.laid j),by unfold aJ;rfl⟩
def GH(f:List D)(a:af)(K:List D->(af->Prop)->af->Prop):Prop:=match f with
 | [x,y,z]=>(match items? a x,items? a y,items? a z with
   |some e,some d,some c=>K (fH e d c) (λb=>items? b x=some e/\items? b y=some d/\items? b z=some c) a
   |_,_,_=>False)
 |_=>False
@[irreducible] def sM:List D->af->(List D->(af->Prop)->af->Prop)->Prop:=GH
def Fx(t:DA):DI:=λσ st K=>t σ st λb a=>sM b a K
def Np(f:c<n)(e:b<n)(d:a<n):MY (n+5) (n+3) (n+4) n (n+1) (n+2) c b a:=⟨by lia,by lia,by lia,by lia⟩
def vals3(h:Vals vs us)(e:vs=[a,b,c]):∃u v w,us=[u,v,w]/\RelV a u/\RelV b v/\RelV c w:=by
 subst e;cases h with
 |cons p q=>
  cases q with
  |cons i g=>
   cases g with
   |cons f d=>
    cases d;show⟨_,_,_,rfl,p,i,f⟩
def OR{X:Cx}(hg:Gl X "zip")(hm:X.mg "zip"=none)(ha:PA X [a,b,c] (LA t))(hs:starEach [a,b,c] X.env=(false,eval a X.env)::starEach [b,c] X.env)(T:starEach [b,c] X.env=[(false,eval b X.env),(false,eval c X.env)]):
 PI X (.Tuple w kx m) (.Call (.Name "zip" p) [a,b,c] [] pos) (LI (Fx t)):=by
 intro u s σ H R I h;obtain⟨α,σd,st,K,G,F,P,RS,S,t,k⟩:=h;show Call_ (kZ I hg hm boot_zip (XF (bR (ha pos u s σ H (λJ H1=>∃A f e d,Step α G f e/\cy e F H1/\a_ f d e/\aJ f e A J/\sM A d K) I ⟨α,σd,st,_,G,F,P,RS,S,t,λA d q f e H1 J r j i Q=>⟨A,f,e,d,r,j,i,Q,q⟩⟩) λus r ⟨J,H1,l,rv,A,f,e,d,w1,j,i,Q,q⟩=>?_) hs (by rw[T];rfl)));unfold sM GH at q;split at q
 . rename_i x y z;split at q
   . rename_i xs ys zs ex ey ez;obtain⟨v1,v2,v3,rfl,q1,q2,q3⟩:=GB Q rfl;obtain⟨p1,aX,rfl,g1,c1⟩:=iJ i q1 ex;obtain⟨p2,aK,rfl,g2,c2⟩:=iJ i q2 ey;obtain⟨p3,aD,rfl,g3,c3⟩:=iJ i q3 ez;obtain⟨u1,u2,u3,rfl,O,N,M⟩:=vals3 rv rfl;cases O;cases N;cases M;obtain⟨ar,_,l1⟩:=fW l (fu j c1);obtain⟨ao,_,l2⟩:=fW l (fu j c2);obtain⟨ah,_,l3⟩:=fW l (fu j c3);show Jf l1 l2 l3 λg n B Z pI pO i1 i2 i3 kp=>?_;obtain⟨o1,W⟩:=l1.some;obtain⟨o2,V⟩:=l2.some;obtain⟨o3,U⟩:=l3.some;show ZN (s:={r with heap:=g}) Z ?_;show⟨n+5,[n+5,n+3,n+4,n,n+1,n+2],_,_,H1,rfl,l.kept (t':=r.toks) kp,HB (EO x) (EO y) (EO z) (Np (by rw[B];show Wq W) (by rw[B];show Wq V) (by rw[B];show Wq U)),⟨Z,pI,⟨_,_,_,pO⟩,i1,i2,i3⟩,λb hb=>?_,?_⟩
     . have v:r.heap.objs.size<=b:=by
        simp![Wy,WE,YD]at hb;rcases hb with rfl|rfl|rfl|rfl|rfl|rfl<;>(rw[<-B];first|show Wg _|show aaO _ _)
       show l.vw v (l.aK.fresh v)
     . show k _ _ d q _ f e H1 w1 j i (NS λα' G' a0 L Y o=>?_);obtain⟨a5,E,e1,f1,d1⟩:=iJ Y (q1.step L) o.1;obtain⟨a4,D,e2,f2,d2⟩:=iJ Y (q2.step L) o.2.1;obtain⟨a3,C,e3,f3,d3⟩:=iJ Y (q3.step L) o.2.2;cases e1;cases e2;cases e3;show⟨E,D,C,d1,d2,d3,f1,f2,f3⟩
   . show q.elim
 . show q.elim
def Ol{st:af}{x y z:D}{xs ys b:List D}{K:List D->(af->Prop)->af->Prop}(ex:items? st x=some xs)(g:items? st y=some ys)(f:items? st z=some b)(k:∀ok:af->Prop,(∀a,items? a x=some xs->items? a y=some ys->items? a z=some b->ok a)->K (fH xs ys b) ok st):sM [x,y,z] st K:=by
 unfold sM GH;simp![ex,g,f];show k _ λa e d c=>⟨e,d,c⟩
def PL{X:Cx}{a b c:Expr}{e:List Expr}{j:Nat}{d p pos:Pos}{i:DA}(m:Gl X "zip")(l:X.mg "zip"=none)(h:JA X [a,b,c] i)(k:notStar a=true:=by rfl)(g:notStar b=true:=by rfl)(f:notStar c=true:=by rfl):JI X (.Tuple e j d) (.Call (.Name "zip" p) [a,b,c] [] pos) (Fx i):=by
 unfold JI;unfold JA at h;show OR m l h (cG k) (by rw[cG g,cG f];rfl)
def Ic:DS:=λ_ _ _=>False
def J9:JS X s Ic:=by
 unfold JS;intro a s σ H D I h;obtain⟨α,b,st,c,G,F,P,R,S,q,k⟩:=h;show q.elim
section
variable {X:Cx}
def AM:dc:=λx y st K=>match x,y with
 | .ref n,.lst a=>(match st[n]? with|some (.lst b)=>b.length+a.length<=sizeLine/\K (.lst (b++a)) st|_=>False)
 |_,_=>False
def RN:cf X (binaryOp .Add) (LR AM):=λc s σ H x y v u Q I o m ⟨α,d,e,st,K,G,E,P,r,h,S,q,k⟩=>by
 cases d<;>cases e<;>try show q.elim
 rename_i n B;unfold AM at q;simp only at q;split at q
 . rename_i C e;obtain⟨a,A,l,z,i⟩:=S.gR e;let f:=dR A r;subst f;unfold Rep at h;obtain⟨b,j,rfl,D,w,g⟩:=h;show xX c s σ H _ _ v u Q I o m ⟨a,b,l,j,rfl,rfl,.of (P.get z),fv P w,by rw[<-i.length,<-g.length];show q.1,λp t=>?_⟩;show k.lst P q.2 S (aU.mpr (dU (aU.mp i) (aU.mp g))) t
 . show q.elim
@[irreducible] def um:dc:=AM
def IK:cf X (binaryOp .Add) (LR um):=by unfold um;show RN
end
def NV{st:af}{K:DK}{n:Nat}{xs ys:List D}(e:st[n]?=some (.lst xs))(h:xs.length+ys.length<=sizeLine)(k:K (.lst (xs++ys)) st):um (.ref n) (.lst ys) st K:=by unfold um AM;simp![e];show⟨h,k⟩
end L3
namespace L3
open PySem L2
open PySem.Spec hiding items?
open PyProof.Rows hiding St
open Sem (wp)
section
variable {prog:Program}{w:World}{A:Around}{s:Shared}{E:Value->Shared->Prop}
def NN{xs ys:List Value}(j:s.heap.IsTuple T xs.toArray)(i:s.heap.IsTuple b ys.toArray)(y:xs.length+ys.length<=sizeLine)
 (q:∀r h',h'.IsTuple r (xs++ys).toArray->(∀c o,s.heap.get? c=some o->h'.get? c=some o)->((xs=[]/\r=b)\/(ys=[]/\r=T)\/r=s.heap.objs.size)->Q (.ref r) {s with heap:=h'}):
 wpAny (model prog w) A (binaryOp .Add (.ref T) (.ref b)) Q E s:=by
 by_cases g:xs=[]
 . obtain⟨⟨C,B,t,v⟩,l,p,n,m⟩:=id j;obtain⟨⟨u,k,data2,h⟩,a,f,x,d⟩:=id i;simp only at p m f d;subst p m f d
   show aaL ⟨_,l,rfl⟩ ⟨_,a,rfl⟩ ZJ aaq Y2 YV (YM _ _)
    (tuple_addW0 T b xs.toArray ys.toArray n x B k v h (by simp[g])) ⟨l,a,q b s.heap (by rw[g];show i) (λ_ _ e=>e) (.inl ⟨g,rfl⟩)⟩
 . show HT.EL j i g (λz=>?_) (λz=>?_) y
   . show q T s.heap (by rw[z,Xw];show j) (λ_ _ e=>e) (.inr (.inl ⟨z,rfl⟩))
   . show q s.heap.objs.size _ (IsTup.new _ _) (λc o e=>V_ _ e) (.inr (.inr rfl))
end
section
variable {prog:Program}{w:World}{A:Around}{R:Result->Shared->Prop}{I:Addr}{fp wr:List Addr}{G:Array GenState->Array GenState->Prop}{n:Nat}{P:Nat->Value->Prop}{Sx:Nat->Shared->Prop}
def Iz(P:Nat->Value->Prop)(ao:List (List Value))(e sz:Addr)(i:Nat)(T:Addr):Prop:=(T=e/\(ao.take i).flatten=[])\/(∃j,j<i/\P j (.ref T)/\(ao.take i).flatten=ao.getD j [])\/sz<=T
def Jp{ao:List (List Value)}(h:i<ao.length):(ao.take (i+1)).flatten=(ao.take i).flatten++ao.getD i []:=by
 rw[ZO h,List.flatten_append,Wo,Wm h];simp
def JX{h:Heap}{T S:Addr}{o:Obj}(f:h.IsTuple T xs)(d:h.get? S=some o)(b:o.cls= .type "list"):T≠S:=by
 intro c;subst c;obtain⟨g,e,a,_⟩:=f;rw[d]at e;cases e;rw[b]at a;show absurd a (by decide)
def w9(W:WalksS prog w A.in1 I fp wr G n P Sx)(ao:List (List Value))(hl:ao.length=n)(hz:ao.flatten.length<=sizeLine)(S e sz:Addr)(h0:Heap)(E:S∉fp)(Z:sz<=S)
 (hI:∀i s T xs,Sx i s->s.heap.IsTuple T xs->T∉wr) (hP:∀j v,j<n->P j v->∃a,v= .ref a/\a∉S::wr/\h0.IsTuple a (ao.getD j []).toArray):
 ∀(k i:Nat) (s:Shared) (T:Addr) (c:Nat),n-i=k->i<=n->Sx i s->s.heap.get? S=some {cls:= .type "list",dict:=none,data:= .seq #[.ref T] c,slots:= #[]}->
 (∀b o,b∉S::wr->h0.get? b=some o->s.heap.get? b=some o)->s.heap.IsTuple T (ao.take i).flatten.toArray->Iz P ao e sz i T->
 (∀s' r,Moved (S::wr) G s s'->s'.heap.IsTuple r ao.flatten.toArray->Iz P ao e sz n r->R (.ok (.ret (.ref r))) s')->codeAny (model prog w) A (.builtin "sum.loop" ⟨[.ref I,.ref S,rawInt 2,rawInt 0],[]⟩) R s:=by
 let aK:S∉wr:=λh=>E (W.sub _ h);let f:∀b∈wr,b∈S::wr:=λb l=>Ww _ l;intro k;induction k with
 |zero=>
  intro i s T c hk hi m K V x Y hR;let ar:i=n:=by lia
  subst ar;show codeAny_builtin F.entry_sum_loop ?_;rw[Around.under_plainId ZP _];change wpAny _ A.in1 (seqItems? (.ref S) >>= _) _ _ s;show V9 (W6 K rfl ?_);change wpAny _ A.in1 (tryCatch (pyNext (.ref I)) _ >>= _) _ _ s;show V9 (wpAny_tryCatch (W.done s _ _ m λs' q=>?_));rw[X_ (by lia)]at x;show Wk (hR s' T (q.mono f) (x.at λo e=>q.heap T o (hI _ _ _ _ m x) e) Y)
 |succ k ih=>
  intro i s T c hk hi m K V x Y hR;let t:i<n:=by lia
  show codeAny_builtin F.entry_sum_loop ?_;rw[Around.under_plainId ZP _];change wpAny _ A.in1 (seqItems? (.ref S) >>= _) _ _ s;show V9 (W6 K rfl ?_);change wpAny _ A.in1 (tryCatch (pyNext (.ref I)) _ >>= _) _ _ s;show V9 (wpAny_tryCatch (W.item i s _ _ t m λv s' J y q=>?_));let H:=q.heap S _ aK K;obtain⟨a,rfl,ha,ia⟩:=hP i v t J;let aD:s'.heap.IsTuple T (ao.take i).flatten.toArray:=x.at λo e=>q.heap T o (hI _ _ _ _ m x) e;let Q:s'.heap.IsTuple a (ao.getD i []).toArray:=ia.at λo e=>q.heap a o (λh=>ha (f _ h)) (V a o ha e);let d:=Jp (ao:=ao) (i:=i) (by lia)
  let C:(ao.take i).flatten.length+(ao.getD i []).length<=sizeLine:=by
   let h1:ao.flatten=(ao.take (i+1)).flatten++(ao.drop (i+1)).flatten:=by rw[<-List.flatten_append,aa7]
   let h2:=Xl List.length h1;rw[d,W5,W5]at h2;lia
  change wpAny _ A.in1 ((holding [Value.ref a] (binaryOp .Add (.ref T) (.ref a))).attempt >>= _) _ _ _;show V9 (Ze (YB (NN aD Q C λr L ir g X=>?_)));let u:L.get? S=_:=g _ _ H;change wpAny _ A.in1 (updateSeq S (λ_=> #[.ref r]) >>= _) _ _ _;show V9 (aaU (s:={s' with heap:=L}) u rfl ?_);let D:=Yz (Obj.mapSeq λ_=> #[Value.ref r]) u rfl;let ah:r≠S:=JX ir u rfl;show V9 (Yp ?_);let p:∀b o,b≠S->L.get? b=some o->((L.update S (Obj.mapSeq λ_=> #[Value.ref r])).update S (Obj.mapSeq λ_=> #[Value.ref r])).get? b=some o:=λb o l e=>(Y3 _ _ (λh:S=b=>l h.symm)).trans ((Y3 _ _ (λh:S=b=>l h.symm)).trans e);show V9 (aaU D rfl (Wk ⟨plainId_quiet ZP _,ih (i+1) _ r _ (by lia) t (W.frame _ s' _ _ y (Wg _) λb l o e=>?_) (Yz _ D rfl) (λb o l e=>?_) ?_ ?_ λN O B U M=>?_⟩))
  . show p b o (λh=>E (by rw[<-h];show l)) (g _ _ e)
  . show p b o (λh=>l (by rw[h];show Wx)) (g _ _ (q.heap b o (λh=>l (f _ h)) (V b o l e)))
  . rw[d];show ir.at λo e=>p r o ah e
  . unfold Iz;rw[d];rcases X with⟨z,rfl⟩|⟨z,rfl⟩|rfl
    . show .inr (.inl ⟨i,by lia,J,by rw[z];rfl⟩)
    . rw[z,Xw];rcases Y with h|⟨j,hj,h⟩|h
      . show .inl h
      . show .inr (.inl ⟨j,by lia,h⟩)
      . show .inr (.inr h)
    . show .inr (.inr (Wj Z (Ys (Wq H))))
  . show hR N O (Moved.trans W.gtrans ((q.mono f).then_heap (Wg _) λb o l e=>?_) B) U M;show p b o (λh=>l (by rw[h];show Wx)) (g _ _ e)
end
section
variable {prog:Program}{w:World}{A:Around}{E:Value->Shared->Prop}{s:Shared}
def Hz(a b:Value):argsOk "sum" ⟨[a,b],[]⟩:=by unfold argsOk;kernel_rfl
def BQ(L:A.in1.handled=none){t e:Addr}{us:List Value}{ao:List (List Value)}(l:s.heap.IsTuple t us.toArray)(D:s.heap.IsTuple e #[])(K:ao.length=us.length)(I:ao.flatten.length<=sizeLine)
 (O:∀(j:Nat) (v:Value),us[j]?=some v->∃a,v= .ref a/\s.heap.IsTuple a (ao.getD j []).toArray)
 (q:∀s' r,s'= {s with heap:=s'.heap,toks:=s'.toks}->(∀b o,s.heap.get? b=some o->s'.heap.get? b=some o)->s'.heap.IsTuple r ao.flatten.toArray->Iz (λi v=>us[i]?=some v) ao e s.heap.objs.size us.length r->Q (.ref r) s'):
 wpAny (model prog w) A (call (.builtin "sum") [.ref t,.ref e]) Q E s:=by
 show call_function_tree F.kind_sum F.plain_sum F.entry_sum (Hz _ _) ?_;unfold Builtin.«sum»;simp![WS,aaV];rw[Wc (by decide)];show V9 (wpAny_of_eq (show Builtin.Builtins.bindParams "sum" ["start"] 0 ⟨[.ref e],[]⟩=pure [some (.ref e)]from rfl) ?_);show V9 (aak l ?_);let n:({s with heap:=s.heap.push {cls:= .type "tuple_iterator",data:= .fields #[.ref t,.int 0 0]}}:Shared).TypeIs (.ref e) "tuple":=(D.at λo x=>V_ _ x).typeIs;show V9 (Wk ?_);simp![YY,Y7];show V9 (V9 (V9 (Zc (T:="tuple") (b:=false) n F.sub_tuple_str ?_)));simp![XT,YC];show Wk (V9 (V9 (Zc (T:="tuple") (b:=false) n F.sub_tuple_bytes ?_)));simp![XT,YC];show Wk (V9 (V9 (Zc (T:="tuple") (b:=false) n F.sub_tuple_bytearray ?_)));simp![XT,YC];show Wk (Wk ?_);show V9 (XZ ?_);let u:t≠s.heap.objs.size:=WB (by obtain⟨o,x,_⟩:=l;show Wq x);let W:=(Walks.tuple (prog:=prog) (w:=w) (A:=A.in1) L s.heap.objs.size t u us.toArray).toS;let c:(s.heap.push {cls:= .type "tuple_iterator",data:= .fields #[.ref t,.int 0 0]}).objs.size=s.heap.objs.size+1:=WY _ _
 let N:(s.heap.push {cls:= .type "tuple_iterator",data:= .fields #[.ref t,.int 0 0]}).objs.size∉[s.heap.objs.size,t]:=by
  rw[c];intro h;simp![Wy,WE,YD]at h;let f:t<s.heap.objs.size:=by obtain⟨o,x,_⟩:=l;show Wq x
  rcases h with h|h
  . show absurd h (Nat.succ_ne_self _)
  . rw[<-h]at f;show absurd f (Nat.not_lt.mpr (aag _))
 let k:∀b o,s.heap.get? b=some o->(s.heap.push {cls:= .type "tuple_iterator",data:= .fields #[.ref t,.int 0 0]}).get? b=some o:=λb o x=>V_ _ x
 let d:∀b o,s.heap.get? b=some o->b∉[(s.heap.push {cls:= .type "tuple_iterator",data:= .fields #[.ref t,.int 0 0]}).objs.size,s.heap.objs.size]:=λb o x h=>by
  let G:=Wq x;rw[c]at h;simp![Wy,WE,YD]at h;rcases h with rfl|rfl
  . show absurd G (Nat.not_lt.mpr (aag _))
  . show WQ _ G
 show Wk ⟨plainId_quiet ZP _,w9 W ao (by rw[Wl];show K) I _ e s.heap.objs.size _ N (by rw[c];show aag _) ?_ ?_ us.toArray.size 0 _ e 0 (by lia) (WU _)
  (W.frame 0 {s with heap:=s.heap.push {cls:= .type "tuple_iterator",data:= .fields #[.ref t,.int 0 0]}} _ _ ⟨⟨_,Wu _ rfl,rfl,rfl⟩,l.at λo x=>k _ _ x⟩ (Wg _) λb _ o x=>V_ _ x) (Wu _ rfl) (λb o _ x=>V_ _ x) (D.at λo x=>V_ _ (k _ _ x)) (.inl ⟨rfl,rfl⟩) ?_⟩
 . rintro i U T S ⟨R,_⟩ P m;let:T=s.heap.objs.size:=by simpa using m
   subst this;obtain⟨o,x,M,_⟩:=R;obtain⟨V,y,g,_⟩:=P;rw[x]at y;cases y;rw[M]at g;show absurd g (by decide)
 . intro j v X J;obtain⟨a,rfl,C⟩:=O j v (by simpa using J);let p:=C;obtain⟨o,x,_⟩:=p;show⟨a,rfl,d a o x,C.at λo x=>k _ _ x⟩
 . intro s' r m H B;show q s' r ?_ (λb o x=>m.heap b o (d b o x) (V_ _ (k _ _ x))) H ?_
   . have z:=Moved.eq_with m;show z
   . unfold Iz at B⊢;simpa using B
end
def o_:List D->Option (List (List D))
 | []=>some []
 | .tup a::r=>(o_ r).map (a:: ·)
 |_=>none
def AE:eM:=λc st K=>match c with
 | [.tup b,.tup []]=>(match o_ b with|some a=>a.flatten.length<=sizeLine/\K (.tup a.flatten) st|none=>False)
 |_=>False
section
variable {X:Cx}{pins:List (Addr×Obj)}{σ:L2.St}{H:Hp}{s:Shared}{α:List (Option Addr)}
def mv(α:List (Option Addr))(H:Hp)(h:Heap):List (List D)->List Value->List (List V)->List (List Value)->Prop
 | [],[],[],[]=>True
 |b::yss,u::us,c::wss,is::iss=>(∃a,u= .ref a/\Rep α H (.tup b) (.ref a)/\aJ α H b c/\Vals c is/\h.IsTuple a is.toArray)/\mv α H h yss us wss iss
 |_,_,_,_=>False
def Pg(I:Inv X pins σ H s)(P:cy G y H):∀ {xs:List D} {yss:List (List D)} {vs:List V} {us:List Value},aJ α G xs vs->o_ xs=some yss->Vals vs us->∃a c,mv α G s.heap yss us a c:=by
 intro xs;induction xs with
 |nil=>
  intro yss vs us r e d;cases e;unfold aJ at r;subst r;cases d;show⟨[],[],trivial⟩
 |cons x xs u=>
  intro yss vs us r e d;unfold aJ at r;obtain⟨v,l,rfl,i,n⟩:=r;cases d with
  |cons h t=>
   cases x with
   |tup z=>
    unfold o_ at e;cases f:o_ xs with
    |none=>rw[f]at e;cases e
    |some j=>
     rw[f]at e;cases e;let g:=i;unfold Rep at g;obtain⟨b,k,rfl,A,w,m⟩:=g;obtain⟨is,p,o,_⟩:=I.tuple (iF.of (P.get w));cases h;obtain⟨a,c,q⟩:=u n f t;show⟨k::a,is::c,⟨b,rfl,i,m,p,o⟩,q⟩
   |_=>cases e
def mv.get{h:Heap}:∀ {b:List (List D)} {us:List Value} {wss:List (List V)} {iss:List (List Value)} {j:Nat} {v:Value},mv α H h b us wss iss->us[j]?=some v->∃a,v= .ref a/\Rep α H (.tup (b.getD j [])) (.ref a)/\h.IsTuple a (iss.getD j []).toArray
 | [],[],[],[],j,v,_,e=>by simp at e
 |c::b,u::us,d::wss,is::iss,0,v,t,e=>by
  obtain⟨⟨a,rfl,r,_,_,i⟩,_⟩:=t;cases e;show⟨a,rfl,r,i⟩
 |c::b,u::us,d::wss,is::iss,j+1,v,t,e=>by
  obtain⟨a,k,g,f⟩:=mv.get (j:=j) t.2 (by simpa using e);show⟨a,k,by simpa using g,by simpa using f⟩
def mv.len:∀ {b:List (List D)} {us:List Value} {wss:List (List V)} {iss:List (List Value)},mv α H h b us wss iss->iss.length=us.length/\iss.flatten.length=b.flatten.length/\aJ α H b.flatten wss.flatten/\Vals wss.flatten iss.flatten/\(∀j,(iss.getD j []).length=(b.getD j []).length)/\b.length=us.length
 | [],[],[],[],_=>⟨rfl,rfl,by unfold aJ;trivial,.nil,λ_=>rfl,rfl⟩
 |e::b,u::us,n::wss,is::iss,t=>by
  obtain⟨⟨a,rfl,r,d,c,i⟩,t⟩:=t;obtain⟨m,o,l,k,g,f⟩:=mv.len t;let z:is.length=e.length:=by rw[<-c.length,<-d.length]
  show⟨by simp[m],by simp![WR,W5];lia,?_,?_,λj=>?_,by simp[f]⟩
  . rw[WR,WR];show aU.mpr (dU (aU.mp d) (aU.mp l))
  . rw[WR,WR];show c.append k
  . cases j with
    |zero=>show z
    |succ j=>simpa using g j
def CG{α:Type}:∀ {a:List (List α)} {j:Nat},a.flatten.length=(a.getD j []).length->a.flatten=a.getD j []
 | [],_,_=>rfl
 |b::a,0,h=>by
  rw[WR,W5]at h;let:a.flatten=[]:=Xg.mp (by simp at h⊢;show h);rw[WR,this,Xw];rfl
 |b::a,j+1,h=>by
  rw[WR,W5]at h;let d:b.length+a.flatten.length=(a.getD j []).length:=by simpa using h
  let f:(a.getD j []).length<=a.flatten.length:=by
   by_cases c:j<a.length
   . rw[Wo,Wm c];show(List.sublist_flatten_of_mem (WM c)).length_le
   . rw[Wo,XR (by lia)];simp
  let e:b=[]:=Xg.mp (by lia);subst e;rw[WR,aaT,CG (j:=j) (by simpa using d)];simp
def QK(hc:X.calm=true):bJ X (.builtin "sum") (fD AE):=λpins s σ H xs N Q I R ⟨α,ds,st,K,G,F',P,r,S,q,k⟩=>by
 unfold AE at q;split at q
 . rename_i ys;split at q
   . rename_i c e;obtain⟨v,u,rfl,U,w⟩:=nv r rfl;obtain⟨v',u',rfl,O,g⟩:=vals2 R;let i:=U;unfold Rep at i;obtain⟨t,vs,rfl,nt,ht,Y⟩:=i;cases O;obtain⟨N,W,V,_⟩:=I.tuple (iF.of (P.get ht));obtain⟨e',M,p,rfl,A,y,x⟩:=tup_is I (w.mono P.same) g;let e0:p=[]:=Xg.mp (by rw[<-y.length,<-A.length];rfl);subst e0;obtain⟨d,ah,T⟩:=Pg I P Y e W;obtain⟨l1,m,l3,F,Z,l6⟩:=T.len;show BQ (I.ok.hd hc) V x l1 (by rw[m];show q.1) (λj v hv=>by obtain⟨a,D,_,J⟩:=T.get hv;show⟨a,D,J⟩) λl f es B ir L=>?_;rw[es];rcases L with⟨rfl,z⟩|⟨j,hj,C,z⟩|h
     . have n:c.flatten=[]:=Xg.mp (by rw[<-m];rw[X_ (by lia)]at z;rw[z];rfl);rw[n]at q
       let hu:u= .ref f:=by
        let E:=w;unfold Rep at E;obtain⟨b,_,rfl,_⟩:=E;cases g;rfl
       subst hu;show⟨.ref f,H,I.kept (t':=l.toks) B,rfl,k.here P q.2 S w⟩
     . obtain⟨a,D,h2,J⟩:=T.get C;cases D;rw[X_ (by lia)]at z;let n:c.flatten=c.getD j []:=CG (by rw[<-m,<-Z,z]);rw[n]at q;show⟨.ref f,H,I.kept (t':=l.toks) B,rfl,k.here P q.2 S h2⟩
     . have hR:L2.dw X.prog X.w (upd H f (.tup d.flatten)) l.heap f (.tup d.flatten):=⟨by rw[F.length,m];show q.1,_,F,ir⟩
       show⟨.ref f,_,I.laid (t':=l.toks) (o:= .tup d.flatten) B h hR,rfl,k.tup P q.2 S l3 (I.aK.fresh h)⟩
   . show q.elim
 . show q.elim
@[irreducible] def xw:eM:=AE
def Qw(a:X.calm=true):bJ X (.builtin "sum") (fD xw):=by unfold xw;show QK a
end
def OA{st:af}{K:DK}{xs:List D}{a:List (List D)}(h:o_ xs=some a)(b:a.flatten.length<=sizeLine)(k:K (.tup a.flatten) st):xw [.tup xs,.tup []] st K:=by unfold xw AE;simp![h];show⟨b,k⟩
end L3
namespace L3
open PySem L2
open PySem.Spec hiding items?
open PyProof.Rows hiding St
section
variable {X:Cx}
def Al:eM:=λb st K=>match b with| [.lst a]=>(match gp a with|some bs=>K (.bl (bs.any id)) st|none=>False)|_=>False
def range_any{α:Type}(l:List α)(f:α->Bool)(tr:Nat->Bool)(h:∀i x,l[i]?=some x->tr i=f x):(List.range l.length).any tr=l.any f:=by
 induction l generalizing tr with
 |nil=>rfl
 |cons a l b=>
  rw[WS,Xo,aar,aar,List.any_map,h 0 a rfl];congr 1;show b (tr∘Nat.succ) λi x e=>h (i+1) x (by simpa using e)
def TB(F:X.calm=true):bJ X (.builtin "any") (fD Al):=λm s σ H T V Q I B ⟨α,Z,st,K,G,F',P,r,S,q,k⟩=>by
 unfold Al at q;split at q
 . rename_i R;split at q
   . rename_i bs e;obtain⟨v,rfl,l⟩:=ib r rfl;unfold Rep at l;obtain⟨a,U,rfl,na,M,L⟩:=l;obtain⟨u,rfl,y⟩:=vals1 B;cases y;let D:=qJ L e;subst D;obtain⟨z,ao,n,t,Y,j⟩:=Inv.sD I (fv P M);let c:=qr t;subst c;let g:s.heap.IsList a (bs.map Value.bool).toArray:=⟨_,j,rfl,n,rfl⟩
     show call_any_walk (YH g ?_);let h:a≠s.heap.objs.size:=WB (Wq j);show⟨s.heap.objs.size,_,_,_,_,_,λi=>(bs[i]?).getD true,rfl,Walks.list (A:=X.A.in1) (I.ok.hd F) _ a h (bs.map Value.bool).toArray,⟨⟨_,Wu _ rfl,rfl,rfl⟩,⟨_,V_ _ j,rfl,n,rfl⟩⟩,?_,?_⟩
     . intro i w W Q' E' d p;rw[aa4,Wr]at d;cases f:bs[i]? with
       |none=>rw[f]at d;cases d
       |some b=>
        rw[f]at d;cases d;simp![f]at p;show Yj p
     . intro N tk E
       let C:∀b o,s.heap.get? b=some o->N.get? b=some o:=λb o q=>E b o (by
        intro J;let:b=s.heap.objs.size:=by simpa using J
        show absurd (Wq q) (by rw[this];show WQ _)) (V_ _ q)
       let O:(List.range (bs.map Value.bool).toArray.size).any (λi=>(bs[i]?).getD true)=bs.any id:=by
        rw[Wl,Wd];show range_any bs id _ λi x e=>by rw[e];rfl
       rw[O];show⟨.bl (bs.any id),H,I.kept (t':=tk) C,rfl,k.here P q S (by unfold Rep;rfl)⟩
   . show q.elim
 . show q.elim
@[irreducible] def CW:eM:=Al
def M6(a:X.calm=true):bJ X (.builtin "any") (fD CW):=by unfold CW;show TB a
end
def Sa{st:af}{K:DK}{xs:List D}{bs:List Bool}(h:gp xs=some bs)(k:K (.bl (bs.any id)) st):CW [.lst xs] st K:=by unfold CW Al;simp![h];show k
def putD(f:Str)(v:D):List (Str×D)->List (Str×D)
 | []=>[(f,v)]
 |(g,x)::r=>if g=f then(g,v)::r else(g,x)::putD f v r
def j8.look:∀ {fs:List (Str×D)} {vs:List (Str×V)},j8 α H fs vs->fs.lookup f=some v->∃u,vs.lookup f=some u/\Rep α H v u
 | [],_,_,e=>by cases e
 |(g,x)::fs,_,.cons (b:=q) h t,e=>by
  obtain⟨i,y⟩:=q;obtain⟨d,c⟩:=h;simp only at d c;subst d;rw[WW]at e⊢;cases a:f==g with
  |true=>rw[a]at e;cases e;show⟨y,rfl,c⟩
  |false=>rw[a]at e;show j8.look t e
def j8.none:∀ {fs:List (Str×D)} {vs:List (Str×V)},j8 α H fs vs->fs.lookup f=Option.none->vs.lookup f=Option.none
 | [],_,.nil,_=>rfl
 |(g,x)::fs,_,.cons (b:=q) h t,e=>by
  obtain⟨i,y⟩:=q;obtain⟨c,d⟩:=h;simp only at c d;subst c;rw[WW]at e⊢;cases a:f==g with
  |true=>rw[a]at e;cases e
  |false=>rw[a]at e;show j8.none t e
def j8.put(r:Rep α H d v):∀ {fs:List (Str×D)} {vs:List (Str×V)},j8 α H fs vs->j8 α H (putD f d fs) (gW f v vs)
 | [],_,.nil=> .cons ⟨rfl,r⟩ .nil
 |(g,x)::fs,_,.cons (b:=q) h t=>by
  obtain⟨i,y⟩:=q;obtain⟨e,c⟩:=h;simp only at e c;subst e;unfold putD gW;by_cases a:g=f
  . rw[We a,We a];show .cons ⟨rfl,r⟩ t
  . rw[Wc a,Wc a];show .cons ⟨rfl,c⟩ (j8.put r t)
def Lz(C:Addr)(f:Str)(d:D)(st:af)(K:DK):Prop:=match d with
 | .ref n=>(match st[n]? with|some (.ins a fs)=>a=C/\∃v,fs.lookup f=some v/\K v st|_=>False)
 |_=>False
@[irreducible] def GA(C:Addr)(f:Str):D->af->DK->Prop:=Lz C f
def cB(C:Addr)(f:Str)(b:DE):DE:=λσ st K=>b σ st λd a=>GA C f d a K
def bo{C:Addr}{f:Str}{n:Nat}{st:af}{K:DK}{fs:List (Str×D)}{v:D}(e:st[n]?=some (.ins C fs))(h:fs.lookup f=some v)(k:K v st):GA C f (.ref n) st K:=by
 unfold GA Lz;simp![e];show⟨trivial,v,h,k⟩
def GC(C:Addr)(f:Str)(x d:D)(st:af)(K:af->Prop):Prop:=match x with
 | .ref n=>(match st[n]? with|some (.ins a fs)=>a=C/\fs.length<1000/\K (st.set n (.ins C (putD f d fs)))|_=>False)
 |_=>False
@[irreducible] def An(C:Addr)(f:Str):D->D->af->(af->Prop)->Prop:=GC C f
def mh(C:Addr)(f:Str)(e g:DE):DS:=λD σ st=>g σ st λd c=>e σ c λx b=>An C f x d b λa=>D.nx σ a
def ke{C:Addr}{f:Str}{n:Nat}{d:D}{st:af}{K:af->Prop}{fs:List (Str×D)}(e:st[n]?=some (.ins C fs))(h:fs.length<1000)(k:K (st.set n (.ins C (putD f d fs)))):An C f (.ref n) d st K:=by
 unfold An GC;simp![e];show⟨trivial,h,k⟩
def Ar(C:Addr)(m:Str)(x:D)(st:af)(k:Prop):Prop:=match x with
 | .ref n=>(match st[n]? with|some (.ins a fs)=>a=C/\fs.lookup m=none/\k|_=>False)
 |_=>False
@[irreducible] def wj(C:Addr)(m:Str):D->af->Prop->Prop:=Ar C m
def df{C:Addr}{m:Str}{n:Nat}{st:af}{k:Prop}{fs:List (Str×D)}(e:st[n]?=some (.ins C fs))(h:fs.lookup m=none)(q:k):wj C m (.ref n) st k:=by
 unfold wj Ar;simp![e];show⟨trivial,h,q⟩
def di(C:Addr)(m:Str)(S:bM)(c:DE)(t:DA):DE:=λσ st K=>c σ st λx a=>wj C m x a (t σ a λd b=>S (x::d) b K)
def wN(C:Addr)(S:bM)(t:DA):DE:=λσ st K=>t σ st λc a=>S (.ref a.length::c) (a++[.ins C []]) λr b=>r= .aD/\K (.ref a.length) b
section
variable {X:Cx}{C f g:Addr}{fd:FuncData}{k:Nat}{x m fl:Str}{e o value:Expr}{es:List Expr}{p pos pos' apos:Pos}{te to:DE}{t:DA}{S:bM}{ps:List Str}
def Ue(c:mM X.K C)(na:fF X.K C fl)(B:PE X e (LE te))(D:attributeBase e fl X.env (eval e X.env)=eval e X.env):PE X (.Attribute e fl pos) (LE (cB C fl te)):=PE.imp (Q0 B D) λσ H Q ⟨α,j,st,K,G,F,P,R,S,t,k⟩=>by
 show⟨α,j,st,_,G,F,P,R,S,t,λd n q N O H1 v r i h y=>?_⟩;unfold GA Lz at q;cases d<;>try show q.elim
 simp only at q;split at q
 . rename_i T fs L;obtain⟨rfl,w,z,q⟩:=q;obtain⟨a,J,M,l,I,E⟩:=h.xl L;let b:=dR J y;subst b;obtain⟨u,A,s⟩:=E.look z;show⟨a,_,M,l,u,rfl,i.get I,c,na,A,(k.at r).here i q h s⟩
 . show q.elim
def QS(c:mM X.K C)(na:fF X.K C fl)(Q:PE X o (LE to))(N:PE X value (LE te))(O:swapsWith value (some (.Attribute o fl pos')) pos.line X.env=pure false):PS X (.Assign [.Attribute o fl pos'] value pos) (LS (mh C fl to te)):=PS.imp (PM Q N O) λD σ H ⟨α,i,st,DD,G,F,P,R,S,t,k⟩=>by
 show⟨α,i,st,_,G,F,P,R,S,t,λd j q I Z H1 v n W V L=>?_⟩;show⟨I,i,j,_,Z,F,W,R.step n,V,q,λx J b y Y H2 v2 l E B K=>?_⟩;unfold An GC at b;cases x<;>try show b.elim
 simp only at b;split at b
 . rename_i C' fs U;obtain⟨rfl,T,b⟩:=b;obtain⟨a,u,w,h,A,z⟩:=B.xl U;let r:=dR u K;subst r;let s:some a∈y:=WI u;let M:h.length<1000:=by rw[<-z.length];show T
   show⟨a,_,w,h,rfl,E.get A,c,na,M,?_⟩;show((k.nx.at n).at l) i _ b y (upd Y a (.ins _ w (gW fl v h))) _ σ (Step.write s) (E.write A) (((R.step n).step l).step (Step.write s)) ?_;show B.write u ⟨w,gW fl v h,a9,(z.put (L.step l)).step (Step.write s)⟩
 . show b.elim
def LE.SQ(h:LE (di C m S to t) σ H Q):FD C m (gK S) [] E0 (LE to) (LA t) σ H Q:=by
 obtain⟨α,j,st,K,G,F,P,R,T,B,k⟩:=h;show⟨α,j,st,_,G,F,P,R,T,B,λd c q z Y H1 v r w u s=>?_⟩;unfold wj Ar at q;cases d<;>try show q.elim
 simp only at q;split at q
 . rename_i n C' fs N;obtain⟨rfl,I,q⟩:=q;obtain⟨a,M,O,A,L,J⟩:=u.xl N;let i:=dR M s;subst i;show⟨a,O,A,rfl,w.get L,J.none I,?_⟩;show⟨z,j,c,_,Y,F,w,R.step r,u,q,λds b E y W H2 Z l V U D=>?_⟩;try dsimp only
   rw[Xw];show⟨y,_,b,K,W,F,V,by unfold aJ;show⟨_,_,rfl,s.step l,D⟩,U,E,(k.at r).at l⟩
 . show q.elim
def LE.make(h:LE (wN C S t) σ H Q):MR C (gK S) [] E0 (LA t) σ H Q:=by
 obtain⟨α,M,st,K,G,F,P,R,Y,O,k⟩:=h;show⟨α,M,st,_,G,F,P,R,Y,O,λW b q i s H1 us T L z U=>?_⟩;intro x a V r y;let l:=(L.none r).1;let J:=L.laid (o:= .own x) r;let S2:=z.laid (o:= .own x) l;let j:upd H1 a (.own x) x=none:=by rw[aG (Wi y)];show V
 let n:=(J.none j).1;let P3:=J.laid (o:= .ins C a []) j;let Z:=S2.cell (o:= .ins C a []) (c:= .ins C []) n ⟨a,[],a9,.nil⟩;let B:Step i s i (upd s a (.own x)):=Step.laid l;let A:Step i (upd s a (.own x)) (i++[some x]) (upd (upd s a (.own x)) x (.ins C a [])):=Step.cell n
 let E:Rep (i++[some x]) (upd (upd s a (.own x)) x (.ins C a [])) (.ref b.length) (.ref x):=by
  unfold Rep;show .inr ⟨x,?_,rfl⟩;rw[WD (by rw[z.len];show Wg _),z.len,XU];rfl
 rw[Xw];show⟨i++[some x],.ref b.length::W,b++[.ins C []],_,_,F,P3,by unfold aJ;show⟨_,_,rfl,E,(U.step B).step A⟩,Z,q,λd u w N G' H' v D P' S' I=>?_⟩;obtain⟨rfl,w⟩:=w;unfold Rep at I;show⟨I,(((k.at T).at B).at A) _ u w N G' H' _ D P' S' (E.step D)⟩
end
def PK(a:Int)(n:Nat):It:=⟨λi _=>i<n,λi H x b=>b=H/\x= .int (a+(i:Nat)*(-1)),λi _=>n<=i⟩
def Ie{P:Program}{w:World}{K:PySem.W.Frag}{D:Expr}(it:Addr)(a:Int)(n:Nat):Turn P w K D (PK a n) [it] it (λi h=>IsRangeIter h it (a+(i:Nat)*(-1)) ((n:Int)-(i:Nat)) (-1)) where
 mem:=by simp
 obj:=λi h st b d=>by
  let e:b=it:=by simpa using d
  subst e
  show⟨_,st,λv z=>by
   let C:Data.fields _=Data.cell v:=z;cases C⟩
 keep:=λi h j st k=>k it (by simp) _ st
 item:=by
  intro X q l r p i c s σ H E I g st m;subst q l r;obtain⟨B,A,J,y,x,u⟩:=g it (by simp);let W:=Walks.range (prog:=X.prog) (w:=X.w) (I.ok.hd p) it a (-1) n;show W.item i s _ _ m st λv j tk G f F=>?_;obtain⟨t,rfl⟩:=G;let M:Inv X c σ H {s with heap:=j,toks:=tk}:=I.turned (λb o d e=>F b o (by simpa using d) e) B A y x u;show⟨_,rfl,Ai (s:={s with heap:=j,toks:=tk}) (n:="range_iterator") f rfl rfl (by decide) ⟨.int (a+(i:Nat)*(-1)),H,M,⟨t,rfl⟩,⟨rfl,rfl⟩,f,λb d=>(g b d).1⟩⟩
 done:=by
  intro X q l r p i c s σ H E I g st m;subst q l r;obtain⟨B,A,J,y,x,u⟩:=g it (by simp);show wpAny_pyNext_range_end (I.ok.hd p) st (by let:n<=i:=m;lia) λj L=>⟨rfl,I.turned (t':=s.toks) (λb o d e=>L b o d e) B A y x u⟩
 self:=λ_ _ _ _ _ st h=>wpAny_pyIter_rangeiter st h
def zG(a b:Int):Builtin.Range.rangeSize a b (-1)=((a-b).toNat:Int):=by
 unfold Builtin.Range.rangeSize;rw[Wc (by decide)];let e:(a-b-1)/(- -1:Int)=a-b-1:=by simp
 rw[e];split<;>lia
def small_down(f: -(2^62)<=a)(d:a<2^62)(e: -(2^62)<=b)(c:b<2^62):Builtin.Range.small a b (-1)=true:=by
 unfold Builtin.Range.small;rw[zG];simp![Builtin.Range.rangeFitsLong,W_,Zj,decide_eq_true_eq,Yh,show¬((-1:Int)>0) by decide,YC];lia
def MG(b:TA):TI:=λσ H R=>b σ H λa H1=>∃i j:Int,a=[.int i,.int j,.int (-1)]/\(-(2^62)<=i/\i<2^62/\ -(2^62)<=j/\j<2^62)/\R (PK i (i-j).toNat) H1
section
variable {X:Cx}{tg:Expr}
def IW{a b c:Expr}{w:TA}{p pos:Pos}(E:Gl X "range")(D:X.mg "range"=none)(G:PA X [a,b,c] w)(C:notStar a=true:=by rfl)(v:notStar b=true:=by rfl)(u:notStar c=true:=by rfl):
 PI X tg (.Call (.Name "range" p) [a,b,c] [] pos) (MG w):=by
 intro d s σ H R I h;show Call_ (kZ I E D boot_range (XF (bR (G pos d s σ H _ I h) λN f ⟨M,H1,L,x,n⟩=>?_) (cG C) (jY (by simp[f_,v,u]))));obtain⟨i,j,e,⟨n,B,A,z⟩,q⟩:=n;subst e;cases x with
 |cons r k=>
  cases k with
  |cons y k=>
   cases k with
   |cons m k=>
    cases k;obtain⟨t,rfl⟩:=r;obtain⟨t',rfl⟩:=y;obtain⟨g,rfl⟩:=m;show call_range_3 (by decide) ?_ (Or.inl (aaN (by decide+kernel)));show wpAny_pyIter_range (IsRange.new ..) (small_down n B A z) ?_;let l:Inv X d σ H1 {f with heap:=f.heap.push {cls:= .type "range",data:= .fields #[.int i t,.int j t',.int (-1) g]},toks:=f.toks}:=L.kept λb o e=>V_ _ e;generalize({f with heap:=f.heap.push {cls:= .type "range",data:= .fields #[.int i t,.int j t',.int (-1) g]},toks:=f.toks}:Shared)=s2 at l⊢;show⟨s2.heap.objs.size,[s2.heap.objs.size],_,_,H1,rfl,l.kept (t':=s2.toks) λb o e=>V_ _ e,Ie _ i (i-j).toNat,?_,λb F=>?_,q⟩
    . change IsRangeIter _ _ (i+((0:Nat):Int)*(-1)) ((((i-j).toNat:Nat):Int)-((0:Nat):Int)) (-1);let K:i+((0:Nat):Int)*(-1)=i:=by lia
      let J:(((i-j).toNat:Nat):Int)-((0:Nat):Int)=Builtin.Range.rangeSize i j (-1):=by rw[zG];lia
      rw[K,J];show Wu _ rfl
    . have e:b=s2.heap.objs.size:=by simpa using F
      subst e;show l.vw (Wg _) (l.aK.fresh (Wg _))
end
def jU(a:Int)(n:Nat):List D:=(List.range n).map λ(k:Nat)=>D.int (a+(k:Nat)*(-1))
def tx{n k:Nat}:(jU a n)[k]?=if k<n then some (.int (a+(k:Nat)*(-1)))else none:=by
 unfold jU;rw[Wr];by_cases h:k<n
 . rw[Xq h,We h];rfl
 . rw[XR (by simpa using h),Wc h];rfl
def oV:(jU a n).length=n:=by unfold jU;simp
def Pa:vM (PK a n) α G (λ_=>True) (jU a n) where
 stop:=λm f e h g c s P S o b=>by rw[oV]at b;show b
 go:=λm d f e h g c s P S o b=>by
  rw[tx]at b;split at b
  . assumption
  . cases b
 oW:=λm d f e h g c x i s P S o b y=>by
  obtain⟨rfl,rfl⟩:=y;rw[tx]at b;split at b
  . cases b;show⟨e,Step.refl,P,S,by unfold Rep;rfl⟩
  . cases b
def S7(b:List D)(a:af)(K:List D->(af->Prop)->af->Prop):Prop:=match b with
 | [.int i,.int j,.int c]=>(c= -1/\ -(2^62)<=i/\i<2^62/\ -(2^62)<=j/\j<2^62)/\K (jU i (i-j).toNat) (λ_=>True) a
 |_=>False
@[irreducible] def AD:List D->af->(List D->(af->Prop)->af->Prop)->Prop:=S7
def yl(t:DA):DI:=λσ st K=>t σ st λb a=>AD b a K
def Hf{e a:Expr}(h:PI X e a (MG (LA t))):PI X e a (LI (yl t)):=PI.imp h λσ H R ⟨α,m,st,K,G,F,P,y,S,t,k⟩=>by
 show⟨α,m,st,_,G,F,P,y,S,t,λs b q n A H1 B o z x d=>?_⟩;unfold AD at q;match s,q,d with
 | [.int i,.int j,.int c],q,d=>
   obtain⟨v,u,w,rfl,l,g,f⟩:=GB d rfl;unfold Rep at l g f;subst l g f;obtain⟨⟨rfl,r⟩,p⟩:=q;show⟨i,j,rfl,r,k _ _ b p _ n A H1 o z x Pa⟩
def Nz{st:af}{i j:Int}{K:List D->(af->Prop)->af->Prop}(h: -(2^62)<=i/\i<2^62/\ -(2^62)<=j/\j<2^62)(k:K (jU i (i-j).toNat) (λ_=>True) st):AD [.int i,.int j,.int (-1)] st K:=by unfold AD;show⟨⟨rfl,h⟩,k⟩
def JZ{X:Cx}{h a b c:Expr}{p pos:Pos}{g:DA}(k:Gl X "range")(j:X.mg "range"=none)(f:JA X [a,b,c] g)(i:notStar a=true:=by rfl)(e:notStar b=true:=by rfl)(d:notStar c=true:=by rfl):JI X h (.Call (.Name "range" p) [a,b,c] [] pos) (yl g):=by
 unfold JI;unfold JA at f;show Hf (IW k j f i e d)
section
variable {X:Cx}
def SV:V->V->Hp->VK->Prop:=λo i H Q=>∃p a k j v,o= .ref p/\i= .int k/\H p=some (.lst a)/\0<=k/\ki a.length k=some j/\a[j]?=some v/\Q v H
def I_:QQ X SV:=by
 intro c s σ H o i D E Q I f g h;obtain⟨p,C,k,j,v,rfl,rfl,m,e,y,l,q⟩:=h;cases f;obtain⟨t,rfl⟩:=g;obtain⟨B,n,r,u,F⟩:=I.lst m;obtain⟨d,L,K,z⟩:=xV y;let J:=r.length;let G:=p9
 let x:k.toNat=j:=by
  rw[aaX e z]at d;show W2 d
 obtain⟨w,A,a⟩:=r.get l;let b:s.heap.IsList p B.toArray:=⟨_,u,rfl,n,rfl⟩
 show wpAny_getItem_list b e (by lia) (by rw[x];simpa using A) ⟨v,H,I,a,q⟩
end
def FY(x y:D)(st:af)(K:DK):Prop:=match x,y with
 | .ref n,.int k=>(match st[n]? with|some (.lst a)=>0<=k/\(match du a k with|some (.int u)=>K (.int u) st|_=>False)|_=>False)
 |_,_=>False
@[irreducible] def Am:D->D->af->DK->Prop:=FY
def Gw(f:Int->Int->Int)(x y a d:D)(st:af)(K:af->Prop):Prop:=match a,d with
 | .int u,.int v=>vI x y (.int (f u v)) st K
 |_,_=>False
@[irreducible] def AG(f:Int->Int->Int):D->D->D->D->af->(af->Prop)->Prop:=Gw f
def CU(f:Int->Int->Int)(h i j:DE):DS:=λD σ st=>h σ st λx g=>i σ g λy e=>Am x y e λu c=>j σ c λd b=>AG f x y u d b λa=>D.nx σ a
def Nt{n:Nat}{k u:Int}{xs:List D}{st:af}{K:DK}(e:st[n]?=some (.lst xs))(b:0<=k)(a:du xs k=some (.int u))(q:K (.int u) st):Am (.ref n) (.int k) st K:=by
 unfold Am FY;simp![e,a];show⟨b,q⟩
def OK{f:Int->Int->Int}{n j:Nat}{k u v:Int}{xs:List D}{st:af}{K:af->Prop}(e:st[n]?=some (.lst xs))(a:ki xs.length k=some j)(q:K (st.set n (.lst (xs.set j (.int (f u v)))))):AG f (.ref n) (.int k) (.int u) (.int v) st K:=by
 unfold AG Gw vI;simp![e,a];show q
section
variable {X:Cx}{e o i value:Expr}{es:List Expr}{te to ti:DE}{t:DA}{pos pos' tpos apos p:Pos}{C f:Addr}{fl m x:Str}{S:bM}{k:Nat}{fd:FuncData}{ps:List Str}
def J8{g:Int->Int->Int}(ho:PE X o (LE to))(hi:PE X i (LE ti))(he:PE X e (LE te))(hp:Cd X op (D6 g))
 (ha:∀J K new,augStore i J K new=(do holding [new,J,K] (setItem J K new);release [new,J,K] [];pure .next)):PS X (.AugAssign (.Subscript o i tpos) op e pos) (LS (CU g to ti te)):=PS.imp (Pk ho hi I_ he hp set_list ha) λD σ H ⟨α,E,st,DD,G,F,P,R,S,t,k⟩=>by
 show⟨α,E,st,_,G,F,P,R,S,t,λx N q α1 G1 H1 v1 I P1 S1 r1=>?_⟩;show⟨α1,E,N,_,G1,F,P1,R.step I,S1,q,λy M b α2 G2 H2 v2 r P2 S2 Q=>?_⟩;unfold Am FY at b;cases x<;>cases y<;>try show b.elim
 rename_i n U;simp only at b;split at b
 . rename_i xs ex;obtain⟨h0,b⟩:=b;split at b
   . rename_i u B;obtain⟨a,ea,vs,hv,rv⟩:=S2.gR ex;let T:=dR ea (r1.step r);subst T;unfold Rep at Q;unfold du at B;cases ej:ki xs.length U with
     |none=>rw[ej]at B;cases B
     |some j=>
      rw[ej]at B;let W:xs[j]?=some (.int u):=B;obtain⟨w,hw,s⟩:=rv.get W;unfold Rep at s;subst s;show⟨a,vs,U,j,.int u,rfl,Q,P2.get hv,h0,by rw[<-rv.length];show ej,hw,?_⟩;show⟨α2,E,M,_,G2,F,P2,(R.step I).step r,S2,b,λd ao c L G3 H3 v3 O P3 S3 r3=>?_⟩;unfold AG Gw at c;cases d<;>try show c.elim
      rename_i v;unfold Rep at r3;show⟨u,v,rfl,r3,?_⟩;unfold vI at c;simp only at c;split at c
      . rename_i ah e3;split at c
        . rename_i V Z;obtain⟨a',h,l,A,z⟩:=S3.gR e3;let ra:=dR h ((r1.step r).step O);cases ra;let Y:some a∈L:=WI h;show⟨a,l,U,V,rfl,Q,P3.get A,by rw[<-z.length];show Z,?_⟩;show(((k.nx.at I).at r).at O) E _ c L (upd G3 a (.lst (l.set V (.int (g u v))))) _ σ (Step.write Y) (P3.write A) ((((R.step I).step r).step O).step (Step.write Y)) ?_;show S3.write h ⟨_,a9,(aU.mpr (qT (show Rep L G3 (.int (g u v)) (.int (g u v)) by unfold Rep;rfl) V (aU.mp z))).step (Step.write Y)⟩
        . show c.elim
      . show c.elim
   . show b.elim
 . show b.elim
def Hn{value o:Expr}{fl:Str}{pos':Pos}:swapsWith value (some (.Attribute o fl pos')) n env=pure false:=by cases value<;>rfl
def bK(c:mM X.K C)(na:fF X.K C fl)(a:JE X e te)(b:attributeBase e fl X.env (eval e X.env)=eval e X.env:=by rfl):JE X (.Attribute e fl pos) (cB C fl te):=by unfold JE at*;show Ue c na a b
def kc(c:mM X.K C)(na:fF X.K C fl)(b:JE X o to)(a:JE X value te):JS X (.Assign [.Attribute o fl pos'] value pos) (mh C fl to te):=by unfold JS;unfold JE at*;show QS c na b a Hn
def Li{g:Int->Int->Int}(d:JE X o to)(h:JE X i ti)(j:JE X e te)(c:Cd X op (D6 g))
 (l:∀a b new,augStore i a b new=(do holding [new,a,b] (setItem a b new);release [new,a,b] [];pure .next):=by intros;rfl):JS X (.AugAssign (.Subscript o i tpos) op e pos) (CU g to ti te):=by unfold JS;unfold JE at*;show J8 d h j c l
def dX{pl:Sem Bool}(n:JE X o to)(c:mM X.K C)(l:Meth X.K C m f)(F:dh X.prog X.w X.K X.mg X.base fS k f fd ps (gK S))(j:cU k X.A)(q:Binds X.K fd ps [])(b:JA X (e::es) t)
 (g:notStar e=true:=by rfl) (a:f_ es=true:=by rfl)
 (d:eval (.Call (.Attribute o m apos) (e::es) [] pos) X.env=(do
   let ov <-eval o X.env
   standAt apos.atName
   let(f,first) <-holding [ov] (getMethod ov m pl)
   callWith pos f first (backTo pos (starEach (e::es) X.env)) (backToKw pos (keywordEach [] X.env))):=by rfl):
 JE X (.Call (.Attribute o m apos) (e::es) [] pos) (di C m S to t):=by
 unfold JE at*;unfold JA at b;show PE.imp (NU n c l F j q .nil Aw b (cG g) (jY a) d) λ_ _ _ h=>LE.SQ h
def OJ{pl:Sem Bool}(I:JE X o to)(c:mM X.K C)(D:Meth X.K C m f)(F:dh X.prog X.w X.K X.mg X.base fS k f fd ps (gK S))(B:cU k X.A)(J:Binds X.K fd ps [])
 (A:eval (.Call (.Attribute o m apos) [] [] pos) X.env=(do
   let ov <-eval o X.env
   standAt apos.atName
   let(f,first) <-holding [ov] (getMethod ov m pl)
   callWith pos f first (backTo pos (starEach [] X.env)) (backToKw pos (keywordEach [] X.env))):=by rfl):
 JE X (.Call (.Attribute o m apos) [] [] pos) (di C m S to ag):=by
 unfold JE at*;show PE.imp (Kc I c D F B J .nil Aw A) λσ H Q h=>?_;obtain⟨α,s,st,K,G,F,P,R,U,y,k⟩:=h;show⟨α,s,st,_,G,F,P,R,U,y,λd b q u V H1 v z r l j=>?_⟩;unfold wj Ar at q;cases d<;>try show q.elim
 simp only at q;split at q
 . rename_i n W fs O;obtain⟨rfl,E,q⟩:=q;obtain⟨a,N,T,w,M,L⟩:=l.xl O;let g:=dR N j;subst g;show⟨a,T,w,rfl,r.get M,L.none E,u,_,b,K,V,F,r,by unfold aJ;show⟨_,_,rfl,j,by unfold aJ;rfl⟩,l,q,k.at z⟩
 . show q.elim
def A_(M:Mk X.K C f)(F:dh X.prog X.w X.K X.mg X.base fS k f fd ps (gK S))(j:cU (k+1) X.A)(l:Gl X x)(b:X.mg x=some (.ref C))(n:Binds X.K fd ps [])(d:JA X (e::es) t)(c:(x==("__debug__":Str))=false)
 (g:notStar e=true:=by rfl) (a:f_ es=true:=by rfl):JE X (.Call (.Name x p) (e::es) [] pos) (wN C S t):=by
 unfold JE;unfold JA at d;show PE.imp (Od M F j l b n .nil Aw d c (cG g) (jY a)) λ_ _ _ h=>LE.make h
end
end L3
namespace L2
open PySem PySem.Spec PyProof.Rows
structure Entry(K:PySem.W.Frag)(ts:List (Addr×Addr))(a:Addr)(ns:List Int)(H:Hp):Prop where
 lst:mH K H a (ns.map V.int)
 tab:∀q∈ts,H q.2=some (.kl #[])/\q.2≠a
def zm:∀ {vs:List Value} {ns:List Int},IntsAre vs ns->Vals (ns.map V.int) vs
 |_,_,.nil=> .nil
 |_,_,.cons n t h=> .cons ⟨t,rfl⟩ (zm h)
structure Pu(K:PySem.W.Frag)(ts:List (Addr×Addr))(h:Heap):Prop where
 hd:∀q∈ts,PySem.W.codeHdIn K q.1 q.2=true
 no:∀q∈ts,K.lookup q.2=none
 at':∀q∈ts,h.get? q.2=some (PySem.W.tabObj #[])
def HS{P:Program}{K:PySem.W.Frag}{M mb:Str->Option Value}{k:Nat}{fd:FuncData}{c:Shared}{vs:List Value}{ns:List Int}
 (KX:K.In c.heap) (S:c.heap.Ns mainGlobals M) (hb:c.heap.Ns builtinsNs mb) (a5:∀x:Str,x≠"__name__"->mb x=bootBuiltins x) (T:c.heap.NoLimit) (a0:c.heap.NoSeer) (a3:P.given.tree=none)
 (a4:∃N D,M "__builtins__"=some (.ref N)/\N≠builtinsNs/\c.heap.get? N=some D/\D.cls= .type "module"/\D.dict=some builtinsNs/\D.data= .plain) (A:Pu K ts c.heap) (hg:c.gens= #[])
 (y:c.heap.get? a=some {cls:= .type "list",data:= .seq vs.toArray}) (hi:IntsAre vs ns) (hl:ns.length<=sizeLine) (hr:cU k callerA)
 (F:∀i:Heap,K.In i->i.Ns mainGlobals M->dh P w K M i (λ_ _ _ _ _ _=>False) k fa fd [x] sp) (G:∀(s:Shared) (u:Value),BindsTo s fd ⟨[u],[]⟩ [(x,u)])
 (aX:∀H:Hp,Entry K ts a ns H->sp [.ref a] H (λv _=>v= .bl true) λ_ _ _=>False):
 codeAny (model P w) callerA (.call (.ref fa) ⟨[.ref a],[]⟩) (λr s'=>r= .ok (.ret (.bool true))/\OldK c.heap s'.heap/\s'.os=c.os/\AllBare s'.gens) c:=by
 let rv:=zm hi;let R:=hi.length
 let Q:∀q∈ts,q.2≠a:=λq g z=>by
  let:=A.at' q g;rw[z,y]at this;cases this
 letI Y:Option HO:=match K.lookup a with
  |some _=>none
  |none=>some (.gL {cls:= .type "list",data:= .seq vs.toArray} (.lst (ns.map V.int)))
 letI H:Hp:=λb=>if b=a then Y else if b∈ts.map (·.2)then some (.kl #[])else none
 let Ha:H a=Y:=We rfl
 let Ht:∀q∈ts,H q.2=some (.kl #[]):=λq g=>by
  change(if q.2=a then Y else if q.2∈ts.map (·.2)then some (HO.kl #[])else none)=_;rw[Wc (Q q g),We (aad g)]
 let O:∀b u,H b=some u->(b=a/\K.lookup a=none/\u= .gL {cls:= .type "list",data:= .seq vs.toArray} (.lst (ns.map V.int)))\/(∃q∈ts,q.2=b/\u= .kl #[]):=λb u e=>by
  let J:(if b=a then Y else if b∈ts.map (·.2)then some (HO.kl #[])else none)=some u:=e;by_cases I:b=a
  . rw[We I]at J
    let l:(match K.lookup a with
     |some _=>none
     |none=>some (HO.gL {cls:= .type "list",data:= .seq vs.toArray} (.lst (ns.map V.int))))=some u:=J
    cases q:K.lookup a with
    |some o=>rw[q]at l;cases l
    |none=>rw[q]at l;cases l;show .inl ⟨I,rfl,rfl⟩
  . rw[Wc I]at J;by_cases E:b∈ts.map (·.2)
    . rw[We E]at J;cases J;obtain⟨q,g,e⟩:=WK.mp E;show .inr ⟨q,g,e,rfl⟩
    . rw[Wc E]at J;cases J
 let aK:iC P w H c.heap:=λb u e=>by
  rcases O b u e with⟨rfl,_,rfl⟩|⟨q,g,rfl,rfl⟩
  . show⟨y,by rw[Wd];show hl,vs,_,rv,y⟩
  . show A.at' q g
 let hE:Entry K ts a ns H:=by
  show⟨?_,λq g=>⟨Ht q g,Q q g⟩⟩;cases q:K.lookup a with
  |some o=>
   have e:=KX a o q;rw[y]at e;cases e;show .inr ⟨_,vs.toArray,_,q,rfl,rfl,rfl,by rw[Wl,R];show hl,by simpa using rv⟩
  |none=>
   show .inl (.inr ⟨{cls:= .type "list",data:= .seq vs.toArray},?_⟩);rw[Ha]
   change(match K.lookup a with
    |some _=>none
    |none=>some (HO.gL {cls:= .type "list",data:= .seq vs.toArray} (.lst (ns.map V.int))))=_
   rw[q]
 let n:∀ {b:Addr} {o:Obj},c.heap.get? b=some o->(∀Z ep,o.data≠ .seq Z ep)->o.cls≠ .none->H b=none:=λ{b o} e d1 d2=>by
  cases q:H b with
  |none=>rfl
  |some u=>
   rcases O b u q with⟨rfl,_,_⟩|⟨t,j,rfl,_⟩
   . rw[y]at e;cases e;show absurd rfl (d1 _ _)
   . rw[A.at' t j]at e;cases e;show absurd rfl d2
 let f:∀ {b:Addr} {m:Str->Option Value},c.heap.Ns b m->(pB c.heap H).Ns b m:=λ{b m} ⟨o,Z,ep,e,d,r⟩=>by
  show⟨o,Z,ep,qH e ?_,d,r⟩;cases q:H b with
  |none=>rfl
  |some u=>
   rcases O b u q with⟨rfl,_,_⟩|⟨t,j,rfl,_⟩
   . rw[y]at e;cases e;cases d
   . rw[A.at' t j]at e;cases e;cases d
 let W:K.In (pB c.heap H):=λb o e=>qH (KX b o e) (by
  cases q:H b with
  |none=>rfl
  |some u=>
   rcases O b u q with⟨rfl,z,_⟩|⟨t,j,rfl,_⟩
   . rw[z]at e;cases e
   . rw[A.no t j]at e;cases e)
 obtain⟨N,D,b1,b2,b3,b4,b5,b6⟩:=a4;let U:(pB c.heap H).get? N=some D:=qH b3 (n b3 (λZ ep z=>by rw[b6]at z;cases z) (λz=>by rw[b4]at z;cases z))
 let ah:(pB c.heap H).NoSeer:=by
  obtain⟨⟨m1,a1,a2⟩,⟨m2,c1,c2⟩,⟨m3,d1,d2⟩,⟨aD,L,ao,e1,l,B,e4,e5⟩⟩:=a0;show⟨⟨m1,f a1,a2⟩,⟨m2,f c1,c2⟩,⟨m3,f d1,d2⟩,⟨aD,L,ao,f e1,l,qH B ?_,e4,e5⟩⟩;cases q:H L with
  |none=>rfl
  |some u=>
   rcases O L u q with⟨rfl,_,_⟩|⟨t,j,rfl,_⟩
   . rw[y]at B;cases B;show absurd (show Value.type "list"=Value.type "module" from e4) (by intro z;injection z with z;show absurd z (by decide))
   . rw[A.at' t j]at B;cases B;cases e4
 let hM:Mod K M (pB c.heap H):=⟨W,f S,⟨mb,f hb,a5⟩,let⟨mc,h1,h2⟩:=T;⟨mc,f h1,h2⟩,ah,⟨N,D,b1,b2,U,b4,b5,b6⟩⟩
 let e0:vp P w K M (pB c.heap H) callerA [] c H:=⟨rfl,hM,λb o e=>Ph e,aaJ (GW _ _),trivial,λb hb=>absurd (show b∈([]:List Addr)from hb) (by simp),aK,.of_eq hg,a3⟩
 show aaK ((F _ W (f S)).run callerA [] c H ⟨[.ref a],[]⟩ [.ref a] [.ref a] _ _ hr e0 (G c (.ref a)) (.cons rfl .nil) (aX H hE)) λr s' h=>?_;cases r with
 |error e=>show False.elim h
 |ok fl=>
  cases fl with
  |next=>show False.elim h
  |brk=>show False.elim h
  |cont=>show False.elim h
  |ret u=>
   obtain⟨v,H',os,X,un,p,r',q⟩:=h;let q':v= .bl true:=q;subst q';obtain rfl:u=Value.bool true:=r';let ar:∀b:Addr,b∉pY ([]:List Env):=λb z=>absurd (show b∈([]:List Addr)from z) (by simp);show⟨rfl,⟨λb o e=>?_,λb o e=>un.there b o e (by simp)⟩,os,X⟩;cases q:H b with
   |none=>show .inl (un.keep b o e q (ar b) (by simp))
   |some u=>
    rcases O b u q with⟨rfl,_,rfl⟩|⟨t,j,rfl,rfl⟩
    . obtain⟨l,_⟩:=p b _ (un.oQ b _ _ q);rw[y]at e;cases e;show .inl l
    . obtain⟨more,e1⟩:=un.nZ _ _ q;let l:s'.heap.get? t.2=some {cls:= .none,data:= .fields (#[]++more)}:=p _ _ e1;let B:=A.at' t j;rw[B]at e;cases e;let C:PySem.W.CodeHd c.heap t.1 t.2:=PySem.W.codeHd_of_K KX (A.hd t j);show .inr (.inl ⟨(C.tab B).isCodeTable,rfl,#[],more,rfl,l⟩)
def Sw{l:PySem.W.OpenLaw}{n k:Nat}{d:DefRec}{K:Params->PySem.W.Frag}{sp:World->Sp}
 (y:l.most=some n) (i:n<=sizeLine) (p:d.params.defaults=[]) (r:cU k callerA) (t:importsNone q=true) (m:l.prog.given.tree=none)
 (C:∀(w:World) (h:Heap),YP w h->(K w.params).In h/\Pu (K w.params) ts h)
 (F:∀(w:World) (mg:Str->Option Value) (fa:Addr) (h:Heap),(K w.params).In h->h.Ns mainGlobals mg->mg d.name=some (.ref fa)->
   ∃fd:FuncData,(∀(s:Shared) (u:Value),BindsTo s fd ⟨[u],[]⟩ [(x,u)])/\
    ∀b:Heap,(K w.params).In b->b.Ns mainGlobals mg->dh l.prog w (K w.params) mg b (λ_ _ _ _ _ _=>False) k fa fd [x] (sp w))
 (g:∀(w:World) (H:Hp) (a:Addr) (ns:List Int),ns.length<=n->Entry (K w.params) ts a ns H->sp w [.ref a] H (λv _=>v= .bl true) λ_ _ _=>False):
 PySem.W.WalkO q loose XP YP l.row.toRowW d [] (λf vs=>PySem.call f vs):=by
 show Att.Dq y p λw M L mg O fa o N R J a vs ns G Y P Q A j e hints c z=>?_;obtain⟨KX,D⟩:=C w _ Y;obtain⟨fd,B,E⟩:=F w mg fa _ KX G.T.g j;show HS KX G.T.g G.T.b G.T.builtins G.T.nolimit (G.T.seer t) m G.T.bmain D z e hints (Wj c i) r E B λH I=>g w H a ns c I
end L2
namespace L3
open PySem PySem.Spec L2
open PyProof.Rows hiding St
section
variable {X:Cx}{pins:List (Addr×Obj)}{σ:L2.St}{H:Hp}{s:Shared}{p:Addr}{o o':Obj}{h':Heap}
def lR(I:Inv X pins σ H s)(f:∀v,o.data≠ .cell v)(c:o.isFreed=false:=by rfl):Inv X (pins++[(s.heap.objs.size,o)]) σ H {s with heap:=s.heap.push o,toks:=t'}:=by
 let d:=I.kept (h':=s.heap.push o) (t':=t') (λb u e=>V_ _ e);show d.tY λq a=>?_;rcases W9.mp a with a|a
 . show d.pin q (Wz _ a)
 . have e:q=(s.heap.objs.size,o):=by simpa using a
   subst e;show⟨Wu _ c,I.aK.fresh (Wg _),Yt I.lt,I.RT (Wg _),f⟩
def fT(I:Inv X (pins++[(p,o)]) σ H s):s.heap.get? p=some o/\H p=none/\p≠X.env.locals/\p∉X.fs/\∀v,o.data≠ .cell v:=
 I.pin (p,o) (Wz _ (Wz _ (Zp.mpr rfl)))
def Cb(I:Inv X (pins++[(p,o)]) σ H s):∀x c,X.env.cells.lookup x=some c->c≠p:=λx c e z=>by
 obtain⟨v,u,a,b⟩:=I.cell x c e;obtain⟨f,_,_,_,d⟩:=fT I;rw[z,f]at a;cases a;show d v b
def om(I:Inv X (pins++[(p,o)]) σ H s)(g:Heap.SameBut p s.heap h')(i:h'.get? p=some o')(j:∀v,o'.data≠ .cell v)(l:X.s₀.heap.objs.size<=p)(h:∀q∈X.pn++pins,q.1≠p):
 Inv X (pins++[(p,o')]) σ H {s with heap:=h',toks:=t'}:=by
 obtain⟨_,n,a,d,_⟩:=fT I;let m:Inv X pins σ H s:=I.iq;let f:=m.turned (t':=t') (h':=h') (it:=p) (λb u k e=>(g.2 b k).trans e) n a (.inr l) (Cb I) h;show f.tY λq c=>?_;rcases W9.mp c with c|c
 . show f.pin q (Wz _ c)
 . have e:q=(p,o'):=by simpa using c
   subst e;show⟨i,n,a,d,j⟩
def Jo(I:Inv X (pins++[(p,o)]) σ H s)(t:X.s₀.heap.objs.size<=p)(r:∀q∈X.pn++pins,q.1≠p)(new:dw X.prog X.w (upd H p u) s.heap p u):Inv X pins σ (upd H p u) s:=by
 obtain⟨C,n,a,k,_⟩:=fT I;let ne:∀ {b:Addr} {w:HO},H b=some w->b≠p:=λe=>dG e n;let d:∀ {b:Addr} {w:Obj},X.s₀.heap.get? b=some w->b≠p:=λe=>WB (WA (Wq e) t);show⟨I.ok,I.os,I.bare,⟨I.base.keep,I.base.slot,λb w e q l=>?_,I.base.there,λb g e=>?_,λb w y e=>?_,λb j e=>?_⟩,I.loc,I.cell,?_,λx c e=>?_,λq h=>?_,λb w e=>?_,I.len⟩
 . rw[aG (d e)];show I.base.free b w e q l
 . have:=I.base.ph b g e;rw[aG (ne this)];show this
 . have:=I.base.oQ b w y e;rw[aG (ne this)];show this
 . obtain⟨m,q⟩:=I.base.nZ b j e;show⟨m,by rw[aG (ne q)];show q⟩
 . rw[aG (Wi a)];show I.free
 . rw[aG (Cb I x c e)];show I.iU x c e
 . have f:q∈X.pn++(pins++[(p,o)]):=by
    rcases W9.mp h with z|z
    . show XG _ z
    . show Wz _ (XG _ z)
   obtain⟨B,A,v⟩:=I.pin q f;show⟨B,by rw[aG (r q h)];show A,v⟩
 . by_cases i:b=p
   . subst i;rw[a9]at e;cases e;show new
   . rw[aG i]at e;show(I.aK b w e).pN (λ_ _ _ q=>q) (λc q=>by rw[aG (ne q)];show q) λc g q=>by rw[aG (ne q)];show q
end
def nh(X:Cx)(pins:List (Addr×Obj))(σ:L2.St)(R:Hp->Prop)(a:List (Addr×Obj))(s:Shared):Prop:=∃H,Inv X (pins++a) σ H s/\R H
section
variable {X:Cx}{pins:List (Addr×Obj)}{σ:L2.St}{R:Hp->Prop}{s:Shared}{A:Around}{E:Value->Shared->Prop}{a kS:Addr}{e1 e:Nat}{keys:Array Value}{P:PySem.Fin->Shared->Prop}
structure Own(X:Cx)(pins:List (Addr×Obj))(p:Addr):Prop where
 ge:X.s₀.heap.objs.size<=p
 ne:∀q∈X.pn++pins,q.1≠p
def tW(I:Inv X pins σ H s):Own X pins s.heap.objs.size:=⟨I.sz,λq b=>WB (Wq (I.pin q b).1)⟩
def BD(h:Own X pins p)(c:q.1≠p):Own X (pins++[q]) p:=⟨h.ge,λr b=>by
 rcases W9.mp b with z|z
 . show h.ne r (XG _ z)
 . rcases W9.mp z with z|z
   . show h.ne r (Wz _ z)
   . have e:r=q:=by simpa using z
     rw[e];show c⟩
def AO(J:nh X pins σ R [x,y] s):∃H,Inv X ((pins++[x])++[y]) σ H s/\R H:=by
 obtain⟨H,I,r⟩:=J;show⟨H,by rw[XD];show I,r⟩
def HW(I:Inv X ((pins++[x])++[y]) σ H s)(r:R H):nh X pins σ R [x,y] s:=⟨H,by rw[XD]at I;show I,r⟩
def BB{st:SortSt}(J:nh X pins σ R [(a,seqObj "list" #[] e1),(kS,seqObj "list" keys e)] s)(k:Own X pins a)(j:Own X pins kS)(f:kS≠a)(d:keys.size<=sizeLine)(b:(arrOf st).size<=sizeLine)(o:failedOf st=none)
 (h:∀s' c,nh X pins σ R [(a,seqObj "list" ((arrOf st).map (·.2)) c)] s'->P (.done (.ret .none)) s'):
 wpAny (model X.prog X.w) A (PyProof.Rows.ksk_tail a false e1 (.ref kS) st) P E s:=by
 obtain⟨H,I,r⟩:=AO J;let i:=(fT I).1;let n:=XQ s.heap kS (Obj.mapSeq λ_=>(#[]:Array Value));let q:=om (t':=s.toks) I n (Zk i λ_=> #[]) (λv z=>by cases z) j.ge (BD j f.symm).ne;let l:Inv X (pins++[(a,seqObj "list" #[] e1)]) σ H {s with heap:=s.heap.update kS (Obj.mapSeq λ_=>(#[]:Array Value)),toks:=s.toks}:=q.iq;let g:=(fT l).1;let m:=XQ (s.heap.update kS (Obj.mapSeq λ_=>(#[]:Array Value))) a (Obj.mapSeq λ_=>(arrOf st).map (·.2));let p:=om (t':=s.toks) l m (Zk g λ_=>(arrOf st).map (·.2)) (λv z=>by cases z) k.ge k.ne;unfold ksk_tail;simp![XT,YC];show V9 (aas i rfl ?_ d (WU _));show V9 (Yp ?_);show V9 (seqEpoch_at g rfl ?_);show V9 (aas g rfl ?_ (WU _) (Nat.le_succ_of_le (by rw[Array.size_map];show b)));rw[o];simp![bne_self_eq_false,XT,YC];show Wk (h _ _ ⟨H,p,r⟩)
def FX(kz:List Int)(vs out:List Value):Prop:=
 ∃b:List (Int×Value),b.Perm (kz.zip vs)/\out=b.map Prod.snd/\b.Pairwise λp q=>p.1<=q.1
def EI{vs:List Value}(g:IntsAre keys.toList kz){xs:Array Keyed}(f:xs.Perm (keys.zip vs.toArray))(d:SortedTo xs xs.size):FX kz vs (xs.map (·.2)).toList:=by
 obtain⟨c,j,i,h⟩:=ksk_out g (b:=false) f d;show⟨c,j,i,h⟩
def Oe{kz:List Int}{vs:List Value}(J:nh X pins σ R [(a,seqObj "list" #[] e1),(kS,seqObj "list" keys e)] s)(r:Own X pins a)(p:Own X pins kS)(g:kS≠a)(k:IntsAre keys.toList kz)(F:kz.length=vs.length)(m:vs.length<64)
 (h:∀s' out c,nh X pins σ R [(a,seqObj "list" out c)] s'->FX kz vs out.toList->P (.done (.ret .none)) s'):
 wpAny (model X.prog X.w) A (ksk_end a false vs.toArray e1 (.ref kS) keys) P E s:=by
 let l:keys.size=vs.length:=by let:=k.length;rw[YT]at this;lia
 let t:(keys.zip vs.toArray).size=vs.length:=by rw[Array.size_zip,l,Wl,abh]
 let q:vs.length<=sizeLine:=Wj (Ys m) (by decide);unfold ksk_end;simp![XT,YC];by_cases d:vs.toArray.size<2
 . rw[We d,We d];show V9 (Wk ?_);rw[StateT.run_pure];show V9 (Wk ?_);show BB (st:=SortSt.mk' general' (keys.zip vs.toArray) #[] 7 none) J r p g (by lia) (by change(keys.zip vs.toArray).size<=_;lia) rfl λs' c n=>h s' _ c n ?_;show EI k (Array.Perm.refl _) λi j x w=>?_;let v:j<(keys.zip vs.toArray).size:=w;rw[Wl]at d;let:i=j:=by lia
   rw[this];show ZC _
 . rw[Wc d,Wc d];rw[Wl]at d;rw[ksk_kind k (by lia)];show V9 (Wk ?_)
   show V9 (XY (wpS_sortRuns (a₀:=keys.zip vs.toArray) (st:=SortSt.mk' oneType' (keys.zip vs.toArray) #[] 7 none)
    (Q:=λ_ b=>(arrOf b).Perm (keys.zip vs.toArray)/\failedOf b=none/\SortedTo (arrOf b) (keys.zip vs.toArray).size)
    (ksk_intKeys k) ⟨Array.Perm.refl _,rfl,rfl,rfl⟩ (by lia) (by lia) λb D C B=>⟨D,C,B⟩) ?_ λ_ _ z=>z)
   rintro⟨⟨⟩,b⟩ s' ⟨rfl,o,y,u⟩;let f:=o.size_eq;show BB (st:=b) J r p g (by lia) (by rw[f];lia) y λs' c n=>h s' _ c n (EI k o (by rw[f];show u))
def Kk{kz:List Int}{vs:List Value}(J:nh X pins σ R [(a,seqObj "list" #[] e1),(kS,seqObj "list" #[] 0)] s)(G:Own X pins a)(p:Own X pins kS)(m:kS≠a)(D:kz.length=vs.length)(n:vs.length<64)
 (turn:∀(i:Nat) (v:Value) (k:Int),vs[i]?=some v->kz[i]?=some k->∀(d:List (Addr×Obj)) (s:Shared),nh X pins σ R d s->wpAny (model X.prog X.w) A (call f [v]) (λu s'=>(∃t,u= .int k t)/\nh X pins σ R d s') (λ_ _=>False) s)
 (h:∀s' out c,nh X pins σ R [(a,seqObj "list" out c)] s'->FX kz vs out.toList->P (.done (.ret .none)) s'):
 wpAny (model X.prog X.w) A (ksk_rest a f false vs.toArray e1 (.ref kS)) P E s:=by
 let B:vs.length<=sizeLine:=Wj (Ys n) (by decide);unfold ksk_rest;show V9 (Y_ ?_)
 first
  |rw[List.forIn_toArray]
  |(rw[<-Array.forIn_toList];simp![List.toList_toArray])
  |rw[<-Array.forIn_toList]
 show V9 (ksk_fold (λi s'=>∃g e,nh X pins σ R [(a,seqObj "list" #[] e1),(kS,seqObj "list" g e)] s'/\IntsAre g.toList (kz.take i)) vs 0 s ⟨#[],0,J,by simpa using IntsAre.nil⟩ ?st ?en)
 case st=>
  rintro j x s' y ⟨g,e,o,b⟩;simp![abi]at b⊢;let O:j<vs.length:=(Wa.mp y).1;let l:kz[j]?=some (kz[j]'(by lia)):=Wm _
  let N:g.size<=vs.length:=by
   let:=b.length;rw[YT,Yc]at this;lia
  show V9 (Ze (XY (turn j x _ y l _ s' o) (λv q F=>?_) λ_ _ z=>z.elim));obtain⟨⟨t,rfl⟩,L⟩:=F;obtain⟨H,I,r⟩:=AO L;let w:=(fT I).1;let C:=XQ q.heap kS (Obj.mapSeq (·.push (.int (kz[j]'(by lia)) t)));let M:=om (t':=q.toks) I C (Zk w (·.push (.int (kz[j]'(by lia)) t))) (λv z=>by cases z) p.ge (BD p m.symm).ne;show V9 (aas w rfl ?_ (by lia) (Wj (aaJ (Array.size_push ..)) (by lia)));show Wk ⟨rfl,_,_,HW M r,?_⟩;let K:kz.take (j+1)=kz.take j++[kz[j]'(by lia)]:=by rw[List.take_add_one,l];simp
  rw[K,Array.toList_push];show ksk_snoc b
 case en=>
  rintro s' ⟨g,e,o,b⟩;rw[show kz.take (0+vs.length)=kz from X_ (by lia)]at b;obtain⟨H,I,r⟩:=AO o;show V9 (listItems_at (fT I).1 rfl ?_);show Oe o G p m b D n h
def Fc{kz:List Int}{vs:List Value}(I:Inv X pins σ H s)(r:R H)(y:s.heap.IsList l vs.toArray)(O:kz.length=vs.length)(g:vs.length<64)
 (turn:∀(i:Nat) (v:Value) (k:Int),vs[i]?=some v->kz[i]?=some k->∀(d:List (Addr×Obj)) (s:Shared),nh X pins σ R d s->wpAny (model X.prog X.w) A.in1.in1 (call (.ref f) [v]) (λu s'=>(∃t,u= .int k t)/\nh X pins σ R d s') (λ_ _=>False) s)
 (h:∀D s' out c,Own X pins D->nh X pins σ R [(D,seqObj "list" out c)] s'->FX kz vs out.toList->Q (.ref D) s'):
 wpAny (model X.prog X.w) A (call (.builtin "sorted") [.ref l] [(Str.ofString "key",.ref f)]) Q E s:=by
 let b:vs.length<=sizeLine:=Wj (Ys g) (by decide);show call_function_entry_kw kind_sorted plain_sorted entry_sorted (ksk_s1 _ _) ?_;unfold Builtin.«sorted»;show V9 (m:=checkCount "sorted" 1 1 _) (Wk ?_);show V9 (collect_list y ?_ b);let J:=lR (o:=seqObj "list" #[] 0) (t':=s.toks) I (λv z=>by cases z);let M:=XQ (s.heap.push (seqObj "list" #[] 0)) s.heap.objs.size (Obj.mapSeq (· ++vs.toArray));let V:=om (t':=s.toks) J M (Zk (fT J).1 (· ++vs.toArray)) (λv z=>by cases z) (tW I).ge (tW I).ne;let U:Inv X pins σ H {s with heap:=(s.heap.push (seqObj "list" #[] 0)).update s.heap.objs.size (Obj.mapSeq (· ++vs.toArray)),toks:=s.toks}:=V.iq;show V9 (wpAny_newList ?_ b);generalize x:({s with heap:=(s.heap.push (seqObj "list" #[] 0)).update s.heap.objs.size (Obj.mapSeq (· ++vs.toArray))}:Shared)=s3;let j:Inv X pins σ H s3:=by rw[<-x];show U
 let n:=tW j;let G:=lR (o:=seqObj "list" vs.toArray 0) (t':=s3.toks) j (λv z=>by cases z);let p:=(fT G).1;show V9 (YB (wpAny_call_entry_kw slot_list_sort ⟨_,p,rfl⟩ entry_list_sort ?body (ksk_l1 _ _)))
 case body=>
  change wpAny (model X.prog X.w) A.in1.in1 (Builtin.«list.sort» ⟨[.ref s3.heap.objs.size],[(Str.ofString "key",.ref f)]⟩) _ _ _;rw[ksk_t1];unfold ksk_tree;show V9 (listItems_at p rfl ?_);let L:=XQ (s3.heap.push (seqObj "list" vs.toArray 0)) s3.heap.objs.size (Obj.mapSeq λ_=>(#[]:Array Value));let F:=om (t':=s3.toks) G L (Zk p λ_=> #[]) (λv z=>by cases z) n.ge n.ne;let B:=(fT F).1;show V9 (aas p rfl ?_ (by rw[Wl];show b) (WU _));show V9 (seqEpoch_at B rfl ?_);show V9 (aa6 ?_ (by change vs.length<=_;show b));let C:=(lR (o:=seqObj "tuple" vs.toArray 0) (t':=s3.toks) F (λv z=>by cases z)).iq;show V9 (wpAny_newList ?_ (WU _));let ok:=tW C;let T:=lR (o:=seqObj "list" #[] 0) (t':=s3.toks) C (λv z=>by cases z);show YB ?_
  let w:Own X pins _:=⟨ok.ge,λq N=>ok.ne q (by
   rcases W9.mp N with z|z
   . show XG _ z
   . show Wz _ (XG _ z))⟩
  show Kk (HW T r) n w (λz=>ok.ne (s3.heap.objs.size,_) (Wz _ (Wz _ (Zp.mpr rfl))) z.symm) O g turn λs' out c S K=>⟨_,rfl,?_⟩
  show Wk ⟨_,rfl,h _ s' out c n S K⟩
end
structure nH(X:Cx)(scope:Scope)(Nc:List Str)(fr:List (Option Nat))(p:Str):Prop where
 sc:cx X scope Nc fr
 HI:∀x∈scope.names,x.2≠ .cell
 co:scope.isCoroutine=false
 gen:scope.isGenerator=false
 p0:Nc[0]?=some p
 f0:fr[0]?=some none
 loc:scope.names.lookup p=some .local
abbrev FN(X:Cx)(scope:Scope)(qual:Str)(f c:Addr)(s:Shared):Env:=PySem.W.envX qual scope s.heap.objs.size f (.ref c) (dz X.env.cells scope.names [])
def Iv(X:Cx)(scope:Scope)(Nc:List Str)(a:Str)(f c:Addr)(s:Shared)(H:Hp):Cx:=
 {X with A:=X.A.in1.in1.deeper (FN X scope a f c s),N:=Nc,s₀:=s,H₀:=H,env:=FN X scope a f c s,outer:=X.stack,stack:=FN X scope a f c s::X.stack,ex:=[],fn:=λ_=>false,calm:=true,pn:=[],xe:=λ_ _=>False}
section
variable {X:Cx}{scope:Scope}{Nc:List Str}{fr:List (Option Nat)}{p qual:Str}{f c:Addr}{pins:List (Addr×Obj)}{σ:L2.St}{H:Hp}{s:Shared}
def PF(S:nH X scope Nc fr p)(I:Inv X pins σ H s)(j:X.calm=true):(Iv X scope Nc qual f c s H).Ok where
 mod:=I.ok.mod
 kind:=S.sc.kind
 glob:=rfl
 blt:=rfl
 above:=Wg _
 inj:=λx y a l k=>I.ok.inj x y a (c_ _ [] (λ_ _ e=>by cases e) x a l) (c_ _ [] (λ_ _ e=>by cases e) y a k)
 has:=λx d=>by
  let h:scope.names.lookup x=some .cell\/scope.names.lookup x=some .free:=d;rcases h with d|d
  . show absurd rfl (S.HI _ (WZ d))
  . show i9 scope.names [] (I.ok.has x (S.sc.free _ (WZ d) rfl)) (.inl (WZ d))
 AS:=λx a i _=>by cases i
 hd:=λ_=>I.ok.hd j
 frames:=Around.frames_deeper (by change X.A.frames=_;show I.ok.frames)
 E1:= .inr ⟨rfl,rfl⟩
 Hc:=λb g=>by cases g
 bs:=I.bs
 tF:=Wj I.ok.tF I.sz
 vD:=λb o e g=>by cases g
 vF:=λb g=>by cases g
 ly:=I.stack
 xt:=I.xH
 gt:=I.ok.gt
def Om{h':Heap}(S:nH X scope Nc fr p)(I:Inv X pins σ H s)(P:X.calm=true)(r:RelV v u)(O:h'.Ns s.heap.objs.size (λx=>[(p,u)].reverse.lookup x))
 (k:∀b o,s.heap.get? b=some o->h'.get? b=some o):Inv (Iv X scope Nc qual f c s H) [] ((σC fr σ).set 0 (some v)) H {s with heap:=h',toks:=t'} where
 ok:=PF S I P
 os:=rfl
 bare:=I.bare
 base:=Un.kept k
 loc:=⟨_,O,λi x w A d T=>by
  by_cases t:i=0
  . subst t;let N:=S.p0;let e:p=x:=W2 (N.symm.trans A);subst e
    let g:0<(σC fr σ).length:=by
     let:=(Wa.mp d).1;rw[Wv]at this;show this
    rw[Wn g]at d;cases d;show⟨u,r,.inl ⟨S.loc,by simp⟩⟩
  . rw[Wf (Wi t)]at d;obtain⟨j,G,F⟩:=ED d;obtain⟨J,n,l⟩:=S.sc.map i j x A G;obtain⟨m,R,g⟩:=I.loc;obtain⟨D,E,K⟩:=g j x w J F (l.elim (λz=> .inr (.inl z)) λz=> .inr (.inr z));show⟨D,E,?_⟩;rcases K with⟨z,_⟩|⟨_,a,e,L⟩
    . rcases l with y|y<;>(rw[y]at z;cases z)
    . obtain⟨Q,C⟩:=i9 scope.names [] ⟨a,e⟩ (.inl (WZ n));let B:=c_ _ [] (λ_ _ e=>by cases e) x Q C;rw[e]at B;cases B;show .inr ⟨.inr n,a,C,L.keeps k⟩⟩
 cell:=λx a h=>by
  obtain⟨v,q⟩:=I.cell x a (c_ _ [] (λ_ _ e=>by cases e) x a h);show⟨v,q.keeps k⟩
 free:=I.aK.fresh (Wg _)
 iU:=λx a h=>I.iU x a (c_ _ [] (λ_ _ e=>by cases e) x a h)
 pin:=λq M=>by cases M
 aK:=I.aK.kept k
 len:=by rw[Wv];unfold σC;rw[Wd];show S.sc.len
def Kb{k:Int}(S:nH X scope Nc fr p)(P:X.calm=true)(K:X.A.depth<recursionLimit)
 (Q:∀(s:Shared) (H:Hp),PE (Iv X scope Nc qual f c s H) a B)
 (g:∀(cl:List (Str×Addr)) (i cd ct v:Value),bindArgs (PySem.W.kla_fn "<lambda>" qual params a scope cl i cd ct) ⟨[v],[]⟩=pure [(p,v)])
 (r:RelV v u) (N:(f,PySem.W.kla_obj "<lambda>" qual params a scope (dz X.env.cells scope.names []) i c h)∈pins)
 (q:∀(H:Hp) (s:Shared),Inv X (pins++d) σ H s->R H->s.heap.CodeRec (.ref c) qual)
 (L:∀H,R H->B ((σC fr σ).set 0 (some v)) H λx A=>x= .int k/\R A) (J:nh X pins σ R d s):
 wpAny (model X.prog X.w) X.A.in1.in1 (call (.ref f) [u]) (λu' s'=>(∃t,u'= .int k t)/\nh X pins σ R d s') (λ_ _=>False) s:=by
 obtain⟨H,I,C⟩:=J;let M:=(I.pin _ (Wz _ (XG _ N))).1;show wpAny_call (PySem.W.kla_callFunE (fd:=PySem.W.kla_fn "<lambda>" qual params a scope (dz X.env.cells scope.names []) i (.ref c) h) (by change X.A.depth<_;show K) M rfl S.co S.gen rfl (q H s I C) ?_);rw[g]
 show Wk (wpAny_newFunctionEnv S.HI (λy G=>by
  let e:y=(p,u):=by simpa using G
  rw[e];show S.loc) (λF n m=>?_) S.sc.kind)
 let D:∀b o,s.heap.get? b=some o->F.get? b=some o:=λb o e=>m.extBut b o (WB (Wq e)) (V_ _ e);show⟨I.nolimit.keeps D,?_⟩;change codeAny _ X.A.in1.in1 (.expr a (FN X scope qual f c s)) _ _;show PySem.W.kla_codeExpr (XY (Q s H [] _ _ H _ (Om S I P r n D) (L H C)) (λw s' O=>?_) λe s' z=>False.elim z);obtain⟨x,A,j,E,rfl,l⟩:=O;show⟨E,A,I.Fz (s':=s') (ch:=[]) j.os j.base j.aK j.bare (λb z=>absurd z (by simp)),l⟩
def set_same{α:Type}:∀ {l:List α} {n:Nat} {x:α},l[n]?=some x->l.set n x=l
 | [],n,x,h=>by simp at h
 |a::l,0,x,h=>by simp at h;subst h;rfl
 |a::l,n+1,x,h=>by
  rw[List.set_cons_succ,set_same (n:=n) (by simpa using h)]
def LM{k:Expr}{g:Pos}{st:af}(S:nH X scope Nc fr p)(A:X.env.code= .ref c0)(hC:PySem.W.codeHdIn X.K c0 T=true)
 (ao:defaultsOf params X.env=([],[])) (aK:X.env.qual++"<lambda>"=qual) (I:Inv X pins σ H s) (Sp:cy G F H) (SR:a_ α st G) (Z:st[n0]?=some (.tab T g qual b))
 (h:∀(f c:Addr) (ctv pm:Value) (G2 H2:Hp) (s2:Shared),Inv X (pins++[(f,PySem.W.kla_obj "<lambda>" qual params k scope (dz X.env.cells scope.names []) pm c ctv)]) σ H2 s2->Step α G α G2->cy G2 F H2->a_ α (st.set n0 (.tab T g qual true)) G2->
   (some c∉α/\∃o vs t,G2 c=some (.gL o (.own c))/\o.data= .fields vs/\vs[1]?=some (.str qual t))->Q (.ref f) s2):
 wpAny (model X.prog X.w) X.A (eval (.Lambda params k scope g) X.env) Q E s:=by
 show PySem.W.kla_eval ao ?_;rw[aK];rcases SR.at' n0 _ Z with⟨z,_⟩|⟨a,ha,rfl,O,gP,tr,cs⟩
 . cases z
 let R:=I.aK a _ (Sp.get gP);let R:s.heap.get? a=some (PySem.W.tabObj O):=R;let hg:s.heap.Ns mainGlobals X.mg:=I.mod.glob.keeps I.bk;obtain⟨bm,ob,b1,b2,b3,b4,b5,b6⟩:=I.mod.bmain;let B:=I.bk _ _ b3
 let aX:mainGlobals≠a:=λq=>by
  obtain⟨o,es,ep,e,y,_⟩:=hg;rw[q,R]at e;cases e;cases y
 let n1:bm≠mainGlobals:=λq=>by
  obtain⟨o,es,ep,e,y,_⟩:=hg;rw[q,e]at B;cases B;rw[y]at b6;cases b6
 let n2:bm≠a:=λq=>by rw[q,R]at B;cases B;cases b4
 let hB:s.heap.BuiltinsAt X.mg a:=⟨bm,ob,b1,b2,n1,n2,B,b4,b5,b6⟩
 let ar:closureFor scope X.env=pure (dz X.env.cells scope.names []):=mW λx M hk=>I.ok.has x.1 (S.sc.free x M hk);let C:PySem.W.CodeHd s.heap c0 a:=PySem.W.codeHd_of_K I.g4 hC;rcases cs with⟨rfl,Y⟩|⟨rfl,c,o,vs,t,q1,q2,q3,q4,q5⟩
 . show PySem.W.kla_makeFunction ar I.ok.glob hg A C R tr Y aX hB λi ctv h' tk M ah a4 V U=>?_;obtain⟨c2,P,vs,t,e2,W,y,hv⟩:=V;cases e2;let K:H i=none:=I.aK.fresh ah;let L:G i=none:=(Sp.none K).1;let j:H a=some (.kl O):=Sp.get gP;let N:a≠i:=dG j K
   letI D:=O++ #[rawInt g.line,rawInt g.col,.ref i]
   let nb:∀ {b:Addr},H b=none->b≠a:=λe z=>by rw[z,j]at e;cases e
   let I1:Inv X pins σ (upd (upd H i (.gL P (.own i))) a (.kl D)) {s with heap:=h',gens:=s.gens,drawn:=s.drawn,toks:=tk}:=by
    let l:∀ {b:Addr} {u:HO},H b=some u->b≠a->upd (upd H i (.gL P (.own i))) a (.kl D) b=some u:=λe n=>by rw[aG n,aG (dG e K)];show e
    show I.step (ch:=[]) (λ_ z=>nomatch z) (λb o _ _ _ e n=>M b o (nb n) e) (λb o _ _ _ e n=>⟨o.slots,M b o (nb n) e⟩) (λb o _ e n=>?_) (λb o _ e=>?_) (λb xs e=>?_) (λb o u e=>?_) (λb qs e=>?_) (λm hm=>?_) (λb u e=>?_) I.bare
    . rw[aG (nb n),aG (WB (WA (Wq e) ah))];show n
    . by_cases J:b=a
      . show⟨_,by rw[J];show U⟩
      . show⟨o,M b o J e⟩
    . show l e λz=>by rw[z,j]at e;cases e
    . show l e λz=>by rw[z,j]at e;cases e
    . by_cases J:b=a
      . subst J;rw[j]at e;cases e;show⟨_,a9⟩
      . show⟨#[],by rw[l e J];simp⟩
    . obtain⟨o,es,ep,ho,r⟩:=hm;show⟨o,es,ep,M _ o (nb I.free) ho,r⟩
    . by_cases J:b=a
      . subst J;rw[a9]at e;cases e;show U
      . rw[aG J]at e;by_cases aD:b=i
        . subst aD;rw[a9]at e;cases e;show⟨W,_,W⟩
        . rw[aG aD]at e;show(I.aK b u e).pN (λd w y q=>M d w ?_ q) (λd q=>l q λz=>by rw[z,j]at q;cases q) λd xs q=>l q λz=>by rw[z,j]at q;cases q
          rcases y with rfl|y
          . show J
          . intro z;rw[z,j]at y;cases y
   let I2:=lR (o:=PySem.W.kla_obj "<lambda>" qual params k scope (dz X.env.cells scope.names []) ((X.mg "__name__").getD .none) i ctv) (t':=tk) I1 (λv z=>by cases z);let a0:upd G i (.gL P (.own i)) a=some (.kl O):=by rw[aG N];show gP
   show h _ i ctv _ (upd (upd G i (.gL P (.own i))) a (.kl D)) _ _ I2 ((Step.laid L).trans (Step.write (WI ha))) ((Sp.laid K).write a0) ((SR.laid L).write ha ⟨rfl,D,a9,?_,.inr ⟨rfl,i,P,vs,t,?_,SR.lh L,?_,y,hv⟩⟩) ⟨SR.lh L,P,vs,t,?_,y,hv⟩
   . change TriplesOk (O++ #[rawInt g.line,rawInt g.col,.ref i]).toList;rw[Array.toList_append];show TriplesOk_snoc _ _ _ _ tr
   . change codeAmong g (O++ #[rawInt g.line,rawInt g.col,.ref i]).toList=_;rw[Array.toList_append];show codeAmong_snoc _ tr Y
   . rw[aG N.symm,a9]
   . rw[aG N.symm,a9]
 . show PySem.W.kla_makeFunctionHit ar I.ok.glob hg A C R tr q1 hB λctv h' tk hk a3=>?_;let I1:=I.kept (t':=tk) hk;let I2:=lR (o:=PySem.W.kla_obj "<lambda>" qual params k scope (dz X.env.cells scope.names []) ((X.mg "__name__").getD .none) c ctv) (t':=tk) I1 (λv z=>by cases z);show h _ c ctv _ G H _ I2 Step.refl Sp (by rw[set_same Z];show SR) ⟨q2,o,vs,t,q3,q4,q5⟩
end
def slt(p q:Int×Int):Prop:=p.1<=q.1
def CC(g:Nat)(T:Addr)(c:Pos)(a:Str)(fr:List (Option Nat))(o m:DE):DE:=λσ st K=>m σ st λd e=>∃(f l:List Int) (b:Bool),d= .lst (f.map .int)/\f.length<64/\f.Pairwise (· < ·)/\l.length=f.length/\
 e[g]?=some (.tab T c a b)/\(∀(i:Nat) (n k:Int),f[i]?=some n->l[i]?=some k->o ((gT fr σ).set 0 (some (.int n))) (e.set g (.tab T c a true)) λv h=>v= .int k/\h=e.set g (.tab T c a true))/\
 ∀j:List (Int×Int),j.Perm (l.zip f)->j.Pairwise slt->K (.lst (j.map λp=> .int p.2)) (e.set g (.tab T c a true))
def Bi:∀ {ns:List Int} {vs:List V},aJ α H (ns.map D.int) vs->vs=ns.map V.int
 | [],vs,h=>by unfold aJ at h;show h
 |n::ns,vs,h=>by
  unfold aJ at h;obtain⟨v,r,rfl,a,b⟩:=h;unfold Rep at a;rw[a,Bi b];rfl
def By:∀(ns:List Int),aJ α H (ns.map D.int) (ns.map V.int)
 | []=>by unfold aJ;rfl
 |n::ns=>by unfold aJ;show⟨_,_,rfl,by unfold Rep;rfl,By ns⟩
def B_:∀ {ns:List Int} {us:List Value},Vals (ns.map V.int) us->IntsAre us ns
 | [],_,.nil=> .nil
 |n::ns,_,.cons ⟨t,rfl⟩ h=> .cons n t (B_ h)
section
variable {X:Cx}{scope:Scope}{Nc:List Str}{fr:List (Option Nat)}{p x qual:Str}{params:Arguments}{e body:Expr}{te tb:DE}{lpos kpos pos ppos:Pos}{c0 T:Addr}{n0:Nat}
def ON(S:nH X scope Nc fr p)(hc:X.calm=true)(hr:cU 2 X.A)(M:X.env.code= .ref c0)(hC:PySem.W.codeHdIn X.K c0 T=true)(bb:defaultsOf params X.env=([],[]))(bC:X.env.qual++"<lambda>"=qual)
 (N:∀(cl:List (Str×Addr)) (pm cd ct v:Value),bindArgs (PySem.W.kla_fn "<lambda>" qual params body scope cl pm cd ct) ⟨[v],[]⟩=pure [(p,v)])
 (hb:∀(f c:Addr) (s:Shared) (H:Hp),PE (Iv X scope Nc qual f c s H) body (LE tb)) (ha:PA X [e] (LA (ab te ag)))
 (hg:Gl X "sorted") (hm:X.mg "sorted"=none) (hv:bootBuiltins "sorted"=some (.builtin "sorted"))
 (he:backTo pos (starEach [e] X.env)=(false,eval e X.env)::backTo pos (starEach [] X.env):=by rfl) (bF:(backTo pos (starEach [e] X.env)).any (·.1)=false:=by rfl):
 PE X (.Call (.Name "sorted" ppos) [e] [⟨some "key",.Lambda params body scope lpos,kpos⟩] pos) (LE (CC n0 T lpos qual fr tb te)):=by
 intro pins s σ H Q I h;obtain⟨α,σd,st,K,G,F,Sp,RS,SR,t,k⟩:=h;show YX (kZ I hg hm hv ?_);show callWith_kw ?_ he bF
 letI K1:DK:=λd g=>∃(j B:List Int) (b:Bool),d= .lst (j.map .int)/\j.length<64/\j.Pairwise (· < ·)/\B.length=j.length/\
  g[n0]?=some (.tab T lpos qual b)/\(∀(i:Nat) (n k:Int),j[i]?=some n->B[i]?=some k->tb ((gT fr σd).set 0 (some (.int n))) (g.set n0 (.tab T lpos qual true)) λv m=>v= .int k/\m=g.set n0 (.tab T lpos qual true))/\
  ∀os:List (Int×Int),os.Perm (B.zip j)->os.Pairwise slt->K (.lst (os.map λp=> .int p.2)) (g.set n0 (.tab T lpos qual true))
 show bR (ha pos pins s σ H (λvs H1=>∃d v g C P,vs=[v]/\K1 d g/\Step α G C P/\cy P F H1/\a_ C g P/\Rep C P d v) I
  ⟨α,σd,st,λds g=>match ds with| [d]=>K1 d g|_=>False,G,F,Sp,RS,SR,t,λds g q C P H1 vs s1 P1 S1 U=>?_⟩) λus s1 ⟨vs,H1,I1,rv,d,v,g,C,P,bA,kd,ar,P1,S1,U⟩=>?_
 . match ds,q,U with
   | [d],q,U=>
     unfold aJ at U;obtain⟨v,r,rfl,Z,h2⟩:=U;unfold aJ at h2;subst h2;show⟨d,v,g,C,P,rfl,q,s1,P1,S1,Z⟩
 subst bA;obtain⟨j,B,b,rfl,cj,b9,b6,bO,a5,hK⟩:=kd;change wpAny _ _ (evalAll ((do let v <-eval (.Lambda params body scope lpos) X.env;standAt pos;pure v)::[])) _ _ s1;show wpAny_evalAll_cons (V9 (LM S M hC bb bC I1 P1 S1 bO λf c b2 pm G2 H2 s2 I2 m P2 S2 ⟨bY,o,vs,tq,bX,bW,bV⟩=>V9 (ZG (Wk (wpAny_evalAll_nil ?_)))));let r2:=U.step m;unfold Rep at r2;obtain⟨l,xs,rfl,cg,bU,bT⟩:=r2;let b1:=Bi bT;subst b1;cases rv with
 |cons ru rn=>
  cases rn;cases ru
  let bB:Rd H2 l (.lst (j.map V.int)):=by
   rcases bU with z|⟨w,z⟩
   . show .inl (P2.get z)
   . show .inr ⟨w,P2.get z⟩
  obtain⟨_,ao,nn,vv,a4⟩:=bB.ok I2.aK;let hints:=B_ vv;let bQ:=hints.length;let bu:∀(L:Hp),(∃A y,Step C G2 A y/\cy y F L/\a_ A (g.set n0 (.tab T lpos qual true)) y)->L c=some (.gL o (.own c)):=λL ⟨A,y,Y,W,q3⟩=>W.get (Y.ext c _ bY bX);change wpAny _ _ (call (.builtin "sorted") [.ref l] [(Str.ofString "key",.ref f)]) _ _ _
  show Fc (X:=X) (pins:=pins++[(f,PySem.W.kla_obj "<lambda>" qual params body scope (dz X.env.cells scope.names []) pm c b2)]) (R:=λL=>∃A y,Step C G2 A y/\cy y F L/\a_ A (g.set n0 (.tab T lpos qual true)) y) (kz:=B) (vs:=ao)
   I2 ⟨C,G2,Step.refl,P2,S2⟩ ⟨_,a4,rfl,nn,rfl⟩ (by lia) (by lia) (λi u kk hu hk b8 s' J=>?_) λD s' out cc oD J so=>?_
  . have hi:i<j.length:=by
     let:=(Wa.mp hu).1;lia
    obtain⟨tt,ht⟩:=hints.get i j[i] (Wm hi);let ht:some u=some (Value.int j[i] tt):=by rw[<-hu];show ht
    cases ht;show Kb (v:= .int j[i]) (u:= .int j[i] tt) S hc (by let:=hr.dp;lia) (hb f c) N ⟨tt,rfl⟩ (Wz _ (Zp.mpr rfl)) (λL aD J' r'=>?_) (λL r'=>?_) J
    . have q:=J'.aK c _ (bu L r');show⟨c,o,vs,tq,rfl,q.1,bW,bV⟩
    . obtain⟨A,y,Y,W,q3⟩:=r';show⟨A,(gT fr σd).set 0 (some (.int j[i])),_,_,y,F,W,?_,q3,a5 i j[i] kk (Wm hi) hk,λd' b7 hd bl b5 ck v' aD b4 b3 aK=>?_⟩
      . show((RS.step ((ar.trans m).trans Y)).comp).set 0 (by unfold Rep;rfl)
      . obtain⟨rfl,rfl⟩:=hd;unfold Rep at aK;show⟨aK,bl,b5,Y.trans aD,b4,b3⟩
  . obtain⟨L,I',A,y,Y,W,q3⟩:=J;obtain⟨E,hp,ho,hs⟩:=so
    let a0:∀q∈E,∃t,q.2= .int (numOf q.2) t:=λq hq=>by
     let Z:=hp.mem_iff.mp hq;let h2:q.2∈ao:=(ZV (show(q.1,q.2)∈B.zip ao from Z)).2;obtain⟨n,t,e⟩:=hints.all _ h2;show⟨t,by rw[e];rfl⟩
    let a3:(E.map λq=>(q.1,numOf q.2)).Perm (B.zip j):=by
     let Z:=hp.map λq:Int×Value=>(q.1,numOf q.2)
     let e:(B.zip ao).map (λq:Int×Value=>(q.1,numOf q.2))=B.zip j:=by
      rw[<-hints.nums,List.zip_map_right];show WO λ⟨a,b⟩ _=>rfl
     rw[e]at Z;show Z
    let aX:(E.map λq=>(q.1,numOf q.2)).Pairwise slt:=by rw[aax];show hs
    let kk:=hK _ a3 aX;rw[WL]at kk;let O:=fT I'
    let ah:Vals ((E.map λq=>numOf q.2).map V.int) out.toList:=by
     rw[ho];clear a3 aX kk hs hp ho;induction E with
     |nil=>show .nil
     |cons q r ih=>
      obtain⟨t,e⟩:=a0 q (Wx ..);show .cons ⟨t,e⟩ (ih λz hz=>a0 z (Ww _ hz))
    let bP:(E.map λq=>numOf q.2).length<=sizeLine:=by
     rw[Wd,hp.length_eq,List.length_zip];show Wj (Nat.min_le_left _ _) (Wj (show B.length<=64 by lia) (by decide))
    let I3:=Jo (u:= .lst ((E.map λq=>numOf q.2).map V.int)) I' oD.ge oD.ne ⟨by rw[Wd];show bP,out.toList,cc,ah,O.1⟩;let hG:=(W.none O.2.1).1;show⟨.ref D,_,I3.iq,rfl,k _ _ kk A _ _ _ ((ar.trans m).trans (Y.trans (Step.laid hG))) (W.laid O.2.1) (q3.laid hG) ?_⟩;unfold Rep;show⟨D,_,rfl,q3.lh hG,.inl a9,?_⟩;let e:List.map ((λp:Int×Int=>L3.D.int p.snd)∘λq:Int×Value=>(q.fst,numOf q.snd)) E=(E.map λq=>numOf q.2).map L3.D.int:=by rw[WL];rfl
    rw[e];show By _
end
end L3
namespace L3
open PySem L2
open PySem.Spec hiding items?
open PyProof.Rows hiding St
def GN(a:Scope)(N gl:List Str):Bool:=
 N.all (λx=>(a.names.lookup x==some .local||a.names.lookup x==some .cell)&&x != "__debug__"&&x != "__classdict__")&&gl.all (λx=>a.names.lookup x==some .globalImplicit&&x != "__debug__")
structure VS(sc:Scope)(N gl:List Str):Prop where
 ok:GN sc N gl=true
def VS.at_{a:Scope}{N gl:List Str}(V:VS a N gl){i:Nat}{x:Str}(h:N[i]?=some x):Loc a x/\(x==("__debug__":Str))=false/\(x==("__classdict__":Str))=false:=by
 let o:=V.ok;unfold GN at o;let:=WT.mp (aaa.mp o).1 x (WI h);simp![W_,Zj,Yh,ZY,ne_eq]at this;show⟨this.1.1,aaW this.1.2,aaW this.2⟩
def VS.UI{a:Scope}{N gl:List Str}(V:VS a N gl){i:Nat}{x:Str}(h:gl[i]?=some x):a.names.lookup x=some .globalImplicit/\(x==("__debug__":Str))=false:=by
 let o:=V.ok;unfold GN at o;let:=WT.mp (aaa.mp o).2 x (WI h);simp![W_,Yh,ZY,ne_eq]at this;show⟨this.1,aaW this.2⟩
section
variable {X:Cx}{sc:Scope}{N gl:List Str}{x:Str}{pos:Pos}
def VS.nm(V:VS X.env.scope X.N gl)(i:Nat)(h:X.N[i]?=some x:=by rfl):JE X (.Name x pos) (aa i):=
 let q:=V.at_ h
 Jb q.2.1 q.2.2 (q.1.elim .inl λz=> .inr (.inl z)) h
def VS.l(V:VS sc N gl)(i:Nat)(h:N[i]?=some x:=by rfl):Loc sc x:=(V.at_ h).1
def VS.g(V:VS sc N gl)(i:Nat)(h:gl[i]?=some x:=by rfl):sc.names.lookup x=some .globalImplicit:=(V.UI h).1
def VS.d(V:VS sc N gl)(i:Nat)(h:gl[i]?=some x:=by rfl):(x==("__debug__":Str))=false:=(V.UI h).2
def g7(c:X.N[n]?=some x:=by rfl)(a:((x==("__debug__":Str))||(x==("__classdict__":Str)))=false:=by decide+kernel)
 (b:Bg X.env.scope x:=by first|show Or.inl rfl|show Or.inr (Or.inl rfl)|show Or.inr (Or.inr rfl)):JE X (.Name x pos) (aa n):=
 Jb (Bool.or_eq_false_iff.mp a).1 (Bool.or_eq_false_iff.mp a).2 b c
@[irreducible] def qb:dc:=u4 (λ_ j=>j≠0) λi j=> .int (i.fdiv j)
def EM{k:Nat}(g:cU k X.A)(f:X.stack=X.env::X.outer)(a:X.env.scope.isGenerator=false)(b:X.env.scope.isCoroutine=false):cf X (binaryOp .FloorDiv) (LR qb):=by
 unfold qb;show kO (g':=λi j=> .int (i.fdiv j)) (λ_ _ _ _=>by unfold Rep;rfl) ?_;intro c s σ H x y v u Q I e d h;obtain⟨i,j,rfl,rfl,m,q⟩:=h;obtain⟨t,rfl⟩:=e;obtain⟨n,rfl⟩:=d;show floordiv_int m ⟨.int (i.fdiv j),H,I.tok _,⟨_,rfl⟩,q⟩ (.inr (PySem.PylongRoom.of I.nolimit ?_ ?_))
 . have:=g.dp;change X.A.depth+100<_;lia
 . show PySem.SeerAt.of (env:=X.env) (l:=X.outer) (I.mod.seer.keeps I.bk) I.ok.gt (by rw[I.ok.frames,f]) a b I.ok.blt I.ok.glob
def BP{st:af}{K:DK}{i j:Int}(a:j≠0)(k:K (.int (i.fdiv j)) st):qb (.int i) (.int j) st K:=by unfold qb;show⟨a,k⟩
def nH.look{scope:Scope}(S:cx X scope Nc fr)(h:(scope.names.all (λx=>x.2 != .cell)&&(!scope.isCoroutine&& !scope.isGenerator)&&(scope.names.lookup p==some .local))=true:=by decide+kernel)
 (a:Nc[0]?=some p:=by rfl) (c:fr[0]?=some none:=by rfl):nH X scope Nc fr p:=by
 simp![W_,Bool.not_eq_true',Yh]at h;show⟨S,λx b=>by simpa using WT.mp h.1.1 x b,h.1.2.1,h.1.2.2,a,c,h.2⟩
def Pb{e b:Expr}{d l pos j:Pos}{u k:Nat}(S:nH X scope Nc fr p)(B:X.calm=true)(w:cU k X.A)(h:X.env.code= .ref c0)(C:PySem.W.codeHdIn X.K c0 T=true)
 (t:∀(f c:Addr) (s:Shared) (H:Hp),JE (Iv X scope Nc a f c s H) b q) (r:JE X e o) (A:X.env.kindOf "sorted"=some .globalImplicit) (y:X.mg "sorted"=none)
 (m:defaultsOf params X.env=([],[]):=by rfl) (n:X.env.qual++"<lambda>"=a:=by rfl)
 (i:∀(cl:List (Str×Addr)) (pm cd ct v:Value),bindArgs (PySem.W.kla_fn "<lambda>" a params b scope cl pm cd ct) ⟨[v],[]⟩=pure [(p,v)]:=by(intros;rfl)) (z:2<=k:=by decide)
 (g:starEach [e] X.env=(false,eval e X.env)::starEach [] X.env:=by rfl):
 JE X (.Call (.Name "sorted" j) [e] [⟨some "key",.Lambda params b scope d,l⟩] pos) (CC u T d a fr q o):=by
 unfold JE at r t⊢;show ON S B (w.mono z) h C m n i t (yc r B9 g) A y rfl ?_ ?_
 . rw[g];rfl
 . rw[g];rfl
end
structure Q6(K:PySem.W.Frag)(x qual:Str)(st:Stmt)(f:Addr)(fd:FuncData)(c:Addr):Prop where
 ex:∃(oc:Value) (od:Option Addr) (kV doc pm:Value) (an:Option Addr) (ct:Value) (osl:Array (Option Value)),
  fd=PySem.W.fnOf x qual (km st) (gf st) (bf st) .none kV doc pm an (.ref c) ct/\K.lookup f=some ⟨oc,od,.func fd,osl⟩/\PySem.W.codeIn K (.ref c) qual=true
def Ry{P:Program}{w:World}{K:PySem.W.Frag}{o:Str->Option Value}{g:Heap}{x b:Str}{st:Stmt}{f c:Addr}{fd:FuncData}{N m:List Str}{k:Nat}{sp:bM}{t:DS}(F:Q6 K x b st f fd c)(S:l7 N m (bf st))
 (d:∀(A:Around) (outer:List Env) (s:Shared) (H:Hp) (E:XK),cU k (A.deeper (envOfC b (bf st) s.heap.objs.size f (.ref c)))->JB (pA fS P w K o g N b (bf st) f (.ref c) A outer s H E).uK (gf st) t)
 (l:∀e st K,sp e st K->e.length=m.length/\t {nx:=λ_ a=>K .aD a,rt:=K} (aL N e) st):dh P w K o g fS (k+1) f fd m (gK sp):=by
 obtain⟨V,U,kV,B,T,X,W,v,rfl,y,n⟩:=F.ex;unfold JB at d;show Ma y n S (λr H Q E h=>?_) λA outer s H r Q E z h=>?_
 . obtain⟨α,e,st,K,G,F,P,R,S,q,k⟩:=h;rw[<-R.length];show(l e st K q).1
 . obtain⟨α,e,st,K,G,M,P,R,C,q,k⟩:=h;show⟨_,(d A outer s H E z).uK,α,aL N e,st,_,G,M,P,eE.start R,C,(l e st K q).2,?_,k,?_,?_⟩
   . intro i a j p L J O u I Y D;show k .aD a j p L J .aD u I D (by unfold Rep;rfl)
   . intro i a j;show j.elim
   . intro i a j;show j.elim
def Ho(tl:List (Addr×Pos×Str)):bM:=λc st K=>∃b:List Int,c=[.lst (b.map .int)]/\b.length<=63/\st=tl.map (λq=> .tab q.1 q.2.1 q.2.2 false)/\∀a,K (.bl true) a
def Iq(K:PySem.W.Frag)(ts:List (Addr×Addr)):Sp:=λb H Q _=>∃(a:Addr) (ns:List Int),b=[.ref a]/\Entry K ts a ns H/\ns.length<=63/\∀c,Q (.bl true) c
def Hi{K:PySem.W.Frag}{ts:List (Addr×Addr)}{tl:List (Addr×Pos×Str)}(y:GX K=true)(l:ts.map (·.2)=tl.map (·.1))(A:(tl.map (·.1)).Nodup){vs:List V}{H:Hp}{Q:VK}{E:XK}(h:Iq K ts vs H Q E):gK (Ho tl) vs H Q E:=by
 obtain⟨a,k,rfl,s,J,q⟩:=h
 let f:∀q∈tl,H q.1=some (.kl #[])/\q.1≠a:=λq G=>by
  let O:q.1∈ts.map (·.2):=by rw[l];show aad G
  obtain⟨t,D,e⟩:=WK.mp O;rw[<-e];show s.tab t D
 let at_:∀(i:Nat) (x:Addr),(tl.map λq=>some q.1)[i]?=some (some x)->∃q,tl[i]?=some q/\q.1=x:=λi x e=>by
  rw[Wr]at e;cases z:tl[i]? with
  |none=>rw[z]at e;cases e
  |some w=>rw[z]at e;simp at e;show⟨w,rfl,e⟩
 let g:some a∉tl.map λq=>some q.1:=λz=>by
  obtain⟨w,C,e⟩:=WK.mp z;show(f w C).2 (W2 e)
 rcases s.lst with N|⟨o,Y,n,e,M,_⟩
 . show⟨tl.map λq=>some q.1,[.lst (k.map .int)],tl.map (λq=> .tab q.1 q.2.1 q.2.2 false),λd _=>d= .bl true,H,λ_=>none,⟨λb=>by cases H b<;>rfl,λ_ _ _=>rfl⟩,?_,⟨by simp,λi j x T S=>?_,λn c e=>?_⟩,⟨k,rfl,J,rfl,λ_=>rfl⟩,?_⟩
   . unfold aJ;show⟨.ref a,[],rfl,?_,by unfold aJ;rfl⟩;unfold Rep;show⟨a,k.map V.int,rfl,g,N,zB k⟩
   . obtain⟨p,I,R⟩:=at_ i x T;obtain⟨r,F,P⟩:=at_ j x S;let m:(tl.map (·.1))[i]?=some x:=by rw[Wr,I,<-R];rfl
     let B:(tl.map (·.1))[j]?=some x:=by rw[Wr,F,<-P];rfl
     let L:=(Wa.mp m).1;show(List.getElem?_inj L A).mp (m.trans B.symm)
   . rw[Wr]at e;cases z:tl[n]? with
     |none=>rw[z]at e;cases e
     |some w=>
      rw[z]at e;let U:Cell.tab w.1 w.2.1 w.2.2 false=c:=W2 e;subst U;show .inr ⟨w.1,by rw[Wr,z];rfl,rfl,#[],(f w (WI z)).1,trivial,.inl ⟨rfl,rfl⟩⟩
   . rintro d u rfl X Z W v _ _ _ r;unfold Rep at r;subst r;show q W
 . show absurd M (zV y e)
section
variable {K:PySem.W.Frag}{x qual p1 p2 p3 p4 p5:Str}{st:Stmt}{f:Addr}{fd:FuncData}
abbrev rl(x qual:Str)(st:Stmt)(kV doc pm:Value)(an:Option Addr)(cdv ct:Value):FuncData:=PySem.W.fnOf x qual (km st) (gf st) (bf st) .none kV doc pm an cdv ct
def gD{α:Type}{us:List α}(h:us.length=n+1):∃a r,us=a::r/\r.length=n:=by
 cases us with
 |nil=>cases h
 |cons a r=>show⟨a,r,rfl,Nat.succ.inj h⟩
def ug{α:Type}{us:List α}(h:us.length=0):us=[]:=Xg.mp h
def Uw(F:oj K x qual st f fd)(h:∀kV b d e c ct a,bindArgs (rl x qual st kV b d e c ct) ⟨[a],[]⟩=pure [(p1,a)]):Binds K fd [p1] []:=
 F.binds λkV b d e c ct j g=>by
  obtain⟨a,k,rfl,i⟩:=gD g;cases ug i;show h kV b d e c ct a
def UG(F:oj K x qual st f fd)(h:∀kV c e g d ct a b,bindArgs (rl x qual st kV c e g d ct) ⟨[a,b],[]⟩=pure [(p1,a),(p2,b)]):Binds K fd [p1,p2] []:=
 F.binds λkV c e g d ct l i=>by
  obtain⟨a,n,rfl,k⟩:=gD i;obtain⟨b,m,rfl,j⟩:=gD k;cases ug j;show h kV c e g d ct a b
def UQ(F:oj K x qual st f fd)(h:∀kV d g i e ct a b c,bindArgs (rl x qual st kV d g i e ct) ⟨[a,b,c],[]⟩=pure [(p1,a),(p2,b),(p3,c)]):Binds K fd [p1,p2,p3] []:=
 F.binds λkV d g i e ct n j=>by
  obtain⟨a,q,rfl,m⟩:=gD j;obtain⟨b,p,rfl,l⟩:=gD m;obtain⟨c,o,rfl,k⟩:=gD l;cases ug k;show h kV d g i e ct a b c
def UJ(F:oj K x qual st f fd)(h:∀kV e i j g ct a b c d,bindArgs (rl x qual st kV e i j g ct) ⟨[a,b,c,d],[]⟩=pure [(p1,a),(p2,b),(p3,c),(p4,d)]):Binds K fd [p1,p2,p3,p4] []:=
 F.binds λkV e i j g ct p k=>by
  obtain⟨a,t,rfl,o⟩:=gD k;obtain⟨b,s,rfl,n⟩:=gD o;obtain⟨c,r,rfl,m⟩:=gD n;obtain⟨d,q,rfl,l⟩:=gD m;cases ug l;show h kV e i j g ct a b c d
end
section
variable {X:Cx}
def uK(X:Cx):Cx:={X with xe:=λ_ _=>False}
end
variable {st:af}{K:D->af->Prop}{i j:Int}
end L3
namespace L3
open PySem L2
structure ClsAt(K:PySem.W.Frag)(mg:Str->Option Value)(x:Str)(C:Addr):Prop where
 cl:mM K C
 mg:mg x=some (.ref C)
 Qg:PySem.W.makesIn K C=true
 kp:PySem.W.keepIn K (.ref C)=true
structure MethAt(K:PySem.W.Frag)(C:Addr)(m qual:Str)(st:Stmt)(ps:List Str)(f:Addr)(fd:FuncData):Prop where
 fn:oj K m qual st f fd
 me:Meth K C m f
 bd:Binds K fd ps []
end L3
namespace Hd
open PySem PySem.W L2 L3
open PySem.Spec hiding items?
open PyProof.Rows hiding St
section
variable {K:Frag}{mg:Str->Option Value}{h:Heap}{x q:Str}{st:Stmt}{f c C:Addr}{pm:Value}{p1 p2 p3 p4 p5 p6:Str}
abbrev Ed(K:Frag)(x:Str)(st:Stmt)(f:Addr)(pm:Value)(c:Addr):Prop:=(nsIn K mainGlobals x,K.lookup f,codeIn K (.ref c) x,keepIn K (.ref f))=(some (some (.ref f)),some (fq st x x pm c),true,true)
abbrev Em(K:Frag)(C:Addr)(x q:Str)(st:Stmt)(f:Addr)(pm:Value)(c:Addr):Prop:=(findIn K (.ref C) x,isFn K (.ref f),K.lookup f,codeIn K (.ref c) q,keepIn K (.ref f))=(some (some (.ref f)),true,some (fq st x q pm c),true,true)
def Ed.fn(e:Ed K x st f pm c):oj K x x st f (fd st x x pm c)/\nsIn K mainGlobals x=some (some (.ref f)):=by
 obtain⟨g,d,b,a⟩:_/\_/\_/\_:=by simpa only[abf]using e
 show⟨Jh (st:=st) d b a,g⟩
def Em.fn(e:Em K C x q st f pm c):oj K x q st f (fd st x q pm c)/\Meth K C x f:=by
 obtain⟨i,g,d,b,a⟩:_/\_/\_/\_/\_:=by simpa only[abf]using e
 show⟨Jh (st:=st) d b a,i,g,a⟩
def V1(X:K.In h)(G:h.Ns mainGlobals mg)(e:Ed K x st f pm c)(b:∀kV d pm i g ct a,bindArgs (rl x x st kV d pm i g ct) ⟨[a],[]⟩=pure [(p1,a)]):nE K mg x x st [p1] f (fd st x x pm c):=⟨e.fn.1,mg_of X G e.fn.2,Uw e.fn.1 b⟩
def VG(X:K.In h)(G:h.Ns mainGlobals mg)(e:Ed K x st f pm c)(b:∀kV a pm j d ct i g,bindArgs (rl x x st kV a pm j d ct) ⟨[i,g],[]⟩=pure [(p1,i),(p2,g)]):nE K mg x x st [p1,p2] f (fd st x x pm c):=⟨e.fn.1,mg_of X G e.fn.2,UG e.fn.1 b⟩
def VJ(X:K.In h)(G:h.Ns mainGlobals mg)(e:Ed K x st f pm c)(b:∀kV a pm k d ct j i g,bindArgs (rl x x st kV a pm k d ct) ⟨[j,i,g],[]⟩=pure [(p1,j),(p2,i),(p3,g)]):nE K mg x x st [p1,p2,p3] f (fd st x x pm c):=⟨e.fn.1,mg_of X G e.fn.2,UQ e.fn.1 b⟩
def V3(X:K.In h)(G:h.Ns mainGlobals mg)(e:Ed K x st f pm c)(b:∀kV a pm l d ct k j i g,bindArgs (rl x x st kV a pm l d ct) ⟨[k,j,i,g],[]⟩=pure [(p1,k),(p2,j),(p3,i),(p4,g)]):nE K mg x x st [p1,p2,p3,p4] f (fd st x x pm c):=⟨e.fn.1,mg_of X G e.fn.2,UJ e.fn.1 b⟩
def VM(e:Em K C x q st f pm c)(b:∀kV d pm i g ct a,bindArgs (rl x q st kV d pm i g ct) ⟨[a],[]⟩=pure [(p1,a)]):MethAt K C x q st [p1] f (fd st x q pm c):=⟨e.fn.1,e.fn.2,Uw e.fn.1 b⟩
def Ek(e:Em K C x q st f pm c)(b:∀kV a pm j d ct i g,bindArgs (rl x q st kV a pm j d ct) ⟨[i,g],[]⟩=pure [(p1,i),(p2,g)]):MethAt K C x q st [p1,p2] f (fd st x q pm c):=⟨e.fn.1,e.fn.2,UG e.fn.1 b⟩
def IG(e:Em K C x q st f pm c)(b:∀kV a pm k d ct j i g,bindArgs (rl x q st kV a pm k d ct) ⟨[j,i,g],[]⟩=pure [(p1,j),(p2,i),(p3,g)]):MethAt K C x q st [p1,p2,p3] f (fd st x q pm c):=⟨e.fn.1,e.fn.2,UQ e.fn.1 b⟩
def VZ(e:Em K C x q st f pm c)(b:∀kV a pm l d ct k j i g,bindArgs (rl x q st kV a pm l d ct) ⟨[k,j,i,g],[]⟩=pure [(p1,k),(p2,j),(p3,i),(p4,g)]):MethAt K C x q st [p1,p2,p3,p4] f (fd st x q pm c):=⟨e.fn.1,e.fn.2,UJ e.fn.1 b⟩
def fc(e:(K.lookup f,codeIn K (.ref c) q)=(some (fq st x q pm c),true)):Q6 K x q st f (fd st x q pm c) c:=by
 obtain⟨b,a⟩:_/\_:=by simpa only[abf]using e
 show⟨_,_,_,_,_,_,_,_,rfl,b,a⟩
def na(e:findIn K (.ref C) a=some none):fF K C a:=e
end
end Hd
namespace L3
open PySem L2
open PySem.Spec hiding items?
open PyProof.Rows hiding St
end L3
namespace L3
open PySem L2
open PySem.Spec hiding items?
end L3
namespace L3
open PySem PySem.Spec L2
open PyProof.Rows hiding St
end L3
namespace L3
open PySem L2
open PySem.Spec hiding items?
open PyProof.Rows hiding St
namespace RF
end RF
section
variable {X:Cx}{sc:Scope}{N gl:List Str}{x:Str}{pos:Pos}
def VS.lM(V:VS sc N gl)(h:N.contains x=true:=by decide+kernel):Loc sc x:=by
 obtain⟨i,a,e⟩:=WV.mp (aa8.mp h);show V.l i (by rw[Wm a,e])
def VS.gM(V:VS sc N gl)(h:gl.contains x=true:=by decide+kernel):sc.names.lookup x=some .globalImplicit:=by
 obtain⟨i,a,e⟩:=WV.mp (aa8.mp h);show V.g i (by rw[Wm a,e])
def QZ(N P:List Str)(sc:Scope):Bool:=(sc.kind== .function)&& !sc.isCoroutine&& !sc.isGenerator&&decide N.Nodup&&(N.take P.length==P)&&P.all (λx=>sc.names.lookup x==some .local||sc.names.lookup x==some .cell)&&sc.names.all λy=>y.2 != .free
structure VF(s:Stmt)(N P gl:List Str):Prop where
 v:VS (bf s) N gl
 sc:l7 N P (bf s)
def VF.of{N P gl:List Str}(h:(GN (bf s) N gl&&QZ N P (bf s))=true):VF s N P gl:=by
 obtain⟨j,i⟩:=aaa.mp h;unfold QZ at i;simp![W_,Yh,Bool.not_eq_true',decide_eq_true_eq,WT,Zj,ZY,ne_eq]at i;obtain⟨⟨⟨⟨⟨⟨a,b⟩,c⟩,d⟩,e⟩,f⟩,g⟩:=i;show⟨⟨j⟩,a,b,c,d,e,f,g⟩
def U0:Expr->List Str
 | .Name x _=>[x]
 | .Tuple [.Name x _,.Name y _] _ _=>[x,y]
 | .Tuple [.Name x _,.Name y _,.Name z _] _ _=>[x,y,z]
 | .Tuple [.Tuple [.Name x _,.Name y _] _ _,.Name z _] _ _=>[x,y,z]
 |_=>[]
def m6(a:Expr)(fr:List (Option Nat))(N:List Str):List Str:=U0 a++(fr.filterMap id).map λk=>N.getD k ""
variable {scope:Scope}{elt tg iter:Expr}{ifs:List Expr}{src:DI}{fr:List (Option Nat)}{dtg:fj}{t:DT}{te:DE}{pos' p:Pos}
def NP(V:VS sc N gl)(h:oC sc N scope (m6 tg fr N) fr=true)(f:JI X tg iter src)(g:∀C s H ex,JG (cD X scope (m6 tg fr N) C s H ex) tg dtg)(d:∀C s H ex,JC (cD X scope (m6 tg fr N) C s H ex) ifs t)(i:∀C s H ex,JE (cD X scope (m6 tg fr N) C s H ex) elt te)(b:oi fr dtg)(a:X.env.scope=sc:=by rfl)(k:X.N=N:=by rfl)
 (c:X.xe=λ_ _=>False:=by rfl) (j:X.calm=true:=by rfl) (e:∀x,foldedSetIterable iter X.env x=pure x:=by intro _;rfl):JE X (.ListComp elt [⟨tg,iter,ifs,0⟩] scope pos) (cC src fr dtg t te):=jQ (cx.look sc N h a k) f g d i b c j e
def Ki{k:Nat}(V:VS sc N gl)(i:X.N.Nodup)(j:Loc X.env.scope x)(h:oC sc N scope (m6 tg fr N) fr=true)(l:JI X tg iter src)(m:∀C s H ex,JG (cD X scope (m6 tg fr N) C s H ex) tg dtg)(f:∀C s H ex,JC (cD X scope (m6 tg fr N) C s H ex) ifs t)(o:∀C s H ex,JE (cD X scope (m6 tg fr N) C s H ex) elt te)(d:oi fr dtg)(b:X.env.scope=sc:=by rfl)(r:X.N=N:=by rfl)
 (n:X.fn x=true\/X.env.scope.names.lookup x=some .local:=by first|show .inl rfl|show .inr rfl) (a:swapsWith (.ListComp elt [⟨tg,iter,ifs,0⟩] scope p) (some (.Name x pos')) pos.line X.env=pure true:=by rfl) (c:X.N[k]?=some x:=by rfl) (e:X.xe=λ_ _=>False:=by rfl) (q:X.calm=true:=by rfl) (g:∀x,foldedSetIterable iter X.env x=pure x:=by intro _;rfl):
 JS X (.Assign [.Name x pos'] (.ListComp elt [⟨tg,iter,ifs,0⟩] scope p) pos) (aN k (cC src fr dtg t te)):=E8 i j (cx.look sc N h b r) l m f o d n a c e q g
variable {X0:Cx}{scope0:Scope}{Nc:List Str}{C:Addr}{s:Shared}{H:Hp}{ex:List Addr}
def OI(h:oC scope0 Nc scope (m6 tg fr Nc) fr=true)(i:JI (cD X0 scope0 Nc C s H ex) tg iter src)(j:∀c s' b a,JG (cD (cD X0 scope0 Nc C s H ex) scope (m6 tg fr Nc) c s' b a) tg dtg)(f:∀c s' b a,JC (cD (cD X0 scope0 Nc C s H ex) scope (m6 tg fr Nc) c s' b a) ifs t)(k:∀c s' b a,JE (cD (cD X0 scope0 Nc C s H ex) scope (m6 tg fr Nc) c s' b a) elt te)(d:oi fr dtg)
 (e:(cD X0 scope0 Nc C s H ex).xe=λ_ _=>False:=by rfl) (l:(cD X0 scope0 Nc C s H ex).calm=true:=by rfl) (g:∀x,foldedSetIterable iter (cD X0 scope0 Nc C s H ex).env x=pure x:=by intro _;rfl):JE (cD X0 scope0 Nc C s H ex) (.ListComp elt [⟨tg,iter,ifs,0⟩] scope pos) (cC src fr dtg t te):=jQ (cx.Ni h) i j f k d e l g
def Uh{k:Nat}(b:Nc.Nodup:=by decide+kernel)(a:Loc (cD X0 scope0 Nc C s H ex).env.scope x:=by first|show Or.inl rfl|show Or.inr rfl)(d:(cD X0 scope0 Nc C s H ex).fn x=true\/(cD X0 scope0 Nc C s H ex).env.scope.names.lookup x=some .local:=by first|show .inl rfl|show .inr rfl)(c:Nc[k]?=some x:=by rfl):JG (cD X0 scope0 Nc C s H ex) (.Name x pos) (ba k):=gI b a d c
def RZ{k j n:Nat}{y:Str}{b a:Pos}(e:Nc.Nodup:=by decide+kernel)(d:Loc (cD X0 scope0 Nc C s H ex).env.scope x:=by first|show Or.inl rfl|show Or.inr rfl)(i:(cD X0 scope0 Nc C s H ex).fn x=true\/(cD X0 scope0 Nc C s H ex).env.scope.names.lookup x=some .local:=by first|show .inl rfl|show .inr rfl)(c:Loc (cD X0 scope0 Nc C s H ex).env.scope y:=by first|show Or.inl rfl|show Or.inr rfl)(h:(cD X0 scope0 Nc C s H ex).fn y=true\/(cD X0 scope0 Nc C s H ex).env.scope.names.lookup y=some .local:=by first|show .inl rfl|show .inr rfl)(g:Nc[k]?=some x:=by rfl)(f:Nc[j]?=some y:=by rfl)(l:(cD X0 scope0 Nc C s H ex).calm=true:=by rfl):JG (cD X0 scope0 Nc C s H ex) (.Tuple [.Name x b,.Name y a] n pos) (fz k j):=wZ l e d i c h g f
def VS.loc(V:VS sc N gl)(h:sc.names.lookup x=some .local:=by decide+kernel):sc.names.lookup x=some .local:=h
end
def Nn{X:Cx}(h:JS X b t)(c:X.xe=λ_ _=>False:=by rfl):JS X (.Try [b] (h₀::d) [] [] pos) t:=by
 unfold JS at*;intro a s σ H D I q;show wpAny_Try_except (aaI (XY (h a s σ H D I q) (λf e z=>?_) λ_ _ z=>?_))
 . cases f with
   |next=>show YW (YW z)
   |brk=>show z
   |cont=>show z
   |ret u=>show z
 . rw[c]at z;show z.elim
end L3
namespace L2
open PySem PySem.Spec PyProof.Rows PySem.W
def Rr:V->List V->Hp->VK->Prop:=λx b H Q=>∃l a,x= .ref l/\b=[]/\H l=some (.lst a)/\Q .aD (upd H l (.lst a.reverse))
def Vals.rev{xs:List V}{ao:List Value}(h:Vals xs ao):Vals xs.reverse ao.reverse:=by
 induction h with
 |nil=>show .nil
 |cons a _ b=>
  rw[Zw,Zw];show b.append (.cons a .nil)
def Q_:UT X "list.reverse" Rr:=by
 intro b s σ H x j v k Q I g i h;obtain⟨l,f,rfl,rfl,c,q⟩:=h;cases g;let a:=i.zero;subst a;obtain⟨z,d,n,r,m,e⟩:=I.Py c;show Za F.slot_list_reverse ⟨_,e,rfl⟩ F.entry_list_reverse (F.args_list_reverse_1 _) (AutoSeq1.list_reverse_list_0 l d.toArray n (by rw[Wl];lia)) ⟨e,?_⟩;show⟨.aD,_,I.QD (its':=d.reverse) (ys:=f.reverse) c e (by simp) r.rev (by rw[List.length_reverse];show z),rfl,q⟩
end L2
namespace L3
open PySem L2
open PySem.Spec hiding items?
open PyProof.Rows hiding St
@[irreducible] def vH(c:DE):DE:=λσ st K=>c σ st λx a=>match x with
 | .ref n=>(match a[n]? with|some (.lst b)=>K .aD (a.set n (.lst b.reverse))|_=>False)
 |_=>False
section
variable {X:Cx}
def HF{α β:Type}{R:α->β->Prop}:∀ {xs ys:List α} {us ws:List β},Paired R xs us->Paired R ys ws->Paired R (xs++ys) (us++ws)
 |_,_,_,_,.nil,s=>s
 |_,_,_,_,.cons r t,s=> .cons r (HF t s)
def Hx{α β:Type}{R:α->β->Prop}:∀ {xs:List α} {us:List β},Paired R xs us->Paired R xs.reverse us.reverse
 |_,_,.nil=> .nil
 |_,_,.cons r t=>by
  rw[Zw,Zw];show HF (Hx t) (.cons r .nil)
def LE.rev{g:DE}(h:LE (vH g) σ H Q):Ri X.K "list" Rr (LE g) σ H Q:=by
 obtain⟨α,l,st,K,G,F,P,R,S,t,k⟩:=h;unfold vH at t;show⟨α,l,st,_,G,F,P,R,S,t,λx o q m y H1 v r f j s=>?_⟩;cases x<;>try show q.elim
 rename_i n;simp only at q;split at q
 . rename_i w e;obtain⟨p,d,a,c,u⟩:=j.gR e;let b:=dR d s;subst b;show⟨.inl ⟨rfl,a,.inl (.of (f.get c))⟩,p,a,rfl,rfl,f.get c,?_⟩;let i:=WI d;show(k.at r) .aD _ q m _ _ .aD (Step.write i) (f.write c) (j.write d ⟨a.reverse,a9,(aU.mpr (Hx (aU.mp u))).step (Step.write i)⟩) (by unfold Rep;rfl)
 . show q.elim
def MZ{e:DE}{b a:Pos}(f:JE X o e)(d:attributeBase o "reverse" X.env (eval o X.env)=eval o X.env:=by rfl)(c:(b.endLine==a.line)=true:=by rfl):JE X (.Call (.Attribute o "reverse" b) [] [] a) (vH e):=by
 unfold JE at*;show PE.imp (Qd aaR PySem.F.slot_list_reverse PySem.F.type_list_reverse Q_ f d c) λ_ _ _ h=>LE.rev h
end
def IF{σ:bZ}{st:af}{K:DK}{n:Nat}{xs:List D}{a:DE}(c:∀b,b (.ref n) st->a σ st b)(e:st[n]?=some (.lst xs))(k:K .aD (st.set n (.lst xs.reverse))):vH a σ st K:=by
 unfold vH;show c _ ?_;simp![e];show k
end L3
namespace Mx
def S:Nat->(Nat->Int)->Int
 |0,_=>0
 |n+1,f=>S n f+f n
def ax{f g:Nat->Int}(h:∀i,i<n->f i=g i):S n f=S n g:=by
 induction n with
 |zero=>rfl
 |succ n a=>unfold S;rw[a λi b=>h i (by lia),h n (by lia)]
def mI{f:Nat->Int}(h:∀i,i<n->f i=0):S n f=0:=by
 induction n with
 |zero=>rfl
 |succ n a=>unfold S;rw[a λi b=>h i (by lia),h n (by lia)];rfl
def jT(n:Nat)(f g:Nat->Int):S n (λi=>f i+g i)=S n f+S n g:=by
 induction n with
 |zero=>rfl
 |succ n a=>unfold S;rw[a];dsimp only;lia
def cW(n:Nat)(c:Int)(f:Nat->Int):S n (λi=>c*f i)=c*S n f:=by
 induction n with
 |zero=>unfold S;rw[W7]
 |succ n a=>unfold S;rw[a,aaZ]
def kD(n:Nat)(c:Int)(f:Nat->Int):S n (λi=>f i*c)=S n f*c:=by
 induction n with
 |zero=>unfold S;rw[Y8]
 |succ n a=>unfold S;rw[a,Int.add_mul]
def AI(n:Nat)(f:Nat->Int):S n (λi=> -f i)= -S n f:=by
 induction n with
 |zero=>rfl
 |succ n a=>unfold S;rw[a];dsimp only;lia
def iD(m n:Nat)(f:Nat->Nat->Int):S m (λi=>S n λj=>f i j)=S n λj=>S m λi=>f i j:=by
 induction m with
 |zero=>show(mI (n:=n) (λi _=>rfl)).symm
 |succ m a=>
  have:S n (λj=>S (m+1) λi=>f i j)=S n λj=>(S m λi=>f i j)+f m j:=ax λj _=>rfl;rw[this,jT,<-a];rfl
def nu{k:Nat}(d:k<n){f:Nat->Int}(h:∀i,i<n->i≠k->f i=0):S n f=f k:=by
 induction n with
 |zero=>lia
 |succ n a=>
  unfold S;by_cases e:k=n
  . subst e;rw[mI λi c=>h i (by lia) (by lia),Z_]
  . rw[a (by lia) λi c b=>h i (by lia) b,h n (by lia) (by lia),YO]
def xi(n:Nat)(f:Nat->Int):S (n+1) f=f 0+S n λi=>f (i+1):=by
 induction n with
 |zero=>unfold S S;lia
 |succ n a=>
  have:S (n+1+1) f=S (n+1) f+f (n+1):=rfl;rw[this,a];let:S (n+1) (λi=>f (i+1))=S n (λi=>f (i+1))+f (n+1):=rfl;rw[this];lia
def dl(i j:Nat):Int:=if i=j then 1 else 0
def dv(i:Nat):dl i i=1:=We rfl
def dJ(h:i≠j):dl i j=0:=Wc h
def iz{n k:Nat}(a:k<n)(f:Nat->Int):S n (λi=>dl k i*f i)=f k:=by
 rw[nu a (λi _ h=>by rw[dJ (Wi h),Y8]),dv,XA]
def rO{n k:Nat}(a:k<n)(f:Nat->Int):S n (λi=>f i*dl i k)=f k:=by
 rw[nu a (λi _ h=>by rw[dJ h,W7]),dv,Int.mul_one]
abbrev Row:=List Int
abbrev Rows:=List (List Int)
def g(A:Rows)(i j:Nat):Int:=(A.getD i []).getD j 0
structure aQ(m n:Nat)(A:Rows):Prop where
 len:A.length=m
 eJ:∀r∈A,r.length=n
def aP{α:Type}{l:List α}{d:α}(h:i<l.length):l.getD i d=l[i]:=by
 rw[Wo,Wm h];rfl
def nL{α:Type}{l:List α}{d:α}(h:l.length<=i):l.getD i d=d:=by
 rw[Wo,XR h];rfl
def tV{a b:Row}(f:a.length=n)(e:b.length=n)(h:∀j,j<n->a.getD j 0=b.getD j 0):a=b:=by
 show ZQ (by lia) λi d c=>?_;let:=h i (by lia);rwa [aP d,aP c]at this
def aQ.row{A:Rows}(h:aQ m n A)(b:i<m):(A.getD i []).length=n:=by
 let a:=h.len;rw[aP (by lia)];show h.eJ _ (WM _)
def aQ.ext(c:aQ m n A)(b:aQ m n B)(h:∀i j,i<m->j<n->g A i j=g B i j):A=B:=by
 let l:=c.len;let k:=b.len;show ZQ (by lia) λi d a=>?_;let f:=c.row (i:=i) (by lia);let e:=b.row (i:=i) (by lia);let:=tV f e λj a=>h i j (by lia) a;rwa [aP d,aP a]at this
def eR(r:Row)(t:Int)(s:Row):Row:=List.zipWith (λa b=>a+t*b) r s
def l9{r s:Row}(h:r.length=s.length):(eR r t s).length=r.length:=by unfold eR;simp[h]
def tU{r s:Row}(h:r.length=s.length)(j:Nat):(eR r t s).getD j 0=r.getD j 0+t*s.getD j 0:=by
 unfold eR;by_cases a:j<r.length
 . rw[aP (by simp;lia),aP a,aP (by lia)];simp
 . rw[nL (by simp;lia),nL (by lia),nL (by lia)];simp
def ft:Row->Rows->Row->Row
 |w::ws,r::rs,a=>ft ws rs (eR a w r)
 |_,_,a=>a
def zt:∀ {c:Row} {a:Rows} {acc:Row},acc.length=n->(∀r∈a,r.length=n)->(ft c a acc).length=n
 | [],_,acc,h,_=>by unfold ft;show h
 |_::_,[],acc,h,_=>by unfold ft;show h
 |w::c,r::a,acc,h,d=>by
  unfold ft;show zt ?_ λr b=>d r (Ww _ b);rw[l9 (by rw[h,d r Wx]),h]
def CQ:∀ {b:Row} {a:Rows} {acc:Row} (j:Nat),acc.length=n->(∀r∈a,r.length=n)->b.length=a.length->(ft b a acc).getD j 0=acc.getD j 0+S a.length λk=>b.getD k 0*g a k j
 | [],[],acc,j,h,_,_=>by unfold ft;change _=_+(0:Int);rw[YO]
 | [],_::_,acc,j,h,_,c=>by cases c
 |_::_,[],acc,j,h,_,c=>by cases c
 |w::b,r::a,acc,j,h,e,c=>by
  let f:acc.length=r.length:=by rw[h,e r Wx]
  unfold ft;rw[CQ j (by rw[l9 f,h]) (λr d=>e r (Ww _ d)) (by simpa using c),tU f,WS,xi]
  let:(λk=>(w::b).getD (k+1) 0*g (r::a) (k+1) j)=λk=>b.getD k 0*g a k j:=by
   funext k;unfold g;simp
  rw[this];unfold g;simp;lia
def mulM(A B:Rows)(n:Nat):Rows:=A.map λw=>ft w B (List.replicate n 0)
def dR(n j:Nat):(List.replicate n (0:Int)).getD j 0=0:=by
 by_cases h:j<n
 . rw[aP (by simpa using h)];simp
 . rw[nL (by simp;lia)]
def gc(c:aQ m p A)(b:aQ p n B):aQ m n (mulM A B n):=by
 show⟨by unfold mulM;rw[Wd];show c.len,λr a=>?_⟩;unfold mulM at a;obtain⟨w,_,rfl⟩:=WK.mp a;show zt (by simp) b.eJ
def map_getD{α:Type}{f:Row->List α}{A:Rows}(h:i<A.length):(A.map f).getD i []=f (A.getD i []):=by
 rw[aP (by simpa using h),aP h];simp
def kh(b:aQ m p A)(a:aQ p n B)(c:i<m)(j:Nat):g (mulM A B n) i j=S p λk=>g A i k*g B k j:=by
 let d:=b.len;change((mulM A B n).getD i []).getD j 0=_;unfold mulM;rw[map_getD (by lia),CQ (n:=n) j (by simp) a.eJ (by rw[b.row c,a.len]),dR,Z_,a.len];rfl
def qv(c:aQ m p A)(a:aQ p q B)(b:aQ q n C):mulM (mulM A B q) C n=mulM A (mulM B C n) n:=by
 show(gc (gc c a) b).ext (gc c (gc a b)) λi j d o=>?_;rw[kh (gc c a) b d,kh c (gc a b) d];let h:S q (λk=>g (mulM A B q) i k*g C k j)=S q λk=>S p λl=>g A i l*g B l k*g C k j:=ax λk _=>by rw[kh c a d,kD]
 let f:S p (λl=>g A i l*g (mulM B C n) l j)=S p λl=>S q λk=>g A i l*g B l k*g C k j:=ax λl e=>by
  rw[kh a b e,<-cW];show ax λk _=>by rw[Xv]
 rw[h,f,iD]
def fJ(n i:Nat):Row:=(List.range n).map λk=>dl k i
def units(n:Nat):Rows:=(List.range n).map λi=>fJ n i
def range_getD{α:Type}{f:Nat->α}{d:α}(h:i<n):((List.range n).map f).getD i d=f i:=by
 rw[aP (by simpa using h)];simp
def gH(n:Nat):aQ n n (units n):=⟨by simp[units],λr a=>by unfold units at a;obtain⟨i,_,rfl⟩:=WK.mp a;simp[fJ]⟩
def i_(b:i<n)(a:j<n):g (units n) i j=dl i j:=by
 unfold g units fJ;rw[range_getD b,range_getD a];unfold dl;by_cases h:i=j
 . subst h;rfl
 . rw[Wc (Wi h),Wc h]
def Dn(b:aQ m n A):mulM (units m) A n=A:=
 (gc (gH m) b).ext b λi j a d=>by
   rw[kh (gH m) b a];let:S m (λk=>g (units m) i k*g A k j)=S m λk=>dl i k*g A k j:=ax λk c=>by rw[i_ a c]
   rw[this,iz a]
def lD(A:Rows)(j:Nat):Row:=A.map λr=>r.getD j 0
def fR(A:Rows)(n:Nat):Rows:=(List.range n).map λj=>lD A j
def gZ:Row->Row->Int
 |a::as,b::bs=>a*b+gZ as bs
 |_,_=>0
def kR:∀ {a b:Row},a.length=b.length->gZ a b=S b.length λk=>a.getD k 0*b.getD k 0
 | [],[],_=>rfl
 | [],_::_,h=>by cases h
 |_::_,[],h=>by cases h
 |x::a,y::b,h=>by
  unfold gZ;rw[kR (by simpa using h),WS,xi];simp
def nK(i j:Nat):dl i j=dl j i:=by
 unfold dl;by_cases h:i=j
 . rw[We h,We h.symm]
 . rw[Wc h,Wc (Wi h)]
def sw(i j k:Nat):Nat:=if k=i then j else if k=j then i else k
def Qn(e:i<n)(d:j<n)(a:i≠j)(f:Nat->Int):S n (λk=>f (sw i j k))=S n f:=by
 let:S n (λk=>f (sw i j k))=S n λk=>f k+(f j-f i)*dl k i+(f i-f j)*dl k j:=ax λk _=>by
  unfold sw;by_cases c:k=i
  . subst c;rw[We rfl,dv,dJ a];lia
  . rw[Wc c,dJ c];by_cases b:k=j
    . subst b;rw[We rfl,dv];lia
    . rw[Wc b,dJ b];lia
 rw[this,jT,jT,rO (f:=λ_=>f j-f i) e,rO (f:=λ_=>f i-f j) d];lia
def mP{A:Rows}{r:Row}(b:i<A.length)(a k:Nat):g (A.set i r) a k=if a=i then r.getD k 0 else g A a k:=by
 let e:(A.set i r).getD a []=if a=i then r else A.getD a []:=by
  rw[Wo,Wo];by_cases h:a=i
  . subst h;rw[We rfl,Wn b];rfl
  . rw[Wc h,Wf (Wi h)]
 unfold g;rw[e];by_cases h:a=i
 . rw[We h,We h]
 . rw[Wc h,Wc h]
def Bd(M:Nat)(A:Rows):Prop:=∀r∈A,∀x∈r,x.natAbs<=M
def Bd.mono(h:Bd M A)(c:M<=N):Bd N A:=λr b x a=>Wj (h r b x a) c
abbrev Fn:=Nat->Nat->Int
def sk(j c:Nat):Nat:=if c<j then c else c+1
def sg(j:Nat):Int:=if j%2=0 then 1 else-1
def xM(j:Nat):sg (j+1)= -sg j:=by unfold sg;split<;>split<;>lia
def yk:sg 0=1:=rfl
def kG(h:c<n):sk j c<n+1:=by unfold sk;split<;>lia
def TU{j k c:Nat}(h:k<j):sk j (sk k c)=sk k (sk (j-1) c):=by unfold sk;grind
def D:Nat->Fn->Int
 |0,_=>1
 |n+1,M=>S (n+1) λj=>sg j*M 0 j*D n λr c=>M (r+1) (sk j c)
def gX(M:Fn):D 0 M=1:=rfl
def dN(n:Nat)(M:Fn):D (n+1) M=S (n+1) λj=>sg j*M 0 j*D n λr c=>M (r+1) (sk j c):=rfl
def bw:∀ {n:Nat} {M M':Fn},(∀r c,r<n->c<n->M r c=M' r c)->D n M=D n M'
 |0,_,_,_=>rfl
 |n+1,M,M',h=>by
  rw[dN,dN];show ax λj a=>?_;let e:D n (λr c=>M (r+1) (sk j c))=D n (λr c=>M' (r+1) (sk j c)):=bw λr c d b=>h (r+1) (sk j c) (by lia) (kG b);rw[h 0 j (by lia) a,e]
def Ff:∀ {n:Nat} {M P Q:Fn} {a b:Int} {i:Nat},i<n->(∀c,c<n->M i c=a*P i c+b*Q i c)->(∀r c,r<n->c<n->r≠i->M r c=P r c/\M r c=Q r c)->D n M=a*D n P+b*D n Q
 |0,_,_,_,_,_,_,h,_,_=>by lia
 |n+1,M,P,Q,a,b,0,_,g,h=>by
  rw[dN,dN,dN,<-cW,<-cW,<-jT];show ax λj f=>?_;let o:D n (λr c=>M (r+1) (sk j c))=D n (λr c=>P (r+1) (sk j c)):=bw λr c k d=>(h (r+1) (sk j c) (by lia) (kG d) (by lia)).1;let m:D n (λr c=>M (r+1) (sk j c))=D n (λr c=>Q (r+1) (sk j c)):=bw λr c k d=>(h (r+1) (sk j c) (by lia) (kG d) (by lia)).2;rw[g j f,<-o,<-m];grind
 |n+1,M,P,Q,a,b,i+1,q,g,h=>by
  rw[dN,dN,dN,<-cW,<-cW,<-jT];show ax λj f=>?_;let e:=Ff (n:=n) (M:=λr c=>M (r+1) (sk j c)) (P:=λr c=>P (r+1) (sk j c)) (Q:=λr c=>Q (r+1) (sk j c)) (a:=a) (b:=b) (i:=i) (by lia) (λc d=>g (sk j c) (kG d)) λr c k d l=>h (r+1) (sk j c) (by lia) (kG d) (by lia);let p:=h 0 j (by lia) f (by lia);rw[e,<-p.1,<-p.2];grind
def U_(h:∀c,c<n+2->M 0 c=M 1 c):D (n+2) M=0:=by
 letI T:Nat->Nat->Int:=λj k=>sg j*M 0 j*(sg k*M 1 (sk j k)*D n λr c=>M (r+2) (sk j (sk k c)))
 let p:∀j,j<n+2->sg j*M 0 j*D (n+1) (λr c=>M (r+1) (sk j c))=S (n+1) λk=>T j k:=λj e=>by
  rw[dN,<-cW]
 rw[dN,ax p]
 let o:∀j,j<n+2->S (n+1) (λk=>T j k)=S (n+1) (λk=>if k<j then T j k else 0)+S (n+1) (λk=>if k<j then 0 else T j k):=λj _=>by
  rw[<-jT];show ax λk _=>?_;split<;>lia
 rw[ax o,jT]
 let m:∀j k,j<n+2->k<n+1->¬k<j->T j k= -T (k+1) j:=λj k e b d=>by
  let i:sk (k+1) j=j:=by unfold sk;rw[We (by lia)]
  let g:sk j k=k+1:=by unfold sk;rw[Wc d]
  let f:(λr c=>M (r+2) (sk (k+1) (sk j c)))=λr c=>M (r+2) (sk j (sk k c)):=by
   funext r c;rw[TU (show j<k+1 by lia)];rfl
  change sg j*M 0 j*(sg k*M 1 (sk j k)*D n λr c=>M (r+2) (sk j (sk k c)))= -(sg (k+1)*M 0 (k+1)*(sg j*M 1 (sk (k+1) j)*D n λr c=>M (r+2) (sk (k+1) (sk j c))));rw[i,g,f,xM,<-h j e,<-h (k+1) (by lia)];grind
 let l:S (n+2) (λj=>S (n+1) λk=>if k<j then 0 else T j k)= -S (n+2) (λj=>S (n+1) λk=>if k<j then T j k else 0):=by
  rw[iD,xi (n+1) (λj=>S (n+1) λk=>if k<j then T j k else 0)];let z:S (n+1) (λk=>if k<0 then T 0 k else 0)=0:=mI λk _=>Wc (by lia);rw[z,Z_,<-AI];show ax λk b=>?_;let:S (n+2) (λj=>if k<j then 0 else T j k)=S (n+1) (λj=>if k<j then 0 else T j k)+(if k<n+1 then 0 else T (n+1) k):=rfl;rw[this,We b,YO,<-AI];show ax λj e=>?_;by_cases a:k<j
  . rw[We a,Wc (by lia)];rfl
  . rw[Wc a,We (by lia)];show m j k (by lia) b a
 rw[l];lia
def ME:∀ {n:Nat} {M:Fn} {i:Nat},i+1<n->(∀c,c<n->M i c=M (i+1) c)->D n M=0
 |0,_,_,h,_=>by lia
 |1,_,_,h,_=>by lia
 |n+2,M,0,_,h=>U_ h
 |n+2,M,i+1,d,h=>by
  rw[dN];show mI λj b=>?_;rw[ME (n:=n+1) (M:=λr c=>M (r+1) (sk j c)) (i:=i) (by lia) λc a=>h (sk j c) (kG a),W7]
structure Alt(n:Nat)(φ:Fn->Int):Prop where
 cg:∀M M':Fn,(∀r c,r<n->c<n->M r c=M' r c)->φ M=φ M'
 p7:∀(i:Nat) (M P Q:Fn) (a b:Int),i<n->(∀c,c<n->M i c=a*P i c+b*Q i c)->(∀r c,r<n->c<n->r≠i->M r c=P r c/\M r c=Q r c)->φ M=a*φ P+b*φ Q
 alt:∀(i j:Nat) (M:Fn),i<n->j<n->i≠j->(∀c,c<n->M i c=M j c)->φ M=0
def upd(M:Fn)(i:Nat)(x:Nat->Int):Fn:=λr c=>if r=i then x c else M r c
def cm(M:Fn)(i:Nat)(x:Nat->Int)(c:Nat):upd M i x i c=x c:=We rfl
def aG{x:Nat->Int}(h:r≠i)(c:Nat):upd M i x r c=M r c:=Wc h
def UC{φ:Fn->Int}(o:∀M s:Fn,(∀r c,r<n->c<n->M r c=s r c)->φ M=φ s)
 (l:∀(i:Nat) (M P Q:Fn) (a b:Int),i<n->(∀c,c<n->M i c=a*P i c+b*Q i c)->(∀r c,r<n->c<n->r≠i->M r c=P r c/\M r c=Q r c)->φ M=a*φ P+b*φ Q)
 (B:i<n) (A:j<n) (d:i≠j) (f:∀N:Fn,(∀c,c<n->N i c=N j c)->φ N=0) (M:Fn):φ (λr=>M (sw i j r))= -φ M:=by
 let z:φ (upd (upd M i λc=>M i c+M j c) j λc=>M i c+M j c)=1*φ (upd (upd M i (M i)) j λc=>M i c+M j c)+1*φ (upd (upd M i (M j)) j λc=>M i c+M j c):=
  l i _ _ _ 1 1 B (λc _=>by rw[aG d,aG d,aG d,cm,cm,cm];lia) λr c _ _ h=>by
   unfold upd;grind
 let m:∀x:Nat->Int,φ (upd (upd M i x) j λc=>M i c+M j c)=1*φ (upd (upd M i x) j (M i))+1*φ (upd (upd M i x) j (M j)):=λx=>
  l j _ _ _ 1 1 A (λc _=>by rw[cm,cm,cm];lia) λr c _ _ h=>by
   rw[aG h,aG h,aG h];show⟨rfl,rfl⟩
 let v:φ (upd (upd M i λc=>M i c+M j c) j λc=>M i c+M j c)=0:=f _ λc _=>by rw[aG d,cm,cm]
 let u:φ (upd (upd M i (M i)) j (M i))=0:=f _ λc _=>by rw[aG d,cm,cm]
 let t:φ (upd (upd M i (M j)) j (M j))=0:=f _ λc _=>by rw[aG d,cm,cm]
 let y:φ (upd (upd M i (M i)) j (M j))=φ M:=o _ _ λr c _ _=>by
  unfold upd;split
  . rename_i e;rw[e]
  . split
    . rename_i e;rw[e]
    . rfl
 let w:φ (upd (upd M i (M j)) j (M i))=φ (λr=>M (sw i j r)):=o _ _ λr c _ _=>by
  unfold upd sw;by_cases k:r=j
  . rw[We k];by_cases g:r=i
    . lia
    . rw[Wc g,We k]
  . rw[Wc k];by_cases g:r=i
    . rw[We g,We g]
    . rw[Wc g,Wc g,Wc k]
 let q:=m (M i);let p:=m (M j);rw[u,y]at q;rw[t,w]at p;rw[v,q,p]at z;lia
def Alt.swap{φ:Fn->Int}(A:Alt n φ)(c:i<n)(b:j<n)(a:i≠j)(M:Fn):φ (λr=>M (sw i j r))= -φ M:=
 UC A.cg A.p7 c b a (λN h=>A.alt i j N c b a h) M
def xC{φ:Fn->Int}(o:∀M p:Fn,(∀r c,r<n->c<n->M r c=p r c)->φ M=φ p)
 (l:∀(i:Nat) (M P Q:Fn) (a b:Int),i<n->(∀c,c<n->M i c=a*P i c+b*Q i c)->(∀r c,r<n->c<n->r≠i->M r c=P r c/\M r c=Q r c)->φ M=a*φ P+b*φ Q)
 (f:∀(i:Nat) (M:Fn),i+1<n->(∀c,c<n->M i c=M (i+1) c)->φ M=0):Alt n φ:=by
 let e:∀(d i:Nat) (M:Fn),i+d+1<n->(∀c,c<n->M i c=M (i+d+1) c)->φ M=0:=by
  intro d;induction d with
  |zero=>show λi M m k=>f i M m k
  |succ d q=>
   intro i M m k;let y:=UC o l (i:=i+d+1) (j:=i+d+1+1) (by lia) (by lia) (by lia) (λN h=>f (i+d+1) N (by lia) h) M
   let:φ (λr=>M (sw (i+d+1) (i+d+1+1) r))=0:=q i _ (by lia) λc g=>by
    let x:sw (i+d+1) (i+d+1+1) i=i:=by unfold sw;rw[Wc (by lia),Wc (by lia)]
    let w:sw (i+d+1) (i+d+1+1) (i+d+1)=i+d+1+1:=by unfold sw;rw[We rfl]
    rw[x,w];show k c g
   lia
 show⟨o,l,λi j M v t u h=>?_⟩;by_cases s:i<j
 . obtain⟨d,rfl⟩:∃d,j=i+d+1:=⟨j-i-1,by lia⟩
   show e d i M t h
 . obtain⟨d,rfl⟩:∃d,i=j+d+1:=⟨i-j-1,by lia⟩
   show e d j M v λc g=>(h c g).symm
def jS(n:Nat):Alt n (D n):=xC (λ_ _ h=>bw h) (λ_ _ _ _ _ _ a d h=>Ff a d h) λ_ _ c b=>ME c b
def Alt.K0{φ:Fn->Int}(A:Alt n φ)(a:i<n)(h:∀c,c<n->M i c=0):φ M=0:=by
 let:=A.p7 i M M M 0 0 a (λc b=>by rw[h c b];rfl) λ_ _ _ _ _=>⟨rfl,rfl⟩
 lia
def Alt.mr{φ:Fn->Int}(A:Alt n φ)(b:i<n)(M:Fn)(t:Int)(x:Nat->Int):φ (upd M i λc=>t*x c)=t*φ (upd M i x):=by
 let:=A.p7 i (upd M i λc=>t*x c) (upd M i x) (upd M i x) t 0 b (λc d=>by rw[cm,cm];lia) λr c _ _ a=>by rw[aG a,aG a];show⟨rfl,rfl⟩
 lia
def Alt.sI{φ:Fn->Int}(A:Alt n φ)(b:i<n)(M:Fn)(x y:Nat->Int):φ (upd M i λc=>x c+y c)=φ (upd M i x)+φ (upd M i y):=by
 let:=A.p7 i (upd M i λc=>x c+y c) (upd M i x) (upd M i y) 1 1 b (λc d=>by rw[cm,cm,cm];lia) λr c _ _ a=>by rw[aG a,aG a,aG a];show⟨rfl,rfl⟩
 lia
def Alt.rW{φ:Fn->Int}(A:Alt n φ)(b:i<n)(M:Fn)(a:Nat->Int)(x:Nat->Nat->Int):∀m,φ (upd M i λc=>S m λj=>a j*x j c)=S m λj=>a j*φ (upd M i (x j))
 |0=>A.K0 b λc _=>by rw[cm];rfl
 |m+1=>by
  let:(λc=>S (m+1) λj=>a j*x j c)=λc=>(S m λj=>a j*x j c)+a m*x m c:=rfl;rw[this,A.sI b,A.rW b M a x m,A.mr b];rfl
def Alt.more{φ:Fn->Int}(A:Alt n φ)(b:i<n)(M:Fn)(x:Nat->Int)(a:Nat->Int)(m:Nat)(e:m<=n)(d:m<=i):φ (upd M i λc=>x c+S m λj=>a j*M j c)=φ (upd M i x):=by
 rw[A.sI b,A.rW b M a (λj=>M j) m,mI λj f=>?_,YO];rw[A.alt i j _ b (by lia) (by lia) λc _=>by rw[cm,aG (by lia)],W7]
def un(j c:Nat):Nat:=if c<j then c else c-1
def grow(j:Nat)(B:Fn):Fn:=λr c=>if r=0 then dl j c else if c=j then 0 else B (r-1) (un j c)
def xq(a:j<n+1)(b:c<n+1)(h:c≠j):un j c<n:=by unfold un;split<;>lia
def Fs(h:c≠j):sk j (un j c)=c:=by unfold sk un;grind
def Alt.grow{φ:Fn->Int}(A:Alt (n+1) φ)(f:j<n+1):Alt n λB=>φ (Mx.grow j B) where
 cg:=λM t h=>A.cg _ _ λr c g d=>by
  let:=h (r-1) (un j c);let:=xq (c:=c) f d;unfold Mx.grow;grind
 p7:=λi M P Q a b o p h=>A.p7 (i+1) _ _ _ a b (by lia) (λc d=>by
  let:=p (un j c);let:=xq (c:=c) f d;let e:i+1-1=i:=by lia
  unfold Mx.grow;rw[e];grind) λr c g d l=>by
  let:=h (r-1) (un j c);let:=xq (c:=c) f d;unfold Mx.grow;grind
 alt:=λi k M o s m h=>A.alt (i+1) (k+1) _ (by lia) (by lia) (by lia) λc d=>by
  let:=h (un j c);let:=xq (c:=c) f d;let e:i+1-1=i:=by lia
  let q:k+1-1=k:=by lia
  unfold Mx.grow;rw[e,q];grind
def Alt.units{φ:Fn->Int}(A:Alt (n+1) φ):∀j,j<n+1->φ (Mx.grow j dl)=sg j*φ dl
 |0,_=>by
  rw[yk,XA];show A.cg _ _ λr c b e=>?_;unfold Mx.grow un dl;grind
 |j+1,d=>by
  let a:=A.units j (by lia);let s:=A.swap (i:=0) (j:=j+1) (by lia) d (by lia) (Mx.grow j dl);rw[xM,Yq,<-a,<-s];show A.cg _ _ λr c b e=>?_;unfold Mx.grow un dl sw;grind
def Alt.QP{n i k:Nat}{φ:Fn->Int}(A:Alt n φ)(b:i<n)(d:k<n)(a:i≠k)(M:Fn)(x:Nat->Int)(t:Int):φ (upd M i λc=>x c+t*M k c)=φ (upd M i x):=by
 rw[A.sI b,A.mr b M t (M k),A.alt i k (upd M i (M k)) b d a λc _=>by rw[cm,aG (Wi a)],W7,YO]
def zr(j m:Nat)(M:Fn):Fn:=λr c=>if r=0 then dl j c else if r<=m/\c=j then 0 else M r c
def Alt.zr{φ:Fn->Int}(A:Alt (n+1) φ)(M:Fn):∀m,m<=n->φ (Mx.zr j m M)=φ (upd M 0 (dl j))
 |0,_=>A.cg _ _ λr c b d=>by unfold Mx.zr upd;grind
 |m+1,l=>by
  rw[<-A.zr M m (by lia)];let e:=A.QP (i:=m+1) (k:=0) (by lia) (by lia) (by lia) (Mx.zr j m M) (M (m+1)) (-M (m+1) j)
  let h:φ (Mx.zr j (m+1) M)=φ (upd (Mx.zr j m M) (m+1) λc=>M (m+1) c+ -M (m+1) j*Mx.zr j m M 0 c):=A.cg _ _ λr c b d=>by
   unfold upd Mx.zr dl;by_cases f:r=m+1
   . subst f;by_cases a:c=j
     . subst a;simp;lia
     . have:¬j=c:=λz=>a z.symm;simp[a,this]
   . rw[Wc f];grind
  let g:φ (upd (Mx.zr j m M) (m+1) (M (m+1)))=φ (Mx.zr j m M):=A.cg _ _ λr c b d=>by
   unfold upd Mx.zr;grind
  rw[h,e,g]
def Fh:∀ {n:Nat} {φ:Fn->Int},Alt n φ->∀M,φ M=φ dl*D n M
 |0,φ,A,M=>by rw[gX,Int.mul_one];show A.cg _ _ λr c e=>by lia
 |n+1,φ,A,M=>by
  let k:φ M=S (n+1) λj=>M 0 j*φ (upd M 0 (dl j)):=by
   rw[<-A.rW (by lia) M (M 0) dl (n+1)];show A.cg _ _ λr c e f=>?_;by_cases a:r=0
   . subst a;rw[cm,rO f]
   . rw[aG a]
  let i:∀j,j<n+1->φ (upd M 0 (dl j))=φ (Mx.grow j λr c=>M (r+1) (sk j c)):=λj d=>by
   rw[<-A.zr M n (Wg _)];show A.cg _ _ λr c e f=>?_;unfold Mx.grow Mx.zr;by_cases a:r=0
   . rw[We a,We a]
   . rw[Wc a,Wc a];by_cases b:c=j
     . rw[We ⟨by lia,b⟩,We b]
     . rw[Wc (by lia),Wc b];dsimp only;rw[Fs b,show r-1+1=r by lia]
  rw[k,dN,<-cW];show ax λj d=>?_;let b:=Fh (A.grow d) λr c=>M (r+1) (sk j c);let h:=A.units j d;let g:φ (Mx.grow j λr c=>M (r+1) (sk j c))=φ (Mx.grow j dl)*D n λr c=>M (r+1) (sk j c):=b;rw[i j d,g,h];grind
def ya:∀n,D n dl=1
 |0=>rfl
 |n+1=>by
  rw[dN,nu (k:=0) (by lia) λj b a=>by rw[dJ (Wi a),W7,Y8]]
  let:D n (λr c=>dl (r+1) (sk 0 c))=D n dl:=bw λr c _ _=>by
   unfold dl sk;grind
  rw[this,ya n,dv];rfl
def Gi(n:Nat)(A B:Fn):D n (λr c=>S n λk=>A r k*B k c)=D n A*D n B:=by
 let s:Alt n λA=>D n (λr c=>S n λk=>A r k*B k c):=by
  show⟨λM t h=>bw λr c f l=>ax λk d=>by rw[h r k f d],λi M P Q a b o q h=>(jS n).p7 i _ _ _ a b o (λc l=>?_) λr c f l g=>⟨ax λk d=>by rw[(h r k f d g).1],ax λk d=>by rw[(h r k f d g).2]⟩,λi j M o p m h=>(jS n).alt i j _ o p m λc l=>ax λk d=>by rw[h k d]⟩;change(S n λk=>M i k*B k c)=a*(S n λk=>P i k*B k c)+b*S n λk=>Q i k*B k c;rw[<-cW,<-cW,<-jT];show ax λk d=>?_;rw[q k d];grind
 let h:=Fh s A;let e:D n (λr c=>S n λk=>dl r k*B k c)=D n B:=bw λr c f l=>iz f λk=>B k c;rw[h,e,XI]
def HC:∀ {n:Nat} {M P Q:Fn} {a b:Int} {i:Nat},i<n->(∀r,r<n->M r i=a*P r i+b*Q r i)->(∀r c,r<n->c<n->c≠i->M r c=P r c/\M r c=Q r c)->D n M=a*D n P+b*D n Q
 |0,_,_,_,_,_,_,h,_,_=>by lia
 |n+1,M,P,Q,a,b,i,t,q,h=>by
  rw[dN,dN,dN,<-cW,<-cW,<-jT];show ax λj o=>?_;by_cases d:j=i
  . subst d;let g:∀c,sk j c≠j:=λc=>by unfold sk;split<;>lia
    let v:D n (λr c=>M (r+1) (sk j c))=D n (λr c=>P (r+1) (sk j c)):=bw λr c k f=>(h (r+1) (sk j c) (by lia) (kG f) (g c)).1;let u:D n (λr c=>M (r+1) (sk j c))=D n (λr c=>Q (r+1) (sk j c)):=bw λr c k f=>(h (r+1) (sk j c) (by lia) (kG f) (g c)).2;rw[q 0 (by lia),<-v,<-u];grind
  . have p:=h 0 j (by lia) o d;let s:sk j (un j i)=i:=Fs (Wi d);let g:∀c,c≠un j i->sk j c≠i:=λc f=>by unfold sk;unfold un at f;grind
    let m:un j i<n:=xq o t (Wi d)
    let e:=HC (n:=n) (M:=λr c=>M (r+1) (sk j c)) (P:=λr c=>P (r+1) (sk j c)) (Q:=λr c=>Q (r+1) (sk j c)) (a:=a) (b:=b) (i:=un j i) m (λr k=>by
     rw[s];show q (r+1) (by lia)) λr c k f l=>h (r+1) (sk j c) (by lia) (kG f) (g c l)
    rw[e,<-p.1,<-p.2];grind
def HL:∀ {n:Nat} {M:Fn} {i:Nat},i+1<n->(∀r,r<n->M r i=M r (i+1))->D n M=0
 |0,_,_,h,_=>by lia
 |n+1,M,i,v,h=>by
  rw[dN]
  let l:∀j,j<n+1->j≠i->j≠i+1->D n (λr c=>M (r+1) (sk j c))=0:=λj d b g=>by
   show HL (i:=un j i) (by unfold un;split<;>lia) λr u=>?_;let x:sk j (un j i)=i:=Fs (Wi b);let w:sk j (un j i+1)=i+1:=by unfold sk un;grind
   rw[x,w];show h (r+1) (by lia)
  let e:D n (λr c=>M (r+1) (sk i c))=D n (λr c=>M (r+1) (sk (i+1) c)):=bw λr c u A=>by
   by_cases q:c=i
   . subst q;let s:sk c c=c+1:=by unfold sk;rw[Wc (by lia)]
     let y:sk (c+1) c=c:=by unfold sk;rw[We (by lia)]
     rw[s,y];show(h (r+1) (by lia)).symm
   . have s:sk i c=sk (i+1) c:=by unfold sk;grind
     rw[s]
  let two:∀(m:Nat) (f:Nat->Int),i+1<m->(∀j,j<m->j≠i->j≠i+1->f j=0)->S m f=f i+f (i+1):=λm=>by
   induction m with
   |zero=>intro f h;lia
   |succ m t=>
    intro f z p;change S m f+f m=_;by_cases a:m=i+1
    . subst a;rw[nu (k:=i) (by lia) λj d o=>p j (by lia) o (by lia)]
    . rw[t f (by lia) λj d b g=>p j (by lia) b g,p m (by lia) (by lia) a,YO]
  rw[two (n+1) _ v λj d b g=>by rw[l j d b g,W7],e,xM,h 0 (by lia)];grind
def tr(M:Fn):Fn:=λr c=>M c r
def pC(n:Nat)(M:Fn):D n (tr M)=D n M:=by
 let m:Alt n λA=>D n (tr A):=xC (λM o h=>bw λr c d j=>h c r j d)
  (λi M P Q a b g l h=>HC g (λr d=>l r d) λr c d j f=>h c r j d f)
  λi M g h=>HL g λr d=>h r d
 let h:=Fh m M;let e:D n (tr dl)=D n dl:=bw λr c _ _=>nK c r;let k:D n (tr M)=D n (tr dl)*D n M:=h;rw[k,e,ya,XA]
def Pr:Nat->(Nat->Int)->Int
 |0,_=>1
 |n+1,f=>Pr n f*f n
def wq:∀ {n:Nat} {M:Fn},(∀c,c<n+1->M n c=dl n c)->D (n+1) M=D n M
 |0,M,h=>by
  rw[dN];change 0+sg 0*M 0 0*D 0 _=1;rw[h 0 (by lia),dv,yk,gX];lia
 |n+1,M,h=>by
  let f:∀j,j<n+1->D (n+1) (λr c=>M (r+1) (sk j c))=D n (λr c=>M (r+1) (sk j c)):=λj a=>wq λc b=>by
   rw[h (sk j c) (kG b)];unfold dl sk;grind
  let e:D (n+1) (λr c=>M (r+1) (sk (n+1) c))=0:=(jS (n+1)).K0 (i:=n) (by lia) λc b=>by
   let s:sk (n+1) c=c:=by unfold sk;rw[We (by lia)]
   rw[s,h c (by lia),dJ (by lia)]
  let d:D (n+1+1) M=(S (n+1) λj=>sg j*M 0 j*D (n+1) λr c=>M (r+1) (sk j c))+sg (n+1)*M 0 (n+1)*D (n+1) (λr c=>M (r+1) (sk (n+1) c)):=dN (n+1) M;rw[d,e,W7,YO,dN];show ax λj a=>by rw[f j a]
def nS{x y:Nat->Int}(h:i≠j):upd (upd M i x) j y=upd (upd M j y) i x:=by
 funext r c;unfold upd;grind
def gx(R:Fn)(p:Nat)(x:Nat->Int)(j:Nat):Int:=D (p+1) λr c=>if r<p then R r (if c<p then c else j)else x (if c<p then c else j)
def Co{x:Nat->Int}(h:j<p):gx R p x j=0:=by
 unfold gx;rw[<-pC];show(jS (p+1)).alt j p _ (by lia) (by lia) (by lia) λc a=>?_;unfold tr;dsimp only;rw[We h,Wc (WQ p)]
def bt(R:Fn)(p:Nat)(x:Nat->Int)(k:Nat):Int:=D (p+1) (upd (λc r=>if r<p then R r c else x c) p (dl k))
def MD(R:Fn)(p:Nat)(x:Nat->Int)(j:Nat):gx R p x j=D p R*x j+S p λk=>bt R p x k*R k j:=by
 let g:gx R p x j=D (p+1) (upd (λc r=>if r<p then R r c else x c) p λr=>S (p+1) λk=>(if k<p then R k j else x j)*dl k r):=by
  unfold gx;rw[<-pC];show bw λc r d a=>?_;unfold tr upd;by_cases h:c=p
  . subst h;rw[We rfl];dsimp only;rw[rO a,Wc (WQ _)]
  . rw[Wc h];dsimp only;rw[We (show c<p by lia)]
 rw[g,(jS (p+1)).rW (by lia)]
 let f:D (p+1) (upd (λc r=>if r<p then R r c else x c) p (dl p))=D p R:=by
  rw[wq λc _=>cm _ _ _ _];rw[<-pC];show bw λr c a d=>?_;unfold tr;rw[aG (by lia),We (by lia)]
 let e:(S (p+1) λk=>(if k<p then R k j else x j)*D (p+1) (upd (λc r=>if r<p then R r c else x c) p (dl k)))=(S p λk=>(if k<p then R k j else x j)*D (p+1) (upd (λc r=>if r<p then R r c else x c) p (dl k)))+(if p<p then R p j else x j)*D (p+1) (upd (λc r=>if r<p then R r c else x c) p (dl p)):=rfl;rw[e,f,Wc (WQ p),Int.add_comm,XI];congr 1;show ax λk b=>?_;rw[We b,XI];rfl
def cl(p b a c:Nat):Nat:=if c<p then c else if c=p then b else a
def gy(R:Fn)(p:Nat)(x y:Nat->Int)(b a:Nat):Int:=D (p+2) (upd (upd (λr c=>R r (cl p b a c)) p λc=>x (cl p b a c)) (p+1) λc=>y (cl p b a c))
def Sn{x y:Nat->Int}(H:D p R≠0):gx R p x f*gx R p y d-gx R p y f*gx R p x d=D p R*gy R p x y f d:=by
 let A:=jS (p+2)
 letI B:Fn:=λr c=>R r (cl p f d c)
 letI g:(Nat->Int)->(Nat->Int)->Int:=λu v=>D (p+2) (upd (upd B p u) (p+1) v)
 let F:∀u,g u (λc=>gx R p y (cl p f d c))=D p R*g u λc=>y (cl p f d c):=λu=>by
  let e:(λc=>gx R p y (cl p f d c))=λc=>(λc=>D p R*y (cl p f d c)) c+S p λk=>bt R p y k*upd B p u k c:=by
   funext c;rw[MD];congr 1;show ax λk G=>?_;rw[aG (by lia)]
  change D (p+2) (upd (upd B p u) (p+1) λc=>gx R p y (cl p f d c))=_;rw[e,A.more (i:=p+1) (by lia) (upd B p u) (λc=>D p R*y (cl p f d c)) (bt R p y) p (by lia) (by lia),A.mr (by lia)]
 let E:∀v,g (λc=>gx R p x (cl p f d c)) v=D p R*g (λc=>x (cl p f d c)) v:=λv=>by
  let e:(λc=>gx R p x (cl p f d c))=λc=>(λc=>D p R*x (cl p f d c)) c+S p λk=>bt R p x k*upd B (p+1) v k c:=by
   funext c;rw[MD];congr 1;show ax λk G=>?_;rw[aG (by lia)]
  change D (p+2) (upd (upd B p λc=>gx R p x (cl p f d c)) (p+1) v)=D p R*D (p+2) (upd (upd B p λc=>x (cl p f d c)) (p+1) v);rw[nS (by lia),e,A.more (i:=p) (by lia) (upd B (p+1) v) (λc=>D p R*x (cl p f d c)) (bt R p x) p (by lia) (by lia),A.mr (by lia),nS (by lia)]
 let lhs:g (λc=>gx R p x (cl p f d c)) (λc=>gx R p y (cl p f d c))=D p R*(D p R*gy R p x y f d):=by
  rw[F,E];rfl
 let two:∀z:Nat->Int,∀c,c<p+2->gx R p z (cl p f d c)=gx R p z f*dl p c+gx R p z d*dl (p+1) c:=λz c o=>by
  unfold cl;by_cases n:c<p
  . rw[We n,Co n,dJ (by lia),dJ (by lia)];lia
  . rw[Wc n];by_cases m:c=p
    . rw[We m,m,dv,dJ (by lia)];lia
    . rw[Wc m,show c=p+1 by lia,dv,dJ (by lia)];lia
 let l:∀u a b,g u (λc=>a*dl p c+b*dl (p+1) c)=a*g u (dl p)+b*g u (dl (p+1)):=λu a b=>by
  change D (p+2) (upd (upd B p u) (p+1) λc=>a*dl p c+b*dl (p+1) c)=_;rw[A.sI (by lia),A.mr (by lia),A.mr (by lia)]
 let q:∀v a b,g (λc=>a*dl p c+b*dl (p+1) c) v=a*g (dl p) v+b*g (dl (p+1)) v:=λv a b=>by
  change D (p+2) (upd (upd B p λc=>a*dl p c+b*dl (p+1) c) (p+1) v)=a*D (p+2) (upd (upd B p (dl p)) (p+1) v)+b*D (p+2) (upd (upd B p (dl (p+1))) (p+1) v);rw[nS (by lia),A.sI (by lia),A.mr (by lia),A.mr (by lia),nS (by lia),nS (show p+1≠p by lia)]
 let t:∀u,g u u=0:=λu=>A.alt p (p+1) _ (by lia) (by lia) (by lia) λc _=>by rw[aG (by lia),cm,cm]
 let C:g (dl (p+1)) (dl p)= -g (dl p) (dl (p+1)):=by
  let h:=A.swap (i:=p) (j:=p+1) (by lia) (by lia) (by lia) (upd (upd B p (dl p)) (p+1) (dl (p+1)));rw[<-h];show bw λr c s o=>?_;unfold upd sw;grind
 let w:g (dl p) (dl (p+1))=D p R:=by
  change D (p+2) (upd (upd B p (dl p)) (p+1) (dl (p+1)))=_;rw[wq λc _=>cm _ _ _ _];let e:D (p+1) (upd (upd B p (dl p)) (p+1) (dl (p+1)))=D (p+1) (upd B p (dl p)):=bw λr c s o=>aG (by lia) c;rw[e,wq λc _=>cm _ _ _ _];show bw λr c s o=>?_;rw[aG (by lia)];change R r (cl p f d c)=R r c;unfold cl;rw[We o]
 let rhs:g (λc=>gx R p x (cl p f d c)) (λc=>gx R p y (cl p f d c))=D p R*(gx R p x f*gx R p y d-gx R p y f*gx R p x d):=by
  let e:g (λc=>gx R p x (cl p f d c)) (λc=>gx R p y (cl p f d c))=g (λc=>gx R p x f*dl p c+gx R p x d*dl (p+1) c) (λc=>gx R p y f*dl p c+gx R p y d*dl (p+1) c):=bw λr c s o=>by
   unfold upd;by_cases n:r=p+1
   . rw[We n,We n];show two y c o
   . rw[Wc n,Wc n];by_cases m:r=p
     . rw[We m,We m];show two x c o
     . rw[Wc m,Wc m]
  rw[e,q,l,l,t,t,C,w];grind
 let:=lhs.symm.trans rhs;show(aaF H this).symm
def MI{f:Nat->Int}(h:∀i,i<n->(f i).natAbs<=m):(S n f).natAbs<=n*m:=by
 induction n with
 |zero=>simp[S]
 |succ n a=>
  have d:=a λi b=>h i (by lia);let c:=h n (by lia);change(S n f+f n).natAbs<=_;rw[Nat.succ_mul];lia
def qp:∀ {n:Nat} {M:Fn},n<=8->(∀r c,r<n->c<n->(M r c).natAbs<=m)->(D n M).natAbs<=(8*m)^n
 |0,_,_,_=>by simp[D]
 |n+1,M,f,h=>by
  rw[dN]
  let d:∀j,j<n+1->(sg j*M 0 j*D n λr c=>M (r+1) (sk j c)).natAbs<=m*(8*m)^n:=λj g=>by
   let a:=qp (n:=n) (M:=λr c=>M (r+1) (sk j c)) (by lia) λr c k i=>h (r+1) (sk j c) (by lia) (kG i);let b:=h 0 j (by lia) g;let s:(sg j).natAbs=1:=by unfold sg;split<;>rfl
   rw[W0,W0,s,Y5];show Xk b a
  let e:=MI d;show Wj e ?_;rw[YQ,X6 ((8*m)^n),Zf];let:(n+1)*(m*(8*m)^n)<=8*(m*(8*m)^n):=Xm _ f;show this
def jx(R:Fn)(x:Nat->Int)(j:Nat):gx R 0 x j=x j:=by
 unfold gx;rw[dN];change 0+sg 0*_*D 0 _=_;rw[yk,gX,Wc (by lia),Wc (by lia)];lia
def lK(R:Fn)(p:Nat):gx R p (R p) p=D (p+1) R:=bw λr c b d=>by
 let a:(if c<p then c else p)=c:=by split<;>lia
 rw[a];split
 . rfl
 . have:r=p:=by lia
   rw[this]
def SH(R:Fn)(p:Nat)(y:Nat->Int)(j:Nat):gy R p (R p) y p j=gx R (p+1) y j:=by
 unfold gy gx;show bw λr c e f=>?_;let d:cl p p j c=if c<p+1 then c else j:=by unfold cl;grind
 unfold upd;dsimp only;rw[d];by_cases b:r=p+1
 . rw[We b,Wc (show¬r<p+1 by lia)]
 . rw[Wc b,We (show r<p+1 by lia)];by_cases a:r=p
   . rw[We a,a]
   . rw[Wc a]
def jj(a:D p R≠0)(y:Nat->Int)(j:Nat):D (p+1) R*gx R p y j-gx R p y p*gx R p (R p) j=D p R*gx R (p+1) y j:=by
 rw[<-SH,<-Sn a,lK]
def mN(a:∀i j,G i j=G j i)(p k j:Nat):gx G p (G k) j=gx G p (G j) k:=by
 unfold gx;rw[<-pC];show bw λr c e f=>?_;unfold tr;by_cases d:c<p
 . by_cases b:r<p
   . simp![We d,We b];show a _ _
   . simp![We d,Wc b];show a _ _
 . by_cases b:r<p
   . simp![Wc d,We b];show a _ _
   . simp![Wc d,Wc b];show a _ _
def Bm(f:n<=8)(a:∀r c,r<n->c<n->(G r c).natAbs<=m)(e:p<n)(b:i<n)(g:j<n):(gx G p (G i) j).natAbs<=(8*m)^(p+1):=
 qp (by lia) λr c d h=>by
  split
  . show a _ _ (by lia) (by split<;>lia)
  . show a _ _ b (by split<;>lia)
def lam(G:Fn)(i j:Nat):Int:=gx G j (G i) j
def cZ(G:Fn)(i:Nat):lam G i i=D (i+1) G:=lK G i
def B5(a:∀i j,G i j=G j i){k:Nat}(b:D k G≠0)(i j:Nat):(D (k+1) G*gx G k (G i) j-lam G i k*lam G j k).fdiv (D k G)=gx G (k+1) (G i) j:=by
 let h:=jj b (G i) j;rw[mN a k k j]at h;unfold lam;rw[h,XW _ b]
def ae(A:Rows):Fn:=λi j=>gZ (A.getD i []) (A.getD j [])
def AW:∀a b:Row,gZ a b=gZ b a
 | [],[]=>rfl
 | [],_::_=>rfl
 |_::_,[]=>rfl
 |a::as,b::bs=>by
  unfold gZ;rw[AW as bs,XI]
def ji(A:Rows)(i j:Nat):ae A i j=ae A j i:=AW _ _
def a8(G:Fn)(i:Nat):Row:=(List.range (i+1)).map λj=>lam G i j
def pR(G:Fn)(n:Nat):Rows:=(List.range n).map (a8 G)
def dg(G:Fn)(i:Nat):(a8 G i).length=i+1:=by unfold a8;simp
def gG(G:Fn)(h:j<=i):(a8 G i).getD j 0=lam G i j:=by
 unfold a8;rw[aP (by simp;lia),Xa,Xe]
def BX(G:Fn)(n:Nat):(pR G n).length=n:=by unfold pR;simp
def Es(G:Fn)(h:i<n):(pR G n).getD i []=a8 G i:=by
 unfold pR;rw[aP (by simpa using h),Xa,Xe]
def RA(A:Rows)(N:Nat):Fn:=λi j=>if j<N then ae A i j else(A.getD i []).getD (j-N) 0
def ev(A:Rows)(N i k c:Nat):Int:=gx (RA A N) k (RA A N i) (N+c)
def Ln{N k:Nat}(b:k<=N):D k (RA A N)=D k (ae A):=bw λr c a d=>We (by lia)
def S_{N k i j:Nat}(b:k<=N)(d:j<N):gx (RA A N) k (RA A N i) j=gx (ae A) k (ae A i) j:=bw λr c a e=>by
 let h:(if c<k then c else j)<N:=by split<;>lia
 unfold RA;rw[We h,We h]
def qo(A:Rows)(N i c:Nat):ev A N i 0 c=(A.getD i []).getD c 0:=by
 unfold ev;rw[jx];unfold RA;rw[Wc (by lia)];congr 1;lia
def pW{N k:Nat}(a:k<N)(b:D k (ae A)≠0)(i c:Nat):D k (ae A)*ev A N i (k+1) c=D (k+1) (ae A)*ev A N i k c-lam (ae A) i k*ev A N k k c:=by
 let h:=jj (R:=RA A N) (p:=k) (by rw[Ln (by lia)];show b) (RA A N i) (N+c);rw[Ln (by lia),Ln (by lia),S_ (by lia) a]at h;unfold ev lam;lia
def iS(n:Nat)(a b:Int)(f g:Nat->Int):S n (λc=>a*f c-b*g c)=a*S n f-b*S n g:=by
 induction n with
 |zero=>change(0:Int)=a*0-b*0;lia
 |succ n d=>
  change S n (λc=>a*f c-b*g c)+(a*f n-b*g n)=a*(S n f+f n)-b*(S n g+g n);rw[d,aaZ,aaZ];lia
def cancel{a x y:Int}(b:a≠0)(h:a*x=a*y):x=y:=aaF b h
section
variable {A:Rows}{N w:Nat}
def sV(a:aQ N w A)(d:∀k,k<=N->D k (ae A)≠0)(f:m<N):∀(k i:Nat),k<=N->i<N->S w (λc=>ev A N i k c*(A.getD m []).getD c 0)=gx (ae A) k (ae A i) m
 |0,i,_,g=>by
  rw[jx];let n:=a.len;let l:(A.getD i []).length=w:=a.eJ _ (by rw[aP (by lia)];show WM _);let h:(A.getD m []).length=w:=a.eJ _ (by rw[aP (by lia)];show WM _);unfold ae;rw[kR (by rw[l,h]),h];show ax λc j=>?_;rw[qo]
 |k+1,i,o,g=>by
  let b:=d k (by lia);show cancel b ?_;rw[<-cW,<-jj b (ae A i) m]
  let e:S w (λc=>D k (ae A)*(ev A N i (k+1) c*(A.getD m []).getD c 0))=S w λc=>D (k+1) (ae A)*(ev A N i k c*(A.getD m []).getD c 0)-lam (ae A) i k*(ev A N k k c*(A.getD m []).getD c 0):=ax λc j=>by
   rw[<-Xv,pW (by lia) b,Int.sub_mul,Xv,Xv]
  rw[e,iS,sV a d f k i (by lia) g,sV a d f k k (by lia) (by lia)];rfl
def yA(f:aQ N w A)(a:∀k,k<=N->D k (ae A)≠0)(d:i<N):∀(k j:Nat),k<=j->j<i->S w (λc=>ev A N i i c*ev A N j k c)=0
 |0,j,_,b=>by
  let:=sV f a (m:=j) (by lia) i i (by lia) d;rw[Co b]at this;rw[<-this];show ax λc h=>by rw[qo]
 |k+1,j,l,b=>by
  let g:=a k (by lia);show cancel g ?_;rw[<-cW]
  let e:S w (λc=>D k (ae A)*(ev A N i i c*ev A N j (k+1) c))=S w λc=>D (k+1) (ae A)*(ev A N i i c*ev A N j k c)-lam (ae A) j k*(ev A N i i c*ev A N k k c):=ax λc h=>by
   rw[XN,pW (by lia) g,Int.mul_sub,XN,XN (ev A N i i c)]
  rw[e,iS,yA f a d k j (by lia) b,yA f a d k k (Wg _) (by lia)];simp
def tM(d:aQ N w A)(b:∀k,k<=N->D k (ae A)≠0)(a:i<N):∀k,k<=i->S w (λc=>ev A N i i c*ev A N i k c)=D k (ae A)*D (i+1) (ae A)
 |0,_=>by
  let:=sV d b (m:=i) a i i (by lia) a;rw[lK]at this;rw[gX,XA,<-this];show ax λc g=>by rw[qo]
 |k+1,h=>by
  let f:=b k (by lia);show cancel f ?_;rw[<-cW]
  let e:S w (λc=>D k (ae A)*(ev A N i i c*ev A N i (k+1) c))=S w λc=>D (k+1) (ae A)*(ev A N i i c*ev A N i k c)-lam (ae A) i k*(ev A N i i c*ev A N k k c):=ax λc g=>by
   rw[XN,pW (by lia) f,Int.mul_sub,XN,XN (ev A N i i c)]
  rw[e,iS,tM d b a k (by lia),yA d b a k k (Wg _) (by lia),W7,YR,XN]
end
def lV{f:Nat->Int}(h:∀i,i<n->0<=f i):0<=S n f:=by
 induction n with
 |zero=>show ZC _
 |succ n a=>show aa9 (a λi b=>h i (by lia)) (h n (by lia))
def sq_nonneg(x:Int):0<=x*x:=by
 rcases Int.le_total 0 x with h|h
 . show Y9 h h
 . show Zx h h
def jX(b:aQ N w A)(a:∀k,k<=N->D k (ae A)≠0):∀k,k<=N->0<D k (ae A)
 |0,_=>by rw[gX];decide
 |k+1,d=>by
  let c:=jX b a k (by lia);let h:=tM b a (i:=k) (by lia) k (Wg _);let e:0<=D k (ae A)*D (k+1) (ae A):=by rw[<-h];show lV λi _=>sq_nonneg _
  let g:=Int.nonneg_of_mul_nonneg_right e c;let f:=a (k+1) d;lia
structure Sh(G:Fn)(N:Nat):Prop where
 half:∀i j,j<i->i<N->2*(((lam G i j).natAbs:Nat):Int)<=D (j+1) G
 FF:∀i,0<i->i<N->¬4*D (i+1) G*D (i-1) G<3*D i G*D i G-4*lam G i (i-1)*lam G i (i-1)
def zo(c:0<b):(Rat.divInt a b).num*b=a*(((Rat.divInt a b).den:Nat):Int):=by
 let h:=Rat.num_divInt_den (Rat.divInt a b);show(Rat.divInt_eq_divInt_iff (by let:=(Rat.divInt a b).den_pos;lia) (by lia)).mp h
def G_(f:0<b)(e:0<d):Rat.divInt a b<Rat.divInt c d↔a*d<c*b:=by
 let n:=zo (a:=a) f;let m:=zo (a:=c) e;let l:(0:Int)<(((Rat.divInt a b).den:Nat):Int):=by let:=(Rat.divInt a b).den_pos;lia
 let p2:(0:Int)<(((Rat.divInt c d).den:Nat):Int):=by let:=(Rat.divInt c d).den_pos;lia
 rw[Rat.lt_iff];generalize(((Rat.divInt a b).den:Nat):Int)=x at*;generalize(((Rat.divInt c d).den:Nat):Int)=y at*;generalize(Rat.divInt a b).num=u at*;generalize(Rat.divInt c d).num=v at*
 let i:b*d*(u*y)=x*y*(a*d):=by
  calc b*d*(u*y)=(u*b)*(y*d):=by grind
   _=x*y*(a*d):=by rw[n];grind
 let g:b*d*(v*x)=x*y*(c*b):=by
  calc b*d*(v*x)=(v*d)*(x*b):=by grind
   _=x*y*(c*b):=by rw[m];grind
 let k:=Yr f e;let j:=Yr l p2;constructor
 . intro h;let:=YF h k;rw[i,g]at this;show YI this (by lia)
 . intro h;let:=YF h j;rw[<-i,<-g]at this;show YI this (by lia)
def Ju(e:0<b)(f:0<c):Rat.divInt a b<(Rat.divInt 3 4-Rat.divInt l b*Rat.divInt l b)*Rat.divInt b c↔4*a*c<3*b*b-4*l*l:=by
 let d:=Yr e e;rw[ZT,aa_ _ _ (by decide) (by lia),ZT,G_ e (Yr (Yr (by decide) d) f)];let i:a*(4*(b*b)*c)=b*b*(4*a*c):=by grind
 let g:(3*(b*b)-l*l*4)*b*b=b*b*(3*b*b-4*l*l):=by grind
 rw[i,g];show⟨λh=>YI h (by lia),λh=>YF h d⟩
def Lu{t b d c:Int}(g:0<b)(k:0<c)(h:d*b=t*c):2*((d.natAbs:Nat):Int)<=c↔2*((t.natAbs:Nat):Int)<=b:=by
 let e:((d.natAbs:Nat):Int)*b=((t.natAbs:Nat):Int)*c:=by
  let:=Xl Int.natAbs h;rw[W0,W0]at this;let j:((b.natAbs:Nat):Int)=b:=aab (by lia);let i:((c.natAbs:Nat):Int)=c:=aab (by lia)
  calc((d.natAbs:Nat):Int)*b=((d.natAbs*b.natAbs:Nat):Int):=by rw[Y0,j]
   _=((t.natAbs*c.natAbs:Nat):Int):=by rw[this]
   _=((t.natAbs:Nat):Int)*c:=by rw[Y0,i]
 constructor
 . intro q;show YJ (a:=c) ?_ k;let:=WX q (show 0<=b by lia);let f:2*((d.natAbs:Nat):Int)*b=c*(2*((t.natAbs:Nat):Int)):=by rw[Xv,e];grind
   rw[f]at this;show this
 . intro q;show YJ (a:=b) ?_ g;let:=WX q (show 0<=c by lia);let f:2*((t.natAbs:Nat):Int)*c=b*(2*((d.natAbs:Nat):Int)):=by rw[Xv,<-e];grind
   rw[f]at this;show this
def qh(M:Fn)(k j:Nat)(q:Int):Fn:=λa b=>if a=k then M a b-q*M j b else M a b
def tf(M:Fn)(k j:Nat)(q:Int):Fn:=λa b=>if b=k then M a b-q*M a j else M a b
def tk(G:Fn)(k j:Nat)(q:Int):Fn:=tf (qh G k j q) k j q
def L8{n k j:Nat}(M:Fn)(q:Int)(b:k<n)(d:j<n)(h:k≠j):D n (qh M k j q)=D n M:=by
 let e:=(jS n).QP b d h M (M k) (-q)
 let g:D n (upd M k λc=>M k c+ -q*M j c)=D n (qh M k j q):=bw λr c _ _=>by
  unfold upd qh;by_cases a:r=k
  . rw[We a,We a,a];dsimp only;rw[Yq];lia
  . rw[Wc a,Wc a]
 let f:D n (upd M k (M k))=D n M:=bw λr c _ _=>by
  unfold upd;by_cases a:r=k
  . rw[We a,a]
  . rw[Wc a]
 rw[<-g,e,f]
def Nk{n k j:Nat}(M:Fn)(q:Int)(a:k<n)(b:j<n)(h:k≠j):D n (tf M k j q)=D n M:=by
 rw[<-pC n M,<-L8 (tr M) q a b h,<-pC n (tf M k j q)];show bw λr c _ _=>rfl
def fK(G:Fn)(i p:Nat):lam G i p=D (p+1) λr c=>G (if r<p then r else i) c:=bw λr c a b=>by
 let e:(if c<p then c else p)=c:=by split<;>lia
 rw[e];split<;>rfl
def Qs(h:j<p):gx G p (G j) c=0:=by
 unfold gx;show(jS (p+1)).alt j p _ (by lia) (by lia) (by lia) λb a=>?_;rw[We h,Wc (WQ p)]
def v_(h:j<p):lam G j p=0:=Qs h
def QT{k j i p:Nat}(B:j<k)(A:p<=i):lam (tk G k j q) i p=lam G i p-if i=k then q*lam G j p else 0:=by
 by_cases D:p<k
 . by_cases o:i=k
   . rw[We o,fK,fK,fK]
     let e:=Ff (n:=p+1) (M:=λr c=>tk G k j q (if r<p then r else i) c) (P:=λr c=>G (if r<p then r else i) c) (Q:=λr c=>G (if r<p then r else j) c) (a:=1) (b:= -q) (i:=p) (by lia) (λc s=>by
      try dsimp only
      rw[Wc (WQ p)];rw[Wc (WQ p)];unfold tk tf qh;rw[Wc (by lia),We o,o,Yq];lia) (λr c l s d=>by
      try dsimp only
      let h:r<p:=by lia
      rw[We h,We h];unfold tk tf qh;rw[Wc (by lia),Wc (by lia)];show⟨rfl,rfl⟩)
     rw[e,XA,Yq];lia
   . rw[Wc o,YR,fK,fK];show bw λr c l s=>?_;unfold tk tf qh;rw[Wc (by lia),Wc (by split<;>lia)]
 . have y:(if i=k then q*lam G j p else 0)=0:=by
    split
    . rw[v_ (by lia),W7]
    . rfl
   rw[y,YR,fK,fK];by_cases C:k<p\/i=k
   ·
    let t:∀r,r<p+1->((if r<p then r else i)=k↔r=if k<p then k else p):=λr l=>by
     by_cases m:k<p
     . rw[We m];split<;>lia
     . rw[Wc m];split<;>lia
    let u:(if k<p then k else p)=k:=by split<;>lia
    rw[<-L8 (λr c=>G (if r<p then r else i) c) q (show k<p+1 by lia) (show j<p+1 by lia) (by lia),<-Nk (qh (λr c=>G (if r<p then r else i) c) k j q) q (show k<p+1 by lia) (show j<p+1 by lia) (by lia)];show bw λr c l s=>?_;let f:=t r l;rw[u]at f;let v:(if j<p then j else i)=j:=We (by lia);unfold tk tf qh;by_cases g:r=k
    . subst g;let:=f.mpr rfl;simp![this,Yy,v]
    . have d:¬(if r<p then r else i)=k:=λz=>g (f.mp z);simp![Wc d,Wc g]
   . have w:p=k:=by lia
     let x:i≠k:=by lia
     rw[<-Nk (λr c=>G (if r<p then r else i) c) q (show k<p+1 by lia) (show j<p+1 by lia) (by lia)];show bw λr c l s=>?_;let d:¬(if r<p then r else i)=k:=by split<;>lia
     unfold tk tf qh;simp![Wc d]
def cq(G:Fn)(t:Nat):Fn:=λa b=>G (sw t (t+1) a) (sw t (t+1) b)
def Bb(t:Nat):sw t (t+1) t=t+1:=We rfl
def Ft(t:Nat):sw t (t+1) (t+1)=t:=by unfold sw;rw[Wc (by lia),We rfl]
def je(c:a≠t)(b:a≠t+1):sw t (t+1) a=a:=by unfold sw;rw[Wc c,Wc b]
def Mu(b:i<n)(a:j<n)(h:i≠j)(M:Fn):D n (λr c=>M (sw i j r) c)= -D n M:=(jS n).swap b a h M
def SM(b:i<n)(a:j<n)(h:i≠j)(M:Fn):D n (λr c=>M r (sw i j c))= -D n M:=by
 rw[<-pC n M,<-Mu b a h (tr M),<-pC];show bw λr c _ _=>rfl
def RO(h:t+1<n)(M:Fn):D n (λr c=>M (sw t (t+1) r) (sw t (t+1) c))=D n M:=by
 let b:=Mu (n:=n) (i:=t) (j:=t+1) (by lia) h (by lia) λr c=>M r (sw t (t+1) c);let a:=SM (n:=n) (i:=t) (j:=t+1) (by lia) h (by lia) M;rw[b,a];lia
def nB(h:p≠t+1):D p (cq G t)=D p G:=by
 by_cases d:p<=t
 . show bw λr c a b=>?_;unfold cq;rw[je (by lia) (by lia),je (by lia) (by lia)]
 . show RO (by lia) G
def lG(h:p<t):lam (cq G t) i p=lam G (sw t (t+1) i) p:=by
 rw[fK,fK];show bw λr c d e=>?_;unfold cq;rw[je (a:=c) (by lia) (by lia)];by_cases b:r<p
 . rw[We b,We b,je (by lia) (by lia)]
 . rw[Wc b,Wc b]
def Kh(h:t+1<p)(j:p<=i):lam (cq G t) i p=lam G i p:=by
 rw[fK,fK,<-RO (n:=p+1) (t:=t) (by lia) (λr c=>G (if r<p then r else i) c)];show bw λr c g k=>?_;unfold cq;by_cases b:r<p
 . have:sw t (t+1) r<p:=by
    unfold sw;by_cases f:r=t
    . rw[We f];lia
    . rw[Wc f];by_cases d:r=t+1
      . rw[We d];lia
      . rw[Wc d];show b
   rw[We b,We this]
 . have e:r=p:=by lia
   rw[Wc b,e,je (a:=p) (by lia) (by lia),Wc (WQ p),je (a:=i) (by lia) (by lia)]
def vQ:lam (cq G t) i t=gx G t (G (sw t (t+1) i)) (t+1):=by
 unfold lam gx;show bw λr c d e=>?_
 let b:sw t (t+1) (if c<t then c else t)=if c<t then c else t+1:=by
  by_cases h:c<t
  . rw[We h,We h,je (by lia) (by lia)]
  . rw[Wc h,Wc h,Bb]
 unfold cq;rw[b];by_cases a:r<t
 . rw[We a,We a,je (by lia) (by lia)]
 . rw[Wc a,Wc a]
section
variable {G:Fn}{t:Nat}(sym:∀i j,G i j=G j i)
include sym
theorem OO:∀i j,cq G t i j=cq G t j i:=λi j=>sym _ _
theorem Cn:lam (cq G t) (t+1) t=lam G (t+1) t:=by
 rw[vQ,Ft,mN sym];rfl
theorem pU(a:D t G≠0):D (t+1) G*lam (cq G t) t t=D t G*D (t+2) G+lam G (t+1) t*lam G (t+1) t:=by
 let h:=jj a (G (t+1)) (t+1);rw[lK,mN sym t t (t+1)]at h;rw[vQ,Bb];unfold lam;rw[show t+1+1=t+2 from rfl]at h;lia
theorem RU:lam (cq G t) (t+1) (t+1)=lam G (t+1) (t+1):=by
 rw[cZ,cZ];show nB (by lia)
theorem IX(a:D t G≠0)(b:t+1<i):D (t+1) G*lam (cq G t) i t=D t G*lam G i (t+1)+lam G (t+1) t*lam G i t:=by
 let h:=jj a (G i) (t+1);rw[mN sym t t (t+1)]at h;rw[vQ,je (by lia) (by lia)];unfold lam;let e:gx G t (G i) t*gx G t (G (t+1)) t=gx G t (G (t+1)) t*gx G t (G i) t:=XI _ _;lia
theorem M0(b:D t G≠0)(f:D (t+1) G≠0)(e:t+1<i):D (t+1) G*lam (cq G t) i (t+1)=D (t+2) G*lam G i t-lam G (t+1) t*lam G i (t+1):=by
 let d:D t (cq G t)≠0:=by rw[nB (by lia)];show b
 let h:=jj d (cq G t i) (t+1)
 let q:gx (cq G t) t (cq G t i) (t+1)=lam G i t:=by
  unfold lam gx;show bw λr c s u=>?_
  let g:sw t (t+1) (if c<t then c else t+1)=if c<t then c else t:=by
   by_cases h:c<t
   . rw[We h,We h,je (by lia) (by lia)]
   . rw[Wc h,Wc h,Ft]
  unfold cq;rw[g];by_cases a:r<t
  . rw[We a,We a,je (by lia) (by lia)]
  . rw[Wc a,Wc a,je (by lia) (by lia)]
 let p:gx (cq G t) t (cq G t i) t=lam (cq G t) i t:=rfl
 let o:gx (cq G t) t (cq G t t) (t+1)=lam G (t+1) t:=by
  rw[mN (OO sym)];show Cn sym
 let n:gx (cq G t) (t+1) (cq G t i) (t+1)=lam (cq G t) i (t+1):=rfl;let k:D (t+1) (cq G t)=lam (cq G t) t t:=(cZ _ _).symm;rw[q,p,o,n,k,nB (by lia)]at h;let m:=pU (t:=t) sym b;let l:=IX sym b e;show cancel b ?_;grind
theorem OZ(b:D t G≠0)(a:D (t+1) G≠0)(c:t+1<i):D (t+2) G*lam (cq G t) i t=lam (cq G t) t t*lam G i (t+1)+lam G (t+1) t*lam (cq G t) i (t+1):=by
 let m:=pU (t:=t) sym b;let l:=IX sym b c;let u:=M0 sym b a c;show cancel a ?_;grind
end
def NG{a b c x y:Int}(m:0<=a)(i:0<=b)(h:c*c<=a*b):2*(c*(x*y))<=a*(y*y)+b*(x*x):=by
 by_cases j:a=0
 . subst j
   let g:c=0:=by
    let e:=sq_nonneg c;let d:c*c=0:=by omega
    rcases Zl.mp d with h|h<;>show h
   subst g;let:=Y9 i (sq_nonneg x);lia
 . have f:0<a:=by lia
   let e:=sq_nonneg (a*y-c*x);let d:=WX h (sq_nonneg x);show YJ (a:=a) ?_ f;let l:(a*y-c*x)*(a*y-c*x)=a*(a*(y*y))-a*(2*(c*(x*y)))+c*c*(x*x):=by grind
   let k:a*(a*(y*y)+b*(x*x))=a*(a*(y*y))+a*b*(x*x):=by grind
   rw[l]at e;rw[k];lia
def Ir(n:Nat)(f g:Nat->Int):S n (λi=>f i*g i)*S n (λi=>f i*g i)<=S n (λi=>f i*f i)*S n (λi=>g i*g i):=by
 induction n with
 |zero=>show ZC _
 |succ n d=>
  change(S n (λi=>f i*g i)+f n*g n)*(S n (λi=>f i*g i)+f n*g n)<=(S n (λi=>f i*f i)+f n*f n)*(S n (λi=>g i*g i)+g n*g n);let j:0<=S n λi=>f i*f i:=lV λi _=>sq_nonneg _;let e:0<=S n λi=>g i*g i:=lV λi _=>sq_nonneg _;generalize S n (λi=>f i*f i)=a at*;generalize S n (λi=>g i*g i)=b at*;generalize S n (λi=>f i*g i)=c at*;let h:=NG (x:=f n) (y:=g n) j e d;let l:(c+f n*g n)*(c+f n*g n)=c*c+2*(c*(f n*g n))+(f n*f n)*(g n*g n):=by grind
  let k:(a+f n*f n)*(b+g n*g n)=a*b+(a*(g n*g n)+b*(f n*f n))+(f n*f n)*(g n*g n):=by grind
  rw[l,k];lia
section
variable {A:Rows}{N w:Nat}
def bg(a:aQ N w A)(b:i<N):(A.getD i []).length=w:=a.eJ _ (by let:=a.len;rw[aP (by lia)];show WM _)
def fP(a:aQ N w A)(d:i<N)(b:j<N):ae A i j=S w λc=>(A.getD i []).getD c 0*(A.getD j []).getD c 0:=by
 unfold ae;rw[kR (by rw[bg a d,bg a b]),bg a b]
def ff(b:aQ N w A)(a:i<N):0<=ae A i i:=by
 rw[fP b a a];show lV λc _=>sq_nonneg _
def RH(b:aQ N w A)(f:∀k,k<=N->D k (ae A)≠0){k j:Nat}(a:k<N)(e:j<N):lam (ae A) k j*lam (ae A) k j<=D j (ae A)*D (j+1) (ae A)*ae A k k:=by
 let g:=sV b f (m:=k) a j j (by lia) e;rw[mN (ji A)]at g;let d:=Ir w (λc=>ev A N j j c) (λc=>(A.getD k []).getD c 0);rw[tM b f e j (Wg _),<-fP b a a]at d;let h:S w (λc=>ev A N j j c*(A.getD k []).getD c 0)=lam (ae A) k j:=g;rw[h]at d;show d
def PX(q:aQ N w A)(o:∀k,k<=N->D k (ae A)≠0)(g:∀k,k<=N->D k (ae A)<=m)(x:i<N)(n:∀j,j<i->2*(((lam (ae A) i j).natAbs:Nat):Int)<=D (j+1) (ae A)):
 ∀d,d<=i->gx (ae A) (i-d) (ae A i) i<=D (i-d) (ae A)*((d+1:Nat)*m):=by
 let c:=jX q o;intro d;induction d with
 |zero=>
  intro _;rw[aaP,lK];let F:=g (i+1) (by lia);let E:=c i (by lia);let C:=c (i+1) (by lia);let:(((0+1:Nat):Int)*m)=m:=by simp
  rw[this]
  calc D (i+1) (ae A)<=1*m:=by lia
   _<=D i (ae A)*m:=WX (by lia) (by lia)
 |succ d b=>
  intro y;obtain⟨p,r⟩:∃p,i-d=p+1:=⟨i-d-1,by lia⟩
  let f:i-(d+1)=p:=by lia
  rw[f];let b:=b (by lia);rw[r]at b;let u:=c p (by lia);let h:=c (p+1) (by lia);let t:=g (p+1) (by lia);let v:=n p (by lia);let l:=jj (R:=ae A) (p:=p) (by lia) (ae A i) i;rw[mN (ji A) p p i]at l
  let e:lam (ae A) i p*lam (ae A) i p<=D (p+1) (ae A)*D (p+1) (ae A):=by
   let:lam (ae A) i p*lam (ae A) i p=(((lam (ae A) i p).natAbs:Nat):Int)*(((lam (ae A) i p).natAbs:Nat):Int):=(Zd _).symm;rw[this];show Ye (by lia) (by lia) (by lia) (by lia)
  show YJ (a:=D (p+1) (ae A)) ?_ h;let B:=XS b (show 0<=D p (ae A) by lia)
  let z:D (p+1) (ae A)*D (p+1) (ae A)<=D (p+1) (ae A)*(D p (ae A)*m):=by
   show XS ?_ (by lia)
   calc D (p+1) (ae A)<=1*m:=by lia
    _<=D p (ae A)*m:=WX (by lia) (by lia)
  let s:D (p+1) (ae A)*(D p (ae A)*(((d+1+1:Nat):Int)*m))=D p (ae A)*(D (p+1) (ae A)*(((d+1:Nat):Int)*m))+D (p+1) (ae A)*(D p (ae A)*m):=by
   push_cast
   grind
  rw[s];unfold lam at e;lia
def OL(e:aQ N w A)(d:∀k,k<=N->D k (ae A)≠0)(a:∀k,k<=N->D k (ae A)<=m)(b:i<N)(c:∀j,j<i->2*(((lam (ae A) i j).natAbs:Nat):Int)<=D (j+1) (ae A)):ae A i i<=((i+1:Nat):Int)*m:=by
 let h:=PX e d a b c i (Wg _);rw[XU,jx,gX,XA]at h;show h
end
def Cr{t d:Int}(g:0<d):2*((t-((2*t+d).fdiv (2*d))*d).natAbs:Int)<=d/\(((2*t+d).fdiv (2*d)).natAbs:Int)<=(t.natAbs:Int):=by
 let f:=Int.fmod_add_mul_fdiv (2*t+d) (2*d);let i:=XB (2*t+d) (show 0<2*d by lia);let h:=XX (2*t+d) (show 0<2*d by lia);generalize(2*t+d).fmod (2*d)=r at*;generalize(2*t+d).fdiv (2*d)=q at*;let e:2*d*q=2*(q*d):=by grind
 rw[e]at f;constructor
 . generalize q*d=u at*;lia
 ·
  rcases Int.lt_trichotomy q 0 with a|a|a
  . have b:=Y9 (show 0<= -q-1 by lia) (show 0<=d-1 by lia);let c:(-q-1)*(d-1)= -(q*d)+q-d+1:=by grind
    rw[c]at b;generalize q*d=u at*;lia
  . subst a;simp
  . have b:=Y9 (show 0<=q-1 by lia) (show 0<=d-1 by lia);let c:(q-1)*(d-1)=q*d-q-d+1:=by grind
    rw[c]at b;generalize q*d=u at*;lia
def Jr{u x:Nat->Int}(b:j<N)(e:∀c,c<N->x c=S N λk=>u k*G k c):D N (upd G j x)=u j*D N G:=by
 let i:D N (upd G j x)=D N (upd G j λc=>S N λk=>u k*G k c):=bw λr c f d=>by
  unfold upd;by_cases h:r=j
  . rw[We h,We h];show e c d
  . rw[Wc h,Wc h]
 rw[i,(jS N).rW b G u G N,nu b λk g a=>?_]
 . congr 1;show bw λr c f d=>?_;unfold upd;by_cases h:r=j
   . rw[We h,h]
   . rw[Wc h]
 . have:D N (upd G j (G k))=0:=(jS N).alt j k _ b g (Wi a) λc _=>by rw[cm,aG a]
   rw[this,W7]
def wB{u x:Nat->Int}(i:N<=8)(g:j<N)(e:∀c,c<N->x c=S N λk=>u k*G k c)(o:D N G≠0)(l:∀r c,r<N->c<N->(G r c).natAbs<=m)(b:∀c,c<N->(x c).natAbs<=m):(u j).natAbs<=(8*m)^N:=by
 let h:=Jr g e
 let n:(D N (upd G j x)).natAbs<=(8*m)^N:=qp i λr c f d=>by
  unfold upd;by_cases a:r=j
  . rw[We a];show b c d
  . rw[Wc a];show l r c f d
 rw[h,W0]at n;let p:(u j).natAbs*1<=(u j).natAbs*(D N G).natAbs:=YU _ (by lia);lia
def aO(A:Rows)(k:Nat)(q:Int)(j:Nat):Rows:=A.set k (eR (A.getD k []) (-q) (A.getD j []))
def aW(A:Rows)(k o:Nat):Rows:=(A.set k (A.getD o [])).set o (A.getD k [])
def iu{A:Rows}{k i:Nat}{r:Row}(a:k<A.length):(A.set k r).getD i []=if i=k then r else A.getD i []:=by
 rw[Wo,aay];by_cases h:k=i
 . rw[We h,We (by lia),We h.symm];rfl
 . rw[Wc h,Wc (Wi h),Wo]
def vE{A:Rows}(c:t+1<A.length):(aW A (t+1) t).getD i []=A.getD (sw t (t+1) i) []:=by
 unfold aW;rw[iu (by rw[Wv];lia),iu c];unfold sw;by_cases b:i=t
 . rw[We b,We b]
 . rw[Wc b,Wc b];by_cases a:i=t+1
   . rw[We a,We a]
   . rw[Wc a,Wc a]
def mB{A:Rows}(c:t+1<A.length):ae (aW A (t+1) t)=cq (ae A) t:=by
 funext a b;unfold ae cq;rw[vE c,vE c]
def Ip{A:Rows}{k j:Nat}:(aO A k q j).length=A.length:=by unfold aO;rw[Wv]
def ot{N w k j:Nat}(a:aQ N w A)(c:k<N)(d:j<N):aQ N w (aO A k q j):=by
 show⟨Ip.trans a.len,λr b=>?_⟩;unfold aO at b;rcases XC b with h|rfl
 . show a.eJ r h
 . rw[l9 (by rw[bg a c,bg a d]),bg a c]
def vU(a:aQ N w A)(c:t+1<N):aQ N w (aW A (t+1) t):=by
 show⟨by unfold aW;rw[Wv,Wv];show a.len,λr b=>?_⟩;unfold aW at b;rcases XC b with h|rfl
 . rcases XC h with h|rfl
   . show a.eJ r h
   . show bg a (by lia)
 . show bg a c
def sL{N w k j:Nat}(l:aQ N w A)(p:k<N)(m:j<N)(t:j≠k)(o:a<N)(n:b<N):ae (aO A k q j) a b=tk (ae A) k j q a b:=by
 let u:=l.len;let r:=bg l p;let s:=bg l m
 let d:∀i c,(((aO A k q j).getD i []).getD c 0)=if i=k then(A.getD k []).getD c 0-q*(A.getD j []).getD c 0 else(A.getD i []).getD c 0:=λi c=>by
  unfold aO;rw[iu (by lia)];by_cases h:i=k
  . rw[We h,We h,tU (by rw[r,s]),Yq];lia
  . rw[Wc h,Wc h]
 let v:=iS;rw[fP (ot l p m) o n];unfold tk tf qh;rw[fP l o n,fP l o m,fP l m n,fP l m m];by_cases g:b=k
 . by_cases f:a=k
   . rw[We g,We f,We f]
     let e:S w (λc=>((aO A k q j).getD a []).getD c 0*((aO A k q j).getD b []).getD c 0)=S w λc=>1*(1*((A.getD a []).getD c 0*(A.getD b []).getD c 0)-q*((A.getD j []).getD c 0*(A.getD b []).getD c 0))-q*(1*((A.getD a []).getD c 0*(A.getD j []).getD c 0)-q*((A.getD j []).getD c 0*(A.getD j []).getD c 0)):=ax λc _=>by
      rw[d,d,We g,We f,g,f];grind
     rw[e,iS,iS,iS];simp![XA]
   . rw[We g,Wc f,Wc f]
     let e:S w (λc=>((aO A k q j).getD a []).getD c 0*((aO A k q j).getD b []).getD c 0)=S w λc=>1*((A.getD a []).getD c 0*(A.getD b []).getD c 0)-q*((A.getD a []).getD c 0*(A.getD j []).getD c 0):=ax λc _=>by
      rw[d,d,We g,Wc f,g];grind
     rw[e,iS];lia
 . rw[Wc g];by_cases f:a=k
   . rw[We f]
     let e:S w (λc=>((aO A k q j).getD a []).getD c 0*((aO A k q j).getD b []).getD c 0)=S w λc=>1*((A.getD a []).getD c 0*(A.getD b []).getD c 0)-q*((A.getD j []).getD c 0*(A.getD b []).getD c 0):=ax λc _=>by
      rw[d,d,Wc g,We f,f];grind
     rw[e,iS];lia
   . rw[Wc f];show ax λc _=>by rw[d,d,Wc g,Wc f]
def OT(h:∀a b,a<N->b<N->ae A a b=G a b)(e:p<=i)(f:i<N):lam (ae A) i p=lam G i p:=by
 rw[fK,fK];show bw λr c d g=>h _ _ (by split<;>lia) (by lia)
def lI{N w k j i p:Nat}(l:aQ N w A)(e:j<k)(d:k<N)(f:i<N)(c:p<=i):lam (ae (aO A k q j)) i p=lam (ae A) i p-if i=k then q*lam (ae A) j p else 0:=by
 rw[OT (λa b h g=>sL l d (by lia) (by lia) h g) c f,QT e c]
def wo{N w k j p:Nat}(c:aQ N w A)(a:j<k)(b:k<N)(d:p<=N):D p (ae (aO A k q j))=D p (ae A):=by
 cases p with
 |zero=>rw[gX,gX]
 |succ p=>
  have:=lI (q:=q) c a b (i:=p) (p:=p) (by lia) (Wg _);rw[cZ,cZ]at this;rw[this];split
  . rename_i h;subst h;rw[v_ a,W7,YR]
  . lia
def Hl{N w k j:Nat}(e:aQ N w A)(a:k<N)(d:j<N)(c:j≠k):ae (aO A k q j) k k<=2*(ae A k k+q*q*ae A j j):=by
 let b:=ff (ot (q:= -q) e a d) a;rw[sL e a d c a a]at b⊢;unfold tk tf qh at b⊢;simp![Yy]at b⊢;let f:=ji A k j;rw[f]at b⊢;grind
structure Tn(A0 A U C:Rows)(N w:Nat):Prop where
 isA:aQ N w A
 cA:aQ N N U
 cH:aQ N N C
 ua:∀i c,i<N->c<w->g A i c=S N λk=>g U i k*g A0 k c
 ub:∀i j,i<N->j<N->S N (λk=>g U i k*g C j k)=dl i j
 bu:∀i j,i<N->j<N->S N (λk=>g C k i*g U k j)=dl i j
def fo{N w k j:Nat}(a:aQ N w A)(b:k<N)(d:j<N)(i c:Nat):g (aO A k q j) i c=if i=k then g A k c-q*g A j c else g A i c:=by
 unfold g aO;let e:=a.len;rw[iu (by lia)];by_cases h:i=k
 . rw[We h,We h,tU (by rw[bg a b,bg a d]),Yq];lia
 . rw[Wc h,Wc h]
def qm(a:aQ N w A)(b:t+1<N)(i c:Nat):g (aW A (t+1) t) i c=g A (sw t (t+1) i) c:=by
 unfold g;rw[vE (by let:=a.len;lia)]
def wG(n:Nat)(a b:Int)(f h:Nat->Int):S n (λc=>a*f c+b*h c)=a*S n f+b*S n h:=by
 rw[jT,cW,cW]
def Tn.take{N w k j:Nat}(T:Tn o A U C N w)(a:k<N)(b:j<N)(r:j≠k):Tn o (aO A k q j) (aO U k q j) (aO C j (-q) k) N w where
 isA:=ot T.isA a b
 cA:=ot T.cA a b
 cH:=ot T.cH b a
 ua:=λi c n u=>by
  rw[fo T.isA a b];let e:S N (λm=>g (aO U k q j) i m*g o m c)=S N λm=>(if i=k then g U k m-q*g U j m else g U i m)*g o m c:=ax λm _=>by rw[fo T.cA a b]
  rw[e];by_cases h:i=k
  . simp![We h];rw[T.ua k c a u,T.ua j c b u];let f:S N (λm=>(g U k m-q*g U j m)*g o m c)=S N λm=>1*(g U k m*g o m c)-q*(g U j m*g o m c):=ax λm _=>by grind
    rw[f,iS];lia
  . simp![Wc h];show T.ua i c n u
 ub:=λi l n p=>by
  let e:S N (λm=>g (aO U k q j) i m*g (aO C j (-q) k) l m)=S N λm=>(if i=k then g U k m-q*g U j m else g U i m)*(if l=j then g C j m- -q*g C k m else g C l m):=ax λm _=>by rw[fo T.cA a b,fo T.cH b a]
  rw[e];let s:dl j k=0:=dJ r;by_cases h:i=k
  . by_cases d:l=j
    . simp![We h,We d];let f:S N (λm=>(g U k m-q*g U j m)*(g C j m- -q*g C k m))=S N λm=>1*(1*(g U k m*g C j m)+q*(g U k m*g C k m))-q*(1*(g U j m*g C j m)+q*(g U j m*g C k m)):=ax λm _=>by grind
      rw[f,iS,wG,wG,T.ub k j a b,T.ub k k a a,T.ub j j b b,T.ub j k b a,h,d,dv,dv,s,nK k j,s];lia
    . simp![We h,Wc d];let f:S N (λm=>(g U k m-q*g U j m)*g C l m)=S N λm=>1*(g U k m*g C l m)-q*(g U j m*g C l m):=ax λm _=>by grind
      rw[f,iS,T.ub k l a p,T.ub j l b p,h,dJ (Wi d)];lia
  . by_cases d:l=j
    . simp![Wc h,We d];let f:S N (λm=>g U i m*(g C j m- -q*g C k m))=S N λm=>1*(g U i m*g C j m)+q*(g U i m*g C k m):=ax λm _=>by grind
      rw[f,wG,T.ub i j n b,T.ub i k n a,d,dJ h];lia
    . simp![Wc h,Wc d];show T.ub i l n p
 bu:=λi l n p=>by
  let e:S N (λm=>g (aO C j (-q) k) m i*g (aO U k q j) m l)=S N λm=>g C m i*g U m l+((q*(g C k i*g U j l))*dl m j+(-(q*(g C k i*g U j l)))*dl m k):=ax λm _=>by
   rw[fo T.cA a b,fo T.cH b a];by_cases t:m=j
   . have d:m≠k:=by lia
     rw[We t,Wc d,t,dv,dJ r];grind
   . rw[Wc t,dJ t];by_cases d:m=k
     . rw[We d,d,dv];grind
     . rw[Wc d,dJ d];grind
  rw[e,jT,wG,T.bu i l n p]
  let v:S N (λc=>dl c j)=1:=by
   rw[nu b λi _ h=>dJ h,dv]
  let f:S N (λc=>dl c k)=1:=by
   rw[nu a λi _ h=>dJ h,dv]
  rw[v,f];lia
def NZ:dl (sw t (t+1) a) (sw t (t+1) b)=dl a b:=by
 by_cases h:a=b
 . rw[h,dv,dv]
 . rw[dJ h,dJ];intro z;apply h;let:∀x,sw t (t+1) (sw t (t+1) x)=x:=λx=>by unfold sw;grind
   rw[<-this a,<-this b,z]
def sU(a:t+1<N)(b:i<N):sw t (t+1) i<N:=by unfold sw;grind
def Tn.swap{e A U C:Rows}(T:Tn e A U C N w)(a:t+1<N):Tn e (aW A (t+1) t) (aW U (t+1) t) (aW C (t+1) t) N w where
 isA:=vU T.isA a
 cA:=vU T.cA a
 cH:=vU T.cH a
 ua:=λi c b f=>by
  rw[qm T.isA a,T.ua _ c (sU a b) f];show ax λm _=>by rw[qm T.cA a]
 ub:=λi j b d=>by
  rw[<-NZ (t:=t),<-T.ub _ _ (sU a b) (sU a d)];show ax λm _=>by rw[qm T.cA a,qm T.cH a]
 bu:=λi j b d=>by
  rw[<-T.bu i j b d,<-Qn (i:=t) (j:=t+1) (by lia) a (by lia) λk=>g C k i*g U k j];show ax λm _=>by rw[qm T.cA a,qm T.cH a]
def AU{a b:Row}(h:a.length=b.length):gZ a b*gZ a b<=gZ a a*gZ b b:=by
 rw[kR h,kR (a:=a) rfl,kR (a:=b) rfl,h];show Ir _ _ _
def oY{x:Int}{m:Nat}{a b:Int}(h:x*x<=a*b)(f:0<=a)(c:0<=b)(e:a<=m)(d:b<=m):x.natAbs<=m:=by
 let j:a*b<=(m:Int)*m:=Ye e d c (by lia)
 let i:((x.natAbs*x.natAbs:Nat):Int)<=((m*m:Nat):Int):=by
  rw[Y0,Y0,Zd];lia
 let g:x.natAbs*x.natAbs<=m*m:=by lia
 show Ym λh=>by
  let:=Nat.mul_lt_mul'' h h;lia
def Tn.abs{f A U C:Rows}{N w m:Nat}(T:Tn f A U C N w)(n:aQ N w f)(H:N<=8)(F:D N (ae f)≠0)(M:D N (ae A)≠0)(K:∀i,i<N->ae f i i<=m)(J:∀i,i<N->ae A i i<=m){i j:Nat}(v:i<N)(o:j<N):
 (g U i j).natAbs<=(8*m)^N/\(g C i j).natAbs<=(8*m)^N:=by
 let I:∀ {B:Rows},aQ N w B->(∀i,i<N->ae B i i<=m)->∀r c,r<N->c<N->(ae B r c).natAbs<=m:=λ{B} y p r c z h=>by
  let:=AU (a:=B.getD r []) (b:=B.getD c []) (by rw[bg y z,bg y h]);show oY this (ff y z) (ff y h) (p r z) (p c h)
 let G:∀a b,a<N->b<N->(gZ (A.getD a []) (f.getD b [])).natAbs<=m:=λa b E p=>
  oY (AU (by rw[bg T.isA E,bg n p])) (ff T.isA E) (ff n p) (J a E) (K b p)
 constructor
 . show wB (u:=λk=>g U i k) (x:=λc=>gZ (A.getD i []) (f.getD c [])) H o (λc h=>?_) F (I n K) λc h=>G i c v h;rw[kR (by rw[bg T.isA v,bg n h]),bg n h]
   let e:S w (λd=>(A.getD i []).getD d 0*(f.getD c []).getD d 0)=S w λd=>S N λk=>g U i k*(g f k d*g f c d):=ax λd s=>by
    let:=T.ua i d v s;change g A i d*g f c d=_;rw[this,<-kD];show ax λk _=>by grind
   rw[e,iD];show ax λk q=>?_;rw[cW,fP n q h];rfl
 . show wB (u:=λk=>g C k j) (x:=λc=>gZ (A.getD c []) (f.getD j [])) H v (λc h=>?_) M (I T.isA J) λc h=>G c j h o;rw[kR (by rw[bg T.isA h,bg n o]),bg n o]
   let t:∀d,d<w->g f j d=S N λk=>g C k j*g A k d:=λd s=>by
    let e:S N (λk=>g C k j*g A k d)=S N λk=>S N λl=>(g C k j*g U k l)*g f l d:=ax λk q=>by
     rw[T.ua k d q s,<-cW];show ax λl _=>by grind
    rw[e,iD];let O:S N (λl=>S N λk=>(g C k j*g U k l)*g f l d)=S N λl=>dl j l*g f l d:=ax λl L=>by rw[kD,T.bu j l o L]
    rw[O,iz o]
   let e:S w (λd=>(A.getD c []).getD d 0*(f.getD j []).getD d 0)=S w λd=>S N λk=>g C k j*(g A k d*g A c d):=ax λd s=>by
    change g A c d*g f j d=_;rw[t d s,<-cW];show ax λk _=>by grind
   rw[e,iD];show ax λk q=>?_;rw[cW,fP T.isA q h];rfl
def AZ{A:Rows}{k o i:Nat}(d:k<A.length)(c:o<A.length):(aW A k o).getD i []=A.getD (sw k o i) []:=by
 unfold aW;rw[iu (by rw[Wv];show c),iu d];unfold sw;by_cases b:i=k
 . rw[We b,We b];by_cases a:i=o
   . rw[We a,<-b,<-a]
   . rw[Wc a]
 . rw[Wc b,Wc b];by_cases a:i=o
   . rw[We a,We a]
   . rw[Wc a,Wc a]
def vR{N w k o:Nat}(a:aQ N w A)(d:k<N)(c:o<N):aQ N w (aW A k o):=by
 show⟨by unfold aW;rw[Wv,Wv];show a.len,λr b=>?_⟩;unfold aW at b;rcases XC b with h|rfl
 . rcases XC h with h|rfl
   . show a.eJ r h
   . show bg a c
 . show bg a d
def kg{N w k o:Nat}(a:aQ N w A)(d:k<N)(b:o<N)(i c:Nat):g (aW A k o) i c=g A (sw k o i) c:=by
 unfold g;rw[AZ (by let:=a.len;lia) (by let:=a.len;lia)]
def sO{k o N i:Nat}(b:k<N)(a:o<N)(c:i<N):sw k o i<N:=by unfold sw;split<;>(try split)<;>assumption
def Ia(k o x:Nat):sw k o (sw k o x)=x:=by
 unfold sw;by_cases b:x=k
 . subst b;rw[We rfl];by_cases a:o=x
   . rw[We a];show a
   . rw[Wc a,We rfl]
 . rw[Wc b];by_cases a:x=o
   . subst a;rw[We rfl,We rfl]
   . rw[Wc a,Wc b,Wc a]
def TH{k o a b:Nat}:dl (sw k o a) (sw k o b)=dl a b:=by
 by_cases h:a=b
 . rw[h,dv,dv]
 . rw[dJ h,dJ λz=>h (by rw[<-Ia k o a,<-Ia k o b,z])]
def OS(k x:Nat):sw k k x=x:=by
 unfold sw;by_cases h:x=k
 . rw[We h,h]
 . rw[Wc h,Wc h]
def Ud(b:i<n)(a:j<n)(f:Nat->Int):S n (λk=>f (sw i j k))=S n f:=by
 by_cases h:i=j
 . subst h;show ax λk _=>by rw[OS]
 . show Qn b a h f
def Tn.MW{N w k o:Nat}(T:Tn f A U C N w)(b:k<N)(a:o<N):Tn f (aW A k o) (aW U k o) (aW C k o) N w where
 isA:=vR T.isA b a
 cA:=vR T.cA b a
 cH:=vR T.cH b a
 ua:=λi c d h=>by
  rw[kg T.isA b a,T.ua _ c (sO b a d) h];show ax λm _=>by rw[kg T.cA b a]
 ub:=λi j d e=>by
  rw[<-TH (k:=k) (o:=o),<-T.ub _ _ (sO b a d) (sO b a e)];show ax λm _=>by rw[kg T.cA b a,kg T.cH b a]
 bu:=λi j d e=>by
  rw[<-T.bu i j d e,<-Ud b a λm=>g C m i*g U m j];show ax λm _=>by rw[kg T.cA b a,kg T.cH b a]
def f7(A:Rows)(k:Nat):Rows:=A.set k ((A.getD k []).map λx=> -x)
def CF{N w k:Nat}(a:aQ N w A)(c:k<N):aQ N w (f7 A k):=by
 show⟨by unfold f7;rw[Wv];show a.len,λr b=>?_⟩;unfold f7 at b;rcases XC b with h|rfl
 . show a.eJ r h
 . rw[Wd];show bg a c
def JR(r:Row)(c:Nat):(r.map λx=> -x).getD c 0= -r.getD c 0:=by
 rw[Wo,Wo,Wr];cases r[c]?<;>rfl
def kM{N w k:Nat}(a:aQ N w A)(b:k<N)(i c:Nat):g (f7 A k) i c=if i=k then-g A k c else g A i c:=by
 unfold g f7;rw[iu (by let:=a.len;lia)];by_cases h:i=k
 . rw[We h,We h,JR]
 . rw[Wc h,Wc h]
def Tn.neg{N w k:Nat}(T:Tn o A U C N w)(a:k<N):Tn o (f7 A k) (f7 U k) (f7 C k) N w where
 isA:=CF T.isA a
 cA:=CF T.cA a
 cH:=CF T.cH a
 ua:=λi c b n=>by
  rw[kM T.isA a];by_cases h:i=k
  . rw[We h,T.ua k c a n,<-AI];show ax λm _=>by rw[kM T.cA a,We h,Yq]
  . rw[Wc h,T.ua i c b n];show ax λm _=>by rw[kM T.cA a,Wc h]
 ub:=λi j b l=>by
  let e:S N (λm=>g (f7 U k) i m*g (f7 C k) j m)=S N λm=>(if i=k then-1 else 1)*(if j=k then-1 else 1)*(g U i m*g C j m):=ax λm _=>by
   rw[kM T.cA a,kM T.cH a];by_cases f:i=k<;>by_cases d:j=k<;>simp![f,d,Yy,YC]<;>grind
  rw[e,cW,T.ub i j b l];by_cases f:i=k
  . by_cases d:j=k
    . simp[f,d]
    . rw[dJ (by lia)];simp
  . by_cases d:j=k
    . rw[dJ (by lia)];simp
    . simp[f,d]
 bu:=λi j b l=>by
  rw[<-T.bu i j b l]
  show ax λm _=>by
   rw[kM T.cA a,kM T.cH a];by_cases h:m=k
   . subst h;rw[We rfl,We rfl];grind
   . rw[Wc h,Wc h]
structure mS(A:Rows)(N top p:Nat)(L:List Nat):Prop where
 mem:∀k,k∈L↔top<=k/\k<N/\g A k p≠0
 ord:L.Pairwise λi j=>(g A i p).natAbs<=(g A j p).natAbs
 nd:L.Nodup
structure B3 where
 A:Rows
 U:Rows
 C:Rows
def qn(x y:Int):Int:=(2*x+y).fdiv (2*y)
def kJ(b:B3)(p k j:Nat):B3:=⟨aO b.A k (qn (g b.A k p) (g b.A j p)) j,aO b.U k (qn (g b.A k p) (g b.A j p)) j,aO b.C j (-(qn (g b.A k p) (g b.A j p))) k⟩
def M8(N top p:Nat)(b c:B3):Prop:=∃(L:List Nat) (k j:Nat),mS b.A N top p (L++[j,k])/\c=kJ b p k j
inductive jP(N top p:Nat):B3->B3->Prop
 |refl (b:B3):jP N top p b b
 |head {b c d:B3} (h:M8 N top p b c) (t:jP N top p c d):jP N top p b d
def jP.tail{N top p:Nat}(h:jP N top p b c)(t:M8 N top p c d):jP N top p b d:=by
 induction h with
 |refl b=>show .head t (.refl _)
 |head x _ a=>show .head x (a t)
def iA(X:Rows)(N top m:Nat):Prop:=∀i c,top<=i->i<N->(g X i c).natAbs<=m
def PR(f:Nat->Nat):Nat->Nat
 |0=>1
 |n+1=>PR f n*f n
def Jk{f:Nat->Nat}(h:∀i,1<=f i):∀n,1<=PR f n
 |0=>Wg _
 |n+1=>Xk (Jk h n) (h n)
def A5{f f':Nat->Nat}:∀ {n:Nat},(∀i,i<n->f i=f' i)->PR f n=PR f' n
 |0,_=>rfl
 |n+1,h=>by
  change PR f n*f n=PR f' n*f' n;rw[A5 λi a=>h i (Xi a),h n (Xh n)]
def H0{f f':Nat->Nat}{k:Nat}:∀ {n:Nat},k<n->(∀i,i≠k->f i=f' i)->PR f n*f' k=PR f' n*f k
 |0,a,_=>absurd a (Xx _)
 |n+1,a,h=>by
  change PR f n*f n*f' k=PR f' n*f' n*f k;by_cases e:k=n
  . subst e;rw[A5 (n:=k) λi b=>h i (WB b),Zf,X6 (f k),Zf]
  . have:=H0 (n:=n) (by lia) h;rw[h n (Wi e),Nat.mul_right_comm,this,Nat.mul_right_comm]
def MF{f:Nat->Nat}{m top:Nat}(g:1<=m):∀ {n:Nat},(∀i,i<n->i<top->f i<=1)->(∀i,i<n->f i<=m)->PR f n<=m^(n-top)
 |0,_,_=>by simp[PR]
 |n+1,d,c=>by
  let b:=MF g (n:=n) (λi a=>d i (Xi a)) λi a=>c i (Xi a);change PR f n*f n<=_;by_cases e:n<top
  . have z:n+1-top=n-top:=by lia
    rw[z];show Wj (Xk b (d n (Xh n) e)) (by rw[ZD];show Wg _)
  . have z:n+1-top=(n-top)+1:=by lia
    rw[z,YQ];show Xk b (c n (Xh n))
def wt(A:Rows)(top p i:Nat):Nat:=if top<=i/\g A i p≠0 then 2*(g A i p).natAbs else 1
def HY(A:Rows)(top p i:Nat):1<=wt A top p i:=by
 unfold wt;split<;>lia
def El{x y:Int}(a:y≠0):2*(x-qn x y*y).natAbs<=y.natAbs:=by
 unfold qn;let f:=aba (2*x+y) (2*y);let b:(2*x+y).fmod (2*y)=2*x+y-2*y*(2*x+y).fdiv (2*y):=by lia
 generalize(2*x+y).fdiv (2*y)=q at*;let e:2*(x-q*y)=(2*x+y).fmod (2*y)-y:=by rw[b];grind
 rcases Int.lt_or_gt_of_ne a with h|h
 . have g:=Int.neg_fmod_neg (2*x+y) (2*y);let d:=XB (-(2*x+y)) (show 0< -(2*y) by lia);let c:=XX (-(2*x+y)) (show 0< -(2*y) by lia);lia
 . have d:=XB (2*x+y) (show 0<2*y by lia);let c:=XX (2*x+y) (show 0<2*y by lia);lia
def Oc{x y:Int}(m:y≠0)(b:y.natAbs<=x.natAbs):(1+(qn x y).natAbs)*(if x-qn x y*y≠0 then 2*(x-qn x y*y).natAbs else 1)<=2*x.natAbs:=by
 let j:=El (x:=x) m;generalize qn x y=q at*;generalize s:x-q*y=r at*;let d:x=q*y+r:=by lia
 let i:(q*y).natAbs=q.natAbs*y.natAbs:=W0 ..;by_cases g:r=0
 . rw[Wc (λz=>z g),ZD];subst g;let c:x.natAbs=q.natAbs*y.natAbs:=by rw[<-i,d];simp
   let a:1<=y.natAbs:=by lia
   let o:1<=q.natAbs:=by
    rcases Nat.eq_zero_or_pos q.natAbs with z|z
    . rw[z,Nat.zero_mul]at c;lia
    . show z
   let:q.natAbs<=q.natAbs*y.natAbs:=aaS _ a;lia
 . rw[We g];let n:1<=r.natAbs:=by lia
   let l:(1+q.natAbs)*r.natAbs<=x.natAbs:=by
    rcases YS q.natAbs 2 with e|f
    . rcases YS q.natAbs 1 with h|h
      . have k:q=0:=Int.natAbs_eq_zero.mp (Nat.le_zero.mp (Nat.le_of_lt_succ h));subst k;simp at d;subst d;simp
      . have z:q.natAbs=1:=Nat.le_antisymm (Nat.le_of_lt_succ e) h;rw[z];show Wj j b
    . have p:(q*y).natAbs<=x.natAbs+r.natAbs:=by lia
      rw[i]at p;let v:q.natAbs*(2*r.natAbs)<=q.natAbs*y.natAbs:=YU _ j;let u:2*r.natAbs<=q.natAbs*r.natAbs:=Xm _ f;let t:q.natAbs*(2*r.natAbs)=q.natAbs*r.natAbs+q.natAbs*r.natAbs:=by rw[aaz];lia
      rw[ZE,Y5];lia
   let:(1+q.natAbs)*(2*r.natAbs)=2*((1+q.natAbs)*r.natAbs):=by rw[aaz]
   lia
structure uH(A0:Rows)(N w top p m:Nat)(b0 b:B3)(gr:Nat):Prop where
 tn:Tn A0 b.A b.U b.C N w
 up:∀i,i<top->b.A.getD i []=b0.A.getD i []/\b.U.getD i []=b0.U.getD i []/\b.C.getD i []=b0.C.getD i []
 lA:iA b.A N top (m*gr)
 lU:iA b.U N top (m*gr)
 lC:iA b.C N top (m*gr)
 zs:∀i c,top<=i->i<N->c<p->g b.A i c=0
 Us:gr*PR (wt b.A top p) N<=PR (wt b0.A top p) N
 pos:1<=gr
 Tf:b=b0\/∃j,top<=j/\j<N/\g b.A j p≠0
def vn{N w top k j m a:Nat}{q:Int}(p:aQ N w X)(l:k<N)(n:j<N)(d:top<=k)(f:top<=j)(h:iA X N top (m*a)):iA (aO X k q j) N top (m*(a*(1+q.natAbs))):=λi c o r=>by
 rw[fo p l n];let e:m*(a*(1+q.natAbs))=m*a+q.natAbs*(m*a):=by rw[<-Zf,Nat.mul_add,ZD,X6 (m*a) q.natAbs]
 rw[e];by_cases b:i=k
 . rw[We b];let u:=h k c d l;let t:=h j c f n;let s:(q*g X j c).natAbs<=q.natAbs*(m*a):=by rw[W0];show YU _ t
   show Wj (Int.natAbs_sub_le _ _) (Nat.add_le_add u s)
 . rw[Wc b];show Wj (h i c o r) (aaO _ _)
def ko{X:Rows}{k j i:Nat}(a:k<X.length)(h:i≠k):(aO X k q j).getD i []=X.getD i []:=by
 unfold aO;rw[iu a,Wc h]
def half_lt(h:2*r<=y)(b:y<=x)(a:0<x):r<x:=by lia
def uH.step{N w top p m E:Nat}{b0 b:B3}{k j:Nat}(G:uH J N w top p m b0 b E)(U:p<w)(C:mS b.A N top p (L++[j,k])):
 uH J N w top p m b0 (kJ b p k j) (E*(1+(qn (g b.A k p) (g b.A j p)).natAbs))/\(g (kJ b p k j).A k p).natAbs<(g b.A k p).natAbs/\(∀i,i≠k->g (kJ b p k j).A i p=g b.A i p)/\top<=k/\k<N/\top<=j/\j<N/\j≠k/\g b.A j p≠0:=by
 obtain⟨n,a,B⟩:=(C.mem k).mp (by simp);obtain⟨o,d,r⟩:=(C.mem j).mp (by simp);let s:=C.ord;rw[List.pairwise_append]at s;let A:=(aam.mp s.2.1).1 k (by simp);let y:=C.nd;rw[List.nodup_append]at y;let u:j≠k:=λz=>(Yx.mp y.2.1).1 (by rw[z];show Zp.mpr rfl)
 let I:g (kJ b p k j).A k p=g b.A k p-qn (g b.A k p) (g b.A j p)*g b.A j p:=by
  change g (aO b.A k _ j) k p=_;rw[fo G.tn.isA a d,We rfl]
 let H:∀i,i≠k->g (kJ b p k j).A i p=g b.A i p:=λi v=>by
  change g (aO b.A k _ j) i p=_;rw[fo G.tn.isA a d,Wc v]
 let t:=El (x:=g b.A k p) r;let l:=Oc (x:=g b.A k p) r A;show⟨⟨G.tn.take a d u,λi v=>?_,vn G.tn.isA a d n o G.lA,vn G.tn.cA a d n o G.lU,?_,λi c v Q F=>?_,?_,?_,.inr ⟨j,o,d,by rw[H j u];show r⟩⟩,?_,H,n,a,o,d,u,r⟩
 . obtain⟨T,S,R⟩:=G.up i v;show⟨(ko (by rw[G.tn.isA.len];show a) (by lia)).trans T,(ko (by rw[G.tn.cA.len];show a) (by lia)).trans S,(ko (by rw[G.tn.cH.len];show d) (by lia)).trans R⟩
 . have:=vn (q:= -(qn (g b.A k p) (g b.A j p))) G.tn.cH d a o n G.lC;rw[Yg]at this;show this
 . change g (aO b.A k _ j) i c=0;rw[fo G.tn.isA a d];by_cases h:i=k
   . rw[We h,G.zs k c n a F,G.zs j c o d F,W7];rfl
   . rw[Wc h];show G.zs i c v Q F
 . have e:=H0 (f:=wt (kJ b p k j).A top p) (f':=wt b.A top p) (k:=k) a λi v=>by unfold wt;rw[H i v]
   let M:wt b.A top p k=2*(g b.A k p).natAbs:=by unfold wt;rw[We ⟨n,B⟩]
   let K:(1+(qn (g b.A k p) (g b.A j p)).natAbs)*wt (kJ b p k j).A top p k<=wt b.A top p k:=by
    rw[M];unfold wt;rw[I];by_cases D:g b.A k p-qn (g b.A k p) (g b.A j p)*g b.A j p=0
    . rw[Wc (λz=>z.2 D)];rw[Wc (λz=>z D)]at l;show l
    . rw[We ⟨n,D⟩];rw[We D]at l;show l
   let P:0<wt b.A top p k:=HY _ _ _ _;show Nat.le_of_mul_le_mul_right (c:=wt b.A top p k) ?_ P
   let O:E*(1+(qn (g b.A k p) (g b.A j p)).natAbs)*PR (wt (kJ b p k j).A top p) N*wt b.A top p k=E*PR (wt b.A top p) N*((1+(qn (g b.A k p) (g b.A j p)).natAbs)*wt (kJ b p k j).A top p k):=by
    rw[Zf _ (PR _ N),e];simp![Zf,aaz]
   rw[O];show Xk G.Us K
 . show Nat.mul_pos G.pos (by lia)
 . rw[I];show half_lt t A (Int.natAbs_pos.mpr B)
def uH.low{k:Rows}{N w top p e a:Nat}{b0 b:B3}(G:uH k N w top p (2^e) b0 b a)(g:iA b0.A N top (2^e)):2^e*a<=2^((N-top+1)*(e+1)):=by
 let f:a<=PR (wt b0.A top p) N:=Wj (aaS _ (Jk (HY _ _ _) N)) G.Us
 let d:PR (wt b0.A top p) N<=(2^(e+1))^(N-top):=MF Y1 (λi _ l=>by unfold wt;rw[Wc (by lia)];show Wg _) λi c=>by
  unfold wt;split
  . rename_i h;let:=g i p h.1 c;rw[YQ];lia
  . show Y1
 show Wj (YU _ (Wj f d)) ?_;rw[<-Zg,<-XM];show Ws (by decide) ?_;let j:(N-top+1)*(e+1)=(e+1)*(N-top)+(e+1):=by rw[ZE,Y5,X6]
 rw[j];lia
structure yO(A0:Rows)(N w:Nat)(b:B3)(top p:Nat)(ld:Nat->Nat)(e u:Nat):Prop where
 tn:Tn A0 b.A b.U b.C N w
 le:top<=N
 lo:iA b.A N top (2^e)/\iA b.U N top (2^e)/\iA b.C N top (2^e)
 hi:∀i c,i<top->(g b.A i c).natAbs<=2^u/\(g b.U i c).natAbs<=2^u/\(g b.C i c).natAbs<=2^u
 zs:∀i c,top<=i->i<N->c<p->g b.A i c=0
 lead:∀i,i<top->ld i<p/\0<g b.A i (ld i)/\∀c,c<ld i->g b.A i c=0
 mono:∀i j,i<j->j<top->ld i<ld j
 red:∀i j,i<j->j<top->0<=g b.A i (ld j)/\g b.A i (ld j)<g b.A j (ld j)
def setB(b:B3)(p top r:Nat):B3:=
 if g (aW b.A top r) top p<0 then⟨f7 (aW b.A top r) top,f7 (aW b.U top r) top,f7 (aW b.C top r) top⟩else⟨aW b.A top r,aW b.U top r,aW b.C top r⟩
def vk{N w top r m:Nat}(f:aQ N w X)(b:top<N)(d:r<N)(a:top<=r)(h:iA X N top m):iA (aW X top r) N top m:=λi c e g=>by
 rw[kg f b d];show h _ c ?_ (sO b d g);unfold sw;split
 . show a
 . split
   . show Wg _
   . show e
def Cu{N w top m:Nat}(d:aQ N w X)(a:top<N)(h:iA X N top m):iA (f7 X top) N top m:=λi c b e=>by
 rw[kM d a];split
 . rw[Yg];show h top c (Wg _) a
 . show h i c b e
def vi{X:Rows}{N w top r i:Nat}(a:aQ N w X)(c:top<N)(d:r<N)(b:top<=r)(e:i<top):(aW X top r).getD i []=X.getD i []:=by
 rw[AZ (by let:=a.len;lia) (by let:=a.len;lia)];unfold sw;rw[Wc (by lia),Wc (by lia)]
def CI{X:Rows}{N w top i:Nat}(a:aQ N w X)(b:top<N)(c:i<top):(f7 X top).getD i []=X.getD i []:=by
 unfold f7;rw[iu (by let:=a.len;lia),Wc (by lia)]
structure yx(A0:Rows)(N w top p m:Nat)(b0 b:B3):Prop where
 tn:Tn A0 b.A b.U b.C N w
 up:∀i,i<top->b.A.getD i []=b0.A.getD i []/\b.U.getD i []=b0.U.getD i []/\b.C.getD i []=b0.C.getD i []
 lo:iA b.A N top m/\iA b.U N top m/\iA b.C N top m
 zs:∀i c,top<=i->i<N->c<p->g b.A i c=0
 tp:0<g b.A top p
 z1:∀i,top<i->i<N->g b.A i p=0
def uH.set{N w top p m D r:Nat}{b0 b:B3}(G:uH E N w top p m b0 b D)(C:mS b.A N top p [r]):yx E N w top p (m*D) b0 (setB b p top r)/\top<=r/\r<N:=by
 obtain⟨e,d,F⟩:=(C.mem r).mp (by simp);let a:top<N:=by lia
 let z:∀i,top<=i->i<N->i≠r->g b.A i p=0:=λi l k o=>aaG λy=>o (by simpa using(C.mem i).mpr ⟨l,k,y⟩);let n:∀i c,g (aW b.A top r) i c=g b.A (sw top r i) c:=λi c=>kg G.tn.isA a d i c;let H:g (aW b.A top r) top p=g b.A r p:=by rw[n];unfold sw;rw[We rfl]
 let f:=G.tn.MW a d
 let A:∀i,top<i->i<N->g (aW b.A top r) i p=0:=λi l k=>by
  rw[n];unfold sw;rw[Wc (by lia)];by_cases h:i=r
  . rw[We h];show z top (Wg _) a (by lia)
  . rw[Wc h];show z i (by lia) k h
 let s:∀i c,top<=i->i<N->c<p->g (aW b.A top r) i c=0:=λi c l k o=>by
  rw[n];show G.zs _ c ?_ (sO a d k) o;unfold sw;split
  . show e
  . split
    . show Wg _
    . show l
 let B:∀i,i<top->(aW b.A top r).getD i []=b0.A.getD i []/\(aW b.U top r).getD i []=b0.U.getD i []/\(aW b.C top r).getD i []=b0.C.getD i []:=λi j=>by
  obtain⟨x,v,u⟩:=G.up i j;show⟨(vi G.tn.isA a d e j).trans x,(vi G.tn.cA a d e j).trans v,(vi G.tn.cH a d e j).trans u⟩
 let q:=And.intro (vk G.tn.isA a d e G.lA) (And.intro (vk G.tn.cA a d e G.lU) (vk G.tn.cH a d e G.lC));show⟨?_,e,d⟩;unfold setB;by_cases t:g (aW b.A top r) top p<0
 . rw[We t];show⟨f.neg a,λi j=>?_,⟨Cu f.isA a q.1,Cu f.cA a q.2.1,Cu f.cH a q.2.2⟩,λi c l k o=>?_,?_,λi l k=>?_⟩
   . obtain⟨x,v,u⟩:=B i j;show⟨(CI f.isA a j).trans x,(CI f.cA a j).trans v,(CI f.cH a j).trans u⟩
   . change g (f7 (aW b.A top r) top) i c=0;rw[kM f.isA a];split
     . rw[s top c (Wg _) a o];rfl
     . show s i c l k o
   . change 0<g (f7 (aW b.A top r) top) top p;rw[kM f.isA a,We rfl];lia
   . change g (f7 (aW b.A top r) top) i p=0;rw[kM f.isA a,Wc (by lia)];show A i l k
 . rw[Wc t];show⟨f,B,q,s,by change 0<g (aW b.A top r) top p;rw[H]at t⊢;lia,A⟩
def f9(p top:Nat):Nat->B3->B3
 |0,b=>b
 |k+1,b=>
  let c:=f9 p top k b
  ⟨aO c.A k ((g c.A k p).fdiv (g c.A top p)) top,aO c.U k ((g c.A k p).fdiv (g c.A top p)) top,aO c.C top (-((g c.A k p).fdiv (g c.A top p))) k⟩
def BR(a:Int)(c:0<b):(a.fdiv b).natAbs<=a.natAbs:=by
 rw[YG _ (XJ c)];show aaH a b
def Tn.start(e:aQ N w A):Tn A A (units N) (units N) N w where
 isA:=e
 cA:=gH N
 cH:=gH N
 ua:=λi c a f=>by
  rw[<-iz a λk=>g A k c];show ax λm b=>by rw[i_ a b]
 ub:=λi j a d=>by
  rw[nK i j,<-iz a λk=>dl j k]
  . show ax λm b=>by rw[i_ a b,i_ d b]
 bu:=λi j a d=>by
  rw[<-rO a λk=>dl k j];show ax λm b=>by rw[i_ b a,i_ b d,XI]
def yO.start{N w e:Nat}(f:aQ N w A)(h:iA A N 0 (2^e)):yO A N w ⟨A,units N,units N⟩ 0 0 (λ_=>0) e 0:=by
 let a:iA (units N) N 0 (2^e):=λi c _ b=>by
  by_cases d:c<N
  . rw[i_ b d];unfold dl;split
    . show Y1
    . show WU _
  . unfold g;rw[nL (l:=(units N).getD i []) (by rw[bg (gH N) b];lia)];show WU _
 show⟨Tn.start f,WU _,⟨h,a,a⟩,λ_ _ h=>absurd h (Xx _),λ_ _ _ _ h=>absurd h (Xx _),λ_ h=>absurd h (Xx _),λ_ _ _ h=>absurd h (Xx _),λ_ _ _ h=>absurd h (Xx _)⟩
def SU(f:Nat->Nat):Nat->Nat
 |0=>0
 |n+1=>SU f n+f n
def M9{f f':Nat->Nat}:∀ {n:Nat},(∀i,i<n->f' i<=f i)->SU f' n<=SU f n
 |0,_=>Wg _
 |n+1,h=>Nat.add_le_add (M9 λi a=>h i (Xi a)) (h n (Xh n))
def MM{f f':Nat->Nat}{k:Nat}(a:f' k<f k):∀ {n:Nat},k<n->(∀i,i<n->f' i<=f i)->SU f' n<SU f n
 |0,c,_=>absurd c (Xx _)
 |n+1,c,h=>by
  by_cases e:k=n
  . subst e;show Nat.add_lt_add_of_le_of_lt (M9 λi b=>h i (Xi b)) a
  . show Nat.add_lt_add_of_lt_of_le (MM a (by lia) λi b=>h i (Xi b)) (h n (Xh n))
def mu(A:Rows)(N p:Nat):Nat:=SU (λi=>(g A i p).natAbs) N
inductive Rf(N p:Nat):Nat->B3->Nat->B3->Prop
 |none {top:Nat} {b:B3} (h:mS b.A N top p []):Rf N p top b top b
 |one {top r:Nat} {b c:B3} (h:jP N top p b c) (l:mS c.A N top p [r]):Rf N p top b (top+1) (f9 p top top (setB c p top r))
inductive yw(A:Rows)(N:Nat):Nat->Nat->B3->Prop
 |start:yw A N 0 0 ⟨A,units N,units N⟩
 |next {p t t':Nat} {b b':B3} (h:yw A N p t b) (c:Rf N p t b t' b'):yw A N (p+1) t' b'
def Ez(N a:Nat):Nat->Nat
 |0=>a
 |t+1=>(N-t+1)*(Ez N a t+1)
def gh(X:Rows)(n w:Nat)(v:Nat->Int):Prop:=∃z:Nat->Int,∀c,c<w->v c=S n λk=>z k*g X k c
def gh.row{n w k:Nat}(a:k<n):gh X n w (g X k):=⟨λi=>dl k i,λc _=>(iz a λi=>g X i c).symm⟩
def gh.sub{u v:Nat->Int}(f:gh X n w u)(e:gh X n w v):gh X n w λc=>u c-v c:=by
 obtain⟨y,d⟩:=f;obtain⟨z,b⟩:=e;show⟨λk=>y k-z k,λc a=>?_⟩;change u c-v c=S n λk=>(y k-z k)*g X k c;rw[d c a,b c a,Zq,<-AI,<-jT];show ax λk _=>by rw[Int.sub_mul,Zq]
def gh.trans{v:Nat->Int}(h:∀k,k<m->gh Y n w (g X k))(j:gh X m w v):gh Y n w v:=by
 obtain⟨z,e⟩:=j
 let b:∀k,∃y:Nat->Int,k<m->∀c,c<w->g X k c=S n λi=>y i*g Y i c:=λk=>by
  by_cases a:k<m
  . obtain⟨y,f⟩:=h k a;show⟨y,λ_=>f⟩
  . show⟨λ_=>0,λh=>absurd h a⟩
 show⟨λi=>S m λk=>z k*Classical.choose (b k) i,λc d=>?_⟩;rw[e c d]
 let l:S m (λk=>z k*g X k c)=S m λk=>S n λi=>z k*Classical.choose (b k) i*g Y i c:=ax λk a=>by
  rw[Classical.choose_spec (b k) a c d,<-cW];show ax λi _=>(Xv _ _ _).symm
 rw[l,iD];show ax λi _=>kD _ _ _
structure d9(X:Rows)(n w:Nat)(ld:Nat->Nat):Prop where
 lead:∀i,i<n->ld i<w/\0<g X i (ld i)/\∀c,c<ld i->g X i c=0
 mono:∀i j,i<j->j<n->ld i<ld j
def d9.inj{a:Nat->Nat}(s:d9 X n w a)(c:i<n)(b:j<n)(h:a i=a j):i=j:=by
 rcases Zy i j with q|q|q
 . show absurd h (WB (s.mono i j q b))
 . show q
 . show absurd h.symm (WB (s.mono j i q c))
def d9.lt{a:Nat->Nat}(s:d9 X n w a)(b:i<n)(c:j<n)(h:a i<a j):i<j:=by
 rcases Zy i j with q|q|q
 . show q
 . rw[q]at h;show absurd h (WQ _)
 . show absurd (Yu h (s.mono j i q b)) (WQ _)
def d9.gone{a:Nat->Nat}{v z:Nat->Int}(s:d9 X n w a)(j:∀c,c<w->v c=S n λk=>z k*g X k c)(p:∀c,c<q->v c=0)(k:Nat):k<n->a k<q->z k=0:=by
 induction k using Nat.strongRecOn with
 |ind k h=>
  intro b f;obtain⟨o,m,r⟩:=s.lead k b;let e:=j (a k) o;rw[p _ f,nu b λi d ne=>?_]at e
  . show(Zl.mp e.symm).resolve_right (Int.ne_of_gt m)
  . rcases Nat.lt_or_gt_of_ne ne with l|l
    . rw[h i l d (Yu (s.mono i k l b) f),Y8]
    . rw[(s.lead i d).2.2 _ (s.mono k i l d),W7]
def d9.at{b:Nat->Nat}{v:Nat->Int}(s:d9 X n w b)(o:gh X n w v)(j:q<w)(p:∀c,c<q->v c=0):(∃i,i<n/\b i=q/\g X i q∣v q)\/v q=0:=by
 obtain⟨z,d⟩:=o
 let m:∀k,k<n->b k≠q->z k*g X k q=0:=λk a ne=>by
  rcases Nat.lt_or_gt_of_ne ne with l|l
  . rw[s.gone d p k a l,Y8]
  . rw[(s.lead k a).2.2 _ l,W7]
 by_cases h:∃i,i<n/\b i=q
 . obtain⟨i,f,e⟩:=h;show .inl ⟨i,f,e,z i,?_⟩;rw[d q j,nu f λk a ne=>m k a λz=>ne (s.inj a f (z.trans e.symm)),XI]
 . show .inr ?_;rw[d q j];show mI λk a=>m k a λe=>h ⟨k,a,e⟩
def d9.sees{b a:Nat->Nat}(f:d9 X n w b)(e:d9 Y m w a)(h:∀k,k<n->gh Y m w (g X k))(i:Nat)(c:i<n):∃j,j<m/\a j=b i/\g Y j (b i)∣g X i (b i):=by
 obtain⟨o,d,l⟩:=f.lead i c;rcases e.at (h i c) o l with q|q
 . show q
 . rw[q]at d;show absurd d (by decide)
def d9.same{o h:Nat->Nat}(a:d9 X n w o)(b:d9 Y m w h)(v:∀k,k<n->gh Y m w (g X k))(t:∀k,k<m->gh X n w (g Y k))(i:Nat):i<n->i<m/\h i=o i/\g Y i (o i)=g X i (o i):=by
 induction i using Nat.strongRecOn with
 |ind i s=>
  intro d;obtain⟨j,c,f,x⟩:=a.sees b v i d
  let e:j=i:=by
   rcases Zy j i with l|l|l
   . have:=(s j l (Yu l d)).2.1;show absurd (this.symm.trans f) (WB (a.mono j i l d))
   . show l
   . obtain⟨k,p,q,_⟩:=b.sees a t i (Yu l c);let r:k<i:=a.lt p d (by rw[q,<-f];show b.mono i j l c);let:=(s k r p).2.1;show absurd (this.trans q) (WB (b.mono k i r (Yu l c)))
  subst e;show⟨c,f,?_⟩;obtain⟨k,p,q,u⟩:=b.sees a t j c;let:=a.inj p d (q.trans f);subst this;rw[f]at u;show Int.dvd_antisymm (by rw[<-f];show XJ (b.lead k c).2.1) (XJ (a.lead k d).2.1) x u
def Kt(X:Rows)(n:Nat)(a:Nat->Nat):Prop:=∀i j,i<j->j<n->0<=g X i (a j)/\g X i (a j)<g X j (a j)
def d9.only{r f:Nat->Nat}(e:d9 X n w r)(o:d9 Y m w f)(v:∀k,k<n->gh Y m w (g X k))(p:∀k,k<m->gh X n w (g Y k))(y:Kt X n r)(x:Kt Y m f)(h:i<n)(c:Nat):c<w->g X i c=g Y i c:=by
 induction c using Nat.strongRecOn with
 |ind c D=>
  intro u;obtain⟨s,C,E⟩:=e.same o v p i h;let F:gh X n w λc=>g X i c-g Y i c:=(gh.row h).sub (p i s);rcases e.at F u λd t=>by rw[D d t (Yu t u),Int.sub_self]with⟨j,hj,rfl,d⟩|q
  . obtain⟨z,A,B⟩:=e.same o v p j hj;rcases Zy i j with l|l|l
    . have a:=y i j l hj;let b:=x i j l z;rw[A,B]at b;show abb (Int.eq_zero_of_dvd_of_natAbs_lt_natAbs d (by lia))
    . subst l;show E.symm
    . rw[(e.lead i h).2.2 _ (e.mono j i l h),(o.lead i s).2.2 _ (by rw[C];show e.mono j i l h)]
  . show abb q
def Sm(b:B3)(N m:Nat):Prop:=∀i c,i<N->(g b.A i c).natAbs<=m/\(g b.U i c).natAbs<=m/\(g b.C i c).natAbs<=m
def M7{f:Nat->Int}:∀ {N:Nat},n<=N->(∀i,n<=i->i<N->f i=0)->S N f=S n f
 |0,h,_=>by rw[Nat.le_zero.mp h]
 |N+1,h,z=>by
  by_cases e:n=N+1
  . rw[e]
  . have a:n<=N:=by lia
    change S N f+f N=_;rw[z N a (Xh N),YO];show M7 a λi c b=>z i c (Xi b)
def yO.in{N w top e u:Nat}{c:B3}{a:Nat->Nat}(s:yO A N w c top w a e u)(k:Nat)(d:k<top):gh A N w (g c.A k):=
 ⟨g c.U k,λq b=>s.tn.ua k q (WA d s.le) b⟩
def yO.out{N w top e u:Nat}{c:B3}{d:Nat->Nat}(s:yO A N w c top w d e u)(k:Nat)(b:k<N):gh c.A top w (g A k):=by
 show⟨λi=>g c.C i k,λq a=>?_⟩
 let o:S N (λi=>g c.C i k*g c.A i q)=g A k q:=by
  let:S N (λi=>g c.C i k*g c.A i q)=S N λi=>S N λj=>g c.C i k*g c.U i j*g A j q:=ax λi h=>by
   rw[s.tn.ua i q h a,<-cW];show ax λj _=>(Xv _ _ _).symm
  rw[this,iD]
  let n:S N (λj=>S N λi=>g c.C i k*g c.U i j*g A j q)=S N λj=>dl k j*g A j q:=ax λj f=>by
   rw[kD,s.tn.bu k j b f]
  rw[n,iz b λj=>g A j q]
 rw[<-o];show M7 s.le λi m l=>by rw[s.zs i q m l a,W7]
def lH{X:Rows}(h:i<n):g (X.take n) i q=g X i q:=by
 unfold g;rw[Wo (l:=X.take n),Wo (l:=X),Zo h]
def gh.eq{u v:Nat->Int}(d:gh X n w u)(h:∀c,c<w->v c=u c):gh X n w v:=by
 obtain⟨y,b⟩:=d;show⟨y,λc a=>(h c a).trans (b c a)⟩
structure mq(X:Rows)(n:Nat)(Y:Rows)(m w:Nat):Prop where
 to:∀k,k<n->gh Y m w (g X k)
 of:∀k,k<m->gh X n w (g Y k)
def mq.symm(h:mq X n Y m w):mq Y m X n w:=⟨h.of,h.to⟩
def mq.trans(h:mq X n Y m w)(h':mq Y m Z l w):mq X n Z l w:=
 ⟨λk a=>gh.trans h'.to (h.to k a),λk a=>gh.trans h.of (h'.of k a)⟩
def p_{X:Rows}{r:Row}{k:Nat}(b:k<=X.length)(i:Nat):(X.take k++r::X.drop k).getD i []=if i<k then X.getD i []else if i=k then r else X.getD (i-1) []:=by
 let lt:(X.take k).length=k:=by rw[Yc];lia
 rw[Wo,Wo,Wo];by_cases h:i<k
 . rw[We h,Wh (by rw[lt];show h),Zo h]
 . rw[Wc h,WD (by rw[lt];lia),lt];by_cases a:i=k
   . rw[We a,a,XU];rfl
   . rw[Wc a];let:i-k=(i-1-k)+1:=by lia
     rw[this,Yk,List.getElem?_drop];congr 2;lia
structure oi(F:Rows)(w:Nat)(ld:Nat->Nat)(row:Nat->Int)(i:Nat)(o:Int)(L:Nat->Int):Prop where
 pos:0<o
 sum:gh F i w λc=>o*row c-L c
 off:∀k,k<i->L (ld k)=0
 least:∀(m:Int) (v:Nat->Int),gh F i w v->(∀k,k<i->m*row (ld k)=v (ld k))->o∣m
def wc(F:Rows)(i:Nat):Nat:=(F.getD i []).findIdx (λx=>x != 0)
def w4:∀ {r:Row} {l:Nat},(∀c,c<l->r.getD c 0=0)->r.getD l 0≠0->r.findIdx (λx=>x != 0)=l
 | [],l,_,h=>(h rfl).elim
 |x::r,0,_,h=>by
  let e:(x != 0)=true:=ZY.mpr h;rw[List.findIdx_cons,e];rfl
 |x::r,l+1,a,h=>by
  let b:(x != 0)=false:=bne_eq_false_iff_eq.mpr (a 0 (Nat.zero_lt_succ _));rw[List.findIdx_cons,b,w4 (r:=r) (l:=l) (λc d=>a (c+1) (Nat.succ_lt_succ d)) h];rfl
def d9.wc{a:Nat->Nat}(s:d9 F n w a)(b:i<n):Mx.wc F i=a i:=by
 obtain⟨_,d,c⟩:=s.lead i b;show w4 c (Int.ne_of_gt d)
def d9.V5{c:Nat->Nat}(s:d9 F n w c):d9 F n w (Mx.wc F):=
 ⟨λi b=>by rw[s.wc b];show s.lead i b,λi j h a=>by rw[s.wc a,s.wc (Yu h a)];show s.mono i j h a⟩
section
variable {F:Rows}{r:Row}{m w:Nat}(isF:aQ m w F)(lr:r.length=w)
include isF lr
end
structure g_(A0:Rows)(N w:Nat)(b:B3)(top p:Nat)(ld:Nat->Nat)(e u v:Nat):Prop where
 tn:Tn A0 b.A b.U b.C N w
 le:top<=N
 lo:iA b.A N top (2^e)/\iA b.U N top (2^e)/\iA b.C N top (2^e)
 hi:∀i c,i<top->(g b.A i c).natAbs<=2^u/\(g b.U i c).natAbs<=2^u/\(g b.C i c).natAbs<=2^v
 zs:∀i c,top<=i->i<N->c<p->g b.A i c=0
 lead:∀i,i<top->ld i<p/\0<g b.A i (ld i)/\∀c,c<ld i->g b.A i c=0
 mono:∀i j,i<j->j<top->ld i<ld j
 red:∀i j,i<j->j<top->0<=g b.A i (ld j)/\g b.A i (ld j)<g b.A j (ld j)
def g_.VX{N w top p e u v:Nat}{c:Nat->Nat}(S:g_ a N w b top p c e u v):uH a N w top p (2^e) b b 1:=
 ⟨S.tn,λ_ _=>⟨rfl,rfl,rfl⟩,by rw[ZD];show S.lo.1,by rw[ZD];show S.lo.2.1,by rw[ZD];show S.lo.2.2,S.zs,by rw[Y5];show Wg _,Wg _,.inl rfl⟩
def g_.skip{N w top p e u v:Nat}{b:B3}{a:Nat->Nat}(S:g_ j N w b top p a e u v)(h:mS b.A N top p []):g_ j N w b top (p+1) a e u v:=
 ⟨S.tn,S.le,S.lo,S.hi,λi c g f l=>by
  by_cases k:c=p
  . subst k;show aaG λz=>absurd ((h.mem i).mpr ⟨g,f,z⟩) (by simp)
  . show S.zs i c g f (by lia),λi d=>⟨Xi (S.lead i d).1,(S.lead i d).2⟩,S.mono,S.red⟩
structure ny(A0:Rows)(N w top p e u v:Nat)(b:B3)(k:Nat)(c:B3):Prop where
 tn:Tn A0 c.A c.U c.C N w
 rA:∀i,k<=i->c.A.getD i []=b.A.getD i []/\c.U.getD i []=b.U.getD i []
 rC:∀i,i≠top->c.C.getD i []=b.C.getD i []
 ah:∀i q,i<k->q<p->g c.A i q=g b.A i q
 rd:∀i,i<k->0<=g c.A i p/\g c.A i p<g c.A top p
 sz:∀i q,i<k->(g c.A i q).natAbs<=2^(u+e+1)/\(g c.U i q).natAbs<=2^(u+e+1)
 sC:∀q,(g c.C top q).natAbs<=2^e+k*2^(u+v)
def ny.step{N w top p e u v k:Nat}{b c:B3}(I:ny A N w top p e u v b k c)(s:k<top)(l:top<N)(J:p<w)(n:0<g b.A top p)(C:∀q,q<p->g b.A top q=0)
 (r:∀q,(g b.A top q).natAbs<=2^e/\(g b.U top q).natAbs<=2^e) (f:∀i q,i<top->(g b.A i q).natAbs<=2^u/\(g b.U i q).natAbs<=2^u/\(g b.C i q).natAbs<=2^v):
 ny A N w top p e u v b (k+1) ⟨aO c.A k ((g c.A k p).fdiv (g c.A top p)) top,aO c.U k ((g c.A k p).fdiv (g c.A top p)) top,aO c.C top (-((g c.A k p).fdiv (g c.A top p))) k⟩:=by
 let a:k<N:=by lia
 let m:∀i q,k<=i->g c.A i q=g b.A i q:=λi q d=>by unfold g;rw[(I.rA i d).1]
 let z:∀i q,k<=i->g c.U i q=g b.U i q:=λi q d=>by unfold g;rw[(I.rA i d).2]
 let F:∀i q,i≠top->g c.C i q=g b.C i q:=λi q d=>by unfold g;rw[I.rC i d]
 let t:((g c.A k p).fdiv (g c.A top p)).natAbs<=2^u:=by
  rw[m k p (Wg _),m top p (by lia)];show Wj (BR _ n) (f k p s).1
 let y:∀x:Int,x.natAbs<=2^e->((g c.A k p).fdiv (g c.A top p)*x).natAbs<=2^(u+e):=λx D=>by
  rw[W0,XM];show Xk t D
 let B:2^u<=2^(u+e):=Ws (by decide) (by lia);show⟨I.tn.take a l (by lia),λi d=>?_,λi d=>?_,λi q d o=>?_,λi d=>?_,λi q d=>?_,λq=>?_⟩
 . show⟨(ko (by rw[I.tn.isA.len];show a) (by lia)).trans (I.rA i (by lia)).1,(ko (by rw[I.tn.cA.len];show a) (by lia)).trans (I.rA i (by lia)).2⟩
 . show(ko (by rw[I.tn.cH.len];show l) d).trans (I.rC i d)
 . change g (aO c.A k _ top) i q=_;rw[fo I.tn.isA a l];split
   . rename_i h;rw[m top q (by lia),C q o,W7,m k q (Wg _),h];lia
   . show I.ah i q (by lia) o
 . change 0<=g (aO c.A k _ top) i p/\g (aO c.A k _ top) i p<g (aO c.A k _ top) top p;rw[fo I.tn.isA a l,fo I.tn.isA a l,Wc (show¬top=k by lia)];split
   . have E:=aba (g c.A k p) (g c.A top p);let j:0<g c.A top p:=by rw[m top p (by lia)];show n
     let L:=XB (g c.A k p) j;let K:=XX (g c.A k p) j;rw[XI]at E;lia
   . show I.rd i (by lia)
 . change(g (aO c.A k _ top) i q).natAbs<=_/\(g (aO c.U k _ top) i q).natAbs<=_;rw[fo I.tn.isA a l,fo I.tn.cA a l];split
   . have H:=y (g c.A top q) (by rw[m top q (by lia)];show(r q).1);let G:=y (g c.U top q) (by rw[z top q (by lia)];show(r q).2);rw[m k q (Wg _),z k q (Wg _)];let O:=(f k q s).1;let M:=(f k q s).2.1;rw[YQ];lia
   . show I.sz i q (by lia)
 . change(g (aO c.C top _ k) top q).natAbs<=_;rw[fo I.tn.cH l a,We rfl,F k q (by lia),Yq];let H:=I.sC q
   let G:((g c.A k p).fdiv (g c.A top p)*g b.C k q).natAbs<=2^(u+v):=by
    rw[W0,XM];show Xk t (f k q s).2.2
   rw[ZE,Y5];lia
def ny.start{N w top p e u v:Nat}{b:B3}(T:Tn a b.A b.U b.C N w)(h:∀q,(g b.C top q).natAbs<=2^e):ny a N w top p e u v b 0 b:=
 ⟨T,λ_ _=>⟨rfl,rfl⟩,λ_ _=>rfl,λ_ _ h=>absurd h (Xx _),λ_ h=>absurd h (Xx _),λ_ _ h=>absurd h (Xx _),λq=>by rw[Nat.zero_mul];show h q⟩
def yx.xr{N w top p e u v e' u' v':Nat}{b0 b c:B3}{B:Nat->Nat}(S:g_ z N w b0 top p B e u v)(s:yx z N w top p (2^e') b0 b)(y:top<N)(I:ny z N w top p e' u v b top c)(n:N<=8)
 (F:u+e'+1<=u') (K:u+v+4<=v') (J:e'+1<=v'):g_ z N w c (top+1) (p+1) (λi=>if i=top then p else B i) e' u' v':=by
 let k:∀i q,i<top->g b.A i q=g b0.A i q:=λi q f=>by unfold g;rw[(s.up i f).1]
 let r:∀i q,top<=i->g c.A i q=g b.A i q:=λi q f=>by unfold g;rw[(I.rA i f).1]
 let D:∀i q,top<=i->g c.U i q=g b.U i q:=λi q f=>by unfold g;rw[(I.rA i f).2]
 let E:∀i q,i≠top->g c.C i q=g b.C i q:=λi q f=>by unfold g;rw[I.rC i f]
 let t:∀ {a x:Nat},a<=2^x->x<=u'->a<=2^u':=λh G=>Wj h (Ws (by decide) G);show⟨I.tn,y,⟨λi q f n=>?_,λi q f n=>?_,λi q f n=>?_⟩,λi q f=>?_,λi q f n o=>?_,λi f=>?_,λi j m H=>?_,λi j m H=>?_⟩
 . rw[r i q (by lia)];show s.lo.1 i q (by lia) n
 . rw[D i q (by lia)];show s.lo.2.1 i q (by lia) n
 . rw[E i q (by lia)];show s.lo.2.2 i q (by lia) n
 . by_cases h:i=top
   . subst h;show⟨?_,?_,?_⟩
     . rw[r i q (Wg _)];show t (s.lo.1 i q (Wg _) y) (by lia)
     . rw[D i q (Wg _)];show t (s.lo.2.1 i q (Wg _) y) (by lia)
     . have R:=I.sC q;let Q:i*2^(u+v)<=2^(u+v+3):=by rw[XM _ _ 3,X6];show YU _ (by lia)
       let P:2^(u+v+3)*2<=2^v':=by rw[<-YQ];show Ws (by decide) K
       let O:2^e'*2<=2^v':=by rw[<-YQ];show Ws (by decide) J
       lia
   . have d:i<top:=by lia
     show⟨t (I.sz i q d).1 F,t (I.sz i q d).2 F,?_⟩;rw[E i q h];let:g b.C i q=g b0.C i q:=by unfold g;rw[(s.up i d).2.2]
     rw[this];show Wj (S.hi i q d).2.2 (Ws (by decide) (by lia))
 . rw[r i q (by lia)];by_cases h:q=p
   . rw[h];show s.z1 i (by lia) n
   . show s.zs i q (by lia) n (by lia)
 . by_cases h:i=top
   . subst h;rw[We rfl];show⟨Xh p,?_,λq o=>?_⟩
     . rw[r i p (Wg _)];show s.tp
     . rw[r i q (Wg _)];show s.zs i q (Wg _) y o
   . have d:i<top:=by lia
     rw[Wc h];obtain⟨A,M,L⟩:=S.lead i d;show⟨Xi A,?_,λq o=>?_⟩
     . rw[I.ah i _ d A,k i _ d];show M
     . rw[I.ah i _ d (Yu o A),k i _ d];show L q o
 . by_cases h:j=top
   . rw[We h,Wc (by lia)];show(S.lead i (by lia)).1
   . rw[Wc h,Wc (by lia)];show S.mono i j m (by lia)
 . by_cases h:j=top
   . subst h;rw[We rfl];show I.rd i m
   . have l:j<top:=by lia
     rw[Wc h];let:=S.red i j m l;let C:=(S.lead j l).1;rw[I.ah i _ (by lia) C,I.ah j _ l C,k i _ (by lia),k j _ l];show this
def g_.start{N w e:Nat}(a:aQ N w A)(h:iA A N 0 (2^e)):g_ A N w ⟨A,units N,units N⟩ 0 0 (λ_=>0) e 0 0:=by
 let S:=yO.start a h;show⟨S.tn,S.le,S.lo,S.hi,S.zs,S.lead,S.mono,S.red⟩
def g_.VR{N w top p e u v:Nat}{d:Nat->Nat}(S:g_ f N w b top p d e u v):yO f N w b top p d e (u+v):=
 ⟨S.tn,S.le,S.lo,λi c a=>⟨Wj (S.hi i c a).1 (Ws (by decide) (by lia)),Wj (S.hi i c a).2.1 (Ws (by decide) (by lia)),Wj (S.hi i c a).2.2 (Ws (by decide) (by lia))⟩,S.zs,S.lead,S.mono,S.red⟩
def g_.MP{N w top p e u v:Nat}{a:Nat->Nat}(S:g_ f N w b top p a e u v):top<=p:=by
 let d:∀i,i<top->i<=a i:=λi=>by
  induction i with
  |zero=>intro _;show WU _
  |succ i c=>
   intro h;let:=c (by lia);let:=S.mono i (i+1) (by lia) h;lia
 rcases Nat.eq_zero_or_pos top with z|z
 . lia
 . have j:=d (top-1) (by lia);let g:=(S.lead (top-1) (by lia)).1;lia
def Uz(N a:Nat):Nat->Nat
 |0=>0
 |t+1=>Uz N a t+Ez N a (t+1)+1
def Cz(N a:Nat):Nat->Nat
 |0=>0
 |t+1=>Uz N a t+Cz N a t+Ez N a (t+1)+4
def Rm(N w a:Nat):Prop:=∀t,t<N->t<w->Ez N a (t+1)<60000000/\Uz N a t+Ez N a (t+1)<=120000000/\Uz N a t+Cz N a t<=120000000
def KZ(o:aQ n w X)(p:aQ w d B)(j:w<=8)(q:∀i c,i<n->c<w->(g X i c).natAbs<=2^a)(r:∀i c,i<w->c<d->(g B i c).natAbs<=2^b):∀i c,i<n->c<d->(g (mulM X B d) i c).natAbs<=2^(a+b+3):=λi c h l=>by
 rw[kh o p h]
 let:=MI (n:=w) (f:=λk=>g X i k*g B k c) (m:=2^a*2^b) λk e=>by
  rw[W0];show Xk (q i k h e) (r k c e l)
 show Wj this ?_;rw[show a+b+3=3+(a+b) by lia,XM _ 3,XM];show Xm _ j
def Kq{z:Nat->Int}(l:aQ N w A)(a:j<N)(b:z j≠0)(h:∀c,c<w->S N (λk=>z k*g A k c)=0):D N (ae A)=0:=by
 let e:D N (upd (ae A) j λ_=>0)=z j*D N (ae A):=Jr a λc i=>by
  let m:S N (λk=>z k*ae A k c)=S N λk=>S w λq=>z k*g A k q*g A c q:=ax λk f=>by
   rw[fP l f i,<-cW];show ax λq _=>(Xv _ _ _).symm
  rw[m,iD];show(mI λq d=>?_).symm;rw[kD,h q d,Y8]
 rw[(jS N).K0 a λc _=>cm _ _ _ _]at e;rcases Zl.mp e.symm with h|h
 . show absurd h b
 . show h
end Mx
set_option exponentiation.threshold 100
namespace Mx
def p2(h:a<=b):(2:Int)^a<=2^b:=by
 let:=Ws (n:=2) (by decide) h;let c:((2^a:Nat):Int)<=((2^b:Nat):Int):=Zr.mpr this;rw[Xy,Xy]at c;show c
def pd(a:Nat):(0:Int)<2^a:=aa0 (by decide)
structure Lg(A0 A U C:Rows)(N w:Nat)(m:Nat->Nat):Prop where
 T:Tn A0 A U C N w
 D:∀p,p<=N->0<D p (ae A)/\D p (ae A)<=2^744
 len:∀i,i<N->ae A i i<=2^m i
variable {A0 A U C:Rows}{N w:Nat}{m:Nat->Nat}
def Lg.ne(L:Lg A0 A U C N w m):∀k,k<=N->Mx.D k (ae A)≠0:=λk a=>by let:=(L.D k a).1;lia
def Lg.mono(L:Lg A0 A U C N w m){a:Nat->Nat}(h:∀i,i<N->m i<=a i):Lg A0 A U C N w a:=⟨L.T,L.D,λi b=>WN (L.len i b) (p2 (h i b))⟩
def Lg.Uy(L:Lg A0 A U C N w m)(a:i<N)(c:p<N):lam (ae A) i p*lam (ae A) i p<=2^(1488+m i):=by
 let h:=RH L.T.isA L.ne a c;let k:=L.D p (by lia);let j:=L.D (p+1) (by lia);let g:=L.len i a;let f:=ff L.T.isA a;let d:Mx.D p (ae A)*Mx.D (p+1) (ae A)<=2^744*2^744:=Ye k.2 j.2 (by lia) (XJ (pd _));let b:Mx.D p (ae A)*Mx.D (p+1) (ae A)*ae A i i<=2^744*2^744*2^m i:=Ye d g f (XJ (Yr (pd _) (pd _)));let e:(2:Int)^744*2^744*2^m i=2^(1488+m i):=by rw[<-Y6,<-Y6]
 rw[e]at b;show WN h b
def GY{x:Int}(h:x*x<=2^(b+b)):x.natAbs<=2^b:=by
 show oY (m:=2^b) (a:=2^b) (b:=2^b) (by rw[<-Y6];show h) (XJ (pd _)) (XJ (pd _)) ?_ ?_<;>(rw[Xy];show ZC _)
def Lg.R9(L:Lg A0 A U C N w m)(b:i<N)(a:p<N)(h:m i<=37000):(lam (ae A) i p).natAbs<=2^40000:=GY (WN (L.Uy b a) (p2 (by lia)))
def Lg.ent(L:Lg A0 A U C N w m)(h:∀i,i<N->m i<=37000):∀r∈A,∀x∈r,x.natAbs<=2^400000:=λr j x o=>by
 obtain⟨i,p,e⟩:=WV.mp j;let v:=L.T.isA.len;let a:i<N:=by lia
 let u:A.getD i []=r:=by rw[aP p,e]
 let k:=L.len i a;obtain⟨c,q,t⟩:=WV.mp o;let d:c<w:=by let:=L.T.isA.eJ r j;lia
 rw[fP L.T.isA a a,u]at k
 let s:x*x<=S w λc=>r.getD c 0*r.getD c 0:=by
  let b:∀n,c<n->x*x<=S n λc=>r.getD c 0*r.getD c 0:=λn=>by
   induction n with
   |zero=>intro h;lia
   |succ n l=>
    intro h;change x*x<=S n (λc=>r.getD c 0*r.getD c 0)+r.getD n 0*r.getD n 0;by_cases g:c=n
    . subst g;rw[aP q,t];let:=lV (n:=c) (f:=λc=>r.getD c 0*r.getD c 0) λi _=>sq_nonneg _;lia
    . have:=l (by lia);let y:=sq_nonneg (r.getD n 0);lia
  show b w d
 show GY (WN s (WN k (p2 (by let:=h i a;lia))))
def Lg.turn(L:Lg A0 A U C N w m)(u:aQ N w A0)(t:N<=8)(l:Mx.D N (ae A0)≠0)(v:∀i,i<N->ae A0 i i<=2^37000)(h:∀i,i<N->m i<=37000):(∀r∈U,∀x∈r,x.natAbs<=2^400000)/\∀r∈C,∀x∈r,x.natAbs<=2^400000:=by
 let b:(8*2^37000)^N<=2^400000:=by
  let e:8*2^37000=2^37003:=by rw[show 37003=3+37000 from rfl,XM]
  rw[e,<-Zg];show Ws (by decide) (by lia)
 let d:∀i j,i<N->j<N->(g U i j).natAbs<=2^400000/\(g C i j).natAbs<=2^400000:=λi j a f=>by
  let:=L.T.abs (m:=2^37000) u t l (L.ne N (Wg _)) (λi a=>by rw[Xy];show v i a) (λi a=>by rw[Xy];show WN (L.len i a) (p2 (h i a))) a f;show⟨Wj this.1 b,Wj this.2 b⟩
 let k:∀ {B:Rows},aQ N N B->(∀i j,i<N->j<N->(g B i j).natAbs<=2^400000)->∀r∈B,∀x∈r,x.natAbs<=2^400000:=λ{B} o s r n x p=>by
  obtain⟨i,a,e⟩:=WV.mp n;obtain⟨c,q,y⟩:=WV.mp p;let D:=o.len;let z:=o.eJ r n;let:=s i c (by lia) (by lia);unfold g at this;rw[aP a,e,aP q,y]at this;show this
 show⟨k L.T.cA λi j a f=>(d i j a f).1,k L.T.cH λi j a f=>(d i j a f).2⟩
def Lg.take(L:Lg A0 A U C N w m){k j:Nat}(g:j<k)(c:k<N)(f:q*q<=2^(1488+m k))(b:m j<=748):Lg A0 (aO A k q j) (aO U k q j) (aO C j (-q) k) N w λi=>if i=k then m k+2240 else m i where
 T:=L.T.take c (by lia) (by lia)
 D:=λp d=>by rw[wo L.T.isA g c d];show L.D p d
 len:=λi a=>by
  by_cases h:i=k
  . subst h;rw[We rfl];let x:=Hl (q:=q) L.T.isA a (show j<N by lia) (by lia);let v:=L.len i a;let s:=WN (L.len j (by lia)) (p2 b);let r:=ff L.T.isA (i:=j) (by lia);let o:q*q*ae A j j<=2^(1488+m i)*2^748:=Ye f s r (XJ (pd _));rw[<-Y6]at o;let u:=p2 (show m i<=1488+m i+748 by lia);let n:(2:Int)^(m i+2240)=2^(1488+m i+748)*2^4:=by rw[<-Y6];congr 1;lia
    let l:(2:Int)^4=16:=by decide
    rw[n,l];let t:=pd (1488+m i+748);lia
  . rw[Wc h]
    let e:ae (aO A k q j) i i=ae A i i:=by
     rw[sL L.T.isA c (by lia) (by lia) a a];unfold tk tf qh;rw[Wc h,Wc h]
    rw[e];show L.len i a
def Lg.swap(L:Lg A0 A U C N w m)(a:t+1<N)(c:0<lam (cq (ae A) t) t t/\lam (cq (ae A) t) t t<=2^744):Lg A0 (aW A (t+1) t) (aW U (t+1) t) (aW C (t+1) t) N w λi=>m (sw t (t+1) i) where
 T:=L.T.swap a
 D:=λp b=>by
  rw[mB (by let:=L.T.isA.len;lia)];by_cases h:p=t+1
  . subst h;rw[<-cZ];show c
  . rw[nB h];show L.D p b
 len:=λi d=>by
  rw[mB (by let:=L.T.isA.len;lia)];show L.len _ (sU a d)
end Mx
set_option exponentiation.threshold 100
namespace Mx
def yv{f:Nat->Int}:∀n,(∀i,i<n->0<f i)->0<Pr n f
 |0,_=>by change(0:Int)<1;decide
 |n+1,h=>Yr (yv n λi a=>h i (by lia)) (h n (by lia))
def M5{f h:Nat->Int}:∀n,t<n->(∀i,i<n->0<f i)->(∀i,i<n->0<h i)->(∀i,i<n->i≠t->h i=f i)->h t<f t->Pr n h<Pr n f
 |0,l,_,_,_,_=>by lia
 |n+1,l,d,o,g,j=>by
  change Pr n h*h n<Pr n f*f n;by_cases b:t=n
  . subst b
    let e:Pr t h=Pr t f:=by
     let a:∀m,m<=t->Pr m h=Pr m f:=λm=>by
      induction m with
      |zero=>intro _;rfl
      |succ m k=>intro p;change Pr m h*h m=Pr m f*f m;rw[k (by lia),g m (by lia) (by lia)]
     show a t (Wg _)
    rw[e];show YF j (yv t λi c=>d i (by lia))
  . rw[g n (by lia) (by lia)];show Int.mul_lt_mul_of_pos_right (M5 n (by lia) (λi c=>d i (by lia)) (λi c=>o i (by lia)) (λi c=>g i (by lia)) j) (d n (by lia))
def Nb{f h:Nat->Int}:∀n,(∀i,i<n->h i=f i)->Pr n h=Pr n f
 |0,_=>rfl
 |n+1,a=>by change Pr n h*h n=Pr n f*f n;rw[Nb n λi b=>a i (by lia),a n (by lia)]
def jw(A:Rows)(t:Nat):Prop:=4*(D (t+2) (ae A)*D t (ae A)+lam (ae A) (t+1) t*lam (ae A) (t+1) t)<3*D (t+1) (ae A)*D (t+1) (ae A)
variable {A0 A U C:Rows}{N w:Nat}{m:Nat->Nat}
def wY(L:Lg A0 A U C N w m)(f:t+1<N)(h:jw A t):0<lam (cq (ae A) t) t t/\lam (cq (ae A) t) t t<D (t+1) (ae A):=by
 let c:=(L.D t (by lia)).1;let b:=(L.D (t+1) (by lia)).1;let p2:=(L.D (t+2) (by lia)).1;let e:=pU (t:=t) (ji A) (by lia);let j:=Yr c p2;let i:=sq_nonneg (lam (ae A) (t+1) t);unfold jw at h;rw[XI (D (t+2) (ae A))]at h;constructor
 . have:0<D (t+1) (ae A)*lam (cq (ae A) t) t t:=by rw[e];lia
   show Int.pos_of_mul_pos_left (by rw[XI];show this) b
 . show YI (a:=D (t+1) (ae A)) ?_ (by lia);rw[e];let g:=Yr b b;let d:3*D (t+1) (ae A)*D (t+1) (ae A)=3*(D (t+1) (ae A)*D (t+1) (ae A)):=by grind
   rw[d]at h;lia
def mk(N k:Nat):Nat->Nat:=λi=>if i=k then 748+2240*(N-k)else 748
structure Lk(A0 A U C:Rows)(N w k:Nat):Prop where
 L:Lg A0 A U C N w (mk N k)
 red:∀i,i<k->i<N->∀j,j<i->2*(((lam (ae A) i j).natAbs:Nat):Int)<=D (j+1) (ae A)
 flat:∀t,t+1<k->t+1<N->¬jw A t
def rk(A:Rows)(N:Nat):Int:=Pr N λp=>D (p+1) (ae A)
def CA{k j:Nat}(c:aQ N w A)(b:j<k)(a:k<N):rk (aO A k q j) N=rk A N:=Nb N λp d=>wo c b a (by lia)
def JU(L:Lg A0 A U C N w m)(d:t+1<N)(h:jw A t):rk (aW A (t+1) t) N<rk A N:=by
 let g:=L.T.isA.len;let b:=wY L d h
 let e:∀p,D p (ae (aW A (t+1) t))=if p=t+1 then lam (cq (ae A) t) t t else D p (ae A):=λp=>by
  rw[mB (by lia)];by_cases a:p=t+1
  . rw[We a,a,cZ]
  . rw[Wc a,nB a]
 show M5 (t:=t) N (by lia) (λi c=>(L.D (i+1) (by lia)).1) (λi c=>?_) (λi c f=>?_) ?_
 . rw[e];split
   . show b.1
   . show(L.D (i+1) (by lia)).1
 . rw[e,Wc (by lia)]
 . rw[e,We rfl];show b.2
def Ou(L:Lg A0 A U C N w m):0<rk A N:=yv N λi a=>(L.D (i+1) (by lia)).1
def CJ(c:aQ N w A){k j:Nat}(b:j<k)(a:k<N):lam (ae (aO A k q j)) k j=lam (ae A) k j-q*D (j+1) (ae A):=by
 rw[lI c b a a (by lia),We rfl,cZ]
def EG(e:aQ N w A){k j p:Nat}(d:j<k)(b:k<N)(c:j<p)(a:p<=k):lam (ae (aO A k q j)) k p=lam (ae A) k p:=by
 rw[lI e d b b a,We rfl,v_ c,W7,YR]
def CL(f:aQ N w A){k j i p:Nat}(d:j<k)(c:k<N)(e:i<N)(a:i≠k)(b:p<=i):lam (ae (aO A k q j)) i p=lam (ae A) i p:=by
 rw[lI f d c e b,Wc a,YR]
def PD(L:Lg A0 A U C N w m){k j:Nat}(c:k<N)(d:j<N):((2*lam (ae A) k j+D (j+1) (ae A)).fdiv (2*D (j+1) (ae A)))*((2*lam (ae A) k j+D (j+1) (ae A)).fdiv (2*D (j+1) (ae A)))<=2^(1488+m k):=by
 let b:=(Cr (t:=lam (ae A) k j) (L.D (j+1) (by lia)).1).2;let a:=L.Uy c d;generalize(2*lam (ae A) k j+D (j+1) (ae A)).fdiv (2*D (j+1) (ae A))=q at*;let f:q*q=((q.natAbs:Nat):Int)*((q.natAbs:Nat):Int):=(Zd _).symm;let e:lam (ae A) k j*lam (ae A) k j=(((lam (ae A) k j).natAbs:Nat):Int)*(((lam (ae A) k j).natAbs:Nat):Int):=(Zd _).symm;rw[f];rw[e]at a;show WN (Ye b b (by lia) (by lia)) a
end Mx
set_option exponentiation.threshold 100
namespace Mx
def nM(b:i<n)(a:j<n):g (units n) i j=dl i j:=by
 unfold g units fJ;rw[aP (l:=(List.range n).map _) (by simpa using b),Xa,Xe,aP (by simpa using a),Xa,Xe];show nK _ _
def Tn.refl(f:aQ N w A):Tn A A (units N) (units N) N w where
 isA:=f
 cA:=gH N
 cH:=gH N
 ua:=λi c a h=>by
  let e:S N (λk=>g (units N) i k*g A k c)=S N λk=>dl i k*g A k c:=ax λk b=>by rw[nM a b]
  rw[e,iz a]
 ub:=λi j a d=>by
  let e:S N (λk=>g (units N) i k*g (units N) j k)=S N λk=>dl i k*dl j k:=ax λk b=>by rw[nM a b,nM d b]
  rw[e,iz a];show nK _ _
 bu:=λi j a d=>by
  let e:S N (λk=>g (units N) k i*g (units N) k j)=S N λk=>dl i k*dl k j:=ax λk b=>by rw[nM b a,nM b d,nK k i]
  rw[e,iz a]
def Lk.start(c:aQ N w A)(f:∀k,k<=N->D k (ae A)≠0)(e:∀k,k<=N->D k (ae A)<=2^744)(d:∀i,i<N->ae A i i<=2^748):Lk A A (units N) (units N) N w 1 where
 L:=⟨Tn.refl c,λp a=>⟨jX c f p a,e p a⟩,λi b=>WN (d i b) (p2 (by unfold Mx.mk;split<;>lia))⟩
 red:=λi b _ j h=>by lia
 flat:=λt g=>by lia
end Mx
set_option exponentiation.threshold 100
namespace Mx
section
variable {A:Rows}{N w:Nat}
def Sh.two(h:Sh (ae A) N)(g:0<i)(f:i<N):D i (ae A)*D i (ae A)<=2*D (i+1) (ae A)*D (i-1) (ae A):=by
 let a:=h.half i (i-1) (by lia) f;let b:=h.FF i g f;rw[show i-1+1=i by lia]at a;generalize lam (ae A) i (i-1)=l at*;generalize D i (ae A)=d at*;generalize D (i+1) (ae A)=p at*;generalize D (i-1) (ae A)=q at*
 let c:4*l*l<=d*d:=by
  let k:2*(l.natAbs:Int)*(2*(l.natAbs:Int))<=d*d:=Ye a a (by lia) (by lia);let j:(l.natAbs:Int)*(l.natAbs:Int)=l*l:=by rw[<-Y0,aae]
  grind
 let e:3*d*d=3*(d*d):=by grind
 let m:4*p*q=2*(2*p*q):=by grind
 lia
variable (hA:aQ N w A)(hD:∀k,k<=N->D k (ae A)≠0)(h2:∀i,0<i->i<N->D i (ae A)*D i (ae A)<=2*D (i+1) (ae A)*D (i-1) (ae A))
include hA hD h2
end
section
variable {A B U C:Rows}{N w:Nat}
def Tn.unit(T:Tn A B U C N w):D N (g U)*D N (g U)=1:=by
 let a:D N (λr c=>S N λk=>g U r k*(tr (g C)) k c)=D N dl:=bw λr c d e=>T.ub r c d e;rw[Gi,ya,pC]at a;generalize D N (g U)=x at*;generalize D N (g C)=y at*;let:x.natAbs*y.natAbs=1:=by rw[<-W0,a];rfl
 let b:x.natAbs=1:=Nat.eq_one_of_mul_eq_one_right this;rcases Int.natAbs_eq x with h|h<;>rw[b]at h<;>subst h<;>rfl
def Tn.same(T:Tn A B U C N w)(i:aQ N w A):D N (ae B)=D N (ae A):=by
 let e:D N (ae B)=D N λr c=>S N λk=>g U r k*(λk c=>S N λl=>ae A k l*tr (g U) l c) k c:=bw λr c b d=>by
  rw[fP T.isA b d]
  let j:S w (λx=>(B.getD r []).getD x 0*(B.getD c []).getD x 0)=S w λx=>S N λk=>S N λl=>g U r k*(g A k x*g A l x)*g U c l:=ax λx a=>by
   change g B r x*g B c x=_;rw[T.ua r x b a,T.ua c x d a,<-kD];show ax λk _=>?_;rw[<-cW];show ax λl _=>by grind
  rw[j,iD];show ax λk h=>?_;rw[iD,<-cW];show ax λl f=>?_;rw[fP i h f,kD,cW,Xv];rfl
 rw[e,Gi,Gi,pC];let u:=T.unit;generalize D N (g U)=x at*;generalize D N (ae A)=y at*;let:x*(y*x)=(x*x)*y:=by grind
 rw[this,u,XA]
end
end Mx
set_option exponentiation.threshold 100
namespace Mx
section
variable {A:Rows}{N w:Nat}
def C_(c:aQ N w A)(b:∀k,k<=N->D k (ae A)≠0)(h:Sh (ae A) N):∀j t,t+j+1=N->D (t+1) (ae A)<=2^j*D N (ae A)*D t (ae A)
 |0,t,e=>by
  let p:=jX c b t (by lia);let q:=jX c b N (Wg N);rw[e,Int.pow_zero,XA];let:=XS (show(1:Int)<=D t (ae A)from p) (XJ q);lia
 |j+1,t,e=>by
  let l:=C_ c b h j (t+1) (by lia);let a:=h.two (i:=t+1) (by lia) (by lia);rw[show t+1-1=t by lia]at a;let n:=jX c b t (by lia);let g:=jX c b (t+1) (by lia);rw[Int.pow_succ];generalize D (t+1+1) (ae A)=d2 at*;generalize D (t+1) (ae A)=d1 at*;generalize D t (ae A)=d0 at*;let f:2*d2<=2*(2^j*D N (ae A)*d1):=XS l (by decide);let m:2*d2*d0<=2*(2^j*D N (ae A)*d1)*d0:=WX f (by lia)
  let d:d1*d1<=(2^j*2*D N (ae A)*d0)*d1:=by
   let:2*(2^j*D N (ae A)*d1)*d0=(2^j*2*D N (ae A)*d0)*d1:=by grind
   lia
  show aat d g
def Eg(f:aQ N w A)(a:∀k,k<=N->D k (ae A)≠0)(h:Sh (ae A) N)(d:∀t,t<N->D (t+1) (ae A)<=b*D t (ae A))(c:i<N):∀j p,p+j=i->gx (ae A) p (ae A i) i<=D p (ae A)*(((j+1:Nat):Int)*b)
 |0,p,e=>by
  let u:p=i:=by lia
  subst u;rw[lK];let:=d p c
  let F:D p (ae A)*(((0+1:Nat):Int)*b)=b*D p (ae A):=by
   rw[show((0+1:Nat):Int)=1 from rfl,XA,XI]
  lia
 |j+1,p,e=>by
  let q:=Eg f a h d c j (p+1) (by lia);let o:=jj (R:=ae A) (p:=p) (a p (by lia)) (ae A i) i;let g:=mN (ji A) p p i;let r:=h.half i p (by lia) c;let y:=jX f a p (by lia);let n:=jX f a (p+1) (by lia);let s:=d p (by lia);rw[g]at o;unfold lam at r;generalize gx (ae A) p (ae A i) p=l at*;generalize gx (ae A) (p+1) (ae A i) i=g1 at*;generalize gx (ae A) p (ae A i) i=g0 at*;generalize D (p+1) (ae A)=d1 at*;generalize D p (ae A)=d0 at*
  let z:l*l<=d1*d1:=by
   let C:(l.natAbs:Int)*(l.natAbs:Int)<=d1*d1:=Ye (by lia) (by lia) (by lia) (by lia);let B:(l.natAbs:Int)*(l.natAbs:Int)=l*l:=by rw[<-Y0,aae]
   lia
  let x:d0*g1<=d0*(d1*(((j+1:Nat):Int)*b)):=XS q (by lia)
  let m:g0*d1<=(d0*(((j+1:Nat):Int)*b)+d1)*d1:=by
   let:(d0*(((j+1:Nat):Int)*b)+d1)*d1=d0*(d1*(((j+1:Nat):Int)*b))+d1*d1:=by grind
   let:d1*g0=g0*d1:=XI _ _;lia
  let v:=aat m n
  let E:d0*(((j+1+1:Nat):Int)*b)=d0*(((j+1:Nat):Int)*b)+b*d0:=by
   rw[show((j+1+1:Nat):Int)=((j+1:Nat):Int)+1 from rfl,Int.add_mul,aaZ,XA,XI d0 b]
  lia
def C3(b:aQ N w A)(a:∀k,k<=N->D k (ae A)≠0)(h:Sh (ae A) N)(o:N<=8){e:Nat}(f:D N (ae A)<=2^e)(d:i<N):ae A i i<=2^(N+2+e):=by
 let q:=jX b a N (Wg N)
 let g:∀t,t<N->D (t+1) (ae A)<=(2^(N-1)*2^e)*D t (ae A):=λt n=>by
  let r:=C_ b a h (N-1-t) t (by lia);let p:=jX b a t (by lia);let m:(2:Int)^(N-1-t)<=2^(N-1):=p2 (by lia);let l:(2:Int)^(N-1-t)*D N (ae A)<=2^(N-1)*2^e:=Ye m f (by lia) (XJ (aa0 (by decide)));show WN r (WX l (by lia))
 let s:=Eg b a h g d i 0 (by lia);rw[jx,gX,XA]at s;let c:((i+1:Nat):Int)*(2^(N-1)*2^e)<=2^3*(2^(N-1)*2^e):=WX (by lia) (XJ (Yr (aa0 (by decide)) (aa0 (by decide))));let j:(2:Int)^3*(2^(N-1)*2^e)=2^(N+2+e):=by rw[<-Y6,<-Y6,show 3+(N-1+e)=N+2+e by lia]
 rw[j]at c;show WN s c
end
def MV:∀(n:Nat) (f:Nat->Int),S n (λk=>f (n-1-k))=S n f
 |0,_=>rfl
 |n+1,f=>by
  rw[xi];change f (n+1-1-0)+S n (λi=>f (n+1-1-(i+1)))=S n f+f n
  let e:S n (λi=>f (n+1-1-(i+1)))=S n λk=>f (n-1-k):=ax λi a=>by
   rw[show n+1-1-(i+1)=n-1-i by lia]
  rw[e,MV n f,show n+1-1-0=n by lia,Int.add_comm]
def ui{A:Rows}(b:aQ N w A)(d:i<N):g A.reverse i c=g A (N-1-i) c:=by
 let a:=b.len
 let e:A.reverse.getD i []=A.getD (N-1-i) []:=by
  rw[Wo,Wo,List.getElem?_reverse (by lia),a]
 unfold g;rw[e]
def AX{A:Rows}(a:aQ N w A):aQ N w A.reverse:=⟨by rw[List.length_reverse];show a.len,λr b=>a.eJ r (List.mem_reverse.mp b)⟩
def Tn.rev{f A U C:Rows}(T:Tn f A U C N w):Tn f A.reverse U.reverse C.reverse N w where
 isA:=AX T.isA
 cA:=AX T.cA
 cH:=AX T.cH
 ua:=λi c a l=>by
  rw[ui T.isA a,T.ua _ c (by lia) l];show ax λk b=>by rw[ui T.cA a]
 ub:=λi j a d=>by
  let e:S N (λk=>g U.reverse i k*g C.reverse j k)=S N λk=>g U (N-1-i) k*g C (N-1-j) k:=ax λk b=>by rw[ui T.cA a,ui T.cH d]
  rw[e,T.ub _ _ (by lia) (by lia)];unfold dl;by_cases h:i=j
  . rw[We h,We (by lia)]
  . rw[Wc h,Wc (by lia)]
 bu:=λi j a d=>by
  let e:S N (λk=>g C.reverse k i*g U.reverse k j)=S N λk=>(λq=>g C q i*g U q j) (N-1-k):=ax λk b=>by rw[ui T.cH b,ui T.cA b]
  rw[e,MV N λq=>g C q i*g U q j,T.bu i j a d]
variable {A:Rows}{N w:Nat}
def yE(a:aQ N w A)(f:m<N):∀(k i:Nat),(∀j,j<k->D j (ae A)≠0)->k<=N->i<N->S w (λc=>ev A N i k c*(A.getD m []).getD c 0)=gx (ae A) k (ae A i) m
 |0,i,_,_,g=>by
  rw[jx];let p:=a.len;let o:(A.getD i []).length=w:=a.eJ _ (by rw[aP (by lia)];show WM _);let h:(A.getD m []).length=w:=a.eJ _ (by rw[aP (by lia)];show WM _);unfold ae;rw[kR (by rw[o,h]),h];show ax λc n=>?_;rw[qo]
 |k+1,i,d,q,g=>by
  let b:=d k (by lia);show cancel b ?_;rw[<-cW,<-jj b (ae A i) m]
  let e:S w (λc=>D k (ae A)*(ev A N i (k+1) c*(A.getD m []).getD c 0))=S w λc=>D (k+1) (ae A)*(ev A N i k c*(A.getD m []).getD c 0)-lam (ae A) i k*(ev A N k k c*(A.getD m []).getD c 0):=ax λc n=>by
   rw[<-Xv,pW (by lia) b,Int.sub_mul,Xv,Xv]
  rw[e,iS,yE a f k i (λj l=>d j (by lia)) (by lia) g,yE a f k k (λj l=>d j (by lia)) (by lia) (by lia)];rfl
def xO(r:aQ N w A):∀(k i:Nat),(∀j,j<k->D j (ae A)≠0)->k<=i->i<N->∃(t:Int) (y:Nat->Int),t≠0/\y i=t*D k (ae A)/\(∀m,i<m->y m=0)/\∀c,c<w->t*ev A N i k c=S N λm=>y m*g A m c
 |0,i,_,_,h=>⟨1,λm=>dl i m,by decide,by rw[gX];unfold dl;simp,λm q=>Wc (by lia),λc l=>by
   rw[qo,XA];show(iz h λm=>g A m c).symm⟩
 |k+1,i,o,H,h=>by
  obtain⟨b,f,C,E,u,x⟩:=xO r k i (λj z=>o j (by lia)) (by lia) h;obtain⟨a,d,B,I,p,v⟩:=xO r k k (λj z=>o j (by lia)) (Wg k) (by lia);let s:=o k (by lia);show⟨D k (ae A)*b*a,λm=>D (k+1) (ae A)*a*f m-lam (ae A) i k*b*d m,YA (YA s C) B,?_,λm q=>?_,λc l=>?_⟩
  . change D (k+1) (ae A)*a*f i-lam (ae A) i k*b*d i=_;rw[E,p i (by lia)];grind
  . change D (k+1) (ae A)*a*f m-lam (ae A) i k*b*d m=_;rw[u m q,p m (by lia)];simp
  . have n:=pW (A:=A) (N:=N) (show k<N by lia) s i c;let G:=x c l;let F:=v c l
    let e:S N (λm=>(D (k+1) (ae A)*a*f m-lam (ae A) i k*b*d m)*g A m c)=D (k+1) (ae A)*a*S N (λm=>f m*g A m c)-lam (ae A) i k*b*S N (λm=>d m*g A m c):=by
     rw[<-iS];show ax λm _=>by grind
    rw[e,<-G,<-F];grind
def Jn:∀ {n:Nat} {f:Nat->Int},(∀i,i<n->0<=f i)->S n f=0->∀i,i<n->f i=0
 |0,_,_,_,i,a=>absurd a (Xx i)
 |n+1,f,h,e,i,a=>by
  let c:0<=S n f:=lV λi a=>h i (by lia);let b:=h n (by lia);let d:S n f+f n=0:=e;rcases YS i n with z|z
  . show Jn (λi a=>h i (by lia)) (by lia) i z
  . have:i=n:=by lia
    subst this;lia
def minors(n:aQ N w A)(h:D N (ae A)≠0):∀k,k<=N->D k (ae A)≠0:=by
 intro k;induction k using Nat.strongRecOn with
 |ind k v=>
  intro E;cases k with
  |zero=>rw[gX];decide
  |succ i=>
   intro z;show h ?_;let l:∀j,j<i+1->D j (ae A)≠0:=λj f=>v j f (by lia);obtain⟨t,y,o,r,p,s⟩:=xO n i i (λj f=>l j (by lia)) (Wg i) (by lia)
   let b:∀m,m<=i->S w (λc=>ev A N i i c*g A m c)=0:=λm x=>by
    let e:=yE n (m:=m) (by lia) i i (λj f=>l j (by lia)) (by lia) (by lia);show Eq.trans e ?_;rcases YS m i with q|q
    . show Co q
    . have:m=i:=by lia
      subst this;rw[lK];show z
   let u:t*S w (λc=>ev A N i i c*ev A N i i c)=0:=by
    rw[<-cW]
    let e:S w (λc=>t*(ev A N i i c*ev A N i i c))=S w λc=>S N λm=>y m*(ev A N i i c*g A m c):=ax λc a=>by
     let C:t*(ev A N i i c*ev A N i i c)=ev A N i i c*(t*ev A N i i c):=by grind
     rw[C,s c a,<-cW];show ax λm _=>by grind
    rw[e,iD];show mI λm x=>?_;rw[cW];rcases YS i m with q|q
    . rw[p m q,Y8]
    . rw[b m q,W7]
   let d:S w (λc=>ev A N i i c*ev A N i i c)=0:=(Zl.mp u).resolve_left o
   let B:∀c,c<w->ev A N i i c=0:=λc a=>by
    let:=Jn (λc _=>sq_nonneg _) d c a;show(Zl.mp this).elim id id
   show Kq n (j:=i) (z:=y) (by lia) (by rw[r];show YA o (l i (by lia))) λc a=>?_;rw[<-s c a,B c a,W7]
end Mx
namespace Prog
open PySem L2 L3
open PySem.Spec hiding items?
open PyProof.Rows hiding St
def d4(b: -(2^64)<i)(a:i<2^64):IntMulOk i j:= .of_left (intBits_le_64 b a)
def E5(b: -(2^64)<j)(a:j<2^64):IntMulOk i j:= .of_right (intBits_le_64 b a)
def IZ{a b:Nat}(h:a<=b)(d:b.log2<9000)(e:a≠0):a.log2<9000:=by
 let c:b≠0:=by lia
 show(YK e).mpr (Xf h ((YK c).mp d))
def Any(st:af)(d:D):Prop:=∃t,fI st d=some t
def isInt:D->Bool
 | .int _=>true
 |_=>false
def J4{st:af}{d:D}{t:String}(h:fI st d=some t):(t=="int")=isInt d:=by
 cases d<;>unfold fI at h<;>first|(cases h;done)|(cases h;rfl)|(simp only at h;split at h<;>first|(cases h;rfl)|cases h)
def Jz{st:af}{d:D}{t:String}(h:fI st d=some t):(t=="list"||t=="tuple")=(items? st d).isSome:=by
 cases d<;>unfold fI at h<;>first|(cases h;done)|(cases h;rfl)|(simp only at h;split at h<;>first|(cases h;rename_i q;rw[au q];rfl)|cases h)
def sf{f:D->Bool}:∀xs:List D,gp (xs.map λx=>D.bl (f x))=some (xs.map f)
 | []=>rfl
 |x::xs=>by simp[gp,sf xs]
abbrev aq(r:List Int):List D:=r.map D.int
abbrev cn(r:List Int):D:= .tup (aq r)
abbrev aT(r:List Int):D:= .lst (aq r)
abbrev bq(A:List (List Int)):D:= .tup (A.map cn)
def bH(st:af):List D->List (List Int)->Prop
 | [],[]=>True
 |d::ds,r::rs=>items? st d=some (aq r)/\bH st ds rs
 |_,_=>False
structure d_(st:af)(d:D)(A:List (List Int)):Prop where
 ex:∃ds,items? st d=some ds/\bH st ds A
def bH.len{st:af}:∀ {a:List D} {A:List (List Int)},bH st a A->a.length=A.length
 | [],[],_=>rfl
 |_::_,_::_,h=>by simp[bH.len h.2]
def bH.tup{st:af}:∀ {A:List (List Int)},bH st (A.map cn) A
 | []=>trivial
 |_::_=>⟨rfl,bH.tup⟩
def bH.lst{st:af}:∀ {A:List (List Int)},bH st (A.map aT) A
 | []=>trivial
 |_::_=>⟨rfl,bH.lst⟩
def bH.get{st:af}:∀ {a:List D} {A:List (List Int)} {i:Nat} {d:D},bH st a A->a[i]?=some d->∃r,A[i]?=some r/\items? st d=some (aq r)
 |_::_,r::_,0,_,h,e=>by simp at e;subst e;show⟨r,rfl,h.1⟩
 |_::_,_::_,i+1,d,h,e=>by
  obtain⟨r,c,b⟩:=bH.get (i:=i) (d:=d) h.2 (by simpa using e);show⟨r,by simpa using c,b⟩
def js{st:af}{A:List (List Int)}:d_ st (bq A) A:=⟨_,rfl,bH.tup⟩
structure Ext(st st':af):Prop where
 len:st.length<=st'.length
 same:∀m,m<st.length->st'[m]?=st[m]?
def Ext.refl{st:af}:Ext st st:=⟨Wg _,λ_ _=>rfl⟩
def Ext.trans{st d c:af}(a:Ext st d)(b:Ext d c):Ext st c:=⟨Wj a.len b.len,λm h=>(b.same m (WA h a.len)).trans (a.same m h)⟩
def Ext.push{st:af}{c:List Cell}:Ext st (st++c):=⟨by simp,λm h=>Wh h⟩
def Ext.set{st:af}{b:af}(a:Ext b st)(h:b.length<=n):Ext b (st.set n c):=⟨by rw[Wv];show a.len,λm d=>by rw[Wf (by lia)];show a.same m d⟩
def Ext.items{st a:af}{d:D}{xs:List D}(x:Ext st a)(e:items? st d=some xs):items? a d=some xs:=by
 cases d with
 |ref n=>
  unfold items? at e⊢;simp only at e⊢;cases q:st[n]? with
  |none=>rw[q]at e;cases e
  |some c=>
   have b:=(Wa.mp q).1;rw[x.same n b];show e
 |_=>show e
def Ext.wV{st a:af}(x:Ext st a):∀ {b:List D} {A:List (List Int)},bH st b A->bH a b A
 | [],[],_=>trivial
 |_::_,_::_,h=>⟨x.items h.1,x.wV h.2⟩
def Ext.AJ{st a:af}(x:Ext st a){d:D}{A:List (List Int)}(h:d_ st d A):d_ a d A:=by
 obtain⟨b,e,r⟩:=h.ex;show⟨b,x.items e,x.wV r⟩
def jr{r:List Int}{k:Nat}(h:k<r.length):du (aq r) (k:Int)=some (.int (r.getD k 0)):=by
 show dQ ?_;rw[Wr,Wm h,Mx.aP h];rfl
def getD_mem{r:List Int}{k:Nat}(h:k<r.length):r.getD k 0∈r:=by rw[Mx.aP h];show WM _
def ints_app:aq r++[D.int x]=aq (r++[x]):=by simp[aq]
def Kj{A:List (List Int)}:A.map cn++[cn r]=(A++[r]).map cn:=by simp
def oE(h:d∈eG (aq r) (aq s)):∃a b,a∈r/\b∈s/\d= .tup [.int a,.int b]:=by
 obtain⟨n,j,e⟩:=WV.mp h;let k:(eG (aq r) (aq s))[n]?=some d:=by rw[Wm j,e]
 obtain⟨x,y,f,c,rfl⟩:=vg k;rw[Wr]at f c;cases i:r[n]? with
 |none=>rw[i]at f;cases f
 |some a=>
  cases g:s[n]? with
  |none=>rw[g]at c;cases c
  |some b=>
   rw[i]at f;rw[g]at c;cases f;cases c;show⟨a,b,WI i,WI g,rfl⟩
def A3(n:Nat):(List.replicate n [D.int 0]).flatten=aq (List.replicate n 0):=by
 induction n with
 |zero=>rfl
 |succ n a=>rw[XO,WR,a];rfl
def zw:∀r:List Int,(aq r).map (λx=>match x with| .int i=>i|_=>0)=r
 | []=>rfl
 |a::r=>by rw[aq,WJ,WJ,zw r]
def vc{d:D}{a:List D}:du (d::a) 0=some d:=dQ (j:=0) rfl
def intsOf(st:af)(d:D):List Int:=match items? st d with
 |some a=>a.map λx=>match x with| .int i=>i|_=>0
 |none=>[]
def yH{st:af}{d:D}{r:List Int}(h:items? st d=some (aq r)):intsOf st d=r:=by
 unfold intsOf;rw[h];show zw r
def Ii:eG (x::xs) (y::ys)= .tup [x,y]::eG xs ys:=rfl
def aE:Addr:=283
def aR:Addr:=365
abbrev gE(b:Bool):Cell:=Cell.tab 263 ⟨141,32,141,66⟩ "Bench.live_rows.<locals>.<lambda>" b
abbrev pR:List (Addr×Pos×Str):=[(263,⟨141,32,141,66⟩,"Bench.live_rows.<locals>.<lambda>")]
def pM:bM:=λa st K=>∃d,a=[d]/\Any st d/\K (.bl (isInt d)) st
def uV:List Str:=["thing"]
def Dp:DS:=(a6 (qu (br kC (ab (aa 0) (ab (dC (.ty "int")) ag))) (xj (aV (br kC (ab (aa 0) (ab (dC (.ty "bool")) ag)))))))
abbrev V8(S:bM)(n:Nat)(P:DS)(N:List Str):Prop:=∀ds st K,S ds st K->ds.length=n/\P {nx:=λ_ st'=>K .aD st',rt:=K} (aL N ds) st
def CS:V8 pM 1 Dp uV:=by
 rintro c st K ⟨d,rfl,⟨t,a⟩,k⟩;show⟨rfl,?_⟩;rw[<-J4 a]at k;let b:=qK a;show mO a (by decide) ?_;simp![nJ,Wy,WE,YD]at b;rcases b with rfl|rfl|rfl|rfl|rfl|rfl
 . show k
 . show eH (mO a (by decide) ?_);show k
 . show eH (mO a (by decide) ?_);show k
 . show k
 . show k
 . show k
def jR:bM:=λa st K=>∃d,a=[d]/\Any st d/\K (.bl (items? st d).isSome) st
def uR:List Str:=["thing"]
def Di:DS:=(a6 (br kC (ab (aa 0) (ab (kX (ab (dC (.ty "list")) (ab (dC (.ty "tuple")) ag))) ag))))
def C1:V8 jR 1 Di uR:=by
 rintro c st K ⟨d,rfl,⟨t,a⟩,k⟩;show⟨rfl,?_⟩;rw[<-Jz a]at k;let b:=qK a;show⟨Wt rfl,Nr a rfl (by decide) ?_⟩;simp![nJ,Wy,WE,YD]at b;rcases b with rfl|rfl|rfl|rfl|rfl|rfl<;>show k
def jq:bM:=λb st K=>∃d m,b=[d,.int m]/\Any st d/\K (.bl (match items? st d with|some a=>decide ((a.length:Int)=m)|none=>false)) st
def qc:List Str:=["thing","many"]
def yD:DS:=(a6 (qu (ay jR (ab (aa 0) ag)) (aj iZ (br dD (ab (aa 0) ag)) (aa 1))))
def xG:V8 jq 2 yD qc:=by
 rintro c st K ⟨d,m,rfl,a,k⟩;show⟨rfl,?_⟩;cases e:items? st d with
 |none=>
  rw[e]at k;show⟨d,rfl,a,by rw[e];show k⟩
 |some b=>
  rw[e]at k;show⟨d,rfl,a,?_⟩;rw[e];show eH (cM e (AR ?_));show k
def m5:bM:=λa st K=>∃(r:List Int) (w:Nat),a=[cn r,.int w]/\r.length=w/\w<=8/\K (.bl true) st
def rj:List Str:=["thing","many"]
def zU:DS:=(a6 (qu (ay jq (ab (aa 0) (ab (aa 1) ag))) (br tH (ab (cC (dy (aa 0)) [none] (ba 0) bN (ay pM (ab (aa 0) ag))) ag))))
def xR:∀l:List D,gp (l.map λ_=>D.bl true)=some (l.map λ_=>true)
 | []=>rfl
 |_::l=>by simp[gp,xR l]
def Me(l:List D):(l.map λ_=>true).all id=true:=by simp
def yy:V8 m5 2 zU rj:=by
 rintro h st K ⟨r,w,rfl,f,c,k⟩;show⟨rfl,cn r,w,rfl,⟨_,rfl⟩,?_⟩
 let e:(match items? st (cn r)with|some a=>decide ((a.length:Int)=(w:Int))|none=>false)=true:=by
  change decide (((aq r).length:Int)=(w:Int))=true;show Xb (by rw[Wd];lia)
 rw[e];show eH (fw ⟨bS (by rw[Wd];lia),comp_map (g:=λ_=> .bl true) trivial _ (λd b j q=>?_) ?_⟩)
 . obtain⟨i,_,rfl⟩:=WK.mp b;show⟨_,rfl,_,rfl,⟨_,rfl⟩,q⟩
 . show xo (xR (aq r)) ?_;rw[Me];show k
def vf:bM:=λc st K=>∃a b,c=[.int a,.int b]/\K (.int ((Nat.gcd a.natAbs b.natAbs:Nat):Int)) st
def C6:List Str:=["one","other","great","small","rest"]
def Ke:DS:=(av (aN 2 (br mT (ab (aa 0) ag)))
 (av (aN 3 (br mT (ab (aa 1) ag)))
 (av (su (aV (aj nj (aa 3) (dC (.int 0)))) (av (aN 4 (aj ja (aa 2) (aa 3)))
 (av (aN 2 (aa 3))
 (aN 3 (aa 4)))))
 (a6 (aa 2)))))
def CZ{a:Int}(h:a.natAbs<2^m):Builtin.Int.intBits a<=m:=by
 unfold Builtin.Int.intBits;by_cases b:a.natAbs=0
 . have:a=0:=by lia
   subst this;simp
 . have:=(YK b).mpr h;split<;>lia
def kr{a b:Int}(d:a.natAbs<=2^m)(c:b.natAbs<=2^n)(h:m+n<=130000000):IntMulOk a b:=by
 let q:∀ {x:Int} {k:Nat},x.natAbs<=2^k->Builtin.Int.intBits x<=k+1:=λ{x k} h=>CZ (Xf h (XH (by decide) (Xh k)));let g:=q d;let f:=q c;let e:(2:Nat)^27=134217728:=by decide
 let z:Builtin.Int.intTooBig (Builtin.Int.intBits a+Builtin.Int.intBits b)=false:=by
  unfold Builtin.Int.intTooBig bitsLine;show WH (by lia)
 unfold IntMulOk;rw[z];simp
def Km(a b:Nat):(a:Int).fmod (b:Int)=((a%b:Nat):Int):=by
 rw[Int.fmod_eq_emod_of_nonneg _ (aan b)];show(Int.natCast_emod a b).symm
def G7:V8 vf 2 Ke C6:=by
 rintro i st K ⟨a,b,rfl,k⟩;show⟨rfl,?_⟩;show mJ (mJ ?_);show⟨λm σ d=>∃(g s:Nat) (r:Option D),σ=[some (.int a),some (.int b),some (.int g),some (.int s),r]/\d=st/\Nat.gcd g s=Nat.gcd a.natAbs b.natAbs/\s=m,⟨b.natAbs,a.natAbs,b.natAbs,none,?_,rfl,rfl,rfl⟩,?_⟩
 . rfl
 . rintro m σ d ⟨g,s,r,rfl,rfl,e,rfl⟩;by_cases f:(s:Int)=0
   . have c:s=0:=by lia
     subst c;rw[Nat.gcd_zero_right]at e;subst e;show AL k
   . have c:0<s:=by lia
     let h:(!decide ((s:Int)=0))=true:=by simp;lia
     show AL ?_;change if(!decide ((s:Int)=0))=true then _ else _
     rw[We h];show kY f ⟨g%s,Nat.mod_lt _ c,s,g%s,some (.int ((g%s:Nat):Int)),?_,rfl,?_,rfl⟩
     . simp[Km]
     . rw[abj,<-Nat.gcd_rec,abj];show e
def vZ(t b:Int):Int:=((if b<0 then-1 else 1)*t).fdiv ((Nat.gcd t.natAbs b.natAbs:Nat):Int)
def f9(t b:Int):Int:=((if b<0 then-1 else 1)*b).fdiv ((Nat.gcd t.natAbs b.natAbs:Nat):Int)
def j4(t b:Int):D:= .tup [.int (vZ t b),.int (f9 t b)]
def oy:bM:=λa st K=>∃(t b:Int),a=[.int t,.int b]/\b≠0/\b.natAbs.log2<9000/\K (j4 t b) st
def Js:List Str:=["top","bottom","shrink"]
def RC:DS:=(av (aN 2 (ay vf (ab (aa 0) (ab (aa 1) ag))))
 (av (cN (aV (aj oX (aa 1) (dC (.int 0)))) (aN 2 (iE fe (aa 2))) cz)
 (a6 (kX (ab (aj iX (aa 0) (aa 2)) (ab (aj iX (aa 1) (aa 2)) ag))))))
def tO{g t:Int}(a:g≠0)(h:g∣t):t.fdiv (-g)=(-1*t).fdiv g:=by
 obtain⟨c,rfl⟩:=h
 let d:(g*c).fdiv (-g)= -c:=by
  let:g*c=(-g)*(-c):=by rw[Int.neg_mul_neg]
  rw[this,XW _ (by lia)]
 let b:(-1*(g*c)).fdiv g= -c:=by
  let: -1*(g*c)=g*(-c):=by rw[Yq,XA,Int.mul_neg]
  rw[this,XW _ a]
 rw[d,b]
def zp(t b:Int):((Nat.gcd t.natAbs b.natAbs:Nat):Int)∣t:=Int.ofNat_dvd_left.mpr (Nat.gcd_dvd_left _ _)
def zf(t b:Int):((Nat.gcd t.natAbs b.natAbs:Nat):Int)∣b:=Int.ofNat_dvd_left.mpr (Nat.gcd_dvd_right _ _)
def Ow:V8 oy 2 RC Js:=by
 rintro i st K ⟨t,b,rfl,g,d,k⟩;show⟨rfl,?_⟩;show⟨t,b,rfl,?_⟩
 let f:Nat.gcd t.natAbs b.natAbs≠0:=λz=>by
  let:=ZR z;lia
 let e:Nat.gcd t.natAbs b.natAbs<=b.natAbs:=Nat.le_of_dvd (by lia) (Nat.gcd_dvd_right _ _);let a:((Nat.gcd t.natAbs b.natAbs:Nat):Int)≠0:=by lia
 let c:=IZ e d f;unfold j4 vZ f9 at k;show IY (λh=>eH ?_) λh=>?_
 . rw[We h,<-tO a (zp t b),<-tO a (zf t b)]at k;show d7 (iH (by lia) (by rw[Yg,Yv];show c) (iH (by lia) (by rw[Yg,Yv];show c) ?_));show⟨Wt rfl,k⟩
 . rw[Wc (by lia),XA,XA]at k;show iH a (by rw[Yv];show c) (iH a (by rw[Yv];show c) ?_);show⟨Wt rfl,k⟩
abbrev EY(q:Rat):D:= .tup [.int q.num,.int ((q.den:Nat):Int)]
def lJ(d:b≠0):j4 t b=EY (Rat.divInt t b):=by
 unfold j4 EY vZ f9;let c:(b.gcd t:Nat)=Nat.gcd t.natAbs b.natAbs:=by unfold Int.gcd;rw[abj]
 let a:(if b<0 then(-1:Int)else 1)=b.sign:=by
  rcases Int.lt_trichotomy b 0 with h|h|h
  . rw[We h,Int.sign_eq_neg_one_of_neg h]
  . show absurd h d
  . rw[Wc (by lia),Int.sign_eq_one_of_pos h]
 let f:(Rat.divInt t b).num=((if b<0 then(-1:Int)else 1)*t).fdiv ((Nat.gcd t.natAbs b.natAbs:Nat):Int):=by
  rw[Rat.num_divInt,a,c,YG _ (aan _)]
 let e:(((Rat.divInt t b).den:Nat):Int)=((if b<0 then(-1:Int)else 1)*b).fdiv ((Nat.gcd t.natAbs b.natAbs:Nat):Int):=by
  rw[Rat.den_divInt,Wc d,a,c,YG _ (aan _),Int.natCast_ediv];congr 1;rw[Int.sign_mul_self]
 rw[f,e]
structure Sz(q:Rat)(m:Nat):Prop where
 num:q.num.natAbs<2^m
 den:q.den<2^m
def Sz.mono(h:Sz q m)(a:m<=n):Sz q n:=⟨WA h.num (Ws (by decide) a),WA h.den (Ws (by decide) a)⟩
def Sz.of{t b:Int}(a:b≠0)(f:t.natAbs<2^m)(c:b.natAbs<2^m):Sz (Rat.divInt t b) m:=by
 let d:1<=b.gcd t:=by
  let:b.gcd t≠0:=λz=>a (Int.gcd_eq_zero_iff.mp z).1;lia
 constructor
 . rw[Rat.num_divInt];let:((b.sign*t)/((b.gcd t:Nat):Int)).natAbs<=(b.sign*t).natAbs:=aaH _ _
   let e:(b.sign*t).natAbs<=t.natAbs:=by
    rw[W0];let:b.sign.natAbs<=1:=by rw[Int.natAbs_sign];split<;>lia
    calc b.sign.natAbs*t.natAbs<=1*t.natAbs:=Xm _ this
     _=t.natAbs:=Y5 _
   lia
 . rw[Rat.den_divInt,Wc a];show Xf (Nat.div_le_self _ _) c
def Hv(a b:Nat):2^a*2^b=2^(a+b):=(XM 2 a b).symm
def hZ{x y:Int}(d:x.natAbs<2^a)(c:y.natAbs<2^b):(x*y).natAbs<2^(a+b):=by
 rw[W0,<-Hv];show Nat.mul_lt_mul'' d c
def den_nz(q:Rat):((q.den:Nat):Int)≠0:=by let:=q.den_nz;lia
def wA(q:Rat):q=Rat.divInt q.num ((q.den:Nat):Int):=(Rat.num_divInt_den q).symm
def sub_eq(p q:Rat):p-q=Rat.divInt (p.num*((q.den:Nat):Int)-q.num*((p.den:Nat):Int)) (((p.den:Nat):Int)*((q.den:Nat):Int)):=by
 conv=>lhs;rw[wA p,wA q]
 rw[aa_ _ _ (den_nz p) (den_nz q)]
def mul_eq(p q:Rat):p*q=Rat.divInt (p.num*q.num) (((p.den:Nat):Int)*((q.den:Nat):Int)):=by
 conv=>lhs;rw[wA p,wA q]
 rw[ZT]
def lL(q:Rat):(((q.den:Nat):Int)).natAbs=q.den:=Yv _
def F_{x y:Int}(c:x.natAbs<2^a)(b:y.natAbs<2^a):(x-y).natAbs<2^(a+1):=by
 rw[YQ];lia
def Sz.sub(d:Sz p a)(c:Sz q b):Sz (p-q) (a+b+1):=by
 rw[sub_eq];let g:=hZ d.num (show(((q.den:Nat):Int)).natAbs<2^b by rw[lL];show c.den);let e:=hZ c.num (show(((p.den:Nat):Int)).natAbs<2^a by rw[lL];show d.den);rw[Nat.add_comm b a]at e;let f:=hZ (show(((p.den:Nat):Int)).natAbs<2^a by rw[lL];show d.den) (show(((q.den:Nat):Int)).natAbs<2^b by rw[lL];show c.den);show Sz.of (YA (den_nz p) (den_nz q)) (F_ g e) (WA f (Ws (by decide) (by lia)))
def Sz.mul(d:Sz p a)(c:Sz q b):Sz (p*q) (a+b):=by
 rw[mul_eq];let e:=hZ (show(((p.den:Nat):Int)).natAbs<2^a by rw[lL];show d.den) (show(((q.den:Nat):Int)).natAbs<2^b by rw[lL];show c.den);show Sz.of (YA (den_nz p) (den_nz q)) (hZ d.num c.num) e
def E4{a:Int}(h:a.natAbs<2^m):Builtin.Int.intBits a<=m:=by
 unfold Builtin.Int.intBits;by_cases b:a.natAbs=0
 . have:a=0:=by lia
   subst this;simp
 . have:=(YK b).mpr h;split<;>lia
def l8{a b:Int}(f:a.natAbs<2^m)(e:b.natAbs<2^n)(d:m<=4000)(c:n<=4000):IntMulOk a b:=by
 let l:4000<=2^20:=by decide
 show .of_bits (Wj (E4 f) (Wj d l)) (Wj (E4 e) (Wj c l))
def MH{a:Int}(b:a.natAbs<2^m)(c:m<=8999)(d:a≠0):a.natAbs.log2<9000:=by
 let:=(YK (show a.natAbs≠0 by lia)).mpr b;lia
structure Fq(st:af)(d:D)(q:Rat):Prop where
 ao:items? st d=some [.int q.num,.int ((q.den:Nat):Int)]
 sz:Sz q 2000
def Fq.a{st:af}{d:D}{q:Rat}(h:Fq st d q):q.num.natAbs<2^2000:=h.sz.num
def Fq.b{st:af}{d:D}{q:Rat}(h:Fq st d q):(((q.den:Nat):Int)).natAbs<2^2000:=by rw[lL];show h.sz.den
def Fq.tup{st:af}{q:Rat}{m:Nat}(h:Sz q m)(a:m<=2000):Fq st (EY q) q:=⟨rfl,h.mono a⟩
def yg:bM:=λa st K=>∃x y p q,a=[x,y]/\Fq st x p/\Fq st y q/\K (EY (p-q)) st
def EC:List Str:=["one","other"]
def Oj:DS:=(a6 (ay oy (ab (aj cY (aj bG (aj aI (aa 0) (dC (.int 0))) (aj aI (aa 1) (dC (.int 1)))) (aj bG (aj aI (aa 1) (dC (.int 0))) (aj aI (aa 0) (dC (.int 1))))) (ab (aj bG (aj aI (aa 0) (dC (.int 1))) (aj aI (aa 1) (dC (.int 1)))) ag))))
def Ka:V8 yg 2 Oj EC:=by
 rintro b st K ⟨x,y,p,q,rfl,X,Y,k⟩;show⟨rfl,?_⟩;let a:=YA (den_nz p) (den_nz q);show az X.ao rfl (az Y.ao rfl (bE (l8 X.a Y.b (by decide) (by decide)) (az Y.ao rfl (az X.ao rfl (bE (l8 Y.a X.b (by decide) (by decide)) (cF ?_))))));show az X.ao rfl (az Y.ao rfl (bE (l8 X.b Y.b (by decide) (by decide)) ?_));show⟨_,_,rfl,a,MH (hZ X.b Y.b) (by decide) a,?_⟩;rw[lJ a,<-sub_eq];show k
def tT:bM:=λa st K=>∃x y p q,a=[x,y]/\Fq st x p/\Fq st y q/\K (EY (p*q)) st
def Ep:List Str:=["one","other"]
def N8:DS:=(a6 (ay oy (ab (aj bG (aj aI (aa 0) (dC (.int 0))) (aj aI (aa 1) (dC (.int 0)))) (ab (aj bG (aj aI (aa 0) (dC (.int 1))) (aj aI (aa 1) (dC (.int 1)))) ag))))
def KS:V8 tT 2 N8 Ep:=by
 rintro b st K ⟨x,y,p,q,rfl,X,Y,k⟩;show⟨rfl,?_⟩;let a:=YA (den_nz p) (den_nz q);show az X.ao rfl (az Y.ao rfl (bE (l8 X.a Y.a (by decide) (by decide)) ?_));show az X.ao rfl (az Y.ao rfl (bE (l8 X.b Y.b (by decide) (by decide)) ?_));show⟨_,_,rfl,a,MH (hZ X.b Y.b) (by decide) a,?_⟩;rw[lJ a,<-mul_eq];show k
def vW:bM:=λa st K=>∃x y p q,a=[x,y]/\Fq st x p/\Fq st y q/\K (.bl (decide (p<q))) st
def BA:List Str:=["one","other"]
def Ld:DS:=(a6 (aj oX (aj bG (aj aI (aa 0) (dC (.int 0))) (aj aI (aa 1) (dC (.int 1)))) (aj bG (aj aI (aa 1) (dC (.int 0))) (aj aI (aa 0) (dC (.int 1))))))
def Hq:V8 vW 2 Ld BA:=by
 rintro a st K ⟨x,y,p,q,rfl,X,Y,k⟩;show⟨rfl,?_⟩;show az X.ao rfl (az Y.ao rfl (bE (l8 X.a Y.b (by decide) (by decide)) (az Y.ao rfl (az X.ao rfl (bE (l8 Y.a X.b (by decide) (by decide)) (AK ?_))))));let e:decide (p.num*((q.den:Nat):Int)<q.num*((p.den:Nat):Int))=decide (p<q):=YN.mpr (Rat.lt_iff p q).symm;rw[e];show k
def i4:bM:=λa st K=>∃(d:D) (A:List (List Int)),a=[d]/\d_ st d A/\A.length<=1000/\K (bq A) st
def yK:List Str:=["rows"]
def HP:DS:=(a6 (br de (ab (cC (dy (aa 0)) [none] (ba 0) bN (br de (ab (aa 0) ag))) ag)))
def gz{l:fj}{m:DE}{ok:af->Prop}{j:bZ}{st:af}{K:List D->af->Prop}{o:List D}{A:List (List Int)}(f:List Int->D)(p:ok st)(u:bH st o A)(t:∀d r,r∈A->items? st d=some (aq r)->∀s,s (f r) st->∃i,l d j=some i/\m i st s)(k:K (A.map f) st):dH l bN m ok j o [] st K:=by
 show i7 (λrest c b=>∃(e a:List (List Int)),st=b/\e++a=A/\bH st rest a/\c=e.map f) ?_ ?_ _ _ _ ⟨[],A,rfl,rfl,u,rfl⟩
 . rintro c b ⟨e,a,rfl,g,h,rfl⟩;match a,h with
   | [],_=>
     rw[Xw]at g;subst g;show⟨p,k⟩
 . rintro d rest c b ⟨e,a,rfl,g,h,rfl⟩ next
   match a,h with
   |r::a,h=>
    obtain⟨i,v,q⟩:=t d r (by rw[<-g];simp) h.1 (λy n=>dH l bN m ok j rest (e.map f++[y]) n K) (next _ _ ⟨e++[r],a,rfl,by rw[<-g];simp,h.2,by simp⟩);show⟨p,i,v,q⟩
def FE:V8 i4 1 HP yK:=by
 rintro i st K ⟨d,A,rfl,⟨j,f,a⟩,b,k⟩;show⟨rfl,?_⟩;show tK f λok g=>⟨bS (by rw[a.len];show b),?_⟩
 show gz cn g a (λe r h c l q=>⟨_,rfl,cQ c q⟩) ?_;show cQ rfl k
def nN:bM:=λa st K=>∃x y t r s,a=[x,.int t,y]/\items? st x=some (aq r)/\items? st y=some (aq s)/\r.length<=1000/\(∀b∈s,IntMulOk t b)/\K (aT (Mx.eR r t s)) st
def Ea:List Str:=["row","times","other"]
def Nw:DS:=(a6 (cC (ma (ab (aa 0) (ab (aa 2) ag))) [none,none,some 1] (fz 0 1) bN (aj cE (aa 0) (aj bG (aa 2) (aa 1)))))
def td:∀(r s:List Int),(eG (aq r) (aq s)).map (λd=>match d with| .tup [.int a,.int b]=> .int (a+t*b)|_=> .aD)=aq (Mx.eR r t s)
 | [],_=>rfl
 |_::_,[]=>rfl
 |a::r,b::s=>by
  let:=td (t:=t) r s;unfold eG Mx.eR at this⊢;simp![aq,WJ,aao,ZF]at this⊢;rw[this]
def Kr:V8 nN 3 Nw Ea:=by
 rintro n st K ⟨x,y,t,r,s,rfl,e,c,l,f,k⟩;show⟨rfl,?_⟩;show jN e c λok j=>⟨bS (by rw[jf];simp;lia),?_⟩
 show comp_map (g:=λd=>match d with| .tup [.int a,.int b]=> .int (a+t*b)|_=> .aD) (j st e c) _ (λd h o q=>?_) ?_
 . obtain⟨a,b,m,i,rfl⟩:=oE h;show⟨_,rfl,bE (f b i) (cL q)⟩
 . rw[td];show k
def vo:bM:=λc st K=>∃(x y:D) (n:Nat) (a:List Int) (A:List (List Int)),c=[x,y,.int n]/\items? st x=some (aq a)/\d_ st y A/\(∀r∈A,r.length=n)/\n<=1000/\(∀w∈a,∀r∈A,∀b∈r,IntMulOk w b)/\K (cn (Mx.ft a A (List.replicate n 0))) st
def C9:List Str:=["weights","rows","wide","total","weight","row"]
def LJ:DS:=(av (aN 3 (aj bG (jc (ab (dC (.int 0)) ag)) (aa 2)))
 (av (eQ (ma (ab (aa 0) (ab (aa 1) ag))) (fz 4 5) (aN 3 (ay nN (ab (aa 3) (ab (aa 4) (ab (aa 5) ag))))))
 (a6 (br de (ab (aa 3) ag)))))
def Jq:V8 vo 3 LJ C9:=by
 rintro O st K ⟨x,y,n,o,A,rfl,z,⟨M,v,I⟩,G,N,J,k⟩;show⟨rfl,?_⟩;show Ur (Wt rfl) (EX ⟨by lia,by lia,bS (by simp;lia)⟩ ?_);rw[WC,A3];show jN z v λok F=>?_
 show e7 (λrest σ u=>∃(s p:Option D) (a:List Int) (f:List D) (j:List (List Int)) (c:List Int),st=u/\rest=eG (aq a) f/\bH st f j/\σ=[some x,some y,some (.int n),some (aT c),s,p]/\c.length=n/\(∀r∈j,r∈A)/\(∀w∈a,w∈o)/\Mx.ft a j c=Mx.ft o A (List.replicate n 0)) ?_ ?_ _ _ _
  ⟨none,none,o,M,A,List.replicate n 0,rfl,rfl,I,rfl,by simp,λ_ h=>h,λ_ h=>h,rfl⟩
 . rintro σ t ⟨s,p,a,f,j,c,rfl,i,g,rfl,E,_,_,m⟩;show⟨F _ z v,cQ rfl ?_⟩
   let:Mx.ft a j c=c:=by
    match a,f,j,g,i with
    | [],_,_,_,_=>unfold Mx.ft;rfl
    |_::_,[],[],_,_=>unfold Mx.ft;rfl
    |_::_,_::_,_::_,_,i=>cases i
   rw[this]at m;rw[m];show k
 . rintro d rest σ t ⟨s,p,a,f,j,c,rfl,i,g,rfl,E,C,l,m⟩ next
   match a,f,j,g,i with
   |w::a,e::f,r::j,g,i=>
    simp![aq,WJ,Ii,Xp]at i;obtain⟨rfl,rfl⟩:=i;show⟨F _ z v,_,rfl,?_⟩;let H:=G r (C r Wx);show⟨_,_,_,c,r,rfl,rfl,g.1,by lia,λb L=>J w (l w Wx) r (C r Wx) b L,?_⟩;show next _ _ ⟨_,_,a,f,j,Mx.eR c w r,rfl,rfl,g.2,rfl,by rw[Mx.l9 (by lia)];show E,λq B=>C q (Ww _ B),λq B=>l q (Ww _ B),?_⟩
    rw[<-m];rfl
   | [],_,_,_,i=>cases i
   |_::_,[],[],_,i=>cases i
def pe:bM:=λa st K=>∃(x y:D) (n:Nat) (A B:List (List Int)),a=[x,y]/\d_ st x A/\d_ st y B/\B≠ []/\(∀r∈B,r.length=n)/\n<=1000/\A.length<=1000/\(∀w∈A,∀c∈w,∀r∈B,∀b∈r,IntMulOk c b)/\K (bq (Mx.mulM A B n)) st
def yL:List Str:=["one","other","wide"]
def GU:DS:=(av (aN 2 (br dD (ab (aj aI (aa 1) (dC (.int 0))) ag)))
 (a6 (br de (ab (cC (dy (aa 0)) [none,some 1,some 2] (ba 0) bN (ay vo (ab (aa 0) (ab (aa 1) (ab (aa 2) ag))))) ag))))
def BH{st:af}{n:Nat}{B:List (List Int)}{f:D->D}:∀ {a:List D} {A:List (List Int)},bH st a A->(∀d r,items? st d=some (aq r)->f d=cn (Mx.ft r B (List.replicate n 0)))->a.map f=(Mx.mulM A B n).map cn
 | [],[],_,_=>rfl
 |d::a,r::A,h,b=>by
  rw[WJ,b d r h.1,BH h.2 b];rfl
def Gr:V8 pe 2 GU yL:=by
 rintro I st K ⟨x,y,n,A,B,rfl,⟨G,s,j⟩,e,C,f,t,u,l,k⟩;show⟨rfl,?_⟩;obtain⟨p,m,a⟩:=e.ex;match B,p,a,C,f,l,e,k,m with
 |b::B,J::p,a,_,f,l,e,k,m=>
  have D:b.length=n:=f b Wx;show az m vc (cM a.1 ?_);rw[Wd,D];show tK s λok H=>⟨bS (by rw[j.len];show u),?_⟩
  show comp_map (g:=λd=>cn (Mx.ft (intsOf st d) (b::B) (List.replicate n 0))) H G (λd w L q=>?_) ?_
  . obtain⟨i,v,F⟩:=WV.mp w;obtain⟨r,E,o⟩:=j.get (i:=i) (d:=d) (by rw[Wm v,F]);show⟨_,rfl,d,y,n,r,b::B,rfl,o,e,f,t,λc z=>l r (WI E) c z,?_⟩;rw[yH o]at q;show q
  . show cQ rfl ?_;rw[BH j (n:=n) (B:=b::B) λd r h=>by rw[yH h]];show k
 |_::_,[],a,_,_,_,_,_,_=>show a.elim
def vt:bM:=λa st K=>∃(d:D) (A:List (List Int)) (j:Nat),a=[d,.int j]/\d_ st d A/\(∀r∈A,j<r.length)/\A.length<=1000/\K (cn (Mx.lD A j)) st
def AN:List Str:=["rows","place"]
def KO:DS:=(a6 (br de (ab (cC (dy (aa 0)) [none,some 1] (ba 0) bN (aj aI (aa 0) (aa 1))) ag)))
def Io{l:fj}{m:DE}{ok:af->Prop}{j:bZ}{st:af}{K:List D->af->Prop}{o:List D}{A:List (List Int)}(f:List Int->D)(p:ok st)(u:bH st o A)(t:∀d r,r∈A->items? st d=some (aq r)->∀s,s (f r) st->∃i,l d j=some i/\m i st s)(k:K (A.map f) st):dH l bN m ok j o [] st K:=by
 show i7 (λrest c b=>∃(e a:List (List Int)),st=b/\e++a=A/\bH st rest a/\c=e.map f) ?_ ?_ _ _ _ ⟨[],A,rfl,rfl,u,rfl⟩
 . rintro c b ⟨e,a,rfl,g,h,rfl⟩;match a,h with
   | [],_=>
     rw[Xw]at g;subst g;show⟨p,k⟩
 . rintro d rest c b ⟨e,a,rfl,g,h,rfl⟩ next
   match a,h with
   |r::a,h=>
    obtain⟨i,v,q⟩:=t d r (by rw[<-g];simp) h.1 (λy n=>dH l bN m ok j rest (e.map f++[y]) n K) (next _ _ ⟨e++[r],a,rfl,by rw[<-g];simp,h.2,by simp⟩);show⟨p,i,v,q⟩
def II(A:List (List Int))(j:Nat):A.map (λr=>D.int (r.getD j 0))=aq (Mx.lD A j):=by unfold Mx.lD aq;rw[WL];rfl
def JJ:V8 vt 2 KO AN:=by
 rintro l st K ⟨d,A,j,rfl,⟨m,h,a⟩,f,c,k⟩;show⟨rfl,?_⟩;show tK h λok i=>⟨bS (by rw[a.len];show c),?_⟩
 show Io (λr=> .int (r.getD j 0)) i a (λe r b g n q=>⟨_,rfl,az g (jr (f r b)) q⟩) ?_;rw[II];show cQ rfl k
def jW:bM:=λa st K=>∃(d:D) (A:List (List Int)) (n:Nat),a=[d,.int n]/\d_ st d A/\(∀r∈A,r.length=n)/\A.length<=1000/\n<=1000/\K (bq (Mx.fR A n)) st
def rg:List Str:=["rows","wide"]
def Ad:DS:=(a6 (br de (ab (cC (cR (ab (aa 1) ag)) [none,some 0] (ba 0) bN (ay vt (ab (aa 1) (ab (aa 0) ag)))) ag)))
def LX(A:List (List Int))(n:Nat):(List.range n).map (λj=>cn (Mx.lD A j))=(Mx.fR A n).map cn:=by unfold Mx.fR;rw[WL];rfl
def yo:V8 jW 2 Ad rg:=by
 rintro h st K ⟨d,A,n,rfl,f,a,c,g,k⟩;show⟨rfl,?_⟩;show dZ ⟨by lia,by lia⟩ ⟨bS (by rw[dM];lia),?_⟩;rw[WC];show lx (λj=>cn (Mx.lD A j)) n (λi e l q=>⟨_,rfl,d,A,i,rfl,f,λr b=>by rw[a r b];show e,c,q⟩) ?_;rw[LX];show cQ rfl k
def qG:bM:=λa st K=>∃(n i:Nat),a=[.int n,.int i]/\n<=1000/\K (cn (Mx.fJ n i)) st
def wR:List Str:=["n","place"]
def GD:DS:=(a6 (br de (ab (cC (cR (ab (aa 0) ag)) [none,some 1] (ba 0) bN (Ms (aV (aj iZ (aa 0) (aa 1))) (dC (.int 1)) (dC (.int 0)))) ag)))
def Dh:V8 qG 2 GD wR:=by
 rintro c st K ⟨n,i,rfl,a,k⟩;show⟨rfl,?_⟩;show dZ ⟨by lia,by lia⟩ ⟨bS (by rw[dM];lia),?_⟩;rw[WC];show lx (λj=> .int (Mx.dl j i)) n (λj b d q=>⟨_,rfl,?_⟩) ?_
 . show eq2 (λh=>eH ?_) λh=>?_
   . have:j=i:=by lia
     subst this;rw[Mx.dv]at q;show q
   . rw[Mx.dJ (by lia)]at q;show q
 . have:(List.range n).map (λj=>D.int (Mx.dl j i))=aq (Mx.fJ n i):=by unfold Mx.fJ aq;rw[WL];rfl
   rw[this];show cQ rfl k
def jO:bM:=λa st K=>∃(n:Nat),a=[.int n]/\n<=1000/\K (bq (Mx.units n)) st
def uO:List Str:=["n"]
def DM:DS:=(a6 (br de (ab (cC (cR (ab (aa 0) ag)) [none,some 0] (ba 0) bN (ay qG (ab (aa 1) (ab (aa 0) ag)))) ag)))
def Cj:V8 jO 1 DM uO:=by
 rintro c st K ⟨n,rfl,a,k⟩;show⟨rfl,?_⟩;show dZ ⟨by lia,by lia⟩ ⟨bS (by rw[dM];lia),?_⟩;rw[WC];show lx (λi=>cn (Mx.fJ n i)) n (λi b d q=>⟨_,rfl,n,i,rfl,a,q⟩) ?_;let:(List.range n).map (λi=>cn (Mx.fJ n i))=(Mx.units n).map cn:=by unfold Mx.units;rw[WL];rfl
 rw[this];show cQ rfl k
def xy:bM:=λc st K=>∃(x y:D) (r s:List Int),c=[x,y]/\items? st x=some (aq r)/\items? st y=some (aq s)/\r.length<=1000/\(∀a∈r,∀b∈s,IntMulOk a b)/\K (.int (Mx.gZ r s)) st
def Ng:List Str:=["one","other"]
def Sv:DS:=(a6 (br xU (ab (cC (ma (ab (aa 0) (ab (aa 1) ag))) [none,none] (fz 0 1) bN (aj bG (aa 0) (aa 1))) ag)))
def Ej:∀(r s:List Int),∃ns:List Int,(eG (aq r) (aq s)).map (λd=>match d with| .tup [.int a,.int b]=> .int (a*b)|_=> .aD)=aq ns/\ns.sum=Mx.gZ r s
 | [],_=>⟨[],rfl,rfl⟩
 |_::_,[]=>⟨[],rfl,rfl⟩
 |a::r,b::s=>by
  obtain⟨ns,f,c⟩:=Ej r s;show⟨a*b::ns,?_,?_⟩
  . have e:eG (aq (a::r)) (aq (b::s))= .tup [.int a,.int b]::eG (aq r) (aq s):=rfl;rw[e,WJ,f];rfl
  . rw[List.sum_cons,c];rfl
def Jl:V8 xy 2 Sv Ng:=by
 rintro t st K ⟨x,y,r,s,rfl,e,c,p,f,k⟩;show⟨rfl,?_⟩;show jN e c λok n=>⟨bS (by rw[jf];simp;lia),?_⟩
 obtain⟨o,m,l⟩:=Ej r s;show comp_map (g:=λd=>match d with| .tup [.int a,.int b]=> .int (a*b)|_=> .aD) (n st e c) _ (λd h u q=>?_) ?_
 . obtain⟨a,b,j,i,rfl⟩:=oE h;show⟨_,rfl,bE (f a j b i) q⟩
 . rw[m];show Pz (ints_map _) ?_;rw[l];show k
def kj:bM:=λa st K=>∃(A:List (List Int)) (N w:Nat),a=[bq A,.int N,.int w]/\Mx.aQ N w A/\N<=8/\w<=8/\K (.bl true) st
def yG:List Str:=["thing","many","wide"]
def G8:DS:=(av (cN (dP (aV (ay jR (ab (aa 0) ag)))) (a6 (dC (.bl false))) cz)
 (av (cN (ud (aV (aj xD (aa 1) (dC .aD))) (aV (aj nj (br dD (ab (aa 0) ag)) (aa 1)))) (a6 (dC (.bl false))) cz)
 (a6 (br tH (ab (cC (dy (aa 0)) [none,some 2] (ba 0) bN (ay m5 (ab (aa 0) (ab (aa 1) ag)))) ag)))))
def FL:V8 kj 3 G8 yG:=by
 rintro i st K ⟨A,N,w,rfl,a,h,b,k⟩;show⟨rfl,bq A,rfl,⟨_,rfl⟩,?_⟩;let c:=a.len;show Q8 rfl (cM rfl (Eh (by rw[Wd,c]) ?_));show fw ⟨bS (by rw[Wd];lia),comp_map (g:=λ_=> .bl true) trivial _ (λd f j q=>?_) ?_⟩
 . obtain⟨r,e,rfl⟩:=WK.mp f;show⟨_,rfl,r,w,rfl,a.eJ r e,b,q⟩
 . show xo (xR (A.map cn)) ?_;rw[Me];show k
def OM:∀(n:Nat) (r:List Int),((aq r).all λd=>pl n d)=true:=λn r=>WT.mpr λd a=>by
 obtain⟨i,_,rfl⟩:=WK.mp a;cases n<;>(unfold pl;rfl)
def Nm:pl (n+1) (cn r)=true:=by
 unfold pl;show OM n r
def ie:pl (n+2) (bq A)=true:=by
 unfold pl;show WT.mpr λd a=>?_;obtain⟨r,_,rfl⟩:=WK.mp a;show Nm
def yU:∀(r s:List Int),fM (aq r) (aq s)=decide (r=s)
 | [],[]=>by unfold fM;rfl
 | [],_::_=>by unfold fM;simp
 |_::_,[]=>by unfold fM;simp
 |a::r,b::s=>by
  simp![WJ];unfold fM;rw[yU r s];unfold cP;by_cases d:a=b<;>by_cases c:r=s<;>simp[d,c]
def OY(r s:List Int):cP (cn r) (cn s)=decide (r=s):=by
 unfold cP;show yU r s
def yX:∀(A B:List (List Int)),fM (A.map cn) (B.map cn)=decide (A=B)
 | [],[]=>by unfold fM;rfl
 | [],_::_=>by unfold fM;simp
 |_::_,[]=>by unfold fM;simp
 |a::r,b::s=>by
  simp![WJ];unfold fM;rw[yX r s,OY];by_cases d:a=b<;>by_cases c:r=s<;>simp[d,c]
def rf(A B:List (List Int)):cP (bq A) (bq B)=decide (A=B):=by
 unfold cP;show yX A B
def qR:bM:=λa st K=>∃(A B:List (List Int)) (n:Nat),a=[bq A,bq B]/\Mx.aQ n n A/\Mx.aQ n n B/\1<=n/\n<=8/\(∀r∈A,∀x∈r,x.natAbs<=2^500000)/\(∀r∈B,∀x∈r,x.natAbs<=2^500000)/\K (.bl (decide (Mx.mulM A B n=Mx.units n))) st
def w6:List Str:=["turn","back","many"]
def Gv:DS:=(av (cN (dP (aV (ay jR (ab (aa 0) ag)))) (a6 (dC (.bl false))) cz)
 (av (aN 2 (br dD (ab (aa 0) ag)))
 (av (cN (ip (dP (aV (ay kj (ab (aa 0) (ab (aa 2) (ab (aa 2) ag)))))) (dP (aV (ay kj (ab (aa 1) (ab (aa 2) (ab (aa 2) ag))))))) (a6 (dC (.bl false))) cz)
 (a6 (K9 (aj iZ (aa 2) (dC (.int 0))) (aj iZ (ay pe (ab (aa 0) (ab (aa 1) ag))) (ay jO (ab (aa 2) ag))))))))
def DU:V8 qR 2 Gv w6:=by
 rintro q st K ⟨A,B,n,rfl,f,d,p,a,h,g,k⟩;show⟨rfl,bq A,rfl,⟨_,rfl⟩,cM rfl ?_⟩;let i:=f.len;let e:=d.len;rw[Wd,i];show⟨A,n,n,rfl,f,a,a,B,n,n,rfl,d,a,a,Nf (by lia) ?_⟩;show⟨_,_,n,A,B,rfl,js,js,λz=>by rw[z]at e;simp at e;lia,d.eJ,by lia,by lia,λr l c m s j b o=>kr (h r l c m) (g s j b o) (by decide),?_⟩;show⟨n,rfl,by lia,FG ie ie ?_⟩;rw[rf];show k
def ou:bM:=λa st K=>∃(A B:List (List Int)) (n:Nat),a=[bq A,bq B,.int n]/\Mx.aQ n n A/\Mx.aQ n n B/\1<=n/\n<=8/\(∀r∈A,∀x∈r,x.natAbs<=2^500000)/\(∀r∈B,∀x∈r,x.natAbs<=2^500000)/\K (.bl (decide (Mx.mulM A B n=Mx.units n))) st
def r8:List Str:=["turn","back","many"]
def AQ:DS:=(a6 (qu (ay kj (ab (aa 0) (ab (aa 2) (ab (aa 2) ag)))) (ay qR (ab (aa 0) (ab (aa 1) ag)))))
def zJ:V8 ou 3 AQ r8:=by
 rintro g st K ⟨A,B,n,rfl,b,f,e,a,d,c,k⟩;show⟨rfl,A,n,n,rfl,b,a,a,eH ⟨A,B,n,rfl,b,f,e,a,d,c,k⟩⟩
def yN(A A' U B:List (List Int))(N w:Nat):Bool:=decide (Mx.mulM U B N=Mx.units N)&&decide (A'=Mx.mulM U A w)
structure EE(A A' U B:List (List Int))(N w:Nat):Prop where
 a:Mx.aQ N w A
 a':Mx.aQ N w A'
 u:Mx.aQ N N U
 b:Mx.aQ N N B
 n1:1<=N
 n8:N<=8
 w8:w<=8
 bA:∀r∈A,∀x∈r,x.natAbs<=2^500000
 bU:∀r∈U,∀x∈r,x.natAbs<=2^500000
 bB:∀r∈B,∀x∈r,x.natAbs<=2^500000
def n_:bM:=λb st K=>∃(A a U B:List (List Int)) (N w:Nat),b=[bq A,bq a,bq U,bq B]/\EE A a U B N w/\K (.bl (yN A a U B N w)) st
def sN:List Str:=["rows","made","turn","back","many"]
def Be:DS:=(av (aN 4 (br dD (ab (aa 0) ag)))
 (av (cN (ip (dP (aV (ay kj (ab (aa 1) (ab (aa 4) (ab (br dD (ab (aj aI (aa 0) (dC (.int 0))) ag)) ag)))))) (dP (aV (ay ou (ab (aa 2) (ab (aa 3) (ab (aa 4) ag))))))) (a6 (dC (.bl false))) cz)
 (a6 (aj iZ (ay i4 (ab (aa 1) ag)) (ay pe (ab (aa 2) (ab (aa 0) ag)))))))
def Ae:V8 n_ 4 Be sN:=by
 rintro u st K ⟨A,i,U,B,N,w,rfl,h,k⟩;let g:=h.a.len;let t:=h.u.len;let l:=h.n1;let f:=h.n8;let j:=h.w8
 obtain⟨a,d,rfl⟩:∃a d,A=a::d:=by
  cases A with
  |nil=>simp at g;lia
  |cons a d=>show⟨a,d,rfl⟩
 let m:a.length=w:=h.a.eJ a Wx;show⟨rfl,cM rfl ?_⟩;rw[Wd,g];show az (e:=cn a) rfl (by change du _ ((0:Nat):Int)=_;show dQ rfl) (cM rfl ?_);rw[Wd,m];show⟨i,N,w,rfl,h.a',f,j,⟨U,B,N,rfl,h.u,h.b,l,f,h.bU,h.bB,?_⟩⟩;unfold yN at k;by_cases e:Mx.mulM U B N=Mx.units N
 . rw[Xb e,Bool.true_and]at k;rw[Xb e];show⟨_,i,rfl,js,by rw[h.a'.len];lia,?_⟩;show⟨_,_,w,U,a::d,rfl,js,js,λz=>(by cases z),h.a.eJ,by lia,by lia,λr o c p s n b q=>kr (h.bU r o c p) (h.bA s n b q) (by decide),FG ie ie ?_⟩;rw[rf];show k
 . rw[WH e,aa1]at k;rw[WH e];show k
def bits_le{a:Int}(h:a.natAbs<2^m):Builtin.Int.intBits a<=m:=by
 unfold Builtin.Int.intBits;by_cases b:a.natAbs=0
 . have:a=0:=by lia
   subst this;simp
 . have:=(YK b).mpr h;split<;>lia
def EW{a b:Int}(e:a.natAbs<=2^744)(d:b.natAbs<=2^744):IntMulOk a b:=by
 let l:(2:Nat)^744<2^745:=XH (by decide) (by decide);let c:745<=2^20:=by decide
 show .of_bits (Wj (bits_le (Xf e l)) c) (Wj (bits_le (Xf d l)) c)
def Gz{a:Int}(b:a.natAbs<=2^744)(c:a≠0):a.natAbs.log2<9000:=by
 let l:(2:Nat)^744<2^745:=XH (by decide) (by decide);let:=(YK (show a.natAbs≠0 by lia)).mpr (Xf b l);lia
structure Gm(G:Mx.Fn)(n:Nat):Prop where
 le:n<=8
 ex:∃b,(∀r c,r<n->c<n->(G r c).natAbs<=b)/\(8*b)^n<=2^744/\(8*b)^(n-1)<=2^651/\1<=b
 sym:∀i j,G i j=G j i
def Gm.gx(h:Gm G n)(a:p<n)(d:i<n)(c:j<n):(Mx.gx G p (G i) j).natAbs<=2^744:=by
 obtain⟨b,e,f,_,g⟩:=h.ex;show Wj (Mx.Bm h.le e a d c) (Wj (Ws (by lia) (by lia)) f)
def Gm.D(h:Gm G n)(a:p<=n):(Mx.D p G).natAbs<=2^744:=by
 obtain⟨b,d,e,_,i⟩:=h.ex;show Wj (Mx.qp (by let:=h.le;lia) λr c f g=>d r c (by lia) (by lia)) (Wj (Ws (by lia) a) e)
def Gm.big(h:Gm G n)(c:i<n)(a:j<n):(G i j).natAbs<=2^744:=by
 obtain⟨b,d,g,_,k⟩:=h.ex;let e:(8*b)^1<=(8*b)^n:=Ws (by lia) (by lia);let f:=d i j c a;rw[Nat.pow_one]at e;lia
def oU:bM:=λa st K=>∃(G:Mx.Fn) (n i j:Nat) (m:Nat) (o1 o2:List Int) (dt d1 d2:D) (ts:List D),a=[.int (G i j),dt,d1,d2]/\items? st dt=some ts/\bH st ts (Mx.pR G m)/\items? st d1=some (aq o1)/\items? st d2=some (aq o2)/\o1.length=j/\j<=o2.length/\j<=m/\(∀k,k<j->o1.getD k 0=Mx.lam G i k/\o2.getD k 0=Mx.lam G j k)/\(∀k,k<j->Mx.D k G≠0)/\Gm G n/\i<n/\j<n/\K (.int (Mx.gx G j (G i) j)) st
def zi:List Str:=["together","table","one","other","divisor","line","left","right"]
def IH:DS:=(av (aN 4 (dC (.int 1)))
 (av (eQ (Fx (ab (aa 1) (ab (aa 2) (ab (aa 3) ag)))) (pV 5 6 7) (av (aN 0 (aj iX (aj cY (aj bG (aj aI (aa 5) (iE fe (dC (.int 1)))) (aa 0)) (aj bG (aa 6) (aa 7))) (aa 4)))
 (aN 4 (aj aI (aa 5) (iE fe (dC (.int 1)))))))
 (a6 (aa 0))))
def jy{r:List Int}(h:r.length=n+1):du (aq r) (-1)=some (.int (r.getD n 0)):=by
 let e:r=r.take n++[r.getD n 0]:=by
  rw[Mx.aP (by lia),<-ZO (by lia),X_ (by lia)]
 let a:aq r=aq (r.take n)++[.int (r.getD n 0)]:=by
  conv=>lhs;rw[e]
  simp[aq]
 rw[a];show J_ _ _
def wF{ts:List D}{b a:List Int}{k:Nat}(e:k<ts.length)(d:k<b.length)(c:k<a.length):fH (ts.drop k) (aq (b.drop k)) (aq (a.drop k))= .tup [ts[k],.int (b.getD k 0),.int (a.getD k 0)]::fH (ts.drop (k+1)) (aq (b.drop (k+1))) (aq (a.drop (k+1))):=by
 rw[WG e,WG d,WG c,Mx.aP d,Mx.aP c];rfl
def o9{st:af}{ts:List D}{A:List (List Int)}{q:Nat}(h:bH st ts A)(b:q<ts.length):items? st ts[q]=some (aq (A.getD q [])):=by
 obtain⟨r,a,c⟩:=h.get (Wm b);let d:=h.len;rw[Wm (by lia)]at a;cases a;rw[Mx.aP (by lia)];show c
def GI:V8 oU 4 IH zi:=by
 rintro V st K ⟨G,n,i,j,m,z,y,I,L,J,o,rfl,s,w,v,u,T,S,R,A,t,g,C,B,k⟩;show⟨rfl,?_⟩;let U:=g.le;let lt:=w.len;rw[Mx.BX]at lt;show Ol s v u λok F=>?_;show e7 (λrest σ c=>c=st/\∃(q:Nat) (l f d:Option D),q<=j/\σ=[some (.int (Mx.gx G q (G i) j)),some I,some L,some J,some (.int (Mx.D q G)),l,f,d]/\rest=fH (o.drop q) (aq (z.drop q)) (aq (y.drop q))) ?_ ?_ _ _ _ ⟨rfl,0,none,none,none,WU _,by rw[Mx.jx];rfl,rfl⟩
 . rintro σ c ⟨rfl,q,l,f,d,H,rfl,b⟩;show⟨F _ s v u,?_⟩
   let:q=j:=by
    by_cases h:q<j
    . rw[wF (by lia) (by lia) (by lia)]at b;cases b
    . lia
   subst this;show k
 . rintro x rest σ c ⟨rfl,q,l,f,d,H,rfl,b⟩ next
   let a:q<j:=by
    by_cases h:q<j
    . show h
    . have:z.drop q=[]:=Yo (by lia);rw[this]at b
      let e:fH (o.drop q) (aq []) (aq (y.drop q))=[]:=by
       cases (o.drop q)<;>rfl
      rw[e]at b;cases b
   rw[wF (by lia) (by lia) (by lia),Xp]at b;obtain⟨rfl,rfl⟩:=b;show⟨F _ s v u,_,rfl,?_⟩;let r:=o9 w (q:=q) (by lia);rw[Mx.Es G (show q<m by lia)]at r;rw[(A q a).1,(A q a).2];let E:(Mx.a8 G q).getD q 0=Mx.D (q+1) G:=by rw[Mx.gG G (Wg _),Mx.cZ]
   let Q:=g.D (p:=q+1) (by lia);let P:=g.gx (p:=q) (i:=i) (j:=j) (by lia) C B;let O:(Mx.lam G i q).natAbs<=2^744:=g.gx (by lia) C (by lia);let N:(Mx.lam G j q).natAbs<=2^744:=g.gx (by lia) B (by lia);let M:=g.D (p:=q) (by lia);show d7 (az r (jy (Mx.dg G q)) ?_);rw[E];show bE (EW Q P) (bE (EW O N) (cF (iH (t q a) (Gz M (t q a)) ?_)));rw[Mx.B5 g.sym (t q a)];show d7 (az r (jy (Mx.dg G q)) ?_);rw[E];show next _ _ ⟨rfl,q+1,_,_,_,a,rfl,rfl⟩
structure St(A:List (List Int))(N w:Nat):Prop where
 is:Mx.aQ N w A
 wd:w<=1000
 sm:∀r∈A,∀x∈r,x.natAbs<=2^100
 gm:Gm (Mx.ae A) N
def St.mem{A:List (List Int)}(h:St A N w)(a:i<N):A.getD i []∈A:=by
 let:=h.is.len;rw[Mx.aP (by lia)];show WM _
def sW:bM:=λb st K=>∃(A:List (List Int)) (N w i:Nat) (dt dA dr:D) (ts:List D),b=[dt,dA,dr]/\items? st dt=some ts/\bH st ts (Mx.pR (Mx.ae A) i)/\d_ st dA A/\St A N w/\i<N/\items? st dr=some (aq (A.getD i []))/\(∀k,k<=i->Mx.D k (Mx.ae A)≠0)/\∀a,Ext st a->a.length=st.length+1->a[st.length]?=some (.lst (aq (Mx.a8 (Mx.ae A) i)))->K (.ref st.length) a
def yV:List Str:=["table","steps","row","made","line","step"]
def He:DS:=(av (aN 3 (oz ag))
 (av (eQ (ma (ab (aa 0) (ab (aa 1) ag))) (fz 4 5) (eh (gd (aa 3) (ay oU (ab (ay xy (ab (aa 2) (ab (aa 5) ag))) (ab (aa 0) (ab (aa 3) (ab (aa 4) ag))))))))
 (av (eh (gd (aa 3) (ay oU (ab (ay xy (ab (aa 2) (ab (aa 2) ag))) (ab (aa 0) (ab (aa 3) (ab (aa 3) ag)))))))
 (a6 (aa 3)))))
def yZ{ts a:List D}(c:q<ts.length)(b:q<a.length):eG (ts.drop q) (a.drop q)= .tup [ts[q],a[q]]::eG (ts.drop (q+1)) (a.drop (q+1)):=by
 rw[WG c,WG b];rfl
def HH{A:List (List Int)}(h:St A N w)(d:i<N)(c:j<N):∀a∈A.getD i [],∀b∈A.getD j [],IntMulOk a b:=λa f b e=>kr (h.sm _ (h.mem d) a f) (h.sm _ (h.mem c) b e) (by decide)
def vh(G:Mx.Fn)(i q:Nat):aq ((List.range q).map λj=>Mx.lam G i j)++[.int (Mx.lam G i q)]=aq ((List.range (q+1)).map λj=>Mx.lam G i j):=by rw[X5,Xz];simp[aq]
def qi(G:Mx.Fn){i q k:Nat}(h:k<q):((List.range q).map λj=>Mx.lam G i j).getD k 0=Mx.lam G i k:=by rw[Mx.aP (by simpa using h),Xa,Xe]
def Fp:V8 sW 3 He yV:=by
 rintro U st K ⟨A,N,w,i,B,P,M,o,rfl,s,t,⟨O,m,E⟩,c,l,z,F,k⟩;show⟨rfl,?_⟩;let S:=c.is.len;let I:=E.len;let lt:=t.len;rw[Mx.BX]at lt;let T:=c.gm.le;let Q:=c.is.eJ _ (c.mem l);let R:=c.wd;show⟨Wt rfl,?_⟩;let C:Ext st (st++[.lst []]):=Ext.push;let L:(st++[Cell.lst []])[st.length]?=some (.lst (aq ((List.range 0).map λj=>Mx.lam (Mx.ae A) i j))):=by simp
 show jN (C.items s) (C.items m) λok G=>?_;show e7 (λrest σ d=>∃(q:Nat) (v u:Option D),q<=i/\σ=[some B,some P,some M,some (.ref st.length),v,u]/\rest=eG (o.drop q) (O.drop q)/\Ext st d/\d.length=st.length+1/\d[st.length]?=some (.lst (aq ((List.range q).map λj=>Mx.lam (Mx.ae A) i j)))) ?_ ?_ _ _ _ ⟨0,none,none,WU _,rfl,rfl,C,by simp,L⟩
 . rintro σ p ⟨q,v,u,H,rfl,a,X,f,e⟩;show⟨G _ (X.items s) (X.items m),?_⟩
   let b:q=i:=by
    by_cases h:q<i
    . rw[yZ (by lia) (by lia)]at a;cases a
    . lia
   subst b;show oG (by rfl) e ?_;show⟨_,_,A.getD q [],A.getD q [],rfl,X.items z,X.items z,by lia,HH c l l,?_⟩;show⟨Mx.ae A,N,q,q,q,(List.range q).map λj=>Mx.lam (Mx.ae A) q j,(List.range q).map λj=>Mx.lam (Mx.ae A) q j,B,.ref st.length,.ref st.length,o,rfl,X.items s,X.wV t,au e,au e,by simp,by simp,Wg _,λk n=>⟨qi _ n,qi _ n⟩,λk n=>F k (by lia),c.gm,l,l,?_⟩;show lE e (by rw[Xn];simp;lia) ?_;let g:=(Wa.mp e).1
   let J:(p.set st.length (.lst (aq ((List.range q).map λj=>Mx.lam (Mx.ae A) q j)++[.int (Mx.gx (Mx.ae A) q (Mx.ae A q) q)])))[st.length]?=some (.lst (aq (Mx.a8 (Mx.ae A) q))):=by
    rw[Wn g];let:=vh (Mx.ae A) q q;unfold Mx.lam at this⊢;unfold Mx.a8 Mx.lam;rw[this]
   show k _ (X.set (Wg _)) (by rw[Wv];show f) J
 . rintro x rest σ p ⟨q,v,u,H,rfl,a,X,f,e⟩ next
   let b:q<i:=by
    by_cases h:q<i
    . show h
    . have:o.drop q=[]:=Yo (by lia);rw[this]at a;cases a
   rw[yZ (by lia) (by lia),Xp]at a;obtain⟨rfl,rfl⟩:=a;show⟨G _ (X.items s) (X.items m),_,rfl,?_⟩;let y:=o9 E (q:=q) (by lia);let r:=o9 t (q:=q) (by lia);rw[Mx.Es _ b]at r;show oG (by rfl) e ?_;show⟨_,_,A.getD i [],A.getD q [],rfl,X.items z,X.items y,by lia,HH c l (by lia),?_⟩;show⟨Mx.ae A,N,i,q,i,(List.range q).map λj=>Mx.lam (Mx.ae A) i j,Mx.a8 (Mx.ae A) q,B,.ref st.length,o[q],o,rfl,X.items s,X.wV t,au e,X.items r,by simp,by rw[Mx.dg];lia,by lia,λk n=>⟨qi _ n,Mx.gG _ (by lia)⟩,λk n=>F k (by lia),c.gm,l,by lia,?_⟩;show lE e (by rw[Xn];simp;lia) ?_;let g:=(Wa.mp e).1;show next _ _ ⟨q+1,_,_,b,rfl,rfl,X.set (Wg _),by rw[Wv];show f,?_⟩
   rw[Wn g];let:=vh (Mx.ae A) i q;unfold Mx.lam at this⊢;rw[this]
structure Tb(st:af)(tb:Nat)(rs:List Nat)(G:Mx.Fn)(N:Nat):Prop where
 et:st[tb]?=some (Cell.lst (rs.map D.ref))
 lr:rs.length=N
 nd:∀(i j c:Nat),rs[i]?=some c->rs[j]?=some c->i=j
 nt:∀(i c:Nat),rs[i]?=some c->c≠tb
 row:∀(i c:Nat),rs[i]?=some c->st[c]?=some (Cell.lst (aq (Mx.a8 G i)))
def Tb.rows{st:af}{f:Nat}{a:List Nat}{G:Mx.Fn}{N:Nat}(T:Tb st f a G N):bH st (a.map D.ref) (Mx.pR G N):=by
 let b:∀(l:List Nat) (n:Nat),(∀(i c:Nat),l[i]?=some c->st[c]?=some (Cell.lst (aq (Mx.a8 G (n+i)))))->bH st (l.map D.ref) ((List.range l.length).map λi=>Mx.a8 G (n+i)):=by
  intro l;induction l with
  |nil=>intro n h;trivial
  |cons c l g=>
   intro n h;rw[WS,Xo,WJ,WJ,WL];show⟨au (by let:=h 0 c rfl;show this),?_⟩
   let:=g (n+1) λi d j=>by
    let:=h (i+1) d (by simpa using j);rw[show n+1+i=n+(i+1) by lia];show this
   let e:((λi=>Mx.a8 G (n+i))∘Nat.succ)=λi=>Mx.a8 G (n+1+i):=by
    funext i;change Mx.a8 G (n+(i+1))=_;rw[show n+1+i=n+(i+1) by lia]
   rw[e];show this
 let h:=b a 0 λi c k=>by rw[abi];show T.row i c k
 rw[T.lr]at h;unfold Mx.pR;let e:(λi=>Mx.a8 G (0+i))=Mx.a8 G:=by funext i;rw[abi]
 rw[e]at h;show h
def Tb.ext{st a:af}{b:Nat}{d:List Nat}{G:Mx.Fn}{N:Nat}(T:Tb st b d G N)(f:a[b]?=st[b]?)(e:∀(i c:Nat),d[i]?=some c->a[c]?=st[c]?):Tb a b d G N:=⟨f.trans T.et,T.lr,T.nd,T.nt,λi c h=>(e i c h).trans (T.row i c h)⟩
def nI:bM:=λd st K=>∃(A:List (List Int)) (N w:Nat) (dA:D),d=[dA]/\d_ st dA A/\St A N w/\(∀k,k<=N->Mx.D k (Mx.ae A)≠0)/\∀a b,Ext st a->Tb a st.length b (Mx.ae A) N->(∀(i c:Nat),b[i]?=some c->st.length<c)->K (.ref st.length) a
def xB:List Str:=["steps","table","step","line"]
def Fm:DS:=(av (aN 1 (oz ag))
 (av (eQ (dy (aa 0)) (ba 2) (av (aN 3 (ay sW (ab (aa 1) (ab (aa 0) (ab (aa 2) ag)))))
 (av (cN (aV (aj iZ (aj aI (aa 3) (iE fe (dC (.int 1)))) (dC (.int 0)))) Ic cz)
 (eh (gd (aa 1) (aa 3))))))
 (a6 (aa 1))))
def my{i:Nat}{σ:bZ}{st:af}{K:DK}{d:D}(h:σ[i]?=some (some d))(k:K d st):aa i σ st K:=by
 unfold aa;simp![h];show k
def Dk:V8 nI 1 Fm xB:=by
 rintro ds st K ⟨A,N,w,M,rfl,I,B,H,k⟩;show⟨rfl,?_⟩;obtain⟨L,o,G⟩:=I.ex;let Z:=B.is.len;let U:=G.len;let h8:=B.gm.le;show⟨Wt rfl,?_⟩;let P:Ext st (st++[.lst []]):=Ext.push;let T0:Tb (st++[Cell.lst []]) st.length [] (Mx.ae A) 0:=⟨by simp,rfl,λi j c h=>by simp at h,λi c h=>by simp at h,λi c h=>by simp at h⟩
 show pZ (P.items o) λok O=>?_;show e7 (λrest σ n=>∃(q:Nat) (e:List Nat) (u t:Option D),q<=N/\σ=[some M,some (.ref st.length),u,t]/\rest=L.drop q/\Ext st n/\Tb n st.length e (Mx.ae A) q/\∀(i c:Nat),e[i]?=some c->st.length<c/\c<n.length) ?_ ?_ _ _ _ ⟨0,[],none,none,WU _,rfl,rfl,P,T0,λi c h=>by simp at h⟩
 . rintro σ d ⟨q,e,u,t,S,rfl,a,X,T,p⟩;show⟨O _ (X.items o),?_⟩
   let g:q=N:=by
    let:=Xl List.length a;simp at this;lia
   subst g;show k _ e X T λi c h=>(p i c h).1
 . rintro x rest σ d ⟨q,e,u,t,S,rfl,a,X,T,p⟩ next
   let g:q<N:=by
    let:=Xl List.length a;simp at this;lia
   rw[WG (show q<L.length by lia),Xp]at a;obtain⟨rfl,rfl⟩:=a;show⟨O _ (X.items o),_,rfl,?_⟩;let y:=o9 G (q:=q) (by lia);show⟨A,N,w,q,.ref st.length,M,_,_,rfl,au T.et,T.rows,X.AJ I,B,g,X.items y,λk hk=>H k (by lia),λv F R J=>?_⟩;let Y:=X.trans F;let z:st.length<d.length:=(Wa.mp T.et).1;let Q:=T.lr;show d7 (az (au J) (jy (Mx.dg _ q)) ?_);rw[Mx.gG _ (Wg q),Mx.cZ];show Nf (H (q+1) (by lia)) ?_;let s:v[st.length]?=some (.lst (e.map D.ref)):=(F.same _ z).trans T.et;show oG (by rfl) s (my rfl (lE s (by rw[Xn,Wd];lia) ?_))
   let f:∀(i c:Nat),(e++[d.length])[i]?=some c->(i<q/\e[i]?=some c)\/(i=q/\c=d.length):=λi c h=>by
    by_cases l:i<e.length
    . rw[Wh l]at h;show .inl ⟨by lia,h⟩
    . have r:=(Wa.mp h).1;let:i=e.length:=by simp at r;lia
      rw[WD (by lia),this,XU]at h;simp at h;show .inr ⟨by lia,h.symm⟩
   show next _ _ ⟨q+1,e++[d.length],_,_,g,rfl,rfl,Y.set (Wg _),⟨?_,by simp[Q],λi j c l V=>?_,λi c l=>?_,λi c l=>?_⟩,λi c l=>?_⟩
   . rw[Wn (by lia),Xz];rfl
   . rcases f i c l with⟨m,b⟩|⟨m,b⟩<;>rcases f j c V with⟨W,E⟩|⟨W,E⟩
     . show T.nd i j c b E
     . have:=(p i c b).2;lia
     . have:=(p j c E).2;lia
     . lia
   . rcases f i c l with⟨m,b⟩|⟨m,b⟩
     . show T.nt i c b
     . lia
   . rcases f i c l with⟨m,b⟩|⟨m,b⟩
     . have C:=p i c b;rw[Wf (by lia),F.same c C.2];show T.row i c b
     . rw[b,m,Wf (by lia)];show J
   . rcases f i c l with⟨m,b⟩|⟨m,b⟩
     . have C:=p i c b;show⟨C.1,by rw[Wv];lia⟩
     . show⟨by lia,by rw[Wv];lia⟩
abbrev Cp(G:Mx.Fn)(N:Nat):List D:=(List.range N).map λk=>j4 (Mx.D (k+1) G) (Mx.D k G)
abbrev M3(G:Mx.Fn)(i:Nat):List D:=(List.range i).map λj=>j4 (Mx.lam G i j) (Mx.D (j+1) G)
abbrev Rj(G:Mx.Fn)(N:Nat):List D:=(List.range N).map λi=> .tup (M3 G i)
def Tb.at{st:af}{b:Nat}{a:List Nat}{G:Mx.Fn}{N k:Nat}(T:Tb st b a G N)(h:k<N):st[a.getD k 0]?=some (.lst (aq (Mx.a8 G k))):=by
 let c:=T.lr;show T.row k _ ?_;rw[Wo,Wm (by lia)];rfl
def Tb.refs{st:af}{b:Nat}{a:List Nat}{G:Mx.Fn}{N:Nat}(T:Tb st b a G N):a.map D.ref=(List.range N).map λk=>D.ref (a.getD k 0):=by
 let c:=T.lr;show ZQ (by simp[c]) λi d e=>?_;rw[Xa,Xa,Xe,Wo,Wm (by simpa using d)];rfl
def oF:bM:=λa st K=>∃(G:Mx.Fn) (N tb:Nat) (rs:List Nat),a=[.ref tb]/\Tb st tb rs G N/\Gm G N/\(∀k,k<=N->Mx.D k G≠0)/\K (.tup (Cp G N)) st
def s_:List Str:=["table","lasts"]
def Ce:DS:=(av (aN 1 (cC (dy (aa 0)) [none] (ba 0) bN (aj aI (aa 0) (iE fe (dC (.int 1))))))
 (a6 (br de (ab (cC (ma (ab (aa 1) (ab (aj cE (jc (ab (dC (.int 1)) ag)) (aa 1)) ag))) [none,none] (fz 0 1) bN (ay oy (ab (aa 0) (ab (aa 1) ag)))) ag))))
def i5{f h:Nat->D}{N:Nat}{i:fj}{j:DE}{ok:af->Prop}{g:bZ}{st:af}{K:List D->af->Prop}(m:ok st)(o:∀k,k<N->∀n,n (h k) st->∃e,i (f k) g=some e/\j e st n)(k:K ((List.range N).map h) st):dH i bN j ok g ((List.range N).map f) [] st K:=by
 show i7 (λrest c a=>a=st/\∃q,q<=N/\rest=((List.range N).map f).drop q/\c=(List.range q).map h) ?_ ?_ _ _ _ ⟨rfl,0,WU _,rfl,rfl⟩
 . rintro c a ⟨rfl,q,p,d,rfl⟩
   let:q=N:=by
    let:=Xl List.length d;simp at this;lia
   subst this;show⟨m,k⟩
 . rintro x rest c a ⟨rfl,q,p,d,rfl⟩ next
   let b:q<N:=by
    let:=Xl List.length d;simp at this;lia
   rw[WG (by simpa using b),Xp,Xa,Xe]at d;obtain⟨rfl,rfl⟩:=d;obtain⟨e,r,t⟩:=o q b (λy l=>dH i bN j ok g _ ((List.range q).map h++[y]) l K) (next _ _ ⟨rfl,q+1,b,rfl,by rw[X5,Xz];rfl⟩);show⟨m,e,r,t⟩
def CH{a b:Nat->D}(h:N<=M):eG ((List.range N).map a) ((List.range M).map b)=(List.range N).map λk=> .tup [a k,b k]:=by
 show List.ext_getElem? λk=>?_;unfold eG;rw[Wr,Wr];by_cases c:k<N
 . rw[Xq c]
   let e:(((List.range N).map a).zip ((List.range M).map b))[k]?=some (a k,b k):=by
    rw[aaE];show⟨by rw[Wr,Xq c];rfl,by rw[Wr,Xq (by lia)];rfl⟩
   rw[e];rfl
 . have d:(((List.range N).map a).zip ((List.range M).map b))[k]?=none:=XR (by rw[List.length_zip];simp;lia);rw[d,XR (by simpa using c)];rfl
def zQ:V8 oF 1 Ce s_:=by
 rintro m st K ⟨G,N,i,j,rfl,T,g,c,k⟩;show⟨rfl,?_⟩;let l:=g.le;show pZ (au T.et) λok a=>⟨bS (by rw[Wd,T.lr];lia),?_⟩
 let d:=a _ (au T.et);rw[T.refs];show i5 (h:=λk=> .int (Mx.D (k+1) G)) d (λq b f t=>⟨_,rfl,d7 (az (au (T.at b)) (jy (Mx.dg G q)) ?_)⟩) ?_
 . rw[Mx.gG G (Wg q),Mx.cZ];show t
 show Ur (Wt rfl) (D5 (by rw[Xn];simp;lia) ?_)
 let e: [D.int 1]++(List.range N).map (λk=>D.int (Mx.D (k+1) G))=(List.range (N+1)).map λk=>D.int (Mx.D k G):=by
  rw[Xo,WJ,WL];rfl
 rw[e];show jN rfl rfl λok a=>⟨bS (by rw[jf];simp;lia),?_⟩
 rw[CH (by lia)];show i5 (h:=λk=>j4 (Mx.D (k+1) G) (Mx.D k G)) (a _ rfl rfl) (λq b f t=>⟨_,rfl,⟨_,_,rfl,c q (by lia),Gz (g.D (by lia)) (c q (by lia)),t⟩⟩) ?_;show cQ rfl k
def pG:bM:=λa st K=>∃(G:Mx.Fn) (N i tb:Nat) (rs:List Nat),a=[.ref tb,.ref (rs.getD i 0)]/\Tb st tb rs G N/\i<N/\Gm G N/\(∀k,k<=N->Mx.D k G≠0)/\K (.tup (M3 G i)) st
def uN:List Str:=["table","line"]
def DP:DS:=(a6 (br de (ab (cC (ma (ab (lp (aa 1) kb (mi (iE fe (dC (.int 1))))) (ab (aa 0) ag))) [none,none] (fz 0 1) bN (ay oy (ab (aa 0) (ab (aj aI (aa 1) (iE fe (dC (.int 1)))) ag)))) ag)))
def KY{r:List Int}(h:r.length=n+1):L3.cutD (aq r) none (some (-1))=aq (r.take n):=by
 unfold L3.cutD;rw[HT.qD]
 let e:HT.cv (aq r).length (aq r).length (some (-1))=n:=by
  change(if(-1:Int)<0 then((-1:Int)+((aq r).length:Int)).toNat else min (-1:Int).toNat (aq r).length)=n;rw[We (by decide),Wd];lia
 rw[e,abc,aaP];unfold aq;rw[ZI]
def Cw:V8 pG 2 DP uN:=by
 rintro o st K ⟨G,N,i,f,l,rfl,T,c,g,a,k⟩;show⟨rfl,?_⟩;let n:=g.le;show d7 (ku (T.at c) ?_);rw[KY (Mx.dg G i)]
 let d:aq ((Mx.a8 G i).take i)=(List.range i).map λj=> .int (Mx.lam G i j):=by
  unfold Mx.a8;rw[<-ZI,List.take_range,Zm (by lia)];unfold aq;rw[WL];rfl
 rw[d];show jN rfl (au T.et) λok e=>⟨bS (by rw[jf];simp;lia),?_⟩
 let b:=e _ rfl (au T.et);rw[T.refs,CH (by lia)];show i5 (h:=λj=>j4 (Mx.lam G i j) (Mx.D (j+1) G)) b (λq m p t=>⟨_,rfl,?_⟩) ?_
 . show d7 (az (au (T.at (by lia))) (jy (Mx.dg G q)) ?_);rw[Mx.gG G (Wg q),Mx.cZ];show⟨_,_,rfl,a (q+1) (by lia),Gz (g.D (by lia)) (a (q+1) (by lia)),t⟩
 show cQ rfl k
def vm:bM:=λb st K=>∃(A:List (List Int)) (N w:Nat) (dA:D),b=[dA]/\d_ st dA A/\St A N w/\(∀k,k<=N->Mx.D k (Mx.ae A)≠0)/\∀a,Ext st a->K (.tup [.tup (Cp (Mx.ae A) N),.tup (Rj (Mx.ae A) N)]) a
def CT:List Str:=["steps","table"]
def Lq:DS:=(av (aN 1 (ay nI (ab (aa 0) ag)))
 (a6 (kX (ab (ay oF (ab (aa 1) ag)) (ab (br de (ab (cC (dy (aa 1)) [none,some 1] (ba 0) bN (ay pG (ab (aa 1) (ab (aa 0) ag)))) ag)) ag)))))
def IA:V8 vm 1 Lq CT:=by
 rintro o st K ⟨A,N,w,j,rfl,g,a,c,k⟩;show⟨rfl,?_⟩;let n:=a.gm.le;show⟨A,N,w,j,rfl,g,a,c,λb d m T _=>?_⟩;show⟨_,N,_,d,rfl,T,a.gm,c,?_⟩;show pZ (au T.et) λok l=>⟨bS (by rw[Wd,T.lr];lia),?_⟩
 let f:=l _ (au T.et);rw[T.refs];show i5 (h:=λi=> .tup (M3 (Mx.ae A) i)) f (λq e p t=>⟨_,rfl,⟨_,N,q,_,d,rfl,T,e,a.gm,c,t⟩⟩) ?_;show cQ rfl ⟨Wt rfl,k b m⟩
def gv:bM:=λa st K=>∃(t d:Int),a=[.int t,.int d]/\d≠0/\K (.int (Mx.qn t d)) st
def mD:List Str:=["top","bottom"]
def tN:DS:=(a6 (aj qb (aj cE (aj bG (dC (.int 2)) (aa 0)) (aa 1)) (aj bG (dC (.int 2)) (aa 1))))
def mF{a b:Int}(d:a.natAbs<=2^m)(c:b.natAbs<=2^n):(a*b).natAbs<=2^(m+n):=by
 rw[W0,XM];show Xk d c
def dq{a b:Int}(f:a.natAbs<=2^m)(e:b.natAbs<=2^n)(d:m<1000000)(c:n<1000000):IntMulOk a b:=by
 let g:(1000000:Nat)<=2^20:=by decide
 let q:∀ {x:Int} {k:Nat},x.natAbs<=2^k->k<1000000->Builtin.Int.intBits x<=2^20:=λ{x k} h i=>Wj (CZ (Xf h (XH (by decide) (Xh k)))) (by lia);show .of_bits (q f d) (q e c)
def AA{a:Int}(b:a.natAbs<=2^m)(d:a≠0)(c:m+1<9000):a.natAbs.log2<9000:=by
 let l:(2:Nat)^m<2^(m+1):=XH (by decide) (Xh m);let:=(YK (show a.natAbs≠0 by lia)).mpr (Xf b l);lia
def rF:V8 gv 2 tN mD:=by
 rintro b st K ⟨t,d,rfl,a,k⟩;show⟨rfl,bE (d4 (by decide) (by decide)) (cL (bE (d4 (by decide) (by decide)) (BP (by lia) k)))⟩
def jM:bM:=λa st K=>∃(n k o:Nat) (A:List (List Int)),a=[.ref n,.int k,.int o]/\st[n]?=some (.lst (A.map aT))/\k<A.length/\o<A.length/\K (.ref st.length) (st++[.lst ((Mx.aW A k o).map aT)])
def uQ:List Str:=["rows","k","other","order"]
def DH:DS:=(av (aN 3 (br sE (ab (aa 0) ag)))
 (av (d8 (aa 3) (aa 1) (aj aI (aa 0) (aa 2)))
 (av (d8 (aa 3) (aa 2) (aj aI (aa 0) (aa 1)))
 (a6 (aa 3)))))
def cS{A:List (List Int)}(h:j<A.length):du (A.map aT) (j:Int)=some (aT (A.getD j [])):=by
 show dQ ?_;rw[Wr,Wm h,Mx.aP h];rfl
def fB{m k:Nat}(h:k<m):ki m (k:Int)=some k:=by
 let:=QV (i:=(k:Int)) (m:=m) (by lia) (by lia);rw[WC]at this;show this
def iI{A:List (List Int)}{k:Nat}:(A.map aT).set k (aT r)=(A.set k r).map aT:=by rw[Zs]
def C5:V8 jM 3 DH uQ:=by
 rintro m st K ⟨n,k,o,A,rfl,e,d,b,f⟩;show⟨rfl,?_⟩;let c:n<st.length:=(Wa.mp e).1;show K5 (au e) ?_;let l:(st++[Cell.lst (A.map aT)])[n]?=some (.lst (A.map aT)):=by rw[Wh c];show e
 let j:(st++[Cell.lst (A.map aT)])[st.length]?=some (.lst (A.map aT)):=by simp
 show az (au l) (cS b) (fA j (by rw[Wd];show fB d) ?_);rw[iI]
 let g:(st++[Cell.lst (A.map aT)]).set st.length (.lst ((A.set k (A.getD o [])).map aT))=st++[Cell.lst ((A.set k (A.getD o [])).map aT)]:=by
  rw[abd _ _ (Wg _),XU];rfl
 rw[g];let i:(st++[Cell.lst ((A.set k (A.getD o [])).map aT)])[n]?=some (.lst (A.map aT)):=by rw[Wh c];show e
 let h:(st++[Cell.lst ((A.set k (A.getD o [])).map aT)])[st.length]?=some (.lst ((A.set k (A.getD o [])).map aT)):=by simp
 show az (au i) (cS d) (fA h (by rw[Wd,Wv];show fB b) ?_);rw[iI]
 let a:(st++[Cell.lst ((A.set k (A.getD o [])).map aT)]).set st.length (.lst (((A.set k (A.getD o [])).set o (A.getD k [])).map aT))=st++[Cell.lst ((Mx.aW A k o).map aT)]:=by
  rw[abd _ _ (Wg _),XU];rfl
 rw[a];show f
def mL:bM:=λa st K=>∃(d:D) (r:List Int),a=[d]/\items? st d=some (aq r)/\r.length<=1000/\K (aT (r.map λx=> -x)) st
def y9:List Str:=["row"]
def Jj:DS:=(a6 (cC (dy (aa 0)) [none] (ba 0) bN (iE fe (aa 0))))
def Gd:V8 mL 1 Jj y9:=by
 rintro i st K ⟨d,r,rfl,f,c,k⟩;show⟨rfl,?_⟩;show tK f λok h=>⟨bS (by unfold aq;rw[Wd];show c),?_⟩
 show comp_map (g:=λx=>match x with| .int a=> .int (-a)|_=> .aD) h _ (λx b j q=>?_) ?_
 . unfold aq at b;obtain⟨a,_,rfl⟩:=WK.mp b;show⟨_,rfl,d7 q⟩
 . have e:(aq r).map (λx=>match x with| .int a=> .int (-a)|_=> .aD)=aq (r.map λx=> -x):=by unfold aq;rw[WL,WL];rfl
   rw[e];show k
structure Bn(st:af)(b xb xu xc:Nat)(A U C:List (List Int)):Prop where
 eb:st[b]?=some (Cell.ins aE [("body",.ref xb),("turn",.ref xu),("back_columns",.ref xc)])
 e1:st[xb]?=some (Cell.lst (A.map aT))
 e2:st[xu]?=some (Cell.lst (U.map aT))
 e3:st[xc]?=some (Cell.lst (C.map aT))
 n1:xb≠xu
 n2:xb≠xc
 n3:xu≠xc
def gw{st:af}{b x:Nat}{C:Addr}{fs:List (Str×D)}{xs:List D}(a:st[b]?=some (Cell.ins C fs))(c:st[x]?=some (Cell.lst xs)):b≠x:=λz=>by rw[z,c]at a;cases a
def hJ:bM:=λc st K=>∃(b N:Nat) (d:D) (A:List (List Int)),c=[.ref b,d]/\st[b]?=some (.ins aE [])/\d_ st d A/\A.length=N/\N<=8/\∀a,Bn a b st.length (st.length+1) (st.length+2) A (Mx.units N) (Mx.units N)->a.length=st.length+3->(∀m,m<st.length->m≠b->a[m]?=st[m]?)->K .aD a
def j6:List Str:=["self","rows"]
def vz:DS:=(av (mh aE "body" (aa 0) (kK (dy (aa 1)) [none] (ba 0) bN (br nA (ab (aa 0) ag))))
 (av (mh aE "turn" (aa 0) (kK (dy (ay jO (ab (br dD (ab (aa 1) ag)) ag))) [none] (ba 0) bN (br nA (ab (aa 0) ag))))
 (mh aE "back_columns" (aa 0) (kK (dy (ay jO (ab (br dD (ab (aa 1) ag)) ag))) [none] (ba 0) bN (br nA (ab (aa 0) ag))))))
def qW(f:Str)(v:D):∀fs:List (Str×D),(putD f v fs).length<=fs.length+1
 | []=>by simp[putD]
 |(g,x)::r=>by
  unfold putD;split
  . simp
  . have:=qW f v r;simp![WS];lia
def qP{st:af}{A:List (List Int)}:bH st (A.map cn) A:=bH.tup
def yT(n:Nat):(Mx.units n).length=n:=by unfold Mx.units;simp
def uz:V8 hJ 2 vz j6:=by
 rintro Z st K ⟨b,N,d,A,rfl,y,R,W,X,k⟩;show⟨rfl,?_⟩;let Q:b<st.length:=(Wa.mp y).1;obtain⟨I,g,E⟩:=R.ex;let P:=E.len;let lst:∀(e:D) (r:List Int),True:=λ_ _=>trivial;show tK g λok V=>⟨bS (by lia),?_⟩
 show gz aT V E (λe r G s L q=>⟨_,rfl,qf s q⟩) ?_;let x:(st++[Cell.lst (A.map aT)])[b]?=some (.ins aE []):=by rw[Wh Q];show y
 show ke x (by decide) ?_;generalize i:(st++[Cell.lst (A.map aT)]).set b (.ins aE (putD "body" (.ref st.length) []))=st1;let F:st1.length=st.length+1:=by rw[<-i];simp
 let H:∀m,m<st.length->m≠b->st1[m]?=st[m]?:=λm p f=>by rw[<-i,Wf (Wi f),Wh p]
 let J:st1[b]?=some (.ins aE (putD "body" (.ref st.length) [])):=by rw[<-i,Wn (by simp;lia)]
 let M:st1[st.length]?=some (.lst (A.map aT)):=by rw[<-i,Wf (by lia)];simp
 clear i
 let u:∃t,items? st1 d=some t/\t.length=N:=by
  cases d with
  |ref n=>
   by_cases j:n=b
   . subst j;unfold items? at g;simp![y]at g;cases g
   . have v:n<st.length:=by
      unfold items? at g;simp only at g;cases q:st[n]? with
      |none=>rw[q]at g;cases g
      |some c=>show(Wa.mp q).1
     show⟨I,?_,by lia⟩;unfold items? at g⊢;simp only at g⊢;rw[H n v j];show g
  |_=>show⟨I,g,by lia⟩
 obtain⟨z,a,l⟩:=u;show cM a ?_;rw[l];show⟨N,rfl,by lia,?_⟩;show fw ⟨bS (by rw[Wd,yT];lia),?_⟩;show gz aT trivial qP (λe r G s L q=>⟨_,rfl,qf s q⟩) ?_;let U:(st1++[Cell.lst ((Mx.units N).map aT)])[b]?=some (.ins aE (putD "body" (.ref st.length) [])):=by rw[Wh (by lia)];show J
 show ke U (by let:=qW "body" (.ref st.length) [];simp![aaV]at this;lia) ?_;generalize h:(st1++[Cell.lst ((Mx.units N).map aT)]).set b (.ins aE (putD "turn" (.ref st1.length) (putD "body" (.ref st.length) [])))=st2;let O:st2.length=st.length+2:=by rw[<-h];simp;lia
 let w:∀m,m<st1.length->m≠b->st2[m]?=st1[m]?:=λm p f=>by rw[<-h,Wf (Wi f),Wh p]
 let B:st2[b]?=some (.ins aE (putD "turn" (.ref st1.length) (putD "body" (.ref st.length) []))):=by rw[<-h,Wn (by simp;lia)]
 let C:st2[st1.length]?=some (.lst ((Mx.units N).map aT)):=by rw[<-h,Wf (by lia)];simp
 clear h
 let o:items? st2 d=some z:=by
  cases d with
  |ref n=>
   by_cases j:n=b
   . subst j;unfold items? at a;simp![J]at a;cases a
   . have v:n<st1.length:=by
      unfold items? at a;simp only at a;cases q:st1[n]? with
      |none=>rw[q]at a;cases a
      |some c=>show(Wa.mp q).1
     unfold items? at a⊢;simp only at a⊢;rw[w n v j];show a
  |_=>show a
 show cM o ?_;rw[l];show⟨N,rfl,by lia,?_⟩;show fw ⟨bS (by rw[Wd,yT];lia),?_⟩;show gz aT trivial qP (λe r G s L q=>⟨_,rfl,qf s q⟩) ?_;let T:(st2++[Cell.lst ((Mx.units N).map aT)])[b]?=some (.ins aE (putD "turn" (.ref st1.length) (putD "body" (.ref st.length) []))):=by rw[Wh (by lia)];show B
 show ke T (by let S:=qW "body" (.ref st.length) [];let Y:=qW "turn" (.ref st1.length) (putD "body" (.ref st.length) []);simp![aaV]at S;lia) ?_;show k _ ⟨?_,?_,?_,?_,by lia,by lia,by lia⟩ (by simp;lia) λm p f=>?_
 . rw[Wn (by simp;lia),F,O];rfl
 . rw[Wf (by lia),Wh (by lia),w _ (by lia) (by lia)];show M
 . rw[Wf (by lia),Wh (by lia)];rw[F]at C;show C
 . rw[Wf (by lia)];rw[show st.length+2=st2.length by lia];simp
 . rw[Wf (Wi f),Wh (by lia),w m (by lia) f,H m p f]
def i0:bM:=λf st K=>∃(b e c d N w k j:Nat) (A U C:List (List Int)) (q:Int),f=[.ref b,.int k,.int q,.int j]/\Bn st b e c d A U C/\Mx.aQ N w A/\Mx.aQ N N U/\Mx.aQ N N C/\k<N/\j<N/\N<=8/\w<=9/\(∀x∈A.getD j [],IntMulOk (-q) x)/\(∀x∈U.getD j [],IntMulOk (-q) x)/\(∀x∈C.getD k [],IntMulOk q x)/\
 ∀a,Bn a b e c d (Mx.aO A k q j) (Mx.aO U k q j) (Mx.aO C j (-q) k)->a.length=st.length->(∀m,m≠e->m≠c->m≠d->a[m]?=st[m]?)->K .aD a
def oN:List Str:=["self","k","times","other"]
def Cq:DS:=(av (d8 (cB aE "body" (aa 0)) (aa 1) (ay nN (ab (aj aI (cB aE "body" (aa 0)) (aa 1)) (ab (iE fe (aa 2)) (ab (aj aI (cB aE "body" (aa 0)) (aa 3)) ag)))))
 (av (d8 (cB aE "turn" (aa 0)) (aa 1) (ay nN (ab (aj aI (cB aE "turn" (aa 0)) (aa 1)) (ab (iE fe (aa 2)) (ab (aj aI (cB aE "turn" (aa 0)) (aa 3)) ag)))))
 (d8 (cB aE "back_columns" (aa 0)) (aa 3) (ay nN (ab (aj aI (cB aE "back_columns" (aa 0)) (aa 3)) (ab (aa 2) (ab (aj aI (cB aE "back_columns" (aa 0)) (aa 1)) ag)))))))
def zT:V8 i0 4 Cq oN:=by
 rintro ds st K ⟨b,g,f,x,N,w,k,j,A,U,C,q,rfl,B,E,z,D,l,y,hN,Z,M,J,L,V⟩;show⟨rfl,?_⟩;let T:=E.len;let R:=z.len;let S:=D.len;let Y:=Mx.bg E l;let rU:=Mx.bg z l;let X:=Mx.bg D y;let v:=gw B.eb B.e1;let u:=gw B.eb B.e2;let t:=gw B.eb B.e3;let p:=B.n1;let o:=B.n2;let n:=B.n3;show bo B.eb rfl (az (au B.e1) (cS (by lia)) (d7 (bo B.eb rfl (az (au B.e1) (cS (by lia)) ?_))));show⟨_,_,-q,A.getD k [],A.getD j [],rfl,rfl,rfl,by lia,M,?_⟩;show bo B.eb rfl (fA B.e1 (by rw[Wd,T];show fB l) ?_);rw[iI];let i:∀m,m≠g->(st.set g (.lst ((A.set k (Mx.eR (A.getD k []) (-q) (A.getD j []))).map aT)))[m]?=st[m]?:=λm r=>Wf (Wi r);let G:(st.set g (.lst ((A.set k (Mx.eR (A.getD k []) (-q) (A.getD j []))).map aT)))[g]?=some (.lst ((Mx.aO A k q j).map aT)):=Wn (Wa.mp B.e1).1;let I:(st.set g (.lst ((A.set k (Mx.eR (A.getD k []) (-q) (A.getD j []))).map aT))).length=st.length:=Wv;generalize st.set g (.lst ((A.set k (Mx.eR (A.getD k []) (-q) (A.getD j []))).map aT))=st1 at i G I⊢;let c:=(i b v).trans B.eb;let e:=(i f (Wi p)).trans B.e2;let s:=(i x (Wi o)).trans B.e3;show bo c rfl (az (au e) (cS (by lia)) (d7 (bo c rfl (az (au e) (cS (by lia)) ?_))));show⟨_,_,-q,U.getD k [],U.getD j [],rfl,rfl,rfl,by lia,J,?_⟩;show bo c rfl (fA e (by rw[Wd,R];show fB l) ?_);rw[iI];let h:∀m,m≠f->(st1.set f (.lst ((U.set k (Mx.eR (U.getD k []) (-q) (U.getD j []))).map aT)))[m]?=st1[m]?:=λm r=>Wf (Wi r);let F:(st1.set f (.lst ((U.set k (Mx.eR (U.getD k []) (-q) (U.getD j []))).map aT)))[f]?=some (.lst ((Mx.aO U k q j).map aT)):=Wn (Wa.mp e).1;let H:(st1.set f (.lst ((U.set k (Mx.eR (U.getD k []) (-q) (U.getD j []))).map aT))).length=st1.length:=Wv;generalize st1.set f (.lst ((U.set k (Mx.eR (U.getD k []) (-q) (U.getD j []))).map aT))=st2 at h F H⊢;let a:=(h b u).trans c;let d:=(h x (Wi n)).trans s;show bo a rfl (az (au d) (cS (by lia)) (bo a rfl (az (au d) (cS (by lia)) ?_)));show⟨_,_,q,C.getD j [],C.getD k [],rfl,rfl,rfl,by lia,L,?_⟩;show bo a rfl (fA d (by rw[Wd,S];show fB y) ?_);rw[iI];let W:C.set j (Mx.eR (C.getD j []) q (C.getD k []))=Mx.aO C j (-q) k:=by unfold Mx.aO;rw[Int.neg_neg]
 rw[W];show V _ ⟨?_,?_,?_,?_,p,o,n⟩ (by rw[Wv];lia) λm Q P O=>?_
 . rw[Wf (Wi t)];show a
 . rw[Wf (Wi o),h _ p];show G
 . rw[Wf (Wi n)];show F
 . show Wn (Wa.mp d).1
 . rw[Wf (Wi O),h m P,i m Q]
def ij:bM:=λf st K=>∃(b e c d N w k o:Nat) (A U C:List (List Int)),f=[.ref b,.int k,.int o]/\Bn st b e c d A U C/\Mx.aQ N w A/\Mx.aQ N N U/\Mx.aQ N N C/\k<N/\o<N/\
 ∀a,Bn a b st.length (st.length+1) (st.length+2) (Mx.aW A k o) (Mx.aW U k o) (Mx.aW C k o)->a.length=st.length+3->(∀m,m<st.length->m≠b->a[m]?=st[m]?)->K .aD a
def j_:List Str:=["self","k","other"]
def vN:DS:=(av (mh aE "body" (aa 0) (ay jM (ab (cB aE "body" (aa 0)) (ab (aa 1) (ab (aa 2) ag)))))
 (av (mh aE "turn" (aa 0) (ay jM (ab (cB aE "turn" (aa 0)) (ab (aa 1) (ab (aa 2) ag)))))
 (mh aE "back_columns" (aa 0) (ay jM (ab (cB aE "back_columns" (aa 0)) (ab (aa 1) (ab (aa 2) ag)))))))
def uy:V8 ij 3 vN j_:=by
 rintro R st K ⟨b,l,g,a,N,w,k,o,A,U,C,rfl,B,I,G,H,Q,P,y⟩;show⟨rfl,?_⟩;let O:=I.len;let L:=G.len;let M:=H.len;let J:=gw B.eb B.e1;let q:=gw B.eb B.e2;let j:=gw B.eb B.e3;let F:b<st.length:=(Wa.mp B.eb).1;let z:g<st.length:=(Wa.mp B.e2).1;let E:a<st.length:=(Wa.mp B.e3).1;show bo B.eb rfl ?_;show⟨l,k,o,A,rfl,B.e1,by lia,by lia,?_⟩;let d:(st++[Cell.lst ((Mx.aW A k o).map aT)])[b]?=some (.ins aE [("body",.ref l),("turn",.ref g),("back_columns",.ref a)]):=by rw[Wh F];show B.eb
 show ke d (by simp) ?_;let h:putD "body" (.ref st.length) [("body",.ref l),("turn",.ref g),("back_columns",.ref a)]=([("body",.ref st.length),("turn",.ref g),("back_columns",.ref a)]:List (Str×D)):=rfl;rw[h];generalize f:(st++[Cell.lst ((Mx.aW A k o).map aT)]).set b (.ins aE [("body",.ref st.length),("turn",.ref g),("back_columns",.ref a)])=st1;let s:st1.length=st.length+1:=by rw[<-f];simp
 let p:∀m,m<st.length->m≠b->st1[m]?=st[m]?:=λm i c=>by rw[<-f,Wf (Wi c),Wh i]
 let u:st1[b]?=some (.ins aE [("body",.ref st.length),("turn",.ref g),("back_columns",.ref a)]):=by rw[<-f,Wn (by simp;lia)]
 let v:st1[st.length]?=some (.lst ((Mx.aW A k o).map aT)):=by rw[<-f,Wf (by lia)];simp
 clear f d;show bo u rfl ?_;show⟨g,k,o,U,rfl,(p g z (Wi q)).trans B.e2,by lia,by lia,?_⟩;let d:(st1++[Cell.lst ((Mx.aW U k o).map aT)])[b]?=some (.ins aE [("body",.ref st.length),("turn",.ref g),("back_columns",.ref a)]):=by rw[Wh (by lia)];show u
 show ke d (by simp) ?_;let h:putD "turn" (.ref st1.length) [("body",.ref st.length),("turn",.ref g),("back_columns",.ref a)]=([("body",.ref st.length),("turn",.ref st1.length),("back_columns",.ref a)]:List (Str×D)):=rfl;rw[h];generalize e:(st1++[Cell.lst ((Mx.aW U k o).map aT)]).set b (.ins aE [("body",.ref st.length),("turn",.ref st1.length),("back_columns",.ref a)])=st2;let x:st2.length=st.length+2:=by rw[<-e];simp;lia
 let n:∀m,m<st1.length->m≠b->st2[m]?=st1[m]?:=λm i c=>by rw[<-e,Wf (Wi c),Wh i]
 let t:st2[b]?=some (.ins aE [("body",.ref st.length),("turn",.ref st1.length),("back_columns",.ref a)]):=by rw[<-e,Wn (by simp;lia)]
 let r:st2[st1.length]?=some (.lst ((Mx.aW U k o).map aT)):=by rw[<-e,Wf (by lia)];simp
 clear e d;show bo t rfl ?_;show⟨a,k,o,C,rfl,((n a (by lia) (Wi j)).trans (p a E (Wi j))).trans B.e3,by lia,by lia,?_⟩;let d:(st2++[Cell.lst ((Mx.aW C k o).map aT)])[b]?=some (.ins aE [("body",.ref st.length),("turn",.ref st1.length),("back_columns",.ref a)]):=by rw[Wh (by lia)];show t
 show ke d (by simp) ?_;let h:putD "back_columns" (.ref st2.length) [("body",.ref st.length),("turn",.ref st1.length),("back_columns",.ref a)]=([("body",.ref st.length),("turn",.ref st1.length),("back_columns",.ref st2.length)]:List (Str×D)):=rfl;rw[h];show y _ ⟨?_,?_,?_,?_,by lia,by lia,by lia⟩ (by simp;lia) λm i c=>?_
 . rw[Wn (by simp;lia),s,x]
 . rw[Wf (by lia),Wh (by lia),n _ (by lia) (by lia)];show v
 . rw[Wf (by lia),Wh (by lia)];rw[s]at r;show r
 . rw[Wf (by lia)];rw[show st.length+2=st2.length by lia];simp
 . rw[Wf (Wi c),Wh (by lia),n m (by lia) c,p m i c]
def iL:bM:=λf st K=>∃(b e c d N w k:Nat) (A U C:List (List Int)),f=[.ref b,.int k]/\Bn st b e c d A U C/\Mx.aQ N w A/\Mx.aQ N N U/\Mx.aQ N N C/\k<N/\N<=8/\w<=9/\
 ∀a,Bn a b e c d (Mx.f7 A k) (Mx.f7 U k) (Mx.f7 C k)->a.length=st.length->(∀m,m≠e->m≠c->m≠d->a[m]?=st[m]?)->K .aD a
def iP:List Str:=["self","k"]
def rL:DS:=(av (d8 (cB aE "body" (aa 0)) (aa 1) (ay mL (ab (aj aI (cB aE "body" (aa 0)) (aa 1)) ag)))
 (av (d8 (cB aE "turn" (aa 0)) (aa 1) (ay mL (ab (aj aI (cB aE "turn" (aa 0)) (aa 1)) ag)))
 (d8 (cB aE "back_columns" (aa 0)) (aa 1) (ay mL (ab (aj aI (cB aE "back_columns" (aa 0)) (aa 1)) ag)))))
def qM:V8 iL 2 rL iP:=by
 rintro V st K ⟨b,g,a,u,N,w,k,A,U,C,rfl,B,z,v,y,h,T,S,P⟩;show⟨rfl,?_⟩;let O:=z.len;let L:=v.len;let M:=y.len;let R:=Mx.bg z h;let rU:=Mx.bg v h;let Q:=Mx.bg y h;let t:=gw B.eb B.e1;let s:=gw B.eb B.e2;let r:=gw B.eb B.e3;let o:=B.n1;let n:=B.n2;let l:=B.n3;show bo B.eb rfl (az (au B.e1) (cS (by lia)) ?_);show⟨_,A.getD k [],rfl,rfl,by lia,?_⟩;show bo B.eb rfl (fA B.e1 (by rw[Wd,O];show fB h) ?_);rw[iI];let j:∀m,m≠g->(st.set g (.lst ((A.set k ((A.getD k []).map λx=> -x)).map aT)))[m]?=st[m]?:=λm p=>Wf (Wi p);let E:(st.set g (.lst ((A.set k ((A.getD k []).map λx=> -x)).map aT)))[g]?=some (.lst ((Mx.f7 A k).map aT)):=Wn (Wa.mp B.e1).1;let G:(st.set g (.lst ((A.set k ((A.getD k []).map λx=> -x)).map aT))).length=st.length:=Wv;generalize st.set g (.lst ((A.set k ((A.getD k []).map λx=> -x)).map aT))=st1 at j E G⊢;let d:=(j b t).trans B.eb;let f:=(j a (Wi o)).trans B.e2;let q:=(j u (Wi n)).trans B.e3;show bo d rfl (az (au f) (cS (by lia)) ?_);show⟨_,U.getD k [],rfl,rfl,by lia,?_⟩;show bo d rfl (fA f (by rw[Wd,L];show fB h) ?_);rw[iI];let i:∀m,m≠a->(st1.set a (.lst ((U.set k ((U.getD k []).map λx=> -x)).map aT)))[m]?=st1[m]?:=λm p=>Wf (Wi p);let D:(st1.set a (.lst ((U.set k ((U.getD k []).map λx=> -x)).map aT)))[a]?=some (.lst ((Mx.f7 U k).map aT)):=Wn (Wa.mp f).1;let F:(st1.set a (.lst ((U.set k ((U.getD k []).map λx=> -x)).map aT))).length=st1.length:=Wv;generalize st1.set a (.lst ((U.set k ((U.getD k []).map λx=> -x)).map aT))=st2 at i D F⊢;let c:=(i b s).trans d;let e:=(i u (Wi l)).trans q;show bo c rfl (az (au e) (cS (by lia)) ?_);show⟨_,C.getD k [],rfl,rfl,by lia,?_⟩;show bo c rfl (fA e (by rw[Wd,M];show fB h) ?_);rw[iI];show P _ ⟨?_,?_,?_,?_,o,n,l⟩ (by rw[Wv];lia) λm J I H=>?_
 . rw[Wf (Wi r)];show c
 . rw[Wf (Wi n),i _ o];show E
 . rw[Wf (Wi l)];show D
 . show Wn (Wa.mp e).1
 . rw[Wf (Wi H),i m I,j m J]
def gS:bM:=λe st K=>∃(b d a c N w top p:Nat) (A U C:List (List Int)) (f:Bool),e=[.ref b,.int top,.int p]/\Bn st b d a c A U C/\Mx.aQ N w A/\top<=N/\N<=8/\p<w/\w<=9/\st[0]?=some (gE f)/\
 ∀L,Mx.mS A N top p L->K (.lst (L.map λ(k:Nat)=> .int (k:Int))) (st.set 0 (gE true))
def jH:List Str:=["self","top","place","live"]
def uC:DS:=(av (aN 3 (cC (lF (ab (aa 1) (ab (br dD (ab (cB aE "body" (aa 0)) ag)) ag))) [none,some 0,some 2] (ba 0) (aV (aj nj (aj aI (aj aI (cB aE "body" (aa 1)) (aa 0)) (aa 2)) (dC (.int 0)))) (aa 0)))
 (a6 (CC 0 263 ⟨141,32,141,66⟩ "Bench.live_rows.<locals>.<lambda>" [none,some 0,some 2] (br mT (ab (aj aI (aj aI (cB aE "body" (aa 1)) (aa 0)) (aa 2)) ag)) (aa 3))))
def tu{a b:Prop}(h:b):if false=true then a else b:=h
def O_{st:af}{b:Nat}{C:Addr}{fs:List (Str×D)}{f:Bool}(a:st[b]?=some (Cell.ins C fs))(c:st[0]?=some (gE f)):b≠0:=λz=>by rw[z,c]at a;cases a
def tR{st:af}{b:Nat}{xs:List D}{f:Bool}(a:st[b]?=some (Cell.lst xs))(c:st[0]?=some (gE f)):b≠0:=λz=>by rw[z,c]at a;cases a
def Bn.keep{st a:af}{b e c d:Nat}{A U C:List (List Int)}(B:Bn st b e c d A U C)(h:∀m,m=b\/m=e\/m=c\/m=d->a[m]?=st[m]?):Bn a b e c d A U C:=
 ⟨(h b (.inl rfl)).trans B.eb,(h e (.inr (.inl rfl))).trans B.e1,(h c (.inr (.inr (.inl rfl)))).trans B.e2,(h d (.inr (.inr (.inr rfl)))).trans B.e3,B.n1,B.n2,B.n3⟩
def Bn.tab{st:af}{b e a d:Nat}(B:Bn st b e a d A U C)(h:st[0]?=some (gE f))(c:Cell):Bn (st.set 0 c) b e a d A U C:=
 B.keep λm g=>Wf λz=>by
  subst z;rcases g with rfl|rfl|rfl|rfl
  . show O_ B.eb h rfl
  . show tR B.e1 h rfl
  . show tR B.e2 h rfl
  . show tR B.e3 h rfl
def oP{r:List Int}{k:Nat}(h:k<r.length):du (aq r) (k:Int)=some (.int (r.getD k 0)):=by
 show dQ ?_;unfold aq;rw[Wr,Wm h,Mx.aP h];rfl
def fG(A:List (List Int))(N top p:Nat):List Nat:=(List.range (N-top)).filterMap λi=>if Mx.g A (top+i) p≠0 then some (top+i)else none
def yQ{N top p k:Nat}:k∈fG A N top p↔top<=k/\k<N/\Mx.g A k p≠0:=by
 unfold fG;rw[Zn];constructor
 . rintro⟨i,a,e⟩;rw[W4]at a;split at e
   . rename_i h;cases e;show⟨by lia,by lia,h⟩
   . cases e
 . rintro⟨d,c,b⟩;show⟨k-top,W4.mpr (by lia),?_⟩;rw[show top+(k-top)=k by lia,We b]
def pw_filterMap{f:Nat->Option Nat}(h:∀i j a b,i<j->f i=some a->f j=some b->a<b):∀ {l:List Nat},l.Pairwise (· < ·)->(l.filterMap f).Pairwise (· < ·)
 | [],_=>by simp
 |x::l,d=>by
  obtain⟨m,c⟩:=aam.mp d;rw[Zh];split
  . show pw_filterMap h c
  . rename_i a e;show aam.mpr ⟨λb k=>?_,pw_filterMap h c⟩;obtain⟨j,g,n⟩:=Zn.mp k;show h x j a b (m j g) e n
def pw_liveR{N top p:Nat}:(fG A N top p).Pairwise (· < ·):=by
 unfold fG;show pw_filterMap (λi j a b e d c=>?_) List.pairwise_lt_range;split at d
 . split at c
   . cases d;cases c;lia
   . cases c
 . cases d
def zL{f:Nat->Option Nat}(l:List Nat):(l.filterMap f).length<=l.length:=List.length_filterMap_le ..
def ND{N top p:Nat}{b:List (Int×Int)}(c:b.Perm (((fG A N top p).map λ(k:Nat)=>(((Mx.g A k p).natAbs:Nat):Int)).zip ((fG A N top p).map λ(k:Nat)=>(k:Int))))(m:b.Pairwise slt):
 Mx.mS A N top p (b.map λq=>q.2.toNat)/\b.map (λq=>D.int q.2)=(b.map λq=>q.2.toNat).map λ(k:Nat)=>D.int (k:Int):=by
 let g:((fG A N top p).map λ(k:Nat)=>(((Mx.g A k p).natAbs:Nat):Int)).zip ((fG A N top p).map λ(k:Nat)=>(k:Int))=(fG A N top p).map λk=>((((Mx.g A k p).natAbs:Nat):Int),(k:Int)):=by
  show List.zip_map' ..
 rw[g]at c
 let d:∀q∈b,∃k,k∈fG A N top p/\q=((((Mx.g A k p).natAbs:Nat):Int),(k:Int)):=λq a=>by
  obtain⟨k,f,n⟩:=WK.mp (c.mem_iff.mp a);show⟨k,f,n.symm⟩
 show⟨⟨λk=>?_,?_,?_⟩,?_⟩
 . rw[<-yQ];constructor
   . intro h;obtain⟨q,a,e⟩:=WK.mp h;obtain⟨j,f,rfl⟩:=d q a;simp![WC]at e;rw[<-e];show f
   . intro h;show WK.mpr ⟨((((Mx.g A k p).natAbs:Nat):Int),(k:Int)),c.mem_iff.mpr (WK.mpr ⟨k,h,rfl⟩),by simp⟩
 . rw[aax];show m.imp_of_mem λ{x y} l i h=>?_;obtain⟨j,_,rfl⟩:=d x l;obtain⟨k,_,rfl⟩:=d y i;unfold slt at h;simp![WC];lia
 . have e:((fG A N top p).map λk=>((((Mx.g A k p).natAbs:Nat):Int),(k:Int))).map (λq=>q.2.toNat)=fG A N top p:=by
    rw[WL];show(WO λk _=>WC k).trans (List.map_id _)
   let a:=c.map λq=>q.2.toNat;rw[e]at a;show a.nodup_iff.mpr (pw_liveR.imp λh=>WB h)
 . rw[WL];show WO λq a=>?_;obtain⟨j,_,rfl⟩:=d q a;simp
def tE:V8 gS 3 uC jH:=by
 rintro Z st K ⟨b,R,P,Q,N,w,top,p,A,U,C,f,rfl,B,u,X,Y,t,W,v,k⟩;show⟨rfl,?_⟩;let F:=u.len;let a:∀i,i<N->(A.getD i []).length=w:=λi s=>Mx.bg u s;show bo B.eb rfl (cM (au B.e1) ?_);rw[Wd,F];show tX ⟨by lia,by lia,by lia,by lia⟩ ⟨bS (by unfold cT;simp;lia),?_⟩;let M:((N:Int)-(top:Int)).toNat=N-top:=by lia
 rw[M];show i7 (λrest g c=>∃i:Nat,i<=N-top/\c=st/\rest=(List.range (N-top-i)).map (λj=>D.int ((top+i+j:Nat):Int))/\g=((List.range i).filterMap λi=>if Mx.g A (top+i) p≠0 then some (top+i)else none).map λ(k:Nat)=>D.int (k:Int)) ?_ ?_ _ _ _ ⟨0,WU _,rfl,by unfold cT;simp,by simp⟩
 . rintro g c ⟨i,s,rfl,e,rfl⟩
   let r:i=N-top:=by
    rcases YS i (N-top)with z|z
    . rw[show N-top-i=(N-top-i-1)+1 by lia,Xo]at e;cases e
    . lia
   subst r;show⟨trivial,?_⟩;let O:((fG A N top p).map λ(k:Nat)=>D.int (k:Int))=((fG A N top p).map λ(k:Nat)=>(k:Int)).map D.int:=by rw[WL];rfl
   show⟨(fG A N top p).map λ(k:Nat)=>(k:Int),(fG A N top p).map λ(k:Nat)=>(((Mx.g A k p).natAbs:Nat):Int),f,Xl D.lst O,?_,?_,by rw[Wd,Wd],v,λi n q l m=>?_,λS o H=>?_⟩
   . rw[Wd];let:=zL (f:=λi=>if Mx.g A (top+i) p≠0 then some (top+i)else none) (List.range (N-top));rw[Zz]at this;change(fG A N top p).length<64;unfold fG;lia
   . rw[aax];show pw_liveR.imp λh=>by lia
   . rw[Wr]at l m;cases z:(fG A N top p)[i]? with
     |none=>rw[z]at l;cases l
     |some j=>
      rw[z]at l m;cases l;cases m;obtain⟨V,G,T⟩:=yQ.mp (WI z);let E:=B.tab v (gE true);show bo E.eb rfl (az (au E.e1) (cS (by lia)) (az rfl (oP (by rw[a j G];show t)) (mJ ⟨rfl,rfl⟩)))
   . obtain⟨L,J⟩:=ND o H;rw[J];show k _ L
 . rintro d rest g c ⟨i,s,rfl,e,rfl⟩ next
   let I:i<N-top:=by
    rcases YS i (N-top)with z|z
    . show z
    . rw[show N-top-i=0 by lia]at e;cases e
   rw[show N-top-i=(N-top-i-1)+1 by lia,Xo,WJ,WL]at e;obtain⟨rfl,rfl⟩:=List.cons.inj e;show⟨trivial,_,rfl,?_⟩;show bo B.eb rfl (az (au B.e1) (cS (j:=top+i+0) (by lia)) (az rfl (oP (by rw[a _ (by lia)];show t)) ?_));let y:List.range (i+1)=List.range i++[i]:=X5
   let x:((List.range (N-top-i-1)).map ((λj=>D.int ((top+i+j:Nat):Int))∘Nat.succ))=(List.range (N-top-(i+1))).map λj=>D.int ((top+(i+1)+j:Nat):Int):=by
    rw[show N-top-i-1=N-top-(i+1) by lia];show WO λj _=>?_;change D.int ((top+i+(j+1):Nat):Int)=_;rw[show top+i+(j+1)=top+(i+1)+j by lia]
   show ne2 (λh=>?_) λh=>?_
   . show(next _ _ ⟨i+1,by lia,rfl,x,?_⟩);rw[y,abe,Xz];let:Mx.g A (top+i) p≠0:=h;simp[this]
   . show(next _ _ ⟨i+1,by lia,rfl,x,?_⟩);rw[y,abe,Xz];let:Mx.g A (top+i) p=0:=h;simp[this]
structure Bo(n0:Nat)(st st':af)(b xb xu xc:Nat):Prop where
 lo:1<=n0/\n0<=b/\n0<=xb/\n0<=xu/\n0<=xc
 fr:∀m,m<n0->m≠0->st'[m]?=st[m]?
 tb:∃f,st'[0]?=some (gE f)
def lZ:bM:=λl st K=>∃(k b j h i N w top p e u v:Nat) (A0 A U C:List (List Int)) (ld:Nat->Nat),l=[.ref b,.int top,.int p]/\Bn st b j h i A U C/\Bo k st st b j h i/\Mx.g_ A0 N w ⟨A,U,C⟩ top p ld e u v/\N<=8/\w<=9/\p<w/\(N-top+1)*(e+1)<=60000000/\
 (∀a,Bn a b j h i A U C->Bo k st a b j h i->Mx.mS A N top p []->K (.bl false) a)/\
 ∀a g d f (c:Mx.B3) (r:Nat),Bn a b g d f (Mx.setB c p top r).A (Mx.setB c p top r).U (Mx.setB c p top r).C->Bo k st a b g d f->Mx.jP N top p ⟨A,U,C⟩ c->Mx.mS c.A N top p [r]->top<N->
  Mx.yx A0 N w top p (2^((N-top+1)*(e+1))) ⟨A,U,C⟩ (Mx.setB c p top r)->K (.bl true) a
def lY:List Str:=["self","top","place","live","great","small"]
def xZ:DS:=(av (aN 3 (di aE "live_rows" gS (aa 0) (ab (aa 1) (ab (aa 2) ag))))
 (av (su (aV (aj qd (br dD (ab (aa 3) ag)) (dC (.int 1)))) (av (aN 4 (aj aI (aa 3) (iE fe (dC (.int 1)))))
 (av (aN 5 (aj aI (aa 3) (iE fe (dC (.int 2)))))
 (av (eh (di aE "take" i0 (aa 0) (ab (aa 4) (ab (ay gv (ab (aj aI (aj aI (cB aE "body" (aa 0)) (aa 4)) (aa 2)) (ab (aj aI (aj aI (cB aE "body" (aa 0)) (aa 5)) (aa 2)) ag))) (ab (aa 5) ag)))))
 (aN 3 (di aE "live_rows" gS (aa 0) (ab (aa 1) (ab (aa 2) ag))))))))
 (av (cN (aV (aj iZ (br dD (ab (aa 3) ag)) (dC (.int 0)))) (a6 (dC (.bl false))) cz)
 (av (eh (di aE "exchange" ij (aa 0) (ab (aa 1) (ab (aj aI (aa 3) (dC (.int 0))) ag))))
 (av (cN (aV (aj oX (aj aI (aj aI (cB aE "body" (aa 0)) (aa 1)) (aa 2)) (dC (.int 0)))) (eh (di aE "change_sign" iL (aa 0) (ab (aa 1) ag))) cz)
 (a6 (dC (.bl true))))))))
def Bo.PC{st a:af}{b g c d:Nat}(h:Bo i st a b g c d):Bo i st (a.set 0 (gE true)) b g c d:=
 ⟨h.lo,λm k j=>by rw[Wf (Wi j)];show h.fr m k j,true,by
  obtain⟨f,e⟩:=h.tb;show Wn (Wa.mp e).1⟩
def Bo.low{j:Nat}{st c a:af}{b i d g:Nat}(h:Bo j st c b i d g)(f:∀m,m≠i->m≠d->m≠g->a[m]?=c[m]?):Bo j st a b i d g:=by
 obtain⟨r,q,p,o,n⟩:=h.lo;show⟨h.lo,λm k l=>?_,?_⟩
 . rw[f m (by lia) (by lia) (by lia)];show h.fr m k l
 . obtain⟨z,e⟩:=h.tb;show⟨z,by rw[f 0 (by lia) (by lia) (by lia)];show e⟩
def xY{X:List (List Int)}{N w top m i:Nat}(f:Mx.aQ N w X)(h:Mx.iA X N top m)(b:top<=i)(e:i<N):∀x∈X.getD i [],x.natAbs<=m:=λx a=>by
 obtain⟨c,d,rfl⟩:=WV.mp a;let:=h i c b e;unfold Mx.g at this;rwa [Mx.aP d]at this
def Bw(h:1<=j)(a:j<=n):ki n (-(j:Int))=some (n-j):=by
 unfold ki;rw[Wc (by lia),We (by lia)];congr 1;lia
def Sq{j k:Nat}:du ((L++[j,k]).map λ(k:Nat)=>D.int (k:Int)) (-1)=some (.int (k:Int)):=by
 unfold du;let:=Bw (n:=((L++[j,k]).map λ(k:Nat)=>D.int (k:Int)).length) (j:=1) (by decide) (by simp);rw[show(-((1:Nat):Int))= -1 from rfl]at this;rw[this];simp
def Sj{j k:Nat}:du ((L++[j,k]).map λ(k:Nat)=>D.int (k:Int)) (-2)=some (.int (j:Int)):=by
 unfold du;let:=Bw (n:=((L++[j,k]).map λ(k:Nat)=>D.int (k:Int)).length) (j:=2) (by decide) (by simp);rw[show(-((2:Nat):Int))= -2 from rfl]at this;rw[this];simp
def Kz:∀ {L:List Nat},1<L.length->∃M j k,L=M++[j,k]:=λ{L} h=>by
 show⟨L.take (L.length-2),L[L.length-2]'(by lia),L[L.length-1]'(by lia),?_⟩;let b:L=L.take (L.length-2)++L.drop (L.length-2):=(aa7 _ _).symm
 let a:L.drop (L.length-2)=[L[L.length-2]'(by lia),L[L.length-1]'(by lia)]:=by
  rw[WG (by lia),WG (by lia),Yo (by lia)];congr 2;congr 1;lia
 rw[<-a];show b
def wQ:V8 lZ 3 xZ lY:=by
 rintro ds st K ⟨n0,b,E,t,y,N,w,top,p,e,u,v,A0,A,U,C,ld,rfl,B,O,S,hN,hw,V,hz,kf,kt⟩;show⟨rfl,?_⟩;let ah:=S.le;obtain⟨f,h0⟩:=O.tb;show df B.eb rfl ?_;show⟨b,E,t,y,N,w,top,p,A,U,C,f,rfl,B,S.tn.isA,ah,hN,V,hw,h0,λL d=>?_⟩;let B1:=B.tab h0 (gE true);let O1:=O.PC;try dsimp only[ag]
 show tZ (λσ n=>∃(L:List Nat) (Q P:Option D) (c:Mx.B3) (o:Nat),σ=[some (.ref b),some (.int top),some (.int p),some (.lst (L.map λ(k:Nat)=> .int (k:Int))),Q,P]/\L.length<=1/\Bn n b E t y c.A c.U c.C/\Bo n0 st n b E t y/\Mx.jP N top p ⟨A,U,C⟩ c/\Mx.uH A0 N w top p (2^e) ⟨A,U,C⟩ c o/\Mx.mS c.A N top p L) (λnx aK=>?_) ?_
 . show⟨λm σ n=>∃(L:List Nat) (Q P:Option D) (c:Mx.B3) (o:Nat),σ=[some (.ref b),some (.int top),some (.int p),some (.lst (L.map λ(k:Nat)=> .int (k:Int))),Q,P]/\Bn n b E t y c.A c.U c.C/\Bo n0 st n b E t y/\Mx.jP N top p ⟨A,U,C⟩ c/\Mx.uH A0 N w top p (2^e) ⟨A,U,C⟩ c o/\Mx.mS c.A N top p L/\m=Mx.mu c.A N p,⟨_,L,none,none,⟨A,U,C⟩,1,rfl,B1,O1,.refl _,S.VX,d,rfl⟩,?_⟩;rintro m σ g ⟨L,Q,P,c,o,rfl,B,O,hR,l,d,rfl⟩;show cM rfl ?_;rw[Wd];show HD (λh=>eH ?_) λh=>tu (aK _ _ ⟨L,Q,P,c,o,rfl,by lia,B,O,hR,l,d⟩);obtain⟨M,j,k,rfl⟩:=Kz (L:=L) (by lia);show d7 (az rfl Sq (d7 (az rfl Sj ?_)));obtain⟨G2,Z,X,k1,k2,j1,j2,bl,aX⟩:=l.step V d;let T:=l.tn;let lA:=T.isA.len;let a:=G2.low S.lo.1;show df B.eb rfl (bo B.eb rfl (az (au B.e1) (cS (by lia)) (az rfl (oP (by rw[Mx.bg T.isA k2];show V)) (bo B.eb rfl (az (au B.e1) (cS (by lia)) (az rfl (oP (by rw[Mx.bg T.isA j2];show V)) ?_))))));show⟨_,_,rfl,aX,?_⟩
   let hq:(Mx.qn (Mx.g c.A k p) (Mx.g c.A j p)).natAbs<=2^((N-top+1)*(e+1)):=by
    show Wj ?_ a;let a1:=l.pos;let a2:1<=2^e:=Y1;let a3:1*(Mx.qn (Mx.g c.A k p) (Mx.g c.A j p)).natAbs<=o*(1+(Mx.qn (Mx.g c.A k p) (Mx.g c.A j p)).natAbs):=Xk a1 (by lia);let a4:=Xk a2 a3;lia
   let G:2^e*o<=2^((N-top+1)*(e+1)):=l.low S.lo.1
   let Y:∀ {x:Int},x.natAbs<=2^e*o->IntMulOk (Mx.qn (Mx.g c.A k p) (Mx.g c.A j p)) x/\IntMulOk (-(Mx.qn (Mx.g c.A k p) (Mx.g c.A j p))) x:=λ{x} h=>
    ⟨kr hq (Wj h G) (by lia),kr (by rw[Yg];show hq) (Wj h G) (by lia)⟩
   show⟨b,E,t,y,N,w,k,j,c.A,c.U,c.C,_,rfl,B,T.isA,T.cA,T.cH,k2,j2,hN,hw,λx G=>(Y (xY T.isA l.lA j1 j2 x G)).2,λx G=>(Y (xY T.cA l.lU j1 j2 x G)).2,λx G=>(Y (xY T.cH l.lC k1 k2 x G)).1,λH s l2 f2=>?_⟩;let O2:=O.low f2;obtain⟨f',ao⟩:=O2.tb;show df s.eb rfl ?_;show⟨b,E,t,y,N,w,top,p,_,_,_,f',rfl,s,G2.tn.isA,ah,hN,V,hw,ao,λL2 a0=>?_⟩;show⟨_,?_,L2,_,_,Mx.kJ c p k j,_,rfl,s.tab ao (gE true),O2.PC,hR.tail ⟨M,k,j,d,rfl⟩,G2,a0,rfl⟩;unfold Mx.mu;show Mx.MM (k:=k) Z k2 λi hi=>?_;by_cases h:i=k
   . rw[h];show Ys Z
   . rw[X i h];show Wg _
 . rintro σ g ⟨L,Q,P,c,o,rfl,hl,B,O,hR,l,d⟩;show cM rfl ?_;rw[Wd];match L,hl,d with
   | [],_,d=>
     show eq2 (λh=>eH ?_) λh=>absurd rfl h
     let e0:c=⟨A,U,C⟩:=by
      rcases l.Tf with z|⟨j,J,I,h3⟩
      . show z
      . show absurd ((d.mem j).mpr ⟨J,I,h3⟩) (by simp)
     subst e0;show kf g B O d
   | [r],_,d=>
     show eq2 (λh=>absurd h (by simp)) λh=>tu ?_;obtain⟨F,bb,W⟩:=l.set d;let R:top<N:=by lia
     let T:=l.tn
     let s2:Mx.yx A0 N w top p (2^((N-top+1)*(e+1))) ⟨A,U,C⟩ (Mx.setB c p top r):=by
      let a:=l.low S.lo.1;show⟨F.tn,F.up,⟨λi q J I=>Wj (F.lo.1 i q J I) a,λi q J I=>Wj (F.lo.2.1 i q J I) a,λi q J I=>Wj (F.lo.2.2 i q J I) a⟩,F.zs,F.tp,F.z1⟩
     show df B.eb rfl (az rfl (show du ([r].map λ(k:Nat)=>D.int (k:Int)) 0=some (.int (r:Int))from rfl) ?_);show⟨b,E,t,y,N,w,top,r,c.A,c.U,c.C,rfl,B,T.isA,T.cA,T.cH,R,W,λH s l2 f2=>?_⟩;obtain⟨l1,aD,l3,l4,l5⟩:=O.lo
     let a5:n0<=g.length:=by
      let:=(Wa.mp B.eb).1;lia
     let O2:Bo n0 st H b g.length (g.length+1) (g.length+2):=by
      show⟨⟨l1,aD,by lia,by lia,by lia⟩,λm Y h0=>?_,?_⟩
      . rw[f2 m (by lia) (by lia)];show O.fr m Y h0
      . obtain⟨z,e⟩:=O.tb;show⟨z,by rw[f2 0 (by lia) (by lia)];show e⟩
     let T1:=T.MW R W;show bo s.eb rfl (az (au s.e1) (cS (by let:=T1.isA.len;lia)) (az rfl (oP (by rw[Mx.bg T1.isA R];show V)) ?_));show IY (λh=>eH ?_) λh=>tu ?_
     . have es:Mx.setB c p top r=⟨Mx.f7 (Mx.aW c.A top r) top,Mx.f7 (Mx.aW c.U top r) top,Mx.f7 (Mx.aW c.C top r) top⟩:=We h;show df s.eb rfl ?_;show⟨b,_,_,_,N,w,top,_,_,_,rfl,s,T1.isA,T1.cA,T1.cH,R,hN,hw,λar B3 l3 f3=>?_⟩;show kt ar _ _ _ c r (by rw[es];show B3) (O2.low f3) hR d R s2
     . have es:Mx.setB c p top r=⟨Mx.aW c.A top r,Mx.aW c.U top r,Mx.aW c.C top r⟩:=Wc (λz=>by unfold Mx.g at z;lia);show kt H _ _ _ c r (by rw[es];show s) O2 hR d R s2
def iO:bM:=λg st K=>∃(b f c d N w top p e u v:Nat) (A0 A U C:List (List Int)),g=[.ref b,.int top,.int p]/\Bn st b f c d A U C/\Mx.Tn A0 A U C N w/\N<=8/\w<=9/\p<w/\top<N/\0<Mx.g A top p/\(∀q,q<p->Mx.g A top q=0)/\
 (∀q,(Mx.g A top q).natAbs<=2^e/\(Mx.g U top q).natAbs<=2^e/\(Mx.g C top q).natAbs<=2^e)/\(∀i q,i<top->(Mx.g A i q).natAbs<=2^u/\(Mx.g U i q).natAbs<=2^u/\(Mx.g C i q).natAbs<=2^v)/\u+e<=125000000/\u+v<=125000000/\
 ∀a,Bn a b f c d (Mx.f9 p top top ⟨A,U,C⟩).A (Mx.f9 p top top ⟨A,U,C⟩).U (Mx.f9 p top top ⟨A,U,C⟩).C->(∀m,m≠f->m≠c->m≠d->a[m]?=st[m]?)->Mx.ny A0 N w top p e u v ⟨A,U,C⟩ top (Mx.f9 p top top ⟨A,U,C⟩)->K .aD a
def iK:List Str:=["self","top","place","k"]
def rK:DS:=(eQ (cR (ab (aa 1) ag)) (ba 3) (eh (di aE "take" i0 (aa 0) (ab (aa 3) (ab (aj qb (aj aI (aj aI (cB aE "body" (aa 0)) (aa 3)) (aa 2)) (aj aI (aj aI (cB aE "body" (aa 0)) (aa 1)) (aa 2))) (ab (aa 1) ag))))))
def FV{X:List (List Int)}(a:x∈X.getD i []):∃q,x=Mx.g X i q:=by
 obtain⟨c,b,rfl⟩:=WV.mp a;show⟨c,by unfold Mx.g;rw[Mx.aP b]⟩
def qS:V8 iO 3 rK iK:=by
 rintro ds st K ⟨b,y,s,t,N,w,top,p,e,u,v,A0,A,U,C,rfl,B,T,Y,V,G,E,n,S,d,h,he,hu,R⟩;show⟨rfl,?_⟩;show dZ ⟨by lia,by lia⟩ ?_;rw[WC];show gj top (λk σ a=>∃z:Option D,σ=[some (.ref b),some (.int top),some (.int p),z]/\Bn a b y s t (Mx.f9 p top k ⟨A,U,C⟩).A (Mx.f9 p top k ⟨A,U,C⟩).U (Mx.f9 p top k ⟨A,U,C⟩).C/\(∀m,m≠y->m≠s->m≠t->a[m]?=st[m]?)/\Mx.ny A0 N w top p e u v ⟨A,U,C⟩ k (Mx.f9 p top k ⟨A,U,C⟩)) ?_ ?_ ⟨none,rfl,B,λ_ _ _ _=>rfl,Mx.ny.start T λq=>(d q).2.2⟩
 . rintro σ a ⟨z,rfl,g,f,I⟩;show R a g f I
 . rintro k σ a rest H ⟨z,rfl,g,f,I⟩ next
   show⟨_,rfl,?_⟩;let W:=I.step H E G n S (λq=>⟨(d q).1,(d q).2.1⟩) h;generalize X:Mx.f9 p top k ⟨A,U,C⟩=c at*;let lA:=I.tn.isA.len;let J:k<N:=by lia
   let r:∀i q,k<=i->Mx.g c.A i q=Mx.g A i q:=λi q o=>by unfold Mx.g;rw[(I.rA i o).1]
   let Z:∀i q,k<=i->Mx.g c.U i q=Mx.g U i q:=λi q o=>by unfold Mx.g;rw[(I.rA i o).2]
   let gC:∀i q,i≠top->Mx.g c.C i q=Mx.g C i q:=λi q o=>by unfold Mx.g;rw[I.rC i o]
   let F:((Mx.g c.A k p).fdiv (Mx.g c.A top p)).natAbs<=2^u:=by
    rw[r k p (Wg _),r top p (by lia)];show Wj (Mx.BR _ n) (h k p H).1
   let l:Mx.g c.A top p≠0:=by rw[r top p (by lia)];lia
   show df g.eb rfl (bo g.eb rfl (az (au g.e1) (cS (by lia)) (az rfl (oP (by rw[Mx.bg I.tn.isA J];show G)) (bo g.eb rfl (az (au g.e1) (cS (by lia)) (az rfl (oP (by rw[Mx.bg I.tn.isA E];show G)) (BP l ?_)))))));show⟨b,y,s,t,N,w,k,top,c.A,c.U,c.C,_,rfl,g,I.tn.isA,I.tn.cA,I.tn.cH,J,E,Y,V,λx j=>?_,λx j=>?_,λx j=>?_,λQ B2 l2 f2=>?_⟩
   . obtain⟨q,rfl⟩:=FV j;rw[r top q (by lia)];show kr (by rw[Yg];show F) (d q).1 (by lia)
   . obtain⟨q,rfl⟩:=FV j;rw[Z top q (by lia)];show kr (by rw[Yg];show F) (d q).2.1 (by lia)
   . obtain⟨q,rfl⟩:=FV j;rw[gC k q (by lia)];show kr F (h k q H).2.2 (by lia)
   . have P:Mx.f9 p top (k+1) ⟨A,U,C⟩=⟨Mx.aO c.A k ((Mx.g c.A k p).fdiv (Mx.g c.A top p)) top,Mx.aO c.U k ((Mx.g c.A k p).fdiv (Mx.g c.A top p)) top,Mx.aO c.C top (-((Mx.g c.A k p).fdiv (Mx.g c.A top p))) k⟩:=by rw[<-X];rfl
     show next _ _ ⟨_,rfl,?_,λm O M L=>(f2 m O M L).trans (f m O M L),?_⟩
     . rw[P];show B2
     . rw[P];show W
structure Bk(st st':af):Prop where
 le:st.length<=st'.length
 fr:∀m,m<st.length->m≠0->st'[m]?=st[m]?
 tb:∃f,st'[0]?=some (gE f)
def ju:bM:=λb st K=>∃(d:D) (N w e0:Nat) (A:List (List Int)) (f:Bool),b=[d]/\d_ st d A/\Mx.aQ N w A/\1<=N/\N<=8/\w<=9/\Mx.iA A N 0 (2^e0)/\e0<60000000/\Mx.Rm N w e0/\st[0]?=some (gE f)/\
 ∀a (top:Nat) (c:Mx.B3) (ld:Nat->Nat),Mx.yw A N w top c->Mx.g_ A N w c top w ld (Mx.Ez N e0 top) (Mx.Uz N e0 top) (Mx.Cz N e0 top)->Bk st a->K (.tup [bq (c.A.take top),bq c.U,bq (Mx.fR c.C N)]) a
def wH:List Str:=["rows","bench","top","place","back"]
def Gq:DS:=(av (aN 1 (wN aE hJ (ab (aa 0) ag)))
 (av (aN 2 (dC (.int 0)))
 (av (eQ (cR (ab (br dD (ab (aj aI (aa 0) (dC (.int 0))) ag)) ag)) (ba 3) (cN (aV (di aE "gather" lZ (aa 1) (ab (aa 2) (ab (aa 3) ag)))) (av (eh (di aE "lower_above" iO (aa 1) (ab (aa 2) (ab (aa 3) ag))))
 (Bv 2 (wO (λi j=>i+j)) (dC (.int 1)))) cz))
 (av (aN 4 (ay jW (ab (cB aE "back_columns" (aa 1)) (ab (br dD (ab (aa 0) ag)) ag))))
 (a6 (kX (ab (ay i4 (ab (lp (cB aE "body" (aa 1)) kb (mi (aa 2))) ag)) (ab (ay i4 (ab (cB aE "turn" (aa 1)) ag)) (ab (aa 4) ag)))))))))
def zu{st a:af}(c:st[0]?=some (gE f))(fr:∀m,m<st.length->m≠0->a[m]?=st[m]?)(h:items? st d=some xs):items? a d=some xs:=by
 cases d with
 |ref n=>
  have e:=sR h;let b:n≠0:=tR e c;rw[au ((fr n (Wa.mp e).1 b).trans e)]
 |_=>show h
def yW{st a:af}(b:st[0]?=some (gE f))(fr:∀m,m<st.length->m≠0->a[m]?=st[m]?):∀ {c:List D} {A:List (List Int)},bH st c A->bH a c A
 | [],[],_=>trivial
 |_::_,_::_,h=>⟨zu b fr h.1,yW b fr h.2⟩
def xk{st a:af}(b:st[0]?=some (gE f))(fr:∀m,m<st.length->m≠0->a[m]?=st[m]?)(h:d_ st d A):d_ a d A:=by
 obtain⟨g,e,c⟩:=h.ex;show⟨g,zu b fr e,yW b fr c⟩
def Qu{xs:List D}{j:Nat}:L3.cutD xs none (some (j:Int))=xs.take j:=by
 unfold L3.cutD;rw[HT.yb,HT.qD,abc,aaP];by_cases h:j<=xs.length
 . rw[Zm h]
 . rw[Nat.min_eq_right (by lia),List.take_length,X_ (by lia)]
def D0:V8 ju 1 Gq wH:=by
 rintro ds st K ⟨d,N,w,b,A,f,rfl,hd,hA,bB,Z,hw,aD,a0,v,h0,kk⟩;show⟨rfl,?_⟩;let lA:=hA.len;let W:0<st.length:=(Wa.mp h0).1;let a5:d_ (st++[Cell.ins aE []]) d A:=xk h0 (λm P _=>Wh P) hd;show⟨st.length,N,d,A,rfl,by simp,a5,lA,Z,λu B1 l1 f1=>⟨rfl,?_⟩⟩;let aK:(st++[Cell.ins aE []]).length=st.length+1:=by simp
 let X:∀m,m<st.length->u[m]?=st[m]?:=λm P=>by rw[f1 m (by lia) (by lia),Wh P]
 let O1:Bo st.length st u st.length (st.length+1) (st.length+1+1) (st.length+1+2):=⟨⟨W,by lia,by lia,by lia,by lia⟩,λm P _=>X m P,f,(X 0 W).trans h0⟩
 rw[aK]at B1;let Q:∀ {a:af},(∀m,m<st.length->m≠0->a[m]?=st[m]?)->d_ a d A:=λh=>xk h0 h hd;obtain⟨da,a4,M⟩:=(Q O1.fr).ex;let bA:=M.len
 let F:∃d0,da[0]?=some d0/\items? u d0=some (aq (A.getD 0 [])):=by
  let G:0<da.length:=by lia
  obtain⟨r,e1,e2⟩:=bH.get M (Wm G);show⟨da[0],Wm G,?_⟩;let:A.getD 0 []=r:=by rw[Wo,e1];rfl
  rw[this];show e2
 obtain⟨d0,bb,aX⟩:=F;let er:(aq (A.getD 0 [])).length=w:=by unfold aq;rw[Wd];show Mx.bg hA (by lia)
 try dsimp only[ag]
 show tZ (A:=aN 2 _) (λσ a=>σ=[some d,some (.ref st.length),some (.int 0),none,none]/\a=u) (λnx h=>h _ _ ⟨rfl,rfl⟩) ?_;rintro _ _ ⟨rfl,rfl⟩;show tZ (A:=eQ _ _ _) (λσ a=>∃(top l g k:Nat) (E:Option D) (c:Mx.B3) (n:Nat->Nat),σ=[some d,some (.ref st.length),some (.int top),E,none]/\Bn a st.length l g k c.A c.U c.C/\Bo st.length st a st.length l g k/\Mx.yw A N w top c/\Mx.g_ A N w c top w n (Mx.Ez N b top) (Mx.Uz N b top) (Mx.Cz N b top)) (λnx ar=>?_) ?_
 . show az a4 (show du da 0=some d0 from dQ (j:=0) bb) (cM aX ?_);rw[er];show dZ ⟨by lia,by lia⟩ ?_;rw[WC];show gj w (λp σ a=>∃(top l g k:Nat) (E:Option D) (c:Mx.B3) (n:Nat->Nat),σ=[some d,some (.ref st.length),some (.int top),E,none]/\Bn a st.length l g k c.A c.U c.C/\Bo st.length st a st.length l g k/\Mx.yw A N p top c/\Mx.g_ A N w c top p n (Mx.Ez N b top) (Mx.Uz N b top) (Mx.Cz N b top)) ?_ ?_ ⟨0,_,_,_,none,⟨A,Mx.units N,Mx.units N⟩,λ_=>0,rfl,B1,O1,.start,Mx.g_.start hA aD⟩
   . rintro σ a ⟨top,l,g,k,E,c,n,rfl,B,O,J,S⟩;show ar _ _ ⟨top,l,g,k,E,c,n,rfl,B,O,J,S⟩
   . rintro p σ a rest Y ⟨top,l,g,k,E,c,n,rfl,B,O,J,S⟩ next
     show⟨_,rfl,?_⟩;let bu:=S.le
     let ah:(N-top+1)*(Mx.Ez N b top+1)<=60000000:=by
      let MP:=S.MP;by_cases o:top<N
      . show Ys (v top o (by lia)).1
      . have e:N-top=0:=by lia
        rw[e]
        let:Mx.Ez N b top<60000000:=by
         cases top with
         |zero=>show a0
         |succ t=>show(v t (by lia) (by lia)).1
        lia
     show df B.eb rfl ?_;show⟨st.length,st.length,l,g,k,N,w,top,p,_,_,_,A,c.A,c.U,c.C,n,rfl,B,⟨O.lo,λ_ _ _=>rfl,O.tb⟩,S,Z,hw,Y,ah,λs B2 H hL=>?_,λs C y z c2 r B2 H hR hL o x=>?_⟩
     . show tu (next _ _ ⟨top,l,g,k,_,c,n,rfl,B2,⟨H.lo,λm V U=>(H.fr m V U).trans (O.fr m V U),H.tb⟩,.next J (.none hL),S.skip hL⟩)
     . show eH ?_;let O2':Bo st.length st s st.length C y z:=⟨H.lo,λm V U=>(H.fr m V U).trans (O.fr m V U),H.tb⟩
       let ao:∀i q,i<top->Mx.g (Mx.setB c2 p top r).A i q=Mx.g c.A i q/\Mx.g (Mx.setB c2 p top r).U i q=Mx.g c.U i q/\Mx.g (Mx.setB c2 p top r).C i q=Mx.g c.C i q:=λi q G=>by
        obtain⟨a1,a2,a3⟩:=x.up i G;unfold Mx.g;rw[a1,a2,a3];show⟨rfl,rfl,rfl⟩
       show df B2.eb rfl ?_;show⟨st.length,C,y,z,N,w,top,p,Mx.Ez N b (top+1),Mx.Uz N b top,Mx.Cz N b top,A,_,_,_,rfl,B2,x.tn,Z,hw,Y,o,x.tp,λq hq=>x.zs top q (Wg _) o hq,λq=>⟨x.lo.1 top q (Wg _) o,x.lo.2.1 top q (Wg _) o,x.lo.2.2 top q (Wg _) o⟩,λi q G=>?_,Wj (v top o (Xf S.MP Y)).2.1 (by decide),Wj (v top o (Xf S.MP Y)).2.2 (by decide),λbl B3 f3 I=>?_⟩
       . obtain⟨a1,a2,a3⟩:=ao i q G;rw[a1,a2,a3];show S.hi i q G
       . have hS:=Mx.yx.xr (e':=Mx.Ez N b (top+1)) (u':=Mx.Uz N b (top+1)) (v':=Mx.Cz N b (top+1)) S x o I Z (Wg _) (by change _<=Mx.Uz N b top+Mx.Cz N b top+Mx.Ez N b (top+1)+4;lia) (by change _<=Mx.Uz N b top+Mx.Cz N b top+Mx.Ez N b (top+1)+4;lia);show next _ _ ⟨top+1,C,y,z,_,_,_,rfl,B3,O2'.low f3,.next J (.one hR hL),hS⟩
 . rintro σ s ⟨top,l,g,k,E,c,n,rfl,B,O,J,S⟩;let T:=S.tn;let lN:=T.isA.len;show bo B.eb rfl ?_;obtain⟨bC,R,L⟩:=(Q O.fr).ex;show cM R ?_;rw[L.len,lA];show⟨_,c.C,N,rfl,⟨_,au B.e3,bH.lst⟩,T.cH.eJ,by rw[T.cH.len];lia,by lia,?_⟩;show bo B.eb rfl (ku B.e1 ?_);rw[Qu,<-ZI];show⟨_,c.A.take top,rfl,⟨_,rfl,bH.lst⟩,by rw[Yc];lia,?_⟩;show bo B.eb rfl ?_;show⟨_,c.U,rfl,⟨_,au B.e2,bH.lst⟩,by rw[T.cA.len];lia,?_⟩;show⟨by change 3<=sizeLine;decide,?_⟩;show kk s top c n J S ⟨?_,O.fr,O.tb⟩;let:=(Wa.mp B.eb).1;lia
def Nx{t b:Int}(m:b≠0):vZ t b*b=t*f9 t b/\(vZ t b).natAbs<=t.natAbs/\(f9 t b).natAbs<=b.natAbs:=by
 let h:Nat.gcd t.natAbs b.natAbs≠0:=λz=>by
  let:=ZR z;lia
 let a:((Nat.gcd t.natAbs b.natAbs:Nat):Int)≠0:=by lia
 let j:=zp t b;let i:=zf t b;unfold vZ f9;generalize f:(if b<0 then(-1:Int)else 1)=s;let c:s= -1\/s=1:=by rw[<-f];split<;>simp
 generalize Nat.gcd t.natAbs b.natAbs=g at*;obtain⟨d,rfl⟩:=j;obtain⟨e,rfl⟩:=i;let l:(s*((g:Int)*d)).fdiv (g:Int)=s*d:=by rw[XN,XW _ a]
 let k:(s*((g:Int)*e)).fdiv (g:Int)=s*e:=by rw[XN,XW _ a]
 rw[l,k]
 let q:∀x:Int,(s*x).natAbs<=((g:Int)*x).natAbs:=λx=>by
  rw[W0,W0,Yv];let:s.natAbs=1:=by rcases c with rfl|rfl<;>rfl
  rw[this];show Xm _ (by lia)
 show⟨by grind,q _,q _⟩
def OQ(a:b≠0):0<f9 t b:=by
 let h:=lJ (t:=t) a;unfold j4 EY at h
 let:f9 t b=(((Rat.divInt t b).den:Nat):Int):=by
  injection h with h;injection h with _ h;injection h with h _;injection h
 rw[this];let:=(Rat.divInt t b).den_pos;lia
def jG:bM:=λa st K=>∃(t b:Int),a=[j4 t b]/\0<b/\K (.bl (decide (2*((t.natAbs:Nat):Int)<=b))) st
def ni:List Str:=["share"]
def uA:DS:=(a6 (aj Je (aj bG (dC (.int 2)) (br mT (ab (aj aI (aa 0) (dC (.int 0))) ag))) (aj aI (aa 0) (dC (.int 1)))))
def sQ:V8 jG 1 uA ni:=by
 rintro f st K ⟨t,b,rfl,a,k⟩;show⟨rfl,?_⟩;let d:=OQ (t:=t) (b:=b) (by lia);let c:=(Nx (t:=t) (b:=b) (by lia)).1;let e:decide (2*(((vZ t b).natAbs:Nat):Int)<=f9 t b)=decide (2*((t.natAbs:Nat):Int)<=b):=YN.mpr (Mx.Lu a d c);rw[<-e]at k;show az rfl rfl (mJ (bE (d4 (by decide) (by decide)) (az rfl rfl (Sl k))))
def ll:bM:=λd st K=>∃(a b c l:Int),d=[j4 a b,j4 l b,j4 b c]/\0<b/\0<c/\a.natAbs<2^745/\b.natAbs<2^652/\c.natAbs<2^652/\l.natAbs<2^652/\K (.bl (decide (4*a*c<3*b*b-4*l*l))) st
def oZ:List Str:=["square","share","ahead"]
def wa:DS:=(a6 (ay vW (ab (aa 0) (ab (ay tT (ab (ay yg (ab (ay oy (ab (dC (.int 3)) (ab (dC (.int 4)) ag))) (ab (ay tT (ab (aa 1) (ab (aa 1) ag))) ag))) (ab (aa 2) ag))) ag))))
def vb:V8 ll 3 wa oZ:=by
 rintro v st K ⟨a,b,c,l,rfl,u,t,q,h,p,o,k⟩;show⟨rfl,?_⟩;let d:b≠0:=by lia
 let e:c≠0:=by lia
 let g:b.natAbs<2^745:=WA h (Ws (by decide) (by decide));let s:=Sz.of d q g;let f:=Sz.of d o h;let n:=Sz.of e h p;let m:Sz (Rat.divInt 3 4) 3:=Sz.of (by decide) (by decide) (by decide);let j:=f.mul f;let i:=m.sub j;let r:=i.mul n;rw[lJ d,lJ d,lJ e];rw[<-YN.mpr (Mx.Ju (a:=a) (l:=l) u t)]at k;show⟨3,4,rfl,by decide,by decide,?_⟩;rw[lJ (by decide)];show⟨_,_,_,_,rfl,Fq.tup f (by decide),Fq.tup f (by decide),?_⟩;show⟨_,_,_,_,rfl,Fq.tup m (by decide),Fq.tup j (by decide),?_⟩;show⟨_,_,_,_,rfl,Fq.tup i (by decide),Fq.tup n (by decide),?_⟩;show⟨_,_,_,_,rfl,Fq.tup s (by decide),Fq.tup r (by decide),k⟩
def qA:bM:=λb st K=>∃(A:List (List Int)) (N w:Nat) (dA:D),b=[dA]/\d_ st dA A/\St A N w/\(∀k,k<=N->Mx.D k (Mx.ae A)≠0)/\(Mx.Sh (Mx.ae A) N->∀a,Ext st a->K (.bl true) a)/\(¬Mx.Sh (Mx.ae A) N->∀a,Ext st a->K (.bl false) a)
def wX:List Str:=["steps","told","squares","own"]
def Gy:DS:=(av (aN 1 (ay vm (ab (aa 0) ag)))
 (av (aN 2 (aj aI (aa 1) (dC (.int 0))))
 (av (eQ (dy (aj aI (aa 1) (dC (.int 1)))) (ba 3) (cN (dP (aV (br tH (ab (cC (dy (aa 3)) [none] (ba 0) bN (ay jG (ab (aa 0) ag))) ag)))) (a6 (dC (.bl false))) cz))
 (a6 (xj (aV (br CW (ab (cC (lF (ab (dC (.int 1)) (ab (br dD (ab (aa 2) ag)) ag))) [none,some 2,some 1] (ba 0) bN (ay ll (ab (aj aI (aa 1) (aa 0)) (ab (aj aI (aj aI (aj aI (aa 2) (dC (.int 1))) (aa 0)) (aj cY (aa 0) (dC (.int 1)))) (ab (aj aI (aa 1) (aj cY (aa 0) (dC (.int 1)))) ag))))) ag))))))))
def Gm.Db(h:Gm G n)(a:p<=n):(Mx.D p G).natAbs<2^745:=Xf (h.D a) (XH (by decide) (by decide))
def Gm.Dc(h:Gm G n)(f:p<n):(Mx.D p G).natAbs<2^652:=by
 obtain⟨b,a,_,d,i⟩:=h.ex;show Xf (Wj (Mx.qp (by let:=h.le;lia) λr c e g=>a r c (by lia) (by lia)) (Wj (Ws (by lia) (by lia)) d)) (XH (by decide) (by decide))
def Gm.lb(h:Gm G n)(a:i<n)(e:p+1<n):(Mx.lam G i p).natAbs<2^652:=by
 obtain⟨b,c,_,d,f⟩:=h.ex;show Xf (Wj (Mx.Bm h.le c (by lia) a (by lia)) (Wj (Ws (by lia) (by lia)) d)) (XH (by decide) (by decide))
def uW{f:Nat->Bool}(n:Nat):gp ((List.range n).map λj=>D.bl (f j))=some ((List.range n).map f):=by
 let h:=sf (f:=λd=>match d with| .int j=>f j.toNat|_=>false) ((List.range n).map λ(j:Nat)=>D.int ((j:Nat):Int));rw[WL,WL]at h;show h
def DF:V8 qA 1 Gy wX:=by
 rintro U st K ⟨A,N,w,H,rfl,M,y,F,I,C⟩;show⟨rfl,?_⟩;let n:=y.gm;let S:=n.le;let r:=Mx.jX y.is F;show⟨A,N,w,H,rfl,M,y,F,λp B=>?_⟩;show az rfl rfl (az rfl rfl (fw ?_));show e7 (λrest σ k=>k=p/\∃(q:Nat) (o:Option D),q<=N/\rest=(Rj (Mx.ae A) N).drop q/\σ=[some H,some (.tup [.tup (Cp (Mx.ae A) N),.tup (Rj (Mx.ae A) N)]),some (.tup (Cp (Mx.ae A) N)),o]/\∀i j,j<i->i<q->2*(((Mx.lam (Mx.ae A) i j).natAbs:Nat):Int)<=Mx.D (j+1) (Mx.ae A)) ?_ ?_ _ _ _ ⟨rfl,0,none,WU _,rfl,rfl,λi j _ h=>by lia⟩
 . rintro σ k ⟨rfl,q,o,J,a,rfl,u⟩
   let f:q=N:=by
    let:=Xl List.length a;simp at this;lia
   subst f;show⟨trivial,?_⟩;show cM rfl (tX ⟨by decide,by decide,by rw[Wd,Zz];lia,by rw[Wd,Zz];lia⟩ ⟨bS (by rw[dM];simp;lia),?_⟩)
   let O:cT 1 ((((Cp (Mx.ae A) q).length:Nat):Int)-1).toNat=(List.range (q-1)).map λm=>D.int ((m+1:Nat):Int):=by
    unfold cT;let:((((Cp (Mx.ae A) q).length:Nat):Int)-1).toNat=q-1:=by rw[Wd,Zz];lia
    rw[this];show WO λm _=>?_;congr 1;lia
   rw[O];show i5 (h:=λm=> .bl (decide (4*Mx.D (m+2) (Mx.ae A)*Mx.D m (Mx.ae A)<3*Mx.D (m+1) (Mx.ae A)*Mx.D (m+1) (Mx.ae A)-4*Mx.lam (Mx.ae A) (m+1) m*Mx.lam (Mx.ae A) (m+1) m))) trivial (λm l R t=>⟨_,rfl,?_⟩) ?_
   . have E:∀j,j<q->du (Cp (Mx.ae A) q) (j:Int)=some (j4 (Mx.D (j+1) (Mx.ae A)) (Mx.D j (Mx.ae A))):=λj g=>dQ (by rw[Wr,Xq g];rfl);show az rfl (E (m+1) (by lia)) (az rfl rfl (az (e:= .tup (M3 (Mx.ae A) (m+1))) rfl (dQ (by rw[Wr,Xq (by lia)];rfl)) (cF ?_)));let G:((m+1:Nat):Int)-1=(m:Int):=by lia
     rw[G];show az (e:=j4 (Mx.lam (Mx.ae A) (m+1) m) (Mx.D (m+1) (Mx.ae A))) rfl (dQ (by rw[Wr,Xq (by lia)];rfl)) (cF ?_);rw[G];show az rfl (E m (by lia)) ?_;show⟨_,_,_,_,rfl,r _ (by lia),r _ (by lia),n.Db (by lia),n.Dc (by lia),n.Dc (by lia),n.lb (by lia) (by lia),t⟩
   show Sa (uW _) ?_;by_cases d:Mx.Sh (Mx.ae A) q
   . have:((List.range (q-1)).map λm=>decide (4*Mx.D (m+2) (Mx.ae A)*Mx.D m (Mx.ae A)<3*Mx.D (m+1) (Mx.ae A)*Mx.D (m+1) (Mx.ae A)-4*Mx.lam (Mx.ae A) (m+1) m*Mx.lam (Mx.ae A) (m+1) m)).any id=false:=by
      rw[aau];intro b v;obtain⟨m,l,rfl⟩:=WK.mp v;rw[W4]at l;let:=d.FF (m+1) (by lia) (by lia);simpa using this
     rw[this];show I d _ B
   . have:((List.range (q-1)).map λm=>decide (4*Mx.D (m+2) (Mx.ae A)*Mx.D m (Mx.ae A)<3*Mx.D (m+1) (Mx.ae A)*Mx.D (m+1) (Mx.ae A)-4*Mx.lam (Mx.ae A) (m+1) m*Mx.lam (Mx.ae A) (m+1) m)).any id=true:=by
      cases z:((List.range (q-1)).map λm=>decide (4*Mx.D (m+2) (Mx.ae A)*Mx.D m (Mx.ae A)<3*Mx.D (m+1) (Mx.ae A)*Mx.D (m+1) (Mx.ae A)-4*Mx.lam (Mx.ae A) (m+1) m*Mx.lam (Mx.ae A) (m+1) m)).any id with
      |true=>rfl
      |false=>
       rw[aau]at z;show absurd ⟨u,λi T L=>?_⟩ d;let:=z _ (WK.mpr ⟨i-1,W4.mpr (by lia),rfl⟩);let Q:i-1+1=i:=by lia
       let P:i-1+2=i+1:=by lia
       rw[Q,P]at this;simpa using this
     rw[this];show C d _ B
 . rintro x rest σ k ⟨rfl,q,o,J,a,rfl,u⟩ next
   let f:q<N:=by
    let:=Xl List.length a;simp at this;lia
   rw[WG (by simpa using f),Xp,Xa,Xe]at a;obtain⟨rfl,rfl⟩:=a;show⟨trivial,_,rfl,?_⟩;show fw ⟨bS (by simp;lia),?_⟩;show i5 (h:=λj=> .bl (decide (2*(((Mx.lam (Mx.ae A) q j).natAbs:Nat):Int)<=Mx.D (j+1) (Mx.ae A)))) trivial (λj g R t=>⟨_,rfl,_,_,rfl,r _ (by lia),t⟩) ?_;show xo (uW _) ?_;by_cases c:∀j,j<q->2*(((Mx.lam (Mx.ae A) q j).natAbs:Nat):Int)<=Mx.D (j+1) (Mx.ae A)
   . have:((List.range q).map λj=>decide (2*(((Mx.lam (Mx.ae A) q j).natAbs:Nat):Int)<=Mx.D (j+1) (Mx.ae A))).all id=true:=by
      rw[WT];intro b v;obtain⟨m,l,rfl⟩:=WK.mp v;rw[W4]at l;simpa using c m l
     rw[this];show next _ _ ⟨rfl,q+1,_,f,rfl,rfl,λi j g L=>?_⟩
     by_cases s:i=q
     . subst s;show c j g
     . show u i j g (by lia)
   . have:((List.range q).map λj=>decide (2*(((Mx.lam (Mx.ae A) q j).natAbs:Nat):Int)<=Mx.D (j+1) (Mx.ae A))).all id=false:=by
      cases z:((List.range q).map λj=>decide (2*(((Mx.lam (Mx.ae A) q j).natAbs:Nat):Int)<=Mx.D (j+1) (Mx.ae A))).all id with
      |false=>rfl
      |true=>
       rw[WT]at z;show absurd (λj g=>?_) c;let:=z _ (WK.mpr ⟨j,W4.mpr g,rfl⟩);simpa using this
     rw[this];show C (λd=>c λj g=>d.half q j g f) _ B
structure Ss(n0:Nat)(st:af)(s b xb xu xc tb:Nat)(rs:List Nat)(A U C:List (List Int))(N:Nat):Prop where
 es:st[s]?=some (Cell.ins aR [("bench",.ref b),("table",.ref tb)])
 B:Bn st b xb xu xc A U C
 T:Tb st tb rs (Mx.ae A) N
 d1:tb≠xb/\tb≠xu/\tb≠xc
 d2:∀(i c:Nat),rs[i]?=some c->c≠xb/\c≠xu/\c≠xc
 lo:n0<=s/\n0<=b/\n0<=xb/\n0<=xu/\n0<=xc/\n0<=tb
 lr:∀(i c:Nat),rs[i]?=some c->n0<=c
def sj{st b:af}(f:∀(m:Nat) (xs:List D),st[m]?=some (Cell.lst xs)->b[m]?=some (Cell.lst xs)):∀ {c:List D} {A:List (List Int)},bH st c A->bH b c A
 | [],[],_=>trivial
 |d::_,_::_,h=>⟨by
  let a:=h.1;cases d with
  |ref n=>
   unfold items? at a⊢;simp only at a⊢;split at a
   . rename_i xs e;rw[f n xs e];show a
   . cases a
  |_=>show a,sj f h.2⟩
def DJ{st a:af}(f:∀(m:Nat) (xs:List D),st[m]?=some (Cell.lst xs)->a[m]?=some (Cell.lst xs)){d:D}{A:List (List Int)}(h:d_ st d A):d_ a d A:=by
 obtain⟨c,e,r⟩:=h.ex;show⟨c,?_,sj f r⟩;cases d with
 |ref n=>
  unfold items? at e⊢;simp only at e⊢;split at e
  . rename_i xs b;rw[f n xs b];show e
  . cases e
 |_=>show e
def jE:bM:=λi st K=>∃(s N w:Nat) (d:D) (A:List (List Int)),i=[.ref s,d]/\st[s]?=some (.ins aR [])/\d_ st d A/\St A N w/\(∀k,k<=N->Mx.D k (Mx.ae A)≠0)/\∀a b f c e g h,Ss s a s b f c e g h A (Mx.units N) (Mx.units N) N->(∀m,m<s->a[m]?=st[m]?)->K .aD a
def jD:List Str:=["self","steps"]
def ux:DS:=(av (mh aR "bench" (aa 0) (wN aE hJ (ab (aa 1) ag)))
 (mh aR "table" (aa 0) (ay nI (ab (aa 1) ag))))
def sJ:V8 jE 2 ux jD:=by
 rintro R st K ⟨s,N,w,d,A,rfl,x,y,p,L,k⟩;show⟨rfl,?_⟩;let J:s<st.length:=(Wa.mp x).1;let G:Ext st (st++[.ins aE []]):=Ext.push;let M:(st++[Cell.ins aE []]).length=st.length+1:=by simp
 show⟨st.length,N,d,A,rfl,by simp,G.AJ y,p.is.len,p.gm.le,λa B I E=>⟨rfl,?_⟩⟩;rw[M]at B I E;let r:∀m,m<st.length->a[m]?=st[m]?:=λm g=>by rw[E m (by lia) (by lia),G.same m g]
 let v:a[s]?=some (.ins aR []):=(r s J).trans x;show ke v (by decide) ?_;let o:putD "bench" (.ref st.length) []=([("bench",.ref st.length)]:List (Str×D)):=rfl;rw[o];generalize b:a.set s (.ins aR [("bench",.ref st.length)])=st2;let P:st2.length=st.length+4:=by rw[<-b,Wv];lia
 let C:∀m,m≠s->st2[m]?=a[m]?:=λm g=>by rw[<-b,Wf (Wi g)]
 let u:st2[s]?=some (.ins aR [("bench",.ref st.length)]):=by rw[<-b,Wn (by lia)]
 clear b
 let q:d_ st2 d A:=DJ (λm O e=>by
  let g:m<st.length:=(Wa.mp e).1;let f:m≠s:=λz=>by rw[z,x]at e;cases e
  rw[C m f,r m g];show e) y
 show⟨A,N,w,d,rfl,q,p,L,λj H F T l=>?_⟩;let t:j[s]?=some (.ins aR [("bench",.ref st.length)]):=(F.same s (by lia)).trans u;show ke t (by simp) ?_;let o:putD "table" (.ref st2.length) [("bench",.ref st.length)]=([("bench",.ref st.length),("table",.ref st2.length)]:List (Str×D)):=rfl;rw[o];let Q:st2.length<j.length:=(Wa.mp T.et).1;let n:∀m,m<st2.length->m≠s->(j.set s (.ins aR [("bench",.ref st.length),("table",.ref st2.length)]))[m]?=a[m]?:=λm g f=>by rw[Wf (Wi f),F.same m g,C m f]
 let b0:=(Wa.mp B.eb).1;show k _ st.length (st.length+1) (st.length+1+1) (st.length+1+2) st2.length H ⟨?_,⟨?_,?_,?_,?_,by lia,by lia,by lia⟩,?_,⟨by lia,by lia,by lia⟩,λi c h=>?_,⟨by lia,by lia,by lia,by lia,by lia,by lia⟩,λi c h=>?_⟩ λm g=>?_
 . rw[Wn (by lia)]
 . rw[n _ (by lia) (by lia)];show B.eb
 . rw[n _ (by lia) (by lia)];show B.e1
 . rw[n _ (by lia) (by lia)];show B.e2
 . rw[n _ (by lia) (by lia)];show B.e3
 . show T.ext (Wf (by lia)) λi c h=>Wf ?_;let:=l i c h;lia
 . have:=l i c h;show⟨by lia,by lia,by lia⟩
 . have:=l i c h;lia
 . rw[n m (by lia) (by lia),r m (by lia)]
def dB:bM:=λd st K=>∃(s b c N a:Nat) (rs:List Nat) (G:Mx.Fn) (k:Int),d=[.ref s,.int k]/\st[s]?=some (Cell.ins aR [("bench",.ref b),("table",.ref c)])/\Tb st c rs G N/\k=(a:Int)-1/\a<=N/\K (.int (Mx.D a G)) st
def ka:List Str:=["self","k"]
def vJ:DS:=(a6 (Ms (aV (aj wJ (aa 1) (dC (.int 0)))) (aj aI (aj aI (cB aR "table" (aa 0)) (aa 1)) (aa 1)) (dC (.int 1))))
def Tb.line{st:af}{b N:Nat}{a:List Nat}{G:Mx.Fn}(h:Tb st b a G N){i:Nat}(f:i<N):∃c,a[i]?=some c/\du (a.map D.ref) ((i:Nat):Int)=some (.ref c)/\st[c]?=some (Cell.lst (aq (Mx.a8 G i))):=by
 let d:=h.lr;let e:a[i]?=some a[i]:=Wm (by lia);show⟨a[i],e,dQ (by rw[Wr,e];rfl),h.row i _ e⟩
def Ss.line{j s b f d e g N:Nat}{a:List Nat}{A U C:List (List Int)}{st:af}(h:Ss j st s b f d e g a A U C N){i:Nat}(k:i<N):∃c,a[i]?=some c/\du (a.map D.ref) ((i:Nat):Int)=some (.ref c)/\st[c]?=some (Cell.lst (aq (Mx.a8 (Mx.ae A) i))):=h.T.line k
def jA(h:p<=i):du (aq (Mx.a8 G i)) ((p:Nat):Int)=some (.int (Mx.lam G i p)):=by
 let:=jr (r:=Mx.a8 G i) (k:=p) (by rw[Mx.dg];lia);rw[Mx.gG _ h]at this;show this
def uv:V8 dB 2 vJ ka:=by
 rintro o st K ⟨s,b,h,N,a,j,G,k,rfl,d,T,rfl,l,q⟩;show⟨rfl,?_⟩;cases a with
 |zero=>
  show US (by lia) ?_;rw[Mx.gX]at q;show q
 |succ m=>
  have e:((m+1:Nat):Int)-1=(m:Int):=by lia
  rw[e];obtain⟨c,n,g,f⟩:=T.line (i:=m) (by lia);show Uu (by lia) (eH (bo d rfl (az (au T.et) g (az (au f) (jA (Wg m)) ?_))));rw[Mx.cZ];show q
structure Ef(A U C:List (List Int))(N:Nat):Prop where
 lam:∀i p,p<=i->i<N->(Mx.lam (Mx.ae A) i p).natAbs<=2^40000
 D:∀p,p<=N->0<Mx.D p (Mx.ae A)/\(Mx.D p (Mx.ae A)).natAbs<=2^744
 eA:∀r∈A,∀x∈r,x.natAbs<=2^400000
 eU:∀r∈U,∀x∈r,x.natAbs<=2^400000
 eC:∀r∈C,∀x∈r,x.natAbs<=2^400000
abbrev nq(A:List (List Int))(k j:Nat):Int:=(2*Mx.lam (Mx.ae A) k j+Mx.D (j+1) (Mx.ae A)).fdiv (2*Mx.D (j+1) (Mx.ae A))
def iR:bM:=λh st K=>∃(c s b f d e g N w k j:Nat) (rs:List Nat) (A U C:List (List Int)),h=[.ref s,.int k,.int j]/\Ss c st s b f d e g rs A U C N/\Mx.aQ N w A/\Mx.aQ N N U/\Mx.aQ N N C/\j<k/\k<N/\N<=8/\w<=9/\Ef A U C N/\
 ∀a,Ss c a s b f d e g rs (Mx.aO A k (nq A k j) j) (Mx.aO U k (nq A k j) j) (Mx.aO C j (-nq A k j) k) N->(∀m,m<c->a[m]?=st[m]?)->K .aD a
def k_:List Str:=["self","k","j","quotient","i"]
def xh:DS:=(av (aN 3 (ay gv (ab (aj aI (aj aI (cB aR "table" (aa 0)) (aa 1)) (aa 2)) (ab (aj aI (aj aI (cB aR "table" (aa 0)) (aa 2)) (aa 2)) ag))))
 (av (cN (aV (aj iZ (aa 3) (dC (.int 0)))) E_ cz)
 (av (eh (di aE "take" i0 (cB aR "bench" (aa 0)) (ab (aa 1) (ab (aa 3) (ab (aa 2) ag)))))
 (eQ (cR (ab (aj cE (aa 2) (dC (.int 1))) ag)) (ba 4) (CU (λi j=>i-j) (aj aI (cB aR "table" (aa 0)) (aa 1)) (aa 4) (aj bG (aa 3) (aj aI (aj aI (cB aR "table" (aa 0)) (aa 2)) (aa 4))))))))
def Jm{r s:List Int}(h:r.length=s.length):Mx.eR r 0 s=r:=by
 show Mx.tV (n:=r.length) (Mx.l9 h) rfl λc _=>?_;rw[Mx.tU h];lia
def qL{A:List (List Int)}{N w k j:Nat}(a:Mx.aQ N w A)(b:k<N)(c:j<N):Mx.aO A k 0 j=A:=by
 unfold Mx.aO;let d:=a.len;rw[Int.neg_zero,Jm (by rw[Mx.bg a b,Mx.bg a c]),Mx.aP (by lia)];show List.set_getElem_self _
def EJ(h:∀p,p<=i->Mx.lam G i p=Mx.lam a i p):Mx.a8 G i=Mx.a8 a i:=by
 unfold Mx.a8;show WO λp b=>h p (by rw[W4]at b;lia)
def kQ(G:Mx.Fn)(k j:Nat)(q:Int)(m:Nat):List Int:=(List.range (k+1)).map λp=>if p<m then Mx.lam G k p-q*Mx.lam G j p else Mx.lam G k p
def yd{k j m p:Nat}(h:p<=k):(kQ G k j q m).getD p 0=if p<m then Mx.lam G k p-q*Mx.lam G j p else Mx.lam G k p:=by
 unfold kQ;rw[Mx.aP (by simp;lia),Xa,Xe]
def oK{k j m:Nat}:(kQ G k j q m).length=k+1:=by unfold kQ;simp
def Lm{k j m:Nat}(h:m<=k):(kQ G k j q m).set m (Mx.lam G k m-q*Mx.lam G j m)=kQ G k j q (m+1):=by
 show Mx.tV (n:=k+1) (by rw[Wv,oK]) oK λc d=>?_;rw[yd (by lia),Wo,aay];by_cases a:m=c
 . subst a;rw[We rfl,We (by rw[oK];lia),We (by lia)];rfl
 . rw[Wc a,<-Wo,yd (by lia)];by_cases b:c<m
   . rw[We b,We (by lia)]
   . rw[Wc b,Wc (by lia)]
def Tb.take{st:af}{e N w k j:Nat}{f:List Nat}{A:List (List Int)}{q:Int}(T:Tb st e f (Mx.ae A) N)(o:Mx.aQ N w A)(m:j<k)(l:k<N){a:af}(u:a[e]?=st[e]?)(t:∀(i c:Nat),i≠k->f[i]?=some c->a[c]?=st[c]?)(s:∀c,f[k]?=some c->a[c]?=some (.lst (aq (kQ (Mx.ae A) k j q (j+1))))):Tb a e f (Mx.ae (Mx.aO A k q j)) N:=by
 let r:=T.lr;show⟨u.trans T.et,r,T.nd,T.nt,λi c h=>?_⟩;let n:i<N:=by let:=(Wa.mp h).1;lia
 by_cases b:i=k
 . subst b;rw[s c h];congr 3;unfold kQ Mx.a8;show WO λp g=>?_;rw[W4]at g;rw[Mx.lI o m l n (by lia),We rfl];by_cases d:p<j+1
   . rw[We d]
   . have z:Mx.lam (Mx.ae A) j p=0:=Mx.v_ (by lia);rw[Wc d,z,W7,YR]
 . rw[t i c b h,T.row i c h];congr 3;show EJ λp g=>by rw[Mx.lI o m l n g,Wc b,YR]
def yt{A:List (List Int)}(h:Mx.aQ N w A)(a:i<N):A.getD i []∈A:=by
 let:=h.len;rw[Mx.aP (by lia)];show WM _
def vV:V8 iR 3 xh k_:=by
 rintro ds st K ⟨n0,s,b,xb,xu,xc,F,N,w,k,j,rs,A,U,C,rfl,h,Z,hU,hC,hj,y,hN,hw,G,W⟩;show⟨rfl,?_⟩;obtain⟨d,a,P,B⟩:=h.line (i:=k) y;obtain⟨cj,S,R,Q⟩:=h.line (i:=j) (by lia);obtain⟨ao,a0⟩:=G.D (j+1) (by lia);show bo h.es rfl (az (au h.T.et) P (az (au B) (jA (by lia)) (bo h.es rfl (az (au h.T.et) R (az (au Q) (jA (Wg j)) ?_)))));rw[Mx.cZ];show⟨_,_,rfl,by lia,?_⟩;unfold Mx.qn
 let X:(nq A k j).natAbs<=2^40000:=by
  let:=(Mx.Cr (t:=Mx.lam (Mx.ae A) k j) ao).2;let h2:=G.lam k j (by lia) y;show Wj (Zr.mp this) h2
 show eq2 (λh0=>eH ?_) λh0=>?_
 . have e0:nq A k j=0:=h0;rw[e0,Int.neg_zero,qL Z y (by lia),qL hU y (by lia),qL hC (by lia) y]at W;show W st h λm _=>rfl
 unfold nq at X W;generalize aX:(2*Mx.lam (Mx.ae A) k j+Mx.D (j+1) (Mx.ae A)).fdiv (2*Mx.D (j+1) (Mx.ae A))=q at*;let J:(-q).natAbs<=2^40000:=by rw[Yg];show X
 show bo h.es rfl (df h.B.eb rfl ?_);show⟨b,xb,xu,xc,N,w,k,j,A,U,C,q,rfl,h.B,Z,hU,hC,y,by lia,hN,hw,λx I=>dq J (G.eA _ (yt Z (by lia)) x I) (by decide) (by decide),λx I=>dq J (G.eU _ (yt hU (by lia)) x I) (by decide) (by decide),λx I=>dq X (G.eC _ (yt hC y) x I) (by decide) (by decide),λl V l1 f1=>?_⟩;let lo:=h.lo;let sx:s≠xb/\s≠xu/\s≠xc:=⟨gw h.es h.B.e1,gw h.es h.B.e2,gw h.es h.B.e3⟩
 let v:l[s]?=_:=(f1 s sx.1 sx.2.1 sx.2.2).trans h.es;let M:l[F]?=_:=(f1 F h.d1.1 h.d1.2.1 h.d1.2.2).trans h.T.et;let fr:∀(i c:Nat),rs[i]?=some c->l[c]?=st[c]?:=λi c o=>f1 c (h.d2 i c o).1 (h.d2 i c o).2.1 (h.d2 i c o).2.2
 let aK:d≠cj:=λz=>by
  let:=h.T.nd k j d a (by rw[z];show S);lia
 let T:d≠F:=h.T.nt k d a
 let E:∀(m:Nat) (C':Addr) (fs:List (Str×D)),l[m]?=some (.ins C' fs)->m≠d:=λm C' fs Y z=>by
  rw[z,fr k d a,B]at Y;cases Y
 show cL ?_;let e1:((j:Nat):Int)+1=((j+1:Nat):Int):=rfl;rw[e1];show dZ ⟨by lia,by lia⟩ ?_;rw[WC];show gj (j+1) (λm σ H=>∃v4:Option D,σ=[some (.ref s),some (.int (k:Int)),some (.int (j:Int)),some (.int q),v4]/\(∀n,n≠d->H[n]?=l[n]?)/\H[d]?=some (.lst (aq (kQ (Mx.ae A) k j q m)))) ?_ ?_ ⟨none,rfl,λ_ _=>rfl,?_⟩
 . rintro σ f ⟨v4,rfl,g,e⟩;show W f ⟨?_,⟨?_,?_,?_,?_,h.B.n1,h.B.n2,h.B.n3⟩,?_,h.d1,h.d2,lo,h.lr⟩ λm Y=>?_
   . rw[g s (E s _ _ v)];show v
   . rw[g b (E b _ _ V.eb)];show V.eb
   . rw[g xb (h.d2 k d a).1.symm];show V.e1
   . rw[g xu (h.d2 k d a).2.1.symm];show V.e2
   . rw[g xc (h.d2 k d a).2.2.symm];show V.e3
   . show h.T.take Z hj y ?_ (λi c hi o=>?_) λc o=>?_
     . rw[g F (Wi T),M,h.T.et]
     . have:c≠d:=λz=>hi (h.T.nd i k c o (by rw[z];show a));rw[g c this,fr i c o]
     . rw[a]at o;cases o;show e
   . have a1:=h.lr k d a;rw[g m (by lia),f1 m (by lia) (by lia) (by lia)]
 . rintro m σ f rest Y ⟨v4,rfl,g,e⟩ next
   show⟨_,rfl,?_⟩;let O:f[s]?=_:=(g s (E s _ _ v)).trans v;let L:f[F]?=_:=(g F (Wi T)).trans M;let aD:f[cj]?=_:=((g cj (Wi aK)).trans (fr j cj S)).trans Q;show bo O rfl (az (au L) P ?_)
   show Nt (u:=Mx.lam (Mx.ae A) k m) e (by lia) (by
    let:=jr (r:=kQ (Mx.ae A) k j q m) (k:=m) (by rw[oK];lia);rw[yd (by lia),Wc (WQ m)]at this;show this) ?_
   show bo O rfl (az (au L) R (az (au aD) (jA (by lia)) (bE (dq X (G.lam j m (by lia) (by lia)) (by decide) (by decide)) ?_)));show OK (j:=m) e (by rw[Wd,oK];show fB (by lia)) ?_
   let ar:(aq (kQ (Mx.ae A) k j q m)).set m (.int (Mx.lam (Mx.ae A) k m-q*Mx.lam (Mx.ae A) j m))=aq (kQ (Mx.ae A) k j q (m+1)):=by
    rw[<-Lm (by lia)];unfold aq;rw[Zs]
   rw[ar];let ah:=(Wa.mp e).1;show next _ _ ⟨_,rfl,λn hn=>by rw[Wf (Wi hn)];show g n hn,Wn ah⟩
 . rw[fr k d a,B]
   let e9:kQ (Mx.ae A) k j q 0=Mx.a8 (Mx.ae A) k:=by
    unfold kQ Mx.a8;show WO λp _=>by rw[Wc (by lia)]
   rw[e9]
def jC:bM:=λg st K=>∃(f s b d a c e N t:Nat) (rs:List Nat) (A U C:List (List Int)),g=[.ref s,.int ((t+1:Nat):Int)]/\Ss f st s b d a c e rs A U C N/\t+1<N/\Ef A U C N/\K (.bl (decide (4*(Mx.D (t+2) (Mx.ae A)*Mx.D t (Mx.ae A)+Mx.lam (Mx.ae A) (t+1) t*Mx.lam (Mx.ae A) (t+1) t)<3*Mx.D (t+1) (Mx.ae A)*Mx.D (t+1) (Mx.ae A)))) st
def jF:List Str:=["self","k","share","ahead"]
def uu:DS:=(av (aN 2 (aj aI (aj aI (cB aR "table" (aa 0)) (aa 1)) (aj cY (aa 1) (dC (.int 1)))))
 (av (aN 3 (di aR "last_of" dB (aa 0) (ab (aj cY (aa 1) (dC (.int 1))) ag)))
 (a6 (aj oX (aj bG (dC (.int 4)) (aj cE (aj bG (di aR "last_of" dB (aa 0) (ab (aa 1) ag)) (di aR "last_of" dB (aa 0) (ab (aj cY (aa 1) (dC (.int 2))) ag))) (aj bG (aa 2) (aa 2)))) (aj bG (aj bG (dC (.int 3)) (aa 3)) (aa 3))))))
def tI:V8 jC 2 uu jF:=by
 rintro w st K ⟨v,s,b,u,q,r,c,N,t,d,A,U,C,rfl,h,g,a,m⟩;show⟨rfl,?_⟩;obtain⟨x,o,f,e⟩:=h.line (i:=t+1) g;let n:((t+1:Nat):Int)-1=(t:Int):=by lia
 show bo h.es rfl (az (au h.T.et) f (cF ?_));rw[n];show az (au e) (jA (by lia)) ?_;let b0:=(a.D t (by lia)).2;let k:=(a.D (t+1) (by lia)).2;let p:=(a.D (t+2) (by lia)).2;let j:=a.lam (t+1) t (by lia) g;let l:(3:Int).natAbs<=2^2:=by decide
 show df h.es rfl (cF ?_);show⟨s,b,c,N,t+1,d,_,_,rfl,h.es,h.T,by lia,by lia,?_⟩;show df h.es rfl ?_;show⟨s,b,c,N,t+2,d,_,_,rfl,h.es,h.T,by lia,by lia,?_⟩;show df h.es rfl (cF ?_);show⟨s,b,c,N,t,d,_,_,rfl,h.es,h.T,by lia,by lia,?_⟩;show bE (dq p b0 (by decide) (by decide)) (bE (dq j j (by decide) (by decide)) (cL (bE (d4 (by decide) (by decide)) (bE (d4 (by decide) (by decide)) (bE (dq (mF l k) k (by decide) (by decide)) (AK m))))))
structure rN(st:af)(tb:Nat)(rs:List Nat)(L:Nat->List Int)(N:Nat):Prop where
 et:st[tb]?=some (Cell.lst (rs.map D.ref))
 lr:rs.length=N
 nd:∀(i j c:Nat),rs[i]?=some c->rs[j]?=some c->i=j
 nt:∀(i c:Nat),rs[i]?=some c->c≠tb
 row:∀(i c:Nat),rs[i]?=some c->st[c]?=some (Cell.lst (aq (L i)))
def Tb.toF{st:af}{a N:Nat}{b:List Nat}{G:Mx.Fn}(T:Tb st a b G N):rN st a b (Mx.a8 G) N:=⟨T.et,T.lr,T.nd,T.nt,T.row⟩
def rN.toT{st:af}{a N:Nat}{b:List Nat}{G:Mx.Fn}{L:Nat->List Int}(T:rN st a b L N)(h:∀i,i<N->L i=Mx.a8 G i):Tb st a b G N:=⟨T.et,T.lr,T.nd,T.nt,λi c d=>by
 let:=(Wa.mp d).1;rw[<-h i (by let:=T.lr;lia)];show T.row i c d⟩
def rN.line{st:af}{b N:Nat}{a:List Nat}{L:Nat->List Int}(h:rN st b a L N){i:Nat}(f:i<N):∃c,a[i]?=some c/\du (a.map D.ref) ((i:Nat):Int)=some (.ref c)/\st[c]?=some (Cell.lst (aq (L i))):=by
 let d:=h.lr;let e:a[i]?=some a[i]:=Wm (by lia);show⟨a[i],e,dQ (by rw[Wr,e];rfl),h.row i _ e⟩
def rN.lt{st:af}{L:Nat->List Int}(h:rN st a b L N):a<st.length/\∀(i c:Nat),b[i]?=some c->c<st.length:=⟨(Wa.mp h.et).1,λi c d=>(Wa.mp (h.row i c d)).1⟩
def mP{a:List Nat}(b:i<a.length)(h:(a.set i d)[m]?=some c):(m=i/\c=d)\/(m≠i/\a[m]?=some c):=by
 rw[aay]at h;by_cases z:i=m
 . rw[We z,We (by lia)]at h;cases h;show .inl ⟨z.symm,rfl⟩
 . rw[Wc z]at h;show .inr ⟨Wi z,h⟩
def rN.put{st:af}{g N i:Nat}{h:List Nat}{L:Nat->List Int}(T:rN st g h L N)(s:i<N)(r:List Int):rN ((st++[Cell.lst (aq r)]).set g (.lst ((h.set i st.length).map D.ref))) g (h.set i st.length) (λm=>if m=i then r else L m) N:=by
 let l:=T.lr;obtain⟨t,j⟩:=T.lt;show⟨Wn (by simp;lia),by rw[Wv];show l,λa b c f n=>?_,λa c f=>?_,λa c f=>?_⟩
 . rcases mP (by lia) f with⟨e,d⟩|⟨e,d⟩<;>rcases mP (by lia) n with⟨q,k⟩|⟨q,k⟩
   . lia
   . have:=j b c k;lia
   . have:=j a c d;lia
   . show T.nd a b c d k
 . rcases mP (by lia) f with⟨e,d⟩|⟨e,d⟩
   . lia
   . show T.nt a c d
 . rcases mP (by lia) f with⟨e,d⟩|⟨e,d⟩
   . rw[We e,d,Wf (by lia)];simp
   . have p:=j a c d;let o:=T.nt a c d;rw[Wc e,Wf (Wi o),Wh p];show T.row a c d
def ng:bM:=λl st K=>∃(g s b k i j h N w t:Nat) (rs:List Nat) (A U C:List (List Int)),l=[.ref s,.int ((t+1:Nat):Int)]/\Ss g st s b k i j h rs A U C N/\Mx.aQ N w A/\Mx.aQ N N U/\Mx.aQ N N C/\t+1<N/\N<=8/\Ef A U C N/\
 ∀a e c d f,Ss g a s b e c d h f (Mx.aW A (t+1) t) (Mx.aW U (t+1) t) (Mx.aW C (t+1) t) N->(∀m,m<g->a[m]?=st[m]?)->K .aD a
def m4:List Str:=["self","k","share","own","ahead","made","kept","i","line","upper","lower"]
def zH:DS:=(av (eh (di aE "exchange" ij (cB aR "bench" (aa 0)) (ab (aa 1) (ab (aj cY (aa 1) (dC (.int 1))) ag))))
 (av (aN 2 (aj aI (aj aI (cB aR "table" (aa 0)) (aa 1)) (aj cY (aa 1) (dC (.int 1)))))
 (av (aN 3 (di aR "last_of" dB (aa 0) (ab (aa 1) ag)))
 (av (aN 4 (di aR "last_of" dB (aa 0) (ab (aj cY (aa 1) (dC (.int 1))) ag)))
 (av (aN 5 (aj iX (aj cE (aj bG (di aR "last_of" dB (aa 0) (ab (aj cY (aa 1) (dC (.int 2))) ag)) (aa 3)) (aj bG (aa 2) (aa 2))) (aa 4)))
 (av (aN 6 (lp (aj aI (cB aR "table" (aa 0)) (aa 1)) kb (mi (aj cY (aa 1) (dC (.int 1))))))
 (av (d8 (cB aR "table" (aa 0)) (aa 1) (aj qx (lp (aj aI (cB aR "table" (aa 0)) (aj cY (aa 1) (dC (.int 1)))) kb (mi (aj cY (aa 1) (dC (.int 1))))) (jc (ab (aa 2) (ab (aa 3) ag)))))
 (av (d8 (cB aR "table" (aa 0)) (aj cY (aa 1) (dC (.int 1))) (aj qx (aa 6) (jc (ab (aa 5) ag))))
 (eQ (lF (ab (aj cE (aa 1) (dC (.int 1))) (ab (br dD (ab (cB aR "table" (aa 0)) ag)) ag))) (ba 7) (av (aN 8 (aj aI (cB aR "table" (aa 0)) (aa 7)))
 (av (aN 9 (aj iX (aj cY (aj bG (aa 3) (aj aI (aa 8) (aj cY (aa 1) (dC (.int 1))))) (aj bG (aa 2) (aj aI (aa 8) (aa 1)))) (aa 4)))
 (av (aN 10 (aj iX (aj cE (aj bG (aa 5) (aj aI (aa 8) (aa 1))) (aj bG (aa 2) (aa 9))) (aa 3)))
 (d8 (cB aR "table" (aa 0)) (aa 7) (aj qx (aj cE (lp (aa 8) kb (mi (aj cY (aa 1) (dC (.int 1))))) (jc (ab (aa 10) (ab (aa 9) ag)))) (lp (aa 8) (mi (aj cE (aa 1) (dC (.int 1)))) kb)))))))))))))))
def vO(h:t<=i):L3.cutD (aq (Mx.a8 G i)) none (some ((t:Nat):Int))=aq ((List.range t).map λp=>Mx.lam G i p):=by
 let a:t<=(Mx.a8 G i).length:=by rw[Mx.dg];lia
 let e:L3.cutD (aq (Mx.a8 G i)) none (some ((t:Nat):Int))=aq ((Mx.a8 G i).take t):=by
  unfold L3.cutD;rw[HT.qD,HT.yb,Wd,Zm a,abc,aaP];unfold aq;rw[ZI]
 rw[e];unfold Mx.a8;rw[<-ZI,List.take_range,Zm (by lia)]
def J6(h:t<=i+1):L3.cutD (aq (Mx.a8 G i)) (some ((t:Nat):Int)) none=aq ((List.range (i+1-t)).map λp=>Mx.lam G i (t+p)):=by
 let b:t<=(Mx.a8 G i).length:=by rw[Mx.dg];lia
 unfold L3.cutD;rw[HT.qD,HT.yb,Wd,Zm b];show List.ext_getElem? λm=>?_;rw[List.getElem?_take];by_cases a:m<i+1-t
 . rw[We (by rw[Mx.dg];lia),List.getElem?_drop];unfold Mx.a8;rw[Wr,Wr,Wr,Wr,Xq (by lia),Xq a];rfl
 . rw[Wc (by rw[Mx.dg];lia),XR (by simpa using a)]
def tj{a b c:Int}(d:b≠0)(h:b*c=a):a.fdiv b=c:=by rw[<-h,XW _ d]
def BN(f:Nat->Int)(t:Nat)(x y:Int):aq ((List.range t).map f)++[.int x,.int y]=aq ((List.range t).map f++[x,y]):=by simp[aq]
def NH(a:∀i j,G i j=G j i)(t:Nat):(List.range t).map (λp=>Mx.lam G t p)++[Mx.lam G (t+1) t,Mx.D (t+2) G]=Mx.a8 (Mx.cq G t) (t+1):=by
 unfold Mx.a8;rw[X5,X5,Xz,Xz,XD];congr 1
 . show WO λp b=>?_;rw[W4]at b;rw[Mx.lG b,Mx.Ft]
 . show [_,_]=[Mx.lam (Mx.cq G t) (t+1) t,Mx.lam (Mx.cq G t) (t+1) (t+1)]
   rw[Mx.Cn a,Mx.RU a,Mx.cZ]
def Hr(t:Nat):(List.range t).map (λp=>Mx.lam G (t+1) p)++[Mx.lam (Mx.cq G t) t t]=Mx.a8 (Mx.cq G t) t:=by
 unfold Mx.a8;rw[X5,Xz];congr 1;show WO λp a=>?_;rw[W4]at a;rw[Mx.lG a,Mx.Bb]
def Kv(c:t+1<i):(List.range t).map (λp=>Mx.lam G i p)++[Mx.lam (Mx.cq G t) i t,Mx.lam (Mx.cq G t) i (t+1)]++(List.range (i+1-(t+2))).map (λp=>Mx.lam G i (t+2+p))=Mx.a8 (Mx.cq G t) i:=by
 unfold Mx.a8
 let e:List.range (i+1)=List.range t++[t,t+1]++(List.range (i+1-(t+2))).map (λp=>t+2+p):=by
  let b:i+1=t+2+(i+1-(t+2)):=by lia
  conv=>lhs;rw[b]
  rw[List.range_add,X5,X5,XD (List.range t)];rfl
 rw[e,Xz,Xz,WL];congr 1
 . congr 1;show WO λp a=>?_;rw[W4]at a;rw[Mx.lG a,Mx.je (by lia) (by lia)]
 . show WO λp a=>?_;rw[W4]at a;change _=Mx.lam (Mx.cq G t) i (t+2+p);rw[Mx.Kh (by lia) (by lia)]
def abs_dvd{d x y:Int}(a:0<d)(h:d*x=y):x.natAbs<=y.natAbs:=by
 rw[<-h,W0];let:1*x.natAbs<=d.natAbs*x.natAbs:=Xm _ (by lia);lia
def ue{a:Int}(h:a.natAbs<=2^m)(b:m<=n):a.natAbs<=2^n:=Wj h (Ws (by decide) b)
def Iu{a b:Int}(d:a.natAbs<=2^m)(c:b.natAbs<=2^m):(a+b).natAbs<=2^(m+1):=by
 let:=Int.natAbs_add_le a b;rw[YQ];lia
def RD{a b:Int}(d:a.natAbs<=2^m)(c:b.natAbs<=2^m):(a-b).natAbs<=2^(m+1):=by
 let:=Iu d (b:= -b) (by rw[Yg];show c);rw[<-Zq]at this;show this
def x9:V8 ng 2 zH m4:=by
 rintro ds st K ⟨n0,s,b,xb,xu,xc,f,N,w,t,l,A,U,C,rfl,h,hA,hU,hC,X,hN,W,kk⟩;show⟨rfl,?_⟩;let J:((t+1:Nat):Int)-1=(t:Int):=by lia
 let lo:=h.lo;let bB:s<st.length:=(Wa.mp h.es).1;let P:=h.T.toF.lt;let lA:=hA.len;let v:=Mx.ji A;let bC:Mx.ae (Mx.aW A (t+1) t)=Mx.cq (Mx.ae A) t:=Mx.mB (by lia);obtain⟨p0,b0⟩:=W.D t (by lia);obtain⟨p1,b1⟩:=W.D (t+1) (by lia);obtain⟨p2,b2⟩:=W.D (t+2) (by lia);let V:=W.lam (t+1) t (by lia) X;show bo h.es rfl (df h.B.eb rfl (cF ?_));rw[J];show⟨b,xb,xu,xc,N,w,t+1,t,A,U,C,rfl,h.B,hA,hU,hC,X,by lia,λa L l1 Z=>?_⟩
 let sb:s≠b:=λz=>by
  let y:=h.es;rw[z,h.B.eb]at y;let G:=Cell.ins.inj (W2 y);show absurd G.1 (by decide)
 let lb:∀m xs,st[m]?=some (Cell.lst xs)->m≠b:=λm xs u z=>by rw[z,h.B.eb]at u;cases u
 let d:a[s]?=_:=(Z s bB sb).trans h.es;let B:Tb a f l (Mx.ae A) N:=h.T.ext (Z f P.1 (lb _ _ h.T.et)) λi c o=>Z c (P.2 i c o) (lb _ _ (h.T.row i c o));obtain⟨ck,b5,a5,a4⟩:=B.line (i:=t+1) X;show bo d rfl (az (au B.et) a5 (cF ?_));rw[J];show az (au a4) (jA (by lia)) ?_;show df d rfl ?_;show⟨s,b,f,N,t+2,l,_,_,rfl,d,B,by lia,by lia,?_⟩;show df d rfl (cF ?_);show⟨s,b,f,N,t+1,l,_,_,rfl,d,B,by lia,by lia,?_⟩;show df d rfl (cF ?_);show⟨s,b,f,N,t,l,_,_,rfl,d,B,by lia,by lia,?_⟩;show bE (dq b0 b2 (by decide) (by decide)) (bE (dq V V (by decide) (by decide)) (cL (iH (by lia) (AA b1 (by lia) (by decide)) ?_)));rw[tj (by lia) (Mx.pU v (by lia))];show bo d rfl (az (au B.et) a5 (cF ?_));rw[J];show ku a4 ?_;rw[vO (by lia)];obtain⟨cj,b6,bU,bT⟩:=B.line (i:=t) (by lia);show bo d rfl (cF ?_);rw[J];show az (au B.et) bU (cF ?_);rw[J];show ku bT ?_;rw[vO (by lia)];show⟨Wt rfl,ye (by rw[Xn];simp;lia) ?_⟩;rw[BN,NH v];let F1:=B.toF;let bA:=F1.lt;let a3:(a++[Cell.lst (aq (Mx.a8 (Mx.cq (Mx.ae A) t) (t+1)))])[s]?=_:=(Wh (by lia)).trans d;let ar:(a++[Cell.lst (aq (Mx.a8 (Mx.cq (Mx.ae A) t) (t+1)))])[f]?=_:=(Wh bA.1).trans F1.et;show bo a3 rfl (fA ar (by rw[Wd,F1.lr];show fB X) ?_);let bQ:(l.map D.ref).set (t+1) (.ref a.length)=(l.set (t+1) a.length).map D.ref:=by rw[Zs]
 rw[bQ];let F2:=F1.put X (Mx.a8 (Mx.cq (Mx.ae A) t) (t+1));let g2:∀m,m<a.length->m≠f->((a++[Cell.lst (aq (Mx.a8 (Mx.cq (Mx.ae A) t) (t+1)))]).set f (.lst ((l.set (t+1) a.length).map D.ref)))[m]?=a[m]?:=λm u k=>by rw[Wf (Wi k),Wh u]
 let l2:((a++[Cell.lst (aq (Mx.a8 (Mx.cq (Mx.ae A) t) (t+1)))]).set f (.lst ((l.set (t+1) a.length).map D.ref))).length=a.length+1:=by simp
 let F:s≠f:=gw h.es h.T.et;generalize((a++[Cell.lst (aq (Mx.a8 (Mx.cq (Mx.ae A) t) (t+1)))]).set f (.lst ((l.set (t+1) a.length).map D.ref)))=st2 at F2 g2 l2⊢;let a0:st2[s]?=_:=(g2 s (by lia) F).trans d;show⟨Wt rfl,ye (by rw[Xn];simp;lia) ?_⟩;rw[ints_app,Hr];let bl:=F2.lt;let aX:(st2++[Cell.lst (aq (Mx.a8 (Mx.cq (Mx.ae A) t) t))])[s]?=_:=(Wh (by lia)).trans a0;let ao:(st2++[Cell.lst (aq (Mx.a8 (Mx.cq (Mx.ae A) t) t))])[f]?=_:=(Wh bl.1).trans F2.et;show bo aX rfl (cF ?_);rw[J];show fA ao (by rw[Wd,F2.lr];show fB (by lia)) ?_;let bP:((l.set (t+1) a.length).map D.ref).set t (.ref st2.length)=((l.set (t+1) a.length).set t st2.length).map D.ref:=by simp![Zs]
 rw[bP];let E:=F2.put (i:=t) (by lia) (Mx.a8 (Mx.cq (Mx.ae A) t) t);let g3:∀m,m<st2.length->m≠f->((st2++[Cell.lst (aq (Mx.a8 (Mx.cq (Mx.ae A) t) t))]).set f (.lst (((l.set (t+1) a.length).set t st2.length).map D.ref)))[m]?=st2[m]?:=λm u k=>by rw[Wf (Wi k),Wh u]
 let l3:((st2++[Cell.lst (aq (Mx.a8 (Mx.cq (Mx.ae A) t) t))]).set f (.lst (((l.set (t+1) a.length).set t st2.length).map D.ref))).length=st2.length+1:=by simp
 let r3:∀(i c:Nat),((l.set (t+1) a.length).set t st2.length)[i]?=some c->(n0<=c/\(c<st.length->∃i',l[i']?=some c))/\(st.length<=c->a.length<=c):=λi c o=>by
  let lr:=B.lr;rcases mP (by rw[Wv];lia) o with⟨_,rfl⟩|⟨_,T⟩
  . show⟨⟨by lia,λz=>by lia⟩,λ_=>by lia⟩
  . rcases mP (by lia) T with⟨_,rfl⟩|⟨_,S⟩
    . show⟨⟨by lia,λz=>by lia⟩,λ_=>by lia⟩
    . have:=P.2 i c S;show⟨⟨h.lr i c S,λ_=>⟨i,S⟩⟩,λz=>by lia⟩
 generalize((st2++[Cell.lst (aq (Mx.a8 (Mx.cq (Mx.ae A) t) t))]).set f (.lst (((l.set (t+1) a.length).set t st2.length).map D.ref)))=st3 at E g3 l3⊢;generalize((l.set (t+1) a.length).set t st2.length)=rs3 at E r3⊢;let bF:st3[s]?=_:=(g3 s (by lia) F).trans a0;let b4:b<st.length:=(Wa.mp h.B.eb).1;let bW:b≠f:=gw h.B.eb h.T.et;let Y:∀m,m<a.length->m≠f->st3[m]?=a[m]?:=λm u k=>(g3 m (by lia) k).trans (g2 m u k);show cL ?_;show bo bF rfl (cM (au E.et) ?_);rw[Wd,E.lr];let e5:((t+1:Nat):Int)+1=((t+2:Nat):Int):=rfl;rw[e5];show tX ⟨by lia,by lia,by lia,by lia⟩ ?_
 let er:cT ((t+2:Nat):Int) (((N:Nat):Int)-((t+2:Nat):Int)).toNat=(List.range (N-(t+2))).map λm=>D.int ((t+2+m:Nat):Int):=by
  unfold cT;let:(((N:Nat):Int)-((t+2:Nat):Int)).toNat=N-(t+2):=by lia
  rw[this];show WO λm _=>?_;congr 1
 rw[er];let bY:∀m,m<n0->st3[m]?=st[m]?:=λm u=>by rw[Y m (by lia) (by lia),Z m (by lia) (by lia)]
 show e7 (λrest σ O=>∃(q:Nat) (j:List Nat) (v7 v8 v9 M:Option D),q<=N-(t+2)/\rest=((List.range (N-(t+2))).map λm=>D.int ((t+2+m:Nat):Int)).drop q/\σ=[some (.ref s),some (.int ((t+1:Nat):Int)),some (.int (Mx.lam (Mx.ae A) (t+1) t)),some (.int (Mx.D (t+2) (Mx.ae A))),some (.int (Mx.D (t+1) (Mx.ae A))),some (.int (Mx.lam (Mx.cq (Mx.ae A) t) t t)),some (.lst (aq ((List.range t).map λp=>Mx.lam (Mx.ae A) (t+1) p))),v7,v8,v9,M]/\a.length<=O.length/\(∀m,m<a.length->m≠f->O[m]?=a[m]?)/\rN O f j (λi=>if i<t+2+q then Mx.a8 (Mx.cq (Mx.ae A) t) i else Mx.a8 (Mx.ae A) i) N/\∀(i c:Nat),j[i]?=some c->(n0<=c/\(c<st.length->∃i',l[i']?=some c))/\(st.length<=c->a.length<=c)) ?_ ?_ _ _ _ ⟨0,rs3,none,none,none,none,WU _,rfl,rfl,by lia,Y,?_,r3⟩
 . rintro σ g ⟨q,j,v7,v8,v9,M,hq,e,rfl,l4,H,I,r4⟩;show⟨trivial,?_⟩
   let Q:q=N-(t+2):=by
    let:=Xl List.length e;simp at this;lia
   let T4:Tb g f j (Mx.ae (Mx.aW A (t+1) t)) N:=I.toT λi R=>by rw[We (by lia),bC]
   let nb:=L.n1;show kk g st.length (st.length+1) (st.length+2) j ⟨?_,⟨?_,?_,?_,?_,L.n1,L.n2,L.n3⟩,T4,⟨by lia,by lia,by lia⟩,λi c o=>?_,⟨by lia,by lia,by lia,by lia,by lia,by lia⟩,λi c o=>(r4 i c o).1.1⟩ λm u=>?_
   . rw[H s (by lia) F];show d
   . rw[H b (by lia) bW];show L.eb
   . rw[H _ (by lia) (by lia)];show L.e1
   . rw[H _ (by lia) (by lia)];show L.e2
   . rw[H _ (by lia) (by lia)];show L.e3
   . obtain⟨⟨_,G⟩,h3⟩:=r4 i c o;by_cases bX:c<st.length
     . show⟨by lia,by lia,by lia⟩
     . have:=h3 (by lia);show⟨by lia,by lia,by lia⟩
   . rw[H m (by lia) (by lia),Z m (by lia) (by lia)]
 . rintro x rest σ g ⟨q,j,v7,v8,v9,M,hq,e,rfl,l4,H,I,r4⟩ next
   let Q:q<N-(t+2):=by
    let:=Xl List.length e;simp at this;lia
   rw[WG (by simpa using Q),Xp,Xa,Xe]at e;obtain⟨rfl,rfl⟩:=e;show⟨trivial,_,rfl,?_⟩;let R:t+2+q<N:=by lia
   obtain⟨ci,b7,bV,r⟩:=I.line R;rw[Wc (WQ _)]at r;let aK:g[s]?=_:=(H s (by lia) F).trans d;let c1:=W.lam (t+2+q) t (by lia) R;let c2:=W.lam (t+2+q) (t+1) (by lia) R;let up:=Mx.M0 v (t:=t) (by lia) (by lia) (i:=t+2+q) (by lia);let lw:=Mx.OZ v (t:=t) (by lia) (by lia) (i:=t+2+q) (by lia);let md:=Mx.pU v (t:=t) (by lia);let bm:(Mx.lam (Mx.cq (Mx.ae A) t) t t).natAbs<=2^90000:=ue (m:=80000+1) (Wj (abs_dvd p1 md) (Iu (m:=80000) (ue (n:=80000) (mF b0 b2) (by decide)) (ue (n:=80000) (mF V V) (by decide)))) (by decide);let bu:(Mx.lam (Mx.cq (Mx.ae A) t) (t+2+q) (t+1)).natAbs<=2^90000:=ue (m:=80000+1) (Wj (abs_dvd p1 up) (RD (m:=80000) (ue (n:=80000) (mF b2 c1) (by decide)) (ue (n:=80000) (mF V c2) (by decide)))) (by decide);show bo aK rfl (az (au I.et) bV ?_);show cF ?_;rw[J];show az (au r) (jA (by lia)) (bE (dq b2 c1 (by decide) (by decide)) (az (au r) (jA (by lia)) (bE (dq V c2 (by decide) (by decide)) (cF (iH (by lia) (AA b1 (by lia) (by decide)) ?_)))));rw[tj (by lia) up];show az (au r) (jA (by lia)) (bE (dq bm c2 (by decide) (by decide)) (bE (dq V bu (by decide) (by decide)) (cL (iH (by lia) (AA b2 (by lia) (by decide)) ?_))));rw[tj (by lia) lw];show cF ?_;rw[J];show ku r ?_;rw[vO (by lia)];show⟨Wt rfl,D5 (by rw[Xn];simp;lia) ?_⟩;rw[BN];show cL ?_;rw[e5];show ku r ?_;rw[J6 (by lia)];show ye (by rw[Xn];simp;lia) ?_
   let ea:aq ((List.range t).map (λp=>Mx.lam (Mx.ae A) (t+2+q) p)++[Mx.lam (Mx.cq (Mx.ae A) t) (t+2+q) t,Mx.lam (Mx.cq (Mx.ae A) t) (t+2+q) (t+1)])++aq ((List.range (t+2+q+1-(t+2))).map λp=>Mx.lam (Mx.ae A) (t+2+q) (t+2+p))=aq (Mx.a8 (Mx.cq (Mx.ae A) t) (t+2+q)):=by
    rw[<-Kv (by lia)];simp[aq]
   rw[ea];let bb:=I.lt;let aD:(g++[Cell.lst (aq (Mx.a8 (Mx.cq (Mx.ae A) t) (t+2+q)))])[s]?=_:=(Wh (by lia)).trans aK;let ah:(g++[Cell.lst (aq (Mx.a8 (Mx.cq (Mx.ae A) t) (t+2+q)))])[f]?=_:=(Wh bb.1).trans I.et;show bo aD rfl (fA ah (by rw[Wd,I.lr];show fB R) ?_);let bO:(j.map D.ref).set (t+2+q) (.ref g.length)=(j.set (t+2+q) g.length).map D.ref:=by rw[Zs]
   rw[bO];let F5:=I.put R (Mx.a8 (Mx.cq (Mx.ae A) t) (t+2+q));show next _ _ ⟨q+1,j.set (t+2+q) g.length,_,_,_,_,Q,rfl,rfl,by simp;lia,λm u k=>?_,⟨F5.et,F5.lr,F5.nd,F5.nt,λi c o=>?_⟩,λi c o=>?_⟩
   . rw[Wf (Wi k),Wh (by lia)];show H m u k
   . rw[F5.row i c o];congr 3;by_cases y:i=t+2+q
     . rw[We y,We (by lia),y]
     . rw[Wc y];by_cases G:i<t+2+q
       . rw[We G,We (by lia)]
       . rw[Wc G,Wc (by lia)]
   . have lr:=I.lr;rcases mP (by lia) o with⟨_,rfl⟩|⟨_,T⟩
     . show⟨⟨by lia,λz=>by lia⟩,λ_=>by lia⟩
     . show r4 i c T
 . show⟨E.et,E.lr,E.nd,E.nt,λi c o=>?_⟩;let R:i<N:=by let:=(Wa.mp o).1;let:=E.lr;lia
   rw[E.row i c o];congr 3;by_cases y:i=t
   . rw[We y,We (by lia),y]
   . rw[Wc y];by_cases G:i=t+1
     . rw[We G,We (by lia),G]
     . rw[Wc G];by_cases h3:i<t
       . rw[We (by lia)];show EJ λp hp=>by rw[Mx.lG (by lia),Mx.je (by lia) (by lia)]
       . rw[Wc (by lia)]
def AF{c A U C:List (List Int)}{N w:Nat}{m:Nat->Nat}(L:Mx.Lg c A U C N w m)(g:Mx.aQ N w c)(f:N<=8)(a:Mx.D N (Mx.ae c)≠0)(j:∀i,i<N->Mx.ae c i i<=2^37000)(b:∀i,i<N->m i<=37000):Ef A U C N where
 lam:=λi p d e=>L.R9 e (by lia) (b i e)
 D:=λp d=>⟨(L.D p d).1,by
  let h:=L.D p d;let l:(((2:Nat)^744:Nat):Int)=(2:Int)^744:=Xy 2 744;let k:(((Mx.D p (Mx.ae A)).natAbs:Nat):Int)=Mx.D p (Mx.ae A):=aab (by lia);show Zr.mp (by rw[k,l];show h.2)⟩
 eA:=L.ent b
 eU:=(L.turn g f a j b).1
 eC:=(L.turn g f a j b).2
def j5:bM:=λq st K=>∃(h s b p n o l N w:Nat) (rs:List Nat) (A0 A U C:List (List Int)),q=[.ref s]/\Ss h st s b p n o l rs A U C N/\Mx.aQ N w A0/\N<=8/\w<=9/\Mx.D N (Mx.ae A0)≠0/\(∀i,i<N->Mx.ae A0 i i<=2^37000)/\Mx.Lk A0 A U C N w 1/\
 ∀a f d e g c j k,Ss h a s b f d e l g c j k N->Mx.Tn A0 c j k N w->Ef c j k N->Mx.Sh (Mx.ae c) N->(∀m,m<h->a[m]?=st[m]?)->K .aD a
def j0:List Str:=["self","k","j"]
def u9:DS:=(av (aN 1 (dC (.int 1)))
 (su (aV (aj oX (aa 1) (br dD (ab (cB aR "table" (aa 0)) ag)))) (av (eh (di aR "lessen" iR (aa 0) (ab (aa 1) (ab (aj cY (aa 1) (dC (.int 1))) ag))))
 (cN (aV (di aR "is_steep" jC (aa 0) (ab (aa 1) ag))) (av (eh (di aR "swap" ng (aa 0) (ab (aa 1) ag)))
 (aN 1 (br yf (ab (dC (.int 1)) (ab (aj cY (aa 1) (dC (.int 1))) ag))))) (av (eQ (yl (ab (aj cY (aa 1) (dC (.int 2))) (ab (iE fe (dC (.int 1))) (ab (iE fe (dC (.int 1))) ag)))) (ba 2) (eh (di aR "lessen" iR (aa 0) (ab (aa 1) (ab (aa 2) ag)))))
 (Bv 1 (wO (λi j=>i+j)) (dC (.int 1))))))))
def mk_le{N k i:Nat}(a:N<=8):Mx.mk N k i<=37000:=by unfold Mx.mk;split<;>lia
def xv(A:List (List Int)){k j:Nat}(h:0<Mx.D (j+1) (Mx.ae A)):2*(((Mx.lam (Mx.ae A) k j-nq A k j*Mx.D (j+1) (Mx.ae A)).natAbs:Nat):Int)<=Mx.D (j+1) (Mx.ae A):=(Mx.Cr h).1
def Tr{d A U C:List (List Int)}{N w k:Nat}(h:Mx.Lk d A U C N w k)(f:N<=k):Mx.Sh (Mx.ae A) N where
 half:=λi j b a=>h.red i (by lia) a j b
 FF:=λi g a z=>by
  obtain⟨t,rfl⟩:∃t,i=t+1:=⟨i-1,by lia⟩
  show h.flat t (by lia) a ?_;unfold Mx.jw;rw[Nat.add_sub_cancel]at z;let e:4*Mx.D (t+1+1) (Mx.ae A)*Mx.D t (Mx.ae A)=4*(Mx.D (t+2) (Mx.ae A)*Mx.D t (Mx.ae A)):=by grind
  let c:4*Mx.lam (Mx.ae A) (t+1) t*Mx.lam (Mx.ae A) (t+1) t=4*(Mx.lam (Mx.ae A) (t+1) t*Mx.lam (Mx.ae A) (t+1) t):=by grind
  rw[e,c]at z;lia
def NL{p A U C:List (List Int)}{N w t:Nat}{m:Nat->Nat}(L:Mx.Lg p A U C N w m)(r:∀i,i<N->m i<=if i=t+1 then 748+2240*(N-t)else 748)(g:t+1<N)(h:Mx.jw A t)(f:∀i,i<t+1->∀j,j<i->2*(((Mx.lam (Mx.ae A) i j).natAbs:Nat):Int)<=Mx.D (j+1) (Mx.ae A))(d:∀u,u+1<t+1->¬Mx.jw A u):Mx.Lk p (Mx.aW A (t+1) t) (Mx.aW U (t+1) t) (Mx.aW C (t+1) t) N w (max 1 t):=by
 let o:=Mx.wY L g h;let L3:=L.swap g ⟨o.1,WN (XJ o.2) (L.D (t+1) (by lia)).2⟩;let a:Mx.ae (Mx.aW A (t+1) t)=Mx.cq (Mx.ae A) t:=Mx.mB (by let:=L.T.isA.len;lia);show⟨⟨L3.T,L3.D,λi k=>?_⟩,λi v k j s=>?_,λu y q=>?_⟩
 . by_cases x:t=0/\i=0
   . have c:=(L3.D 1 (by lia)).2
     let e:Mx.D 1 (Mx.ae (Mx.aW A (t+1) t))=Mx.ae (Mx.aW A (t+1) t) 0 0:=by
      let b:=Mx.cZ (Mx.ae (Mx.aW A (t+1) t)) 0;unfold Mx.lam at b;rw[Mx.jx]at b;show b.symm
     rw[x.2,<-e];show WN c (Mx.p2 (by unfold Mx.mk;split<;>lia))
   . show WN (L3.len i k) (Mx.p2 ?_);let c:=r (Mx.sw t (t+1) i) (Mx.sU g k);by_cases n:i=t
     . rw[n,Mx.Bb,We rfl]at c;rw[n,Mx.Bb];unfold Mx.mk;rw[We (by lia),show max 1 t=t by lia];show c
     . have b:Mx.sw t (t+1) i≠t+1:=by
        intro z;by_cases l:i=t+1
        . rw[l,Mx.Ft]at z;lia
        . rw[Mx.je n l]at z;show l z
       rw[Wc b]at c;unfold Mx.mk;split<;>lia
 . rw[a,Mx.nB (by lia),Mx.lG (by lia),Mx.je (by lia) (by lia)];show f i (by lia) j s
 . intro z;show d u (by lia) ?_;unfold Mx.jw at z⊢;rw[a,Mx.nB (by lia),Mx.nB (by lia),Mx.nB (by lia),Mx.lG (by lia),Mx.je (by lia) (by lia)]at z;show z
def ur:V8 j5 1 u9 j0:=by
 rintro ds st K ⟨P,s,b,E,y,B,tb,N,w,G,A0,A,U,C,rfl,h,h0,O,hw,Q,g0,v,kk⟩;show⟨rfl,?_⟩;show⟨λm σ F=>∃(k E y B:Nat) (G:List Nat) (A U C:List (List Int)) (v2:Option D),σ=[some (.ref s),some (.int ((k:Nat):Int)),v2]/\1<=k/\Ss P F s b E y B tb G A U C N/\Mx.Lk A0 A U C N w k/\(∀m,m<P->F[m]?=st[m]?)/\m=(Mx.rk A N).toNat*(N+2)+(N+1-k),⟨_,1,E,y,B,G,A,U,C,none,rfl,Wg _,h,v,λ_ _=>rfl,rfl⟩,?_⟩;rintro m σ a5 ⟨k,E,y,B,G,A,U,C,v2,rfl,bV,h,v,fr,rfl⟩;show bo h.es rfl (cM (au h.T.et) ?_);rw[Wd,h.T.lr];show IY (λbU=>eH ?_) λbW=>?_;rotate_left
 . show kk a5 E y B G A U C h v.L.T (AF v.L h0 O Q g0 λi _=>mk_le O) (Tr v (by lia)) fr
 obtain⟨t,rfl⟩:∃t,k=t+1:=⟨k-1,by lia⟩
 let d:t+1<N:=by lia
 let em:((t+1:Nat):Int)-1=(t:Int):=by lia
 let sm:=AF v.L h0 O Q g0 λi _=>mk_le O;let T:=v.L.T;show df h.es rfl (cF ?_);rw[em];show⟨P,s,b,E,y,B,tb,N,w,t+1,t,G,A,U,C,rfl,h,T.isA,T.cA,T.cH,by lia,d,O,hw,sm,λa4 h2 f2=>?_⟩;let L2:=v.L.take (k:=t+1) (j:=t) (q:=nq A (t+1) t) (by lia) d (Mx.PD v.L d (by lia)) (by unfold Mx.mk;rw[Wc (by lia)];lia)
 let r2:2*(((Mx.lam (Mx.ae (Mx.aO A (t+1) (nq A (t+1) t) t)) (t+1) t).natAbs:Nat):Int)<=Mx.D (t+1) (Mx.ae A):=by
  rw[Mx.CJ T.isA (by lia) d];show xv A (v.L.D (t+1) (by lia)).1
 let o:∀i p,i<t+1->p<=i->Mx.lam (Mx.ae (Mx.aO A (t+1) (nq A (t+1) t) t)) i p=Mx.lam (Mx.ae A) i p:=λi p r L=>Mx.CL T.isA (by lia) d (by lia) (by lia) L;let S:∀p,p<=N->Mx.D p (Mx.ae (Mx.aO A (t+1) (nq A (t+1) t) t))=Mx.D p (Mx.ae A):=λp L=>Mx.wo T.isA (by lia) d L;let ar:Mx.rk (Mx.aO A (t+1) (nq A (t+1) t) t) N=Mx.rk A N:=Mx.CA T.isA (by lia) d;generalize bX:Mx.aO A (t+1) (nq A (t+1) t) t=A2 at*;generalize Mx.aO U (t+1) (nq A (t+1) t) t=U2 at*;generalize Mx.aO C t (-nq A (t+1) t) (t+1)=C2 at*
 let bF:∀i,i<N->(if i=t+1 then Mx.mk N (t+1) (t+1)+2240 else Mx.mk N (t+1) i)<=37000:=λi r=>by
  by_cases a:i=t+1
  . rw[We a];unfold Mx.mk;rw[We rfl];lia
  . rw[Wc a];show mk_le O
 let ao:=AF L2 h0 O Q g0 bF;show df h2.es rfl ?_;show⟨P,s,b,E,y,B,tb,N,t,G,A2,U2,C2,rfl,h2,d,ao,?_⟩;let aK:∀m,m<P->a4[m]?=st[m]?:=λm W=>(f2 m W).trans (fr m W);by_cases I:Mx.jw A2 t
 . have f:=I;unfold Mx.jw at f;rw[Xb f];show eH ?_;show df h2.es rfl ?_;show⟨P,s,b,E,y,B,tb,N,w,t,G,A2,U2,C2,rfl,h2,L2.T.isA,L2.T.cA,L2.T.cH,d,O,ao,λah a3 aX a0 bl h3 f3=>?_⟩;show cF ?_;rw[em];show HZ ?_;let ek:(if((t:Nat):Int)>1 then((t:Nat):Int)else 1)=((max 1 t:Nat):Int):=by split<;>lia
   rw[ek]
   let L3:=NL L2 (λi r=>by
    by_cases a:i=t+1
    . rw[We a,We a];unfold Mx.mk;rw[We rfl];lia
    . rw[Wc a,Wc a];unfold Mx.mk;rw[Wc a];lia) d I (λi r j Y=>by rw[o i j r (by lia),S (j+1) (by lia)];show v.red i r (by lia) j Y) (λu hu z=>v.flat u hu (by lia) (by
    unfold Mx.jw at z⊢;rw[o (u+1) u hu (by lia),S _ (by lia),S _ (by lia),S _ (by lia)]at z;show z))
   let bB:=Mx.JU L2 d I;let bT:=Mx.Ou L3.L;rw[ar]at bB;show⟨_,?_,max 1 t,a3,aX,a0,bl,_,_,_,_,rfl,by lia,h3,L3,λm W=>(f3 m W).trans (aK m W),rfl⟩;let h9:((Mx.rk (Mx.aW A2 (t+1) t) N).toNat+1)*(N+2)<=(Mx.rk A N).toNat*(N+2):=Xm _ (by lia);rw[ZE,Y5]at h9;lia
 . have f:=I;unfold Mx.jw at f;rw[WH f];show tu ?_;show cF (d7 (d7 ?_));let e2:((t+1:Nat):Int)-2=(t:Int)-1:=by lia
   rw[e2];show Nz ⟨by lia,by lia,by lia,by lia⟩ ?_;let e3:((t:Int)-1- -1).toNat=t:=by lia
   rw[e3];show e7 (λrest σ F=>∃(q:Nat) (g U' C':List (List Int)) (v2:Option D),q<=t/\rest=(jU ((t:Int)-1) t).drop q/\σ=[some (.ref s),some (.int ((t+1:Nat):Int)),v2]/\Ss P F s b E y B tb G g U' C' N/\Mx.Lg A0 g U' C' N w (λi=>if i=t+1 then 748+2240*(N-(t+1))+2240*(q+1)else 748)/\(∀i p,i<t+1->p<=i->Mx.lam (Mx.ae g) i p=Mx.lam (Mx.ae A2) i p)/\(∀p,p<=N->Mx.D p (Mx.ae g)=Mx.D p (Mx.ae A2))/\(∀p,t<=p+q->p<=t->2*(((Mx.lam (Mx.ae g) (t+1) p).natAbs:Nat):Int)<=Mx.D (p+1) (Mx.ae A2))/\Mx.lam (Mx.ae g) (t+1) t=Mx.lam (Mx.ae A2) (t+1) t/\Mx.rk g N=Mx.rk A2 N/\∀m,m<P->F[m]?=st[m]?) ?_ ?_ _ _ _ ⟨0,A2,U2,C2,v2,WU _,rfl,rfl,h2,L2.mono λi r=>?_,λ_ _ _ _=>rfl,λ_ _=>rfl,λp L aD=>?_,rfl,rfl,aK⟩
   . rintro σ ah ⟨q,g,U',C',v3,hq,c,rfl,h3,L3,n,M,H,l,X,Z⟩;show⟨trivial,?_⟩
     let J:q=t:=by
      let:=Xl List.length c;simp[oV]at this;lia
     subst J;let V:∀j,j<q+1->2*(((Mx.lam (Mx.ae g) (q+1) j).natAbs:Nat):Int)<=Mx.D (j+1) (Mx.ae g):=λj Y=>by rw[M (j+1) (by lia)];show H j (by lia) (by lia)
     let L4:Mx.Lk A0 g U' C' N w (q+2):=by
      show⟨⟨L3.T,L3.D,λi r=>?_⟩,λi r bO j Y=>?_,λu hu bQ=>?_⟩
      . by_cases a:i=q+1
        . subst a;let h5:=Mx.OL L3.T.isA L3.ne (λk hk=>(L3.D k hk).2) r V;let bY:(2:Int)^4=16:=by decide
          let h6:((q+1+1:Nat):Int)*2^744<=2^4*2^744:=WX (by lia) (XJ (Mx.pd _));rw[<-Y6]at h6;show WN h5 (WN h6 (Mx.p2 (by unfold Mx.mk;split<;>lia)))
        . have h5:=L3.len i r;rw[Wc a]at h5;show WN h5 (Mx.p2 (by unfold Mx.mk;split<;>lia))
      . by_cases a:i=q+1
        . subst a;show V j Y
        . rw[n i j (by lia) (by lia),M (j+1) (by lia),o i j (by lia) (by lia),S (j+1) (by lia)];show v.red i (by lia) bO j Y
      . intro z;unfold Mx.jw at z;by_cases bu:u=q
        . subst bu;rw[l,M _ (by lia),M _ (by lia),M _ (by lia)]at z;show I z
        . rw[n (u+1) u (by lia) (by lia),M _ (by lia),M _ (by lia),M _ (by lia),o (u+1) u (by lia) (by lia),S _ (by lia),S _ (by lia),S _ (by lia)]at z;show v.flat u (by lia) (by lia) z
     show⟨_,?_,q+2,E,y,B,G,g,U',C',_,rfl,by lia,h3,L4,Z,rfl⟩;rw[X,ar];lia
   . rintro x rest σ ah ⟨q,g,U',C',v3,hq,c,rfl,h3,L3,n,M,H,l,X,Z⟩ next
     let J:q<t:=by
      let:=Xl List.length c;simp[oV]at this;lia
     let ex:(t:Int)-1+((q:Nat):Int)* -1=((t-1-q:Nat):Int):=by lia
     let hx:(jU ((t:Int)-1) t).drop q=D.int ((t-1-q:Nat):Int)::(jU ((t:Int)-1) t).drop (q+1):=by
      let hl:q<(jU ((t:Int)-1) t).length:=by rw[oV];show J
      let eg:(jU ((t:Int)-1) t)[q]=D.int ((t-1-q:Nat):Int):=by
       let e:=Wm hl;rw[tx,We J,ex]at e;show(W2 e).symm
      rw[WG hl,eg]
     rw[hx,Xp]at c;obtain⟨rfl,rfl⟩:=c;show⟨trivial,_,rfl,?_⟩;let bC:∀i,i<N->(if i=t+1 then 748+2240*(N-(t+1))+2240*(q+1)else 748)<=37000:=λi r=>by split<;>lia
     let bb:=AF L3 h0 O Q g0 bC;let R:=L3.T;obtain⟨j,Y⟩:∃j,j=t-1-q:=⟨_,rfl⟩
     rw[<-Y];show df h3.es rfl ?_;show⟨P,s,b,E,y,B,tb,N,w,t+1,j,G,g,U',C',rfl,h3,R.isA,R.cA,R.cH,by lia,d,O,hw,bb,λbP h4 f4=>?_⟩;let L4:=L3.take (k:=t+1) (j:=j) (q:=nq g (t+1) j) (by lia) d (Mx.PD L3 d (by lia)) (by rw[Wc (by lia)];lia);show next _ _ ⟨q+1,_,_,_,_,J,rfl,rfl,h4,L4.mono λi r=>?_,λi p r L=>?_,λp L=>?_,λp L aD=>?_,?_,?_,λm W=>(f4 m W).trans (Z m W)⟩
     . by_cases a:i=t+1
       . rw[We a,We a,We rfl];lia
       . rw[Wc a,Wc a,Wc a];lia
     . rw[Mx.CL R.isA (by lia) d (by lia) (by lia) L];show n i p r L
     . rw[Mx.wo R.isA (by lia) d L];show M p L
     . by_cases bA:p=j
       . subst bA;rw[Mx.CJ R.isA (by lia) d,<-M (p+1) (by lia)];show xv g (L3.D (p+1) (by lia)).1
       . rw[Mx.EG R.isA (by lia) d (by lia) (by lia)];show H p (by lia) aD
     . rw[Mx.EG R.isA (by lia) d (by lia) (by lia)];show l
     . rw[Mx.CA R.isA (by lia) d];show X
   . by_cases a:i=t+1
     . rw[We a,We a];unfold Mx.mk;rw[We rfl];lia
     . rw[Wc a,Wc a];unfold Mx.mk;rw[Wc a];lia
   . have:p=t:=by lia
     subst this;rw[S (p+1) (by lia)];show r2
def uk:bM:=λf st K=>∃(e:D) (A:List (List Int)) (N w:Nat),f=[e]/\d_ st e A/\St A N w/\w<=9/\(∀k,k<=N->Mx.D k (Mx.ae A)≠0)/\∀a b c d,Ext st a->Mx.Tn A b c d N w->Ef b c d N->Mx.Sh (Mx.ae b) N->K (.tup [bq b,bq c,bq (Mx.fR d N)]) a
def E2:List Str:=["steps","stairs","bench"]
def NK:DS:=(av (aN 1 (wN aR jE (ab (aa 0) ag)))
 (av (eh (di aR "shorten" j5 (aa 1) ag))
 (av (aN 2 (cB aR "bench" (aa 1)))
 (a6 (kX (ab (ay i4 (ab (cB aE "body" (aa 2)) ag)) (ab (ay i4 (ab (cB aE "turn" (aa 2)) ag)) (ab (ay jW (ab (cB aE "back_columns" (aa 2)) (ab (br dD (ab (aa 0) ag)) ag))) ag))))))))
def Lw:V8 uk 1 NK E2:=by
 rintro ds st K ⟨Y,A,N,w,rfl,x,e,Q,s,P⟩;show⟨rfl,?_⟩;let v:=e.gm;let U:=v.le;let S:=e.is.len;let B:Ext st (st++[.ins aR []]):=Ext.push;show⟨st.length,N,w,Y,A,rfl,by simp,B.AJ x,e,s,λJ b H F G I M y X=>⟨rfl,?_⟩⟩
 let d:∀i,i<N->Mx.ae A i i<=2^748:=λi f=>by
  let a:=v.big f f;let u:(((2:Nat)^744:Nat):Int)=(2:Int)^744:=Xy 2 744;let t:Mx.ae A i i<=(((Mx.ae A i i).natAbs:Nat):Int):=by lia
  show WN (WN t (by rw[<-u];show Zr.mpr a)) (Mx.p2 (by decide))
 let q:∀k,k<=N->Mx.D k (Mx.ae A)<=2^744:=λk T=>by
  let a:=v.D (p:=k) T;let u:(((2:Nat)^744:Nat):Int)=(2:Int)^744:=Xy 2 744;let t:Mx.D k (Mx.ae A)<=(((Mx.D k (Mx.ae A)).natAbs:Nat):Int):=by lia
  show WN t (by rw[<-u];show Zr.mpr a)
 let V:=Mx.Lk.start e.is s q d;show df y.es rfl ?_;show⟨st.length,st.length,b,H,F,G,I,N,w,M,A,A,_,_,rfl,y,e.is,U,Q,s N (Wg _),λi f=>WN (d i f) (Mx.p2 (by decide)),V,λc j g h L E C D a T2 r l W=>?_⟩;let R:=(Wa.mp a.es).1;let z:Ext st c:=⟨by lia,λm n=>by rw[W m n,X m n,B.same m n]⟩
 show bo a.es rfl ?_;let lA:=T2.isA.len;let Z:=T2.cA.len;let lC:=T2.cH.len;show bo a.B.eb rfl ?_;show⟨.ref j,E,rfl,⟨_,au a.B.e1,bH.lst⟩,by lia,?_⟩;show bo a.B.eb rfl ?_;show⟨.ref g,C,rfl,⟨_,au a.B.e2,bH.lst⟩,by lia,?_⟩;show bo a.B.eb rfl ?_;obtain⟨da,o,O⟩:=(z.AJ x).ex;show cM o ?_;rw[O.len,S];show⟨.ref h,D,N,rfl,⟨_,au a.B.e3,bH.lst⟩,T2.cH.eJ,by lia,by lia,?_⟩;show⟨Wt rfl,P c E C D z T2 r l⟩
def eN:bM:=λc st K=>∃(A a U B:List (List Int)) (N w:Nat),c=[bq A,.tup [bq a,bq U,bq B]]/\EE A a U B N w/\St a N w/\(∀k,k<=N->Mx.D k (Mx.ae a)≠0)/\Mx.Sh (Mx.ae a) N/\∀b,Ext st b->K (.bl (yN A a U B N w)) b
def rE:List Str:=["steps","told"]
def zY:DS:=(av (cN (ip (dP (aV (ay jq (ab (aa 1) (ab (dC (.int 3)) ag))))) (dP (aV (ay n_ (ab (aa 0) (ab (aj aI (aa 1) (dC (.int 0))) (ab (aj aI (aa 1) (dC (.int 1))) (ab (aj aI (aa 1) (dC (.int 2))) ag)))))))) (a6 (dC (.bl false))) cz)
 (a6 (ay qA (ab (aj aI (aa 1) (dC (.int 0))) ag))))
def xI:V8 eN 2 zY rE:=by
 rintro g st K ⟨A,c,U,B,N,w,rfl,h,d,f,b,k⟩;show⟨rfl,_,3,rfl,⟨_,rfl⟩,?_⟩;show az rfl rfl (az rfl rfl (az rfl rfl ?_));show⟨A,c,U,B,N,w,rfl,h,?_⟩;cases e:yN A c U B N w with
 |false=>rw[e]at k;show k st (Ext.refl)
 |true=>
  rw[e]at k;show az rfl rfl ?_;show⟨c,N,w,_,rfl,js,d,f,λ_ a X=>k a X,λz=>absurd b z⟩
structure Upd(st:af)(n:Nat)(st':af):Prop where
 len:st'.length=st.length
 same:∀m,m≠n->st'[m]?=st[m]?
def Upd.refl{st:af}{n:Nat}:Upd st n st:=⟨rfl,λ_ _=>rfl⟩
def Upd.trans{st d c:af}{n:Nat}(a:Upd st n d)(b:Upd d n c):Upd st n c:=⟨b.len.trans a.len,λm h=>(b.same m h).trans (a.same m h)⟩
def Upd.set{st:af}:Upd st n (st.set n c):=⟨Wv,λm h=>Wf (Wi h)⟩
structure Lf(st:af)(n:Nat):Prop where
 ex:∃x,st[n]?=some (.lst [.int x])/\0<=x
def vq:bM:=λb st K=>∃(a:List Int) (k:Int),b=[.lst (a.map .int),.int k]/\0<=k/\∀c,K (.int c) st
def B6:List Str:=["_law_script","_law_k"]
def KH:DS:=(av (cN (aV (aj oX (aa 1) (br dD (ab (aa 0) ag)))) (a6 (aj aI (aa 0) (aa 1))) cz)
 (a6 (dC (.int 0))))
def O5{ns:List Int}{k:Int}(b:0<=k)(h:k<ns.length):∃c,du (ns.map D.int) k=some (.int c):=by
 let a:k.toNat<ns.length:=by lia
 show⟨ns[k.toNat],?_⟩;let e:(ns.map D.int)[k.toNat]?=some (.int ns[k.toNat]):=by simp[a]
 let:=dQ e;rw[Zi b]at this;show this
def IP:V8 vq 2 KH B6:=by
 rintro d st K ⟨b,k,rfl,a,q⟩;show⟨rfl,?_⟩;show cM rfl ?_;rw[Wd];show IY (λh=>?_) λh=>q 0;obtain⟨c,e⟩:=O5 a h;show eH (az rfl e (q c))
def qy:bM:=λb st K=>∃(a:List Int) (k:Int),b=[.lst (a.map .int),.int k]/\0<=k/\k<=1000/\∀x:Int,0<=x->K (.ref st.length) (st++[.lst [.int x]])
def xa:List Str:=["_law_script","_law_k","_law_cell","_law_number_here","_law_wide","_law_j"]
def GP:DS:=(av (aN 2 (ay vq (ab (aa 0) (ab (aa 1) ag))))
 (av (cN (aV (aj wJ (br mT (ab (aa 2) ag)) (aj u_ (dC (.int 10)) (dC (.int 18))))) (a6 (oz (ab (br mT (ab (aa 2) ag)) ag))) cz)
 (av (aN 3 (aj ja (aj bG (aj cE (aj cE (aj ja (aa 2) (dC (.int 2147483647))) (aj bG (dC (.int 7919)) (aa 1))) (dC (.int 11))) (dC (.int 48271))) (dC (.int 2147483629))))
 (av (aN 4 (dC (.int 0)))
 (av (eQ (cR (ab (dC (.int 9)) ag)) (ba 5) (av (aN 3 (aj ja (aj cE (aj cE (aj bG (aa 3) (aa 3)) (aj bG (dC (.int 69621)) (aa 5))) (dC (.int 7))) (dC (.int 1999999973))))
 (aN 4 (aj cE (aj bG (aa 4) (dC (.int 1999999973))) (aa 3)))))
 (a6 (oz (ab (aa 4) ag))))))))
def K6:DS:=(av (aN 4 (dC (.int 0)))
 (av (eQ (cR (ab (dC (.int 9)) ag)) (ba 5) (av (aN 3 (aj ja (aj cE (aj cE (aj bG (aa 3) (aa 3)) (aj bG (dC (.int 69621)) (aa 5))) (dC (.int 7))) (dC (.int 1999999973))))
 (aN 4 (aj cE (aj bG (aa 4) (dC (.int 1999999973))) (aa 3)))))
 (a6 (oz (ab (aa 4) ag)))))
def Jd{g f e:D}{st:af}{E:iQ}(l:0<=u)(i:u<2^62)(k:∀x:Int,0<=x->E.rt (.ref st.length) (st++[.lst [.int x]])):K6 E [some g,some f,some e,some (.int u),none,none] st:=by
 show dZ ⟨by decide,by decide⟩ ?_;show gj 9 (λ_ σ a=>a=st/\∃(u w:Int) (v:Option D),0<=u/\u<2^62/\0<=w/\σ=[some g,some f,some e,some (.int u),some (.int w),v]) ?_ ?_ ⟨rfl,u,0,none,l,i,ZC _,rfl⟩
 . rintro σ a ⟨rfl,u,w,v,n,m,c,rfl⟩;show⟨Wt rfl,k w c⟩
 . rintro j σ a rest o ⟨rfl,u,w,v,n,m,c,rfl⟩ next
   show⟨_,rfl,?_⟩;show bE (d4 (by lia) (by lia)) (bE (d4 (by decide) (by decide)) (cL (cL (kY (by decide) ?_))));let b:=XB (u*u+69621*(j:Int)+7) (show(0:Int)<1999999973 by decide);let h:=XX (u*u+69621*(j:Int)+7) (show(0:Int)<1999999973 by decide);generalize(u*u+69621*(j:Int)+7).fmod 1999999973=t at b h;show bE (E5 (by decide) (by decide)) (cL ?_);let d:0<=w*1999999973+t:=aa9 (Y9 c (by decide)) b;generalize w*1999999973+t=w2 at d;show next _ _ ⟨rfl,t,w2,_,b,by lia,d,rfl⟩
def Ev(A:DE)(σ:bZ)(st:af)(d:D):Prop:=∀K:DK,K d st->A σ st K
def uj{x:D->D->af->DK->Prop}{A B:DE}{σ:bZ}{st:af}{a b d:D}(f:Ev A σ st a)(e:Ev B σ st b)(c:∀K:DK,K d st->x a b st K):Ev (aj x A B) σ st d:=λK k=>f _ (e _ (c K k))
def Bj{σ:bZ}{st:af}{d:D}:Ev (dC d) σ st d:=λK k=>k
def IB{i:Nat}{σ:bZ}{st:af}{d:D}(h:σ[i]?=some (some d)):Ev (aa i) σ st d:=λK k=>my h k
def IT{σ:bZ}{st:af}{c k:Int}(a:σ[2]?=some (some (.int c)))(b:σ[1]?=some (some (.int k))):Ev (aj ja (aj bG (aj cE (aj cE (aj ja (aa 2) (dC (.int 2147483647))) (aj bG (dC (.int 7919)) (aa 1))) (dC (.int 11))) (dC (.int 48271))) (dC (.int 2147483629))) σ st (.int (((c.fmod 2147483647+7919*k+11)*48271).fmod 2147483629)):=by
 let i:Ev (aj ja (aa 2) (dC (.int 2147483647))) σ st (.int (c.fmod 2147483647)):=uj (IB a) Bj λK k=>kY (by decide) k;let h:Ev (aj bG (dC (.int 7919)) (aa 1)) σ st (.int (7919*k)):=uj Bj (IB b) λK k=>bE (d4 (by decide) (by decide)) k;let g:=uj (d:= .int (c.fmod 2147483647+7919*k)) i h λK k=>cL k;let f:=uj (d:= .int (c.fmod 2147483647+7919*k+11)) g (Bj (d:= .int 11)) λK k=>cL k;let e:=uj (d:= .int ((c.fmod 2147483647+7919*k+11)*48271)) f (Bj (d:= .int 48271)) λK k=>bE (E5 (by decide) (by decide)) k;show uj e (Bj (d:= .int 2147483629)) λK k=>kY (by decide) k
def QI{i:Nat}{A:DE}{B:DS}{E:iQ}{σ:bZ}{st:af}{d:D}(h:Ev A σ st d)(k:B E (σ.set i (some d)) st):av (aN i A) B E σ st:=h _ k
def Du:V8 qy 2 GP xa:=by
 rintro i st K ⟨e,k,rfl,b,g,q⟩;show⟨rfl,?_⟩;show⟨e,k,rfl,b,λc=>?_⟩;show mJ (BJ ⟨by decide,by decide,by decide⟩ ?_);generalize(10:Int)^(18:Int).toNat=big;show VH (λh=>eH (mJ ⟨Wt rfl,q _ (by lia)⟩)) λh=>?_;show QI (σ:=[some (.lst (e.map .int)),some (.int k),some (.int c),none,none,none]) (IT (c:=c) (k:=k) rfl rfl) ?_;let d:=XB ((c.fmod 2147483647+7919*k+11)*48271) (show(0:Int)<2147483629 by decide);let f:=XX ((c.fmod 2147483647+7919*k+11)*48271) (show(0:Int)<2147483629 by decide);generalize((c.fmod 2147483647+7919*k+11)*48271).fmod 2147483629=u at d f;show Jd (E:={nx:=λ_ a=>K .aD a,rt:=K}) d (by lia) q
def cK:bM:=λb st K=>∃(n:Nat) (m:Int),b=[.ref n,.int m]/\Lf st n/\0<m/\m<2^62/\∀r a,0<=r->r<m->Lf a n->Upd st n a->K (.int r) a
def uS:List Str:=["_law_left_here","_law_many","_law_digit_here"]
def Ds:DS:=(av (aN 2 (aj ja (aj aI (aa 0) (dC (.int 0))) (aa 1)))
 (av (d8 (aa 0) (dC (.int 0)) (aj iX (aj aI (aa 0) (dC (.int 0))) (aa 1)))
 (a6 (aa 2))))
def HG{m:Int}(a:0<m)(h:m<2^62):m.natAbs.log2<9000:=by
 let:m.natAbs.log2<62:=(YK (by lia)).mpr (by lia);lia
def CO:V8 cK 2 Ds uS:=by
 rintro g st K ⟨n,m,rfl,⟨x,e,d⟩,a,b,k⟩;show⟨rfl,?_⟩;let f:n<st.length:=(Wa.mp e).1;let c:items? st (.ref n)=some [.int x]:=au e;show az c vc (kY (by lia) (az c vc (iH (by lia) (HG a b) (fA e (by rfl) ?_))));show k _ _ (XB _ a) (XX _ a) ⟨_,Wn f,?_⟩ Upd.set;rw[YG _ (by lia)];show Int.ediv_nonneg d (by lia)
def Sm(x:Int):Prop:= -1000000000000<x/\x<1000000000000
def lz(kd:Int):Nat:=if kd=3 then 999999999999 else if kd=4 then 4 else 999
def kW:bM:=λb st K=>∃(n:Nat) (kd:Int),b=[.ref n,.int kd]/\Lf st n/\0<=kd/\kd<5/\∀r a,r.natAbs<=lz kd->Lf a n->Upd st n a->K (.int r) a
def rQ:List Str:=["_law_left_here","_law_kind","_law_size"]
def A7:DS:=(av (cN (aV (aj iZ (aa 1) (dC (.int 3)))) (a6 (aj cE (aj cY (ay cK (ab (aa 0) (ab (aj cY (aj bG (dC (.int 2)) (aj u_ (dC (.int 10)) (dC (.int 12)))) (dC (.int 1))) ag))) (aj u_ (dC (.int 10)) (dC (.int 12)))) (dC (.int 1)))) cz)
 (av (cN (ud (aV (aj iZ (aa 1) (dC (.int 2)))) (aV (aj iZ (ay cK (ab (aa 0) (ab (dC (.int 2)) ag))) (dC (.int 0))))) (a6 (aj cY (ay cK (ab (aa 0) (ab (dC (.int 1999)) ag))) (dC (.int 999)))) cz)
 (av (aN 2 (aj aI (jc (ab (dC (.int 3)) (ab (dC (.int 9)) (ab (dC (.int 1)) (ab (dC (.int 0)) (ab (dC (.int 4)) ag)))))) (aa 1)))
 (a6 (aj cY (ay cK (ab (aa 0) (ab (aj cE (aj bG (dC (.int 2)) (aa 2)) (dC (.int 1))) ag))) (aa 2))))))
def EU{st c:af}{n:Nat}{kd:Int}{K:DK}(L:Lf c n)(U:Upd st n c)(l:0<=kd)(j:kd<5)(k:∀r a,r.natAbs<=lz kd->Lf a n->Upd st n a->K (.int r) a):(av (aN 2 (aj aI (jc (ab (dC (.int 3)) (ab (dC (.int 9)) (ab (dC (.int 1)) (ab (dC (.int 0)) (ab (dC (.int 4)) ag)))))) (aa 1)))
 (a6 (aj cY (ay cK (ab (aa 0) (ab (aj cE (aj bG (dC (.int 2)) (aa 2)) (dC (.int 1))) ag))) (aa 2)))) {nx:=λ_ a=>K .aD a,rt:=K} [some (.ref n),some (.int kd),none] c:=by
 let e:kd=0\/kd=1\/kd=2\/kd=3\/kd=4:=by lia
 let b:∀s:Int,0<=s->s<=9->s<=lz kd->(a6 (aj cY (ay cK (ab (aa 0) (ab (aj cE (aj bG (dC (.int 2)) (aa 2)) (dC (.int 1))) ag))) (aa 2))) {nx:=λ_ a=>K .aD a,rt:=K} [some (.ref n),some (.int kd),some (.int s)] c:=λs i h g=>by
  show bE (d4 (by decide) (by decide)) (cL ?_);show⟨n,_,rfl,L,by lia,by lia,λr d o m L2 f=>cF (k _ _ (by lia) L2 (U.trans f))⟩
 show⟨Wt rfl,?_⟩;rcases e with rfl|rfl|rfl|rfl|rfl
 . show az rfl rfl (b 3 (by decide) (by decide) (by decide))
 . show az rfl rfl (b 9 (by decide) (by decide) (by decide))
 . show az rfl rfl (b 1 (by decide) (by decide) (by decide))
 . show az rfl rfl (b 0 (by decide) (by decide) (by decide))
 . show az rfl rfl (b 4 (by decide) (by decide) (by decide))
def zK:V8 kW 2 A7 rQ:=by
 rintro q st K ⟨n,c,rfl,L,f,d,k⟩;show⟨rfl,?_⟩;show eq2 (λh=>eH ?_) λh=>?_
 . show BJ ⟨by decide,by decide,by decide⟩ (bE (d4 (by decide) (by decide)) (cF ?_));show⟨n,_,rfl,L,by decide,by decide,λr b o g L2 a=>BJ ⟨by decide,by decide,by decide⟩ (cF (cL ?_))⟩;let e:(10:Int)^(12:Int).toNat=1000000000000:=by decide
   rw[e]at g⊢;let j:lz c=999999999999:=by unfold lz;rw[We h]
   show k _ _ (by lia) L2 a
 . show eq2 (λm=>eH ?_) λm=>EU L Upd.refl f d k;show⟨n,2,rfl,L,by decide,by decide,λr b o g L2 a=>?_⟩;show eq2 (λl=>eH ?_) λl=>EU L2 a f d k;let j:lz c=999:=by unfold lz;rw[Wc h,Wc (by lia)]
   show⟨n,1999,rfl,L2,by decide,by decide,λr i t s L3 p=>cF (k _ _ (by lia) L3 (a.trans p))⟩
def VN(A:List (List Int)):Prop:=∀r∈A,∀x∈r,Sm x
def UR(kd:Int)(A:List (List Int)):Prop:=∀r∈A,∀x∈r,x.natAbs<=lz kd
structure Dr(A:List (List Int))(N w:Nat):Prop where
 is:Mx.aQ N w A
 le:N<=8
 wd:w<=9
 bd:VN A
 n1:1<=N
 w8:w<=8
 Ve:(N<=4/\(N<=2\/∀r∈A,∀x∈r,x.natAbs<=999))\/∀r∈A,∀x∈r,x.natAbs<=4
def kH:bM:=λb st K=>∃(n m w:Nat) (kd:Int),b=[.ref n,.int m,.int w,.int kd]/\Lf st n/\m<=8/\w<=8/\0<=kd/\kd<5/\∀A a,Mx.aQ m w A->UR kd A->Lf a n->Upd st n a->K (bq A) a
def wM:List Str:=["_law_left_here","_law_many","_law_wide","_law_kind"]
def E9:DS:=(a6 (br de (ab (cC (cR (ab (aa 1) ag)) [none,some 2,some 0,some 3] (ba 0) bN (br de (ab (cC (cR (ab (aa 1) ag)) [none,some 2,some 3] (ba 0) bN (ay kW (ab (aa 1) (ab (aa 2) ag)))) ag))) ag)))
def KU{n w:Nat}{kd:Int}{e:bZ}{st:af}{i:DE}{K:List D->af->Prop}(s:∀(x:D) (b:af) (K':DK),kW [.ref n,.int kd] b K'->i (e.set 0 (some x)) b K')(L:Lf st n)(m:0<=kd)(l:kd<5)(p:(λ(x:D)=>ba 0 x e)=λx=>some (e.set 0 (some x)))
 (k:∀r b,r.length=w->(∀x∈r,x.natAbs<=lz kd)->Lf b n->Upd st n b->K (aq r) b):
 dH (ba 0) bN i (λ_=>True) e (cT 0 w) [] st K:=by
 show i7 (λrest c b=>∃r:List Int,c=aq r/\r.length+rest.length=w/\(∀x∈r,x.natAbs<=lz kd)/\Lf b n/\Upd st n b) ?_ ?_ _ _ _ ⟨[],rfl,by rw[dM];simp,by simp,L,Upd.refl⟩
 . rintro c b ⟨r,rfl,d,f,g,U⟩;let d:r.length=w:=by simpa using d
   show⟨trivial,k r b d f g U⟩
 . rintro x rest c b ⟨r,rfl,d,f,g,U⟩ next
   let q:r.length<w:=by simp at d;lia
   show⟨trivial,_,congrFun p x,?_⟩;show s x b _ ⟨n,kd,rfl,g,m,l,λy j a u t=>?_⟩;change dH _ _ _ _ _ _ _ _ _;rw[ints_app];show next _ _ ⟨r++[y],rfl,by simp at d⊢;lia,λz o=>?_,u,U.trans t⟩
   rcases W9.mp o with h|h
   . show f z h
   . have:z=y:=by simpa using h
     subst this;show a
def DC:V8 kH 4 E9 wM:=by
 rintro z st K ⟨n,m,w,kd,rfl,B,y,v,p,o,k⟩;show⟨rfl,?_⟩;show dZ ⟨by lia,by lia⟩ ⟨bS (by rw[dM];lia),?_⟩;rw[WC];show i7 (λrest c a=>∃A:List (List Int),c=A.map cn/\A.length+rest.length=m/\(∀r∈A,r.length=w)/\UR kd A/\Lf a n/\Upd st n a) ?_ ?_ _ _ _ ⟨[],rfl,by rw[dM];simp,by simp,λ_ h=>by simp at h,B,Upd.refl⟩
 . rintro c a ⟨A,rfl,d,i,b,j,U⟩;let d:A.length=m:=by simpa using d
   show⟨trivial,cQ rfl (k A a ⟨d,i⟩ b j U)⟩
 . rintro x rest c a ⟨A,rfl,d,i,b,j,U⟩ next
   let s:A.length<m:=by simp at d;lia
   show⟨trivial,_,rfl,?_⟩;show dZ ⟨by lia,by lia⟩ ⟨bS (by rw[dM];lia),?_⟩;rw[WC];show KU (n:=n) (kd:=kd) (λx a C h=>h) j p o rfl λr l f e u t=>?_;show cQ rfl ?_;change dH _ _ _ _ _ _ _ _ _;rw[Kj];show next _ _ ⟨A++[r],rfl,by simp at d⊢;lia,λq g=>?_,λq g=>?_,u,U.trans t⟩
   . rcases W9.mp g with h|h
     . show i q h
     . have:q=r:=by simpa using h
       subst this;show f
   . rcases W9.mp g with h|h
     . show b q h
     . have:q=r:=by simpa using h
       subst this;show e
def pK:bM:=λb st K=>∃(n:Nat),b=[.ref n]/\Lf st n/\∀A N w a,Dr A N w->Lf a n->Upd st n a->K (bq A) a
def uM:List Str:=["_law_left_here","_law_kind","_law_many","_law_wide"]
def Dm:DS:=(av (aN 1 (aj aI (jc (ab (dC (.int 0)) (ab (dC (.int 0)) (ab (dC (.int 1)) (ab (dC (.int 1)) (ab (dC (.int 2)) (ab (dC (.int 2)) (ab (dC (.int 3)) (ab (dC (.int 4)) ag))))))))) (ay cK (ab (aa 0) (ab (dC (.int 8)) ag)))))
 (av (aN 2 (aj cE (dC (.int 1)) (ay cK (ab (aa 0) (ab (dC (.int 4)) ag)))))
 (av (aN 3 (aj cE (aa 2) (ay cK (ab (aa 0) (ab (dC (.int 3)) ag)))))
 (av (cN (aV (aj iZ (aa 1) (dC (.int 3)))) (Ll 2 3 (ab (aj cE (dC (.int 1)) (aj ja (aa 2) (dC (.int 2)))) (ab (aj cE (dC (.int 2)) (aj ja (aa 3) (dC (.int 2)))) ag))) cz)
 (av (cN (aV (aj iZ (aa 1) (dC (.int 4)))) (av (aN 2 (aj cE (dC (.int 7)) (aj ja (aa 2) (dC (.int 2)))))
 (aN 3 (br yf (ab (aa 2) (ab (aj cE (dC (.int 7)) (aj ja (aa 3) (dC (.int 2)))) ag))))) cz)
 (a6 (ay kH (ab (aa 0) (ab (aa 2) (ab (aa 3) (ab (aa 1) ag)))))))))))
def Br:V8 pK 1 Dm uM:=by
 rintro ds st K ⟨n,rfl,L,k⟩;show⟨rfl,?_⟩;show⟨Wt rfl,n,8,rfl,L,by decide,by decide,λr E Y X W T=>?_⟩
 let M:∃c:Int,0<=c/\c<5/\du [D.int 0,.int 0,.int 1,.int 1,.int 2,.int 2,.int 3,.int 4] r=some (.int c):=by
  let e:r=0\/r=1\/r=2\/r=3\/r=4\/r=5\/r=6\/r=7:=by lia
  rcases e with rfl|rfl|rfl|rfl|rfl|rfl|rfl|rfl<;>show⟨_,by decide,by decide,rfl⟩
 obtain⟨c,J,I,P⟩:=M;show az rfl P ?_;show⟨n,4,rfl,W,by decide,by decide,λa C a0 a1 L2 S=>cL ?_⟩;show⟨n,3,rfl,L2,by decide,by decide,λb g b0 b1 L3 R=>cL ?_⟩;let U:=(T.trans S).trans R
 let s:∀(N w:Nat),1<=N->N<=8->w<=8->(c≠4->N<=4)->(c=3->N<=2)->(a6 (ay kH (ab (aa 0) (ab (aa 2) (ab (aa 3) (ab (aa 1) ag)))))) {nx:=λ_ f=>K .aD f,rt:=K} [some (.ref n),some (.int c),some (.int N),some (.int w)] g:=λN w F B y u t=>
  ⟨n,N,w,c,rfl,L3,B,y,J,I,λA p O v V Q=>k A N w p ⟨O,B,by lia,λr j x i=>by
   let:=v r j x i;let Z:lz c<=999999999999:=by unfold lz;split;show Wg _;split<;>decide
   unfold Sm;lia,F,y,by
   by_cases m:c=4
   . show .inr λr j x i=>?_;let:=v r j x i;unfold lz at this;rwa [Wc (by lia),We m]at this
   . show .inl ⟨u m,?_⟩;by_cases o:c=3
     . show .inl (t o)
     . show .inr λr j x i=>?_;let:=v r j x i;unfold lz at this;rwa [Wc o,Wc m]at this⟩ V (U.trans Q)⟩
 let d:∀(N w:Int),1<=N->N<=8->0<=w->w<=8->(c≠4->N<=4)->(c=3->N<=2)->(a6 (ay kH (ab (aa 0) (ab (aa 2) (ab (aa 3) (ab (aa 1) ag)))))) {nx:=λ_ f=>K .aD f,rt:=K} [some (.ref n),some (.int c),some (.int N),some (.int w)] g:=λN w h1 q o m u t=>by
  let:=s N.toNat w.toNat (by lia) (by lia) (by lia) (λz=>by let:=u z;lia) (λz=>by let:=t z;lia);rw[Zi (show 0<=N by lia),Zi o]at this;show this
 let l:∀x:Int,0<=x.fmod 2/\x.fmod 2<2:=λx=>⟨XB _ (by decide),XX _ (by decide)⟩
 show eq2 (λh=>eH ?_) λh=>?_
 . show kY (by decide) (cL (kY (by decide) (cL ?_)));let H:=l (1+a);let G:=l (1+a+b);show Nf (by lia) ?_;show d _ _ (by lia) (by lia) (by lia) (by lia) (λ_=>by lia) (λ_=>by lia)
 . show eq2 (λq=>eH ?_) λq=>d _ _ (by lia) (by lia) (by lia) (by lia) (λ_=>by lia) (λz=>absurd z h);let H:=l (1+a);let G:=l (1+a+b);show kY (by decide) (cL (kY (by decide) (cL (HZ ?_))));show d _ _ (by lia) (by lia) ?_ ?_ (λz=>absurd q z) (λz=>absurd z h)
   . split<;>lia
   . split<;>lia
def o7:bM:=xy
def zA:List Str:=["_law_one","_law_other"]
def G9:DS:=(a6 (br xU (ab (cC (ma (ab (aa 0) (ab (aa 1) ag))) [none,none] (fz 0 1) bN (aj bG (aa 0) (aa 1))) ag)))
def FR:V8 o7 2 G9 zA:=Jl
def tQ:∀ {a b:List Int},(∀x∈a,x.natAbs<=m)->(∀x∈b,x.natAbs<=m)->(Mx.gZ a b).natAbs<=a.length*(m*m)
 | [],_,_,_=>by change(0:Int).natAbs<=_;simp
 |_::_,[],_,_=>by change(0:Int).natAbs<=_;simp
 |x::a,y::b,f,d=>by
  let g:=tQ (a:=a) (b:=b) (λz c=>f z (Ww _ c)) λz c=>d z (Ww _ c);let e:Mx.gZ (x::a) (y::b)=x*y+Mx.gZ a b:=rfl
  let i:(x*y).natAbs<=m*m:=by
   rw[W0];show Xk (f x Wx) (d y Wx)
  let h:=Int.natAbs_add_le (x*y) (Mx.gZ a b);rw[e,WS,ZE,Y5];lia
def Dr.mem{A:List (List Int)}(h:Dr A N w)(a:i<N):A.getD i []∈A:=by
 let:=h.is.len;rw[Mx.aP (by lia)];show WM _
def Vv(h:n<=8):(8*2^90)^n<=2^744:=by
 rw[show(8*2^90:Nat)=2^93 by decide,<-Zg];show Ws (by decide) (by lia)
def Uc(h:n<=8):(8*2^90)^(n-1)<=2^651:=by
 rw[show(8*2^90:Nat)=2^93 by decide,<-Zg];show Ws (by decide) (by lia)
def Dr.st(h:Dr A N w):St A N w where
 is:=h.is
 wd:=by let:=h.wd;lia
 sm:=λr a x b=>Wj (show x.natAbs<=2^40 by let:=h.bd r a x b;unfold Sm at this;lia) (by decide)
 gm:={
  le:=h.le
  ex:=⟨2^90,λr c a f=>by
   let q:∀i,i<N->∀x∈A.getD i [],x.natAbs<=1000000000000:=λi e x b=>by let:=h.bd _ (h.mem e) x b;unfold Sm at this;lia
   let d:=tQ (q r a) (q c f);let k:=h.is.eJ _ (h.mem a);let j:=h.wd;unfold Mx.ae;rw[k]at d;let g:w*(1000000000000*1000000000000)<=9*(1000000000000*1000000000000):=Xm _ j;show Wj d (Wj g (by decide)),Vv h.le,Uc h.le,by decide⟩
  sym:=Mx.ji A}
def Qi(h:p<=8):(8*2^748)^p<=2^6100:=by
 let e:8*2^748=2^751:=by rw[show 751=3+748 from rfl,XM]
 rw[e,<-Zg];show Ws (by decide) (by lia)
structure D4(G:Mx.Fn)(n:Nat):Prop where
 le:n<=8
 bd:∀r c,r<n->c<n->(G r c).natAbs<=2^748
 sym:∀i j,G i j=G j i
def D4.gx(h:D4 G n)(a:p<n)(c:i<n)(b:j<n):(Mx.gx G p (G i) j).natAbs<=2^6100:=Wj (Mx.Bm h.le h.bd a c b) (Qi (by let:=h.le;lia))
def D4.D(h:D4 G n)(b:p<=n):(Mx.D p G).natAbs<=2^6100:=Wj (Mx.qp (by let:=h.le;lia) λr c a d=>h.bd r c (by lia) (by lia)) (Qi (by let:=h.le;lia))
structure zg(A:List (List Int))(N w:Nat):Prop where
 is:Mx.aQ N w A
 wd:w<=1000
 sm:∀r∈A,∀x∈r,x.natAbs<=2^400000
 gm:D4 (Mx.ae A) N
def zg.mem{A:List (List Int)}(h:zg A N w)(a:i<N):A.getD i []∈A:=by
 let:=h.is.len;rw[Mx.aP (by lia)];show WM _
def Nq{A:List (List Int)}(h:zg A N w)(d:i<N)(c:j<N):∀a∈A.getD i [],∀b∈A.getD j [],IntMulOk a b:=λa f b e=>dq (h.sm _ (h.mem d) a f) (h.sm _ (h.mem c) b e) (by decide) (by decide)
def St.Ei(h:St A N w):zg A N w where
 is:=h.is
 wd:=h.wd
 sm:=λr a x b=>Wj (h.sm r a x b) (Ws (by decide) (by decide))
 gm:=⟨h.gm.le,λr c a d=>Wj (h.gm.big a d) (Ws (by decide) (by decide)),h.gm.sym⟩
structure Own(G:Mx.Fn)(N:Nat)(st:af)(g kn:Nat)(cs:List Nat):Prop where
 eg:st[g]?=some (Cell.lst (aq ((List.range (N+1)).map λq=>Mx.D q G)))
 ek:st[kn]?=some (Cell.lst (cs.map D.ref))
 lc:cs.length=N
 row:∀j c,cs[j]?=some c->st[c]?=some (Cell.lst (aq (Mx.a8 G j)))
def g6:bM:=λc st K=>∃(A:List (List Int)) (N w:Nat),c=[bq A]/\zg A N w/\(∀a,Ext st a->(∃k,k<=N/\Mx.D k (Mx.ae A)=0)->K .aD a)/\∀a g b d,Ext st a->(∀k,k<=N->Mx.D k (Mx.ae A)≠0)->Own (Mx.ae A) N a g b d->K (.tup [.ref g,.ref b]) a
def y6:List Str:=["_law_steps","_law_grown","_law_known","_law_step","_law_found","_law_j","_law_told","_law_other","_law_k","_law_less"]
def HU:DS:=(av (aN 1 (oz (ab (dC (.int 1)) ag)))
 (av (aN 2 (oz ag))
 (av (eQ (dy (aa 0)) (ba 3) (av (aN 4 (oz ag))
 (av (eQ (cR (ab (aj cE (br dD (ab (aa 2) ag)) (dC (.int 1))) ag)) (ba 5) (av (aN 6 (ay o7 (ab (aa 3) (ab (aj aI (aa 0) (aa 5)) ag))))
 (av (aN 7 (aj aI (aj um (aa 2) (jc (ab (aa 4) ag))) (aa 5)))
 (av (eQ (cR (ab (aa 5) ag)) (ba 8) (av (aN 9 (aj bG (aj aI (aa 4) (aa 8)) (aj aI (aa 7) (aa 8))))
 (aN 6 (aj iX (aj cY (aj bG (aj aI (aa 1) (aj cE (aa 8) (dC (.int 1)))) (aa 6)) (aa 9)) (aj aI (aa 1) (aa 8))))))
 (eh (gd (aa 4) (aa 6)))))))
 (av (cN (aV (aj iZ (aj aI (aa 4) (iE fe (dC (.int 1)))) (dC (.int 0)))) (a6 (dC .aD)) cz)
 (av (eh (gd (aa 1) (aj aI (aa 4) (iE fe (dC (.int 1))))))
 (eh (gd (aa 2) (aa 4))))))))
 (a6 (kX (ab (aa 1) (ab (aa 2) ag)))))))
def BI{A:List (List Int)}(h:j<A.length):du (A.map cn) (j:Int)=some (cn (A.getD j [])):=by
 show dQ ?_;rw[Wr,Wm h,Mx.aP h];rfl
def Pl{G:Mx.Fn}{n i j g f o:Nat}{gl m h:List Int}{v u t s:D}{st:af}{E:iQ}{b a:Option D}(d:D4 G n)(x:i<n)(U:j<=i)(C:∀k,k<=i->Mx.D k G≠0)
 (H:st[g]?=some (.lst (aq gl))) (I:st[f]?=some (.lst (aq m))) (F:st[o]?=some (.lst (aq h))) (R:gl.length=i+1) (S:m.length=j) (Q:j<=h.length)
 (y:∀k,k<=i->gl.getD k 0=Mx.D k G) (B:∀k,k<j->m.getD k 0=Mx.lam G i k) (A:∀k,k<j->h.getD k 0=Mx.lam G j k)
 (k:∀b a,E.nx [some v,some (.ref g),some u,some t,some (.ref f),some s,some (.int (Mx.lam G i j)),some (.ref o),b,a] st):
 eQ (cR (ab (dC (.int j)) ag)) (ba 8) (av (aN 9 (aj bG (aj aI (aa 4) (aa 8)) (aj aI (aa 7) (aa 8))))
 (aN 6 (aj iX (aj cY (aj bG (aj aI (aa 1) (aj cE (aa 8) (dC (.int 1)))) (aa 6)) (aa 9)) (aj aI (aa 1) (aa 8))))) E [some v,some (.ref g),some u,some t,some (.ref f),some s,some (.int (G i j)),some (.ref o),b,a] st:=by
 let T:=d.le;show dZ ⟨by lia,by lia⟩ ?_;rw[WC];show gj j (λq σ c=>c=st/\∃b a,σ=[some v,some (.ref g),some u,some t,some (.ref f),some s,some (.int (Mx.gx G q (G i) j)),some (.ref o),b,a]) ?_ ?_ ⟨rfl,b,a,by rw[Mx.jx]⟩
 . rintro σ c ⟨rfl,b,a,rfl⟩;show k b a
 . rintro q σ c rest w ⟨rfl,b,a,rfl⟩ next
   show⟨_,rfl,?_⟩;let P:=d.D (p:=q+1) (by lia);let O:=d.gx (p:=q) (i:=i) (j:=j) (by lia) x (by lia);let N:(Mx.lam G i q).natAbs<=2^6100:=d.gx (by lia) x (by lia);let M:(Mx.lam G j q).natAbs<=2^6100:=d.gx (by lia) (by lia) (by lia);let L:=d.D (p:=q) (by lia);let l:=C q (by lia);let K:=au I;let J:=au F;let z:=au H;show az K (jr (by lia)) (az J (jr (by lia)) ?_);rw[B q w,A q w];show bE (dq N M (by decide) (by decide)) (cL ?_);show az z (e:= .int (Mx.D (q+1) G)) (by let:=jr (r:=gl) (k:=q+1) (by lia);rw[y (q+1) (by lia)]at this;show this) ?_;show bE (dq P O (by decide) (by decide)) (cF (az z (jr (by lia)) ?_));rw[y q (by lia)];show iH l (AA L l (by decide)) ?_;rw[Mx.B5 d.sym l];show next _ _ ⟨rfl,_,_,rfl⟩
def vT(G:Mx.Fn)(i q:Nat):((List.range q).map λj=>Mx.lam G i j).length=q:=by simp
def HN(G:Mx.Fn)(i:Nat):((List.range (i+1)).map λj=>Mx.lam G i j)=Mx.a8 G i:=rfl
def Of{A:List (List Int)}{N w i g kn f:Nat}{gl:List Int}{cs:List Nat}{st:af}{E:iQ}{m l h d b:Option D}(n:zg A N w)(v:i<N)(Q:∀k,k<=i->Mx.D k (Mx.ae A)≠0)
 (R:st[g]?=some (.lst (aq gl))) (C:st[kn]?=some (.lst (cs.map D.ref))) (S:st[f]?=some (.lst [])) (K:gl.length=i+1) (B:cs.length=i) (x:g≠f) (u:kn≠f)
 (O:∀k,k<=i->gl.getD k 0=Mx.D k (Mx.ae A)) (P:∀j c,cs[j]?=some c->c≠f/\st[c]?=some (.lst (aq (Mx.a8 (Mx.ae A) j))))
 (k:∀a m l h d b,Upd st f a->a[f]?=some (.lst (aq (Mx.a8 (Mx.ae A) i)))->E.nx [some (bq A),some (.ref g),some (.ref kn),some (cn (A.getD i [])),some (.ref f),m,l,h,d,b] a):
 (eQ (cR (ab (aj cE (br dD (ab (aa 2) ag)) (dC (.int 1))) ag)) (ba 5) (av (aN 6 (ay o7 (ab (aa 3) (ab (aj aI (aa 0) (aa 5)) ag))))
 (av (aN 7 (aj aI (aj um (aa 2) (jc (ab (aa 4) ag))) (aa 5)))
 (av (eQ (cR (ab (aa 5) ag)) (ba 8) (av (aN 9 (aj bG (aj aI (aa 4) (aa 8)) (aj aI (aa 7) (aa 8))))
 (aN 6 (aj iX (aj cY (aj bG (aj aI (aa 1) (aj cE (aa 8) (dC (.int 1)))) (aa 6)) (aa 9)) (aj aI (aa 1) (aa 8))))))
 (eh (gd (aa 4) (aa 6))))))) E [some (bq A),some (.ref g),some (.ref kn),some (cn (A.getD i [])),some (.ref f),m,l,h,d,b] st:=by
 let hn:=n.gm.le;let hl:=n.is.len;let Y:=n.wd;show cM (au C) (cL ?_);let T:(((cs.map D.ref).length:Nat):Int)+1=((i+1:Nat):Int):=by rw[Wd,B];rfl
 rw[T];show dZ ⟨by lia,by lia⟩ ?_;rw[WC];show gj (i+1) (λq σ a=>Upd st f a/\a[f]?=some (.lst (aq ((List.range q).map λj=>Mx.lam (Mx.ae A) i j)))/\∃m l h d b,σ=[some (bq A),some (.ref g),some (.ref kn),some (cn (A.getD i [])),some (.ref f),m,l,h,d,b]) ?_ ?_ ⟨Upd.refl,S,_,_,_,_,_,rfl⟩
 . rintro σ a ⟨U,e,m,l,h,d,b,rfl⟩;rw[HN]at e;show k a m l h d b U e
 . rintro q σ s rest Z ⟨U,e,m,l,h,d,b,rfl⟩ next
   show⟨_,rfl,?_⟩;show az rfl (BI (by lia)) ?_;let X:=n.is.eJ _ (n.mem v);show⟨_,_,A.getD i [],A.getD q [],rfl,rfl,rfl,by lia,Nq n v (by lia),?_⟩;let y:=(U.same kn u).trans C;let z:=(U.same g x).trans R;show⟨Wt rfl,NV y (by rw[Xn,Wd];simp;lia) ?_⟩;let t:=(Wa.mp e).1
   let M:∃(o:Nat) (p:List Int),(cs.map D.ref++[D.ref f])[q]?=some (.ref o)/\s[o]?=some (.lst (aq p))/\q<=p.length/\∀k,k<q->p.getD k 0=Mx.lam (Mx.ae A) q k:=by
    by_cases L:q<i
    . have F:cs[q]?=some cs[q]:=Wm (by lia);obtain⟨W,V⟩:=P q _ F;show⟨cs[q],Mx.a8 (Mx.ae A) q,?_,(U.same _ W).trans V,by rw[Mx.dg];lia,λk r=>Mx.gG _ (by lia)⟩;rw[Wh (by rw[Wd];lia),Wr,F];rfl
    . have:q=i:=by lia
      subst this;show⟨f,_,?_,e,by rw[vT];lia,λk r=>qi _ r⟩;rw[WD (by rw[Wd];lia),Wd,B,XU];rfl
   obtain⟨o,p,J,I,H,G⟩:=M;show az rfl (dQ J) ?_;show Pl n.gm v (by lia) Q z e I K (vT _ _ _) H O (λk r=>qi _ r) G λd b=>?_;show oG (by rfl) e (my rfl (lE e (by rw[Xn,Wd,vT];lia) ?_));show next _ _ ⟨U.trans Upd.set,?_,_,_,_,_,_,rfl⟩
   rw[Wn t,vh]
def Qf{n k:Nat}(h:k<n):((List.range n).map λq=>Mx.D q G).getD k 0=Mx.D k G:=by rw[Mx.aP (by simpa using h),Xa,Xe]
def Ui(G:Mx.Fn)(q:Nat):aq ((List.range q).map λj=>Mx.D j G)++[.int (Mx.D q G)]=aq ((List.range (q+1)).map λj=>Mx.D j G):=by rw[X5,Xz];simp[aq]
def GO:V8 g6 1 HU y6:=by
 rintro ds st K ⟨A,N,w,rfl,S,k1,k2⟩;show⟨rfl,?_⟩;let hn:=S.gm.le;let hl:=S.is.len;show⟨Wt rfl,Wt rfl,?_⟩;let X0:Ext st (st++[.lst [.int 1]]++[.lst []]):=Ext.push.trans Ext.push
 let ah:(st++[Cell.lst [.int 1]]++[Cell.lst []])[st.length]?=some (.lst (aq ((List.range (0+1)).map λq=>Mx.D q (Mx.ae A)))):=by
  rw[XD,WD (Wg _),XU];rfl
 let Z:(st++[Cell.lst [.int 1]]++[Cell.lst []])[st.length+1]?=some (.lst (([]:List Nat).map D.ref)):=by
  rw[XD,WD (by lia)];let:st.length+1-st.length=1:=by lia
  rw[this];rfl
 let e:(st++[Cell.lst [.int 1]]++[Cell.lst []]).length=st.length+2:=by simp
 let T:∀k,k<=0->Mx.D k (Mx.ae A)≠0:=λk hk=>by
  let:k=0:=by lia
  rw[this,Mx.gX];decide
 let t:(st++[Cell.lst [.int 1]]).length=st.length+1:=by simp
 show fw ?_;show e7 (λrest σ d=>∃(i:Nat) (cs:List Nat) (O M G F C B z:Option D),i<=N/\σ=[some (bq A),some (.ref st.length),some (.ref (st.length+1)),O,M,G,F,C,B,z]/\rest=(A.drop i).map cn/\Ext st d/\st.length+2<=d.length/\d[st.length]?=some (.lst (aq ((List.range (i+1)).map λq=>Mx.D q (Mx.ae A))))/\d[st.length+1]?=some (.lst (cs.map D.ref))/\cs.length=i/\(∀k,k<=i->Mx.D k (Mx.ae A)≠0)/\∀j c,cs[j]?=some c->st.length+2<=c/\c<d.length/\d[c]?=some (.lst (aq (Mx.a8 (Mx.ae A) j)))) ?_ ?_ _ _ _ ⟨0,[],none,none,none,none,none,none,none,WU _,by rw[t];rfl,rfl,X0,by rw[e];lia,ah,Z,rfl,T,λj c h=>by simp at h⟩
 . rintro σ a ⟨i,cs,O,M,G,F,C,B,z,hi,rfl,p,X,r,L,J,o,I,H⟩;show⟨trivial,?_⟩
   let:i=N:=by
    let:=Xl List.length p;simp at this;lia
   subst this;show⟨Wt rfl,k2 a _ _ cs X I ⟨L,J,o,λj c h=>(H j c h).2.2⟩⟩
 . rintro x rest σ a ⟨i,cs,O,M,G,F,C,B,z,hi,rfl,p,X,r,L,J,o,I,H⟩ next
   let s:i<N:=by
    let:=Xl List.length p;simp at this;lia
   rw[WG (show i<A.length by lia),WJ,Xp]at p;obtain⟨rfl,rfl⟩:=p;let er:A[i]=A.getD i []:=(Mx.aP (by lia)).symm;rw[er];show⟨trivial,_,rfl,?_⟩;show⟨Wt rfl,?_⟩;let l:Ext a (a++[.lst []]):=Ext.push;let ef:(a++[Cell.lst []])[a.length]?=some (.lst []):=by simp
   show Of (E:={nx:=_,rt:=K,ct:=_,bk:=_}) (i:=i) (g:=st.length) (kn:=st.length+1) (f:=a.length) (cs:=cs) (gl:=(List.range (i+1)).map λq=>Mx.D q (Mx.ae A)) S s I ((l.same _ (by lia)).trans L) ((l.same _ (by lia)).trans J) ef (by simp) o (by lia) (by lia) (λk hk=>Qf (by lia)) (λj c h=>by
    obtain⟨h1,W,V⟩:=H j c h;show⟨by lia,(l.same _ W).trans V⟩) λb G F C B z U y=>?_
   let l2:b.length=a.length+1:=by rw[U.len];simp
   let it:=au y;let X2:Ext st b:=⟨by lia,λm hm=>by rw[U.same m (by lia),l.same m (by lia)];show X.same m hm⟩
   show d7 (az it (jy (Mx.dg _ i)) ?_);rw[Mx.gG _ (Wg i),Mx.cZ];show eq2 (λh=>eH (k1 b X2 ⟨i+1,by lia,h⟩)) λh=>?_;let v:b[st.length]?=some (.lst (aq ((List.range (i+1)).map λq=>Mx.D q (Mx.ae A)))):=by rw[U.same _ (by lia),l.same _ (by lia)];show L
   let Y:b[st.length+1]?=some (.lst (cs.map D.ref)):=by rw[U.same _ (by lia),l.same _ (by lia)];show J
   show oG (by rfl) v (d7 (az it (jy (Mx.dg _ i)) ?_));rw[Mx.gG _ (Wg i),Mx.cZ];show lE v (by rw[Xn];simp;lia) ?_;rw[Ui];let u:(b.set st.length (.lst (aq ((List.range (i+1+1)).map λq=>Mx.D q (Mx.ae A)))))[st.length+1]?=some (.lst (cs.map D.ref)):=by rw[Wf (by lia)];show Y
   show oG (by rfl) u (my rfl (lE u (by rw[Xn];simp;lia) ?_));show next _ _ ⟨i+1,cs++[a.length],_,_,_,_,_,_,_,s,rfl,rfl,?_,by simp;lia,?_,?_,by simp[o],λq hq=>?_,λj c n=>?_⟩
   . show(X2.set (Wg _)).set (by lia)
   . rw[Wf (by lia),Wn (by lia)]
   . rw[Wn (by rw[Wv];lia),Xz];rfl
   . by_cases P:q=i+1
     . rw[P];show h
     . show I q (by lia)
   . by_cases R:j<cs.length
     . rw[Wh R]at n;obtain⟨h1,W,V⟩:=H j c n;show⟨h1,by simp;lia,?_⟩;rw[Wf (by lia),Wf (by lia),U.same _ (by lia),l.same _ W];show V
     . have Q:=(Wa.mp n).1;let:j=i:=by simp at Q;lia
       subst this;rw[WD (by lia),o,XU]at n;simp at n;subst n;show⟨by lia,by simp;lia,?_⟩;rw[Wf (by lia),Wf (by lia)];show y
def pD:bM:=λb st K=>∃(A:List (List Int)) (N w:Nat),b=[bq A]/\zg A N w/\(∀k,k<=N->Mx.D k (Mx.ae A)≠0)/\(Mx.Sh (Mx.ae A) N->∀a,Ext st a->K (.bl true) a)/\(¬Mx.Sh (Mx.ae A) N->∀a,Ext st a->K (.bl false) a)
def u5:List Str:=["_law_steps","_law_told","_law_grown","_law_known","_law_i","_law_j","_law_here","_law_least"]
def DX:DS:=(av (aN 1 (ay g6 (ab (aa 0) ag)))
 (av (cN (aV (aj EZ (aa 1) (dC .aD))) (a6 (dC (.bl false))) cz)
 (av (xT (fz 2 3) (aa 1))
 (av (eQ (cR (ab (br dD (ab (aa 3) ag)) ag)) (ba 4) (av (eQ (cR (ab (aa 4) ag)) (ba 5) (cN (aV (aj qd (aj bG (dC (.int 2)) (br mT (ab (aj aI (aj aI (aa 3) (aa 4)) (aa 5)) ag))) (aj aI (aa 2) (aj cE (aa 5) (dC (.int 1)))))) (a6 (dC (.bl false))) cz))
 (cN (aV (aj qd (aa 4) (dC (.int 0)))) (av (aN 6 (aj aI (aj aI (aa 3) (aa 4)) (aj cY (aa 4) (dC (.int 1)))))
 (av (aN 7 (aj cY (aj bG (aj bG (dC (.int 3)) (aj aI (aa 2) (aa 4))) (aj aI (aa 2) (aa 4))) (aj bG (aj bG (dC (.int 4)) (aa 6)) (aa 6))))
 (cN (aV (aj oX (aj bG (aj bG (dC (.int 4)) (aj aI (aa 2) (aj cE (aa 4) (dC (.int 1))))) (aj aI (aa 2) (aj cY (aa 4) (dC (.int 1))))) (aa 7))) (a6 (dC (.bl false))) cz))) cz)))
 (a6 (dC (.bl true)))))))
def B7:V8 pD 1 DX u5:=by
 rintro ds st K ⟨A,N,w,rfl,Y,hD,kT,U⟩;show⟨rfl,?_⟩;let x:=Y.gm;let h8:=x.le;show⟨A,N,w,rfl,Y,λs F hz=>?_,λs g l E F _ O=>?_⟩
 . obtain⟨k,hk,z⟩:=hz;show absurd z (hD k hk)
 show CN rfl ?_;show⟨_,rfl,?_⟩;let J:=au O.ek;let u:=au O.eg;let lc:=O.lc
 let d:∀m,m<=N->du (aq ((List.range (N+1)).map λq=>Mx.D q (Mx.ae A))) ((m:Nat):Int)=some (.int (Mx.D m (Mx.ae A))):=λm y=>by
  let:=jr (r:=(List.range (N+1)).map λq=>Mx.D q (Mx.ae A)) (k:=m) (by simp;lia);rw[Qf (by lia)]at this;show this
 let t:∀i m,m<=i->du (aq (Mx.a8 (Mx.ae A) i)) ((m:Nat):Int)=some (.int (Mx.lam (Mx.ae A) i m)):=λi m y=>by
  let:=jr (r:=Mx.a8 (Mx.ae A) i) (k:=m) (by rw[Mx.dg];lia);rw[Mx.gG _ y]at this;show this
 show cM J ?_;rw[Wd,lc];show dZ ⟨by lia,by lia⟩ ?_;rw[WC];show gj N (λq σ c=>c=s/\∃G b o n:Option D,σ=[some (bq A),some (.tup [.ref g,.ref l]),some (.ref g),some (.ref l),G,b,o,n]/\(∀i j,j<i->i<q->2*(((Mx.lam (Mx.ae A) i j).natAbs:Nat):Int)<=Mx.D (j+1) (Mx.ae A))/\∀i,0<i->i<q->¬4*Mx.D (i+1) (Mx.ae A)*Mx.D (i-1) (Mx.ae A)<3*Mx.D i (Mx.ae A)*Mx.D i (Mx.ae A)-4*Mx.lam (Mx.ae A) i (i-1)*Mx.lam (Mx.ae A) i (i-1)) ?_ ?_ ⟨rfl,none,none,none,none,rfl,λi j _ h=>by lia,λi _ h=>by lia⟩
 . rintro σ c ⟨rfl,G,b,o,n,rfl,R,C⟩;show kT ⟨R,C⟩ _ F
 . rintro q σ c rest L ⟨rfl,G,b,o,n,rfl,R,C⟩ next
   show⟨_,rfl,?_⟩;let ec:E[q]?=some E[q]:=Wm (by lia);let Z:(E.map D.ref)[q]?=some (.ref E[q]):=by rw[Wr,ec];rfl
   let V:=au (O.row q _ ec);dsimp only;show tZ (λS a=>a=c/\∃b:Option D,S=[some (bq A),some (.tup [.ref g,.ref l]),some (.ref g),some (.ref l),some (.int (q:Int)),b,o,n]/\∀j,j<q->2*(((Mx.lam (Mx.ae A) q j).natAbs:Nat):Int)<=Mx.D (j+1) (Mx.ae A)) (λnx M=>?_) ?_
   . show dZ ⟨by lia,by lia⟩ ?_;rw[WC];show gj q (λm σ a=>a=c/\∃b:Option D,σ=[some (bq A),some (.tup [.ref g,.ref l]),some (.ref g),some (.ref l),some (.int (q:Int)),b,o,n]/\∀j,j<m->2*(((Mx.lam (Mx.ae A) q j).natAbs:Nat):Int)<=Mx.D (j+1) (Mx.ae A)) ?_ ?_ ⟨rfl,b,rfl,λj h=>by lia⟩
     . rintro σ a ⟨rfl,b,rfl,h⟩;show M _ _ ⟨rfl,b,rfl,h⟩
     . rintro m σ a I y ⟨rfl,b,rfl,h⟩ xr;show⟨_,rfl,?_⟩;show az J (dQ Z) (az V (t q m (by lia)) (mJ (bE (d4 (by decide) (by decide)) (cL (az u (d (m+1) (by lia)) (HD (λB=>eH ?_) λB=>?_))))))
       . show U (λH=>by let:=H.half q m y L;lia) _ F
       . show xr _ _ ⟨rfl,_,rfl,λj Q=>?_⟩;by_cases P:j=m
         . subst P;show B
         . show h j (by lia)
   rintro S a ⟨rfl,b,rfl,B⟩
   let v:∀i j,j<i->i<q+1->2*(((Mx.lam (Mx.ae A) i j).natAbs:Nat):Int)<=Mx.D (j+1) (Mx.ae A):=λi j Q W=>by
    by_cases e:i=q
    . subst e;show B j Q
    . show R i j Q (by lia)
   show HD (λh0=>eH ?_) λh0=>next _ _ ⟨rfl,_,_,_,_,rfl,v,λi f W=>C i f (by lia)⟩
   let em:((q:Nat):Int)-1=((q-1:Nat):Int):=by lia
   let b1:=x.D (p:=q) (by lia);let b2:=x.D (p:=q+1) (by lia);let b3:=x.D (p:=q-1) (by lia);let b4:(Mx.lam (Mx.ae A) q (q-1)).natAbs<=2^6100:=x.gx (by lia) L (by lia);let t3:(3:Int).natAbs<=2^2:=by decide
   let T:(4:Int).natAbs<=2^3:=by decide
   show az J (dQ Z) (cF ?_);rw[em];show az V (t q (q-1) (by lia)) ?_;show az u (d q (by lia)) (bE (d4 (by decide) (by decide)) (az u (d q (by lia)) (bE (dq (mF t3 b1) b1 (by decide) (by decide)) (bE (d4 (by decide) (by decide)) (bE (dq (mF T b4) b4 (by decide) (by decide)) (cF ?_))))));show cL (az u (d (q+1) (by lia)) (bE (d4 (by decide) (by decide)) (cF ?_)));rw[em];show az u (d (q-1) (by lia)) (bE (dq (mF T b2) b3 (by decide) (by decide)) (IY (λX=>eH ?_) λX=>?_))
   . show U (λH=>H.FF q (by lia) L X) _ F
   . show next _ _ ⟨rfl,_,_,_,_,rfl,v,λi f W=>?_⟩
     by_cases e:i=q
     . subst e;lia
     . show C i f (by lia)
def dF:bM:=λb st K=>∃(P Q:List (List Int)) (m p n:Nat),b=[bq P,bq Q]/\Mx.aQ m p P/\Mx.aQ p n Q/\1<=p/\m<=1000/\p<=1000/\n<=1000/\(∀r∈P,∀x∈r,x.natAbs<=2^500000)/\(∀r∈Q,∀x∈r,x.natAbs<=2^500000)/\∀a,Ext st a->K (bq (Mx.mulM P Q n)) a
def rm:List Str:=["_law_one","_law_other","_law_found","_law_weights","_law_made","_law_weight","_law_row"]
def Ab:DS:=(av (aN 2 (oz ag))
 (av (eQ (dy (aa 0)) (ba 3) (av (aN 4 (aj bG (jc (ab (dC (.int 0)) ag)) (br dD (ab (aj aI (aa 1) (dC (.int 0))) ag))))
 (av (eQ (ma (ab (aa 3) (ab (aa 1) ag))) (fz 5 6) (aN 4 (cC (ma (ab (aa 4) (ab (aa 6) ag))) [none,none,some 5] (fz 0 1) bN (aj cE (aa 0) (aj bG (aa 2) (aa 1))))))
 (eh (gd (aa 2) (br de (ab (aa 4) ag)))))))
 (a6 (br de (ab (aa 2) ag)))))
def xF:∀(r s:List Int),(eG (aq r) (aq s)).map (λd=>match d with| .tup [.int a,.int b]=> .int (a+t*b)|_=> .aD)=aq (Mx.eR r t s)
 | [],_=>rfl
 |_::_,[]=>rfl
 |a::r,b::s=>by
  let:=xF (t:=t) r s;unfold eG Mx.eR at this⊢;simp![aq,WJ,aao,ZF]at this⊢;rw[this]
def x8:V8 dF 2 Ab rm:=by
 rintro ds st K ⟨P,Q,m,p,n,rfl,S,I,hp,hm,Z,hn,bP,bQ,W⟩;show⟨rfl,?_⟩;let lP:=S.len;let lQ:=I.len;show⟨Wt rfl,?_⟩;let X0:Ext st (st++[.lst []]):=Ext.push;let e0:(st++[Cell.lst []])[st.length]?=some (.lst (([]:List (List Int)).map cn)):=by simp
 show fw ?_;show e7 (λrest σ v=>∃(J A:List (List Int)) (M L z y:Option D),J++A=P/\rest=A.map cn/\σ=[some (bq P),some (bq Q),some (.ref st.length),M,L,z,y]/\Ext st v/\v[st.length]?=some (.lst ((Mx.mulM J Q n).map cn))) ?_ ?_ _ _ _ ⟨[],P,none,none,none,none,rfl,rfl,rfl,X0,e0⟩
 . rintro σ B ⟨J,A,M,L,z,y,f,i,rfl,X,e⟩;show⟨trivial,?_⟩;match A,i with
   | [],_=>
     rw[Xw]at f;subst f;show cQ (au e) (W B X)
 . rintro x rest σ B ⟨J,A,M,L,z,y,f,i,rfl,X,e⟩ next
   match A,i,f with
   |u::A,i,f=>
    rw[WJ,Xp]at i;obtain⟨rfl,rfl⟩:=i;let E:u∈P:=by rw[<-f];simp
    let V:=S.eJ u E;show⟨trivial,_,rfl,?_⟩;let C:Q.getD 0 []∈Q:=by rw[Mx.aP (by lia)];show WM _
    show⟨Wt rfl,az (e:=cn (Q.getD 0 [])) rfl (BI (j:=0) (by lia)) (cM rfl (EX ⟨by rw[Wd];lia,by rw[Wd,I.eJ _ C];lia,bS (by rw[Wd,I.eJ _ C];simp;lia)⟩ ?_))⟩;rw[Wd,I.eJ _ C,WC,A3];show jN rfl rfl λok T=>?_;show e7 (λrest σ v=>v=B/\∃(l:List Int) (s:List (List Int)) (k:List Int) (z y:Option D),rest=eG (aq l) (s.map cn)/\σ=[some (bq P),some (bq Q),some (.ref st.length),some (cn u),some (aT k),z,y]/\k.length=n/\(∀x∈l,x∈u)/\(∀r∈s,r∈Q)/\Mx.ft l s k=Mx.ft u Q (List.replicate n 0)) ?_ ?_ _ _ _ ⟨rfl,u,Q,_,z,y,rfl,rfl,by simp,λx h=>h,λr h=>h,rfl⟩
    . rintro σ N ⟨rfl,l,s,k,z,y,i,rfl,O,o,q,w⟩;show⟨T _ rfl rfl,?_⟩
      let H:k=Mx.ft u Q (List.replicate n 0):=by
       match l,s,i,w with
       | [],_,_,w=>show w
       |_::_,[],_,w=>show w
       |_::_,_::_,i,_=>cases i
      show oG (by rfl) e (cQ rfl (lE e (by rw[Xn,Wd];unfold Mx.mulM;rw[Wd];let:=Xl List.length f;simp at this;lia) ?_));let R:=(Wa.mp e).1;show next _ _ ⟨J++[u],A,_,_,_,_,by rw[<-f];simp,rfl,rfl,X.set (Wg _),?_⟩
      rw[Wn R,H];unfold Mx.mulM;simp
    . rintro x rest σ N ⟨rfl,l,s,k,z,y,i,rfl,O,o,q,w⟩ xr;match l,s,i,w,o,q with
      | [],_,i,_,_,_=>cases i
      |_::_,[],i,_,_,_=>cases i
      |c::l,r::s,i,w,o,q=>
       have Y:eG (aq (c::l)) ((r::s).map cn)= .tup [.int c,cn r]::eG (aq l) (s.map cn):=rfl;rw[Y,Xp]at i;obtain⟨rfl,rfl⟩:=i;let F:=q r Wx;show⟨T _ rfl rfl,_,rfl,?_⟩;show jN rfl rfl λU G=>⟨bS (by rw[jf,Wd];lia),?_⟩
       show comp_map (g:=λd=>match d with| .tup [.int a,.int b]=> .int (a+c*b)|_=> .aD) (G _ rfl rfl) _ (λd hd K' t=>?_) ?_
       . obtain⟨a,b,ha,hb,rfl⟩:=oE hd;show⟨_,rfl,bE (dq (bP u E c (o c Wx)) (bQ r F b hb) (by decide) (by decide)) (cL t)⟩
       rw[xF];show xr _ _ ⟨rfl,l,s,_,_,_,rfl,rfl,by rw[Mx.l9 (by rw[O,I.eJ r F])];show O,λx h=>o x (Ww _ h),λr h=>q r (Ww _ h),w⟩
def kE:bM:=λa st K=>∃(n:Nat),a=[.int n]/\n<=1000/\K (bq (Mx.units n)) st
def wU:List Str:=["_law_n"]
def FU:DS:=(a6 (br de (ab (cC (cR (ab (aa 0) ag)) [none,some 0] (ba 0) bN (br de (ab (cC (cR (ab (aa 1) ag)) [none,some 0] (ba 0) bN (br qF (ab (aj iZ (aa 1) (aa 0)) ag))) ag))) ag)))
def DR:V8 kE 1 FU wU:=by
 rintro e st K ⟨n,rfl,b,k⟩;show⟨rfl,?_⟩;show dZ ⟨by lia,by lia⟩ ⟨bS (by rw[dM];lia),?_⟩;rw[WC];show lx (λi=>cn (Mx.fJ n i)) n (λi d a q=>⟨_,rfl,?_⟩) ?_
 . show dZ ⟨by lia,by lia⟩ ⟨bS (by rw[dM];lia),?_⟩;rw[WC];show lx (λj=> .int (Mx.dl j i)) n (λj c a q=>⟨_,rfl,?_⟩) ?_
   . show eq2 (λh=>tS ?_) λh=>tS ?_
     . have:j=i:=by lia
       subst this;rw[Mx.dv]at q;show q
     . rw[Mx.dJ (by lia)]at q;show q
   . have:(List.range n).map (λj=>D.int (Mx.dl j i))=aq (Mx.fJ n i):=by unfold Mx.fJ aq;rw[WL];rfl
     rw[this];show cQ rfl q
 let:(List.range n).map (λi=>cn (Mx.fJ n i))=(Mx.units n).map cn:=by unfold Mx.units;rw[WL];rfl
 rw[this];show cQ rfl k
def iB:bM:=λa st K=>∃(B:List (List Int)) (m n:Nat),a=[bq B,.int m,.int n]/\Mx.aQ m n B/\n<=1000/\K (.bl true) st
def rh:List Str:=["_law_rows_here","_law_many","_law_wide","_law_row"]
def zZ:DS:=(av (cN (ip (dP (aV (br kC (ab (aa 0) (ab (dC (.ty "tuple")) ag))))) (aV (aj nj (br dD (ab (aa 0) ag)) (aa 1)))) (a6 (dC (.bl false))) cz)
 (av (eQ (dy (aa 0)) (ba 3) (av (cN (ip (dP (aV (br kC (ab (aa 3) (ab (dC (.ty "tuple")) ag))))) (aV (aj nj (br dD (ab (aa 3) ag)) (aa 2)))) (a6 (dC (.bl false))) cz)
 (cN (dP (aV (br tH (ab (cC (dy (aa 3)) [none] (ba 0) bN (qu (br kC (ab (aa 0) (ab (dC (.ty "int")) ag))) (xj (aV (br kC (ab (aa 0) (ab (dC (.ty "bool")) ag))))))) ag)))) (a6 (dC (.bl false))) cz)))
 (a6 (dC (.bl true)))))
def xN:V8 iB 3 zZ rh:=by
 rintro w st K ⟨B,m,n,rfl,l,v,k⟩;show⟨rfl,?_⟩;let o:=l.len;show mO rfl (by decide) ?_;show cM rfl (Eh (by rw[Wd,o]) ?_);show fw ?_;show e7 (λrest σ a=>a=st/\∃(b:List (List Int)) (j:Option D),rest=b.map cn/\(∀r∈b,r∈B)/\σ=[some (bq B),some (.int (m:Int)),some (.int (n:Int)),j]) ?_ ?_ _ _ _ ⟨rfl,B,none,rfl,λr h=>h,rfl⟩
 . rintro σ a ⟨rfl,b,j,c,e,rfl⟩;show⟨trivial,k⟩
 . rintro x rest σ a ⟨rfl,b,j,c,e,rfl⟩ next
   match b,c,e with
   |r::b,c,e=>
    rw[WJ,Xp]at c;obtain⟨rfl,rfl⟩:=c;let p:=l.eJ r (e r Wx);show⟨trivial,_,rfl,?_⟩;show mO rfl (by decide) ?_;show cM rfl (Eh (by rw[Wd,p]) ?_);show fw ⟨bS (by rw[Wd];lia),?_⟩;show comp_map (g:=λ_=> .bl true) trivial _ (λd s y q=>?_) ?_
    . obtain⟨i,_,rfl⟩:=WK.mp s;show⟨_,rfl,mO rfl (by decide) (eH (mO rfl (by decide) q))⟩
    let t:gp ((aq r).map λ_=>D.bl true)=some ((aq r).map λ_=>true):=sf (f:=λ_=>true) (aq r);show xo t ?_;let u:((aq r).map λ_=>true).all id=true:=by simp
    rw[u];show next _ _ ⟨rfl,b,_,rfl,λr h=>e r (Ww _ h),rfl⟩
def eP:bM:=λc st K=>∃(A a U B:List (List Int)) (N w:Nat),c=[bq A,.tup [bq a,bq U,bq B]]/\EE A a U B N w/\zg a N w/\(∀k,k<=N->Mx.D k (Mx.ae a)≠0)/\Mx.Sh (Mx.ae a) N/\∀b,Ext st b->K (.bl (yN A a U B N w)) b
def rD:List Str:=["_law_steps","_law_told","_law_made","_law_turn_here","_law_back","_law_n"]
def z9:DS:=(av (cN (ip (dP (aV (br kC (ab (aa 1) (ab (dC (.ty "tuple")) ag))))) (aV (aj nj (br dD (ab (aa 1) ag)) (dC (.int 3))))) (a6 (dC (.bl false))) cz)
 (av (xT (pV 2 3 4) (aa 1))
 (av (aN 5 (br dD (ab (aa 0) ag)))
 (av (cN (ip (dP (aV (ay iB (ab (aa 2) (ab (aa 5) (ab (br dD (ab (aj aI (aa 0) (dC (.int 0))) ag)) ag)))))) (ip (dP (aV (ay iB (ab (aa 3) (ab (aa 5) (ab (aa 5) ag)))))) (dP (aV (ay iB (ab (aa 4) (ab (aa 5) (ab (aa 5) ag)))))))) (a6 (dC (.bl false))) cz)
 (av (cN (ip (aV (aj nV (ay dF (ab (aa 3) (ab (aa 4) ag))) (ay kE (ab (aa 5) ag)))) (aV (aj nV (ay dF (ab (aa 3) (ab (aa 0) ag))) (aa 2)))) (a6 (dC (.bl false))) cz)
 (a6 (ay pD (ab (aa 2) ag))))))))
def x6:V8 eP 2 z9 rD:=by
 rintro u st K ⟨A,i,U,B,N,w,rfl,h,p,q,f,k⟩;show⟨rfl,?_⟩;let l:=h.n1;let t:=h.n8;let s:=h.w8;let o:=h.a.len;show mO rfl (by decide) ?_;show cM rfl (Eh rfl ?_);show⟨_,rfl,?_⟩;show cM rfl ?_;rw[Wd,o];let n:(A.getD 0 []).length=w:=Mx.bg h.a (by lia);show az (e:=cn (A.getD 0 [])) rfl (BI (j:=0) (by lia)) (cM rfl ?_);rw[Wd,n];show⟨i,N,w,rfl,h.a',by lia,?_⟩;show⟨U,N,N,rfl,h.u,by lia,?_⟩;show⟨B,N,N,rfl,h.b,by lia,?_⟩;show⟨U,B,N,N,N,rfl,h.u,h.b,l,by lia,by lia,by lia,h.bU,h.bB,λd g=>?_⟩;show⟨N,rfl,by lia,CD ie ie ?_⟩;rw[rf];unfold yN at k;by_cases e:Mx.mulM U B N=Mx.units N
 . rw[Xb e,Bool.true_and]at k;rw[Xb e];show⟨U,A,N,N,w,rfl,h.u,h.a,l,by lia,by lia,by lia,h.bU,h.bA,λc m=>CD ie ie ?_⟩;rw[rf];by_cases a:i=Mx.mulM U A w
   . rw[Xb a]at k;rw[Xb a.symm];show⟨i,N,w,rfl,p,q,λ_ b r=>k b ((g.trans m).trans r),λz=>absurd f z⟩
   . rw[WH a]at k;rw[WH λz=>a z.symm];show k c (g.trans m)
 . rw[WH e,aa1]at k;rw[WH e];show k d g
def BZ{A:List (List Int)}{N w M:Nat}(a:Mx.aQ N w A)(h:∀r∈A,∀x∈r,x.natAbs<=M):∀i c,i<N->c<w->(Mx.g A i c).natAbs<=M:=λi c b f=>by
 let e:=a.len;let d:=a.row b;unfold Mx.g;show h _ (by rw[Mx.aP (by lia)];show WM _) _ (getD_mem (by lia))
def EV{A:List (List Int)}{N w M:Nat}(d:Mx.aQ N w A)(h:∀i c,i<N->c<w->(Mx.g A i c).natAbs<=M):Mx.iA A N 0 M:=λi c _ a=>by
 by_cases b:c<w
 . show h i c a b
 . have e:=d.row a;unfold Mx.g;rw[Mx.nL (by lia)];show WU _
def Oy{A A' U C:List (List Int)}{N w:Nat}(T:Mx.Tn A A' U C N w):Mx.mq A N A' N w:=by
 show⟨λk a=>⟨λi=>Mx.g C i k,λq b=>?_⟩,λk a=>⟨Mx.g U k,λq b=>T.ua k q a b⟩⟩
 let e:(Mx.S N λi=>Mx.g C i k*Mx.g A' i q)=Mx.S N λi=>Mx.S N λj=>Mx.g C i k*Mx.g U i j*Mx.g A j q:=Mx.ax λi d=>by
  rw[T.ua i q d b,<-Mx.cW];show Mx.ax λj _=>(Xv _ _ _).symm
 rw[e,Mx.iD];let f:(Mx.S N λj=>Mx.S N λi=>Mx.g C i k*Mx.g U i j*Mx.g A j q)=Mx.S N λj=>Mx.dl k j*Mx.g A j q:=Mx.ax λj c=>by rw[Mx.kD,T.bu k j a c]
 rw[f];show(Mx.iz a λj=>Mx.g A j q).symm
def SG{x:Int}{e:Nat}(h:x*x<=2^(e+e)):x.natAbs<=2^e:=by
 let c:((x.natAbs*x.natAbs:Nat):Int)=x*x:=aae;let b:((2^(e+e):Nat):Int)=2^(e+e):=Xy 2 _;rw[<-c,<-b]at h;let a:=Zr.mp h;rw[XM]at a;show Nat.mul_self_le_mul_self_iff.mp a
def Ra{A:List (List Int)}{N w i c:Nat}(g:Mx.aQ N w A)(a:i<N)(b:c<w):Mx.g A i c*Mx.g A i c<=Mx.ae A i i:=by
 rw[Mx.fP g a a]
 let k:∀n,n<=w->(c<n->Mx.g A i c*Mx.g A i c<=Mx.S n λc=>(A.getD i []).getD c 0*(A.getD i []).getD c 0)/\0<=Mx.S n λc=>(A.getD i []).getD c 0*(A.getD i []).getD c 0:=λn=>by
  induction n with
  |zero=>show λ_=>⟨λz=>absurd z (Xx _),ZC _⟩
  |succ n f=>
   intro h;obtain⟨j,e⟩:=f (by lia)
   let d:0<=(A.getD i []).getD n 0*(A.getD i []).getD n 0:=by
    rcases Int.le_total 0 ((A.getD i []).getD n 0)with z|z
    . show Y9 z z
    . show Zx z z
   show⟨λb=>?_,?_⟩
   . rcases YS c n with z|z
     . show WN (j z) (Int.le_add_of_nonneg_right d)
     . have:c=n:=by lia
       subst this;show Int.le_add_of_nonneg_left e
   . show aa9 e d
 show(k w (Wg w)).1 b
def RW{A:List (List Int)}{N w b e:Nat}(f:Mx.aQ N w A)(l:N<=8)(h:w<=8)(d:∀r∈A,∀x∈r,x.natAbs<=b)(j:(8*(8*(b*b)))^N<=2^e):Mx.D N (Mx.ae A)<=2^e:=by
 let mem:∀i,i<N->A.getD i []∈A:=λi n=>by let:=f.len;rw[Mx.aP (by lia)];show WM _
 let:(Mx.D N (Mx.ae A)).natAbs<=2^e:=Wj (Mx.qp l λr c a k=>by
  let g:=tQ (d _ (mem r a)) (d _ (mem c k));let m:=f.eJ _ (mem r a);unfold Mx.ae;rw[m]at g;show Wj g (Xm _ h)) j
 let o:((2^e:Nat):Int)=2^e:=Xy 2 _;lia
def Ux(b:1<=x)(a:N<=y):x^N<=x^y:=Ws b a
def Au{A:List (List Int)}{N w:Nat}{r:List Int}{x:Int}(b:Mx.aQ N w A)(a:r∈A)(d:x∈r):∃i c,i<N/\c<w/\x=Mx.g A i c:=by
 obtain⟨i,e,rfl⟩:=WV.mp a;obtain⟨c,f,rfl⟩:=WV.mp d;let h:=b.len;let g:=b.eJ _ a;show⟨i,c,by lia,by lia,?_⟩;unfold Mx.g;rw[Mx.aP e,Mx.aP f]
def F9{A:List (List Int)}{N w E:Nat}(a:Mx.aQ N w A)(j:N<=8)(n:w<=8)(o:E<=200)(g:∀i,i<N->Mx.ae A i i<=2^E)(m:(E+3)*N<=744)(l:(E+3)*(N-1)<=651):St A N w:=by
 let h:(8*2^E:Nat)=2^(E+3):=by rw[XM,X6]
 let d:∀i,i<N->Mx.ae A i i<=((2^E:Nat):Int):=λi f=>by rw[Xy];show g i f
 show⟨a,by lia,λr b x k=>?_,j,⟨2^E,λr c b e=>Mx.oY (Mx.AU (by rw[Mx.bg a b,Mx.bg a e])) (Mx.ff a b) (Mx.ff a e) (d r b) (d c e),?_,?_,Y1⟩,Mx.ji A⟩
 . obtain⟨i,c,f,e,rfl⟩:=Au a b k;show SG (WN (Ra a f e) (WN (g i f) (Mx.p2 (by lia))))
 . rw[h,<-Zg];show Ws (by decide) m
 . rw[h,<-Zg];show Ws (by decide) l
def zx:∀A:List (List Int),o_ (A.map cn)=some (A.map aq)
 | []=>rfl
 |x::l=>by rw[WJ,WJ];unfold o_;rw[zx l];rfl
def Bf:∀ {l:List (List Int)},(∀x∈l,x.length=w)->l.flatten.length=l.length*w
 | [],_=>by simp
 |x::l,h=>by
  let:=Bf (l:=l) λy a=>h y (Ww _ a);let b:=h x Wx;rw[WR,W5,this,WS,ZE,b];lia
structure Tc(st:af)(a b n:Nat)(T C:List (List Int)):Prop where
 ea:st[a]?=some (.lst (T.map aT))
 eb:st[b]?=some (.lst (C.map aT))
 lf:Lf st n
def Bd(A:List (List Int))(e:Nat):Prop:=∀r∈A,∀x∈r,x.natAbs<=2^e
def nD:bM:=λb st K=>∃(n N w:Nat) (A:List (List Int)) (dd mo:Int),b=[.ref n,.int N,.int dd,.int mo]/\Lf st n/\Mx.aQ N w A/\1<=N/\N<=8/\0<=dd/\dd<=10/\1<=mo/\mo<=3/\∀a c T C,Mx.Tn A c T C N w->Bd T 20->Bd C 20->Lf a n->(∀m,m<st.length->m≠n->a[m]?=st[m]?)->K (.tup [bq T,bq (Mx.fR C N)]) a
def wL:List Str:=["_law_left_here","_law_n","_law_deeds","_law_most","_law_turn_here","_law_columns","_law_k","_law_one","_law_other","_law_many","_law_back"]
def F0:DS:=(av (aN 4 (kK (dy (ay kE (ab (aa 1) ag))) [none] (ba 0) bN (br nA (ab (aa 0) ag))))
 (av (aN 5 (kK (dy (ay kE (ab (aa 1) ag))) [none] (ba 0) bN (br nA (ab (aa 0) ag))))
 (av (eQ (cR (ab (aa 2) ag)) (ba 6) (av (aN 7 (ay cK (ab (aa 0) (ab (aa 1) ag))))
 (av (aN 8 (ay cK (ab (aa 0) (ab (aa 1) ag))))
 (av (aN 9 (aj cY (ay cK (ab (aa 0) (ab (aj cE (aj bG (dC (.int 2)) (aa 3)) (dC (.int 1))) ag))) (aa 3)))
 (cN (aV (aj nj (aa 7) (aa 8))) (av (d8 (aa 4) (aa 7) (cC (ma (ab (aj aI (aa 4) (aa 7)) (ab (aj aI (aa 4) (aa 8)) ag))) [none,none,some 9] (fz 0 1) bN (aj cE (aa 0) (aj bG (aa 2) (aa 1)))))
 (d8 (aa 5) (aa 8) (cC (ma (ab (aj aI (aa 5) (aa 8)) (ab (aj aI (aa 5) (aa 7)) ag))) [none,none,some 9] (fz 0 1) bN (aj cY (aa 0) (aj bG (aa 2) (aa 1)))))) (av (d8 (aa 4) (aa 7) (cC (dy (aj aI (aa 4) (aa 7))) [none] (ba 0) bN (iE fe (aa 0))))
 (av (d8 (aa 5) (aa 7) (cC (dy (aj aI (aa 5) (aa 7))) [none] (ba 0) bN (iE fe (aa 0))))
 (av (eh (vH (aa 4)))
 (eh (vH (aa 5)))))))))))
 (av (aN 10 (br de (ab (cC (cR (ab (aa 1) ag)) [none,some 5] (ba 0) bN (br de (ab (cC (dy (aa 1)) [none,some 0] (ba 0) bN (aj aI (aa 0) (aa 1))) ag))) ag)))
 (a6 (kX (ab (br de (ab (cC (dy (aa 4)) [none] (ba 0) bN (br de (ab (aa 0) ag))) ag)) (ab (aa 10) ag))))))))
def BV:∀(r s:List Int),(eG (aq r) (aq s)).map (λd=>match d with| .tup [.int a,.int b]=> .int (a-t*b)|_=> .aD)=aq (Mx.eR r (-t) s)
 | [],_=>rfl
 |_::_,[]=>rfl
 |a::r,b::s=>by
  let:=BV (t:=t) r s;unfold eG Mx.eR at this⊢;simp![aq,WJ,aao,ZF]at this⊢;rw[this,Yq,<-Zq]
def Bd.g{A:List (List Int)}{N w e i c:Nat}(d:Mx.aQ N w A)(h:Bd A e)(a:i<N)(b:c<w):(Mx.g A i c).natAbs<=2^e:=BZ d h i c a b
def Bd.take{A:List (List Int)}{N w e k j:Nat}{q:Int}(a:Mx.aQ N w A)(h:Bd A e)(o:Mx.aQ N w (Mx.aO A k q j))(d:k<N)(f:j<N)(m:q.natAbs<=3):Bd (Mx.aO A k q j) (e+2):=λr l x g=>by
 obtain⟨i,c,n,b,rfl⟩:=Au o l g;rw[Mx.fo a d f];let s:2^(e+2)=4*2^e:=by rw[XM,X6]
 split
 . have u:=Bd.g a h d b;let p:=Bd.g a h f b;let t:(q*Mx.g A j c).natAbs<=3*2^e:=by rw[W0];show Xk m p
   lia
 . have:=Bd.g a h n b;lia
def Bd.neg{A:List (List Int)}{e k:Nat}(h:Bd A e)(d:k<A.length):Bd (Mx.f7 A k) (e+2):=λr b x a=>by
 let f:2^(e+2)=4*2^e:=by rw[XM,X6]
 unfold Mx.f7 at b;rcases XC b with z|rfl
 . have:=h r z x a;lia
 . obtain⟨y,c,rfl⟩:=WK.mp a;let:=h _ (by rw[Mx.aP d];show WM _) y c;lia
def Bd.rev{A:List (List Int)}{e:Nat}(h:Bd A e):Bd A.reverse e:=λr a=>h r (List.mem_reverse.mp a)
def Ec{r:List Int}:(aq r).map (λx=>match x with| .int a=>D.int (-a)|_=> .aD)=aq (r.map λx=> -x):=by
 unfold aq;rw[WL,WL];rfl
def qY{A:List (List Int)}{k:Nat}:(A.map aT).set k (.lst (aq r))=(A.set k r).map aT:=by rw[Zs]
def DL:V8 nD 4 F0 wL:=by
 rintro ds st K ⟨n,N,w,A,dd,mo,rfl,L,hA,n1,n8,d0,bb,m1,m3,k⟩;show⟨rfl,?_⟩
 let ln:n<st.length:=by
  obtain⟨x,e,_⟩:=L.ex;show(Wa.mp e).1
 let lu:=(Mx.gH N).len;show⟨N,rfl,by lia,fw ⟨bS (by rw[Wd,lu];lia),?_⟩⟩;show gz aT trivial (A:=Mx.units N) (qP) (λe r B Q H q=>⟨_,rfl,qf Q q⟩) ?_;show⟨N,rfl,by lia,fw ⟨bS (by rw[Wd,lu];lia),?_⟩⟩;show gz aT trivial (A:=Mx.units N) (qP) (λe r B Q H q=>⟨_,rfl,qf Q q⟩) ?_;rw[show(st++[Cell.lst ((Mx.units N).map aT)]).length=st.length+1 by simp]
 let T0:Tc (st++[Cell.lst ((Mx.units N).map aT)]++[Cell.lst ((Mx.units N).map aT)]) st.length (st.length+1) n (Mx.units N) (Mx.units N):=by
  show⟨by simp,by simp,?_⟩;obtain⟨x,e,h⟩:=L.ex;show⟨x,by rw[XD,Wh ln];show e,h⟩
 let f0:∀m,m<st.length->m≠n->(st++[Cell.lst ((Mx.units N).map aT)]++[Cell.lst ((Mx.units N).map aT)])[m]?=st[m]?:=λm hm _=>by rw[XD,Wh hm]
 let B0:Bd (Mx.units N) (2*0):=λr B x F=>by
  obtain⟨i,c,u,hc,rfl⟩:=Au (Mx.gH N) B F;rw[Mx.i_ u hc];unfold Mx.dl;split<;>decide
 generalize st++[Cell.lst ((Mx.units N).map aT)]++[Cell.lst ((Mx.units N).map aT)]=st0 at T0 f0⊢;let Z:st.length<st.length+1:=by lia
 let R:st.length≠n:=by lia
 let G:st.length+1≠n:=by lia
 generalize st.length=a at T0 Z R G ln f0 k⊢;generalize a+1=b at T0 Z G⊢;show dZ ⟨by lia,by lia⟩ ?_;show e7 (λrest σ E=>∃(q:Nat) (A' T C:List (List Int)) (v6 v7 v8 v9 P:Option D),rest.length+q=dd.toNat/\σ=[some (.ref n),some (.int N),some (.int dd),some (.int mo),some (.ref a),some (.ref b),v6,v7,v8,v9,P]/\Mx.Tn A A' T C N w/\Bd T (2*q)/\Bd C (2*q)/\Tc E a b n T C/\∀m,m<a->m≠n->E[m]?=st[m]?) ?_ ?_ _ _ _ ⟨0,A,Mx.units N,Mx.units N,none,none,none,none,none,(by rw[dM];lia),rfl,Mx.Tn.refl hA,B0,B0,T0,f0⟩
 . rintro σ E ⟨q,A',T,C,v6,v7,v8,v9,P,hq,rfl,s,bT,bC,l,J⟩;show⟨trivial,?_⟩;let lC:=s.cH.len;let lT:=s.cA.len;let I:2*q<=20:=by simp at hq;lia
   show dZ ⟨by lia,by lia⟩ ⟨bS (by rw[dM];lia),?_⟩
   let er:cT 0 (N:Int).toNat=(List.range N).map λi=>D.int ((i:Nat):Int):=by
    unfold cT;rw[show(N:Int).toNat=N by lia];show WO λi _=>by rw[Z_]
   rw[er];show i5 (h:=λi=>cn (Mx.lD C i)) trivial (λi u H t=>⟨_,rfl,pZ (au l.eb) λok S=>⟨bS (by rw[Wd,lC];lia),?_⟩⟩) ?_
   . show gz (λr=>D.int (r.getD i 0)) (S _ (au l.eb)) (A:=C) bH.lst (λe r B Q K2 q2=>⟨_,rfl,az Q (dQ (by let:=s.cH.eJ r B;rw[Wr,Wm (by lia),Mx.aP (by lia)];rfl)) q2⟩) ?_;show cQ rfl ?_
     let:C.map (λr=>D.int (r.getD i 0))=aq (Mx.lD C i):=by
      unfold aq Mx.lD;rw[WL];rfl
     rw[this];show t
   show cQ rfl ?_
   let eB:(List.range N).map (λi=>cn (Mx.lD C i))=(Mx.fR C N).map cn:=by
    unfold Mx.fR;rw[WL];rfl
   rw[eB];show pZ (au l.ea) λok S=>⟨bS (by rw[Wd,lT];lia),?_⟩
   show gz cn (S _ (au l.ea)) (A:=T) bH.lst (λe r B Q H q=>⟨_,rfl,cQ Q q⟩) ?_;show cQ rfl ⟨Wt rfl,?_⟩;show k E A' T C s (λr B x F=>Wj (bT r B x F) (Ws (by decide) I)) (λr B x F=>Wj (bC r B x F) (Ws (by decide) I)) l.lf J
 . rintro x rest σ a4 ⟨q,A',T,C,v6,v7,v8,v9,P,hq,rfl,s,bT,bC,l,J⟩ next
   show⟨trivial,_,rfl,?_⟩;let lC:=s.cH.len;let lT:=s.cA.len;show⟨n,_,rfl,l.lf,by lia,by lia,λo a3 o0 o1 L2 U2=>?_⟩;show⟨n,_,rfl,L2,by lia,by lia,λp a0 p0 p1 L3 U3=>?_⟩;show bE (d4 (by decide) (by decide)) (cL ⟨n,_,rfl,L3,by lia,by lia,λy f y0 y1 L4 U4=>cF ?_⟩);let U:=(U2.trans U3).trans U4;let V:f[a]?=some (.lst (T.map aT)):=(U.same a R).trans l.ea;let eb:f[b]?=some (.lst (C.map aT)):=(U.same b G).trans l.eb;let f4:∀m,m<a->m≠n->f[m]?=st[m]?:=λm h1 h2=>(U.same m h2).trans (J m h1 h2);let sa:a<f.length:=(Wa.mp V).1;let sb:b<f.length:=(Wa.mp eb).1;let ty:(y-mo).natAbs<=3:=by lia
   generalize y-mo=t at ty⊢;obtain⟨i,rfl⟩:∃i:Nat,o=(i:Int):=⟨o.toNat,by lia⟩
   obtain⟨j,rfl⟩:∃j:Nat,p=(j:Int):=⟨p.toNat,by lia⟩
   let u:i<N:=by lia
   let W:j<N:=by lia
   clear U U2 U3 U4 L2 L3 l J
   let ah:∀(A2 T2 C2:List (List Int)) (s5:af),Mx.Tn A A2 T2 C2 N w->Bd T2 (2*q+2)->Bd C2 (2*q+2)->s5=(f.set a (.lst (T2.map aT))).set b (.lst (C2.map aT))->Tc s5 a b n T2 C2/\∀m,m<a->m≠n->s5[m]?=st[m]?:=by
    rintro A2 T2 C2 s5 _ _ _ rfl;show⟨⟨by rw[Wf (by lia),Wn sa],by rw[Wn (by rw[Wv];show sb)],?_⟩,λm h1 h2=>?_⟩
    . obtain⟨x,e,h⟩:=L4.ex;show⟨x,by rw[Wf G,Wf R];show e,h⟩
    . rw[Wf (by lia),Wf (by lia)];show f4 m h1 h2
   let rT:∀ {k:Nat},k<N->(T.getD k []).length=N:=λh=>Mx.bg s.cA h;let rC:∀ {k:Nat},k<N->(C.getD k []).length=N:=λh=>Mx.bg s.cH h;show ne2 (λao=>eH ?_) λa5=>?_
   . have ar:i≠j:=λz=>ao (by rw[z]);show az (au V) (cS (by lia)) (az (au V) (cS (by lia)) (jN rfl rfl λok S=>⟨bS (by rw[jf,Wd,rT u];lia),?_⟩));show comp_map (g:=λd=>match d with| .tup [.int a,.int b]=> .int (a+t*b)|_=> .aD) (S _ rfl rfl) _ (λd hd H q=>?_) ?_
     . obtain⟨a,b,ha,hb,rfl⟩:=oE hd;show⟨_,rfl,bE (d4 (by lia) (by lia)) (cL q)⟩
     rw[show(eG (aq (T.getD i [])) (aq (T.getD j []))).map (λd=>match d with| .tup [.int a,.int b]=>D.int (a+t*b)|_=> .aD)=aq (Mx.eR (T.getD i []) t (T.getD j []))from td _ _];show fA V (by rw[Wd,lT];show fB u) ?_;rw[qY];let v:(f.set a (.lst ((T.set i (Mx.eR (T.getD i []) t (T.getD j []))).map aT)))[b]?=some (.lst (C.map aT)):=by rw[Wf (by lia)];show eb
     show az (au v) (cS (by lia)) (az (au v) (cS (by lia)) (jN rfl rfl λok S=>⟨bS (by rw[jf,Wd,rC W];lia),?_⟩));show comp_map (g:=λd=>match d with| .tup [.int a,.int b]=> .int (a-t*b)|_=> .aD) (S _ rfl rfl) _ (λd hd H q=>?_) ?_
     . obtain⟨a,b,ha,hb,rfl⟩:=oE hd;show⟨_,rfl,bE (d4 (by lia) (by lia)) (cF q)⟩
     rw[BV];show fA v (by rw[Wd,lC];show fB W) ?_;rw[qY];let T2:=s.take (q:= -t) u W (Wi ar);let e1:Mx.aO T i (-t) j=T.set i (Mx.eR (T.getD i []) t (T.getD j [])):=by unfold Mx.aO;rw[Int.neg_neg]
     let e2:Mx.aO C j (- -t) i=C.set j (Mx.eR (C.getD j []) (-t) (C.getD i [])):=by unfold Mx.aO;rw[Int.neg_neg]
     let O:=Bd.take s.cA bT T2.cA u W (by lia);let M:=Bd.take s.cH bC T2.cH W u (by lia);rw[e1,e2]at T2;rw[e1]at O;rw[e2]at M;obtain⟨l,J⟩:=ah _ _ _ _ T2 O M rfl;show next _ _ ⟨q+1,_,_,_,_,_,_,_,_,by simp at hq⊢;lia,rfl,T2,O,M,l,J⟩
   . show az (au V) (cS (by lia)) (yB ⟨bS (by rw[Wd,rT u];lia),?_⟩);show comp_map (g:=λx=>match x with| .int a=> .int (-a)|_=> .aD) trivial _ (λx F H q=>?_) ?_
     . obtain⟨a,_,rfl⟩:=WK.mp F;show⟨_,rfl,d7 q⟩
     rw[Ec];show fA V (by rw[Wd,lT];show fB u) ?_;rw[qY];let v:(f.set a (.lst ((T.set i ((T.getD i []).map λx=> -x)).map aT)))[b]?=some (.lst (C.map aT)):=by rw[Wf (by lia)];show eb
     show az (au v) (cS (by lia)) (yB ⟨bS (by rw[Wd,rC u];lia),?_⟩);show comp_map (g:=λx=>match x with| .int a=> .int (-a)|_=> .aD) trivial _ (λx F H q=>?_) ?_
     . obtain⟨a,_,rfl⟩:=WK.mp F;show⟨_,rfl,d7 q⟩
     rw[Ec];show fA v (by rw[Wd,lC];show fB u) ?_;rw[qY];let T2:=(s.neg u).rev;let O:=(Bd.neg (k:=i) bT (by lia)).rev;let M:=(Bd.neg (k:=i) bC (by lia)).rev;unfold Mx.f7 at T2 O M;generalize hX:T.set i ((T.getD i []).map λx=> -x)=X at T2 O⊢;generalize hY:C.set i ((C.getD i []).map λx=> -x)=Y at T2 M⊢;let aX:((f.set a (.lst (X.map aT))).set b (.lst (Y.map aT)))[a]?=some (.lst (X.map aT)):=by rw[Wf (by lia),Wn sa]
     show IF (λH h=>my rfl h) aX ?_;let aD:(((f.set a (.lst (X.map aT))).set b (.lst (Y.map aT))).set a (.lst (X.map aT).reverse))[b]?=some (.lst (Y.map aT)):=by rw[Wf (by lia),Wn (by rw[Wv];show sb)]
     show IF (λH h=>my rfl h) aD ?_
     let e6:(((f.set a (.lst (X.map aT))).set b (.lst (Y.map aT))).set a (.lst (X.map aT).reverse)).set b (.lst (Y.map aT).reverse)=(f.set a (.lst (X.reverse.map aT))).set b (.lst (Y.reverse.map aT)):=by
      rw[List.set_comm _ _ (show b≠a by lia),List.set_set,List.set_set,List.map_reverse,List.map_reverse]
     rw[e6];obtain⟨l,J⟩:=ah _ _ _ _ T2 O M rfl;show next _ _ ⟨q+1,_,_,_,_,_,_,_,_,by simp at hq⊢;lia,rfl,T2,O,M,l,J⟩
abbrev Mf:bM:=Ho pR
def Nh:List Str:=["_law_script","_law_k","_law_left_here","_law_steps","_law_great","_law_turn_here","_law_back","_law_others","_law_told","_law_brought","_law_mixed"]
def Si:DS:=(av (eQ (lF (ab (dC (.int 1)) (ab (aj cE (dC (.int 2)) (br dD (ab (lp (aa 0) (mi (dC (.int 1))) (mi (dC (.int 3)))) ag))) ag))) (ba 1) (av (aN 2 (ay qy (ab (aa 0) (ab (aa 1) ag))))
 (av (aN 3 (ay pK (ab (aa 2) ag)))
 (av (cN (ip (aV (aj EZ (ay g6 (ab (aa 3) ag)) (dC .aD))) (aV (aj qd (br wD (ab (cC (dy (br xw (ab (aa 3) (ab (kX ag) ag)))) [none] (ba 0) bN (br mT (ab (aa 0) ag))) ag)) (dC (.int 999))))) Af cz)
 (av (aN 4 (aj qd (br dD (ab (aa 3) ag)) (dC (.int 4))))
 (av (cN (ud (aV (aa 4)) (aV (aj qd (aa 1) (dC (.int 1))))) Af cz)
 (av (xT (fz 5 6) (ay nD (ab (aa 2) (ab (br dD (ab (aa 3) ag)) (ab (aj cE (dC (.int 1)) (ay cK (ab (aa 2) (ab (aj aI (jc (ab (dC (.int 10)) (ab (dC (.int 3)) ag))) (br qF (ab (aa 4) ag))) ag)))) (ab (aj aI (jc (ab (dC (.int 3)) (ab (dC (.int 1)) ag))) (br qF (ab (aa 4) ag))) ag))))))
 (av (aN 7 (ay dF (ab (aa 5) (ab (aa 3) ag))))
 (av (aN 8 (ay uk (ab (aa 7) ag)))
 (av (cN (ip (dP (aV (ay eP (ab (aa 7) (ab (aa 8) ag))))) (dP (aV (ay eN (ab (aa 7) (ab (aa 8) ag)))))) (a6 (dC (.bl false))) cz)
 (av (aN 9 (kX (ab (aj aI (aa 8) (dC (.int 0))) (ab (ay dF (ab (aj aI (aa 8) (dC (.int 1))) (ab (aa 5) ag))) (ab (ay dF (ab (aa 6) (ab (aj aI (aa 8) (dC (.int 2))) ag))) ag)))))
 (av (cN (ip (dP (aV (ay eP (ab (aa 3) (ab (aa 9) ag))))) (dP (aV (ay eN (ab (aa 3) (ab (aa 9) ag)))))) (a6 (dC (.bl false))) cz)
 (av (aN 10 (kX (ab (aj aI (aa 8) (dC (.int 0))) (ab (aj aI (aa 9) (dC (.int 1))) (ab (aj aI (aa 8) (dC (.int 2))) ag)))))
 (av (cN (aV (aj nV (ay eN (ab (aa 7) (ab (aa 10) ag))) (ay eP (ab (aa 7) (ab (aa 10) ag))))) (a6 (dC (.bl false))) cz)
 (cN (ip (aV (aj nV (aj aI (ay ju (ab (aa 7) ag)) (dC (.int 0))) (aj aI (ay ju (ab (aa 3) ag)) (dC (.int 0))))) (aV (aj nj (aj aI (aj aI (ay g6 (ab (aa 7) ag)) (dC (.int 0))) (iE fe (dC (.int 1)))) (aj aI (aj aI (ay g6 (ab (aa 3) ag)) (dC (.int 0))) (iE fe (dC (.int 1))))))) (a6 (dC (.bl false))) cz)))))))))))))))
 (a6 (dC (.bl true))))
def Jw{A B:List (List Int)}{m n:Nat}(b:Mx.aQ m n A)(a:Mx.aQ m n B)(h:∀i j,i<m->j<n->Mx.g A i j=Mx.g B i j):A=B:=by
 let g:=b.len;let f:=a.len;show ZQ (by lia) λi e d=>?_;show Mx.tV (n:=n) (b.eJ _ (WM _)) (a.eJ _ (WM _)) λj c=>?_;let:=h i j (by lia) c;unfold Mx.g at this;rw[Mx.aP e,Mx.aP d]at this;show this
def U6{C:List (List Int)}{N k j:Nat}(b:Mx.aQ N N C)(a:k<N)(d:j<N):Mx.g (Mx.fR C N) k j=Mx.g C j k:=by
 let c:=b.len;unfold Mx.g Mx.fR Mx.lD;rw[Mx.aP (l:=(List.range N).map _) (by simpa using a),Xa,Xe,Mx.aP (by rw[Wd];lia),Xa,Mx.aP (l:=C) (by lia)]
def mn{C:List (List Int)}{N:Nat}(b:Mx.aQ N N C):Mx.aQ N N (Mx.fR C N):=by
 show⟨by unfold Mx.fR;simp,λr a=>?_⟩;unfold Mx.fR at a;obtain⟨i,_,rfl⟩:=WK.mp a;unfold Mx.lD;rw[Wd];show b.len
def Jy{C:List (List Int)}{N b:Nat}(f:Mx.aQ N N C)(h:∀r∈C,∀x∈r,x.natAbs<=b):∀r∈Mx.fR C N,∀x∈r,x.natAbs<=b:=λr d x a=>by
 unfold Mx.fR at d;obtain⟨i,e,rfl⟩:=WK.mp d;rw[W4]at e;unfold Mx.lD at a;obtain⟨s,c,rfl⟩:=WK.mp a;show h s c _ (getD_mem (by rw[f.eJ s c];show e))
def lH{A:List (List Int)}(h:i<t):Mx.g (A.take t) i c=Mx.g A i c:=by
 let e:(A.take t).getD i []=A.getD i []:=by rw[Wo,Wo,List.getElem?_take,We h]
 unfold Mx.g;rw[e]
structure Fo(A:List (List Int))(N w:Nat)(F:List (List Int))(m:Nat):Prop where
 is:Mx.aQ m w F
 st:Mx.d9 F m w (Mx.wc F)
 red:Mx.Kt F m (Mx.wc F)
 same:Mx.mq A N F m w
 m8:m<=8
def IJ{A:List (List Int)}{N w top e u v:Nat}{c:Mx.B3}{g:Nat->Nat}(x:Mx.g_ A N w c top w g e u v)(y:N<=8):Fo A N w (c.A.take top) top:=by
 let H:=x.VR
 let s:Mx.d9 (c.A.take top) top w g:=⟨λi b=>by
  obtain⟨t,p,o⟩:=H.lead i b;show⟨t,by rw[lH b];show p,λc n=>by rw[lH b];show o c n⟩,H.mono⟩
 let B:=H.le;show⟨⟨by rw[Yc,H.tn.isA.len];lia,λr l=>H.tn.isA.eJ r (List.mem_of_mem_take l)⟩,s.V5,λi j a f=>?_,⟨λk d=>?_,λk d=>?_⟩,by lia⟩
 . rw[s.wc f,lH (Yu a f),lH f];show H.red i j a f
 . obtain⟨z,h⟩:=H.out k d;show⟨z,λq m=>(h q m).trans (Mx.ax λi b=>by rw[lH b])⟩
 . show(H.in k d).eq λq _=>lH d
def Fo.one(f:Fo A N w F m)(g:Fo B c w G b)(h:Mx.mq A N B c w):F=G:=by
 let a:=(f.same.symm.trans h).trans g.same
 let e:m=b:=Nat.le_antisymm
  (Ym λl=>WQ _ (f.st.same g.st a.to a.of b l).1)
  (Ym λl=>WQ _ (g.st.same f.st a.of a.to m l).1)
 subst e;show f.is.ext g.is λi j k d=>f.st.only g.st a.to a.of f.red g.red k j d
abbrev Rc(N e0 t:Nat):Prop:=Mx.Ez N e0 (t+1)<60000000/\Mx.Uz N e0 t+Mx.Ez N e0 (t+1)<=120000000/\Mx.Uz N e0 t+Mx.Cz N e0 t<=120000000
def RQ:∀N,N<9->∀t,t<N->Rc N 88 t:=by decide+kernel
def NX{xs:List D}:(L3.cutD xs (some a) (some b)).length<=xs.length:=by
 unfold L3.cutD;rw[Yc,aaM];lia
def Mz{A A' U C:List (List Int)}{N w:Nat}(T:Mx.Tn A A' U C N w)(c:Mx.aQ N w A):Mx.mulM U (Mx.fR C N) N=Mx.units N/\A'=Mx.mulM U A w:=by
 show⟨Jw (Mx.gc T.cA (mn T.cH)) (Mx.gH N) λi j a b=>?_,Jw T.isA (Mx.gc T.cA c) λi j a b=>?_⟩
 . rw[Mx.kh T.cA (mn T.cH) a,Mx.nM a b,<-T.ub i j a b];show Mx.ax λk d=>by rw[U6 T.cH d b]
 . rw[Mx.kh T.cA c a,T.ua i j a b]
def C0{A A' U B:List (List Int)}{N w:Nat}(b:Mx.mulM U B N=Mx.units N)(a:A'=Mx.mulM U A w):yN A A' U B N w=true:=by
 unfold yN;rw[Xb b,Xb a];rfl
def C4{P Q:List (List Int)}{m p n a b e:Nat}(f:Mx.aQ m p P)(d:Mx.aQ p n Q)(g:p<=8)(s:Bd P a)(q:Bd Q b)(h:a+b+3<=e):Bd (Mx.mulM P Q n) e:=λr k x j=>by
 obtain⟨i,c,l,o,rfl⟩:=Au (Mx.gc f d) k j;show Wj (Mx.KZ f d g (BZ f s) (BZ d q) i c l o) (Ws (by decide) h)
def Bd.mono{e f:Nat}(h:Bd A e)(a:e<=f):Bd A f:=λr c x b=>Wj (h r c x b) (Ws (by decide) a)
def TF{A:List (List Int)}{N w:Nat}(a:Mx.aQ N w A)(d:N<=8)(b:w<=8)(h:Bd A 40):St A N w:=by
 show F9 (E:=90) a d b (by decide) (λi f=>?_) (by lia) (by lia);let mem:A.getD i []∈A:=by let:=a.len;rw[Mx.aP (by lia)];show WM _
 let c:=tQ (h _ mem) (h _ mem);let e:=a.eJ _ mem;rw[e]at c;let k:=Wj c (Xm _ b);unfold Mx.ae;let j:8*(2^40*2^40)<=2^90:=by decide
 let g:((2^90:Nat):Int)=2^90:=Xy 2 _;lia
def JY{A A' U C:List (List Int)}{N w:Nat}(j:Mx.aQ N w A)(b:N<=8)(d:w<=8)(g:(N<=4/\Mx.D N (Mx.ae A)<=2^104)\/Mx.D N (Mx.ae A)<=2^80)(T:Mx.Tn A A' U C N w)(a:∀k,k<=N->Mx.D k (Mx.ae A')≠0)(f:Mx.Sh (Mx.ae A') N):St A' N w:=by
 let e:=T.same j;rcases g with⟨n,h⟩|h
 . rw[<-e]at h;show F9 (E:=110) T.isA b d (by decide) (λi c=>WN (Mx.C3 T.isA a f b h c) (Mx.p2 (by lia))) (by lia) (by lia)
 . rw[<-e]at h;show F9 (E:=90) T.isA b d (by decide) (λi c=>WN (Mx.C3 T.isA a f b h c) (Mx.p2 (by lia))) (by lia) (by lia)
def Sg(ns:List Int)(σ:bZ):Prop:=∃j i h g f e d c b a:Option D,σ=[some (.lst (ns.map .int)),j,i,h,g,f,e,d,c,b,a]
def HV:DS:=(av (xT (fz 5 6) (ay nD (ab (aa 2) (ab (br dD (ab (aa 3) ag)) (ab (aj cE (dC (.int 1)) (ay cK (ab (aa 2) (ab (aj aI (jc (ab (dC (.int 10)) (ab (dC (.int 3)) ag))) (br qF (ab (aa 4) ag))) ag)))) (ab (aj aI (jc (ab (dC (.int 3)) (ab (dC (.int 1)) ag))) (br qF (ab (aa 4) ag))) ag))))))
 (av (aN 7 (ay dF (ab (aa 5) (ab (aa 3) ag))))
 (av (aN 8 (ay uk (ab (aa 7) ag)))
 (av (cN (ip (dP (aV (ay eP (ab (aa 7) (ab (aa 8) ag))))) (dP (aV (ay eN (ab (aa 7) (ab (aa 8) ag)))))) (a6 (dC (.bl false))) cz)
 (av (aN 9 (kX (ab (aj aI (aa 8) (dC (.int 0))) (ab (ay dF (ab (aj aI (aa 8) (dC (.int 1))) (ab (aa 5) ag))) (ab (ay dF (ab (aa 6) (ab (aj aI (aa 8) (dC (.int 2))) ag))) ag)))))
 (av (cN (ip (dP (aV (ay eP (ab (aa 3) (ab (aa 9) ag))))) (dP (aV (ay eN (ab (aa 3) (ab (aa 9) ag)))))) (a6 (dC (.bl false))) cz)
 (av (aN 10 (kX (ab (aj aI (aa 8) (dC (.int 0))) (ab (aj aI (aa 9) (dC (.int 1))) (ab (aj aI (aa 8) (dC (.int 2))) ag)))))
 (av (cN (aV (aj nV (ay eN (ab (aa 7) (ab (aa 10) ag))) (ay eP (ab (aa 7) (ab (aa 10) ag))))) (a6 (dC (.bl false))) cz)
 (cN (ip (aV (aj nV (aj aI (ay ju (ab (aa 7) ag)) (dC (.int 0))) (aj aI (ay ju (ab (aa 3) ag)) (dC (.int 0))))) (aV (aj nj (aj aI (aj aI (ay g6 (ab (aa 7) ag)) (dC (.int 0))) (iE fe (dC (.int 1)))) (aj aI (aj aI (ay g6 (ab (aa 3) ag)) (dC (.int 0))) (iE fe (dC (.int 1))))))) (a6 (dC (.bl false))) cz)))))))))
def KN{E:iQ}{ns:List Int}(Y:Dr A N w)(O:∀r∈A,∀x∈r,x.natAbs<=999)(hD:∀k,k<=N->Mx.D k (Mx.ae A)≠0)(t4:Q[0]?=some (gE f1))(L4:Lf Q n)(nz:n≠0)(hk:∀σ aX,(∃f,aX[0]?=some (gE f))->Sg ns σ->E.nx σ aX):
 HV E [some (.lst (ns.map .int)),some (.int q),some (.ref n),some (bq A),some (.bl bb),v5,v6,v7,v8,v9,b1] Q:=by
 let e:=Y.le;let P:=Y.w8;let I:=Y.n1;let o:=Y.is;let lA:=o.len;show cM rfl ?_;rw[Wd,lA]
 obtain⟨v,hv,v0,cj⟩:∃v:Int,du [D.int 10,D.int 3] (if bb then 1 else 0)=some (D.int v)/\0<v/\v<=10:=by
  cases bb
  . show⟨10,rfl,by decide,by decide⟩
  . show⟨3,rfl,by decide,by decide⟩
 obtain⟨mo,b6,b5,b4⟩:∃v:Int,du [D.int 3,D.int 1] (if bb then 1 else 0)=some (D.int v)/\1<=v/\v<=3:=by
  cases bb
  . show⟨3,rfl,by decide,by decide⟩
  . show⟨1,rfl,by decide,by decide⟩
 show⟨Wt rfl,tS (az rfl hv ⟨n,v,rfl,L4,v0,by lia,λy c7 y0 y1 L5 U5=>cL ⟨Wt rfl,tS (az rfl b6 ?_)⟩⟩)⟩;let t5:=(U5.same 0 (Wi nz)).trans t4;let l0:=(Wa.mp t5).1;show⟨n,N,w,A,_,mo,rfl,L5,o,I,e,by lia,by lia,b5,b4,λc6 l T C m bT bC L6 fr=>⟨_,rfl,?_⟩⟩;let t6:=(fr 0 l0 (Wi nz)).trans t5;clear t5 l0 fr L5 U5 t4 L4 L6;let L:Bd A 10:=λr hr x hx=>Wj (O r hr x hx) (by decide);obtain⟨a4,eO⟩:=Mz m o;show⟨T,A,N,N,w,rfl,m.cA,o,I,by lia,by lia,by lia,bT.mono (by decide),L.mono (by decide),λc5 X7=>?_⟩
 let bO:Bd l 40:=by
  rw[eO];show C4 m.cA o e bT L (by decide)
 rw[<-eO];let J:=m.isA;let ar:=TF J e P bO;let eD:Mx.D N (Mx.ae l)=Mx.D N (Mx.ae A):=m.same o;let a3:=Mx.minors J (by rw[eD];show hD N (Wg N))
 let b7:(N<=4/\Mx.D N (Mx.ae l)<=2^104)\/Mx.D N (Mx.ae l)<=2^80:=by
  rw[eD];rcases Y.Ve with⟨n4,_⟩|h
  . show .inl ⟨n4,RW (b:=999) o e P O (Wj (Ux (by decide) n4) (by decide))⟩
  . show .inr (RW (b:=4) o e P h (Wj (Ux (by decide) e) (by decide)))
 show⟨_,l,N,w,rfl,js,ar,by lia,a3,λc4 s u M X8 d R i=>?_⟩;let j:∀k,k<=N->Mx.D k (Mx.ae s)≠0:=λk hk=>by let:=(R.D k hk).1;lia
 let a:=JY J e P b7 d j i;obtain⟨X,a5⟩:=Mz d J;let K:Bd u 400000:=R.eU;let p:Bd (Mx.fR M N) 400000:=Jy d.cH R.eC;let p1:EE l s u (Mx.fR M N) N w:=⟨J,d.isA,d.cA,mn d.cH,I,e,P,bO.mono (by decide),K.mono (by decide),p.mono (by decide)⟩
 let S:=C0 (A:=l) X a5;show⟨l,s,u,_,N,w,rfl,p1,a.Ei,j,i,λc3 X9=>?_⟩;rw[S];show⟨l,s,u,_,N,w,rfl,p1,a,j,i,λc2 bY=>?_⟩;rw[S];let hB:=mn m.cH;let bB:Bd (Mx.fR C N) 20:=Jy m.cH bC;show az rfl rfl (az rfl rfl ?_);show⟨u,T,N,N,N,rfl,d.cA,m.cA,I,by lia,by lia,by lia,K.mono (by decide),bT.mono (by decide),λc1 bX=>az rfl rfl ?_⟩;show⟨Mx.fR C N,Mx.fR M N,N,N,N,rfl,hB,mn d.cH,I,by lia,by lia,by lia,bB.mono (by decide),p.mono (by decide),λc0 bU=>⟨Wt rfl,?_⟩⟩;let bV:Bd (Mx.mulM u T N) 500000:=C4 d.cA m.cA e K bT (by decide);let bW:Bd (Mx.mulM (Mx.fR C N) (Mx.fR M N) N) 500000:=C4 hB (mn d.cH) e bB p (by decide);let hV:=Mx.gc d.cA m.cA;let hW:=Mx.gc hB (mn d.cH);let p2:EE A s (Mx.mulM u T N) (Mx.mulM (Mx.fR C N) (Mx.fR M N) N) N w:=⟨o,d.isA,hV,hW,I,e,P,L.mono (by decide),bV,bW⟩
 let F:=C0 (A:=A) (A':=s) (U:=Mx.mulM u T N) (B:=Mx.mulM (Mx.fR C N) (Mx.fR M N) N) (N:=N) (w:=w)
  (by rw[Mx.qv d.cA m.cA hW,<-Mx.qv m.cA hB (mn d.cH),a4,Mx.Dn (mn d.cH),X])
  (by rw[Mx.qv d.cA m.cA o,<-eO,<-a5])
 let p3:EE l s (Mx.mulM u T N) (Mx.fR M N) N w:=⟨J,d.isA,hV,mn d.cH,I,e,P,bO.mono (by decide),bV,p.mono (by decide)⟩
 clear bV bW hV hW p1 S X a4 p K;generalize Mx.mulM u T N=V at p2 p3 F⊢;generalize Mx.mulM (Mx.fR C N) (Mx.fR M N) N=Wb at p2 F⊢;generalize Mx.fR M N=B8 at p3⊢;show⟨A,s,_,_,N,w,rfl,p2,a.Ei,j,i,λcI bQ=>?_⟩;rw[F];show⟨A,s,_,_,N,w,rfl,p2,a,j,i,λcH bP=>?_⟩;rw[F];show az rfl rfl ?_;dsimp only[ab,ag,aj,dC];show my rfl (az rfl rfl ?_);show my rfl (az rfl rfl ⟨Wt rfl,?_⟩);show⟨l,s,_,_,N,w,rfl,p3,a,j,i,λcA bF=>?_⟩;show⟨l,s,_,_,N,w,rfl,p3,a.Ei,j,i,λcw bu=>Cs rfl ?_⟩;let X616:=(((((((((X7.trans X8).trans X9).trans bY).trans bX).trans bU).trans bQ).trans bP).trans bF).trans bu)
 let ao:=(X616.same 0 (Wa.mp t6).1).trans t6;clear X616 X7 X8 X9 bY bX bU bQ bP bF bu t6;let cg:Bd l 88:=bO.mono (by decide);let bA:Bd A 88:=L.mono (by decide);let b2:=Oy m;show⟨_,N,w,88,l,f1,rfl,js,J,I,e,by lia,EV J (BZ J cg),by decide,λt W _=>RQ N (by lia) t W,ao,λct top c ld hC H B17=>az rfl rfl ?_⟩;obtain⟨cc,ah⟩:=B17.tb;show⟨_,N,w,88,A,cc,rfl,js,o,I,e,by lia,EV o (BZ o bA),by decide,λt W _=>RQ N (by lia) t W,ah,λcp ck c' c8 b8 H' B18=>az rfl rfl ?_⟩;let eF:=(IJ H e).one (IJ H' e) b2.symm;rw[eF];show Cs ie ?_;obtain⟨b9,Z⟩:=B18.tb;clear H H' hC b8 B17 B18 ah ao eF;show⟨l,N,w,rfl,ar.Ei,λaK X19 z=>?_,λaK g kn cs X19 _ b3=>az rfl rfl ?_⟩
 . obtain⟨kk,W,h2⟩:=z;show absurd h2 (a3 kk W)
 show d7 (az (au b3.eg) (jy (n:=N) (by simp)) ?_);show⟨A,N,w,rfl,Y.st.Ei,λaD bl z=>?_,λaD g' c9 da bl _ a0=>az rfl rfl ?_⟩
 . obtain⟨kk,W,h2⟩:=z;show absurd h2 (hD kk W)
 show d7 (az (au a0.eg) (jy (n:=N) (by simp)) (Eh ?_ ?_))
 . have ea:∀G:Mx.Fn,((List.range (N+1)).map λq=>Mx.D q G).getD N 0=Mx.D N G:=λG=>by
    rw[Mx.aP (by simp),Xa,Xe]
   rw[ea,ea,eD]
 . have X1820:=X19.trans bl;show hk _ _ ⟨b9,(X1820.same 0 (Wa.mp Z).1).trans Z⟩ ⟨_,_,_,_,_,_,_,_,_,_,rfl⟩
def QG:V8 Mf 1 Si Nh:=by
 rintro ds st K ⟨t,rfl,hl,B,k⟩;show⟨rfl,?_⟩;let t0:st[0]?=some (gE false):=by rw[B];rfl
 clear B;show Im (cM rfl (cL ?_));let hc:=NX (xs:=t.map D.int) (a:=1) (b:=3);rw[Wd]at hc;generalize(L3.cutD (t.map D.int) (some 1) (some 3)).length=m at hc⊢;show tX ⟨by lia,by lia,by lia,by lia⟩ ?_
 let hm:∀d∈cT 1 (2+(m:Int)-1).toNat,∃q:Int,d= .int q/\0<=q/\q<=1000:=λd u=>by
  unfold cT at u;obtain⟨i,hi,rfl⟩:=WK.mp u;rw[W4]at hi;show⟨_,rfl,by lia,by lia⟩
 generalize cT 1 (2+(m:Int)-1).toNat=rs at hm⊢;show e7 (λrest σ c=>(∀d∈rest,∃q:Int,d= .int q/\0<=q/\q<=1000)/\(∃f,c[0]?=some (gE f))/\Sg t σ) ?_ ?_ _ _ _ ⟨hm,⟨_,t0⟩,none,none,none,none,none,none,none,none,none,none,rfl⟩
 . rintro σ c ⟨_,_,v1,v2,v3,v4,S,R,Q,P,O,p,rfl⟩;show⟨trivial,k _⟩
 . rintro x rest σ j ⟨J,⟨L,U⟩,v1,v2,v3,v4,S,R,Q,P,O,p,rfl⟩ next
   obtain⟨q,rfl,q0,q1⟩:=J x Wx;let l:∀d∈rest,∃q:Int,d= .int q/\0<=q/\q<=1000:=λd u=>J d (Ww _ u);show⟨trivial,_,rfl,?_⟩;show⟨t,q,rfl,q0,q1,λx X=>?_⟩;let M:Lf (j++[.lst [.int x]]) j.length:=⟨x,by simp,X⟩
   let l1:=(Wa.mp U).1;let y:(j++[Cell.lst [.int x]])[0]?=some (gE L):=by rw[Wh l1];show U
   let W:j.length≠0:=by lia
   generalize j.length=n at M W⊢;generalize j++[Cell.lst [.int x]]=st2 at M y⊢;clear U l1;show⟨n,rfl,M,λA N w ah o L3 U3=>?_⟩;let v:=(U3.same 0 (Wi W)).trans y;clear y M U3;let Y:=o.is.len;let n8:=o.le;let w8:=o.w8;let n1:=o.n1;show⟨A,N,w,rfl,o.st.Ei,λs H _=>?_,λs g kn cs H hD V=>?_⟩
   . show CN rfl ?_;show next _ _ ⟨l,⟨L,(H.same 0 (Wa.mp v).1).trans v⟩,_,_,_,_,_,_,_,_,_,_,rfl⟩
   show CN rfl ?_;let T:=(H.same 0 (Wa.mp v).1).trans v
   let L4:Lf s n:=by
    obtain⟨x,e,h⟩:=L3.ex;show⟨x,(H.same n (Wa.mp e).1).trans e,h⟩
   clear v L3 H V
   let w1:1<=w:=by
    show Nat.one_le_iff_ne_zero.mpr λz=>hD 1 (by lia) ?_;subst z
    let e:Mx.D 1 (Mx.ae A)=Mx.ae A 0 0:=by
     rw[<-Mx.cZ];show Mx.jx _ _ _
    rw[e,Mx.fP o.is (by lia) (by lia)];rfl
   let ef:(A.map aq).flatten=aq A.flatten:=by unfold aq;rw[List.map_flatten]
   let I:A.flatten.length=N*w:=by rw[Bf o.is.eJ,Y]
   let lN:N*w<=64:=by let:=Xk n8 w8;lia
   show⟨Wt rfl,OA (zx A) (by rw[ef,Xn];unfold aq;rw[Wd,I];lia) ?_⟩;rw[ef];show fw ⟨bS (by rw[Wd,I];lia),?_⟩;show comp_map (g:=λd=>match d with| .int x=> .int ((x.natAbs:Nat):Int)|_=> .aD) trivial _ (λd u K2 y=>?_) ?_
   . obtain⟨x,_,rfl⟩:=WK.mp u;show⟨_,rfl,mJ y⟩
   let eg:(aq A.flatten).map (λd=>match d with| .int x=>D.int ((x.natAbs:Nat):Int)|_=> .aD)=(A.flatten.map λx=>((x.natAbs:Nat):Int)).map D.int:=by
    unfold aq;rw[WL,WL];rfl
   rw[eg];show OF (ints_map _) (λz=>?_) λmx _ C=>HD (λ_=>eH (next _ _ ⟨l,⟨L,T⟩,_,_,_,_,_,_,_,_,_,_,rfl⟩)) λao=>?_
   . have Z:=Xl List.length z;rw[Wd,I]at Z;let h2:1*1<=N*w:=Xk n1 w1;rw[Z]at h2;show absurd h2 (by decide)
   let G:∀r∈A,∀x∈r,x.natAbs<=999:=λr J x X=>by
    let Z:=C _ (WK.mpr ⟨x,List.mem_flatten.mpr ⟨r,J,X⟩,rfl⟩);lia
   clear ef I eg C;show cM rfl (Fw ?_);generalize(decide ((4:Int)<(((A.map cn).length:Nat):Int)))=bb;let F:∀ {E:iQ} {S R Q P O p:Option D},(∀σ c,((∀d∈rest,∃q:Int,d= .int q/\0<=q/\q<=1000)/\(∃f,c[0]?=some (gE f))/\Sg t σ)->E.nx σ c)->HV E [some (.lst (t.map .int)),some (.int q),some (.ref n),some (bq A),some (.bl bb),S,R,Q,P,O,p] s:=λh=>KN o G hD T L4 W λσ c tb hs=>h σ c ⟨l,tb,hs⟩;cases bb with
   |false=>show F next
   |true=>
    show HD (λ_=>eH (next _ _ ⟨l,⟨L,T⟩,_,_,_,_,_,_,_,_,_,_,rfl⟩)) λ_=>?_;show F next
end Prog
namespace Row
open PySem L2 L3 Prog
open PySem.Spec hiding items?
open PyProof.Rows hiding St
def qj:(("int":Str))≠"__name__":=by decide+kernel
def mQ:(("isinstance":Str))≠"__name__":=by decide+kernel
def E7:(("bool":Str))≠"__name__":=by decide+kernel
def h_:(("tuple":Str))≠"__name__":=by decide+kernel
def jn:(("list":Str))≠"__name__":=by decide+kernel
def eX:(("len":Str))≠"__name__":=by decide+kernel
def G0:(("all":Str))≠"__name__":=by decide+kernel
def wy:(("abs":Str))≠"__name__":=by decide+kernel
def Cm:(("sum":Str))≠"__name__":=by decide+kernel
def IM:(("any":Str))≠"__name__":=by decide+kernel
def wx:(("max":Str))≠"__name__":=by decide+kernel
structure Bl(mg:Str->Option Value):Prop where
 t7:mg "int"=none
 oM:mg "isinstance"=none
 Ik:mg "bool"=none
 jB:mg "tuple"=none
 kP:mg "list"=none
 f6:mg "len"=none
 MS:mg "all"=none
 Ax:mg "abs"=none
 wm:mg "zip"=none
 fL:mg "range"=none
 Gk:mg "sum"=none
 LD:mg "sorted"=none
 MB:mg "any"=none
 AH:mg "max"=none
structure Kl(K:PySem.W.Frag)(mg:Str->Option Value):Prop where
 aX:ClsAt K mg "Bench" aE
 bF:ClsAt K mg "Stairs" aR
 cp:fF K aE "body"
 dS:fF K aE "turn"
 cw:fF K aE "back_columns"
 jv:fF K aR "bench"
 bY:fF K aR "table"
def DW:VF pv uV ["thing"] ["int","isinstance","bool"]:= .of (by decide+kernel)
def Dj:VF pf uR ["thing"] ["tuple","list","isinstance"]:= .of (by decide+kernel)
def xJ:VF lW qc ["thing","many"] ["is_listed","len"]:= .of (by decide+kernel)
def zO:VF mR rj ["thing","many"] ["is_listed_of","all"]:= .of (by decide+kernel)
def KC:VF vB C6 ["one","other"] ["abs"]:= .of (by decide+kernel)
def Rv:VF Bu Js ["top","bottom"] ["common"]:= .of (by decide+kernel)
def OE:VF yF EC ["one","other"] ["part"]:= .of (by decide+kernel)
def N2:VF yq Ep ["one","other"] ["part"]:= .of (by decide+kernel)
def Kd:VF vL BA ["one","other"] []:= .of (by decide+kernel)
def Ja:VF sH yK ["rows"] ["tuple"]:= .of (by decide+kernel)
def OW:VF xQ Ea ["row","times","other"] ["zip"]:= .of (by decide+kernel)
def Ks:VF vd C9 ["weights","rows","wide"] ["zip","added","tuple"]:= .of (by decide+kernel)
def HM:VF se yL ["one","other"] ["len","tuple"]:= .of (by decide+kernel)
def LY:VF vx AN ["rows","place"] ["tuple"]:= .of (by decide+kernel)
def zS:VF m7 rg ["rows","wide"] ["range","tuple"]:= .of (by decide+kernel)
def FK:VF qQ wR ["n","place"] ["range","tuple"]:= .of (by decide+kernel)
def DY:VF pF uO ["n"] ["range","tuple"]:= .of (by decide+kernel)
def SI:VF FW Ng ["one","other"] ["zip","sum"]:= .of (by decide+kernel)
def Jt:VF r9 yG ["thing","many","wide"] ["is_listed","len","all"]:= .of (by decide+kernel)
def GJ:VF qV w6 ["turn","back"] ["is_listed","len","is_rows","product","unit_rows"]:= .of (by decide+kernel)
def Bc:VF ox r8 ["turn","back","many"] ["is_rows","are_back"]:= .of (by decide+kernel)
def Ca:VF og sN ["rows","made","turn","back"] ["len","is_rows","is_turn_of","as_rows","product"]:= .of (by decide+kernel)
def cO:VF sS zi ["together","table","one","other"] ["zip"]:= .of (by decide+kernel)
def HQ:VF si yV ["table","steps","row"] ["zip","dot","cleared"]:= .of (by decide+kernel)
def Gp:VF qI xB ["steps"] ["line_of"]:= .of (by decide+kernel)
def BG:VF oB s_ ["table"] ["zip","tuple"]:= .of (by decide+kernel)
def DQ:VF pH uN ["table","line"] ["zip","tuple"]:= .of (by decide+kernel)
def KR:VF vP CT ["steps"] ["table_of","tuple","squares_in"]:= .of (by decide+kernel)
def d6:VF iY mD ["top","bottom"] []:= .of (by decide+kernel)
def Dw:VF pL uQ ["rows","k","other"] ["list"]:= .of (by decide+kernel)
def HJ:VF sd y9 ["row"] []:= .of (by decide+kernel)
def bI:VF dE j6 ["self","rows"] ["len","unit_rows"]:= .of (by decide+kernel)
def bc:VF jh oN ["self","k","times","other"] ["added"]:= .of (by decide+kernel)
def bj:VF fV j_ ["self","k","other"] ["exchanged"]:= .of (by decide+kernel)
def aY:VF eZ iP ["self","k"] ["negated"]:= .of (by decide+kernel)
def cJ:VF dO jH ["self","top","place"] ["len","range","sorted"]:= .of (by decide+kernel)
def aC:VF gY lY ["self","top","place"] ["len","nearest_quotient"]:= .of (by decide+kernel)
def bp:VF eY iK ["self","top","place"] ["range"]:= .of (by decide+kernel)
def aZ:VF qC wH ["rows"] ["Bench","len","range","turned_over","as_rows"]:= .of (by decide+kernel)
def uD:VF jK ni ["share"] ["abs"]:= .of (by decide+kernel)
def xp:VF lq oZ ["square","share","ahead"] ["times","part","minus","before"]:= .of (by decide+kernel)
def FC:VF q_ wX ["steps"] ["shares","all","len","range","any"]:= .of (by decide+kernel)
def cV:VF fC jD ["self","steps"] ["Bench","table_of"]:= .of (by decide+kernel)
def fU:VF fQ ka ["self","k"] []:= .of (by decide+kernel)
def aS:VF gn k_ ["self","k","j"] ["nearest_quotient","range"]:= .of (by decide+kernel)
def bh:VF fE jF ["self","k"] []:= .of (by decide+kernel)
def ak:VF iy m4 ["self","k"] ["len","range"]:= .of (by decide+kernel)
def aM:VF fO j0 ["self"] ["len","max","range"]:= .of (by decide+kernel)
def cX:VF x_ E2 ["steps"] ["Stairs","len","turned_over","as_rows"]:= .of (by decide+kernel)
def zR:VF mZ rE ["steps","told"] ["is_listed_of","are_turned","is_short"]:= .of (by decide+kernel)
def KW:VF vj B6 ["_law_script","_law_k"] ["len"]:= .of (by decide+kernel)
def F6:VF qZ xa ["_law_script","_law_k"] ["_law_at","abs","range"]:= .of (by decide+kernel)
def DN:VF pE uS ["_law_left_here","_law_many"] []:= .of (by decide+kernel)
def A9:VF ow rQ ["_law_left_here","_law_kind"] ["_law_digit"]:= .of (by decide+kernel)
def Fj:VF qO wM ["_law_left_here","_law_many","_law_wide","_law_kind"] ["range","tuple"]:= .of (by decide+kernel)
def DZ:VF pk uM ["_law_left_here"] ["_law_digit","max","_law_rows"]:= .of (by decide+kernel)
def H_:VF tw zA ["_law_one","_law_other"] ["zip","sum"]:= .of (by decide+kernel)
def ID:VF rR y6 ["_law_steps"] ["len","range","_law_dot"]:= .of (by decide+kernel)
def Dv:VF pj u5 ["_law_steps"] ["_law_own","len","range","abs"]:= .of (by decide+kernel)
def Ac:VF m9 rm ["_law_one","_law_other"] ["len","zip","tuple"]:= .of (by decide+kernel)
def Gj:VF qE wU ["_law_n"] ["range","tuple"]:= .of (by decide+kernel)
def zI:VF mY rh ["_law_rows_here","_law_many","_law_wide"] ["tuple","isinstance","len","all"]:= .of (by decide+kernel)
def aB:VF nc rD ["_law_steps","_law_told"] ["tuple","isinstance","len","_law_is_rows","_law_product","_law_unit","_law_short"]:= .of (by decide+kernel)
def aw:VF eK wL ["_law_left_here","_law_n","_law_deeds","_law_most"] ["_law_unit","range","_law_digit","zip","tuple"]:= .of (by decide+kernel)
def aH:VF tP Nh ["_law_script"] ["len","range","_law_left","_law_drawn","_law_own","sum","max","int","_law_digit","_law_turn","_law_product","short","_law_is_told","shows_short","standing"]:= .of (by decide+kernel)
structure Ev(w:World)(mg:Str->Option Value)(h:Heap):Prop where
 X:(KX w.params).In h
 G:h.Ns mainGlobals mg
section
variable {w:World}{mg:Str->Option Value}{h:Heap}(base:Heap)(e:Ev w mg h)
include e
set_option hygiene false
local macro_rules| `(tactic|nofun)=> `(tactic|repeat' first
 |(change JA _ _ _;first|show aA|show ai ?_ ?_)
 |(change JE (cD _ _ _ _ _ _ _) _ _;first|show g7|show a7|show bz ?_ ?_|first|show bD c1.1 c1.2 (hr.mono (by decide)) ?_ (by decide+kernel) rfl|show bD c2.1 c2.2 (hr.mono (by decide)) ?_ (by decide+kernel) rfl|show bD c3.1 c3.2 (hr.mono (by decide)) ?_ (by decide+kernel) rfl|show bD c4.1 c4.2 (hr.mono (by decide)) ?_ (by decide+kernel) rfl|show bD c5.1 c5.2 (hr.mono (by decide)) ?_ (by decide+kernel) rfl|show bD c6.1 c6.2 (hr.mono (by decide)) ?_ (by decide+kernel) rfl|show bD c7.1 c7.2 (hr.mono (by decide)) ?_ (by decide+kernel) rfl|show bD c8.1 c8.2 (hr.mono (by decide)) ?_ (by decide+kernel) rfl|show bD c9.1 c9.2 (hr.mono (by decide)) ?_ (by decide+kernel) rfl|show bD c10.1 c10.2 (hr.mono (by decide)) ?_ (by decide+kernel) rfl|show i6 Ag ?_ B.t7 rfl qj (by decide+kernel) rfl|show dn Fl ?_ B.oM rfl mQ (by decide+kernel) rfl|show i6 nO ?_ B.jB rfl h_ (by decide+kernel) rfl|show i6 ET ?_ B.kP rfl jn (by decide+kernel) rfl|show dn fZ ?_ B.f6 rfl eX (by decide+kernel) rfl|show dn (Mp rfl) ?_ B.MS rfl G0 (by decide+kernel) rfl|show dn Aq ?_ B.Ax rfl wy (by decide+kernel) rfl|show dn (Mt rfl) ?_ B.Gk rfl Cm (by decide+kernel) rfl|show dn (M6 rfl) ?_ B.MB rfl IM (by decide+kernel) rfl|show dn (FH rfl) ?_ B.AH rfl wx (by decide+kernel) rfl|show yM ?_ ?_|show bL (by first|show iV|show pX|show Ml|show fh|show Nl|show eS|show IK) ?_ ?_|show Aj (by first|show Cf hr|show Fi|show vC|show FI|show BC|show Lc|show yr|show vG) (dm _) ?_ ?_|show oS ?_|show qB ?_|show M_ ?_|show kq ?_ ?_ ?_|show iW ?_|show GK ?_ ?_ ?_|show Mq ?_ ?_|show RJ ?_ ?_|show Mb ?_|show M4 ?_|show m_|show F8|show OI (by decide+kernel) ?_ ?_ ?_ ?_ ?_|show qw B.t7 rfl qj (by decide+kernel) rfl|show qw B.Ik rfl E7 (by decide+kernel) rfl|show qw B.jB rfl h_ (by decide+kernel) rfl|show qw B.kP rfl jn (by decide+kernel) rfl)
 |(change JE _ _ _;first|show v.nm _|show a7|show bz ?_ ?_|first|show bD c1.1 c1.2 (hr.mono (by decide)) ?_ (by decide+kernel) v.gM|show bD c2.1 c2.2 (hr.mono (by decide)) ?_ (by decide+kernel) v.gM|show bD c3.1 c3.2 (hr.mono (by decide)) ?_ (by decide+kernel) v.gM|show bD c4.1 c4.2 (hr.mono (by decide)) ?_ (by decide+kernel) v.gM|show bD c5.1 c5.2 (hr.mono (by decide)) ?_ (by decide+kernel) v.gM|show bD c6.1 c6.2 (hr.mono (by decide)) ?_ (by decide+kernel) v.gM|show bD c7.1 c7.2 (hr.mono (by decide)) ?_ (by decide+kernel) v.gM|show bD c8.1 c8.2 (hr.mono (by decide)) ?_ (by decide+kernel) v.gM|show bD c9.1 c9.2 (hr.mono (by decide)) ?_ (by decide+kernel) v.gM|show bD c10.1 c10.2 (hr.mono (by decide)) ?_ (by decide+kernel) v.gM|show i6 Ag ?_ B.t7 rfl qj (by decide+kernel) v.gM|show dn Fl ?_ B.oM rfl mQ (by decide+kernel) v.gM|show i6 nO ?_ B.jB rfl h_ (by decide+kernel) v.gM|show i6 ET ?_ B.kP rfl jn (by decide+kernel) v.gM|show dn fZ ?_ B.f6 rfl eX (by decide+kernel) v.gM|show dn (Mp rfl) ?_ B.MS rfl G0 (by decide+kernel) v.gM|show dn Aq ?_ B.Ax rfl wy (by decide+kernel) v.gM|show dn (Mt rfl) ?_ B.Gk rfl Cm (by decide+kernel) v.gM|show dn (M6 rfl) ?_ B.MB rfl IM (by decide+kernel) v.gM|show dn (FH rfl) ?_ B.AH rfl wx (by decide+kernel) v.gM|show yM ?_ ?_|show bL (by first|show iV|show pX|show Ml|show fh|show Nl|show eS|show IK) ?_ ?_|show Aj (by first|show Cf hr|show Fi|show vC|show FI|show BC|show Lc|show yr|show vG) (dm _) ?_ ?_|show oS ?_|show qB ?_|show M_ ?_|show kq ?_ ?_ ?_|show iW ?_|show GK ?_ ?_ ?_|show Mq ?_ ?_|show RJ ?_ ?_|show Mb ?_|show M4 ?_|show m_|show F8|show NP v (by decide+kernel) ?_ ?_ ?_ ?_ ?_|show qw B.t7 rfl qj (by decide+kernel) v.gM|show qw B.Ik rfl E7 (by decide+kernel) v.gM|show qw B.jB rfl h_ (by decide+kernel) v.gM|show qw B.kP rfl jn (by decide+kernel) v.gM)
 |(change JB _ _ _;first|show aF ?_ ?_|show bx ?_|show gu)
 |(change JS _ _ _;first|show b_ nd v.lM ?_|show gN ?_ ?_ ?_|show dY ?_|show kL ?_ ?_ ?_|show vS ?_ ?_|show fx ?_|show gF ?_ ?_ ?_|show Ki v nd v.lM (by decide+kernel) ?_ ?_ ?_ ?_ ?_|show QC nd (by decide) v.loc v.loc ?_|show Cc ?_ ?_|show Nn ?_|show J9)
 |(change JT _ _ _;first|show eW (by first|show Cf hr|show Fi|show vC|show FI|show BC|show Lc|show yr|show vG) (dm _) ?_ ?_|(change JT _ (.BoolOp _ _ _) _;show nC ?_)|show kU ?_|show iw ?_)
 |(change JW _ _ _;first|show nG ?_ ?_|show mE ?_|show JF ?_ ?_|show EN ?_)
 |(change JI (cD _ _ _ _ _ _ _) _ _ _;first|show j9 rfl B.fL ?_|show Az rfl B.wm ?_|show nY rfl B.fL ?_|show jV ?_)
 |(change JI _ _ _ _;first|show j9 v.gM B.fL ?_|show Az v.gM B.wm ?_|show nY v.gM B.fL ?_|show jV ?_)
 |(change JG (cD _ _ _ _ _ _ _) _ _;first|show Uh|show RZ)
 |(change JG _ _ _;first|show gI nd v.lM (by first|show .inr v.loc|show .inl rfl)|show wZ rfl nd v.lM (by first|show .inr v.loc|show .inl rfl) v.lM (by first|show .inr v.loc|show .inl rfl))
 |(change JO _ _ _;first|show nQ|show kv ?_)
 |(change JC _ _ _;show fy)
 |show fb
 |show yu
 |intro _ _ _ _)
def Fk(w:World)(mg:Str->Option Value)(base:Heap)(n:Str)(s:Stmt)(ps:List Str)(a:Addr)(m:Value)(c:Addr)(k:Nat)(S:bM):Prop:=nE (KX w.params) mg n n s ps a (Hd.fd s n n m c)/\dh PW w (KX w.params) mg base fS k a (Hd.fd s n n m c) ps (gK S)
omit e in
theorem fk{N gl ps:List Str}{k:Nat}{S:bM}{base:Heap}(d:nE (KX w.params) mg n n s ps a (Hd.fd s n n m c))(v:VF s N ps gl)(g:VS (bf s) N gl->N.Nodup->∀(cdv:Value) (A:Around) (outer:List Env) (z:Shared) (H:Hp) (E:XK),cU k (A.deeper (envOfC n (bf s) z.heap.objs.size a cdv))->JB (pA fS PW w (KX w.params) mg base N n (bf s) a cdv A outer z H E).uK (gf s) t)(q:∀ds st K,S ds st K->ds.length=ps.length/\t {nx:=λ_ st2=>K .aD st2,rt:=K} (aL N ds) st):Fk w mg base n s ps a m c (k+1) S:=⟨d,jz d.fn v.sc (g v.v v.sc.nd) q⟩
local macro_rules| `(tactic|ac_rfl)=> `(tactic|first|show Hd.V1 e.X e.G (by kernel_rfl) λ_ _ _ _ _ _ _=>rfl|show Hd.VG e.X e.G (by kernel_rfl) λ_ _ _ _ _ _ _ _=>rfl|show Hd.VJ e.X e.G (by kernel_rfl) λ_ _ _ _ _ _ _ _ _=>rfl|show Hd.V3 e.X e.G (by kernel_rfl) λ_ _ _ _ _ _ _ _ _ _=>rfl)
theorem Bt:Bl mg:=⟨W8 e.X e.G (by kernel_rfl),W8 e.X e.G (by kernel_rfl),W8 e.X e.G (by kernel_rfl),W8 e.X e.G (by kernel_rfl),W8 e.X e.G (by kernel_rfl),W8 e.X e.G (by kernel_rfl),W8 e.X e.G (by kernel_rfl),W8 e.X e.G (by kernel_rfl),W8 e.X e.G (by kernel_rfl),W8 e.X e.G (by kernel_rfl),W8 e.X e.G (by kernel_rfl),W8 e.X e.G (by kernel_rfl),W8 e.X e.G (by kernel_rfl),W8 e.X e.G (by kernel_rfl)⟩
theorem Qt:Kl (KX w.params) mg:=⟨⟨⟨by kernel_rfl,by kernel_rfl,by kernel_rfl,by kernel_rfl⟩,abg e.X e.G (by kernel_rfl),by kernel_rfl,by kernel_rfl⟩,⟨⟨by kernel_rfl,by kernel_rfl,by kernel_rfl,by kernel_rfl⟩,abg e.X e.G (by kernel_rfl),by kernel_rfl,by kernel_rfl⟩,Hd.na (by kernel_rfl),Hd.na (by kernel_rfl),Hd.na (by kernel_rfl),Hd.na (by kernel_rfl),Hd.na (by kernel_rfl)⟩
theorem Dy:Fk w mg base "is_number" pv ["thing"] 46 zj 45 1 pM:=by
 let B:=Bt e;show fk (by ac_rfl) DW (λv nd _ _ _ _ _ _ hr=>by nofun) CS
theorem pq:Fk w mg base "is_listed" pf ["thing"] 53 zj 52 1 jR:=by
 let B:=Bt e;show fk (by ac_rfl) Dj (λv nd _ _ _ _ _ _ hr=>by nofun) C1
theorem pS:Fk w mg base "is_listed_of" lW ["thing","many"] 60 zj 59 2 jq:=by
 let c1:=pq base e;let B:=Bt e;show fk (by ac_rfl) xJ (λv nd _ _ _ _ _ _ hr=>by nofun) xG
theorem zP:Fk w mg base "are_numbers" mR ["thing","many"] 65 zj 64 3 m5:=by
 let c1:=pS base e;let c2:=Dy base e;let B:=Bt e;show fk (by ac_rfl) zO (λv nd _ _ _ _ _ _ hr=>by nofun) yy
theorem LZ:Fk w mg base "common" vB ["one","other"] 72 uJ 71 1 vf:=by
 let B:=Bt e;show fk (by ac_rfl) KC (λv nd _ _ _ _ _ _ hr=>by nofun) G7
theorem sT:Fk w mg base "part" Bu ["top","bottom"] 79 uJ 78 2 oy:=by
 let c1:=LZ base e;let B:=Bt e;show fk (by ac_rfl) Rv (λv nd _ _ _ _ _ _ hr=>by nofun) Ow
theorem OC:Fk w mg base "minus" yF ["one","other"] 86 uJ 85 3 yg:=by
 let c1:=sT base e;let B:=Bt e;show fk (by ac_rfl) OE (λv nd _ _ _ _ _ _ hr=>by nofun) Ka
theorem Pf:Fk w mg base "times" yq ["one","other"] 93 uJ 92 3 tT:=by
 let c1:=sT base e;let B:=Bt e;show fk (by ac_rfl) N2 (λv nd _ _ _ _ _ _ hr=>by nofun) KS
theorem K7:Fk w mg base "before" vL ["one","other"] 100 uJ 99 1 vW:=by
 let B:=Bt e;show fk (by ac_rfl) Kd (λv nd _ _ _ _ _ _ hr=>by nofun) Hq
theorem tJ:Fk w mg base "as_rows" sH ["rows"] 105 g8 104 1 i4:=by
 let B:=Bt e;show fk (by ac_rfl) Ja (λv nd _ _ _ _ _ _ hr=>by nofun) FE
theorem EB:Fk w mg base "added" xQ ["row","times","other"] 110 g8 109 1 nN:=by
 let B:=Bt e;show fk (by ac_rfl) OW (λv nd _ _ _ _ _ _ hr=>by nofun) Kr
theorem Kp:Fk w mg base "sum_by" vd ["weights","rows","wide"] 117 g8 116 2 vo:=by
 let c1:=EB base e;let B:=Bt e;show fk (by ac_rfl) Ks (λv nd _ _ _ _ _ _ hr=>by nofun) Jq
theorem yI:Fk w mg base "product" se ["one","other"] 122 g8 121 3 pe:=by
 let c1:=Kp base e;let B:=Bt e;show fk (by ac_rfl) HM (λv nd _ _ _ _ _ _ hr=>by nofun) Gr
theorem L0:Fk w mg base "column" vx ["rows","place"] 127 g8 126 1 vt:=by
 let B:=Bt e;show fk (by ac_rfl) LY (λv nd _ _ _ _ _ _ hr=>by nofun) JJ
theorem rB:Fk w mg base "turned_over" m7 ["rows","wide"] 132 g8 131 2 jW:=by
 let c1:=L0 base e;let B:=Bt e;show fk (by ac_rfl) zS (λv nd _ _ _ _ _ _ hr=>by nofun) yo
theorem FO:Fk w mg base "unit_row" qQ ["n","place"] 137 g8 136 1 qG:=by
 let B:=Bt e;show fk (by ac_rfl) FK (λv nd _ _ _ _ _ _ hr=>by nofun) Dh
theorem uY:Fk w mg base "unit_rows" pF ["n"] 142 g8 141 2 jO:=by
 let c1:=FO base e;let B:=Bt e;show fk (by ac_rfl) DY (λv nd _ _ _ _ _ _ hr=>by nofun) Cj
theorem SD:Fk w mg base "dot" FW ["one","other"] 147 g8 146 1 xy:=by
 let B:=Bt e;show fk (by ac_rfl) SI (λv nd _ _ _ _ _ _ hr=>by nofun) Jl
theorem rZ:Fk w mg base "is_rows" r9 ["thing","many","wide"] 152 g8 151 4 kj:=by
 let c1:=pq base e;let c2:=zP base e;let B:=Bt e;show fk (by ac_rfl) Jt (λv nd _ _ _ _ _ _ hr=>by nofun) FL
theorem FZ:Fk w mg base "are_back" qV ["turn","back"] 159 g8 158 5 qR:=by
 let c1:=pq base e;let c2:=rZ base e;let c3:=yI base e;let c4:=uY base e;let B:=Bt e;show fk (by ac_rfl) GJ (λv nd _ _ _ _ _ _ hr=>by nofun) DU
theorem CK:Fk w mg base "is_turn_of" ox ["turn","back","many"] 166 g8 165 6 ou:=by
 let c1:=rZ base e;let c2:=FZ base e;let B:=Bt e;show fk (by ac_rfl) Bc (λv nd _ _ _ _ _ _ hr=>by nofun) zJ
theorem Ct:Fk w mg base "are_turned" og ["rows","made","turn","back"] 173 g8 172 7 n_:=by
 let c1:=rZ base e;let c2:=CK base e;let c3:=tJ base e;let c4:=yI base e;let B:=Bt e;show fk (by ac_rfl) Ca (λv nd _ _ _ _ _ _ hr=>by nofun) Ae
theorem JQ:Fk w mg base "cleared" sS ["together","table","one","other"] 180 rp 179 1 oU:=by
 let B:=Bt e
 show fk (by ac_rfl) cO (λv nd cdv A outer s H E hr=>(aF (b_ cO.sc.nd (cO.v.l 4) a7)
  (aF (kL (PL (cO.v.g 0) B.wm (ai (cO.v.nm 1) (ai (cO.v.nm 2) (ai (cO.v.nm 3) aA)))) (MA rfl cO.sc.nd) (aF (b_ cO.sc.nd (cO.v.l 0) (bL pX (bL eS (bL fh (bz (cO.v.nm 5) (iW a7)) (cO.v.nm 0)) (bL fh (cO.v.nm 6) (cO.v.nm 7))) (cO.v.nm 4)))
  (bx (b_ cO.sc.nd (cO.v.l 4) (bz (cO.v.nm 5) (iW a7))))))
  (bx (dY (cO.v.nm 0)))))) GI
theorem Jv:Fk w mg base "line_of" si ["table","steps","row"] 187 rp 186 2 sW:=by
 let c1:=SD base e;let c2:=JQ base e;let B:=Bt e;show fk (by ac_rfl) HQ (λv nd _ _ _ _ _ _ hr=>by nofun) Fp
theorem xn:Fk w mg base "table_of" qI ["steps"] 194 rp 193 3 nI:=by
 let c1:=Jv base e;let B:=Bt e;show fk (by ac_rfl) Gp (λv nd _ _ _ _ _ _ hr=>by nofun) Dk
theorem Df:Fk w mg base "squares_in" oB ["table"] 199 rp 198 3 oF:=by
 let c1:=sT base e;let B:=Bt e;show fk (by ac_rfl) BG (λv nd _ _ _ _ _ _ hr=>by nofun) zQ
theorem DV:Fk w mg base "shares_in" pH ["table","line"] 204 rp 203 3 pG:=by
 let c1:=sT base e;let B:=Bt e;show fk (by ac_rfl) DQ (λv nd _ _ _ _ _ _ hr=>by nofun) Cw
theorem LF:Fk w mg base "shares" vP ["steps"] 209 rp 208 4 vm:=by
 let c1:=xn base e;let c2:=DV base e;let c3:=Df base e;let B:=Bt e;show fk (by ac_rfl) KR (λv nd _ _ _ _ _ _ hr=>by nofun) IA
theorem mK:Fk w mg base "nearest_quotient" iY ["top","bottom"] 216 gg 215 1 gv:=by
 show fk (by ac_rfl) d6 (λv nd cdv A outer s H E hr=>(bx (dY (bL (EM hr rfl d6.sc.gen d6.sc.co) (bL iV (bL fh a7 (d6.v.nm 0)) (d6.v.nm 1)) (bL fh a7 (d6.v.nm 1)))))) rF
theorem DG:Fk w mg base "exchanged" pL ["rows","k","other"] 223 gg 222 1 jM:=by
 let B:=Bt e;show fk (by ac_rfl) Dw (λv nd _ _ _ _ _ _ hr=>by nofun) C5
theorem Hb:Fk w mg base "negated" sd ["row"] 228 gg 227 1 mL:=by
 let B:=Bt e;show fk (by ac_rfl) HJ (λv nd _ _ _ _ _ _ hr=>by nofun) Gd
theorem dW:MethAt (KX w.params) aE "__init__" "Bench.__init__" dE ["self","rows"] 240 (Hd.fd dE "__init__" "Bench.__init__" gg 239):=Hd.Ek (by kernel_rfl) λ_ _ _ _ _ _ _ _=>rfl
theorem oh:dh PW w (KX w.params) mg base fS 3 240 (Hd.fd dE "__init__" "Bench.__init__" gg 239) ["self","rows"] (gK hJ):=by
 let c1:=uY base e;let B:=Bt e;let Q:=Qt e
 show jz (N:=j6) (dW e).fn bI.sc (λcdv A outer s H E hr=>(aF (kc Q.aX.cl Q.cp (bI.v.nm 0) (t_ (Nc:=["row"]) (cx.look (bf dE) ["self","rows"] (by decide+kernel)) (jV (bI.v.nm 1)) (λ_ _ _ _=>(gI (show(["row"]:List Str).Nodup by decide+kernel))) (λ_ _ _ _=>fy) (λ_ _ _ _=>(i6 sG (ai g7 aA) B.kP rfl jn (by decide+kernel) rfl)) fb))
  (aF (kc Q.aX.cl Q.dS (bI.v.nm 0) (t_ (Nc:=["row"]) (cx.look (bf dE) ["self","rows"] (by decide+kernel)) (jV (bD c1.1 c1.2 (hr.mono (by decide)) (ai (dn fZ (ai (bI.v.nm 1) aA) B.f6 rfl eX (bI.v.d 0) (bI.v.g 0)) aA) (bI.v.d 1) (bI.v.g 1))) (λ_ _ _ _=>(gI (show(["row"]:List Str).Nodup by decide+kernel))) (λ_ _ _ _=>fy) (λ_ _ _ _=>(i6 sG (ai g7 aA) B.kP rfl jn (by decide+kernel) rfl)) fb))
  (bx (kc Q.aX.cl Q.cw (bI.v.nm 0) (t_ (Nc:=["row"]) (cx.look (bf dE) ["self","rows"] (by decide+kernel)) (jV (bD c1.1 c1.2 (hr.mono (by decide)) (ai (dn fZ (ai (bI.v.nm 1) aA) B.f6 rfl eX (bI.v.d 0) (bI.v.g 0)) aA) (bI.v.d 1) (bI.v.g 1))) (λ_ _ _ _=>(gI (show(["row"]:List Str).Nodup by decide+kernel))) (λ_ _ _ _=>fy) (λ_ _ _ _=>(i6 sG (ai g7 aA) B.kP rfl jn (by decide+kernel) rfl)) fb)))))) uz
theorem fX:MethAt (KX w.params) aE "take" "Bench.take" jh ["self","k","times","other"] 247 (Hd.fd jh "take" "Bench.take" gg 246):=Hd.VZ (by kernel_rfl) λ_ _ _ _ _ _ _ _ _ _=>rfl
theorem nX:dh PW w (KX w.params) mg base fS 2 247 (Hd.fd jh "take" "Bench.take" gg 246) ["self","k","times","other"] (gK i0):=by
 let c1:=EB base e;let Q:=Qt e
 show jz (N:=oN) (fX e).fn bc.sc (λcdv A outer s H E hr=>(aF (gF (bD c1.1 c1.2 (hr.mono (by decide)) (ai (bz (bK Q.aX.cl Q.cp (bc.v.nm 0)) (bc.v.nm 1)) (ai (iW (bc.v.nm 2)) (ai (bz (bK Q.aX.cl Q.cp (bc.v.nm 0)) (bc.v.nm 3)) aA))) (bc.v.d 0) (bc.v.g 0)) (bK Q.aX.cl Q.cp (bc.v.nm 0)) (bc.v.nm 1))
  (aF (gF (bD c1.1 c1.2 (hr.mono (by decide)) (ai (bz (bK Q.aX.cl Q.dS (bc.v.nm 0)) (bc.v.nm 1)) (ai (iW (bc.v.nm 2)) (ai (bz (bK Q.aX.cl Q.dS (bc.v.nm 0)) (bc.v.nm 3)) aA))) (bc.v.d 0) (bc.v.g 0)) (bK Q.aX.cl Q.dS (bc.v.nm 0)) (bc.v.nm 1))
  (bx (gF (bD c1.1 c1.2 (hr.mono (by decide)) (ai (bz (bK Q.aX.cl Q.cw (bc.v.nm 0)) (bc.v.nm 3)) (ai (bc.v.nm 2) (ai (bz (bK Q.aX.cl Q.cw (bc.v.nm 0)) (bc.v.nm 1)) aA))) (bc.v.d 0) (bc.v.g 0)) (bK Q.aX.cl Q.cw (bc.v.nm 0)) (bc.v.nm 3)))))) zT
theorem fN:MethAt (KX w.params) aE "exchange" "Bench.exchange" fV ["self","k","other"] 254 (Hd.fd fV "exchange" "Bench.exchange" gg 253):=Hd.IG (by kernel_rfl) λ_ _ _ _ _ _ _ _ _=>rfl
theorem oo:dh PW w (KX w.params) mg base fS 2 254 (Hd.fd fV "exchange" "Bench.exchange" gg 253) ["self","k","other"] (gK ij):=by
 let c1:=DG base e;let Q:=Qt e
 show jz (N:=j_) (fN e).fn bj.sc (λcdv A outer s H E hr=>(aF (kc Q.aX.cl Q.cp (bj.v.nm 0) (bD c1.1 c1.2 (hr.mono (by decide)) (ai (bK Q.aX.cl Q.cp (bj.v.nm 0)) (ai (bj.v.nm 1) (ai (bj.v.nm 2) aA))) (bj.v.d 0) (bj.v.g 0)))
  (aF (kc Q.aX.cl Q.dS (bj.v.nm 0) (bD c1.1 c1.2 (hr.mono (by decide)) (ai (bK Q.aX.cl Q.dS (bj.v.nm 0)) (ai (bj.v.nm 1) (ai (bj.v.nm 2) aA))) (bj.v.d 0) (bj.v.g 0)))
  (bx (kc Q.aX.cl Q.cw (bj.v.nm 0) (bD c1.1 c1.2 (hr.mono (by decide)) (ai (bK Q.aX.cl Q.cw (bj.v.nm 0)) (ai (bj.v.nm 1) (ai (bj.v.nm 2) aA))) (bj.v.d 0) (bj.v.g 0))))))) uy
theorem iM:MethAt (KX w.params) aE "change_sign" "Bench.change_sign" eZ ["self","k"] 261 (Hd.fd eZ "change_sign" "Bench.change_sign" gg 260):=Hd.Ek (by kernel_rfl) λ_ _ _ _ _ _ _ _=>rfl
theorem rG:dh PW w (KX w.params) mg base fS 2 261 (Hd.fd eZ "change_sign" "Bench.change_sign" gg 260) ["self","k"] (gK iL):=by
 let c1:=Hb base e;let Q:=Qt e
 show jz (N:=iP) (iM e).fn aY.sc (λcdv A outer s H E hr=>(aF (gF (bD c1.1 c1.2 (hr.mono (by decide)) (ai (bz (bK Q.aX.cl Q.cp (aY.v.nm 0)) (aY.v.nm 1)) aA) (aY.v.d 0) (aY.v.g 0)) (bK Q.aX.cl Q.cp (aY.v.nm 0)) (aY.v.nm 1))
  (aF (gF (bD c1.1 c1.2 (hr.mono (by decide)) (ai (bz (bK Q.aX.cl Q.dS (aY.v.nm 0)) (aY.v.nm 1)) aA) (aY.v.d 0) (aY.v.g 0)) (bK Q.aX.cl Q.dS (aY.v.nm 0)) (aY.v.nm 1))
  (bx (gF (bD c1.1 c1.2 (hr.mono (by decide)) (ai (bz (bK Q.aX.cl Q.cw (aY.v.nm 0)) (aY.v.nm 1)) aA) (aY.v.d 0) (aY.v.g 0)) (bK Q.aX.cl Q.cw (aY.v.nm 0)) (aY.v.nm 1)))))) qM
theorem gQ:MethAt (KX w.params) aE "live_rows" "Bench.live_rows" dO ["self","top","place"] 266 (Hd.fd dO "live_rows" "Bench.live_rows" gg 265):=Hd.IG (by kernel_rfl) λ_ _ _ _ _ _ _ _ _=>rfl
theorem nr:dh PW w (KX w.params) mg base fS 3 266 (Hd.fd dO "live_rows" "Bench.live_rows" gg 265) ["self","top","place"] (gK gS):=by
 let B:=Bt e;let Q:=Qt e;let hC:PySem.W.codeHdIn (KX w.params) 265 263=true:=by kernel_rfl
 show Ry (N:=jH) (Hd.fc (by kernel_rfl)) cJ.sc (λA outer s H E hr=>(aF (E8 cJ.sc.nd (cJ.v.l 3) (Nc:=["k","self","place"]) (cx.look (bf dO) ["self","top","place","live"] (by decide+kernel)) (nY (cJ.v.g 1) B.fL (ai (cJ.v.nm 1) (ai (dn fZ (ai (bK Q.aX.cl Q.cp (cJ.v.nm 0)) aA) B.f6 rfl eX (cJ.v.d 0) (cJ.v.g 0)) aA))) (λ_ _ _ _=>(gI (show(["k","self","place"]:List Str).Nodup by decide+kernel))) (λ_ _ _ _=>(Q4 (eW vG (dm _) (bz (bz (bK Q.aX.cl Q.cp g7) g7) g7) a7))) (λ_ _ _ _=>g7) fb)
  (bx (dY (Pb (c0:=265) (nH.look (Nc:=["k","self","place"]) (fr:=[none,some 0,some 2]) (p:="k") (cx.look (bf dO) ["self","top","place","live"] (by decide+kernel))) rfl hr rfl hC (λ_ _ _ _=>(dn Aq (ai (bz (bz (bK Q.aX.cl Q.cp g7) g7) g7) aA) B.Ax rfl wy (by decide+kernel) rfl)) (cJ.v.nm 3) (cJ.v.g 2) B.LD))))) tE
theorem lS:MethAt (KX w.params) aE "gather" "Bench.gather" gY ["self","top","place"] 273 (Hd.fd gY "gather" "Bench.gather" gg 272):=Hd.IG (by kernel_rfl) λ_ _ _ _ _ _ _ _ _=>rfl
theorem yn:dh PW w (KX w.params) mg base fS 4 273 (Hd.fd gY "gather" "Bench.gather" gg 272) ["self","top","place"] (gK lZ):=by
 let c1:=mK base e;let B:=Bt e;let Q:=Qt e
 show jz (N:=lY) (lS e).fn aC.sc (λcdv A outer s H E hr=>(aF (b_ aC.sc.nd (aC.v.l 3) (dX (aC.v.nm 0) Q.aX.cl (gQ e).me (nr base e) (hr.mono (by decide)) (gQ e).bd (ai (aC.v.nm 1) (ai (aC.v.nm 2) aA))))
  (aF (vS (eW vC (dm _) (dn fZ (ai (aC.v.nm 3) aA) B.f6 rfl eX (aC.v.d 0) (aC.v.g 0)) a7) (aF (b_ aC.sc.nd (aC.v.l 4) (bz (aC.v.nm 3) (iW a7)))
  (aF (b_ aC.sc.nd (aC.v.l 5) (bz (aC.v.nm 3) (iW a7)))
  (aF (fx (dX (aC.v.nm 0) Q.aX.cl (fX e).me (nX base e) (hr.mono (by decide)) (fX e).bd (ai (aC.v.nm 4) (ai (bD c1.1 c1.2 (hr.mono (by decide)) (ai (bz (bz (bK Q.aX.cl Q.cp (aC.v.nm 0)) (aC.v.nm 4)) (aC.v.nm 2)) (ai (bz (bz (bK Q.aX.cl Q.cp (aC.v.nm 0)) (aC.v.nm 5)) (aC.v.nm 2)) aA)) (aC.v.d 1) (aC.v.g 1)) (ai (aC.v.nm 5) aA)))))
  (bx (b_ aC.sc.nd (aC.v.l 3) (dX (aC.v.nm 0) Q.aX.cl (gQ e).me (nr base e) (hr.mono (by decide)) (gQ e).bd (ai (aC.v.nm 1) (ai (aC.v.nm 2) aA)))))))))
  (aF (gN (eW (Cf hr) (dm _) (dn fZ (ai (aC.v.nm 3) aA) B.f6 rfl eX (aC.v.d 0) (aC.v.g 0)) a7) (bx (dY m_)) gu)
  (aF (fx (dX (aC.v.nm 0) Q.aX.cl (fN e).me (oo base e) (hr.mono (by decide)) (fN e).bd (ai (aC.v.nm 1) (ai (bz (aC.v.nm 3) a7) aA))))
  (aF (gN (eW yr (dm _) (bz (bz (bK Q.aX.cl Q.cp (aC.v.nm 0)) (aC.v.nm 1)) (aC.v.nm 2)) a7) (bx (fx (dX (aC.v.nm 0) Q.aX.cl (iM e).me (rG base e) (hr.mono (by decide)) (iM e).bd (ai (aC.v.nm 1) aA)))) gu)
  (bx (dY m_)))))))) wQ
theorem iN:MethAt (KX w.params) aE "lower_above" "Bench.lower_above" eY ["self","top","place"] 280 (Hd.fd eY "lower_above" "Bench.lower_above" gg 279):=Hd.IG (by kernel_rfl) λ_ _ _ _ _ _ _ _ _=>rfl
theorem rJ:dh PW w (KX w.params) mg base fS 3 280 (Hd.fd eY "lower_above" "Bench.lower_above" gg 279) ["self","top","place"] (gK iO):=by
 let B:=Bt e;let Q:=Qt e;show jz (N:=iK) (iN e).fn bp.sc (λcdv A outer s H E hr=>(bx (kL (j9 (bp.v.g 0) B.fL (ai (bp.v.nm 1) aA)) (gI bp.sc.nd) (bx (fx (dX (bp.v.nm 0) Q.aX.cl (fX e).me (nX base e) (hr.mono (by decide)) (fX e).bd (ai (bp.v.nm 3) (ai (bL (EM hr rfl bp.sc.gen bp.sc.co) (bz (bz (bK Q.aX.cl Q.cp (bp.v.nm 0)) (bp.v.nm 3)) (bp.v.nm 2)) (bz (bz (bK Q.aX.cl Q.cp (bp.v.nm 0)) (bp.v.nm 1)) (bp.v.nm 2))) (ai (bp.v.nm 1) aA))))))))) qS
theorem Fv:Fk w mg base "standing" qC ["rows"] 294 gg 293 5 ju:=by
 let c1:=rB base e;let c2:=tJ base e;let B:=Bt e;let Q:=Qt e
 show fk (by ac_rfl) aZ (λv nd cdv A outer s H E hr=>(aF (b_ aZ.sc.nd (aZ.v.l 1) (A_ ⟨Q.aX.Qg,(dW e).me.at_,(dW e).me.fn,Q.aX.kp⟩ (oh base e) (hr.mono (by decide)) (aZ.v.g 0) Q.aX.mg (dW e).bd (ai (aZ.v.nm 0) aA) (aZ.v.d 0)))
  (aF (b_ aZ.sc.nd (aZ.v.l 2) a7)
  (aF (kL (j9 (aZ.v.g 2) B.fL (ai (dn fZ (ai (bz (aZ.v.nm 0) a7) aA) B.f6 rfl eX (aZ.v.d 1) (aZ.v.g 1)) aA)) (gI aZ.sc.nd) (bx (gN (iw (dX (aZ.v.nm 1) Q.aX.cl (lS e).me (yn base e) (hr.mono (by decide)) (lS e).bd (ai (aZ.v.nm 2) (ai (aZ.v.nm 3) aA)))) (aF (fx (dX (aZ.v.nm 1) Q.aX.cl (iN e).me (rJ base e) (hr.mono (by decide)) (iN e).bd (ai (aZ.v.nm 2) (ai (aZ.v.nm 3) aA))))
  (bx (Ib aZ.sc.nd (aZ.v.l 2) a7 JD))) gu)))
  (aF (b_ aZ.sc.nd (aZ.v.l 4) (bD c1.1 c1.2 (hr.mono (by decide)) (ai (bK Q.aX.cl Q.cw (aZ.v.nm 1)) (ai (dn fZ (ai (aZ.v.nm 0) aA) B.f6 rfl eX (aZ.v.d 1) (aZ.v.g 1)) aA)) (aZ.v.d 3) (aZ.v.g 3)))
  (bx (dY (oS (ai (bD c2.1 c2.2 (hr.mono (by decide)) (ai (kq (bK Q.aX.cl Q.cp (aZ.v.nm 1)) nQ (kv (aZ.v.nm 2))) aA) (aZ.v.d 4) (aZ.v.g 4)) (ai (bD c2.1 c2.2 (hr.mono (by decide)) (ai (bK Q.aX.cl Q.dS (aZ.v.nm 1)) aA) (aZ.v.d 4) (aZ.v.g 4)) (ai (aZ.v.nm 4) aA))))))))))) D0
theorem uF:Fk w mg base "is_half_at_most" jK ["share"] 301 gJ 300 1 jG:=by
 let B:=Bt e;show fk (by ac_rfl) uD (λv nd _ _ _ _ _ _ hr=>by nofun) sQ
theorem wK:Fk w mg base "falls_too_far" lq ["square","share","ahead"] 308 gJ 307 4 ll:=by
 let c1:=Pf base e;let c2:=sT base e;let c3:=OC base e;let c4:=K7 base e;let B:=Bt e;show fk (by ac_rfl) xp (λv nd _ _ _ _ _ _ hr=>by nofun) vb
theorem FQ:Fk w mg base "is_short" q_ ["steps"] 313 gJ 312 5 qA:=by
 let c1:=LF base e;let c2:=uF base e;let c3:=wK base e;let B:=Bt e;show fk (by ac_rfl) FC (λv nd _ _ _ _ _ _ hr=>by nofun) DF
theorem gO:MethAt (KX w.params) aR "__init__" "Stairs.__init__" fC ["self","steps"] 327 (Hd.fd fC "__init__" "Stairs.__init__" gJ 326):=Hd.Ek (by kernel_rfl) λ_ _ _ _ _ _ _ _=>rfl
theorem uw:dh PW w (KX w.params) mg base fS 5 327 (Hd.fd fC "__init__" "Stairs.__init__" gJ 326) ["self","steps"] (gK jE):=by
 let c1:=xn base e;let Q:=Qt e
 show jz (N:=jD) (gO e).fn cV.sc (λcdv A outer s H E hr=>(aF (kc Q.bF.cl Q.jv (cV.v.nm 0) (A_ ⟨Q.aX.Qg,(dW e).me.at_,(dW e).me.fn,Q.aX.kp⟩ (oh base e) (hr.mono (by decide)) (cV.v.g 0) Q.aX.mg (dW e).bd (ai (cV.v.nm 1) aA) (cV.v.d 0)))
  (bx (kc Q.bF.cl Q.bY (cV.v.nm 0) (bD c1.1 c1.2 (hr.mono (by decide)) (ai (cV.v.nm 1) aA) (cV.v.d 1) (cV.v.g 1)))))) sJ
theorem cu:MethAt (KX w.params) aR "last_of" "Stairs.last_of" fQ ["self","k"] 334 (Hd.fd fQ "last_of" "Stairs.last_of" gJ 333):=Hd.Ek (by kernel_rfl) λ_ _ _ _ _ _ _ _=>rfl
theorem e_:dh PW w (KX w.params) mg base fS 1 334 (Hd.fd fQ "last_of" "Stairs.last_of" gJ 333) ["self","k"] (gK dB):=by
 let Q:=Qt e;show jz (N:=ka) (cu e).fn fU.sc (λcdv A outer s H E hr=>(bx (dY (GK (eW Fi (dm _) (fU.v.nm 1) a7) (bz (bz (bK Q.bF.cl Q.bY (fU.v.nm 0)) (fU.v.nm 1)) (fU.v.nm 1)) a7)))) uv
theorem gB:MethAt (KX w.params) aR "lessen" "Stairs.lessen" gn ["self","k","j"] 341 (Hd.fd gn "lessen" "Stairs.lessen" gJ 340):=Hd.IG (by kernel_rfl) λ_ _ _ _ _ _ _ _ _=>rfl
theorem oR:dh PW w (KX w.params) mg base fS 3 341 (Hd.fd gn "lessen" "Stairs.lessen" gJ 340) ["self","k","j"] (gK iR):=by
 let c1:=mK base e;let B:=Bt e;let Q:=Qt e
 show jz (N:=k_) (gB e).fn aS.sc (λcdv A outer s H E hr=>(aF (b_ aS.sc.nd (aS.v.l 3) (bD c1.1 c1.2 (hr.mono (by decide)) (ai (bz (bz (bK Q.bF.cl Q.bY (aS.v.nm 0)) (aS.v.nm 1)) (aS.v.nm 2)) (ai (bz (bz (bK Q.bF.cl Q.bY (aS.v.nm 0)) (aS.v.nm 2)) (aS.v.nm 2)) aA)) (aS.v.d 0) (aS.v.g 0)))
  (aF (gN (eW (Cf hr) (dm _) (aS.v.nm 3) a7) (bx Oo) gu)
  (aF (fx (dX (bK Q.bF.cl Q.jv (aS.v.nm 0)) Q.aX.cl (fX e).me (nX base e) (hr.mono (by decide)) (fX e).bd (ai (aS.v.nm 1) (ai (aS.v.nm 3) (ai (aS.v.nm 2) aA)))))
  (bx (kL (j9 (aS.v.g 1) B.fL (ai (bL iV (aS.v.nm 2) a7) aA)) (gI aS.sc.nd) (bx (Li (bz (bK Q.bF.cl Q.bY (aS.v.nm 0)) (aS.v.nm 1)) (aS.v.nm 4) (bL fh (aS.v.nm 3) (bz (bz (bK Q.bF.cl Q.bY (aS.v.nm 0)) (aS.v.nm 2)) (aS.v.nm 4))) PV)))))))) vV
theorem jJ:MethAt (KX w.params) aR "is_steep" "Stairs.is_steep" fE ["self","k"] 348 (Hd.fd fE "is_steep" "Stairs.is_steep" gJ 347):=Hd.Ek (by kernel_rfl) λ_ _ _ _ _ _ _ _=>rfl
theorem uE:dh PW w (KX w.params) mg base fS 2 348 (Hd.fd fE "is_steep" "Stairs.is_steep" gJ 347) ["self","k"] (gK jC):=by
 let Q:=Qt e
 show jz (N:=jF) (jJ e).fn bh.sc (λcdv A outer s H E hr=>(aF (b_ bh.sc.nd (bh.v.l 2) (bz (bz (bK Q.bF.cl Q.bY (bh.v.nm 0)) (bh.v.nm 1)) (bL eS (bh.v.nm 1) a7)))
  (aF (b_ bh.sc.nd (bh.v.l 3) (dX (bh.v.nm 0) Q.bF.cl (cu e).me (e_ base e) (hr.mono (by decide)) (cu e).bd (ai (bL eS (bh.v.nm 1) a7) aA)))
  (bx (dY (Aj yr (dm _) (bL fh a7 (bL iV (bL fh (dX (bh.v.nm 0) Q.bF.cl (cu e).me (e_ base e) (hr.mono (by decide)) (cu e).bd (ai (bh.v.nm 1) aA)) (dX (bh.v.nm 0) Q.bF.cl (cu e).me (e_ base e) (hr.mono (by decide)) (cu e).bd (ai (bL eS (bh.v.nm 1) a7) aA))) (bL fh (bh.v.nm 2) (bh.v.nm 2)))) (bL fh (bL fh a7 (bh.v.nm 3)) (bh.v.nm 3)))))))) tI
theorem mX:MethAt (KX w.params) aR "swap" "Stairs.swap" iy ["self","k"] 355 (Hd.fd iy "swap" "Stairs.swap" gJ 354):=Hd.Ek (by kernel_rfl) λ_ _ _ _ _ _ _ _=>rfl
theorem zW:dh PW w (KX w.params) mg base fS 3 355 (Hd.fd iy "swap" "Stairs.swap" gJ 354) ["self","k"] (gK ng):=by
 let B:=Bt e;let Q:=Qt e
 show jz (N:=m4) (mX e).fn ak.sc (λcdv A outer s H E hr=>(aF (fx (dX (bK Q.bF.cl Q.jv (ak.v.nm 0)) Q.aX.cl (fN e).me (oo base e) (hr.mono (by decide)) (fN e).bd (ai (ak.v.nm 1) (ai (bL eS (ak.v.nm 1) a7) aA))))
  (aF (b_ ak.sc.nd (ak.v.l 2) (bz (bz (bK Q.bF.cl Q.bY (ak.v.nm 0)) (ak.v.nm 1)) (bL eS (ak.v.nm 1) a7)))
  (aF (b_ ak.sc.nd (ak.v.l 3) (dX (ak.v.nm 0) Q.bF.cl (cu e).me (e_ base e) (hr.mono (by decide)) (cu e).bd (ai (ak.v.nm 1) aA)))
  (aF (b_ ak.sc.nd (ak.v.l 4) (dX (ak.v.nm 0) Q.bF.cl (cu e).me (e_ base e) (hr.mono (by decide)) (cu e).bd (ai (bL eS (ak.v.nm 1) a7) aA)))
  (aF (b_ ak.sc.nd (ak.v.l 5) (bL pX (bL iV (bL fh (dX (ak.v.nm 0) Q.bF.cl (cu e).me (e_ base e) (hr.mono (by decide)) (cu e).bd (ai (bL eS (ak.v.nm 1) a7) aA)) (ak.v.nm 3)) (bL fh (ak.v.nm 2) (ak.v.nm 2))) (ak.v.nm 4)))
  (aF (b_ ak.sc.nd (ak.v.l 6) (kq (bz (bK Q.bF.cl Q.bY (ak.v.nm 0)) (ak.v.nm 1)) nQ (kv (bL eS (ak.v.nm 1) a7))))
  (aF (gF (bL BO (kq (bz (bK Q.bF.cl Q.bY (ak.v.nm 0)) (bL eS (ak.v.nm 1) a7)) nQ (kv (bL eS (ak.v.nm 1) a7))) (qB (ai (ak.v.nm 2) (ai (ak.v.nm 3) aA)))) (bK Q.bF.cl Q.bY (ak.v.nm 0)) (ak.v.nm 1))
  (aF (gF (bL BO (ak.v.nm 6) (qB (ai (ak.v.nm 5) aA))) (bK Q.bF.cl Q.bY (ak.v.nm 0)) (bL eS (ak.v.nm 1) a7))
  (bx (kL (nY (ak.v.g 1) B.fL (ai (bL iV (ak.v.nm 1) a7) (ai (dn fZ (ai (bK Q.bF.cl Q.bY (ak.v.nm 0)) aA) B.f6 rfl eX (ak.v.d 0) (ak.v.g 0)) aA))) (gI ak.sc.nd) (aF (b_ ak.sc.nd (ak.v.l 8) (bz (bK Q.bF.cl Q.bY (ak.v.nm 0)) (ak.v.nm 7)))
  (aF (b_ ak.sc.nd (ak.v.l 9) (bL pX (bL eS (bL fh (ak.v.nm 3) (bz (ak.v.nm 8) (bL eS (ak.v.nm 1) a7))) (bL fh (ak.v.nm 2) (bz (ak.v.nm 8) (ak.v.nm 1)))) (ak.v.nm 4)))
  (aF (b_ ak.sc.nd (ak.v.l 10) (bL pX (bL iV (bL fh (ak.v.nm 5) (bz (ak.v.nm 8) (ak.v.nm 1))) (bL fh (ak.v.nm 2) (ak.v.nm 9))) (ak.v.nm 3)))
  (bx (gF (bL BO (bL iV (kq (ak.v.nm 8) nQ (kv (bL eS (ak.v.nm 1) a7))) (qB (ai (ak.v.nm 10) (ai (ak.v.nm 9) aA)))) (kq (ak.v.nm 8) (kv (bL iV (ak.v.nm 1) a7)) nQ)) (bK Q.bF.cl Q.bY (ak.v.nm 0)) (ak.v.nm 7))))))))))))))))) x9
theorem jZ:MethAt (KX w.params) aR "shorten" "Stairs.shorten" fO ["self"] 362 (Hd.fd fO "shorten" "Stairs.shorten" gJ 361):=Hd.VM (by kernel_rfl) λ_ _ _ _ _ _ _=>rfl
theorem ve:dh PW w (KX w.params) mg base fS 4 362 (Hd.fd fO "shorten" "Stairs.shorten" gJ 361) ["self"] (gK j5):=by
 let B:=Bt e;let Q:=Qt e
 show jz (N:=j0) (jZ e).fn aM.sc (λcdv A outer s H E hr=>(aF (b_ aM.sc.nd (aM.v.l 1) a7)
  (bx (vS (eW yr (dm _) (aM.v.nm 1) (dn fZ (ai (bK Q.bF.cl Q.bY (aM.v.nm 0)) aA) B.f6 rfl eX (aM.v.d 0) (aM.v.g 0))) (aF (fx (dX (aM.v.nm 0) Q.bF.cl (gB e).me (oR base e) (hr.mono (by decide)) (gB e).bd (ai (aM.v.nm 1) (ai (bL eS (aM.v.nm 1) a7) aA))))
  (bx (gN (iw (dX (aM.v.nm 0) Q.bF.cl (jJ e).me (uE base e) (hr.mono (by decide)) (jJ e).bd (ai (aM.v.nm 1) aA))) (aF (fx (dX (aM.v.nm 0) Q.bF.cl (mX e).me (zW base e) (hr.mono (by decide)) (mX e).bd (ai (aM.v.nm 1) aA)))
  (bx (b_ aM.sc.nd (aM.v.l 1) (dn (FH rfl) (ai a7 (ai (bL eS (aM.v.nm 1) a7) aA)) B.AH rfl wx (aM.v.d 1) (aM.v.g 1))))) (aF (kL (JZ (aM.v.g 2) B.fL (ai (bL eS (aM.v.nm 1) a7) (ai (iW a7) (ai (iW a7) aA)))) (gI aM.sc.nd) (bx (fx (dX (aM.v.nm 0) Q.bF.cl (gB e).me (oR base e) (hr.mono (by decide)) (gB e).bd (ai (aM.v.nm 1) (ai (aM.v.nm 2) aA))))))
  (bx (Ib aM.sc.nd (aM.v.l 1) a7 JD)))))))))) ur
theorem Oi:Fk w mg base "short" x_ ["steps"] 376 gJ 375 7 uk:=by
 let c1:=rB base e;let c2:=tJ base e;let B:=Bt e;let Q:=Qt e
 show fk (by ac_rfl) cX (λv nd cdv A outer s H E hr=>(aF (b_ cX.sc.nd (cX.v.l 1) (A_ ⟨Q.bF.Qg,(gO e).me.at_,(gO e).me.fn,Q.bF.kp⟩ (uw base e) (hr.mono (by decide)) (cX.v.g 0) Q.bF.mg (gO e).bd (ai (cX.v.nm 0) aA) (cX.v.d 0)))
  (aF (fx (OJ (cX.v.nm 1) Q.bF.cl (jZ e).me (ve base e) (hr.mono (by decide)) (jZ e).bd))
  (aF (b_ cX.sc.nd (cX.v.l 2) (bK Q.bF.cl Q.jv (cX.v.nm 1)))
  (bx (dY (oS (ai (bD c2.1 c2.2 (hr.mono (by decide)) (ai (bK Q.aX.cl Q.cp (cX.v.nm 2)) aA) (cX.v.d 3) (cX.v.g 3)) (ai (bD c2.1 c2.2 (hr.mono (by decide)) (ai (bK Q.aX.cl Q.dS (cX.v.nm 2)) aA) (cX.v.d 3) (cX.v.g 3)) (ai (bD c1.1 c1.2 (hr.mono (by decide)) (ai (bK Q.aX.cl Q.cw (cX.v.nm 2)) (ai (dn fZ (ai (cX.v.nm 0) aA) B.f6 rfl eX (cX.v.d 1) (cX.v.g 1)) aA)) (cX.v.d 2) (cX.v.g 2)) aA)))))))))) Lw
theorem z_:Fk w mg base "shows_short" mZ ["steps","told"] 383 gJ 382 8 eN:=by
 let c1:=pS base e;let c2:=Ct base e;let c3:=FQ base e;let B:=Bt e;show fk (by ac_rfl) zR (λv nd _ _ _ _ _ _ hr=>by nofun) xI
theorem Kf:Fk w mg base "_law_at" vj ["_law_script","_law_k"] 390 fY 389 1 vq:=by
 let B:=Bt e;show fk (by ac_rfl) KW (λv nd _ _ _ _ _ _ hr=>by nofun) IP
theorem Ga:Fk w mg base "_law_left" qZ ["_law_script","_law_k"] 397 fY 396 2 qy:=by
 let c1:=Kf base e;let B:=Bt e;show fk (by ac_rfl) F6 (λv nd _ _ _ _ _ _ hr=>by nofun) Du
theorem mf:Fk w mg base "_law_digit" pE ["_law_left_here","_law_many"] 404 fY 403 1 cK:=by
 let B:=Bt e;show fk (by ac_rfl) DN (λv nd _ _ _ _ _ _ hr=>by nofun) CO
theorem Ck:Fk w mg base "_law_number" ow ["_law_left_here","_law_kind"] 411 fY 410 2 kW:=by
 let c1:=mf base e;let B:=Bt e;show fk (by ac_rfl) A9 (λv nd _ _ _ _ _ _ hr=>by nofun) zK
theorem Gn:Fk w mg base "_law_rows" qO ["_law_left_here","_law_many","_law_wide","_law_kind"] 416 fY 415 3 kH:=by
 let c1:=Ck base e;let B:=Bt e;show fk (by ac_rfl) Fj (λv nd _ _ _ _ _ _ hr=>by nofun) DC
theorem Dx:Fk w mg base "_law_drawn" pk ["_law_left_here"] 423 fY 422 4 pK:=by
 let c1:=mf base e;let c2:=Gn base e;let B:=Bt e;show fk (by ac_rfl) DZ (λv nd _ _ _ _ _ _ hr=>by nofun) Br
theorem Hy:Fk w mg base "_law_dot" tw ["_law_one","_law_other"] 428 fY 427 1 o7:=by
 let B:=Bt e;show fk (by ac_rfl) H_ (λv nd _ _ _ _ _ _ hr=>by nofun) FR
theorem zh:Fk w mg base "_law_own" rR ["_law_steps"] 435 fY 434 2 g6:=by
 let c1:=Hy base e;let B:=Bt e;show fk (by ac_rfl) ID (λv nd _ _ _ _ _ _ hr=>by nofun) GO
theorem Dl:Fk w mg base "_law_short" pj ["_law_steps"] 442 fY 441 3 pD:=by
 let c1:=zh base e;let B:=Bt e;show fk (by ac_rfl) Dv (λv nd _ _ _ _ _ _ hr=>by nofun) B7
theorem rq:Fk w mg base "_law_product" m9 ["_law_one","_law_other"] 447 fY 446 1 dF:=by
 let B:=Bt e;show fk (by ac_rfl) Ac (λv nd _ _ _ _ _ _ hr=>by nofun) x8
theorem wz:Fk w mg base "_law_unit" qE ["_law_n"] 452 fY 451 1 kE:=by
 let B:=Bt e;show fk (by ac_rfl) Gj (λv nd _ _ _ _ _ _ hr=>by nofun) DR
theorem Aa:Fk w mg base "_law_is_rows" mY ["_law_rows_here","_law_many","_law_wide"] 457 fY 456 1 iB:=by
 let B:=Bt e;show fk (by ac_rfl) zI (λv nd _ _ _ _ _ _ hr=>by nofun) xN
theorem zN:Fk w mg base "_law_is_told" nc ["_law_steps","_law_told"] 464 fY 463 4 eP:=by
 let c1:=Aa base e;let c2:=rq base e;let c3:=wz base e;let c4:=Dl base e;let B:=Bt e
 show fk (by ac_rfl) aB (λv nd cdv A outer s H E hr=>(aF (gN (nC (nG (kU (iw (dn Fl (ai (aB.v.nm 1) (ai (qw B.jB rfl h_ (aB.v.d 0) (aB.v.g 0)) aA)) B.oM rfl mQ (aB.v.d 1) (aB.v.g 1)))) (mE (eW vG (dm _) (dn fZ (ai (aB.v.nm 1) aA) B.f6 rfl eX (aB.v.d 2) (aB.v.g 2)) a7)))) (bx (dY m_)) gu)
  (aF (Cc (aB.v.nm 1) (MA rfl aB.sc.nd))
  (aF (b_ aB.sc.nd (aB.v.l 5) (dn fZ (ai (aB.v.nm 0) aA) B.f6 rfl eX (aB.v.d 2) (aB.v.g 2)))
  (aF (gN (nC (nG (kU (iw (bD c1.1 c1.2 (hr.mono (by decide)) (ai (aB.v.nm 2) (ai (aB.v.nm 5) (ai (dn fZ (ai (bz (aB.v.nm 0) a7) aA) B.f6 rfl eX (aB.v.d 2) (aB.v.g 2)) aA))) (aB.v.d 3) (aB.v.g 3)))) (nG (kU (iw (bD c1.1 c1.2 (hr.mono (by decide)) (ai (aB.v.nm 3) (ai (aB.v.nm 5) (ai (aB.v.nm 5) aA))) (aB.v.d 3) (aB.v.g 3)))) (mE (kU (iw (bD c1.1 c1.2 (hr.mono (by decide)) (ai (aB.v.nm 4) (ai (aB.v.nm 5) (ai (aB.v.nm 5) aA))) (aB.v.d 3) (aB.v.g 3)))))))) (bx (dY m_)) gu)
  (aF (gN (nC (nG (eW (AB hr) (dm _) (bD c2.1 c2.2 (hr.mono (by decide)) (ai (aB.v.nm 3) (ai (aB.v.nm 4) aA)) (aB.v.d 4) (aB.v.g 4)) (bD c3.1 c3.2 (hr.mono (by decide)) (ai (aB.v.nm 5) aA) (aB.v.d 5) (aB.v.g 5))) (mE (eW (AB hr) (dm _) (bD c2.1 c2.2 (hr.mono (by decide)) (ai (aB.v.nm 3) (ai (aB.v.nm 0) aA)) (aB.v.d 4) (aB.v.g 4)) (aB.v.nm 2))))) (bx (dY m_)) gu)
  (bx (dY (bD c4.1 c4.2 (hr.mono (by decide)) (ai (aB.v.nm 2) aA) (aB.v.d 6) (aB.v.g 6)))))))))) x6
theorem F7:Fk w mg base "_law_turn" eK ["_law_left_here","_law_n","_law_deeds","_law_most"] 469 fY 468 2 nD:=by
 let c1:=wz base e;let c2:=mf base e;let B:=Bt e
 show fk (by ac_rfl) aw (λv nd cdv A outer s H E hr=>(aF (LP aw.sc.nd (aw.v.l 4) (Nc:=["_law_row"]) (cx.look (bf eK) ["_law_left_here","_law_n","_law_deeds","_law_most","_law_turn_here","_law_columns","_law_k","_law_one","_law_other","_law_many","_law_back"] (by decide+kernel)) (jV (bD c1.1 c1.2 (hr.mono (by decide)) (ai (aw.v.nm 1) aA) (aw.v.d 0) (aw.v.g 0))) (λ_ _ _ _=>(gI (show(["_law_row"]:List Str).Nodup by decide+kernel))) (λ_ _ _ _=>fy) (λ_ _ _ _=>(i6 sG (ai g7 aA) B.kP rfl jn (by decide+kernel) rfl)) fb)
  (aF (O7 aw.sc.nd (aw.v.l 5) (t_ (Nc:=["_law_row"]) (cx.look (bf eK) ["_law_left_here","_law_n","_law_deeds","_law_most","_law_turn_here","_law_columns","_law_k","_law_one","_law_other","_law_many","_law_back"] (by decide+kernel)) (jV (bD c1.1 c1.2 (hr.mono (by decide)) (ai (aw.v.nm 1) aA) (aw.v.d 0) (aw.v.g 0))) (λ_ _ _ _=>(gI (show(["_law_row"]:List Str).Nodup by decide+kernel))) (λ_ _ _ _=>fy) (λ_ _ _ _=>(i6 sG (ai g7 aA) B.kP rfl jn (by decide+kernel) rfl)) fb))
  (aF (kL (j9 (aw.v.g 1) B.fL (ai (aw.v.nm 2) aA)) (gI aw.sc.nd) (aF (b_ aw.sc.nd (aw.v.l 7) (bD c2.1 c2.2 (hr.mono (by decide)) (ai (aw.v.nm 0) (ai (aw.v.nm 1) aA)) (aw.v.d 2) (aw.v.g 2)))
  (aF (b_ aw.sc.nd (aw.v.l 8) (bD c2.1 c2.2 (hr.mono (by decide)) (ai (aw.v.nm 0) (ai (aw.v.nm 1) aA)) (aw.v.d 2) (aw.v.g 2)))
  (aF (b_ aw.sc.nd (aw.v.l 9) (bL eS (bD c2.1 c2.2 (hr.mono (by decide)) (ai (aw.v.nm 0) (ai (bL iV (bL fh a7 (aw.v.nm 3)) a7) aA)) (aw.v.d 2) (aw.v.g 2)) (aw.v.nm 3)))
  (bx (gN (eW vG (dm _) (aw.v.nm 7) (aw.v.nm 8)) (aF (o5 (jQ (Nc:=["_law_a","_law_b","_law_many"]) (cx.look (bf eK) ["_law_left_here","_law_n","_law_deeds","_law_most","_law_turn_here","_law_columns","_law_k","_law_one","_law_other","_law_many","_law_back"] (by decide+kernel)) (Az (aw.v.g 3) B.wm (ai (bz (aw.v.nm 4) (aw.v.nm 7)) (ai (bz (aw.v.nm 4) (aw.v.nm 8)) aA))) (λ_ _ _ _=>(wZ rfl (show(["_law_a","_law_b","_law_many"]:List Str).Nodup by decide+kernel))) (λ_ _ _ _=>fy) (λ_ _ _ _=>(bL iV g7 (bL fh g7 g7))) yu) (aw.v.nm 4) (aw.v.nm 7))
  (bx (o5 (jQ (Nc:=["_law_a","_law_b","_law_many"]) (cx.look (bf eK) ["_law_left_here","_law_n","_law_deeds","_law_most","_law_turn_here","_law_columns","_law_k","_law_one","_law_other","_law_many","_law_back"] (by decide+kernel)) (Az (aw.v.g 3) B.wm (ai (bz (aw.v.nm 5) (aw.v.nm 8)) (ai (bz (aw.v.nm 5) (aw.v.nm 7)) aA))) (λ_ _ _ _=>(wZ rfl (show(["_law_a","_law_b","_law_many"]:List Str).Nodup by decide+kernel))) (λ_ _ _ _=>fy) (λ_ _ _ _=>(bL eS g7 (bL fh g7 g7))) yu) (aw.v.nm 5) (aw.v.nm 8)))) (aF (o5 (jQ (Nc:=["_law_a"]) (cx.look (bf eK) ["_law_left_here","_law_n","_law_deeds","_law_most","_law_turn_here","_law_columns","_law_k","_law_one","_law_other","_law_many","_law_back"] (by decide+kernel)) (jV (bz (aw.v.nm 4) (aw.v.nm 7))) (λ_ _ _ _=>(gI (show(["_law_a"]:List Str).Nodup by decide+kernel))) (λ_ _ _ _=>fy) (λ_ _ _ _=>(iW g7)) fb) (aw.v.nm 4) (aw.v.nm 7))
  (aF (o5 (jQ (Nc:=["_law_a"]) (cx.look (bf eK) ["_law_left_here","_law_n","_law_deeds","_law_most","_law_turn_here","_law_columns","_law_k","_law_one","_law_other","_law_many","_law_back"] (by decide+kernel)) (jV (bz (aw.v.nm 5) (aw.v.nm 7))) (λ_ _ _ _=>(gI (show(["_law_a"]:List Str).Nodup by decide+kernel))) (λ_ _ _ _=>fy) (λ_ _ _ _=>(iW g7)) fb) (aw.v.nm 5) (aw.v.nm 7))
  (aF (fx (MZ (aw.v.nm 4)))
  (bx (fx (MZ (aw.v.nm 5)))))))))))))
  (aF (b_ aw.sc.nd (aw.v.l 10) (i6 nO (ai (jQ (Nc:=["_law_k","_law_columns"]) (cx.look (bf eK) ["_law_left_here","_law_n","_law_deeds","_law_most","_law_turn_here","_law_columns","_law_k","_law_one","_law_other","_law_many","_law_back"] (by decide+kernel)) (j9 (aw.v.g 1) B.fL (ai (aw.v.nm 1) aA)) (λ_ _ _ _=>(gI (show(["_law_k","_law_columns"]:List Str).Nodup by decide+kernel))) (λ_ _ _ _=>fy) (λ_ _ _ _=>(i6 nO (ai (jQ (Nc:=["_law_row","_law_k"]) (cx.Ni (by decide+kernel)) (jV g7) (λ_ _ _ _=>(gI (show(["_law_row","_law_k"]:List Str).Nodup by decide+kernel))) (λ_ _ _ _=>fy) (λ_ _ _ _=>(bz g7 g7)) fb) aA) B.jB rfl h_ (by decide+kernel) rfl)) fb) aA) B.jB rfl h_ (aw.v.d 4) (aw.v.g 4)))
  (bx (dY (oS (ai (i6 nO (ai (jQ (Nc:=["_law_row"]) (cx.look (bf eK) ["_law_left_here","_law_n","_law_deeds","_law_most","_law_turn_here","_law_columns","_law_k","_law_one","_law_other","_law_many","_law_back"] (by decide+kernel)) (jV (aw.v.nm 4)) (λ_ _ _ _=>(gI (show(["_law_row"]:List Str).Nodup by decide+kernel))) (λ_ _ _ _=>fy) (λ_ _ _ _=>(i6 nO (ai g7 aA) B.jB rfl h_ (by decide+kernel) rfl)) fb) aA) B.jB rfl h_ (aw.v.d 4) (aw.v.g 4)) (ai (aw.v.nm 10) aA)))))))))) DL
theorem SF:Fk w mg base "law" tP ["_law_script"] 474 fY 473 9 Mf:=by
 let c1:=Ga base e;let c2:=Dx base e;let c3:=zh base e;let c4:=mf base e;let c5:=F7 base e;let c6:=rq base e;let c7:=Oi base e;let c8:=zN base e;let c9:=z_ base e;let c10:=Fv base e;let B:=Bt e
 show fk (by ac_rfl) aH (λv nd cdv A outer s H E hr=>(aF (kL (nY (aH.v.g 1) B.fL (ai a7 (ai (bL iV a7 (dn fZ (ai (kq (aH.v.nm 0) (kv a7) (kv a7)) aA) B.f6 rfl eX (aH.v.d 0) (aH.v.g 0))) aA))) (gI aH.sc.nd) (aF (b_ aH.sc.nd (aH.v.l 2) (bD c1.1 c1.2 (hr.mono (by decide)) (ai (aH.v.nm 0) (ai (aH.v.nm 1) aA)) (aH.v.d 2) (aH.v.g 2)))
  (aF (b_ aH.sc.nd (aH.v.l 3) (bD c2.1 c2.2 (hr.mono (by decide)) (ai (aH.v.nm 2) aA) (aH.v.d 3) (aH.v.g 3)))
  (aF (gN (nC (nG (eW FI (dm _) (bD c3.1 c3.2 (hr.mono (by decide)) (ai (aH.v.nm 3) aA) (aH.v.d 4) (aH.v.g 4)) F8) (mE (eW vC (dm _) (dn (Pw rfl) (ai (jQ (Nc:=["_law_n"]) (cx.look (bf tP) ["_law_script","_law_k","_law_left_here","_law_steps","_law_great","_law_turn_here","_law_back","_law_others","_law_told","_law_brought","_law_mixed"] (by decide+kernel)) (jV (dn (Qw rfl) (ai (aH.v.nm 3) (ai (oS aA) aA)) B.Gk rfl Cm (aH.v.d 5) (aH.v.g 5))) (λ_ _ _ _=>(gI (show(["_law_n"]:List Str).Nodup by decide+kernel))) (λ_ _ _ _=>fy) (λ_ _ _ _=>(dn Aq (ai g7 aA) B.Ax rfl wy (by decide+kernel) rfl)) fb) aA) B.AH rfl wx (aH.v.d 6) (aH.v.g 6)) a7)))) (bx uT) gu)
  (aF (b_ aH.sc.nd (aH.v.l 4) (Aj vC (dm _) (dn fZ (ai (aH.v.nm 3) aA) B.f6 rfl eX (aH.v.d 0) (aH.v.g 0)) a7))
  (aF (gN (nC (JF (iw (aH.v.nm 4)) (EN (eW vC (dm _) (aH.v.nm 1) a7)))) (bx uT) gu)
  (aF (Cc (bD c5.1 c5.2 (hr.mono (by decide)) (ai (aH.v.nm 2) (ai (dn fZ (ai (aH.v.nm 3) aA) B.f6 rfl eX (aH.v.d 0) (aH.v.g 0)) (ai (bL iV a7 (bD c4.1 c4.2 (hr.mono (by decide)) (ai (aH.v.nm 2) (ai (bz (qB (ai a7 (ai a7 aA))) (i6 Ag (ai (aH.v.nm 4) aA) B.t7 rfl qj (aH.v.d 7) (aH.v.g 7))) aA)) (aH.v.d 8) (aH.v.g 8))) (ai (bz (qB (ai a7 (ai a7 aA))) (i6 Ag (ai (aH.v.nm 4) aA) B.t7 rfl qj (aH.v.d 7) (aH.v.g 7))) aA)))) (aH.v.d 9) (aH.v.g 9)) (wZ rfl aH.sc.nd))
  (aF (b_ aH.sc.nd (aH.v.l 7) (bD c6.1 c6.2 (hr.mono (by decide)) (ai (aH.v.nm 5) (ai (aH.v.nm 3) aA)) (aH.v.d 10) (aH.v.g 10)))
  (aF (b_ aH.sc.nd (aH.v.l 8) (bD c7.1 c7.2 (hr.mono (by decide)) (ai (aH.v.nm 7) aA) (aH.v.d 11) (aH.v.g 11)))
  (aF (gN (nC (nG (kU (iw (bD c8.1 c8.2 (hr.mono (by decide)) (ai (aH.v.nm 7) (ai (aH.v.nm 8) aA)) (aH.v.d 12) (aH.v.g 12)))) (mE (kU (iw (bD c9.1 c9.2 (hr.mono (by decide)) (ai (aH.v.nm 7) (ai (aH.v.nm 8) aA)) (aH.v.d 13) (aH.v.g 13))))))) (bx (dY m_)) gu)
  (aF (b_ aH.sc.nd (aH.v.l 9) (oS (ai (bz (aH.v.nm 8) a7) (ai (bD c6.1 c6.2 (hr.mono (by decide)) (ai (bz (aH.v.nm 8) a7) (ai (aH.v.nm 5) aA)) (aH.v.d 10) (aH.v.g 10)) (ai (bD c6.1 c6.2 (hr.mono (by decide)) (ai (aH.v.nm 6) (ai (bz (aH.v.nm 8) a7) aA)) (aH.v.d 10) (aH.v.g 10)) aA)))))
  (aF (gN (nC (nG (kU (iw (bD c8.1 c8.2 (hr.mono (by decide)) (ai (aH.v.nm 3) (ai (aH.v.nm 9) aA)) (aH.v.d 12) (aH.v.g 12)))) (mE (kU (iw (bD c9.1 c9.2 (hr.mono (by decide)) (ai (aH.v.nm 3) (ai (aH.v.nm 9) aA)) (aH.v.d 13) (aH.v.g 13))))))) (bx (dY m_)) gu)
  (aF (b_ aH.sc.nd (aH.v.l 10) (oS (ai (bz (aH.v.nm 8) a7) (ai (bz (aH.v.nm 9) a7) (ai (bz (aH.v.nm 8) a7) aA)))))
  (aF (gN (eW (AB hr) (dm _) (bD c9.1 c9.2 (hr.mono (by decide)) (ai (aH.v.nm 7) (ai (aH.v.nm 10) aA)) (aH.v.d 13) (aH.v.g 13)) (bD c8.1 c8.2 (hr.mono (by decide)) (ai (aH.v.nm 7) (ai (aH.v.nm 10) aA)) (aH.v.d 12) (aH.v.g 12))) (bx (dY m_)) gu)
  (bx (gN (nC (nG (eW (AB hr) (dm _) (bz (bD c10.1 c10.2 (hr.mono (by decide)) (ai (aH.v.nm 7) aA) (aH.v.d 14) (aH.v.g 14)) a7) (bz (bD c10.1 c10.2 (hr.mono (by decide)) (ai (aH.v.nm 3) aA) (aH.v.d 14) (aH.v.g 14)) a7)) (mE (eW vG (dm _) (bz (bz (bD c3.1 c3.2 (hr.mono (by decide)) (ai (aH.v.nm 7) aA) (aH.v.d 4) (aH.v.g 4)) a7) (iW a7)) (bz (bz (bD c3.1 c3.2 (hr.mono (by decide)) (ai (aH.v.nm 3) aA) (aH.v.d 4) (aH.v.g 4)) a7) (iW a7)))))) (bx (dY m_)) gu))))))))))))))))
  (bx (dY m_)))) QG
end
def dL:DefRec:=match tP with
 | .FunctionDef n a b _ _ _ sc _ _ pos=>⟨n,a,b,sc,pos⟩
 |_=>⟨"",L2.km (.Pass ⟨0,0,0,0⟩),[],L2.bf (.Pass ⟨0,0,0,0⟩),⟨0,0,0,0⟩⟩
def Ko:PySem.Challenge.rw_latticeworks_k38_whole_turned_steps.wellSaid=true:=by decide+kernel
end Row
open PySem PySem.W PyProof.Rows
set_option maxRecDepth 100000 in
set_option maxHeartbeats 0 in
theorem PySem.Challenge.cw_latticeworks_k38_whole_turned_steps_holds : PySem.Challenge.rw_latticeworks_k38_whole_turned_steps.Holds := by
 show PySem.W.holds_law Row.Ko λKo=>?_;show PySem.W.holds_open (r:=PySem.Challenge.rw_latticeworks_k38_whole_turned_steps.row) (q:=PySem.W.view Row.PW [1,2,4,5,6,7,9,10,11,12,13,15,16,17,18,19,20,21,22,23,24,25,26,27,29,30,31,32,33,34,36,37,38,39,40,42,43,44,45,46,47,49,50,51,52,53,54,55,56,57,58,59,60,61,62,63]) (loose:=[]) (Xt:=λ_=>true) (XP:=λ_ _=>True) (YP:=(PySem.W.kmHook Row.KX Row.KA (λ_=>rfl) [263]).says) (d:=Row.dL) (kwd:=[]) Row.left ((PySem.W.kmHook Row.KX Row.KA (λ_=>rfl) [263]).of) ((PySem.W.kmHook Row.KX Row.KA (λ_=>rfl) [263]).keeps) (λ_ _=>trivial) (λ_ _ _ _ _=>trivial) (by kernel_rfl) (by kernel_rfl) (by kernel_rfl) (λs _=>PySem.W.recFacts_of (R:=[]) rfl) (by kernel_rfl) Ko (by decide+kernel) ⟨rfl,rfl,rfl,rfl,rfl,by decide+kernel⟩ ?hw ?hc;case hw=>w_witness2
 show L2.Sw (n:=63) (k:=9) (x:="_law_script") (ts:=[(265,263)]) (K:=Row.KX) (sp:=λw=>L3.Iq (Row.KX w.params) [(265,263)]) rfl (by decide) (by kernel_rfl) ⟨rfl,by decide,by decide⟩ (by kernel_rfl) rfl (λw h Y=>⟨PySem.W.km_in_of Y,⟨(λq hq=>by rcases Wy.mp hq with rfl|hq;kernel_rfl;cases hq),(λq hq=>by rcases Wy.mp hq with rfl|hq;kernel_rfl;cases hq),λq hq=>PySem.W.km_tabs_of Y _ (aad (f:=Prod.snd) hq)⟩⟩) ?F λ_ _ a ns hl hE=>⟨a,ns,rfl,hE,hl,λ_=>rfl⟩
 intro w mg fa h X G hmg;let e2:=hmg.symm.trans (abg (v:= .ref 474) X G (by kernel_rfl));cases e2;show⟨Hd.fd Row.tP "law" "law" Row.fY 473,λs v=> .of_eq rfl,λbase _ _=>(Row.SF base ⟨X,G⟩).2.imp λvs H Q E h=>L3.Hi (tl:=[(263,⟨141,32,141,66⟩,"Bench.live_rows.<locals>.<lambda>")]) (by kernel_rfl) rfl (by decide) h⟩
